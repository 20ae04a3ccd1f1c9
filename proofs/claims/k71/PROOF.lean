import PyProof.Rows.All
import Wide.All
import OpenK.AllK
import Wide.FinOn
import HandS.Conv
import HandS.ExcField
import HandS.ExcInit
import HandS.ExcIs
import HandS.ExcOwn
import HandS.Flow
import HandS.ForMost
import HandS.HotCalls
import HandS.IsInst
import HandS.List
import HandS.More
import HandS.StrMore
import HandS.Style
import HandS.Text
import HandS.TupMul
import HandS.Walk
import HandS.Wide
import HandS.WideBits
import HandS.WordsExc
import HandS.Zip
import KE.BitLaws
import KE.GoesEnum
import KE.GoesMore
import KE.KExcHand
import KE.KExcIs
import KE.KExcSuper
import KE.KIsAll
import PyProof.WalkInts
import PyProof.WalksMore
import PySem.Challenge.RW_ringhue_k71_hands_refuse
set_option Elab.async false
set_option linter.all false
set_option maxRecDepth 100000
set_option maxHeartbeats 2000000
namespace Rg
open PySem PySem.Spec PyProof.Rows L2

/-! ### steps of a reading, from the left -/
section
variable {σ : L2.St} {H : Hp} {Q : VK} {ta tb te to ti : TE} {t u : TT} {tr ts : TA} {r : R2} {v x y : V} {i j : Int} {K : PySem.W.Frag} {nx bk ct : L2.St → Hp → Prop} {rt : VK}
theorem kVar {i : Nat} (h : σ[i]? = some (some v)) (q : Q v H) : tVar i σ H Q := ⟨v, h, q⟩
theorem kC (q : Q v H) : tC v σ H Q := q
theorem kOp (h : ta σ H fun x H1 => tb σ H1 fun y H2 => r x y H2 Q) : tOp r ta tb σ H Q := h
theorem kUn {r : V → Hp → VK → Prop} (h : ta σ H fun x H1 => r x H1 Q) : tUn r ta σ H Q := h
theorem kI0 {g : Int → Int → V} (q : Q (g i j) H) : rI0 g (.int i) (.int j) H Q := ⟨i, j, rfl, rfl, q⟩
theorem kI {C : Int → Int → Prop} {g : Int → Int → V} (c : C i j) (q : Q (g i j) H) : rI C g (.int i) (.int j) H Q := ⟨i, j, rfl, rfl, c, q⟩
theorem kU {g : Int → V} (q : Q (g i) H) : rU g (.int i) H Q := ⟨i, rfl, q⟩
theorem kEq (s : scal x y = true) (q : Q (.bl (decide (x = y))) H) : rEq x y H Q := ⟨s, q⟩
theorem kNe (s : scal x y = true) (q : Q (.bl (!decide (x = y))) H) : rNe x y H Q := ⟨s, q⟩
theorem kTest {Q : Bool → Hp → Prop} (h : te σ H fun x H1 => ∃ k, x = .bl k ∧ Q k H1) : tTest te σ H Q := h
theorem kTB {Q : Bool → Hp → Prop} (h : te σ H fun x H1 => ∃ k, x = .bl k ∧ Q k H1) : tB te σ H Q := h
theorem kBl {b : Bool} {P : Bool → Prop} (q : P b) : ∃ k, V.bl b = .bl k ∧ P k := ⟨b, rfl, q⟩
theorem kAnd {Q : Bool → Hp → Prop} (h : t σ H fun c H1 => if c = true then u σ H1 Q else Q false H1) : tAnd t u σ H Q := h
theorem kOr {Q : Bool → Hp → Prop} (h : t σ H fun c H1 => if c = true then Q true H1 else u σ H1 Q) : tOr t u σ H Q := h
theorem kNot {Q : Bool → Hp → Prop} (h : t σ H fun c H1 => Q (!c) H1) : tNot t σ H Q := h
theorem kAndV (h : ta σ H fun x H1 => ∃ c, x = .bl c ∧ if c = true then tb σ H1 Q else Q (.bl false) H1) : tAndV ta tb σ H Q := h
theorem kOrV (h : ta σ H fun x H1 => ∃ c, x = .bl c ∧ if c = true then Q (.bl true) H1 else tb σ H1 Q) : tOrV ta tb σ H Q := h
theorem kNotV (h : ta σ H fun x H1 => ∃ c, x = .bl c ∧ Q (.bl (!c)) H1) : tNotV ta σ H Q := h
theorem kIf (h : t σ H fun c H1 => if c = true then ta σ H1 Q else tb σ H1 Q) : tIf t ta tb σ H Q := h
theorem kChain {r r' : R2} {tc : TE} (h : ta σ H fun x H1 => tb σ H1 fun y H2 => r x y H2 fun z H3 => ∃ k, z = .bl k ∧ (if k = true then tc σ H3 fun w' H4 => r' y w' H4 Q else Q (.bl false) H3)) : tChain r r' ta tb tc σ H Q := h
theorem kNil {Q : List V → Hp → Prop} (q : Q [] H) : tNil σ H Q := q
theorem kCons {Q : List V → Hp → Prop} (h : ta σ H fun x H1 => tr σ H1 fun xs H2 => Q (x :: xs) H2) : tCons ta tr σ H Q := h
theorem kCB {r : List V → Hp → VK → Prop} (h : tr σ H fun vs H1 => r vs H1 Q) : tCB r tr σ H Q := h
theorem kCall {sp : Sp} {E : XK} (h : tr σ H fun vs H1 => sp vs H1 Q E) : tCall sp [] E tr σ H Q := by
  unfold tCall
  simpa only [List.append_nil] using h
theorem kBM {T : String} {r : V → List V → Hp → VK → Prop} (h : to σ H fun x H1 => tyV K T x H1 ∧ tr σ H1 fun xs H2 => r x xs H2 Q) : tBM K T r to tr σ H Q := h
theorem kBM0 {T : String} {r : V → List V → Hp → VK → Prop} (h : to σ H fun x H1 => tyV K T x H1 ∧ r x [] H1 Q) : tBM0 K T r to σ H Q := h
theorem kNoPart {Q : Option Int → Hp → Prop} (q : Q none H) : tNoPart σ H Q := q
theorem kPart {Q : Option Int → Hp → Prop} (h : te σ H fun x H1 => ∃ i, x = .int i ∧ Q (some i) H1) : tPart te σ H Q := h
theorem kInt {i : Int} {P : Int → Prop} (q : P i) : ∃ k, V.int i = .int k ∧ P k := ⟨i, rfl, q⟩
theorem kSl {r : V → Option Int → Option Int → Hp → VK → Prop} {tl th : TO} (h : te σ H fun x H1 => tl σ H1 fun l H2 => th σ H2 fun u H3 => r x l u H3 Q) : tSl r te tl th σ H Q := h
theorem kSeq {a b : TS} (h : a (Ends.mk (b (Ends.mk nx rt bk ct)) rt bk ct) σ H) : tSeq a b (Ends.mk nx rt bk ct) σ H := h
theorem kSeqA {e : TE} {g : TG} {b : TS} (h : tAsg e g (Ends.mk (b (Ends.mk nx rt bk ct)) rt bk ct) σ H) : tSeq (tAsg e g) b (Ends.mk nx rt bk ct) σ H := h
theorem kSeqD {e : TE} {b : TS} (h : tDrop e (Ends.mk (b (Ends.mk nx rt bk ct)) rt bk ct) σ H) : tSeq (tDrop e) b (Ends.mk nx rt bk ct) σ H := h
theorem kAsg {i : Nat} (h : te σ H fun x H1 => nx (σ.set i (some x)) H1) : tAsg te (gName i) (Ends.mk nx rt bk ct) σ H := h
theorem kAsgSub {s : TSet} (h : te σ H fun x H1 => to σ H1 fun o H2 => ti σ H2 fun i H3 => s o i x H3 fun H4 => nx σ H4) : tAsg te (gSub to ti s) (Ends.mk nx rt bk ct) σ H := h
theorem kDrop (h : te σ H fun _ H1 => nx σ H1) : tDrop te (Ends.mk nx rt bk ct) σ H := h
theorem kRet (h : te σ H rt) : tRet te (Ends.mk nx rt bk ct) σ H := h
theorem kIfS {c : TT} {a b : TS} {D : Ends} (h : c σ H fun k H1 => if k = true then a D σ H1 else b D σ H1) : tIfS c a b D σ H := h
theorem kNext (h : nx σ H) : tNext (Ends.mk nx rt bk ct) σ H := h
theorem kBrk (h : bk σ H) : tBreak (Ends.mk nx rt bk ct) σ H := h
theorem kCont (h : ct σ H) : tCont (Ends.mk nx rt bk ct) σ H := h
theorem kG {i : Nat} {Q : L2.St → Hp → Prop} (q : Q (σ.set i (some v)) H) : gName i v σ H Q := q
theorem kSetL {p : Addr} {xs : List V} {k : Int} {j : Nat} {R : Hp → Prop} (h : H p = some (.lst xs)) (e : ixN xs.length k = some j) (q : R (upd H p (.lst (xs.set j v)))) : rSetL (.ref p) (.int k) v H R := ⟨p, xs, k, j, rfl, rfl, h, e, q⟩
theorem kIxL {p : Addr} {xs : List V} {k : Int} (h : SqL K H p xs) (a : atI xs k = some v) (q : Q v H) : rIxL K (.ref p) (.int k) H Q := ⟨p, xs, k, v, rfl, rfl, h, a, q⟩
theorem kIxT {p : Addr} {xs : List V} {k : Int} (h : SqT K H p xs) (a : atI xs k = some v) (q : Q v H) : rIxT K (.ref p) (.int k) H Q := ⟨p, xs, k, v, rfl, rfl, h, a, q⟩
theorem kIxS {z : Str} {k : Int} {c : Nat} (h : z.length ≤ sizeLine) (a : atI z.cps.toList k = some c) (q : Q (.str ⟨#[c]⟩) H) : rIxS (.str z) (.int k) H Q := ⟨z, k, c, rfl, rfl, h, a, q⟩
theorem kIxSeqL {p : Addr} {xs : List V} {k : Int} (h : SqL K H p xs) (a : atI xs k = some v) (q : Q v H) : rIx K (.ref p) (.int k) H Q := .inl ⟨p, xs, k, v, rfl, rfl, h, a, q⟩
theorem kSlL {p : Addr} {xs : List V} {lo hi : Option Int} (h : SqL K H p xs) (q : ∀ l, H l = none → Q (.ref l) (upd H l (.lst (cutV xs lo hi)))) : rSlL K (.ref p) lo hi H Q := ⟨p, xs, rfl, h, q⟩
theorem kAppend {p : Addr} {xs : List V} (h : H p = some (.lst xs)) (l : xs.length < sizeLine) (q : Q .non (upd H p (.lst (xs ++ [v])))) : rAppend (.ref p) [v] H Q := ⟨p, xs, v, rfl, rfl, h, l, q⟩
theorem kTyL {p : Addr} {xs : List V} {P : Prop} (h : H p = some (.lst xs)) (q : P) : tyV K "list" (.ref p) H ∧ P := ⟨.inl ⟨rfl, xs, .inl (.inl h)⟩, q⟩
end

/-! ### calls with a name -/
def rLen2 (K : PySem.W.Frag) : List V → Hp → VK → Prop := fun xs H Q => ∃ p ys, xs = [.ref p] ∧ (SqL K H p ys ∨ SqT K H p ys) ∧ Q (.int ys.length) H
def rMax2 : List V → Hp → VK → Prop := fun xs H Q => ∃ i j, xs = [.int i, .int j] ∧ Q (.int (if j > i then j else i)) H
def rMin2 : List V → Hp → VK → Prop := fun xs H Q => ∃ i j, xs = [.int i, .int j] ∧ Q (.int (if j < i then j else i)) H
def rInt2 : List V → Hp → VK → Prop := fun xs H Q => (∃ i, xs = [.int i] ∧ Q (.int i) H) ∨ ∃ k, xs = [.bl k] ∧ Q (.int (if k then 1 else 0)) H
def rList2 (K : PySem.W.Frag) : List V → Hp → VK → Prop := fun xs H Q => ∃ p ys, xs = [.ref p] ∧ (SqL K H p ys ∨ SqT K H p ys) ∧ ∀ l, H l = none → Q (.ref l) (upd H l (.lst ys))
def rTuple2 (K : PySem.W.Frag) : List V → Hp → VK → Prop := fun xs H Q => ∃ p ys, xs = [.ref p] ∧ ((SqL K H p ys ∧ ∀ l, H l = none → Q (.ref l) (upd H l (.tup ys))) ∨ (SqT K H p ys ∧ Q (.ref p) H))
section
variable {X : Cx}
theorem c_len : CallR X (.builtin "len") (rLen2 X.K) := call_len_seq
theorem c_max (hc : X.calm = true) : CallR X (.builtin "max") rMax2 := call_max2 hc
theorem c_min (hc : X.calm = true) : CallR X (.builtin "min") rMin2 := call_min2 hc
theorem c_int : CallR X (.type "int") rInt2 := call_int1
theorem c_list : CallR X (.type "list") (rList2 X.K) := call_list_of
theorem c_tuple : CallR X (.type "tuple") (rTuple2 X.K) := call_tuple_of
end
section
variable {H : Hp} {Q : VK} {K : PySem.W.Frag} {p : Addr} {ys : List V} {i j : Int}
theorem kLenL (h : SqL K H p ys) (q : Q (.int ys.length) H) : rLen2 K [.ref p] H Q := ⟨p, ys, rfl, .inl h, q⟩
theorem kLenT (h : SqT K H p ys) (q : Q (.int ys.length) H) : rLen2 K [.ref p] H Q := ⟨p, ys, rfl, .inr h, q⟩
theorem kMax (q : Q (.int (if j > i then j else i)) H) : rMax2 [.int i, .int j] H Q := ⟨i, j, rfl, q⟩
theorem kMin (q : Q (.int (if j < i then j else i)) H) : rMin2 [.int i, .int j] H Q := ⟨i, j, rfl, q⟩
theorem kIntI (q : Q (.int i) H) : rInt2 [.int i] H Q := .inl ⟨i, rfl, q⟩
theorem kIntB {k : Bool} (q : Q (.int (if k then 1 else 0)) H) : rInt2 [.bl k] H Q := .inr ⟨k, rfl, q⟩
theorem kListL (h : SqL K H p ys) (q : ∀ l, H l = none → Q (.ref l) (upd H l (.lst ys))) : rList2 K [.ref p] H Q := ⟨p, ys, rfl, .inl h, q⟩
theorem kTupleL (h : SqL K H p ys) (q : ∀ l, H l = none → Q (.ref l) (upd H l (.tup ys))) : rTuple2 K [.ref p] H Q := ⟨p, ys, rfl, .inl ⟨h, q⟩⟩
theorem kTupleT (h : SqT K H p ys) (q : Q (.ref p) H) : rTuple2 K [.ref p] H Q := ⟨p, ys, rfl, .inr ⟨h, q⟩⟩
theorem kIsi {x c : V} {t u : Value} {b : Bool} (k : ClsV c u) (ty : TyX K H x t) (e : PySem.W.kitOne K t u = some b) (q : Q (.bl b) H) : rIsi K [x, c] H Q := ⟨x, c, t, u, b, rfl, k, ty, e, q⟩
end

/-! ### what the top has left: a def of the text, the built-in names -/
structure Df (K : PySem.W.Frag) (mg : Str → Option Value) (x : Str) (st : Stmt) (ps : List Str) (f : Addr) (fd : FuncData) : Prop where
  F : Fun K x x st f fd
  g : mg x = some (.ref f)
  b : Binds K fd ps []
structure Bl (mg : Str → Option Value) : Prop where
  len : mg "len" = none
  range : mg "range" = none
  max : mg "max" = none
  min : mg "min" = none
  int : mg "int" = none
  bool : mg "bool" = none
  str : mg "str" = none
  list : mg "list" = none
  tuple : mg "tuple" = none
  isinstance : mg "isinstance" = none
  repr : mg "repr" = none
  all : mg "all" = none
  any : mg "any" = none
  enumerate : mg "enumerate" = none
  sorted : mg "sorted" = none
  ValueError : mg "ValueError" = none
  zip : mg "zip" = none
  sum : mg "sum" = none
  set : mg "set" = none
  reversed : mg "reversed" = none
  divmod : mg "divmod" = none
  dict : mg "dict" = none
theorem kitII : kitB "int" "int" = some true := by decide +kernel
theorem kitIB : kitB "int" "bool" = some false := by decide +kernel
theorem kitBI : kitB "bool" "int" = some true := by decide +kernel
theorem kitBB : kitB "bool" "bool" = some true := by decide +kernel
theorem kitLL : kitB "list" "list" = some true := by decide +kernel
theorem kitTT : kitB "tuple" "tuple" = some true := by decide +kernel
section
variable {H : Hp} {Q : VK} {K : PySem.W.Frag} {z : Int} {b : Bool} {p : Addr} {xs : List V}
theorem isiII (q : Q (.bl true) H) : rIsi K [.int z, .ty "int"] H Q := kIsi (.ty _) (.base (.int z)) (kit_ty kitII) q
theorem isiIB (q : Q (.bl false) H) : rIsi K [.int z, .ty "bool"] H Q := kIsi (.ty _) (.base (.int z)) (kit_ty kitIB) q
theorem isiBI (q : Q (.bl true) H) : rIsi K [.bl b, .ty "int"] H Q := kIsi (.ty _) (.base (.bl b)) (kit_ty kitBI) q
theorem isiBB (q : Q (.bl true) H) : rIsi K [.bl b, .ty "bool"] H Q := kIsi (.ty _) (.base (.bl b)) (kit_ty kitBB) q
theorem isiLL (h : H p = some (.lst xs)) (q : Q (.bl true) H) : rIsi K [.ref p, .ty "list"] H Q := kIsi (.ty _) (.base (.lst h)) (kit_ty kitLL) q
theorem isiTT (h : H p = some (.tup xs)) (q : Q (.bl true) H) : rIsi K [.ref p, .ty "tuple"] H Q := kIsi (.ty _) (.base (.tup h)) (kit_ty kitTT) q
end
/-! ### tests -/
theorem iteD {P A B : Prop} {d : Decidable P} (h1 : P → A) (h2 : ¬P → B) : if decide P = true then A else B := by
  by_cases h : P
  · rw [decide_eq_true h]
    exact h1 h
  · rw [decide_eq_false h]
    exact h2 h
theorem iteN {P A B : Prop} {d : Decidable P} (h1 : ¬P → A) (h2 : P → B) : if (!decide P) = true then A else B := by
  by_cases h : P
  · rw [decide_eq_true h]
    exact h2 h
  · rw [decide_eq_false h]
    exact h1 h
theorem iteB {b : Bool} {A B : Prop} (h1 : b = true → A) (h2 : b = false → B) : if b = true then A else B := by
  cases b with
  | true => exact h1 rfl
  | false => exact h2 rfl
theorem iteI {i j : Int} {A B : Prop} (h1 : i = j → A) (h2 : i ≠ j → B) : if decide (V.int i = V.int j) = true then A else B :=
  iteD (fun e => h1 (V.int.inj e)) fun e => h2 fun z => e (congrArg V.int z)
theorem iteIN {i j : Int} {A B : Prop} (h1 : i ≠ j → A) (h2 : i = j → B) : if (!decide (V.int i = V.int j)) = true then A else B :=
  iteN (fun e => h1 fun z => e (congrArg V.int z)) fun e => h2 (V.int.inj e)

/-! ### what is known of the heap: a ledger; the dice and a ledger -/
abbrev Led := List (Addr × HO)
structure Lg (L : Led) (H : Hp) : Prop where
  led : ∀ q ∈ L, H q.1 = some q.2
  nd : (L.map (·.1)).Nodup
/-- d the dice (it may change), n how often it was thrown at most, L what stands besides -/
def Kn (d : Addr) (n : Nat) (L : Led) (H : Hp) : Prop := ∃ (s : Addr) (a c r : Int) (ns : List Int), Lg ((d, .lst [.ref s, .int a, .int c, .int r]) :: (s, .lst (ns.map V.int)) :: L) H ∧ 0 ≤ a ∧ a ≤ n
section
variable {d : Addr} {n m : Nat} {L L' : Led} {H : Hp} {a : Addr} {o u : HO}
theorem Lg.at (k : Lg L H) (i : Nat) (h : L[i]? = some (a, o)) : H a = some o := k.led (a, o) (List.mem_of_getElem? h)
theorem Lg.perm (k : Lg L H) (h : L.Perm L') : Lg L' H := ⟨fun q hq => k.led q (h.mem_iff.mpr hq), (h.map _).nodup_iff.mp k.nd⟩
theorem Lg.sub (k : Lg L H) (h : List.Sublist L' L) : Lg L' H := ⟨fun q hq => k.led q (h.subset hq), k.nd.sublist (h.map _)⟩
/-- a new object -/
theorem Lg.new (k : Lg L H) (h : H a = none) : Lg ((a, o) :: L) (upd H a o) := by
  have hl : ∀ q ∈ L, q.1 ≠ a := fun q hq => ne_of_none (k.led q hq) h
  refine ⟨fun q hq => ?_, ?_⟩
  · rcases List.mem_cons.mp hq with rfl | hq
    · exact upd_same
    · rw [upd_ne (hl q hq)]
      exact k.led q hq
  · rw [List.map_cons, List.nodup_cons]
    refine ⟨fun z => ?_, k.nd⟩
    obtain ⟨q, hq, e⟩ := List.mem_map.mp z
    exact hl q hq e
/-- one of them changes -/
theorem Lg.put (k : Lg L H) (i : Nat) (h : L[i]? = some (a, o)) : Lg (L.set i (a, u)) (upd H a u) := by
  have hi : i < L.length := (List.getElem?_eq_some_iff.mp h).1
  have he : L[i] = (a, o) := (List.getElem?_eq_some_iff.mp h).2
  have hmap : (L.set i (a, u)).map (·.1) = L.map (·.1) := by
    apply List.ext_getElem?
    intro j
    rw [List.getElem?_map, List.getElem?_map, List.getElem?_set]
    by_cases e : i = j
    · subst e
      rw [if_pos rfl, if_pos hi, List.getElem?_eq_getElem hi, he]
      rfl
    · rw [if_neg e]
  refine ⟨fun q hq => ?_, by rw [hmap]; exact k.nd⟩
  obtain ⟨j, hj⟩ := List.getElem?_of_mem hq
  rw [List.getElem?_set] at hj
  by_cases e : i = j
  · rw [if_pos e, if_pos hi] at hj
    have hj' : (a, u) = q := Option.some.inj hj
    subst hj'
    exact upd_same
  · rw [if_neg e] at hj
    have hne : q.1 ≠ a := fun z => by
      have h1 : (L.map (·.1))[i]? = some a := by rw [List.getElem?_map, h]; rfl
      have h2 : (L.map (·.1))[j]? = some a := by rw [List.getElem?_map, hj]; exact congrArg some z
      exact e (nd_ix k.nd h1 h2)
    rw [upd_ne hne]
    exact k.led q (List.mem_of_getElem? hj)
theorem Kn.at (k : Kn d n L H) (i : Nat) (h : L[i]? = some (a, o)) : H a = some o := by
  obtain ⟨s, b, c, r, ns, l, _⟩ := k
  exact l.at (i + 2) h
theorem Kn.more (k : Kn d n L H) (h : n ≤ m) : Kn d m L H := by
  obtain ⟨s, b, c, r, ns, l, e1, e2⟩ := k
  exact ⟨s, b, c, r, ns, l, e1, by omega⟩
theorem Kn.new (k : Kn d n L H) (h : H a = none) : Kn d n ((a, o) :: L) (upd H a o) := by
  obtain ⟨s, b, c, r, ns, l, e1, e2⟩ := k
  refine ⟨s, b, c, r, ns, (l.new (o := o) h).perm ?_, e1, e2⟩
  exact (List.Perm.swap _ _ _).trans (List.Perm.cons _ (List.Perm.swap _ _ _))
theorem Kn.put (k : Kn d n L H) (i : Nat) (h : L[i]? = some (a, o)) : Kn d n (L.set i (a, u)) (upd H a u) := by
  obtain ⟨s, b, c, r, ns, l, e1, e2⟩ := k
  exact ⟨s, b, c, r, ns, l.put (i + 2) h, e1, e2⟩
theorem Kn.sub (k : Kn d n L H) (h : List.Sublist L' L) : Kn d n L' H := by
  obtain ⟨s, b, c, r, ns, l, e1, e2⟩ := k
  exact ⟨s, b, c, r, ns, l.sub ((h.cons₂ _).cons₂ _), e1, e2⟩
theorem Kn.tail {q : Addr × HO} (k : Kn d n (q :: L) H) : Kn d n L H := k.sub (List.sublist_cons_self _ _)
theorem Kn.drop (k : Kn d n L H) (i : Nat) : Kn d n (L.drop i) H := k.sub (List.drop_sublist _ _)
theorem at_of (i : Nat) (k : Kn d n L H) (h : L[i]? = some (a, o)) : H a = some o := k.at i h
theorem sqL_of {K : PySem.W.Frag} {xs : List V} (i : Nat) (k : Kn d n L H) (h : L[i]? = some (a, .lst xs)) : SqL K H a xs := .inl (.inl (k.at i h))
theorem sqT_of {K : PySem.W.Frag} {xs : List V} (i : Nat) (k : Kn d n L H) (h : L[i]? = some (a, .tup xs)) : SqT K H a xs := .inl (.inl (k.at i h))
theorem lat_of (i : Nat) (k : Lg L H) (h : L[i]? = some (a, o)) : H a = some o := k.at i h
theorem lsqL_of {K : PySem.W.Frag} {xs : List V} (i : Nat) (k : Lg L H) (h : L[i]? = some (a, .lst xs)) : SqL K H a xs := .inl (.inl (k.at i h))
theorem lsqT_of {K : PySem.W.Frag} {xs : List V} (i : Nat) (k : Lg L H) (h : L[i]? = some (a, .tup xs)) : SqT K H a xs := .inl (.inl (k.at i h))
end
/-! ### items of short lists; the dice's cells -/
section
variable {a b c e v : V} {l : List V} {p : Addr} {H : Hp} {R : Hp → Prop} {L : Led}
theorem at0 : atI (a :: l) 0 = some a := atI_nat (j := 0) rfl
theorem at1 : atI (a :: b :: l) 1 = some b := atI_nat (j := 1) rfl
theorem at2 : atI (a :: b :: c :: l) 2 = some c := atI_nat (j := 2) rfl
theorem at3 : atI (a :: b :: c :: e :: l) 3 = some e := atI_nat (j := 3) rfl
theorem kD1 (k : Lg ((p, .lst [a, b, c, e]) :: L) H) (q : ∀ H', Lg ((p, .lst [a, v, c, e]) :: L) H' → R H') : rSetL (.ref p) (.int 1) v H R := ⟨p, _, 1, 1, rfl, rfl, k.at 0 rfl, rfl, q _ (k.put 0 rfl)⟩
theorem kD2 (k : Lg ((p, .lst [a, b, c, e]) :: L) H) (q : ∀ H', Lg ((p, .lst [a, b, v, e]) :: L) H' → R H') : rSetL (.ref p) (.int 2) v H R := ⟨p, _, 2, 2, rfl, rfl, k.at 0 rfl, rfl, q _ (k.put 0 rfl)⟩
theorem kD3 (k : Lg ((p, .lst [a, b, c, e]) :: L) H) (q : ∀ H', Lg ((p, .lst [a, b, c, v]) :: L) H' → R H') : rSetL (.ref p) (.int 3) v H R := ⟨p, _, 3, 3, rfl, rfl, k.at 0 rfl, rfl, q _ (k.put 0 rfl)⟩
theorem lenPos {ns : List Int} (h : ns ≠ []) : (0 : Int) < ((ns.map V.int).length : Int) := by
  have h0 : 0 < ns.length := List.length_pos_iff.mpr h
  rw [List.length_map]
  omega
theorem atMod {ns : List Int} (h : ns ≠ []) (z : Int) : ∃ y, atI (ns.map V.int) (z % ((ns.map V.int).length : Int)) = some (.int y) := by
  rw [List.length_map]
  have h0 : 0 < ns.length := List.length_pos_iff.mpr h
  have h1 : 0 ≤ z % (ns.length : Int) := Int.emod_nonneg z (by omega)
  have h2 : z % (ns.length : Int) < (ns.length : Int) := Int.emod_lt_of_pos z (by omega)
  obtain ⟨j, hj⟩ : ∃ j : Nat, z % (ns.length : Int) = (j : Int) := ⟨(z % (ns.length : Int)).toNat, by omega⟩
  have hl : j < ns.length := by omega
  rw [hj]
  exact ⟨ns[j], atI_nat (by rw [List.getElem?_map, List.getElem?_eq_getElem hl]; rfl)⟩
end
/-- ways that meet behind a statement -/
theorem kJoin {x y : TS} {nx bk ct : L2.St → Hp → Prop} {rt : VK} {σ : L2.St} {H : Hp} (W : L2.St → Hp → Prop) (h2 : ∀ σ' H', W σ' H' → y (Ends.mk nx rt bk ct) σ' H')
    (h1 : ∀ N : L2.St → Hp → Prop, (∀ σ' H', W σ' H' → N σ' H') → x (Ends.mk N rt bk ct) σ H) : tSeq x y (Ends.mk nx rt bk ct) σ H := h1 _ h2
/-! ### with a ledger: new lists and tuples, append -/
def NewL (xs : List V) (Q : VK) (H : Hp) : Prop := xs.length ≤ sizeLine ∧ ∀ p, H p = none → Q (.ref p) (upd H p (.lst xs))
def NewT (xs : List V) (Q : VK) (H : Hp) : Prop := xs.length ≤ sizeLine ∧ ∀ p, H p = none → Q (.ref p) (upd H p (.tup xs))
section
variable {d : Addr} {n : Nat} {L : Led} {H : Hp} {σ : L2.St} {Q : VK} {tr : TA} {p : Addr} {v : V} {xs : List V} {K : PySem.W.Frag}
theorem kLst (h : tr σ H fun ys H1 => NewL ys Q H1) : tLst tr σ H Q := h
theorem kTup (h : tr σ H fun ys H1 => NewT ys Q H1) : tTup tr σ H Q := h
theorem kNewL (z : xs.length ≤ 100000) (k : Kn d n L H) (q : ∀ p H', Kn d n ((p, .lst xs) :: L) H' → Q (.ref p) H') : NewL xs Q H := ⟨Nat.le_trans z (by decide), fun p hp => q p _ (k.new hp)⟩
theorem kNewT (z : xs.length ≤ 100000) (k : Kn d n L H) (q : ∀ p H', Kn d n ((p, .tup xs) :: L) H' → Q (.ref p) H') : NewT xs Q H := ⟨Nat.le_trans z (by decide), fun p hp => q p _ (k.new hp)⟩
theorem kAppK (k : Kn d n L H) (i : Nat) (h : L[i]? = some (p, .lst xs)) (z : xs.length < 100000) (q : ∀ H', Kn d n (L.set i (p, .lst (xs ++ [v]))) H' → Q .non H') : rAppend (.ref p) [v] H Q :=
  ⟨p, xs, v, rfl, rfl, k.at i h, Nat.lt_of_lt_of_le z (by decide), q _ (k.put i h)⟩
theorem kSlLK {lo hi : Option Int} (h : SqL K H p xs) (k : Kn d n L H) (q : ∀ l H', Kn d n ((l, .lst (cutV xs lo hi)) :: L) H' → Q (.ref l) H') : rSlL K (.ref p) lo hi H Q := ⟨p, xs, rfl, h, fun l hl => q l _ (k.new hl)⟩
theorem kListK (h : SqL K H p xs) (k : Kn d n L H) (q : ∀ l H', Kn d n ((l, .lst xs) :: L) H' → Q (.ref l) H') : rList2 K [.ref p] H Q := ⟨p, xs, rfl, .inl h, fun l hl => q l _ (k.new hl)⟩
theorem kTupleK (h : SqL K H p xs) (k : Kn d n L H) (q : ∀ l H', Kn d n ((l, .tup xs) :: L) H' → Q (.ref l) H') : rTuple2 K [.ref p] H Q := ⟨p, xs, rfl, .inl ⟨h, fun l hl => q l _ (k.new hl)⟩⟩
end
theorem atMem {es : List Int} {z : Int} (h0 : 0 ≤ z) (h1 : z < es.length) : ∃ e, atI (es.map V.int) z = some (.int e) ∧ e ∈ es := by
  obtain ⟨j, rfl⟩ : ∃ j : Nat, z = (j : Int) := ⟨z.toNat, by omega⟩
  have hl : j < es.length := by omega
  exact ⟨es[j], atI_nat (by rw [List.getElem?_map, List.getElem?_eq_getElem hl]; rfl), List.getElem_mem hl⟩
theorem atLast (xs : List Int) (x : Int) : atI ((xs ++ [x]).map V.int) (-1) = some (.int x) := by
  rw [List.map_append]
  exact atI_last _ _
theorem szL {n : Nat} (h : n ≤ 100000) : n ≤ sizeLine := Nat.le_trans h (by decide)
theorem log_small {z : Int} (h0 : 0 < z) (h : z < 2 ^ 62) : z.natAbs.log2 < 9000 := Nat.lt_of_lt_of_le (PySem.Flt.log2_lt_of (k := 62) (by decide) (by omega)) (by decide)
theorem szL' {n : Nat} (h : n < 100000) : n < sizeLine := Nat.lt_of_lt_of_le h (by decide)

/-! ### whole numbers in lists compared -/
theorem dpInts {K : PySem.W.Frag} {H : Hp} : ∀ ns : List Int, DpAll K H (ns.map V.int) (ns.map PyData.int)
  | [] => .nil
  | n :: r => .cons (.int n) (dpInts r)
theorem layInts : ∀ ns : List Int, PyData.canLayAll0 (ns.map PyData.int) = true
  | [] => by simp [PyData.canLayAll0]
  | n :: r => by simp [PyData.canLayAll0, PyData.canLay0, layInts r]
theorem depInts : ∀ ns : List Int, PyData.depthAll (ns.map PyData.int) = 0
  | [] => by simp [PyData.depthAll]
  | n :: r => by simp [PyData.depthAll, PyData.depth, depInts r]
theorem shL (ns : List Int) : SeqAt.shaped (.list (ns.map PyData.int)) = true := by
  simp [SeqAt.shaped, PyData.canLay0, layInts, PyData.depth, depInts]
theorem shT (ns : List Int) : SeqAt.shaped (.tuple (ns.map PyData.int)) = true := by
  simp [SeqAt.shaped, PyData.canLay0, layInts, PyData.depth, depInts]
theorem eqvInts : ∀ xs ys : List Int, PyData.eqvAll (xs.map PyData.int) (ys.map PyData.int) = decide (xs = ys)
  | [], [] => by simp [PyData.eqvAll]
  | [], y :: ys => by simp [PyData.eqvAll]
  | x :: xs, [] => by simp [PyData.eqvAll]
  | x :: xs, y :: ys => by
    simp only [List.map_cons, PyData.eqvAll, PyData.eqv, eqvInts xs ys, List.cons.injEq]
    by_cases h : x = y <;> by_cases h2 : xs = ys <;> simp [h, h2]
section
variable {H : Hp} {Q : VK} {K : PySem.W.Frag} {p q : Addr} {xs ys : List Int}
theorem kNeL (h1 : SqL K H p (xs.map V.int)) (h2 : SqL K H q (ys.map V.int)) (k : Q (.bl (!decide (xs = ys))) H) : rNeD K (.ref p) (.ref q) H Q := by
  refine ⟨.list (xs.map PyData.int), .list (ys.map PyData.int), .lst h1 (dpInts xs), .lst h2 (dpInts ys), shL xs, shL ys, ?_⟩
  rw [PyData.eqv, eqvInts]
  exact k
theorem kEqL (h1 : SqL K H p (xs.map V.int)) (h2 : SqL K H q (ys.map V.int)) (k : Q (.bl (decide (xs = ys))) H) : rEqD K (.ref p) (.ref q) H Q := by
  refine ⟨.list (xs.map PyData.int), .list (ys.map PyData.int), .lst h1 (dpInts xs), .lst h2 (dpInts ys), shL xs, shL ys, ?_⟩
  rw [PyData.eqv, eqvInts]
  exact k
theorem kNeT (h1 : SqT K H p (xs.map V.int)) (h2 : SqT K H q (ys.map V.int)) (k : Q (.bl (!decide (xs = ys))) H) : rNeD K (.ref p) (.ref q) H Q := by
  refine ⟨.tuple (xs.map PyData.int), .tuple (ys.map PyData.int), .tup h1 (dpInts xs), .tup h2 (dpInts ys), shT xs, shT ys, ?_⟩
  rw [PyData.eqv, eqvInts]
  exact k
theorem kEqT (h1 : SqT K H p (xs.map V.int)) (h2 : SqT K H q (ys.map V.int)) (k : Q (.bl (decide (xs = ys))) H) : rEqD K (.ref p) (.ref q) H Q := by
  refine ⟨.tuple (xs.map PyData.int), .tuple (ys.map PyData.int), .tup h1 (dpInts xs), .tup h2 (dpInts ys), shT xs, shT ys, ?_⟩
  rw [PyData.eqv, eqvInts]
  exact k
end

theorem Kn.mem {d : Addr} {n : Nat} {L : Led} {H : Hp} {a : Addr} {o : HO} (k : Kn d n L H) (h : (a, o) ∈ L) : H a = some o := by
  obtain ⟨i, hi⟩ := List.getElem?_of_mem h
  exact k.at i hi
theorem Kn.seqL {d : Addr} {n : Nat} {L : Led} {H : Hp} {K : PySem.W.Frag} {a : Addr} {xs : List V} (k : Kn d n L H) (h : (a, .lst xs) ∈ L) : SqL K H a xs := .inl (.inl (k.mem h))
theorem Kn.seqT {d : Addr} {n : Nat} {L : Led} {H : Hp} {K : PySem.W.Frag} {a : Addr} {xs : List V} (k : Kn d n L H) (h : (a, .tup xs) ∈ L) : SqT K H a xs := .inl (.inl (k.mem h))
/-! ### a list comprehension over a list; the word: what is made so far -/
theorem kLcL {d : Addr} {n : Nat} {L : Led} {H : Hp} {K : PySem.W.Frag} {σ : L2.St} {Q : VK} {p : Addr} {xs : List V} {te0 te : TE} {tt : TT} {j : Nat} {vs : List Nat} (k : Kn d n L H) (hp : (p, .lst xs) ∈ L) (src : ∀ R : VK, R (.ref p) H → te0 σ H R)
    (hz : xs.length ≤ 100000) (acc : Nat → List V) (a0 : acc 0 = []) (al : ∀ i, (acc i).length ≤ i) (hw : ∀ x, wipe ((wipe σ vs).set j (some x)) vs = wipe σ vs)
    (turn : ∀ i x H' D, xs[i]? = some x → Kn d n ((D, .lst (acc i)) :: L) H' → ∀ (N1 : VK) (N2 : Hp → Prop), (∀ y H4, Kn d n ((D, .lst (acc i)) :: L) H4 → acc (i + 1) = acc i ++ [y] → N1 y H4) → (∀ H3, Kn d n ((D, .lst (acc i)) :: L) H3 → acc (i + 1) = acc i → N2 H3) →
      tt ((wipe σ vs).set j (some x)) H' fun b H3 => if b = true then te ((wipe σ vs).set j (some x)) H3 N1 else N2 H3)
    (q : ∀ D H', Kn d n ((D, .lst (acc xs.length)) :: L) H' → Q (.ref D) H') : tLc (iList K te0) (gName j) tt te vs σ H Q := by
  refine src _ ⟨p, rfl, ⟨xs, k.seqL hp⟩, fun D hD => lc_list (xs := xs) (fun i H' => Kn d n ((D, .lst (acc i)) :: L) H') ?_ (fun i H' _ kn => kn.seqL (List.mem_cons_of_mem _ hp)) (fun i x H' hx kn => ⟨hw x, ?_⟩) (fun H' kn => q D H' kn)⟩
  · rw [a0]
    exact k.new hD
  · have hi : i < xs.length := (List.getElem?_eq_some_iff.mp hx).1
    refine turn i x H' D hx kn _ _ (fun y H4 kn4 e => ⟨acc i, kn4.at 0 rfl, szL' (by have := al i; omega), ?_⟩) (fun H3 kn3 e => ?_)
    · rw [e]
      exact kn4.put 0 rfl
    · rw [e]
      exact kn3
/-! ### a law's first statement makes the dice -/
theorem cutInts (ns : List Int) (lo hi : Option Int) : ∃ ms : List Int, cutV (ns.map V.int) lo hi = ms.map V.int :=
  ⟨(ns.drop (HT.sIx ns.length 0 lo)).take (HT.sIx ns.length ns.length hi - HT.sIx ns.length 0 lo), by unfold cutV; rw [List.length_map, List.map_take, List.map_drop]⟩
theorem kStart {K : PySem.W.Frag} {a : Addr} {ns : List Int} {σ : L2.St} {H : Hp} {i : Nat} {y : TS} {nx bk ct : L2.St → Hp → Prop} {rt : VK} (hS : SqL K H a (ns.map V.int)) (h0 : σ[0]? = some (some (.ref a)))
    (q : ∀ d H', Kn d 0 [] H' → y (Ends.mk nx rt bk ct) (σ.set i (some (.ref d))) H') :
    tSeq (tAsg (tLst (tCons (tCB (rList2 K) (tCons (tSl (rSlL K) (tVar 0) tNoPart (tPart (tC (.int 63)))) tNil)) (tCons (tC (.int 0)) (tCons (tC (.int 0)) (tCons (tC (.int 0)) tNil))))) (gName i)) y (Ends.mk nx rt bk ct) σ H := by
  obtain ⟨ms, hm⟩ := cutInts ns none (some 63)
  refine ⟨.ref a, h0, 63, rfl, a, _, rfl, hS, fun p hp => ?_⟩
  refine ⟨p, _, rfl, .inl (.inl (.inl upd_same)), fun s hs => ⟨szL (by show 4 ≤ 100000; decide), fun d hd => ?_⟩⟩
  have l0 : Lg [] H := ⟨fun _ hq => (List.not_mem_nil hq).elim, List.nodup_nil⟩
  have l1 := (((l0.new (o := .lst (cutV (ns.map V.int) none (some 63))) hp).sub (List.nil_sublist _)).new (o := .lst (cutV (ns.map V.int) none (some 63))) hs).new (o := .lst [.ref s, .int 0, .int 0, .int 0]) hd
  rw [hm] at l1 ⊢
  exact q d _ ⟨s, 0, 0, 0, ms, l1, by omega, by omega⟩
/-! ### loops -/
section
variable {σ : L2.St} {H : Hp} {tr : TA} {tb : TS} {j : Nat} {te : TE} {K : PySem.W.Frag} {nx bk ct : L2.St → Hp → Prop} {rt : VK}
/-- for x in range(n): the word holds at the start, a turn keeps it, behind the last what follows holds -/
theorem kRng1 {n : Int} (hn : 0 ≤ n ∧ n ≤ 100000) (Pv : Nat → L2.St → Hp → Prop) (h0 : Pv 0 σ H)
    (hs : ∀ (i : Nat) σ' H', (i : Int) < n → Pv i σ' H' → tb (Ends.mk (Pv (i + 1)) rt nx (Pv (i + 1))) (σ'.set j (some (.int (i : Int)))) H') (hd : ∀ σ' H', Pv n.toNat σ' H' → nx σ' H')
    (h : ∀ R : List V → Hp → Prop, R [.int n] H → tr σ H R) : tFor (iRng1 tr) (gName j) tb (Ends.mk nx rt bk ct) σ H := by
  refine h _ ⟨n, rfl, by omega, by omega, for_range (lo := 0) (n := n.toNat) Pv h0 (fun i σ' H' hi p => ?_) hd⟩
  have e0 : (0 : Int) + (i : Int) = (i : Int) := Int.zero_add _
  show tb (Ends.mk (Pv (i + 1)) rt nx (Pv (i + 1))) (σ'.set j (some (.int ((0 : Int) + (i : Int))))) H'
  rw [e0]
  exact hs i σ' H' (by omega) p
theorem kForL {p : Addr} {xs : List V} (Pv : Nat → L2.St → Hp → Prop) (hq : SqL K H p xs) (h0 : Pv 0 σ H) (hl : ∀ i σ' H', i ≤ xs.length → Pv i σ' H' → SqL K H' p xs)
    (hs : ∀ i x σ' H', xs[i]? = some x → Pv i σ' H' → tb (Ends.mk (Pv (i + 1)) rt nx (Pv (i + 1))) (σ'.set j (some x)) H') (hd : ∀ σ' H', Pv xs.length σ' H' → nx σ' H')
    (h : ∀ R : VK, R (.ref p) H → te σ H R) : tFor (iList K te) (gName j) tb (Ends.mk nx rt bk ct) σ H :=
  h _ ⟨p, rfl, ⟨xs, hq⟩, for_list (xs := xs) Pv h0 hl (fun i x σ' H' hx p => hs i x σ' H' hx p) hd⟩
theorem kForT {p : Addr} {xs : List V} (Pv : Nat → L2.St → Hp → Prop) (hq : SqT K H p xs) (h0 : Pv 0 σ H) (hl : ∀ i σ' H', i ≤ xs.length → Pv i σ' H' → SqT K H' p xs)
    (hs : ∀ i x σ' H', xs[i]? = some x → Pv i σ' H' → tb (Ends.mk (Pv (i + 1)) rt nx (Pv (i + 1))) (σ'.set j (some x)) H') (hd : ∀ σ' H', Pv xs.length σ' H' → nx σ' H')
    (h : ∀ R : VK, R (.ref p) H → te σ H R) : tFor (iTup K te) (gName j) tb (Ends.mk nx rt bk ct) σ H :=
  h _ ⟨p, rfl, ⟨xs, hq⟩, for_tup (xs := xs) Pv h0 hl (fun i x σ' H' hx p => hs i x σ' H' hx p) hd⟩
end
end Rg

set_option Elab.async false
set_option linter.all false
set_option maxRecDepth 100000
set_option maxHeartbeats 2000000
namespace Rg
open PySem PySem.Spec PyProof.Rows L2
/-! ### enumerate of a tuple -/
theorem enumNew {v : Value} {ob : Obj} {G : Heap → Prop} (B : Begins v ob G) : Meets (Builtin.«enumerate.__new__» ⟨[.type "enumerate", v], []⟩) (fun _ R s => G s.heap ∧
    R (.ok (.ret (.ref (s.heap.push ob).objs.size))) { s with heap := (s.heap.push ob).push { cls := .type "enumerate", data := .fields #[.none, .bool false, .ref s.heap.objs.size, rawInt 0, .none, .none] } }) := .of_wp fun prog w A R s hyp => by
  obtain ⟨hp, gs, dr, tk, os⟩ := s
  obtain ⟨g1, hyp⟩ := hyp
  have hsub := sub_enumerate
  have begun : ∀ {A' : Around} {E : Value → Shared → Prop} {Q : Value → Shared → Prop}, Q (.ref hp.objs.size) ⟨hp.push ob, gs, dr, tk, os⟩ → wpAny (model prog w) A' (pyIter v) Q E ⟨hp, gs, dr, tk, os⟩ :=
    fun z => B.iter prog w _ _ ⟨hp, gs, dr, tk, os⟩ _ g1 z
  wp_walk using begun
  refine wpAny_stack_any fun stk => wpAny_pure ?_
  split
  · rename_i cl _ _ _ _ _
    cases (cl == Value.type "enumerate") <;> (wp_walk using begun; exact ⟨_, rfl, hyp⟩)
  · wp_walk using begun
    exact ⟨_, rfl, hyp⟩
theorem callEnumT {prog : Program} {w : World} {A : Around} {E : Value → Shared → Prop} {s : Shared} {t : Addr} {items : Array Value} {Q : Value → Shared → Prop} (ht : s.heap.IsTuple t items)
    (h : ∀ h', IsEnum h' (s.heap.objs.size + 1) s.heap.objs.size 0 .none → h'.IsTupleIter s.heap.objs.size t 0 → (∀ b ob, s.heap.get? b = some ob → h'.get? b = some ob) → Q (.ref (s.heap.objs.size + 1)) { s with heap := h' }) :
    wpAny (model prog w) A (call (.type "enumerate") [.ref t]) Q E s := by
  refine callType_new F.called_enumerate (by decide) (F.typeCall_enumerate_1 _) (F.newCall_enumerate_1 _) (fun self => F.args_object_init_2 self _) F.entry_enumerate_new (enumNew (begins_tuple t items)) ⟨ht, ?_⟩
  have e1 : (s.heap.push { cls := .type "tuple_iterator", data := .fields #[.ref t, .int 0 0] }).objs.size = s.heap.objs.size + 1 := Heap.size_push ..
  show _ ∧ _
  rw [e1]
  have e2 : IsEnum ((s.heap.push { cls := .type "tuple_iterator", data := .fields #[.ref t, .int 0 0] }).push { cls := .type "enumerate", data := .fields #[.none, .bool false, .ref s.heap.objs.size, rawInt 0, .none, .none] })
      (s.heap.objs.size + 1) s.heap.objs.size 0 .none := by
    have z := Heap.get?_push_size (s.heap.push { cls := .type "tuple_iterator", data := .fields #[.ref t, .int 0 0] }) (o := { cls := .type "enumerate", data := .fields #[.none, .bool false, .ref s.heap.objs.size, rawInt 0, .none, .none] }) rfl
    rw [e1] at z
    exact z
  exact ⟨⟨_, e2, rfl⟩, h _ e2 ⟨_, Heap.get?_push_of_some _ (Heap.get?_push_size _ rfl), rfl, rfl⟩ fun b ob x => Heap.get?_push_of_some _ (Heap.get?_push_of_some _ x)⟩
/-- the tuple at a as it stands at each turn, each item in a new pair -/
def ItU (K : PySem.W.Frag) (a : Addr) : It where
  go := fun i H => ∃ (xs : List V) (x : V), SqT K H a xs ∧ xs[i]? = some x
  yld := fun i H v H' => ∃ T x, v = .ref T ∧ H T = none ∧ H' = upd H T (.tup [.int (i : Nat), x]) ∧ ∀ xs, SqT K H a xs → xs[i]? = some x
  stop := fun i H => ∃ xs : List V, SqT K H a xs ∧ xs.length = i
theorem enum_apart {h : Heap} {e it a : Addr} {i : Int} {old : Value} {items : Array Value} (he : IsEnum h e it i old) (ht : h.IsTuple a items) : e ≠ a := fun z => by
  obtain ⟨ob, h1, h2, _⟩ := ht
  rw [← z, he] at h1
  have h3 := Option.some.inj h1
  subst h3
  exact absurd (Value.type.inj h2) (by decide)
theorem iter_apart {h : Heap} {it a : Addr} {i : Nat} {items : Array Value} (hi : h.IsTupleIter it a i) (ht : h.IsTuple a items) : a ≠ it := fun z => by
  obtain ⟨ob, h1, h2, _⟩ := ht
  obtain ⟨oc, h4, h5, _⟩ := hi
  rw [z, h4] at h1
  have h3 := Option.some.inj h1
  subst h3
  rw [h5] at h2
  exact absurd (Value.type.inj h2) (by decide)
theorem turnU {P : Program} {w : World} {K : PySem.W.Frag} {elts : List Expr} {kk : Nat} {tpos : Pos} (a e it : Addr) :
    Turn P w K (.Tuple elts kk tpos) (ItU K a) [e, it] e (fun i h => (∃ old, IsEnum h e it ((i : Nat) : Int) old) ∧ h.IsTupleIter it a i ∧ e ≠ it) where
  mem := List.mem_cons_self
  obj := fun i h st b hb => by
    obtain ⟨⟨u, hu⟩, ⟨ob, h1, h2, h3⟩, _⟩ := st
    rcases List.mem_cons.mp hb with z | z
    · rw [z]
      exact ⟨_, hu, fun v q => nomatch q⟩
    · rw [List.mem_singleton.mp z]
      exact ⟨ob, h1, fun v q => by rw [h3] at q; cases q⟩
  keep := fun i h h' st k => ⟨st.1.imp fun u hu => k e List.mem_cons_self _ hu, st.2.1.at fun ob q => k it (List.mem_cons_of_mem _ List.mem_cons_self) ob q, st.2.2⟩
  item := by
    intro X hP hw hK hc i pins s σ H E I hf st hg
    subst hP hw hK
    obtain ⟨⟨u0, hu0⟩, hit, hei⟩ := st
    obtain ⟨xs, x, hq, hx⟩ := hg
    obtain ⟨its, rv, p, hz⟩ := I.tuple hq
    obtain ⟨ob, p1, p2, n, p3⟩ := id p
    have ht : s.heap.IsTuple a its.toArray := ⟨ob, p1, p2, n, p3⟩
    obtain ⟨y, hy, ry⟩ := rv.get hx
    have le : e < s.heap.objs.size := Heap.lt_size hu0
    have li : it < s.heap.objs.size := by
      obtain ⟨_, q, _⟩ := hit
      exact Heap.lt_size q
    have hil : i < its.toArray.size := by
      have := (List.getElem?_eq_some_iff.mp hy).1
      simpa using this
    have nea := enum_apart hu0 ht
    have nia := iter_apart hit ht
    refine wpAny_pyNext_enum_itemD (Draws.tuple (A := X.A.in1) (I.ok.hd hc) it a nia its.toArray) hu0 ⟨hit, ht⟩ hil hei (by simp [hei, nea]) fun x' h' tk hP ho hS hT hsz hk => ?_
    have exy : x' = y := by
      have q1 : its[i]? = some x' := by simpa using hP
      rw [hy] at q1
      exact (Option.some.inj q1).symm
    subst exy
    refine ⟨_, rfl, wpAny_letOwnedTupleGo_enum (s := { s with heap := h', toks := tk + 1 }) ho fun h'' he'' sb => ?_⟩
    have hT2 : h''.get? s.heap.objs.size = some { cls := .type "tuple", data := .seq #[.int i tk, x'] } := (sb.2 _ (Nat.ne_of_gt le)).trans hT
    have I1 : Inv X pins σ (upd H s.heap.objs.size (.tup [.int (i : Nat), x])) { s with heap := h'', toks := tk + 1 } := by
      refine I.turnedNew (ch := [e, it]) (fun b ob hb q => ?_) hf (Nat.le_refl _) ?_
      · have h1 : b ≠ e := fun z => hb (by simp [z])
        have h2 : b ≠ it := fun z => hb (by simp [z])
        exact (sb.2 b h1).trans (hk b ob h1 h2 q)
      · exact ⟨by show 2 ≤ sizeLine; decide, [.int i tk, x'], .cons ⟨_, rfl⟩ (.cons ry .nil), ⟨_, hT2, rfl, _, rfl⟩⟩
    refine ⟨.ref s.heap.objs.size, _, I1, rfl, ⟨_, x, rfl, I.hok.fresh (Nat.le_refl _), rfl, fun ys hy' => by rw [I.tuple_inj hy' hq]; exact hx⟩, ⟨⟨x', ?_⟩, hS.1.at fun ob q => (sb.2 it hei.symm).trans q, hei⟩, fun b hb => ?_⟩
    · rw [show ((i + 1 : Nat) : Int) = (i : Int) + 1 by omega]
      exact he''
    · have lb : b < s.heap.objs.size := by
        rcases List.mem_cons.mp hb with z | z
        · rw [z]; exact le
        · rw [List.mem_singleton.mp z]; exact li
      rw [upd_ne (Nat.ne_of_lt lb)]
      exact (hf b hb).1
  done := by
    intro X hP hw hK hc i pins s σ H E I hf st hg
    subst hP hw hK
    obtain ⟨⟨u0, hu0⟩, hit, hei⟩ := st
    obtain ⟨xs, hq, hx⟩ := hg
    obtain ⟨its, rv, p, hz⟩ := I.tuple hq
    obtain ⟨ob, p1, p2, n, p3⟩ := id p
    have ht : s.heap.IsTuple a its.toArray := ⟨ob, p1, p2, n, p3⟩
    obtain ⟨f0, f1, f2, f3, f4, f5⟩ := hf it (List.mem_cons_of_mem _ List.mem_cons_self)
    have hl := rv.length
    have nia := iter_apart hit ht
    have ei : i = its.toArray.size := by
      rw [List.size_toArray]
      omega
    rw [ei] at hit
    exact wpAny_pyNext_enum_endD (Draws.tuple (A := X.A.in1) (I.ok.hd hc) it a nia its.toArray) hu0 ⟨hit, ht⟩ fun h' eb => ⟨rfl, I.turned (t' := s.toks) (fun b ob hb q => eb b ob hb q) f0 f1 f3 f4 f5⟩
  self := fun A i s Q E st h => st.1.elim fun u hu => wpAny_pyIter_enum hu h
/-- for i, x in enumerate(t) -/
def iEnumU (K : PySem.W.Frag) (ta : TA) : TI := fun σ H R => ta σ H fun vs H1 => ∃ a xs, vs = [.ref a] ∧ SqT K H1 a xs ∧ R (ItU K a) H1
theorem pi_enumU {X : Cx} {e : Expr} {ta : TA} {p pos tpos : Pos} {elts : List Expr} {kk : Nat} (hg : Gl X "enumerate") (hm : X.mg "enumerate" = none) (ha : PA X [e] ta)
    (hs : starEach [e] X.env = [(false, eval e X.env)] := by rfl) : PI X (.Tuple elts kk tpos) (.Call (.Name "enumerate" p) [e] [] pos) (iEnumU X.K ta) := by
  refine ⟨fun pins s σ H R I hyp => Call_ (ld_blt I hg hm boot_enumerate (PyProof.Rows.callWith_type1 (thn (ha.run pos pins s σ H _ I hyp) fun us s1 got => ?_) hs rfl))⟩
  obtain ⟨vs, H1, I1, r1, a, xs, rfl, hq, q⟩ := got
  cases r1 with
  | cons r rr =>
    cases rr
    cases r
    obtain ⟨its, rv, ⟨ob, p1, p2, n, p3⟩, hz⟩ := I1.tuple hq
    refine callEnumT (items := its.toArray) ⟨ob, p1, p2, n, p3⟩ fun h' he hit hk => wpAny_pyIter_enum he ?_
    have I2 : Inv X pins σ H1 { s1 with heap := h' } := I1.kept (t' := s1.toks) hk
    refine ⟨s1.heap.objs.size + 1, [s1.heap.objs.size + 1, s1.heap.objs.size], _, _, H1, rfl, I2, turnU a (s1.heap.objs.size + 1) s1.heap.objs.size, ⟨⟨.none, he⟩, hit, Nat.succ_ne_self _⟩, fun b hb => ?_, q⟩
    have hle : s1.heap.objs.size ≤ b := by
      rcases List.mem_cons.mp hb with z | z
      · rw [z]
        exact Nat.le_succ _
      · rw [List.mem_singleton.mp z]
        exact Nat.le_refl _
    exact I1.fpOk hle (I1.hok.fresh hle)
theorem walkU {K : PySem.W.Frag} {a : Addr} {xs : List V} : Walk (ItU K a) xs.length (fun H => SqT K H a xs) (YPair (fun i => some (.int (i : Nat))) (fun i => xs[i]?)) := by
  refine ⟨fun i H hi hq => ⟨xs, xs[i], hq, by simp [hi]⟩, fun H hq => ⟨xs, hq, rfl⟩, fun i H v H' _ hq y => ?_⟩
  obtain ⟨T, x, h1, h2, h3, h4⟩ := y
  exact ⟨T, .int (i : Nat), x, h1, h2, h3, rfl, h4 xs hq⟩
end Rg

set_option Elab.async false
set_option linter.all false
set_option maxRecDepth 100000
set_option maxHeartbeats 2000000
namespace Rg
open PySem PySem.Spec PyProof.Rows L2
/-! ### texts: rules with a name -/
def rM0 (g : Str → V) : V → List V → Hp → VK → Prop := fun x xs H Q => ∃ a, x = .str a ∧ xs = [] ∧ True ∧ Q (g a) H
def rM1 (g : Str → Str → V) : V → List V → Hp → VK → Prop := fun x xs H Q => ∃ a b, x = .str a ∧ xs = [.str b] ∧ Q (g a b) H
def rSplit2 : V → List V → Hp → VK → Prop := fun x xs H Q => ∃ a b, x = .str a ∧ xs = [.str b] ∧ (b.length == 0) = false ∧ a.length + 2 ≤ sizeLine ∧ rNewStrs (Txt.split a b) H Q
def rJoin2 (K : PySem.W.Frag) : V → List V → Hp → VK → Prop := fun x xs H Q => ∃ a p, ∃ ys : List Str, x = .str a ∧ xs = [.ref p] ∧ (SqL K H p (ys.map V.str) ∨ SqT K H p (ys.map V.str)) ∧
  (ys.map (·.length)).sum + ys.length * a.length ≤ 16777216 ∧ Q (.str (Txt.join a ys)) H
def rLenS2 : List V → Hp → VK → Prop := fun xs H Q => ∃ z, xs = [.str z] ∧ z.length ≤ sizeLine ∧ Q (.int z.length) H
def rStrI : List V → Hp → VK → Prop := fun xs H Q => ∃ i, xs = [.int i] ∧ i.natAbs.log2 < 1920 ∧ Q (.str (toString i)) H
def rIntS : List V → Hp → VK → Prop := fun xs H Q => ∃ a n, xs = [.str a] ∧ PySem.intText? a = some n ∧ a.length ≤ 640 ∧ Q (.int n) H
def rAddS2 : R2 := fun x y H Q => ∃ i j, x = .str i ∧ y = .str j ∧ i.length + j.length ≤ sizeLine ∧ Q (.str (i ++ j)) H
section
variable {X : Cx}
theorem c_isascii : MtR X "str.isascii" (rM0 fun a => .bl (Txt.isascii a)) := mt_isascii
theorem c_isdigit : MtR X "str.isdigit" (rM0 fun a => .bl (Txt.isdigit a)) := mt_isdigit
theorem c_startswith : MtR X "str.startswith" (rM1 fun a b => .bl (Txt.startswith a b)) := mt_startswith
theorem c_split : MtR X "str.split" rSplit2 := mt_split
theorem c_join : MtR X "str.join" (rJoin2 X.K) := mt_join
theorem c_lenS : CallR X (.builtin "len") rLenS2 := call_len_str
theorem c_strI : CallR X (.type "str") rStrI := call_str_int
theorem c_intS : CallR X (.type "int") rIntS := call_int_str
theorem c_addS : OpR X (binaryOp .Add) rAddS2 := op_add_str
end
section
variable {d : Addr} {n : Nat} {L : Led} {H : Hp} {σ : L2.St} {Q : VK} {to te : TE} {K : PySem.W.Frag} {a b : Str} {i : Int} {p : Addr}
theorem kM0 {g : Str → V} (h : to σ H fun x H1 => ∃ a, x = .str a ∧ Q (g a) H1) (mono : ∀ R R' : VK, (∀ v H1, R v H1 → R' v H1) → to σ H R → to σ H R') : tM0 (rM0 g) to σ H Q :=
  mono _ _ (fun _ _ ⟨a, e, q⟩ => ⟨⟨a, e⟩, a, e, rfl, True.intro, q⟩) h
theorem kM0v {g : Str → V} {j : Nat} (h : σ[j]? = some (some (.str a))) (q : Q (g a) H) : tM0 (rM0 g) (tVar j) σ H Q := ⟨_, h, ⟨a, rfl⟩, a, rfl, rfl, True.intro, q⟩
theorem kM1v {r : V → List V → Hp → VK → Prop} {j : Nat} (h : σ[j]? = some (some (.str a))) (q : te σ H fun y H2 => r (.str a) [y] H2 Q) : tM1 r (tVar j) te σ H Q := ⟨_, h, ⟨a, rfl⟩, q⟩
theorem kM1c {r : V → List V → Hp → VK → Prop} (q : te σ H fun y H2 => r (.str a) [y] H2 Q) : tM1 r (tC (.str a)) te σ H Q := ⟨⟨a, rfl⟩, q⟩
theorem kR1 {g : Str → Str → V} (q : Q (g a b) H) : rM1 g (.str a) [.str b] H Q := ⟨a, b, rfl, rfl, q⟩
theorem kSplitK (hb : (b.length == 0) = false) (hz : a.length ≤ 100000) (k : Kn d n L H) (q : ∀ p H', Kn d n ((p, .lst ((Txt.split a b).map V.str)) :: L) H' → Q (.ref p) H') : rSplit2 (.str a) [.str b] H Q :=
  ⟨a, b, rfl, rfl, hb, Nat.le_trans (Nat.add_le_add_right hz 2) (by decide), fun p hp => q p _ (k.new hp)⟩
theorem kJoinS {ys : List Str} (h : SqL K H p (ys.map V.str)) (hz : (ys.map (·.length)).sum + ys.length * a.length ≤ 16777216) (q : Q (.str (Txt.join a ys)) H) : rJoin2 K (.str a) [.ref p] H Q := ⟨a, p, ys, rfl, rfl, .inl h, hz, q⟩
theorem kLenS (hz : a.length ≤ 100000) (q : Q (.int a.length) H) : rLenS2 [.str a] H Q := ⟨a, rfl, szL hz, q⟩
theorem kStrI (hz : i.natAbs.log2 < 1920) (q : Q (.str (toString i)) H) : rStrI [.int i] H Q := ⟨i, rfl, hz, q⟩
theorem kIntS (h : PySem.intText? a = some i) (hz : a.length ≤ 640) (q : Q (.int i) H) : rIntS [.str a] H Q := ⟨a, i, rfl, h, hz, q⟩
theorem kAddS (hz : a.length + b.length ≤ 100000) (q : Q (.str (a ++ b)) H) : rAddS2 (.str a) (.str b) H Q := ⟨a, b, rfl, rfl, szL hz, q⟩
end
theorem iteS {a b : Str} {A B : Prop} (h1 : a = b → A) (h2 : a ≠ b → B) : if decide (V.str a = V.str b) = true then A else B :=
  iteD (fun e => h1 (V.str.inj e)) fun e => h2 fun z => e (congrArg V.str z)
theorem iteSN {a b : Str} {A B : Prop} (h1 : a ≠ b → A) (h2 : a = b → B) : if (!decide (V.str a = V.str b)) = true then A else B :=
  iteN (fun e => h1 fun z => e (congrArg V.str z)) fun e => h2 (V.str.inj e)

theorem kYes {σ : L2.St} {H : Hp} {Q : Bool → Hp → Prop} (q : Q true H) : tYes σ H Q := q
/-! ### comprehensions over a tuple, over enumerate(tuple) -/
theorem kLcT {d : Addr} {n : Nat} {L : Led} {H : Hp} {K : PySem.W.Frag} {σ : L2.St} {Q : VK} {p : Addr} {xs : List V} {te0 te : TE} {tt : TT} {j : Nat} {vs : List Nat} (k : Kn d n L H) (hp : (p, .tup xs) ∈ L) (src : ∀ R : VK, R (.ref p) H → te0 σ H R)
    (hz : xs.length ≤ 100000) (acc : Nat → List V) (a0 : acc 0 = []) (al : ∀ i, (acc i).length ≤ i) (hw : ∀ x, wipe ((wipe σ vs).set j (some x)) vs = wipe σ vs)
    (turn : ∀ i x H' D, xs[i]? = some x → Kn d n ((D, .lst (acc i)) :: L) H' → ∀ (N1 : VK) (N2 : Hp → Prop), (∀ y H4, Kn d n ((D, .lst (acc i)) :: L) H4 → acc (i + 1) = acc i ++ [y] → N1 y H4) → (∀ H3, Kn d n ((D, .lst (acc i)) :: L) H3 → acc (i + 1) = acc i → N2 H3) →
      tt ((wipe σ vs).set j (some x)) H' fun b H3 => if b = true then te ((wipe σ vs).set j (some x)) H3 N1 else N2 H3)
    (q : ∀ D H', Kn d n ((D, .lst (acc xs.length)) :: L) H' → Q (.ref D) H') : tLc (iTup K te0) (gName j) tt te vs σ H Q := by
  refine src _ ⟨p, rfl, ⟨xs, k.seqT hp⟩, fun D hD => lc_tup (xs := xs) (fun i H' => Kn d n ((D, .lst (acc i)) :: L) H') ?_ (fun i H' _ kn => kn.seqT (List.mem_cons_of_mem _ hp)) (fun i x H' hx kn => ⟨hw x, ?_⟩) (fun H' kn => q D H' kn)⟩
  · rw [a0]
    exact k.new hD
  · have hi : i < xs.length := (List.getElem?_eq_some_iff.mp hx).1
    refine turn i x H' D hx kn _ _ (fun y H4 kn4 e => ⟨acc i, kn4.at 0 rfl, szL' (by have := al i; omega), ?_⟩) (fun H3 kn3 e => ?_)
    · rw [e]
      exact kn4.put 0 rfl
    · rw [e]
      exact kn3
theorem kLcE {d : Addr} {n : Nat} {L : Led} {H : Hp} {K : PySem.W.Frag} {σ : L2.St} {Q : VK} {p : Addr} {xs : List V} {te0 te : TE} {tt : TT} {j l : Nat} {vs : List Nat} (k : Kn d n L H) (hp : (p, .tup xs) ∈ L) (src : ∀ R : VK, R (.ref p) H → te0 σ H R)
    (hz : xs.length ≤ 100000) (acc : Nat → List V) (a0 : acc 0 = []) (al : ∀ i, (acc i).length ≤ i) (hw : ∀ x y, wipe (((wipe σ vs).set j (some x)).set l (some y)) vs = wipe σ vs)
    (turn : ∀ (i : Nat) x H' D T, xs[i]? = some x → Kn d n ((T, .tup [.int i, x]) :: (D, .lst (acc i)) :: L) H' → ∀ (N1 : VK) (N2 : Hp → Prop), (∀ y H4, Kn d n ((T, .tup [.int i, x]) :: (D, .lst (acc i)) :: L) H4 → acc (i + 1) = acc i ++ [y] → N1 y H4) →
      (∀ H3, Kn d n ((T, .tup [.int i, x]) :: (D, .lst (acc i)) :: L) H3 → acc (i + 1) = acc i → N2 H3) →
      tt (((wipe σ vs).set j (some (.int (i : Int)))).set l (some x)) H' fun b H3 => if b = true then te (((wipe σ vs).set j (some (.int (i : Int)))).set l (some x)) H3 N1 else N2 H3)
    (q : ∀ D H', Kn d n ((D, .lst (acc xs.length)) :: L) H' → Q (.ref D) H') : tLc (iEnumU K (tCons te0 tNil)) (gTup K 2 (gCons (gName j) (gCons (gName l) gNil))) tt te vs σ H Q := by
  refine src _ ⟨p, xs, rfl, k.seqT hp, fun D hD => lc_it (walkU (xs := xs)) (fun i H' => Kn d n ((D, .lst (acc i)) :: L) H') ?_ (fun i H' _ kn => kn.seqT (List.mem_cons_of_mem _ hp)) (fun i v H1 H' hi kn y => ?_) (fun H' kn => q D H' kn)⟩
  · rw [a0]
    exact k.new hD
  · obtain ⟨T, x1, x, rfl, hT, rfl, e1, hx⟩ := y
    have e1' := Option.some.inj e1
    subst e1'
    have kt := kn.new (o := .tup [.int (i : Int), x]) hT
    refine ⟨T, [.int (i : Int), x], rfl, kt.seqT List.mem_cons_self, rfl, _, _, rfl, _, _, rfl, rfl, hw _ _, ?_⟩
    refine turn i x _ D T hx kt _ _ (fun y H4 kn4 e => ⟨acc i, kn4.at 1 rfl, szL' (by have := al i; omega), ?_⟩) (fun H3 kn3 e => ?_)
    · rw [e]
      exact (kn4.put 1 rfl).tail
    · rw [e]
      exact kn3.tail
/-! ### all of a list of truths -/
def rAll2 (K : PySem.W.Frag) : List V → Hp → VK → Prop := fun vs H Q => ∃ (a : Addr) (bs : List Bool), vs = [V.ref a] ∧ SqL K H a (bs.map V.bl) ∧ Q (.bl (bs.all id)) H
theorem c_all {X : Cx} (hc : X.calm = true) : CallR X (.builtin "all") (rAll2 X.K) := cr_all hc
theorem kAll {K : PySem.W.Frag} {H : Hp} {Q : VK} {p : Addr} {bs : List Bool} (h : SqL K H p (bs.map V.bl)) (q : Q (.bl (bs.all id)) H) : rAll2 K [.ref p] H Q := ⟨p, bs, rfl, h, q⟩
/-! ### is, of truths -/
theorem kIsB {H : Hp} {Q : VK} {a b : Bool} (q : Q (.bl (decide (a = b))) H) : rIsB (.bl a) (.bl b) H Q := ⟨a, b, rfl, rfl, q⟩
theorem kNotB {H : Hp} {Q : VK} {a b : Bool} (q : Q (.bl (!decide (a = b))) H) : rNotB (.bl a) (.bl b) H Q := ⟨a, b, rfl, rfl, q⟩
end Rg

set_option Elab.async false
set_option linter.all false
set_option maxRecDepth 100000
set_option maxHeartbeats 2000000
namespace Rg
open PySem PySem.Spec PyProof.Rows L2
/-! ### lists: insert, times, plus, in, index, an item stored -/
def rIns2 : V → List V → Hp → VK → Prop := fun x vs H Q => ∃ (l : Addr) (xs : List V) (i : Int) (y : V), x = .ref l ∧ vs = [.int i, y] ∧ H l = some (.lst xs) ∧ xs.length < sizeLine ∧ 0 ≤ i ∧ i < 2 ^ 63 ∧
  Q .non (upd H l (.lst (xs.take i.toNat ++ [y] ++ xs.drop i.toNat)))
theorem c_insert {X : Cx} : MtR X "list.insert" rIns2 := mt_insert
section
variable {d : Addr} {n : Nat} {L : Led} {H : Hp} {σ : L2.St} {Q : VK} {K : PySem.W.Frag} {p q : Addr} {v : V} {xs ys : List V} {k : Int}
theorem kInsK (kn : Kn d n L H) (j : Nat) (h : L[j]? = some (p, .lst xs)) (z : xs.length < 100000) (k0 : 0 ≤ k) (k1 : k < 100000) (g : ∀ H', Kn d n (L.set j (p, .lst (xs.take k.toNat ++ [v] ++ xs.drop k.toNat))) H' → Q .non H') : rIns2 (.ref p) [.int k, v] H Q :=
  ⟨p, xs, k, v, rfl, rfl, kn.at j h, szL' z, k0, by omega, g _ (kn.put j h)⟩
theorem kRepK (kn : Kn d n L H) (h : (p, .lst xs) ∈ L) (k0 : 0 ≤ k) (k1 : k ≤ 100000) (z : xs.length * k.toNat ≤ 100000) (g : ∀ l H', Kn d n ((l, .lst (List.replicate k.toNat xs).flatten) :: L) H' → Q (.ref l) H') : rRep (.ref p) (.int k) H Q :=
  ⟨p, k, xs, rfl, rfl, kn.mem h, by omega, by omega, szL z, fun l hl => g l _ (kn.new hl)⟩
theorem kCatK (kn : Kn d n L H) (h1 : (p, .lst xs) ∈ L) (h2 : (q, .lst ys) ∈ L) (z : xs.length + ys.length ≤ 100000) (g : ∀ l H', Kn d n ((l, .lst (xs ++ ys)) :: L) H' → Q (.ref l) H') : rCat (.ref p) (.ref q) H Q :=
  ⟨p, q, xs, ys, rfl, rfl, kn.mem h1, kn.mem h2, szL z, fun l hl => g l _ (kn.new hl)⟩
theorem flatInts : ∀ ns : List Int, (ns.map V.int).all flatV = true
  | [] => rfl
  | _ :: r => by
    rw [List.map_cons, List.all_cons, flatInts r]
    rfl
theorem inInts (x : Int) : ∀ ns : List Int, inV (.int x) (ns.map V.int) = decide (x ∈ ns)
  | [] => rfl
  | y :: r => by
    have ih := inInts x r
    unfold inV at ih ⊢
    rw [List.map_cons, List.any_cons, ih]
    by_cases h1 : y = x
    · subst h1
      simp [eqV]
    · have h2 : ¬ x = y := fun e => h1 e.symm
      simp [eqV, h1, h2]
theorem kInL {x : Int} {ns : List Int} (h : SqL K H p (ns.map V.int)) (g : Q (.bl (decide (x ∈ ns))) H) : rIn K false (.int x) (.ref p) H Q := by
  refine ⟨p, _, rfl, .inl h, rfl, flatInts ns, ?_⟩
  rw [if_neg Bool.false_ne_true, inInts]
  exact g
theorem kIndex {x : Int} {ns : List Int} {j : Nat} (h : SqL K H p (ns.map V.int)) (hj : ns[j]? = some x) (hm : ∀ m < j, ns[m]? ≠ some x) (g : Q (.int (j : Int)) H) : rIndex K (.ref p) [.int x] H Q := by
  refine ⟨p, _, .int x, j, .int x, rfl, rfl, h, rfl, flatInts ns, by rw [List.getElem?_map, hj]; rfl, by simp [eqV], fun m z' hmj hz => ?_, g⟩
  rw [List.getElem?_map] at hz
  cases e : ns[m]? with
  | none => rw [e] at hz; cases hz
  | some y =>
    rw [e] at hz
    have hy : V.int y = z' := Option.some.inj hz
    rw [← hy]
    have : y ≠ x := fun z => hm m hmj (by rw [e, z])
    simp [eqV, this]
theorem kSetK (kn : Kn d n L H) (i : Nat) (h : L[i]? = some (p, .lst xs)) {j : Nat} (e : k = (j : Int)) (hj : j < xs.length) {R : Hp → Prop} (g : ∀ H', Kn d n (L.set i (p, .lst (xs.set j v))) H' → R H') : rSetL (.ref p) (.int k) v H R := by
  subst e
  refine ⟨p, xs, _, j, rfl, rfl, kn.at i h, ?_, g _ (kn.put i h)⟩
  unfold ixN
  rw [if_pos (by omega), if_pos (by omega)]
  simp
end
theorem cutDrop (xs : List V) (k : Nat) (h : k ≤ xs.length) : cutV xs (some (k : Int)) none = xs.drop k := by
  unfold cutV
  rw [HT.sIx_nat, HT.sIx_none, Nat.min_eq_left h]
  exact List.take_of_length_le (by rw [List.length_drop]; exact Nat.le_refl _)
theorem cutTake (xs : List V) (k : Nat) (h : k ≤ xs.length) : cutV xs none (some (k : Int)) = xs.take k := by
  unfold cutV
  rw [HT.sIx_nat, HT.sIx_none, Nat.min_eq_left h, Nat.sub_zero, List.drop_zero]
/-! ### comprehensions over a range -/
theorem kLcR {d : Addr} {n : Nat} {L : Led} {H : Hp} {σ : L2.St} {Q : VK} {lo : Int} {N : Nat} {wi : TI} {te : TE} {tt : TT} {j : Nat} {vs : List Nat} (k : Kn d n L H) (src : ∀ R : It → Hp → Prop, R (Itr lo N) H → wi σ H R)
    (hz : N ≤ 100000) (acc : Nat → List V) (a0 : acc 0 = []) (al : ∀ i, (acc i).length ≤ i) (hw : ∀ x, wipe ((wipe σ vs).set j (some x)) vs = wipe σ vs)
    (turn : ∀ (i : Nat) H' D, i < N → Kn d n ((D, .lst (acc i)) :: L) H' → ∀ (N1 : VK) (N2 : Hp → Prop), (∀ y H4, Kn d n ((D, .lst (acc i)) :: L) H4 → acc (i + 1) = acc i ++ [y] → N1 y H4) → (∀ H3, Kn d n ((D, .lst (acc i)) :: L) H3 → acc (i + 1) = acc i → N2 H3) →
      tt ((wipe σ vs).set j (some (.int (lo + (i : Int))))) H' fun b H3 => if b = true then te ((wipe σ vs).set j (some (.int (lo + (i : Int))))) H3 N1 else N2 H3)
    (q : ∀ D H', Kn d n ((D, .lst (acc N)) :: L) H' → Q (.ref D) H') : tLc wi (gName j) tt te vs σ H Q := by
  refine src _ fun D hD => lc_range (lo := lo) (n := N) (fun i H' => Kn d n ((D, .lst (acc i)) :: L) H') ?_ (fun i H' hi kn => ⟨hw _, ?_⟩) (fun H' kn => q D H' kn)
  · rw [a0]
    exact k.new hD
  · refine turn i H' D hi kn _ _ (fun y H4 kn4 e => ⟨acc i, kn4.at 0 rfl, szL' (by have := al i; omega), ?_⟩) (fun H3 kn3 e => ?_)
    · rw [e]
      exact kn4.put 0 rfl
    · rw [e]
      exact kn3
theorem srcR1 {σ : L2.St} {H : Hp} {ta : TA} {n : Int} (h : ∀ R : List V → Hp → Prop, R [.int n] H → ta σ H R) (h0 : 0 ≤ n) (h1 : n ≤ 100000) (R : It → Hp → Prop) (q : R (Itr 0 n.toNat) H) : iRng1 ta σ H R := h _ ⟨n, rfl, by omega, by omega, q⟩
theorem srcR2 {σ : L2.St} {H : Hp} {ta : TA} {lo n : Int} (h : ∀ R : List V → Hp → Prop, R [.int lo, .int n] H → ta σ H R) (h0 : 0 ≤ lo) (h1 : n ≤ 100000) (h2 : lo ≤ 100000) (h3 : -100000 ≤ n) (R : It → Hp → Prop) (q : R (Itr lo (n - lo).toNat) H) : iRng2 ta σ H R :=
  h _ ⟨lo, n, rfl, ⟨by omega, by omega, by omega, by omega⟩, q⟩
/-! ### for i, x in enumerate(t) -/
theorem kForE {σ : L2.St} {H : Hp} {tb : TS} {j l : Nat} {te : TE} {K : PySem.W.Frag} {nx bk ct : L2.St → Hp → Prop} {rt : VK} {p : Addr} {xs : List V} (Pv : Nat → L2.St → Hp → Prop) (hq : SqT K H p xs) (h0 : Pv 0 σ H) (hl : ∀ i σ' H', i ≤ xs.length → Pv i σ' H' → SqT K H' p xs)
    (hs : ∀ (i : Nat) x σ' H' T, xs[i]? = some x → Pv i σ' H' → H' T = none → tb (Ends.mk (Pv (i + 1)) rt nx (Pv (i + 1))) ((σ'.set j (some (.int (i : Int)))).set l (some x)) (upd H' T (.tup [.int (i : Int), x]))) (hd : ∀ σ' H', Pv xs.length σ' H' → nx σ' H')
    (h : ∀ R : VK, R (.ref p) H → te σ H R) : tFor (iEnumU K (tCons te tNil)) (gTup K 2 (gCons (gName j) (gCons (gName l) gNil))) tb (Ends.mk nx rt bk ct) σ H := by
  refine h _ ⟨p, xs, rfl, hq, for_it (walkU (xs := xs)) Pv h0 hl (fun i v σ' H1 H' hi hp y => ?_) hd⟩
  obtain ⟨T, x1, x, rfl, hT, rfl, e1, hx⟩ := y
  have e1' := Option.some.inj e1
  subst e1'
  exact ⟨T, [.int (i : Int), x], rfl, .inl (.inl upd_same), rfl, _, _, rfl, _, _, rfl, rfl, hs i x σ' H1 T hx hp hT⟩
/-! ### so many different ones, and no more -/
theorem php : ∀ (n : Nat) (l : List Nat), l.Nodup → (∀ x ∈ l, x < n) → l.length ≤ n
  | 0, l, _, h => by
    cases l with
    | nil => exact Nat.le_refl _
    | cons x r => exact absurd (h x List.mem_cons_self) (Nat.not_lt_zero _)
  | n + 1, l, nd, h => by
    by_cases hm : n ∈ l
    · have ih := php n (l.erase n) (nd.erase n) fun x hx => by
        have h1 := h x (List.mem_of_mem_erase hx)
        have h2 : x ≠ n := fun e => by
          subst e
          exact (nd.not_mem_erase) hx
        omega
      rw [List.length_erase_of_mem hm] at ih
      omega
    · have ih := php n l nd fun x hx => by
        have h1 := h x hx
        have h2 : x ≠ n := fun e => hm (e ▸ hx)
        omega
      omega
theorem php_all {n : Nat} {l : List Nat} (nd : l.Nodup) (h : ∀ x ∈ l, x < n) (hl : l.length = n) {j : Nat} (hj : j < n) : j ∈ l := by
  by_cases hm : j ∈ l
  · exact hm
  · have := php n (j :: l) (List.nodup_cons.mpr ⟨hm, nd⟩) fun x hx => by
      rcases List.mem_cons.mp hx with rfl | hx
      · exact hj
      · exact h x hx
    rw [List.length_cons] at this
    omega
/-! ### rules whose written part is named -/
section
variable {X : Cx} {K : PySem.W.Frag}
theorem ixL (e : X.K = K) : IxR X (rIxL K) := e ▸ ix_list
theorem ixT (e : X.K = K) : IxR X (rIxT K) := e ▸ ix_tup
theorem ixQ (e : X.K = K) : IxR X (rIx K) := e ▸ ix_seq
theorem slL (e : X.K = K) : SlR X (rSlL K) := e ▸ sl_list
theorem inQ (e : X.K = K) : OpR X (compareOp .In) (rIn K false) := e ▸ op_in_seq
theorem niQ (e : X.K = K) : OpR X (compareOp .NotIn) (rIn K true) := e ▸ op_notIn_seq
theorem lenQ (e : X.K = K) : CallR X (.builtin "len") (rLen2 K) := e ▸ c_len
theorem isiQ (e : X.K = K) : CallR X (.builtin "isinstance") (rIsi K) := e ▸ call_isi
theorem eqQ (e : X.K = K) (hu : X.A.units + 64 < cLine) : OpR X (compareOp .Eq) (rEqD K) := e ▸ op_eqD hu
theorem neQ (e : X.K = K) (hu : X.A.units + 64 < cLine) : OpR X (compareOp .NotEq) (rNeD K) := e ▸ op_neD hu
end
end Rg

set_option Elab.async false
set_option linter.all false
set_option maxRecDepth 100000
set_option maxHeartbeats 2000000
/-! # A refusal with an __init__ of its own: super().__init__(message), self.field = field -/
namespace Rg
open PySem PySem.W PySem.Calls PySem.HandSPX PyProof.Rows
def inB (fld : Str) (msg : Expr) (p0 p1 p2 p3 p4 q1 q2 q3 q4 : Pos) : List Stmt :=
  [.Expr (.Call (.Attribute (.Call (.Name "super" p0) [] [] p1) "__init__" p2) [msg] [] p3) p4, .Assign [.Attribute (.Name "self" q1) fld q2] (.Name fld q3) q4]
/-- how the call of the base's __init__ goes -/
def SupForm (msg : Expr) (p0 p1 p2 p3 : Pos) (env : Env) : Prop := ∃ pl : Sem Bool, eval (.Call (.Attribute (.Call (.Name "super" p0) [] [] p1) "__init__" p2) [msg] [] p3) env = do
  let ov ← attributeBase (.Call (.Name "super" p0) [] [] p1) "__init__" env (eval (.Call (.Name "super" p0) [] [] p1) env)
  standAt p2.atName
  let (f, first) ← holding [ov] (getMethod ov "__init__" pl)
  callWith p3 f first (backTo p3 (starEach [msg] env)) []
/-- what the written part says of a refusal's class at C, of its __init__ at fI -/
structure ExT (prog : Program) (K : Frag) (mg : Str → Option Value) (fld : Str) (C fI : Addr) (bmB : List Value) : Prop where
  cls : ∃ nm q N bs bm sn sub ab col dd k0 k1 k2 k3 k5, K.lookup C = some (excClassObj nm q C N bs bm true sn sub ab col dd k0 k1 k2 k3 k5 "ValueError.__new__") ∧ refsVE bm = true
  base : ExcBaseFacts "ValueError" "ValueError.__new__" "ValueError.__init__" bmB
  exIn : excInitIn K C bmB "ValueError.__new__" = true
  sa : findIn K (.ref C) "__setattr__" = some (some (.builtin "object.__setattr__"))
  noN : findIn K (.ref C) fld = some none
  iC : findIn K (.ref C) "__init__" = some (some (.ref fI))
  tI : typeIn K (.ref fI) = some (.type "function")
  kC : keepIn K (.ref C) = true
  exC : subIn K (.ref C) (.type "BaseException") = some true
  veC : subIn K (.ref C) (.type "ValueError") = some true
  ccC : subIn K (.ref C) (.ref C) = some true
  tyC : typeIn K (.ref C) = some (.type "type")
  sup : ks_superIn K C C "__init__" = some (some (.builtin "ValueError.__init__"))
  noO : nsIn K cStatics "thirdparty.any" = some none
  msup : mg "super" = none
  top : (prog.main.scope.names.lookup ("super" : Str)).isSome = false
/-- its __init__, the message written -/
structure ExI (prog : Program) (K : Frag) (fld : Str) (C fI : Addr) (fd : FuncData) (msg : Expr) : Prop where
  fn : ∃ oc od osl, K.lookup fI = some ⟨oc, od, .func fd, osl⟩
  body : ∃ p0 p1 p2 p3 p4 q1 q2 q3 q4, fd.body = .stmts (inB fld msg p0 p1 p2 p3 p4 q1 q2 q3 q4) ∧ (∀ env : Env, SupForm msg p0 p1 p2 p3 env) ∧ (∀ env : Env, starEach [msg] env = (false, eval msg env) :: starEach [] env) ∧ (∀ env : Env, swapsWith (.Call (.Attribute (.Call (.Name "super" p0) [] [] p1) "__init__" p2) [msg] [] p3) none p4.line env = pure false)
  bind : ∀ (s : Shared) (x v : Value), BindsTo s fd ⟨[x, v], []⟩ [("self", x), (fld, v)]
  noc : ∀ x ∈ fd.scope.names, x.2 ≠ .cell
  cor : fd.scope.isCoroutine = false
  gen : fd.scope.isGenerator = false
  kind : fd.scope.kind = .function
  kself : fd.scope.names.lookup ("self" : Str) = some .local
  kfld : fd.scope.names.lookup fld = some .local
  ksup : fd.scope.names.lookup ("super" : Str) = some .globalImplicit
  kcls : fd.scope.names.lookup ("__class__" : Str) = some .free
  code : ∃ cda c1 e1 vs s1 file tf, fd.code = .ref cda ∧ K.lookup cda = some ⟨c1, e1, .fields vs, s1⟩ ∧ vs[2]? = some (.str file tf) ∧ ((prog.main.file : Str) == file) = true
  crec : codeIn K fd.code fd.qualname = true
  clo : ∃ cc c2 e2 s2, fd.closure.lookup ("__class__" : Str) = some cc ∧ K.lookup cc = some ⟨c2, e2, .cell (some (.ref C)), s2⟩
  gl : fd.globals = mainGlobals
  bu : fd.builtins = builtinsNs
  hd : ∃ ar, (fd.params.posonlyargs ++ fd.params.args).head? = some ar ∧ ar.arg = ("self" : Str)
  dbg : (fld == ("__debug__" : Str)) = false
  nsf : fld ≠ ("self" : Str)
/-- a message is made wherever the field's name holds such a value -/
def MsgOk (prog : Program) (w : World) (fld : Str) (msg : Expr) (G : Value → Prop) : Prop := ∀ (A : Around) (E : Value → Shared → Prop) (s : Shared) (env : Env) (m : Str → Option Value) (v : Value) (Q : Value → Shared → Prop),
  env.scope.kind = .function → s.heap.Ns env.locals m → m fld = some v → env.kindOf fld = some .local → G v → (∀ u tk, Q u { s with toks := tk }) → wpAny (model prog w) A (eval msg env) Q E s
theorem msg_const {prog : Program} {w : World} {fld : Str} {x : Str} {j : Nat} {pos : Pos} {G : Value → Prop} : MsgOk prog w fld (.Constant (.str x) j pos) G := fun A E s env m v Q _ _ _ _ _ q => Constant_str (q _ _)
/-- the exception behind its __init__ -/
structure InEnd (fld : Str) (h0 h h' : Heap) (x C dx : Addr) (v : Value) : Prop where
  keep : ∀ b o, b ≠ x → h0.get? b = some o → h'.get? b = some o
  obj : ∃ t1 : Addr, h'.get? x = some { cls := .ref C, dict := some dx, data := .fields #[.ref t1, .none, .none, .none, .bool false, .none] }
  dbig : h.objs.size ≤ dx
  dne : dx ≠ x
  ns : h'.Ns1 dx (fun y => if y = fld then some v else none)
theorem size_one (v : Value) : [v].length ≤ sizeLine := by
  rw [sizeLine_eq]
  exact (by decide : 1 ≤ 16777216)
section
variable {prog : Program} {w : World} {A : Around} {R : Result → Shared → Prop} {K : Frag} {mg mb : Str → Option Value} {C fI : Addr} {fld : Str} {msg : Expr} {G : Value → Prop} {fd : FuncData} {bmB : List Value}
theorem ex_init (T : ExT prog K mg fld C fI bmB) (J : ExI prog K fld C fI fd msg) (hmsg : MsgOk prog w fld msg G) {h0 hp : Heap} {gs : Array GenState} {dr : Drawn} {tk : Nat} {os : OsState} {x t0 : Addr} {v : Value}
    (X0 : K.In h0) (k0 : ∀ b o, h0.get? b = some o → hp.get? b = some o) (x0 : h0.get? x = none) (sz0 : h0.objs.size ≤ hp.objs.size) (hlim : hp.NoLimit)
    (hg : hp.Ns mainGlobals mg) (hb : hp.Ns builtinsNs mb) (hbb : mb "super" = some (.type "super")) (hx : hp.get? x = some (excO C t0)) (hroom : A.depth < recursionLimit) (hv : G v)
    (hq : ∀ h' tk dx, InEnd fld h0 hp h' x C dx v → R (.ok (.ret .none)) ⟨h', gs, dr, tk, os⟩) : codeAny (model prog w) A (.call (.ref fI) ⟨[.ref x, v], []⟩) R ⟨hp, gs, dr, tk, os⟩ := by
  obtain ⟨oc, od, osl, hfn⟩ := J.fn
  obtain ⟨p0, p1, p2, p3, p4, q1, q2, q3, q4, hbody, hform, hstar, hswap⟩ := J.body
  obtain ⟨cda, c1, e1, vs, s1, file, tf, hcode, hcda, hvs, hfile⟩ := J.code
  obtain ⟨cc, c2, e2, s2, hclo, hcc⟩ := J.clo
  obtain ⟨ar, har, hself⟩ := J.hd
  obtain ⟨nm, qn, N, bs, bm, sn, sub, ab, col, dd, k1, k2, k3, k4, k5, hC, hbm⟩ := T.cls
  have hcl : clsIn K C = some { name := nm, bases := bs, mro := .ref C :: bm, ns := N, qualname := qn, hasDict := true, slotNames := sn, subclasses := sub, abstract := ab, collection := col, hasDel := false } := by unfold clsIn; rw [hC] <;> rfl
  have X : K.In hp := X0.keeps k0
  refine ks_codeAny_call_defAt (fd := fd) (binds := [("self", .ref x), (fld, v)]) hroom (X _ _ hfn) rfl hlim (codeRec_of X J.crec) hbody (J.bind _ _ _) J.noc (fun y hy => ?_) (fun h₁ hns hk₁ => ?_) J.cor J.gen J.kind
  · rcases List.mem_cons.mp hy with rfl | hy
    · exact J.kself
    · rw [List.mem_singleton.mp hy]
      exact J.kfld
  have hmself : (fun y : Str => List.lookup y ([(("self" : Str), Value.ref x), (fld, v)] : List (Str × Value)).reverse) "self" = some (.ref x) := by
    have z : (("self" : Str) == fld) = false := by simpa using Ne.symm J.nsf
    show List.lookup ("self" : Str) [(fld, v), (("self" : Str), Value.ref x)] = _
    simp [List.lookup, z]
  have hmfld : (fun y : Str => List.lookup y ([(("self" : Str), Value.ref x), (fld, v)] : List (Str × Value)).reverse) fld = some v := by
    show List.lookup fld [(fld, v), (("self" : Str), Value.ref x)] = _
    simp [List.lookup]
  have X₁ : K.In h₁ := X.keeps hk₁
  have hx₁ := hk₁ _ _ hx
  have hxL : x < hp.objs.size := Heap.lt_size hx
  have F₁ : Fr h0 hp.objs.size h₁ (fun y : Str => List.lookup y ([(("self" : Str), Value.ref x), (fld, v)] : List (Str × Value)).reverse) := ⟨hns, fun b o e => hk₁ _ _ (k0 _ _ e), sz0⟩
  have kN : ∀ {y : Str} {k : NameKind}, fd.scope.names.lookup y = some k → (callEnv fd hp.objs.size fI).kindOf y = some k := fun e => e
  have kK : (callEnv fd hp.objs.size fI).scope.kind = .function := J.kind
  have gG : h₁.Ns (callEnv fd hp.objs.size fI).globals mg := by
    show h₁.Ns fd.globals mg
    rw [J.gl]
    exact hg.keeps hk₁
  have gB : h₁.Ns (callEnv fd hp.objs.size fI).builtins mb := by
    show h₁.Ns fd.builtins mb
    rw [J.bu]
    exact hb.keeps hk₁
  have no0 : ∀ {b : Addr}, h0.objs.size ≤ b → h0.get? b = none := fun {b} le => by
    cases e : h0.get? b with
    | none => rfl
    | some o => exact absurd (Nat.lt_of_lt_of_le (Heap.lt_size e) le) (Nat.lt_irrefl _)
  have hL₁ : hp.objs.size < h₁.objs.size := hns.lt
  refine ks_wpAt_execs_cons (ks_wpAt_Expr_any ?_ (by first | rfl | (unfold interactive; rw [kK] <;> rfl)) (hswap _))
  obtain ⟨pl, hpl⟩ := hform (callEnv fd hp.objs.size fI)
  refine ks_wpAt_MethodCall (ks_wpAt_super_base (cc := cda) (f := fI) (ar := ar) (file := file) (tf := tf) (vs := vs) (fd := fd) (kN J.ksup) (kN J.kcls) rfl rfl (X₁ _ _ hfn) rfl har hcode (X₁ _ _ hcda) rfl hvs hfile T.top ?_) hpl
  refine ks_loadName_global kK (kN J.ksup) (loadGlobal_builtin gG T.msup gB hbb ⟨rfl, ?_⟩)
  refine wpAny_loadName_free kK (kN J.kcls) hclo ⟨_, X₁ _ _ hcc, rfl⟩ ?_
  rw [hself]
  refine wpAny_loadName_local kK (kN J.kself) hns hmself ?_
  refine ks_wpAny_isType_cls (X₁ _ _ hC) rfl ⟨rfl, ?_⟩
  refine ks_wpAny_call_super (X₁ _ _ hC) rfl hx₁ rfl (fun c e => by cases e) (looks_subIn X₁ T.ccC) (fun h₂ hso hk₂ => ?_)
  have F₂ : Fr h0 hp.objs.size h₂ (fun y : Str => List.lookup y ([(("self" : Str), Value.ref x), (fld, v)] : List (Str × Value)).reverse) := ⟨F₁.ns.keeps hk₂, fun b o e => hk₂ _ _ (F₁.keep _ _ e), sz0⟩
  have hx₂ := hk₂ _ _ hx₁
  have nsx : h₁.objs.size ≠ x := Nat.ne_of_gt (Nat.lt_trans hxL hL₁)
  have N₂ : News h0 hp.objs.size h₂ [(h₁.objs.size, ks_superObj C x C), (x, excObj C t0 none .none)] := by
    intro p hp'
    rcases List.mem_cons.mp hp' with rfl | hp'
    · exact ⟨hso, Nat.ne_of_gt hL₁, no0 (Nat.le_trans sz0 (Nat.le_of_lt hL₁))⟩
    · rw [List.mem_singleton.mp hp']
      exact ⟨hx₂, Nat.ne_of_lt hxL, x0⟩
  refine kxs_method kxs_ValueError F₂ X0 N₂ List.mem_cons_self (ox := excO C t0) (odx := none) ⟨hx₂, rfl, rfl, trivial⟩ T.noO T.sup T.veC rfl (fun q h₃ F₃ N₃ hq₃ => ?_)
  have nqx : q ≠ x := (Nat.ne_of_lt (hq₃ _ (List.mem_cons_of_mem _ List.mem_cons_self))).symm
  refine kxs_callWith1 N₃ List.mem_cons_self (spliced_more (hmsg _ _ _ _ _ v _ kK F₃.ns hmfld (kN J.kfld) hv (fun u tk₃ => spliced_none ⟨kxs_at N₃ List.mem_cons_self, ?_⟩)) (hstar _)) (hstar _)
  refine kxs_call F₃ X0 N₃ T.base T.exIn List.mem_cons_self (UpdF.tail nqx (UpdF.tail nsx (UpdF.head (by intro p hp'; cases hp')))) (size_one _) (fun t' h₄ F₄ N₄ _ => ?_)
  have hx₄ : h₄.get? x = some (excO C t') := (N₄ (x, excObj C t' none .none) (by simp)).1
  have X₄ : K.In h₄ := X0.keeps F₄.keep
  show PySem.wpAt _ _ _ _ _ _ _
  refine ks_wpAt_execs_cons (ks_wpAt_Assign_Attr (wpAt_of_wpAny (wpAny_Name (wpAny_loadName_local kK (kN J.kfld) F₄.ns hmfld ?_) J.dbg)) rfl)
  refine wpAny_Name (wpAny_loadName_local kK (kN J.kself) F₄.ns hmself ?_) (by decide)
  refine set_plain X₄ (ox := excO C t') (od := none) ⟨hx₄, rfl, rfl, trivial⟩ T.sa ?_
  refine exc_osa X₄ hx₄ hcl (show refsVE (.ref C :: bm) = true from hbm) rfl T.noN (fun h₅ tk₅ dx k₅ dn dne hx₅ hn₅ => ?_)
  have hL₄ : hp.objs.size < h₄.objs.size := F₄.ns.lt
  exact wpAt_of_wpAny (wpAny_execs_nil (hq h₅ tk₅ dx ⟨fun b o hb e => k₅ b o hb (F₄.keep b o e), ⟨t', hx₅⟩, Nat.le_of_lt (Nat.lt_of_lt_of_le hL₄ dn), dne, hn₅⟩))
/-- a made refusal -/
structure Made (fld : Str) (h h' : Heap) (e C d : Addr) (v : Value) : Prop where
  keep : ∀ b o, h.get? b = some o → h'.get? b = some o
  new : h.objs.size ≤ e
  obj : ∃ t1 : Addr, h'.get? e = some { cls := .ref C, dict := some d, data := .fields #[.ref t1, .none, .none, .none, .bool false, .none] }
  dbig : h.objs.size ≤ d
  dne : d ≠ e
  ns : h'.Ns1 d (fun y => if y = fld then some v else none)
theorem ex_made (T : ExT prog K mg fld C fI bmB) (J : ExI prog K fld C fI fd msg) (hmsg : MsgOk prog w fld msg G) {hp : Heap} {gs : Array GenState} {dr : Drawn} {tk : Nat} {os : OsState} {v : Value}
    (X : K.In hp) (hlim : hp.NoLimit) (hg : hp.Ns mainGlobals mg) (hb : hp.Ns builtinsNs mb) (hbb : mb "super" = some (.type "super")) (hroom : A.depth + 1 < recursionLimit) (hv : G v)
    (hq : ∀ h' tk e d, Made fld hp h' e C d v → R (.ok (.ret (.ref e))) ⟨h', gs, dr, tk, os⟩) : codeAny (model prog w) A (.call (.ref C) ⟨[v], []⟩) R ⟨hp, gs, dr, tk, os⟩ := by
  obtain ⟨nm, q, N, bs, bm, sn, sub, ab, col, dd, k0, k1, k2, k3, k5, hC, hbm⟩ := T.cls
  have k : ∀ b o, hp.get? b = some o → ((hp.push (kdv_tup [v])).push (excO C hp.objs.size)).get? b = some o := fun b o e => Heap.get?_push_of_some _ (Heap.get?_push_of_some _ e)
  have hget : ((hp.push (kdv_tup [v])).push (excO C hp.objs.size)).get? (hp.objs.size + 1) = some (excO C hp.objs.size) := by heap_get
  have x0 : hp.get? (hp.objs.size + 1) = none := by
    cases e : hp.get? (hp.objs.size + 1) with
    | none => rfl
    | some o => exact absurd (Nat.lt_of_succ_lt (Heap.lt_size e)) (Nat.lt_irrefl _)
  have hs : hp.objs.size ≤ ((hp.push (kdv_tup [v])).push (excO C hp.objs.size)).objs.size := by
    rw [Heap.size_push, Heap.size_push]
    exact Nat.le_succ_of_le (Nat.le_succ _)
  refine call_own F.excBase_ValueError (fun X => refsVE_contains X bm hbm) (X _ _ hC) (looks_findIn X T.iC) (fun self => bind_fn X self T.tI) (size_one v) ?_
  refine ex_init T J hmsg X k x0 hs (hlim.keeps k) (hg.keeps k) (hb.keeps k) hbb hget ?_ hv fun h' tk' dx ⟨k', hx, dn, dne, hns⟩ => ?_
  · show A.depth + 1 < recursionLimit
    exact hroom
  · have old : ∀ b o, hp.get? b = some o → h'.get? b = some o := fun b o e => k' b o (Nat.ne_of_lt (Nat.lt_succ_of_lt (Heap.lt_size e))) e
    have z : hp.objs.size ≤ dx := Nat.le_trans hs dn
    exact ⟨rfl, hq h' tk' (hp.objs.size + 1) dx ⟨old, Nat.le_succ _, hx, z, dne, hns⟩⟩
end
end Rg
namespace Rg
open PySem PySem.Spec PyProof.Rows L2
theorem relO_fld {v : V} {v' : Value} {fld : Str} (r : RelV v v') (f : Str) : RelO (List.lookup f [(fld, v)]) (if f = fld then some v' else none) := by
  by_cases hw : f = fld
  · subst hw
    rw [if_pos rfl]
    have q : List.lookup f [(f, v)] = some v := by simp [List.lookup]
    rw [q]
    exact r
  · rw [if_neg hw]
    have qw : (f == fld) = false := by simpa using hw
    have q2 : List.lookup f [(fld, v)] = none := by simp [List.lookup, qw]
    rw [q2]
    trivial
section
variable {X : Cx} {C fI : Addr} {fld : Str} {msg : Expr} {G : Value → Prop} {fd : FuncData} {bmB : List Value}
/-- C(e) -/
def tMkR (C : Addr) (fld : Str) (ta : TA) : L2.St → Hp → XK → Prop := fun σ H Q => ta σ H fun vs H1 => ∃ v, vs = [v] ∧ ∀ d, H1 d = none → Q (.ref C) (some d) (upd H1 d (.xd [(fld, v)]))
theorem pmk_r {x : Str} {a : Expr} {ta : TA} {p pos : Pos} {k : Nat} (T : ExT X.prog X.K X.mg fld C fI bmB) (J : ExI X.prog X.K fld C fI fd msg) (hmsg : MsgOk X.prog X.w fld msg (fun _ => True)) (hr : Room k X.A) (ha : PA X [a] ta) (hm : X.mg x = some (.ref C)) (hg : Gl X x := by rfl)
    (hd : (x == ("__debug__" : Str)) = false := by rfl) (he : starEach (a :: []) X.env = (false, eval a X.env) :: starEach [] X.env := by rfl) (hpl : (backTo pos (starEach [] X.env)).any (·.1) = false := by rfl) :
    PMk X (.Call (.Name x p) [a] [] pos) (tMkR C fld ta) := by
  intro pins s σ H Q I h
  refine wpAny_Call_Name_kw (ld_glob I hg hm ?_ hd)
  refine PySem.W.callWith_K (h₀ := X.base) I.ok.mod.kin T.kC (thn (ha.run pos pins s σ H _ I h) fun us s1 hh => ?_) he hpl
  obtain ⟨vs, H1, I1, r1, v, ev, q1⟩ := hh
  subst ev
  refine ⟨I1.kIn, ?_⟩
  cases r1 with
  | cons rv rn =>
    rename_i v' us'
    cases rn
    show wpAny _ _ (call (.ref C) [v']) _ _ _
    have hlim := I1.nolimit
    obtain ⟨mb, hmb, hbt⟩ := I1.ok.mod.blt
    have hgl : s1.heap.Ns mainGlobals X.mg := I1.ok.mod.glob.keeps I1.bk
    have hbl : s1.heap.Ns builtinsNs mb := hmb.keeps I1.bk
    obtain ⟨hp, g, dr, tk, os⟩ := s1
    refine wpAny_call (ex_made T J hmsg I1.kIn hlim hgl hbl ((hbt _ (by decide)).trans rfl) (by have := hr.dp; omega) trivial fun h' tk' e d M => ?_)
    show MkP X pins σ Q (.ref e) ⟨h', g, dr, tk', os⟩
    obtain ⟨t1, hoe⟩ := M.obj
    have hns := M.ns
    obtain ⟨G', g1, g2⟩ := restrict h' fun b => decide (b ≠ e)
    have gk : ∀ b, b ≠ e → G'.get? b = h'.get? b := fun b hb => g1 b (decide_eq_true hb)
    have ge : G'.get? e = none := g2 e (by simp)
    have old : ∀ b o, hp.get? b = some o → G'.get? b = some o := fun b o q => (gk b (Nat.ne_of_lt (Nat.lt_of_lt_of_le (Heap.lt_size q) M.new))).trans (M.keep b o q)
    have ob : ObjOk X.prog X.w (upd H1 d (.xd [(fld, v)])) G' d (.xd [(fld, v)]) :=
      ⟨_, hns.at (fun o q => (gk d M.dne).trans q), fun f => relO_fld rv f⟩
    have J : L2.Inv X pins σ (upd H1 d (.xd [(fld, v)])) ⟨G', g, dr, tk', os⟩ := I1.laid (t' := tk') old M.dbig ob
    refine ⟨e, _, _, ⟨G', g, dr, tk', os⟩, _, .ref C, some d, rfl, J, fun b o q => ?_, ge, hoe, ⟨rfl, rfl⟩, rfl, rfl, ?_, rfl, I1.bare, raises_own T.exC T.tyC, q1 d (I1.hok.fresh M.dbig)⟩
    · by_cases hb : b = e
      · have q' : G'.get? b = some o := q
        rw [hb, ge] at q'; cases q'
      · exact (gk b hb).symm.trans q
    · rw [upd_ne (Ne.symm M.dne)]
      exact I1.hok.fresh M.new
/-- raise C(e) -/
def tRaiseR (C : Addr) (fld : Str) (W : WX) (ta : TA) : TS := fun _ σ H => tMkR C fld ta σ H fun cls d H' => W cls d σ H'
theorem ps_raiseR {x : Str} {a : Expr} {ta : TA} {W : WX} {p pos pos2 : Pos} {k : Nat} (hc : X.calm = true) (T : ExT X.prog X.K X.mg fld C fI bmB) (J : ExI X.prog X.K fld C fI fd msg) (hmsg : MsgOk X.prog X.w fld msg (fun _ => True)) (hr : Room k X.A) (tk : Takes X W) (ha : PA X [a] ta) (hm : X.mg x = some (.ref C)) (hg : Gl X x := by rfl)
    (hd : (x == ("__debug__" : Str)) = false := by rfl) (he : starEach (a :: []) X.env = (false, eval a X.env) :: starEach [] X.env := by rfl) (hpl : (backTo pos (starEach [] X.env)).any (·.1) = false := by rfl) :
    PS X (.Raise (some (.Call (.Name x p) [a] [] pos)) none pos2) (tRaiseR C fld W ta) := ps_raise hc tk (pmk_r T J hmsg hr ha hm hg hd he hpl)
end
end Rg

set_option Elab.async false
set_option linter.all false
set_option maxRecDepth 100000
set_option maxHeartbeats 2000000
/-! # A caught exception that is kept by a name behind the try -/
namespace Rg
open PySem PySem.W PySem.Spec PySem.HandSPX PyProof.Rows L2
/-- what the ledger says of a kept exception -/
def exh (a : Addr) (cls : Value) (d : Option Addr) : HO := .ext fun h => ∃ oe vs, h.get? a = some oe ∧ Zc cls d oe ∧ oe.data = .fields vs
def wHold (K : Frag) (c : Value) (i : Nat) (ts : Addr → Value → Option Addr → TS) (D : Ends) : WX := fun cls d σ H =>
  exmOne K cls c = some true ∧ ∀ a : Addr, H a = none → ts a cls d { nx := fun σ' H' => D.nx (List.set σ' i none) (upd H' a (exh a cls d)), rt := D.rt, bk := fun σ' H' => D.bk (List.set σ' i none) H', ct := fun σ' H' => D.ct (List.set σ' i none) H' } (List.set σ i (some (V.ref a))) H
theorem looks_typeOf_ref {M : Model} {h : Heap} {a : Addr} {oe : Obj} (e : h.get? a = some oe) : Looks M h (typeOf (.ref a)) oe.cls := by
  refine looks_typeIn (K := [(a, oe)]) (fun b o q => ?_) ?_
  · by_cases hb : b = a
    · subst hb
      simp [List.lookup] at q
      rw [← q]
      exact e
    · have hb' : (b == a) = false := by simpa using hb
      simp [List.lookup, hb'] at q
  · simp [typeIn, List.lookup]
section
variable {X : Cx}
theorem hold_it {pins : List (Addr × Obj)} {σ : L2.St} {H : Hp} {s : Shared} {a : Addr} {oe : Obj} {cls : Value} {d : Option Addr} (hz : Zc cls d oe) (hf : ∃ vs, oe.data = Data.fields vs) (J : L2.Inv X pins σ H s) (hget : s.heap.get? a = some oe)
    (ha : H a = none) (hl : a ≠ X.env.locals) (h0 : X.s_0.heap.get? a = none) (hcl : ∀ (x : Str) (c : Addr), X.env.cells.lookup x = some c → c ≠ a) (hpn : ∀ p ∈ X.pn ++ pins, p.1 ≠ a) :
    L2.Inv X pins σ (upd H a (exh a cls d)) s := by
  obtain ⟨vs, hdat⟩ := hf
  have nz : ∀ {b : Addr} {o : Obj}, X.s_0.heap.get? b = some o → b ≠ a := fun {b o} e z => by rw [z, h0] at e; cases e
  have nH : ∀ {b : Addr} {u : HO}, H b = some u → b ≠ a := fun {b u} e z => by rw [z, ha] at e; cases e
  refine ⟨J.ok, J.os, J.bare, ⟨J.base.keep, J.base.slot, fun b o e hb nx => ?_, J.base.there, fun b xs e => ?_, fun b o u e => ?_, fun b ps e => ?_⟩, J.loc, J.cell, ?_, fun x c e => ?_, fun p hp => ?_, fun b o e => ?_, J.len⟩
  · rw [upd_ne (nz e)]
    exact J.base.free b o e hb nx
  · have q := J.base.tups b xs e
    rw [upd_ne (nH q)]
    exact q
  · have q := J.base.frzs b o u e
    rw [upd_ne (nH q)]
    exact q
  · obtain ⟨more, q⟩ := J.base.tbls b ps e
    exact ⟨more, by rw [upd_ne (nH q)]; exact q⟩
  · rw [upd_ne (Ne.symm hl)]
    exact J.free
  · rw [upd_ne (hcl x c e)]
    exact J.freeC x c e
  · obtain ⟨p1, p2, p3⟩ := J.pin p hp
    exact ⟨p1, by rw [upd_ne (hpn p hp)]; exact p2, p3⟩
  · by_cases hb : b = a
    · subst hb
      rw [upd_same] at e
      cases e
      refine ⟨⟨oe, vs, hget, hz, hdat⟩, ⟨oe, hget⟩, fun h1 h2 ⟨o', v', e1, z1, d1⟩ k => ⟨o', v', k _ e1, z1, d1⟩⟩
    · rw [upd_ne hb] at e
      refine (J.hok b o e).stay (fun _ _ _ e => e) (fun b' e' => ?_) (fun b' xs e' => ?_)
      · rw [upd_ne (nH e')]
        exact e'
      · rw [upd_ne (nH e')]
        exact e'
theorem ps_hold {x n : Str} {c : Value} {i : Nat} {body suite : List Stmt} {b₀ : Stmt} {np pos pos' : Pos} {tb : WX → TS} {ts : Addr → Value → Option Addr → TS}
    (hs : X.stack = X.env :: X.outer) (hf : X.env.frame = some X.env.locals) (hex : X.ex = []) (hN : X.N.Nodup) (hi : X.N[i]? = some n) (hln : X.env.kindOf n = some .local) (hg : Gl X x) (hc : X.mg x = some c)
    (hb : ∀ (W : WX) (pn : List (Addr × Obj)) (xe : Value → Shared → Prop), Takes (X.tr pn xe) W → PSs (X.tr pn xe) body (tb W))
    (hsu : ∀ (a : Addr) (oe : Obj) (cls : Value) (d : Option Addr) (pn : List (Addr × Obj)), Zc cls d oe → (∃ vs, oe.data = Data.fields vs) → PSs (X.suite a ((a, oe) :: pn)) (b₀ :: suite) (ts a cls d))
    (hd : (x == ("__debug__" : Str)) = false := by rfl) :
    PS X (.Try body [.ExceptHandler (some (.Name x np)) (some n) (b₀ :: suite) pos'] [] [] pos) (fun D σ H => tb (wHold X.K c i ts D) D σ H) := by
  refine ⟨fun pins s σ H D I h => wpAny_Try_except ?_⟩
  have hfr : X.A.frames = some (X.env :: X.outer) := I.ok.frames.trans (by rw [hs])
  have key : ∀ (E : Value → Shared → Prop), (∀ e s₁, wpAny (model X.prog X.w) X.A (noteFrame e X.env) (fun _ s₂ => wpAny (model X.prog X.w) X.A (setFlight e none) (fun _ s₃ => wpAny (model X.prog X.w) X.A (handleBy e X.env [.ExceptHandler (some (.Name x np)) (some n) (b₀ :: suite) pos']) (SP X pins D) X.xe s₃) X.xe s₂) X.xe s₁ → E e s₁) → Takes (X.tr (X.pn ++ pins) E) (wHold X.K c i ts D) := by
    intro E hE u s' ⟨a, B, sI, pins1, σ1, H1, cls, d, hu, I1, kp, up, sky, ha, hos, hbr, hm, hts⟩
    subst hu
    have J0 : L2.Inv X pins σ1 H1 sI := I1.ofTry I.ok
    refine hE _ _ ?_
    have sky' : Sky B (X.env :: X.outer) a (Zc cls d) X.env.locals s'.heap := by rw [← hs]; exact sky
    have kp' : ∀ (b : Addr) (o : Obj), sI.heap.get? b = some o → ¬b ∈ frs X.stack → B.get? b = some o := kp
    refine Sky.land Zc.steady hfr hf sky' (fun h1 fl1 up1 => ?_)
    have tr : ∀ {h2 : Heap}, s'.heap.UpToSlots h2 → sI.heap.UpToSlots h2 := fun {h2} u2 b o e nf => by
      obtain ⟨sl, e1⟩ := up b o e nf
      have q := u2 b _ e1 nf
      exact q
    -- what holds wherever it flies
    have at_ : ∀ {h2 : Heap}, HandSPX.FlyingZ B (X.env :: X.outer) a (Zc cls d) h2 → s'.heap.UpToSlots h2 → ∃ oe vs, h2.get? a = some oe ∧ Zc cls d oe ∧ oe.data = .fields vs ∧ a ≠ X.env.locals ∧ a ∉ frs X.stack ∧
        L2.Inv (X.suite a ((a, oe) :: (X.pn ++ pins))) [] σ1 H1 ⟨h2, s'.gens, s'.drawn, s'.toks, s'.os⟩ := by
      intro h2 fl u2
      have J1 : L2.Inv X pins σ1 H1 ⟨h2, s'.gens, s'.drawn, s'.toks, s'.os⟩ := J0.landed kp' fl.1 (tr u2) hos hbr
      obtain ⟨oe, vs, hoe, hz, hdat⟩ := fl.there
      have hnfr : a ∉ frs (X.env :: X.outer) := fun m => by
        obtain ⟨_, o, ho, nf⟩ := fl.2.2.1.mem m
        rw [hoe] at ho
        cases ho
        exact nf _ hdat
      have hnl : a ≠ X.env.locals := fun e => hnfr (by
        show a ∈ List.filterMap (fun x => x.frame) (X.env :: X.outer)
        exact List.mem_filterMap.mpr ⟨X.env, List.mem_cons_self, by rw [hf, e]⟩)
      have hnfs : a ∉ X.fs := fun m => hnfr (by
        obtain ⟨e, he, hf'⟩ := List.mem_filterMap.mp m
        exact List.mem_filterMap.mpr ⟨e, List.mem_cons_of_mem _ he, hf'⟩)
      exact ⟨oe, vs, hoe, hz, hdat, hnl, by rw [hs]; exact hnfr, J1.suite hoe hdat ha hnl hnfs⟩
    have B0 : B.get? a = none := fl1.2.1
    obtain ⟨oe1, vs1, hoe1, hz1, hdat1, hnl, hnfr, J1⟩ := at_ fl1 up1
    have h0 : X.s_0.heap.get? a = none := by
      cases e : X.s_0.heap.get? a with
      | none => rfl
      | some o =>
        obtain ⟨o', e'⟩ := J0.base.there a o e (by rw [hex]; exact List.not_mem_nil)
        have := kp' a o' e' hnfr
        rw [B0] at this
        cases this
    have hpn : ∀ p ∈ X.pn ++ pins, p.1 ≠ a := fun p hp e => by
      have q := (J0.pin p hp).1
      rw [e] at q
      have := kp' a _ q hnfr
      rw [B0] at this
      cases this
    have hcl : ∀ (y : Str) (cc : Addr), X.env.cells.lookup y = some cc → cc ≠ a := fun y cc e z => by
      obtain ⟨v, o, ho, hd⟩ := J1.cell y cc e
      rw [z] at ho
      have ho' : h1.get? a = some o := ho
      rw [hoe1] at ho'
      cases ho'
      rw [hdat1] at hd
      cases hd
    refine exc_clause_as (ld_glob J1 hg hc ⟨true, exm_one J1.kIn (by rw [← hz1.1]; exact looks_typeOf_ref hoe1) hm, ?_⟩ hd)
    rw [if_pos rfl]
    refine lands_againZ fl1 (fun h2 fl2 up2 => ?_)
    have up12 : s'.heap.UpToSlots h2 := fun b o e nf => by
      obtain ⟨sl, e1⟩ := up1 b o e nf
      have q := up2 b _ e1 nf
      exact q
    obtain ⟨oe2, vs2, hoe2, hz2, hdat2, _, _, J2⟩ := at_ fl2 up12
    refine store_ok (X := X.suite a ((a, oe2) :: (X.pn ++ pins))) J2 hN hi (Or.inl hln) (v := .ref a) rfl (fun s3 J4 => ?_) (Or.inr hln)
    have run := (hsu a oe2 cls d (X.pn ++ pins) hz2 ⟨_, hdat2⟩).run [] s3 _ H1 _ J4 (hts a ha)
    refine wpAny_mono run (fun f s4 hh => ?_) (fun e s4 no => no.elim)
    cases f with
    | next =>
      obtain ⟨σ', H', J5, q⟩ := hh
      refine gone_ok (X := X.suite a ((a, oe2) :: (X.pn ++ pins))) J5 hN hi hln (fun s5 J6 => ?_)
      obtain ⟨g1, g2, _⟩ := J6.pin (a, oe2) List.mem_cons_self
      exact ⟨_, _, hold_it hz2 ⟨_, hdat2⟩ (J6.unsuite I.ok) g1 g2 hnl h0 hcl hpn, q⟩
    | brk =>
      obtain ⟨σ', H', J5, q⟩ := hh
      refine gone_ok (X := X.suite a ((a, oe2) :: (X.pn ++ pins))) J5 hN hi hln (fun s5 J6 => ?_)
      exact ⟨_, _, J6.unsuite I.ok, q⟩
    | cont =>
      obtain ⟨σ', H', J5, q⟩ := hh
      refine gone_ok (X := X.suite a ((a, oe2) :: (X.pn ++ pins))) J5 hN hi hln (fun s5 J6 => ?_)
      exact ⟨_, _, J6.unsuite I.ok, q⟩
    | ret u =>
      obtain ⟨v, σ', H', J5, r, q⟩ := hh
      refine gone_ok (X := X.suite a ((a, oe2) :: (X.pn ++ pins))) J5 hN hi hln (fun s5 J6 => ?_)
      exact ⟨v, _, _, J6.unsuite I.ok, r, q⟩
  have okT : ∀ E, (X.tr (X.pn ++ pins) E).Ok := fun E => by
    have o := I.ok
    exact ⟨o.mod, o.kind, o.glob, o.blt, o.above, o.inj, o.has, o.cab, o.hd, o.frames, o.stk, o.exf, o.bs, o.bsz, o.noex, o.exfs, o.funs, o.frf⟩
  have iT : ∀ E, L2.Inv (X.tr (X.pn ++ pins) E) [] σ H s := fun E => ⟨okT E, I.os, I.bare, I.base, I.loc, I.cell, I.free, I.freeC, fun p hp => I.pin p (by simpa using hp), I.hok, I.len⟩
  refine thn ((hb _ _ _ (key _ fun e s₁ q => q)).run [] s σ H D (iT _) h) (fun f s1 hh => ?_)
  cases f with
  | next =>
    obtain ⟨σ', H', J5, q⟩ := hh
    exact wpAny_execs_nil ⟨_, _, J5.ofTry I.ok, q⟩
  | brk =>
    obtain ⟨σ', H', J5, q⟩ := hh
    exact ⟨_, _, J5.ofTry I.ok, q⟩
  | cont =>
    obtain ⟨σ', H', J5, q⟩ := hh
    exact ⟨_, _, J5.ofTry I.ok, q⟩
  | ret u =>
    obtain ⟨v, σ', H', J5, r, q⟩ := hh
    exact ⟨v, _, _, J5.ofTry I.ok, r, q⟩
end
end Rg
/-! ### asked behind the try -/
namespace Rg
open PySem PySem.W PySem.Spec PySem.HandSPX PyProof.Rows L2
section
variable {X : Cx} {K : Frag}
/-- the ledger tells a kept exception of the class at C, its field -/
def Kept (H : Hp) (a C d : Addr) (fs : List (Str × V)) : Prop := H a = some (exh a (.ref C) (some d)) ∧ H d = some (.xd fs)
theorem held_inst {pins : List (Addr × Obj)} {σ : L2.St} {H : Hp} {s : Shared} {a C d : Addr} {fs : List (Str × V)} (I : L2.Inv X pins σ H s) (k : Kept H a C d fs) :
    ∃ oe od, W.InstAt s.heap a oe C (some od) ∧ (∃ mA : Str → Option Value, (∀ name : Str, lookIn name od = some (mA name)) ∧ ∀ f : Str, RelO (fs.lookup f) (mA f)) := by
  obtain ⟨⟨oe, vs, hget, hz, hdat⟩, _⟩ := (I.hok a _ k.1 : ObjOk _ _ _ _ _ (.ext _))
  obtain ⟨mA, hns, hr⟩ := (I.hok d _ k.2 : ObjOk _ _ _ _ _ (.xd _))
  obtain ⟨od, ho, hl⟩ := lookIn_ns hns
  exact ⟨oe, od, ⟨hget, hz.1, by unfold PySem.W.notCls; rw [hdat] <;> rfl, by rw [hz.2]; exact ho⟩, mA, hl, hr⟩
theorem held_kit {C a : Addr} {oe : Obj} {od : Option Obj} (T : L2.ExcC K C) : KitX K (.ref a) (.ref C) (fun h => W.InstAt h a oe C od) :=
  kitx_exc (by have := T.hd; unfold hasDictIn at this; cases e : clsIn K C with | none => rw [e] at this; simp at this | some _ => rfl) T.hg T.hk T.hs T.ha T.hn T.ht T.hm
/-- isinstance of a kept exception: one class, a tuple of classes -/
def rIsH (K : Frag) : List V → Hp → VK → Prop := fun xs H Q => ∃ (a C d : Addr) (fs : List (Str × V)) (c : V) (u : Value) (b : Bool), xs = [.ref a, c] ∧ Kept H a C d fs ∧ L2.ExcC K C ∧ ClsV c u ∧ kitOne K (.ref C) u = some b ∧ Q (.bl b) H
def rIsHT (K : Frag) : List V → Hp → VK → Prop := fun xs H Q => ∃ (a C d tp : Addr) (fs : List (Str × V)) (cs : List V) (us : List Value) (b : Bool), xs = [.ref a, .ref tp] ∧ Kept H a C d fs ∧ L2.ExcC K C ∧ H tp = some (.tup cs) ∧ Paired ClsV cs us ∧ kitAny K (.ref C) us = some b ∧ Q (.bl b) H
theorem call_isH : CallR X (.builtin "isinstance") (rIsH X.K) := by
  intro pins s σ H xs us Q I rv ⟨a, C, d, fs, c, u, b, hx, k, T, hc, hb, q⟩
  subst hx
  cases rv with
  | cons r1 rr =>
    cases rr with
    | cons r2 rn =>
      cases rn
      obtain rfl : _ = Value.ref a := r1
      obtain ⟨oe, od, hi, _⟩ := held_inst I k
      rw [hc.eq r2] at *
      refine kia_one (held_kit T) I.kIn hi hb (by intro e; cases e) (fun tk => ⟨.bl b, H, I.tok tk, rfl, q⟩)
theorem call_isHT : CallR X (.builtin "isinstance") (rIsHT X.K) := by
  intro pins s σ H xs us Q I rv ⟨a, C, d, tp, fs, cs, vs, b, hx, k, T, ht, hc, hb, q⟩
  subst hx
  cases rv with
  | cons r1 rr =>
    cases rr with
    | cons r2 rn =>
      cases rn
      obtain rfl : _ = Value.ref a := r1
      obtain rfl : _ = Value.ref tp := r2
      obtain ⟨oe, od, hi, _⟩ := held_inst I k
      obtain ⟨its, hv, hT, _⟩ := I.tuple (.inl (.inl ht))
      have hh := ClsV.all hc hv
      subst hh
      obtain ⟨⟨c0, d0, dt0, sl0⟩, hg, hc0, n, hd0⟩ := hT
      subst hc0
      subst hd0
      exact kia_tup (held_kit T) I.kIn hi hg hb (by intro e; cases e) (fun tk => ⟨.bl b, H, I.tok tk, rfl, q⟩)
/-- caught.f -/
def tHf (K : Frag) (f : Str) (te : TE) : TE := fun σ H Q => te σ H fun x H1 => ∃ (a C d : Addr) (fs : List (Str × V)) (v : V), x = .ref a ∧ Kept H1 a C d fs ∧ XfC K C ∧ PySem.W.findIn K (.ref C) f = some none ∧ fs.lookup f = some v ∧ Q v H1
theorem pe_hf {e : Expr} {te : TE} {f : Str} {pos : Pos} (he : PE X e te) (hb : attributeBase e f X.env (eval e X.env) = eval e X.env := by rfl) : PE X (.Attribute e f pos) (tHf X.K f te) := by
  refine ⟨fun pins s σ H Q I h => ?_⟩
  refine attr_of hb (thn (he.run pins s σ H _ I h) fun u s1 hh => ?_)
  obtain ⟨x, H1, I1, rx, a, C, d, fs, v, ex, k, T, noN, hl, q⟩ := hh
  subst ex
  obtain rfl : u = Value.ref a := rx
  obtain ⟨oe, od, hi, mA, hla, hr⟩ := held_inst I1 k
  obtain ⟨u, hu, ru⟩ := RelO.some_of (v := v) (o := mA f) (by rw [← hl]; exact hr f)
  exact HandSPX.exc_get I1.kIn hi T.ga T.gg T.exC (PySem.W.findObj_own T.hdC noN rfl (by rw [hla, hu])) (handed_of ru) ⟨v, H1, I1.tok _, ru, q⟩
end
end Rg

set_option Elab.async false
set_option linter.all false
set_option maxRecDepth 100000
set_option maxHeartbeats 2000000
namespace Rg
open PySem PySem.Spec PyProof.Rows L2
/-! ### xs[a:b] = ys -/
def gSlc (to : TE) (tl th : TO) : TG := fun v σ H Q => to σ H fun x H1 => tl σ H1 fun lo H2 => th σ H2 fun hi H3 => ∃ (l b : Addr) (xs ys : List V) (i j : Int), x = .ref l ∧ v = .ref b ∧ lo = some i ∧ hi = some j ∧ H3 l = some (.lst xs) ∧ H3 b = some (.lst ys) ∧
  l ≠ b ∧ 0 ≤ i ∧ i ≤ j ∧ j ≤ xs.length ∧ xs.length + ys.length ≤ sizeLine ∧ Q σ (upd H3 l (.lst (xs.take i.toNat ++ ys ++ xs.drop j.toNat)))
theorem pg_slc {X : Cx} {o : Expr} {lo hi : Option Expr} {to : TE} {tl th : TO} {pos p2 : Pos} (ho : PE X o to) (hl : PO X lo tl) (hh : PO X hi th) :
    PG X (.Subscript o (.Slice lo hi none p2) pos) (gSlc to tl th) := by
  refine ⟨fun pins s σ H v u Q I rv h => ?_⟩
  rw [arm_assign_Subscript]
  refine wpAny_bind (wpAny_holding (thn (ho.run pins s σ H _ I h) fun ov s1 hh1 => ?_))
  obtain ⟨x, H1, I1, rx, h1⟩ := hh1
  refine wpAny_bind (wpAny_holding (wpAny_Slice (thn (hl.run pins s1 σ H1 _ I1 h1) fun vl s2 hh2 => ?_)))
  obtain ⟨a1, H2, I2, pl, h2⟩ := hh2
  refine thn (hh.run pins s2 σ H2 _ I2 h2) fun vu s3 hh3 => ?_
  obtain ⟨a2, H3, I3, pu, l, b, xs, ys, i, j, ex, ev, e1, e2, hL, hB, ne, i0, ij, jl, sz, q⟩ := hh3
  subst ex
  subst ev
  subst e1
  subst e2
  obtain rfl : ov = Value.ref l := rx
  obtain rfl : u = Value.ref b := rv
  refine evalPart_none_step (wpAny_bind (wpAny_standAt (wpAny_bind (wpAny_holding ?_))))
  have I4 : L2.Inv X pins σ H3 ⟨s3.heap.push { cls := Value.type "slice", data := Data.fields #[vl, vu, .none] }, s3.gens, s3.drawn, s3.toks, s3.os⟩ := I3.kept fun b o e => Heap.get?_push_of_some _ e
  cases pl with
  | int _ ti =>
    cases pu with
    | int _ tj =>
      exact set_slice I4 hL hB ne (Heap.IsSliceOf.new _ _ _ _) ⟨_, rfl⟩ ⟨_, rfl⟩ i0 ij jl sz fun s' J => wpAny_release ⟨σ, _, J, q⟩
/-! ### a text so many times -/
def repS (z : Str) (n : Nat) : Str := { cps := List.foldl (fun x1 x2 => x1 ++ x2) #[] (List.replicate n z.cps) }
theorem foldl_size (a : Array Nat) : ∀ (n : Nat) (b : Array Nat), (List.foldl (fun x1 x2 => x1 ++ x2) b (List.replicate n a)).size = b.size + n * a.size
  | 0, b => by simp
  | n + 1, b => by
    rw [List.replicate_succ, List.foldl_cons, foldl_size a n (b ++ a), Array.size_append]
    rw [Nat.add_mul]
    omega
theorem repS_len (z : Str) (n : Nat) : (repS z n).length = n * z.length := by
  have := foldl_size z.cps n #[]
  rw [Array.size_empty, Nat.zero_add] at this
  exact this
def rRepS : R2 := fun x y H Q => ∃ (z : Str) (n : Nat), x = .str z ∧ y = .int (n : Int) ∧ 2 ≤ n ∧ n ≤ 10000 ∧ 1 ≤ z.length ∧ z.length ≤ 1000 ∧ Q (.str (repS z n)) H
theorem op_repS {X : Cx} : OpR X (binaryOp .Mult) rRepS := by
  intro pins s σ H x y v u Q I rv ru ⟨z, n, ex, ey, h2, hn, z1, zz, q⟩
  subst ex
  subst ey
  obtain ⟨t, rfl⟩ := rv
  obtain ⟨t', rfl⟩ := ru
  have hp : z.length * n ≤ 1000 * 10000 := Nat.mul_le_mul zz hn
  have hb : ((n : Int) == 1 || z.length == 0) = false := by
    have a1 : ((n : Int) == 1) = false := by simp; omega
    have a2 : (z.length == 0) = false := by simp; omega
    rw [a1, a2]
    rfl
  refine P.mul_str (by simp; omega) (fun _ _ => ?_) (fun _ _ => ?_) ?_
  · have h1 : (z.length : Int) ≤ (2 ^ 63 - 1) / (n : Int) := by
      rw [Int.le_ediv_iff_mul_le (by omega)]
      have h3 : ((z.length * n : Nat) : Int) ≤ ((1000 * 10000 : Nat) : Int) := Int.ofNat_le.mpr hp
      rw [Int.natCast_mul] at h3
      omega
    omega
  · unfold Builtin.Str.tooLong
    rw [decide_eq_false]
    rw [Int.toNat_natCast, sizeLine_eq]
    omega
  · rw [if_neg (by omega), hb, if_neg Bool.false_ne_true, Int.toNat_natCast]
    refine ⟨?_, .str (repS z n), H, I.tok _, ⟨_, rfl⟩, q⟩
    show (repS z n).length ≤ sizeLine
    rw [repS_len, Nat.mul_comm, sizeLine_eq]
    omega
section
variable {H : Hp} {Q : VK} {z : Str} {n : Nat} {lo hi : Option Int}
theorem kRepS (h2 : 2 ≤ n) (hn : n ≤ 10000) (z1 : 1 ≤ z.length) (zz : z.length ≤ 1000) (q : Q (.str (repS z n)) H) : rRepS (.str z) (.int (n : Int)) H Q := ⟨z, n, rfl, rfl, h2, hn, z1, zz, q⟩
theorem kSlS (hz : z.length ≤ 100000) (q : Q (.str (cutS z lo hi)) H) : rSlS (.str z) lo hi H Q := ⟨z, rfl, szL hz, q⟩
theorem cutS_len (z : Str) (lo hi : Option Int) : (cutS z lo hi).length ≤ z.length := by
  show (List.toArray _).size ≤ z.cps.size
  rw [List.size_toArray, List.length_take, List.length_drop, Array.length_toList]
  omega
end
/-! ### list(range(n)) -/
section
variable {σ : L2.St} {H : Hp} {Q : VK} {d : Addr} {n : Nat} {L : Led} {te : TE}
theorem kListRg {t : L2.St → Hp → (Int → Int → Hp → Prop) → Prop} (h : t σ H fun a b H1 => RgOk a b ∧ ∀ q, H1 q = none → Q (.ref q) (upd H1 q (.lst (rgV a b)))) : tLstRg t σ H Q := h
theorem kRg1 {R : Int → Int → Hp → Prop} (h : te σ H fun x H1 => ∃ n, x = .int n ∧ R 0 n H1) : tRg1 te σ H R := h
end
theorem kRepT {d : Addr} {n : Nat} {L : Led} {H : Hp} {Q : VK} {K : PySem.W.Frag} {p : Addr} {xs : List V} {k : Int} (kn : Kn d n L H) (h : (p, .tup xs) ∈ L) (hne : xs ≠ []) (k0 : 2 ≤ k) (k1 : k ≤ 1000) (z : xs.length ≤ 1000) (g : ∀ l H', Kn d n ((l, .tup (List.replicate k.toNat xs).flatten) :: L) H' → Q (.ref l) H') : rRepT K (.ref p) (.int k) H Q :=
  ⟨p, k, xs, rfl, rfl, kn.seqT h, hne, k0, k1, z, fun l hl => g l _ (kn.new hl)⟩
end Rg

set_option Elab.async false
set_option linter.all false
set_option maxRecDepth 100000
set_option maxHeartbeats 2000000
namespace Rg
open PySem PySem.Spec PyProof.Rows L2
/-! ### the truth of lists; what a def that may raise lets out where it does not -/
section
variable {σ : L2.St} {H : Hp} {Q : VK} {te : TE} {K : PySem.W.Frag} {p : Addr} {xs : List V}
theorem kNotT (h : te σ H fun x H1 => ∃ k, TruV K x H1 k ∧ Q (.bl (!k)) H1) : tNotT K te σ H Q := h
theorem truL {k : Bool} (h : SqL K H p xs) (e : k = !xs.isEmpty) : TruV K (.ref p) H k := .inl ⟨xs, h, e⟩
theorem kTruL {P : Bool → Prop} (h : SqL K H p xs) (q : P (!xs.isEmpty)) : ∃ k, TruV K (.ref p) H k ∧ P k := ⟨_, truL h rfl, q⟩
def tTruth (K : PySem.W.Frag) (ta : TE) : L2.TT := fun σ H Q => ta σ H fun x H' => ∃ k, TruV K x H' k ∧ Q k H'
theorem kTruth {Q : Bool → Hp → Prop} (h : te σ H fun x H1 => ∃ k, TruV K x H1 k ∧ Q k H1) : tTruth K te σ H Q := h
theorem pt_tru {X : Cx} {a : Expr} {ta : TE} (ha : PE X a ta) (he : ∀ whole, isTrue a X.env whole = (do let v ← whole; standAt a.pos; holding [v] (truthy v))) : PT X a (tTruth X.K ta) := pt_truth ha he
theorem kBits {n : Int} (h : te σ H fun x H1 => ∃ i, x = .int i ∧ Q (.int (Builtin.Int.intBits i : Nat)) H1) : tBits te σ H Q := h
theorem kBI {i : Int} (q : Q (.int (Builtin.Int.intBits i : Nat)) H) : ∃ j, V.int i = .int j ∧ Q (.int (Builtin.Int.intBits j : Nat)) H := ⟨i, rfl, q⟩
theorem kCallS {sp : Sp} {E : L2.St → XK} {tr : TA} (h : tr σ H fun vs H1 => sp vs H1 Q (E σ)) : tCallS sp E tr σ H Q := h
end
theorem Kn.perm {d : Addr} {n : Nat} {L L' : Led} {H : Hp} (k : Kn d n L H) (h : L.Perm L') : Kn d n L' H := by
  obtain ⟨s, a, c, r, ns, l, e1, e2⟩ := k
  exact ⟨s, a, c, r, ns, l.perm ((h.cons _).cons _), e1, e2⟩
theorem kAsgT {σ : L2.St} {H : Hp} {te : TE} {K : PySem.W.Frag} {n : Nat} {gs : TGs} {nx bk ct : L2.St → Hp → Prop} {rt : VK} (h : te σ H fun x H1 => ∃ a xs, x = .ref a ∧ SqT K H1 a xs ∧ xs.length = n ∧ gs xs σ H1 nx) : tAsg te (gTup K n gs) (Ends.mk nx rt bk ct) σ H := h
theorem passX {P : Program} {w : World} {X : Cx} : Passes (L2.CX P w) X E0 := fun _ _ _ _ _ _ _ h => by
  obtain ⟨_, _, _, _, _, _, _, _, _, _, _, _, h⟩ := h
  exact h.elim
theorem atI_at {α : Type} {l : List α} {x : Int} {j : Nat} {v : α} (e : x = (j : Int)) (h : l[j]? = some v) : atI l x = some v := by
  subst e
  exact atI_nat h
/-! ### the least place of unlike bits, as & and - tell it -/
theorem and_half (a b : Nat) : (a &&& b) / 2 = a / 2 &&& b / 2 := by
  apply Nat.eq_of_testBit_eq
  intro i
  rw [Nat.testBit_and, Nat.testBit_div_two, Nat.testBit_div_two, Nat.testBit_div_two, Nat.testBit_and]
theorem xor_half (a b : Nat) : (a ^^^ b) / 2 = a / 2 ^^^ b / 2 := by
  apply Nat.eq_of_testBit_eq
  intro i
  rw [Nat.testBit_xor, Nat.testBit_div_two, Nat.testBit_div_two, Nat.testBit_div_two, Nat.testBit_xor]
theorem and_two (a b : Nat) : (a &&& b) % 2 = (a % 2) * (b % 2) := by
  have h := Nat.testBit_and a b 0
  simp only [Nat.testBit_zero] at h
  rcases Nat.mod_two_eq_zero_or_one a with ha | ha <;> rcases Nat.mod_two_eq_zero_or_one b with hb | hb <;> rcases Nat.mod_two_eq_zero_or_one (a &&& b) with hc | hc <;> simp [ha, hb, hc] at h ⊢
theorem xor_two (a b : Nat) : (a ^^^ b) % 2 = (a + b) % 2 := by
  have h := Nat.testBit_xor a b 0
  simp only [Nat.testBit_zero] at h
  rcases Nat.mod_two_eq_zero_or_one a with ha | ha <;> rcases Nat.mod_two_eq_zero_or_one b with hb | hb <;> rcases Nat.mod_two_eq_zero_or_one (a ^^^ b) with hc | hc <;> simp [ha, hb, hc] at h ⊢ <;> omega
theorem xor_and_sum : ∀ (n a b : Nat), a + b ≤ n → (a ^^^ b) + 2 * (a &&& b) = a + b
  | 0, a, b, h => by
    have ha : a = 0 := by omega
    have hb : b = 0 := by omega
    subst ha
    subst hb
    rfl
  | n + 1, a, b, h => by
    by_cases h0 : a + b = 0
    · have ha : a = 0 := by omega
      have hb : b = 0 := by omega
      subst ha
      subst hb
      rfl
    have ih := xor_and_sum n (a / 2) (b / 2) (by omega)
    have h1 := and_half a b
    have h2 := xor_half a b
    have h3 := and_two a b
    have h4 := xor_two a b
    rw [← h1, ← h2] at ih
    have h5 : (a % 2) * (b % 2) = if a % 2 = 1 ∧ b % 2 = 1 then 1 else 0 := by
      rcases Nat.mod_two_eq_zero_or_one a with ha | ha <;> rcases Nat.mod_two_eq_zero_or_one b with hb | hb <;> simp [ha, hb]
    rw [h5] at h3
    split at h3 <;> omega
theorem bitXor_nat (a b : Nat) : Builtin.bitXor (a : Int) (b : Int) = ((a ^^^ b : Nat) : Int) := by
  rw [bitXor_and]
  have h : Builtin.bitAnd (a : Int) (b : Int) = ((a &&& b : Nat) : Int) := by
    unfold Builtin.bitAnd
    rw [decide_eq_true (Int.natCast_nonneg a), decide_eq_true (Int.natCast_nonneg b)]
    rfl
  rw [h]
  have := xor_and_sum (a + b) a b (Nat.le_refl _)
  omega
def lowB (u : Nat) : Nat := u - (u &&& (u - 1))
theorem bitAnd_neg {u : Nat} (h : 0 < u) : Builtin.bitAnd (u : Int) (-(u : Int)) = ((lowB u : Nat) : Int) := by
  unfold Builtin.bitAnd
  rw [decide_eq_true (Int.natCast_nonneg u), decide_eq_false (by omega)]
  show (u : Int) - (((u : Int).toNat &&& (-(-(u : Int)) - 1).toNat : Nat) : Int) = _
  have e : (-(-(u : Int)) - 1).toNat = u - 1 := by omega
  rw [e, Int.toNat_natCast]
  unfold lowB
  have : u &&& (u - 1) ≤ u := Nat.and_le_left
  omega
theorem low_odd {u : Nat} (h : u % 2 = 1) : lowB u = 1 := by
  unfold lowB
  have h1 := and_half u (u - 1)
  have h2 := and_two u (u - 1)
  have h3 : (u - 1) / 2 = u / 2 := by omega
  have h4 : (u - 1) % 2 = 0 := by omega
  rw [h3, Nat.and_self] at h1
  rw [h4, Nat.mul_zero] at h2
  omega
theorem low_even {v : Nat} (h : 0 < v) : lowB (2 * v) = 2 * lowB v := by
  unfold lowB
  have h1 := and_half (2 * v) (2 * v - 1)
  have h2 := and_two (2 * v) (2 * v - 1)
  have h3 : (2 * v - 1) / 2 = v - 1 := by omega
  have h4 : (2 * v) % 2 = 0 := by omega
  have h5 : 2 * v / 2 = v := by omega
  rw [h3, h5] at h1
  rw [h4, Nat.zero_mul] at h2
  omega
theorem xor_pos {a b : Nat} (h : a ≠ b) : 0 < a ^^^ b := by
  rcases Nat.eq_zero_or_pos (a ^^^ b) with e | e
  · refine absurd ?_ h
    apply Nat.eq_of_testBit_eq
    intro i
    have := Nat.testBit_xor a b i
    rw [e, Nat.zero_testBit] at this
    revert this
    cases a.testBit i <;> cases b.testBit i <;> simp
  · exact e
theorem bits_pow (k : Nat) : Builtin.Int.intBits ((2 ^ k : Nat) : Int) = k + 1 := by
  unfold Builtin.Int.intBits
  have hp : 0 < 2 ^ k := Nat.two_pow_pos k
  have hz : ¬ (((2 ^ k : Nat) : Int) == 0) = true := by
    rw [beq_iff_eq]
    omega
  rw [if_neg hz]
  have : (((2 ^ k : Nat) : Int)).natAbs = 2 ^ k := Int.natAbs_natCast _
  rw [this, Nat.log2_two_pow]
end Rg

set_option Elab.async false
set_option linter.all false
set_option maxRecDepth 100000
set_option maxHeartbeats 2000000
namespace Rg
open PySem PySem.Spec PyProof.Rows L2
/-! ### max, min of a tuple of whole numbers -/
section
variable {prog : Program} {w : World} {A : Around} {E : Value → Shared → Prop} {s : Shared} {l : Addr} {its : List Value} {ns : List Int} {Q : Value → Shared → Prop} {xs : Array (Int × Tok)}
theorem iter_intTup {Q : Value → Shared → Prop} (hl : s.heap.IsTuple l (intItems xs))
    (h : ∀ s₂ : Shared, s₂ = { s with heap := s.heap.push { cls := .type "tuple_iterator", data := .fields #[.ref l, .int 0 0] } } →
      (s₂.heap.IsTupleIter s.heap.objs.size l 0 ∧ s₂.heap.IsTuple l (intItems xs)) → (∀ b ∈ [s.heap.objs.size, l], b < s₂.heap.objs.size) → l ≠ s.heap.objs.size → Q (.ref s.heap.objs.size) s₂) :
    wpAny (model prog w) A (pyIter (.ref l)) Q E s := by
  have hlt : l < s.heap.objs.size := by obtain ⟨_, e, _⟩ := hl; exact Heap.lt_size e
  refine wpAny_pyIter_tuple hl (h _ rfl ⟨⟨_, Heap.get?_push_size _ rfl, rfl, rfl⟩, hl.push _⟩ (fun b hb => ?_) (Nat.ne_of_lt hlt))
  show b < (s.heap.push _).objs.size
  rw [Heap.size_push]
  rcases List.mem_cons.mp hb with rfl | hb
  · exact Nat.lt_succ_self _
  · rcases List.mem_cons.mp hb with rfl | hb
    · exact Nat.lt_succ_of_lt hlt
    · cases hb
theorem old_keptT {h' : Heap} (hk : ∀ b o, b ∉ [s.heap.objs.size] → (s.heap.push { cls := .type "tuple_iterator", data := .fields #[.ref l, .int 0 0] }).get? b = some o → h'.get? b = some o) :
    ∀ b o, s.heap.get? b = some o → h'.get? b = some o := fun b o e => by
  refine hk b o (fun hm => ?_) (Heap.get?_push_of_some _ e)
  rcases List.mem_cons.mp hm with e1 | hm
  · exact absurd (e1 ▸ Heap.lt_size e) (Nat.lt_irrefl _)
  · cases hm
theorem max_rawT (hh : A.handled = none) (hl : s.heap.IsTuple l its.toArray) (hi : IntsAre its ns) (hne : 0 < ns.length)
    (h : ∀ h' tk M t', (∀ b o, s.heap.get? b = some o → h'.get? b = some o) → M ∈ ns → (∀ a, a ∈ ns → a ≤ M) → Q (.int M t') { s with heap := h', toks := tk }) : wpAny (model prog w) A (call (.builtin "max") [.ref l]) Q E s := by
  obtain ⟨xs, e⟩ := hi.allInts.items
  have hn : numsOf (intItems xs).toList = ns := by rw [← e]; exact hi.numsOf
  rw [nums_intItems] at hn
  subst hn
  rw [e] at hl
  have hsz : 0 < xs.size := by simpa using hne
  refine call_max_walk (iter_intTup hl fun s₂ e st hfp hlI => ?_)
  subst e
  refine ⟨_, _, _, _, _, _, _, rfl, Walks.tuple (A := A.in1) hh _ l hlI (intItems xs), st, hfp, by simpa [intItems] using hsz, CmpOf.ints_gt (numAt xs) (fun _ _ => intItems_at), fun v h' tk hP hk => ?_⟩
  have hv : (intItems xs)[argBest (fun i j => decide (numAt xs i > numAt xs j)) (xs.size - 1)]? = some v := by simpa [intItems] using hP
  obtain ⟨t, rfl⟩ := intItems_at hv
  obtain ⟨h1, h2⟩ := argBest_gt (numAt xs) (xs.size - 1)
  refine h h' tk _ t (old_keptT hk) ?_ fun a ha => ?_
  · rw [numAt_eq]; exact PySem.getD_mem (by rw [List.length_map, Array.length_toList]; omega)
  · obtain ⟨j, hj, rfl⟩ := mem_getD ha
    rw [List.length_map, Array.length_toList] at hj
    rw [← numAt_eq]; exact h2 j (by omega)
theorem min_rawT (hh : A.handled = none) (hl : s.heap.IsTuple l its.toArray) (hi : IntsAre its ns) (hne : 0 < ns.length)
    (h : ∀ h' tk M t', (∀ b o, s.heap.get? b = some o → h'.get? b = some o) → M ∈ ns → (∀ a, a ∈ ns → M ≤ a) → Q (.int M t') { s with heap := h', toks := tk }) : wpAny (model prog w) A (call (.builtin "min") [.ref l]) Q E s := by
  obtain ⟨xs, e⟩ := hi.allInts.items
  have hn : numsOf (intItems xs).toList = ns := by rw [← e]; exact hi.numsOf
  rw [nums_intItems] at hn
  subst hn
  rw [e] at hl
  have hsz : 0 < xs.size := by simpa using hne
  refine call_min_walk (iter_intTup hl fun s₂ e st hfp hlI => ?_)
  subst e
  refine ⟨_, _, _, _, _, _, _, rfl, Walks.tuple (A := A.in1) hh _ l hlI (intItems xs), st, hfp, by simpa [intItems] using hsz, CmpOf.ints_lt (numAt xs) (fun _ _ => intItems_at), fun v h' tk hP hk => ?_⟩
  have hv : (intItems xs)[argBest (fun i j => decide (numAt xs i < numAt xs j)) (xs.size - 1)]? = some v := by simpa [intItems] using hP
  obtain ⟨t, rfl⟩ := intItems_at hv
  obtain ⟨h1, h2⟩ := argBest_lt (numAt xs) (xs.size - 1)
  refine h h' tk _ t (old_keptT hk) ?_ fun a ha => ?_
  · rw [numAt_eq]; exact PySem.getD_mem (by rw [List.length_map, Array.length_toList]; omega)
  · obtain ⟨j, hj, rfl⟩ := mem_getD ha
    rw [List.length_map, Array.length_toList] at hj
    rw [← numAt_eq]; exact h2 j (by omega)
end
section
variable {X : Cx}
def rMaxT (K : PySem.W.Frag) : List V → Hp → VK → Prop := fun vs H Q => ∃ (a : Addr) (ns : List Int), vs = [V.ref a] ∧ SqT K H a (ns.map V.int) ∧ 0 < ns.length ∧ ∀ m, m ∈ ns → (∀ y, y ∈ ns → y ≤ m) → Q (.int m) H
def rMinT (K : PySem.W.Frag) : List V → Hp → VK → Prop := fun vs H Q => ∃ (a : Addr) (ns : List Int), vs = [V.ref a] ∧ SqT K H a (ns.map V.int) ∧ 0 < ns.length ∧ ∀ m, m ∈ ns → (∀ y, y ∈ ns → m ≤ y) → Q (.int m) H
theorem cr_maxT (hc : X.calm = true) : CallR X (.builtin "max") (rMaxT X.K) := by
  intro pins s σ H vs us Q I r h
  obtain ⟨a, ns, rfl, hs, hne, q⟩ := h
  obtain ⟨its, rv, p, hz⟩ := I.tuple hs
  obtain ⟨ob, p1, p2, n, p3⟩ := id p
  have ht : s.heap.IsTuple a its.toArray := ⟨ob, p1, p2, n, p3⟩
  rw [Vals.ref1 r]
  exact max_rawT (I.ok.hd hc) ht rv.ints hne fun h' tk m t' hk h1 h2 => ⟨.int _, H, I.kept hk, ⟨_, rfl⟩, q m h1 h2⟩
theorem cr_minT (hc : X.calm = true) : CallR X (.builtin "min") (rMinT X.K) := by
  intro pins s σ H vs us Q I r h
  obtain ⟨a, ns, rfl, hs, hne, q⟩ := h
  obtain ⟨its, rv, p, hz⟩ := I.tuple hs
  obtain ⟨ob, p1, p2, n, p3⟩ := id p
  have ht : s.heap.IsTuple a its.toArray := ⟨ob, p1, p2, n, p3⟩
  rw [Vals.ref1 r]
  exact min_rawT (I.ok.hd hc) ht rv.ints hne fun h' tk m t' hk h1 h2 => ⟨.int _, H, I.kept hk, ⟨_, rfl⟩, q m h1 h2⟩
end
section
variable {K : PySem.W.Frag} {H : Hp} {Q : VK} {p : Addr} {ns : List Int}
theorem kMaxT (h : SqT K H p (ns.map V.int)) (h0 : 0 < ns.length) (q : ∀ m, m ∈ ns → (∀ y, y ∈ ns → y ≤ m) → Q (.int m) H) : rMaxT K [.ref p] H Q := ⟨p, ns, rfl, h, h0, q⟩
theorem kMinT (h : SqT K H p (ns.map V.int)) (h0 : 0 < ns.length) (q : ∀ m, m ∈ ns → (∀ y, y ∈ ns → m ≤ y) → Q (.int m) H) : rMinT K [.ref p] H Q := ⟨p, ns, rfl, h, h0, q⟩
theorem kMinL (h : SqL K H p (ns.map V.int)) (h0 : 0 < ns.length) (q : ∀ m, m ∈ ns → (∀ y, y ∈ ns → m ≤ y) → Q (.int m) H) : rMin K [.ref p] H Q := ⟨p, ns, rfl, h, h0, q⟩
end
/-! ### for x, y in zip(xs, ys) -/
theorem kForZ {σ : L2.St} {H : Hp} {tb : TS} {j l : Nat} {ta : TA} {K : PySem.W.Frag} {nx bk ct : L2.St → Hp → Prop} {rt : VK} (G : Addr → Addr → List V → List V → Hp → Prop)
    (src : ∀ R : List V → Hp → Prop, (∀ a b xs ys H', G a b xs ys H' → R [.ref a, .ref b] H') → ta σ H R)
    (body : ∀ a b xs ys H1, G a b xs ys H1 → SqL K H1 a xs ∧ SqL K H1 b ys ∧ ∃ Pv : Nat → L2.St → Hp → Prop, Pv 0 σ H1 ∧ (∀ i σ' H', Pv i σ' H' → SqL K H' a xs ∧ SqL K H' b ys) ∧
      (∀ (i : Nat) x y σ' H' T, xs[i]? = some x → ys[i]? = some y → Pv i σ' H' → H' T = none → tb (Ends.mk (Pv (i + 1)) rt nx (Pv (i + 1))) ((σ'.set j (some x)).set l (some y)) (upd H' T (.tup [x, y]))) ∧ ∀ σ' H', Pv (min xs.length ys.length) σ' H' → nx σ' H') :
    tFor (iZip K ta) (gTup K 2 (gCons (gName j) (gCons (gName l) gNil))) tb (Ends.mk nx rt bk ct) σ H := by
  refine src _ fun a b xs ys H1 hG => ?_
  obtain ⟨ha, hb, Pv, h0, hl, hs, hd⟩ := body a b xs ys H1 hG
  refine ⟨a, b, xs, ys, rfl, ha, hb, for_it (walk_zip (xs := xs) (ys := ys) rfl) Pv h0 (fun i σ' H' _ p => hl i σ' H' p) (fun i v σ' H' H2 hi hp y => ?_) hd⟩
  obtain ⟨T, x1, x2, rfl, hT, rfl, e1, e2⟩ := y
  exact ⟨T, [x1, x2], rfl, .inl (.inl upd_same), rfl, _, _, rfl, _, _, rfl, rfl, hs i x1 x2 σ' H' T e1 e2 hp hT⟩
end Rg

set_option Elab.async false
set_option linter.all false
set_option maxRecDepth 100000
set_option maxHeartbeats 2000000
/-! # Defs that are called within an except suite, with the exception that is handled; they raise nothing -/
namespace Rg
open PySem PySem.W PySem.Spec PySem.HandSPX PyProof.Rows L2
abbrev SpP := Addr → Value → Option Addr → Sp
/-- what a def promises there: p is the exception -/
structure FnP (P : Program) (w : World) (K : PySem.W.Frag) (mg : Str → Option Value) (base : Heap) (k : Nat) (f : Addr) (fd : FuncData) (ps : List Str) (sp : SpP) : Prop where
  len : ∀ a cls d vs H Q E, sp a cls d vs H Q E → vs.length = ps.length
  run : ∀ (A : Around) (outer : List Env) (s : Shared) (H : Hp) (args : Args) (us : List Value) (vs : List V) (Q : VK) (E : XK) (p : Addr × Obj) (cls : Value) (d : Option Addr), L2H.RoomH k A → L2H.PinOk outer H s p → Zc cls d p.2 → (∃ vs, p.2.data = .fields vs) → Env0 P w K mg base A outer s H → BindsTo s fd args (ps.zip us) → Vals vs us →
    sp p.1 cls d vs H Q E → codeAny (model P w) A (.call (.ref f) args) (CR CX0 outer P w H s Q E) s
theorem fn_ofP {P : Program} {w : World} {K : PySem.W.Frag} {mg : Str → Option Value} {base : Heap} {k : Nat} {f : Addr} {name qual : Str} {params : Arguments} {body : List Stmt} {scope : Scope} {dV kV doc pm cdv ct oc : Value} {an od : Option Addr}
    {osl : Array (Option Value)} {N ps : List Str} {sp : SpP} (lk : K.lookup f = some ⟨oc, od, .func (PySem.W.fnOf name qual params body scope dV kV doc pm an cdv ct), osl⟩) (hcd : PySem.W.codeIn K cdv qual = true) (S : FnScope N ps scope)
    (len : ∀ a cls d vs H Q E, sp a cls d vs H Q E → vs.length = ps.length)
    (hbody : ∀ (A : Around) (outer : List Env) (s : Shared) (H : Hp) (vs : List V) (Q : VK) (E : XK) (p : Addr × Obj) (cls : Value) (d : Option Addr), Zc cls d p.2 → (∃ vs, p.2.data = .fields vs) → L2H.RoomH k (A.deeper (envOfC qual scope s.heap.objs.size f cdv)) → sp p.1 cls d vs H Q E →
      ∃ t, PSs (L2H.cxH CX0 P w K mg base N qual scope f cdv A outer s H E p) body t ∧ t { nx := fun _ H' => Q .non H', rt := Q } (L2.start N vs) H) :
    FnP P w K mg base (k + 1) f (PySem.W.fnOf name qual params body scope dV kV doc pm an cdv ct) ps sp := by
  refine ⟨len, fun A outer s H args us vs Q E p cls d hr hpin hz hf e0 hb r hsp => ?_⟩
  have hl := len _ _ _ _ _ _ _ hsp
  have KX : K.In s.heap := e0.mod.kin.keeps fun b o e => (e0.bs b o e).1
  have lim : s.heap.NoLimit := e0.mod.nolimit.keeps fun b o e => (e0.bs b o e).1
  have hkind : ∀ y ∈ ps.zip us, scope.names.lookup y.1 = some .local ∨ (scope.names.lookup y.1 = some .cell ∧ ((cellsFrom (s.heap.objs.size + 1) scope.names []).lookup y.1).isSome = true) := fun ⟨n, v⟩ hy => by
    rcases S.par n (List.of_mem_zip hy).1 with q | q
    · exact .inl q
    · exact .inr ⟨q, PySem.W.cellsFrom_some _ _ _ (.inl q)⟩
  refine codeAny_call_function hr.depth (KX _ _ lk) rfl S.co S.gen rfl (PySem.W.codeRec_of KX hcd) (hb _ _ _ _ ?_)
  refine wpAny_newFunctionEnv_cells S.kind hkind fun env he s1 x => ?_
  subst he
  refine ⟨lim.keeps x.toInCall.keep, codeAny_func ?_⟩
  obtain ⟨t, ht, hq⟩ := hbody A outer s H vs Q E p cls d hz hf (hr.deeper _) hsp
  have I : L2.Inv (L2H.cxH CX0 P w K mg base N qual scope f cdv A outer s H E p) [] (L2.start N vs) H s1 := L2H.inv_startH S hpin e0 hl r x
  refine wpAny_mono (ht.run [] s1 (L2.start N vs) H _ I hq) (fun fl s' hs => ?_) fun e s' hs => hs
  have fin : ∀ {σ' : L2.St} {H' : Hp} {v : V} {u : Value}, L2.Inv (L2H.cxH CX0 P w K mg base N qual scope f cdv A outer s H E p) [] σ' H' s' → RelV v u → Q v H' → CE outer P w H s Q u s' :=
    fun {σ' H' v u} J rv q => ⟨v, H', J.os, J.bare, J.base, J.hok, rv, q⟩
  cases fl with
  | ret u =>
    obtain ⟨v, σ', H', J, rv, q⟩ := hs
    exact fin J rv q
  | next =>
    obtain ⟨σ', H', J, q⟩ := hs
    exact fin (v := V.non) (u := Value.none) J rfl q
  | brk =>
    obtain ⟨_, _, _, q⟩ := hs
    exact False.elim q
  | cont =>
    obtain ⟨_, _, _, q⟩ := hs
    exact False.elim q
theorem okP {P : Program} {w : World} {K : PySem.W.Frag} {mg : Str → Option Value} {base : Heap} {x qual : Str} {st : Stmt} {f : Addr} {fd : FuncData} {N ps : List Str} {k : Nat} {sp : SpP} (F : Fun K x qual st f fd) (S : FnScope N ps (defScope st)) (len : ∀ a cls d vs H Q E, sp a cls d vs H Q E → vs.length = ps.length)
    (hbody : ∀ (cdv : Value) (A : Around) (outer : List Env) (s : Shared) (H : Hp) (vs : List V) (Q : VK) (E : XK) (p : Addr × Obj) (cls : Value) (d : Option Addr), Zc cls d p.2 → (∃ vs, p.2.data = .fields vs) → L2H.RoomH k (A.deeper (envOfC qual (defScope st) s.heap.objs.size f cdv)) → sp p.1 cls d vs H Q E →
      ∃ t, PSs (L2H.cxH CX0 P w K mg base N qual (defScope st) f cdv A outer s H E p).nox (defBody st) t ∧ t { nx := fun _ H' => Q .non H', rt := Q } (L2.start N vs) H) : FnP P w K mg base (k + 1) f fd ps sp := by
  obtain ⟨oc, od, kV, doc, pm, an, cdv, ct, osl, rfl, lk, hcd⟩ := F.ex
  refine fn_ofP lk hcd S len fun A outer s H vs Q E p cls d hz hf hr hsp => ?_
  obtain ⟨t, h, q⟩ := hbody cdv A outer s H vs Q E p cls d hz hf hr hsp
  exact ⟨t, h.nox, q⟩
section
variable {X : Cx} {k : Nat} {f : Addr} {fd : FuncData} {ps : List Str} {sp : SpP} {x : Str} {q pos : Pos} {e : Expr} {es : List Expr} {t : TA} {p : Addr × Obj} {cls : Value} {d : Option Addr}
def tCallP (sp : Sp) (t : TA) : TE := fun σ H Q => t σ H fun vs H1 => sp vs H1 Q E0
theorem kCallP {σ : L2.St} {H : Hp} {Q : VK} {sp : Sp} (h : t σ H fun vs H1 => sp vs H1 Q E0) : tCallP sp t σ H Q := h
theorem pe_callP {a : Addr} {oe : Obj} (F : FnP X.prog X.w X.K X.mg X.base k f fd ps sp) (hr : L2H.RoomH k X.A) (hp : (a, oe) ∈ X.pn) (hz : Zc cls d oe) (hf : ∃ vs, oe.data = .fields vs) (hg : Gl X x) (hm : X.mg x = some (.ref f)) (hk : PySem.W.keepIn X.K (.ref f) = true) (hb : Binds X.K fd ps [])
    (ha : PA X (e :: es) t) (hdb : (x == ("__debug__" : Str)) = false := by decide) (he : starEach (e :: es) X.env = (false, eval e X.env) :: starEach es X.env := by rfl) (hpl : (backTo pos (starEach es X.env)).any (·.1) = false := by rfl) :
    PE X (.Call (.Name x q) (e :: es) [] pos) (tCallP (sp a cls d) t) := by
  refine ⟨fun pins s σ H Q I h => ?_⟩
  refine wpAny_Call_Name_kw (ld_glob I hg hm ?_ hdb)
  refine PySem.W.callWith_K (h₀ := X.base) I.ok.mod.kin hk (thn (ha.run pos pins s σ H _ I h) fun us s1 ⟨vs, H1, I1, r, q⟩ => ⟨I1.kIn, ?_⟩) he hpl
  have hl : us.length = ps.length := by rw [← r.length]; exact F.len _ _ _ _ _ _ _ q
  have b := hb s1 us I1.kIn (by rw [List.append_nil]; exact hl)
  rw [List.append_nil] at b
  have P1 := I1.pin (a, oe) (List.mem_append_left _ hp)
  have hpin : L2H.PinOk X.stack H1 s1 (a, oe) := ⟨P1.1, P1.2.1, fun hm => (List.mem_cons.mp (I1.stkSub a hm)).elim P1.2.2.1 P1.2.2.2.1, P1.2.2.2.2⟩
  refine wpAny_call (codeAny_mono (F.run X.A X.stack s1 H1 ⟨us, []⟩ us vs Q E0 (a, oe) cls d hr hpin hz hf I1.env0 b r q) fun r s' hq => ?_)
  cases r with
  | error e => exact False.elim hq
  | ok fl =>
    cases fl with
    | ret u => exact I1.after hq
    | next => exact False.elim hq
    | brk => exact False.elim hq
    | cont => exact False.elim hq
/-- isinstance(e, c) of it -/
def rIsP (K : Frag) (a : Addr) (cls : Value) (d : Option Addr) : List V → Hp → VK → Prop := fun xs H Q => ∃ (C dd : Addr) (fs : List (Str × V)) (c : V) (u : Value) (b : Bool), xs = [.ref a, c] ∧ cls = .ref C ∧ d = some dd ∧ H dd = some (.xd fs) ∧ L2.ExcC K C ∧ ClsV c u ∧ kitOne K (.ref C) u = some b ∧ Q (.bl b) H
theorem inst_pin {pins : List (Addr × Obj)} {σ : L2.St} {H : Hp} {s : Shared} {C dd : Addr} {fs : List (Str × V)} (I : L2.Inv X pins σ H s) (hp : p ∈ X.pn) (hz : Zc (.ref C) (some dd) p.2) (hf : ∃ vs, p.2.data = .fields vs) (hx : H dd = some (.xd fs)) :
    ∃ od, W.InstAt s.heap p.1 p.2 C (some od) ∧ (∃ mA : Str → Option Value, (∀ name : Str, lookIn name od = some (mA name)) ∧ ∀ f : Str, RelO (fs.lookup f) (mA f)) := by
  obtain ⟨vs, hdat⟩ := hf
  have hget := (I.pin p (List.mem_append_left _ hp)).1
  obtain ⟨mA, hns, hr⟩ := (I.hok dd _ hx : ObjOk _ _ _ _ _ (.xd _))
  obtain ⟨od, ho, hl⟩ := lookIn_ns hns
  exact ⟨od, ⟨hget, hz.1, by unfold PySem.W.notCls; rw [hdat] <;> rfl, by rw [hz.2]; exact ho⟩, mA, hl, hr⟩
theorem call_isP (hp : p ∈ X.pn) (hz : Zc cls d p.2) (hf : ∃ vs, p.2.data = .fields vs) : CallR X (.builtin "isinstance") (rIsP X.K p.1 cls d) := by
  intro pins s σ H xs us Q I rv ⟨C, dd, fs, c, u, b, hx, ec, ed, hxd, T, hc, hb, q⟩
  subst hx
  subst ec
  subst ed
  cases rv with
  | cons r1 rr =>
    cases rr with
    | cons r2 rn =>
      cases rn
      obtain rfl : _ = Value.ref p.1 := r1
      obtain ⟨od, hi, _⟩ := inst_pin I hp hz hf hxd
      rw [hc.eq r2] at *
      refine kia_one (held_kit T) I.kIn hi hb (by intro e; cases e) (fun tk => ⟨.bl b, H, I.tok tk, rfl, q⟩)
/-- e.f -/
def tPf (K : Frag) (a : Addr) (cls : Value) (d : Option Addr) (f : Str) (te : TE) : TE := fun σ H Q => te σ H fun x H1 => ∃ (C dd : Addr) (fs : List (Str × V)) (v : V), x = .ref a ∧ cls = .ref C ∧ d = some dd ∧ H1 dd = some (.xd fs) ∧ XfC K C ∧ PySem.W.findIn K (.ref C) f = some none ∧ fs.lookup f = some v ∧ Q v H1
theorem pe_pf {f : Str} {te : TE} (hp : p ∈ X.pn) (hz : Zc cls d p.2) (hf : ∃ vs, p.2.data = .fields vs) (he : PE X e te) (hb : attributeBase e f X.env (eval e X.env) = eval e X.env := by rfl) : PE X (.Attribute e f pos) (tPf X.K p.1 cls d f te) := by
  refine ⟨fun pins s σ H Q I h => ?_⟩
  refine attr_of hb (thn (he.run pins s σ H _ I h) fun u s1 hh => ?_)
  obtain ⟨x, H1, I1, rx, C, dd, fs, v, ex, ec, ed, hxd, T, noN, hl, q⟩ := hh
  subst ex
  subst ec
  subst ed
  obtain rfl : u = Value.ref p.1 := rx
  obtain ⟨od, hi, mA, hla, hr⟩ := inst_pin I1 hp hz hf hxd
  obtain ⟨u, hu, ru⟩ := RelO.some_of (v := v) (o := mA f) (by rw [← hl]; exact hr f)
  exact HandSPX.exc_get I1.kIn hi T.ga T.gg T.exC (PySem.W.findObj_own T.hdC noN rfl (by rw [hla, hu])) (handed_of ru) ⟨v, H1, I1.tok _, ru, q⟩
end
section
variable {σ : L2.St} {H : Hp} {Q : VK} {K : Frag} {a C dd : Addr} {fs : List (Str × V)} {te : TE} {c : V} {u : Value} {b : Bool}
theorem kIsP (hx : H dd = some (.xd fs)) (T : L2.ExcC K C) (hc : ClsV c u) (hb : kitOne K (.ref C) u = some b) (q : Q (.bl b) H) : rIsP K a (.ref C) (some dd) [.ref a, c] H Q := ⟨C, dd, fs, c, u, b, rfl, rfl, rfl, hx, T, hc, hb, q⟩
theorem kPf {f : Str} {cls : Value} {d : Option Addr} (h : te σ H fun x H1 => ∃ (C dd : Addr) (fs : List (Str × V)) (v : V), x = .ref a ∧ cls = .ref C ∧ d = some dd ∧ H1 dd = some (.xd fs) ∧ XfC K C ∧ PySem.W.findIn K (.ref C) f = some none ∧ fs.lookup f = some v ∧ Q v H1) : tPf K a cls d f te σ H Q := h
end
theorem roomS {k : Nat} {A : Around} {h : Option Value} (r : Room k A) : L2H.RoomH k (A.mark h) := ⟨r.dp, r.un⟩
/-! ### except x as n, the exception gone behind it -/
theorem noTk {X : Cx} : Takes X (fun _ _ _ _ => False) := fun u s' x => by
  obtain ⟨_, _, _, _, _, _, _, _, _, _, _, _, _, _, _, _, h⟩ := x
  exact h.elim
theorem ps_gone {X : Cx} {x n : Str} {c : Value} {i : Nat} {body suite : List Stmt} {b₀ : Stmt} {np pos pos' : Pos} {tb : WX → TS} {ts : Addr → Value → Option Addr → TS}
    (hs : X.stack = X.env :: X.outer) (hf : X.env.frame = some X.env.locals) (hN : X.N.Nodup) (hi : X.N[i]? = some n) (hln : X.env.kindOf n = some .local) (hg : Gl X x) (hc : X.mg x = some c)
    (hb : ∀ (W : WX) (pn : List (Addr × Obj)) (xe : Value → Shared → Prop), Takes (X.tr pn xe) W → PSs (X.tr pn xe) body (tb W))
    (hsu : ∀ (a : Addr) (oe : Obj) (cls : Value) (d : Option Addr) (pn : List (Addr × Obj)), Zc cls d oe → (∃ vs, oe.data = Data.fields vs) → PSs (X.suite a ((a, oe) :: pn)) (b₀ :: suite) (ts a cls d))
    (hd : (x == ("__debug__" : Str)) = false := by rfl) :
    PS X (.Try body [.ExceptHandler (some (.Name x np)) (some n) (b₀ :: suite) pos'] [] [] pos) (fun D σ H => tb (wAs X.K c i ts (fun _ _ _ _ => False) D) D σ H) :=
  ps_try_as hs hf hN hi hln ⟨hg, hd, .inl hc⟩ noTk (fun W pn xe tk _ => hb W pn xe tk) hsu
end Rg

set_option Elab.async false
set_option linter.all false
set_option maxRecDepth 100000
set_option maxHeartbeats 2000000
/-! # A refusal made and kept as a value -/
namespace Rg
open PySem PySem.W PySem.Spec PySem.HandSPX PyProof.Rows L2
section
variable {X : Cx} {C fI : Addr} {fld : Str} {msg : Expr} {G : Value → Prop} {fd : FuncData} {bmB : List Value}
/-- C(e), the exception itself -/
def tMkV (C : Addr) (fld : Str) (ta : TA) : TE := fun σ H Q => ta σ H fun vs H1 => ∃ v, vs = [v] ∧ ∀ d e, H1 d = none → H1 e = none → d ≠ e → Q (.ref e) (upd (upd H1 d (.xd [(fld, v)])) e (exh e (.ref C) (some d)))
theorem pe_mkV {x : Str} {a : Expr} {ta : TA} {p pos : Pos} {k : Nat} (hex : X.ex = []) (T : ExT X.prog X.K X.mg fld C fI bmB) (J : ExI X.prog X.K fld C fI fd msg) (hmsg : MsgOk X.prog X.w fld msg (fun _ => True)) (hr : Room k X.A) (ha : PA X [a] ta) (hm : X.mg x = some (.ref C)) (hg : Gl X x := by rfl)
    (hd : (x == ("__debug__" : Str)) = false := by rfl) (he : starEach (a :: []) X.env = (false, eval a X.env) :: starEach [] X.env := by rfl) (hpl : (backTo pos (starEach [] X.env)).any (·.1) = false := by rfl) :
    PE X (.Call (.Name x p) [a] [] pos) (tMkV C fld ta) := by
  refine ⟨fun pins s σ H Q I h => ?_⟩
  refine wpAny_Call_Name_kw (ld_glob I hg hm ?_ hd)
  refine PySem.W.callWith_K (h₀ := X.base) I.ok.mod.kin T.kC (thn (ha.run pos pins s σ H _ I h) fun us s1 hh => ?_) he hpl
  obtain ⟨vs, H1, I1, r1, v, ev, q1⟩ := hh
  subst ev
  refine ⟨I1.kIn, ?_⟩
  cases r1 with
  | cons rv rn =>
    rename_i v' us'
    cases rn
    show wpAny _ _ (call (.ref C) [v']) _ _ _
    have hlim := I1.nolimit
    obtain ⟨mb, hmb, hbt⟩ := I1.ok.mod.blt
    have hgl : s1.heap.Ns mainGlobals X.mg := I1.ok.mod.glob.keeps I1.bk
    have hbl : s1.heap.Ns builtinsNs mb := hmb.keeps I1.bk
    obtain ⟨m0, hns0, _⟩ := I1.loc
    have hloc : X.env.locals < s1.heap.objs.size := hns0.lt
    obtain ⟨hp, g, dr, tk, os⟩ := s1
    refine wpAny_call (ex_made T J hmsg I1.kIn hlim hgl hbl ((hbt _ (by decide)).trans rfl) (by have := hr.dp; omega) trivial fun h' tk' e d M => ?_)
    obtain ⟨t1, hoe⟩ := M.obj
    have hns := M.ns
    have ob : ObjOk X.prog X.w (upd H1 d (.xd [(fld, v)])) h' d (.xd [(fld, v)]) := ⟨_, hns.at (fun o q => q), fun f => relO_fld rv f⟩
    have J1 : L2.Inv X pins σ (upd H1 d (.xd [(fld, v)])) ⟨h', g, dr, tk', os⟩ := I1.laid (t' := tk') M.keep M.dbig ob
    have lte : ∀ {b : Addr} {o : Obj}, hp.get? b = some o → b ≠ e := fun q z => by
      have h1 := Heap.lt_size q
      have h2 := M.new
      rw [z] at h1
      exact absurd (Nat.lt_of_lt_of_le h1 h2) (Nat.lt_irrefl _)
    have hHd : H1 d = none := I1.hok.fresh M.dbig
    have hHe : H1 e = none := I1.hok.fresh M.new
    have hne : (upd H1 d (.xd [(fld, v)])) e = none := by rw [upd_ne (Ne.symm M.dne)]; exact hHe
    refine ⟨.ref e, _, ?_, rfl, q1 d e hHd hHe M.dne⟩
    refine hold_it (cls := .ref C) (d := some d) (oe := _) ⟨rfl, rfl⟩ ⟨_, rfl⟩ J1 hoe hne (fun z => ?_) ?_ (fun y c ec z => ?_) (fun p hp' z => ?_)
    · have h1 := hloc
      rw [← z] at h1
      exact absurd (Nat.lt_of_lt_of_le h1 M.new) (Nat.lt_irrefl _)
    · cases e0 : X.s_0.heap.get? e with
      | none => rfl
      | some o =>
        obtain ⟨o', e'⟩ := I1.base.there e o e0 (by rw [hex]; exact List.not_mem_nil)
        exact absurd rfl (lte e')
    · obtain ⟨_, o, ho, _⟩ := I1.cell y c ec
      exact lte ho z
    · exact lte (I1.pin p hp').1 z
/-- e.f, the ledger named -/
theorem pe_hfQ {K : Frag} {e : Expr} {te : TE} {f : Str} {pos : Pos} (eK : X.K = K) (he : PE X e te) (hb : attributeBase e f X.env (eval e X.env) = eval e X.env := by rfl) : PE X (.Attribute e f pos) (tHf K f te) := eK ▸ pe_hf he hb
end
section
variable {σ : L2.St} {H : Hp} {Q : VK} {K : Frag} {te : TE} {ta : TA} {C : Addr} {fld f : Str} {v : V} {d : Addr} {n : Nat} {L : Led}
def MkC (C : Addr) (fld : Str) (Q : VK) (vs : List V) (H : Hp) : Prop := ∃ v, vs = [v] ∧ ∀ d e, H d = none → H e = none → d ≠ e → Q (.ref e) (upd (upd H d (.xd [(fld, v)])) e (exh e (.ref C) (some d)))
theorem kMkV (h : ta σ H fun vs H1 => MkC C fld Q vs H1) : tMkV C fld ta σ H Q := h
theorem kMkK (kn : Kn d n L H) (q : ∀ e x H', Kn d n ((e, exh e (.ref C) (some x)) :: (x, .xd [(fld, v)]) :: L) H' → Q (.ref e) H') : MkC C fld Q [v] H :=
  ⟨v, rfl, fun x e hx he hne => q e x _ ((kn.new hx).new (by rw [upd_ne (Ne.symm hne)]; exact he))⟩
theorem kHf (h : te σ H fun x H1 => ∃ (a C d : Addr) (fs : List (Str × V)) (v : V), x = .ref a ∧ Kept H1 a C d fs ∧ XfC K C ∧ PySem.W.findIn K (.ref C) f = some none ∧ fs.lookup f = some v ∧ Q v H1) : tHf K f te σ H Q := h
theorem kIsH {a x : Addr} {fs : List (Str × V)} {c : V} {u : Value} {b : Bool} (k : Kept H a C x fs) (T : L2.ExcC K C) (hc : ClsV c u) (hb : kitOne K (.ref C) u = some b) (q : Q (.bl b) H) : rIsH K [.ref a, c] H Q := ⟨a, C, x, fs, c, u, b, rfl, k, T, hc, hb, q⟩
end
end Rg

set_option Elab.async false
set_option linter.all false
set_option maxRecDepth 100000
set_option maxHeartbeats 2000000
namespace Rg
open PySem PySem.Spec PyProof.Rows L2
/-! ### comprehensions whose ledger grows; S tells what is made so far, the dice's count, the ledger -/
theorem kLcLS {d : Addr} {n : Nat} {L : Led} {H : Hp} {K : PySem.W.Frag} {σ : L2.St} {Q : VK} {p : Addr} {xs : List V} {te0 te : TE} {tt : TT} {j : Nat} {vs : List Nat} (k : Kn d n L H) (hp : (p, .lst xs) ∈ L) (src : ∀ R : VK, R (.ref p) H → te0 σ H R)
    (hz : xs.length ≤ 100000) (S : Nat → List V → Nat → Led → Prop) (s0 : S 0 [] n L) (sl : ∀ i l m L2, S i l m L2 → l.length ≤ i ∧ (p, .lst xs) ∈ L2) (hw : ∀ x, wipe ((wipe σ vs).set j (some x)) vs = wipe σ vs)
    (turn : ∀ i x H' D acc m L2, xs[i]? = some x → S i acc m L2 → Kn d m ((D, .lst acc) :: L2) H' → ∀ (N1 : VK) (N2 : Hp → Prop), (∀ y H4 m3 L3, S (i + 1) (acc ++ [y]) m3 L3 → Kn d m3 ((D, .lst acc) :: L3) H4 → N1 y H4) → (∀ H3 m3 L3, S (i + 1) acc m3 L3 → Kn d m3 ((D, .lst acc) :: L3) H3 → N2 H3) →
      tt ((wipe σ vs).set j (some x)) H' fun b H3 => if b = true then te ((wipe σ vs).set j (some x)) H3 N1 else N2 H3)
    (q : ∀ D acc m L2 H', S xs.length acc m L2 → Kn d m ((D, .lst acc) :: L2) H' → Q (.ref D) H') : tLc (iList K te0) (gName j) tt te vs σ H Q := by
  refine src _ ⟨p, rfl, ⟨xs, k.seqL hp⟩, fun D hD => lc_list (xs := xs) (fun i H' => ∃ acc m L2, S i acc m L2 ∧ Kn d m ((D, .lst acc) :: L2) H') ⟨[], n, L, s0, k.new hD⟩ (fun i H' _ kn => by obtain ⟨acc, m, L2, hS, kn⟩ := kn; exact kn.seqL (List.mem_cons_of_mem _ (sl _ _ _ _ hS).2)) (fun i x H' hx kn => ⟨hw x, ?_⟩) (fun H' kn => by obtain ⟨acc, m, L2, hS, kn⟩ := kn; exact q D acc m L2 H' hS kn)⟩
  obtain ⟨acc, m, L2, hS, kn⟩ := kn
  have hi : i < xs.length := (List.getElem?_eq_some_iff.mp hx).1
  have hl := (sl _ _ _ _ hS).1
  exact turn i x H' D acc m L2 hx hS kn _ _ (fun y H4 m3 L3 e kn4 => ⟨acc, kn4.at 0 rfl, szL' (by omega), acc ++ [y], m3, L3, e, kn4.put 0 rfl⟩) (fun H3 m3 L3 e kn3 => ⟨acc, m3, L3, e, kn3⟩)
theorem kLcTS {d : Addr} {n : Nat} {L : Led} {H : Hp} {K : PySem.W.Frag} {σ : L2.St} {Q : VK} {p : Addr} {xs : List V} {te0 te : TE} {tt : TT} {j : Nat} {vs : List Nat} (k : Kn d n L H) (hp : (p, .tup xs) ∈ L) (src : ∀ R : VK, R (.ref p) H → te0 σ H R)
    (hz : xs.length ≤ 100000) (S : Nat → List V → Nat → Led → Prop) (s0 : S 0 [] n L) (sl : ∀ i l m L2, S i l m L2 → l.length ≤ i ∧ (p, .tup xs) ∈ L2) (hw : ∀ x, wipe ((wipe σ vs).set j (some x)) vs = wipe σ vs)
    (turn : ∀ i x H' D acc m L2, xs[i]? = some x → S i acc m L2 → Kn d m ((D, .lst acc) :: L2) H' → ∀ (N1 : VK) (N2 : Hp → Prop), (∀ y H4 m3 L3, S (i + 1) (acc ++ [y]) m3 L3 → Kn d m3 ((D, .lst acc) :: L3) H4 → N1 y H4) → (∀ H3 m3 L3, S (i + 1) acc m3 L3 → Kn d m3 ((D, .lst acc) :: L3) H3 → N2 H3) →
      tt ((wipe σ vs).set j (some x)) H' fun b H3 => if b = true then te ((wipe σ vs).set j (some x)) H3 N1 else N2 H3)
    (q : ∀ D acc m L2 H', S xs.length acc m L2 → Kn d m ((D, .lst acc) :: L2) H' → Q (.ref D) H') : tLc (iTup K te0) (gName j) tt te vs σ H Q := by
  refine src _ ⟨p, rfl, ⟨xs, k.seqT hp⟩, fun D hD => lc_tup (xs := xs) (fun i H' => ∃ acc m L2, S i acc m L2 ∧ Kn d m ((D, .lst acc) :: L2) H') ⟨[], n, L, s0, k.new hD⟩ (fun i H' _ kn => by obtain ⟨acc, m, L2, hS, kn⟩ := kn; exact kn.seqT (List.mem_cons_of_mem _ (sl _ _ _ _ hS).2)) (fun i x H' hx kn => ⟨hw x, ?_⟩) (fun H' kn => by obtain ⟨acc, m, L2, hS, kn⟩ := kn; exact q D acc m L2 H' hS kn)⟩
  obtain ⟨acc, m, L2, hS, kn⟩ := kn
  have hi : i < xs.length := (List.getElem?_eq_some_iff.mp hx).1
  have hl := (sl _ _ _ _ hS).1
  exact turn i x H' D acc m L2 hx hS kn _ _ (fun y H4 m3 L3 e kn4 => ⟨acc, kn4.at 0 rfl, szL' (by omega), acc ++ [y], m3, L3, e, kn4.put 0 rfl⟩) (fun H3 m3 L3 e kn3 => ⟨acc, m3, L3, e, kn3⟩)
theorem kLcRG {d : Addr} {n : Nat} {L : Led} {H : Hp} {σ : L2.St} {Q : VK} {lo : Int} {N : Nat} {wi : TI} {te : TE} {tt : TT} {j : Nat} {vs : List Nat} (k : Kn d n L H) (src : ∀ R : It → Hp → Prop, R (Itr lo N) H → wi σ H R)
    (hz : N ≤ 100000) (S : Nat → List V → Nat → Led → Prop) (s0 : S 0 [] n L) (sl : ∀ i l m L2, S i l m L2 → l.length ≤ i) (hw : ∀ x, wipe ((wipe σ vs).set j (some x)) vs = wipe σ vs)
    (turn : ∀ (i : Nat) H' D acc m L2, i < N → S i acc m L2 → Kn d m ((D, .lst acc) :: L2) H' → ∀ (N1 : VK) (N2 : Hp → Prop), (∀ y H4 m3 L3, S (i + 1) (acc ++ [y]) m3 L3 → Kn d m3 ((D, .lst acc) :: L3) H4 → N1 y H4) → (∀ H3 m3 L3, S (i + 1) acc m3 L3 → Kn d m3 ((D, .lst acc) :: L3) H3 → N2 H3) →
      tt ((wipe σ vs).set j (some (.int (lo + (i : Int))))) H' fun b H3 => if b = true then te ((wipe σ vs).set j (some (.int (lo + (i : Int))))) H3 N1 else N2 H3)
    (q : ∀ D acc m L2 H', S N acc m L2 → Kn d m ((D, .lst acc) :: L2) H' → Q (.ref D) H') : tLc wi (gName j) tt te vs σ H Q := by
  refine src _ fun D hD => lc_range (lo := lo) (n := N) (fun i H' => ∃ acc m L2, S i acc m L2 ∧ Kn d m ((D, .lst acc) :: L2) H') ⟨[], n, L, s0, k.new hD⟩ (fun i H' hi kn => ⟨hw _, ?_⟩) (fun H' kn => by obtain ⟨acc, m, L2, hS, kn⟩ := kn; exact q D acc m L2 H' hS kn)
  obtain ⟨acc, m, L2, hS, kn⟩ := kn
  have hl := sl _ _ _ _ hS
  exact turn i H' D acc m L2 hi hS kn _ _ (fun y H4 m3 L3 e kn4 => ⟨acc, kn4.at 0 rfl, szL' (by omega), acc ++ [y], m3, L3, e, kn4.put 0 rfl⟩) (fun H3 m3 L3 e kn3 => ⟨acc, m3, L3, e, kn3⟩)
/-- over zip of two lists, made on the way -/
theorem kLcZS {d : Addr} {n : Nat} {H : Hp} {K : PySem.W.Frag} {σ : L2.St} {Q : VK} {ta : TA} {te : TE} {tt : L2.TT} {j l : Nat} {vs : List Nat} (G : Addr → Addr → List V → List V → Led → Hp → Prop)
    (src : ∀ R : List V → Hp → Prop, (∀ a b xs ys L1 H1, G a b xs ys L1 H1 → R [.ref a, .ref b] H1) → ta σ H R) (hw : ∀ x y, wipe (((wipe σ vs).set j (some x)).set l (some y)) vs = wipe σ vs)
    (body : ∀ a b xs ys L1 H1, G a b xs ys L1 H1 → Kn d n L1 H1 ∧ (a, .lst xs) ∈ L1 ∧ (b, .lst ys) ∈ L1 ∧ xs.length ≤ 100000 ∧ ∃ S : Nat → List V → Led → Prop, S 0 [] L1 ∧ (∀ i acc L2, S i acc L2 → acc.length ≤ i ∧ L1.Sublist L2) ∧
      (∀ (i : Nat) x y H' D T acc L2, xs[i]? = some x → ys[i]? = some y → S i acc L2 → Kn d n ((T, .tup [x, y]) :: (D, .lst acc) :: L2) H' → ∀ (N1 : VK) (N2 : Hp → Prop), (∀ z H4 L3, S (i + 1) (acc ++ [z]) L3 → Kn d n ((D, .lst acc) :: L3) H4 → N1 z H4) →
        (∀ H3 L3, S (i + 1) acc L3 → Kn d n ((D, .lst acc) :: L3) H3 → N2 H3) →
        tt (((wipe σ vs).set j (some x)).set l (some y)) H' fun b H3 => if b = true then te (((wipe σ vs).set j (some x)).set l (some y)) H3 N1 else N2 H3) ∧
      (∀ D acc L2 H', S (min xs.length ys.length) acc L2 → Kn d n ((D, .lst acc) :: L2) H' → Q (.ref D) H')) :
    tLc (iZip K ta) (gTup K 2 (gCons (gName j) (gCons (gName l) gNil))) tt te vs σ H Q := by
  refine src _ fun a b xs ys L1 H1 hG => ?_
  obtain ⟨k, ha, hb, hz, S, s0, sl, turn, q⟩ := body a b xs ys L1 H1 hG
  refine ⟨a, b, xs, ys, rfl, k.seqL ha, k.seqL hb, fun D hD => lc_it (walk_zip (xs := xs) (ys := ys) rfl) (fun i H' => ∃ acc L2, S i acc L2 ∧ Kn d n ((D, .lst acc) :: L2) H') ⟨[], L1, s0, k.new hD⟩ (fun i H' _ kn => by
    obtain ⟨acc, L2, hS, kn⟩ := kn
    have hs := (sl _ _ _ hS).2
    exact ⟨kn.seqL (List.mem_cons_of_mem _ (hs.subset ha)), kn.seqL (List.mem_cons_of_mem _ (hs.subset hb))⟩) (fun i v H2 H' hi kn y => ?_) (fun H' kn => by
    obtain ⟨acc, L2, hS, kn⟩ := kn
    exact q D acc L2 H' hS kn)⟩
  obtain ⟨acc, L2, hS, kn⟩ := kn
  have hl := (sl _ _ _ hS).1
  obtain ⟨T, x1, x2, rfl, hT, rfl, e1, e2⟩ := y
  have hxl : i < xs.length := (List.getElem?_eq_some_iff.mp e1).1
  have kt := kn.new (o := .tup [x1, x2]) hT
  refine ⟨T, [x1, x2], rfl, kt.seqT List.mem_cons_self, rfl, _, _, rfl, _, _, rfl, rfl, hw _ _, ?_⟩
  exact turn i x1 x2 _ D T acc L2 e1 e2 hS kt _ _ (fun y H4 L3 e kn4 => ⟨acc, kn4.at 0 rfl, szL' (by omega), acc ++ [y], L3, e, kn4.put 0 rfl⟩) (fun H3 L3 e kn3 => ⟨acc, L3, e, kn3⟩)
/-! ### divmod; items from behind -/
def rDm : List V → Hp → VK → Prop := fun xs H Q => ∃ i j, xs = [.int i, .int j] ∧ CDiv i j ∧ ∀ p, H p = none → Q (.ref p) (upd H p (.tup [.int (i / j), .int (i % j)]))
theorem c_divmod {X : Cx} : CallR X (.builtin "divmod") rDm := call_divmod
theorem kDm {d : Addr} {n : Nat} {L : Led} {H : Hp} {Q : VK} {i j : Int} (kn : Kn d n L H) (h0 : 0 < j) (h1 : j < 1000000) (q : ∀ p H', Kn d n ((p, .tup [.int (i / j), .int (i % j)]) :: L) H' → Q (.ref p) H') : rDm [.int i, .int j] H Q :=
  ⟨i, j, rfl, ⟨h0, by omega⟩, fun p hp => q p _ (kn.new hp)⟩
theorem atBack {α : Type} {l : List α} {k : Nat} {v : α} (h0 : 0 < k) (hk : k ≤ l.length) (h : l[l.length - k]? = some v) : atI l (-(k : Int)) = some v := by
  unfold atI ixN
  rw [if_neg (by omega), if_pos (by omega)]
  have e : (-(k : Int) + (l.length : Int)).toNat = l.length - k := by omega
  first
    | (show l[(-(k : Int) + (l.length : Int)).toNat]? = some v; rw [e]; exact h)
    | (show l[((l.length : Int) + -(k : Int)).toNat]? = some v; rw [Int.add_comm, e]; exact h)
/-- a tuple's two items into two names -/
theorem kTwo {K : PySem.W.Frag} {H : Hp} {p : Addr} {x y : V} {i j : Nat} {σ : L2.St} {R : L2.St → Hp → Prop} (h : SqT K H p [x, y]) (q : R ((σ.set i (some x)).set j (some y)) H) : ∃ a xs, V.ref p = .ref a ∧ SqT K H a xs ∧ xs.length = 2 ∧ (gCons (gName i) (gCons (gName j) gNil)) xs σ H R :=
  ⟨p, [x, y], rfl, h, rfl, _, _, rfl, _, _, rfl, rfl, q⟩
end Rg

set_option Elab.async false
set_option linter.all false
set_option maxRecDepth 100000
set_option maxHeartbeats 2000000
namespace Rg
open PySem PySem.Spec PyProof.Rows L2
/-! ### own instances: what the top has left of a class and its methods; fields, methods, making -/
structure Mf (K : PySem.W.Frag) (C : Addr) (m q : Str) (st : Stmt) (ps : List Str) (f : Addr) (fd : FuncData) : Prop where
  F : Fun K m q st f fd
  mt : Meth K C m f
  b : Binds K fd ps []
structure If (K : PySem.W.Frag) (mg : Str → Option Value) (x : Str) (C : Addr) (st : Stmt) (ps : List Str) (f : Addr) (fd : FuncData) : Prop where
  F : Fun K "__init__" (x ++ ".__init__") st f fd
  g : mg x = some (.ref C)
  b : Binds K fd ps []
  mke : Mk K C f
section
variable {X : Cx} {e : Expr} {f : Str} {pos : Pos} {ta : TE}
theorem pe_fldQ {K : PySem.W.Frag} (eK : X.K = K) (he : PE X e ta) (hb : attributeBase e f X.env (eval e X.env) = eval e X.env) : PE X (.Attribute e f pos) (tFld K ta f) := eK ▸ pe_fld he hb
end
section
variable {σ : L2.St} {H : Hp} {Q : VK} {K : PySem.W.Frag} {i : Nat} {a C dx : Addr} {fs : List (Str × V)} {f : Str} {v : V}
/-- a field of an instance in a slot -/
theorem kFld (h : σ[i]? = some (some (.ref a))) (ho : H a = some (.ins C dx fs)) (c : Cls K C) (n : NoAttr K C f) (l : fs.lookup f = some v) (q : Q v H) : tFld K (tVar i) f σ H Q :=
  ⟨.ref a, h, a, C, dx, fs, v, rfl, ho, c, n, l, q⟩
theorem kMeth {m : Str} {sp : Sp} {E : XK} {t : TA} (h : σ[i]? = some (some (.ref a))) (ho : H a = some (.ins C dx fs)) (l : fs.lookup m = none) (q : t σ H fun vs H2 => sp (.ref a :: vs) H2 Q E) : tMeth C m sp [] E (tVar i) t σ H Q := by
  refine ⟨.ref a, h, a, dx, fs, rfl, ho, l, ?_⟩
  simpa only [List.append_nil] using q
theorem kMake {sp : Sp} {E : XK} {t : TA} (q : t σ H fun vs H1 => ∀ x dx, H1 x = none → H1 dx = none → dx ≠ x → sp (.ref x :: vs) (upd (upd H1 dx (.own x)) x (.ins C dx [])) (fun v H2 => v = .non ∧ Q (.ref x) H2) E) : tMake C sp [] E t σ H Q := by
  unfold tMake
  simpa only [List.append_nil] using q
/-- storing a field -/
theorem kSetF {tv : TE} {nx bk ct : L2.St → Hp → Prop} {rt : VK} (h : tv σ H fun y H1 => σ[i]? = some (some (.ref a)) ∧ H1 a = some (.ins C dx fs) ∧ Cls K C ∧ NoAttr K C f ∧ fs.length < 1000 ∧ nx σ (upd H1 a (.ins C dx (putF f y fs)))) (mono : ∀ R R' : VK, (∀ v H1, R v H1 → R' v H1) → tv σ H R → tv σ H R') : sFld K (tVar i) tv f (Ends.mk nx rt bk ct) σ H := by
  refine mono _ _ (fun y H1 h => ?_) h
  obtain ⟨h1, h2, h3, h4, h5, h6⟩ := h
  exact ⟨.ref a, h1, a, C, dx, fs, rfl, h2, h3, h4, h5, h6⟩
end
theorem kFldV {σ : L2.St} {H : Hp} {K : PySem.W.Frag} {ta tv : TE} {f : Str} {D : Ends} (h : tv σ H fun y H1 => ta σ H1 fun x H2 => ∃ a C dx fs, x = .ref a ∧ H2 a = some (.ins C dx fs) ∧ Cls K C ∧ NoAttr K C f ∧ fs.length < 1000 ∧ D.nx σ (upd H2 a (.ins C dx (putF f y fs)))) : sFld K ta tv f D σ H := h
theorem kSetFld {σ : L2.St} {H : Hp} {K : PySem.W.Frag} {ta tv : TE} {f : Str} {nx bk ct : L2.St → Hp → Prop} {rt : VK} (h : tv σ H fun y H1 => ta σ H1 fun x H2 => ∃ a C dx fs, x = .ref a ∧ H2 a = some (.ins C dx fs) ∧ Cls K C ∧ NoAttr K C f ∧ fs.length < 1000 ∧ nx σ (upd H2 a (.ins C dx (putF f y fs)))) : sFld K ta tv f (Ends.mk nx rt bk ct) σ H := h
theorem putF_len (f : Str) (v : V) : ∀ fs : List (Str × V), (putF f v fs).length ≤ fs.length + 1
  | [] => Nat.le_refl _
  | (g, u) :: r => by
    have ih := putF_len f v r
    show (if g = f then (g, v) :: r else (g, u) :: putF f v r).length ≤ _
    split
    · rw [List.length_cons, List.length_cons]; omega
    · rw [List.length_cons, List.length_cons]; omega
theorem putF_lt {f : Str} {v : V} {fs : List (Str × V)} {k : Nat} (h : fs.length < k) : (putF f v fs).length < k + 1 := by
  have := putF_len f v fs
  omega
/-! ### a method that may raise, called where what is raised is wished for at the slots -/
section
variable {X : Cx} {CX : CXT} {k : Nat} {f C : Addr} {fd : FuncData} {ps : List Str} {sp : Sp} {E : L2.St → XK} {m : Str} {pos apos : Pos} {e o : Expr} {es : List Expr} {ta : TE} {t : TA}
def tMethS (C : Addr) (m : Str) (sp : Sp) (E : L2.St → XK) (ta : TE) (t : TA) : TE := fun σ H Q => ta σ H fun x H1 => ∃ a dx fs, x = .ref a ∧ H1 a = some (.ins C dx fs) ∧ fs.lookup m = none ∧
  t σ H1 fun vs H2 => sp (x :: vs) H2 Q (E σ)
theorem pe_methS {pl : Sem Bool} (he : PE X o ta) (c : Cls X.K C) (hm : Meth X.K C m f) (F : FnOk X.prog X.w X.K X.mg X.base CX k f fd ps sp) (hr : Room k X.A) (hb : Binds X.K fd ps []) (hx : ∀ σ, PassesAt CX X σ (E σ)) (ha : PA X (e :: es) t)
    (hst : starEach (e :: es) X.env = (false, eval e X.env) :: starEach es X.env := by rfl) (hpl : (backTo pos (starEach es X.env)).any (·.1) = false := by rfl)
    (ht : eval (.Call (.Attribute o m apos) (e :: es) [] pos) X.env = (do
      let ov ← eval o X.env
      standAt apos.atName
      let (f, first) ← holding [ov] (getMethod ov m pl)
      callWith pos f first (backTo pos (starEach (e :: es) X.env)) (backToKw pos (keywordEach [] X.env))) := by rfl) :
    PE X (.Call (.Attribute o m apos) (e :: es) [] pos) (tMethS C m sp E ta t) := by
  refine ⟨fun pins s σ H Q I h => ?_⟩
  refine PySem.W.methodCall_KW (pl := pl) (thn (he.run pins s σ H _ I h) fun u s1 ⟨x, H1, I1, rx, a, dx, fs, ex, ea, l, q⟩ => ?_) ht
  subst ex
  obtain rfl : u = Value.ref a := rx
  refine getmeth_ok I1 ea c hm l ?_
  refine PySem.W.callWith_K (first := [.ref a]) (h₀ := X.base) I1.ok.mod.kin hm.kp (thn (ha.run pos pins s1 σ H1 _ I1 q) fun us s2 ⟨vs, H2, I2, r, q2⟩ => ⟨I2.kIn, ?_⟩) hst hpl
  exact run_fnS (us := .ref a :: us) (vs := .ref a :: vs) F hr hb (hx σ) I2 (.cons rfl r) q2
theorem kMethS {σ : L2.St} {H : Hp} {Q : VK} {i : Nat} {a dx : Addr} {fs : List (Str × V)} (h : σ[i]? = some (some (.ref a))) (ho : H a = some (.ins C dx fs)) (l : fs.lookup m = none) (q : t σ H fun vs H2 => sp (.ref a :: vs) H2 Q (E σ)) : tMethS C m sp E (tVar i) t σ H Q :=
  ⟨.ref a, h, a, dx, fs, rfl, ho, l, q⟩
end
theorem unit1 {n m : Nat} (h : n + 64 < m) : n + 1 < m := by omega
theorem Kn.made {d : Addr} {n : Nat} {L : Led} {H : Hp} {x dx C : Addr} (k : Kn d n L H) (hx : H x = none) (hd : H dx = none) (ne : dx ≠ x) : Kn d n ((x, .ins C dx []) :: (dx, .own x) :: L) (upd (upd H dx (.own x)) x (.ins C dx [])) :=
  (k.new hd).new (by rw [upd_ne ne.symm]; exact hx)
end Rg

set_option Elab.async false
set_option linter.all false
set_option maxRecDepth 100000
set_option maxHeartbeats 4000000
namespace Rg
open PySem PySem.Spec PyProof.Rows L2
def topS (i : Nat) : Stmt := PySem.Challenge.pw_ringhue_k71_hands_refuse.main.body.getD i (.Pass ⟨0, 0, 0, 0⟩)
local macro_rules | `(tactic| walk_at "mem") => `(tactic| first | assumption | exact List.mem_cons_self | (refine List.mem_cons_of_mem _ ?_; walk_at "mem"))
local macro_rules | `(tactic| walk_at "lg") => `(tactic| first
  | exact at_of 0 (by assumption) rfl | exact at_of 1 (by assumption) rfl | exact at_of 2 (by assumption) rfl | exact at_of 3 (by assumption) rfl | exact at_of 4 (by assumption) rfl | exact at_of 5 (by assumption) rfl
  | exact sqL_of 0 (by assumption) rfl | exact sqL_of 1 (by assumption) rfl | exact sqL_of 2 (by assumption) rfl | exact sqL_of 3 (by assumption) rfl | exact sqL_of 4 (by assumption) rfl | exact sqL_of 5 (by assumption) rfl
  | exact sqT_of 0 (by assumption) rfl | exact sqT_of 1 (by assumption) rfl | exact sqT_of 2 (by assumption) rfl | exact sqT_of 3 (by assumption) rfl | exact sqT_of 4 (by assumption) rfl | exact sqT_of 5 (by assumption) rfl
  | exact Kn.mem (by assumption) (by walk_at "mem") | exact Kn.seqL (by assumption) (by walk_at "mem") | exact Kn.seqT (by assumption) (by walk_at "mem")
  | exact lat_of 0 (by assumption) rfl | exact lat_of 1 (by assumption) rfl | exact lat_of 2 (by assumption) rfl | exact lat_of 3 (by assumption) rfl
  | exact lsqL_of 0 (by assumption) rfl | exact lsqL_of 1 (by assumption) rfl | exact lsqL_of 2 (by assumption) rfl | exact lsqL_of 3 (by assumption) rfl
  | exact lsqT_of 0 (by assumption) rfl | exact lsqT_of 1 (by assumption) rfl | exact lsqT_of 2 (by assumption) rfl | exact lsqT_of 3 (by assumption) rfl)
local macro_rules | `(tactic| walk_at "at") => `(tactic| first | exact at0 | exact at1 | exact at2 | exact at3)
local macro_rules | `(tactic| walk_at "len") => `(tactic| first
  | decide
  | (simp only [List.length_map, List.length_cons, List.length_nil, List.length_append]; omega))
local macro_rules | `(tactic| walk_at "slen") => `(tactic| first | assumption | omega | decide)
local macro_rules | `(tactic| walk_at "side") => `(tactic| first
  | assumption
  | (show (0 : Int) < _; omega)
  | (show CMul _ _; first | exact Or.inl (by constructor <;> omega) | exact Or.inr (by constructor <;> omega))
  | (show CPow _ _; exact ⟨by omega, by omega, by omega⟩)
  | (show CDivW _ _; exact ⟨by omega, by first | decide | assumption⟩))
local macro_rules | `(tactic| walk_at "s1") => `(tactic| first
  | ((with_reducible refine' kVar ?ka ?kb); (case ka => exact rfl))
  | (with_reducible refine kSeqA ?_)
  | (with_reducible refine kSeqD ?_)
  | (with_reducible refine kAsg ?_)
  | (with_reducible refine kAsgT ?_)
  | (with_reducible refine kC ?_)
  | (with_reducible refine kOp ?_)
  | (with_reducible refine kI0 ?_)
  | (with_reducible refine kCons ?_)
  | (with_reducible refine kNil ?_)
  | (with_reducible refine kCB ?_)
  | (with_reducible refine kCall ?_)
  | (with_reducible refine kIfS ?_)
  | (with_reducible refine kCallS ?_)
  | (with_reducible refine kTruth ?_)
  | (with_reducible refine kTest ?_)
  | (with_reducible refine kTB ?_)
  | ((with_reducible refine' kEq ?ka ?kb); (case ka => exact rfl))
  | ((with_reducible refine' kNe ?ka ?kb); (case ka => exact rfl))
  | (with_reducible refine kBl ?_)
  | (with_reducible refine kRet ?_)
  | (with_reducible refine kNext ?_)
  | (with_reducible refine kDrop ?_)
  | (with_reducible refine kAsgSub ?_)
  | (with_reducible refine kAnd ?_)
  | (with_reducible refine kOr ?_)
  | (with_reducible refine kNot ?_)
  | (with_reducible refine kAndV ?_)
  | (with_reducible refine kOrV ?_)
  | (with_reducible refine kNotV ?_)
  | (with_reducible refine kIf ?_)
  | (with_reducible refine kChain ?_)
  | (with_reducible refine kUn ?_)
  | (with_reducible refine kU ?_)
  | (with_reducible refine kTup ?_)
  | (with_reducible refine kLst ?_)
  | (with_reducible refine kBM ?_)
  | (with_reducible refine kBM0 ?_)
  | (with_reducible refine kSl ?_)
  | (with_reducible refine kNoPart ?_)
  | (with_reducible refine kPart ?_)
  | (with_reducible refine kInt ?_)
  | (with_reducible refine kMax ?_)
  | (with_reducible refine kMin ?_)
  | (with_reducible refine isiII ?_)
  | (with_reducible refine isiIB ?_)
  | (with_reducible refine isiBI ?_)
  | (with_reducible refine isiBB ?_)
  | ((with_reducible refine' isiLL ?ka ?kb); (case ka => walk_at "lg"))
  | ((with_reducible refine' isiTT ?ka ?kb); (case ka => walk_at "lg"))
  | (with_reducible refine kIntI ?_)
  | (with_reducible refine kIntB ?_)
  | ((with_reducible refine' kIxL ?ka ?kb ?kc); (case ka => walk_at "lg"); (case kb => walk_at "at"))
  | ((with_reducible refine' kLenL ?ka ?kb); (case ka => walk_at "lg"))
  | ((with_reducible refine' kLenT ?ka ?kb); (case ka => walk_at "lg"))
  | ((with_reducible refine' kI ?ka ?kb); (case ka => walk_at "side"))
  | ((with_reducible refine' kM0v ?ka ?kb); (case ka => exact rfl))
  | ((with_reducible refine' kM1v ?ka ?kb); (case ka => exact rfl))
  | (with_reducible refine kM1c ?_)
  | (with_reducible refine kR1 ?_)
  | (with_reducible refine kIsB ?_)
  | (with_reducible refine kNotB ?_)
  | ((with_reducible refine' kSplitK ?ka ?kb ?kc ?kd); (case ka => exact rfl); (case kb => walk_at "slen"); (case kc => assumption); intro _ _ _)
  | ((with_reducible refine' kLenS ?ka ?kb); (case ka => walk_at "slen"))
  | ((with_reducible refine' kAddS ?ka ?kb); (case ka => walk_at "slen"))
  | ((with_reducible refine' kSlS ?ka ?kb); (case ka => walk_at "slen"))
  | ((with_reducible refine' kNewL ?ka ?kb ?kc); (case kb => assumption); (case ka => walk_at "len"); intro _ _ _)
  | ((with_reducible refine' kNewT ?ka ?kb ?kc); (case kb => assumption); (case ka => walk_at "len"); intro _ _ _)
  | ((with_reducible refine' kTyL ?ka ?kb); (case ka => walk_at "lg"))
  | ((with_reducible refine' kAppK ?ka 0 ?kb ?kc ?kd); (case ka => assumption); (case kb => exact rfl); (case kc => walk_at "len"); intro _ _)
  | ((with_reducible refine' kAppK ?ka 1 ?kb ?kc ?kd); (case ka => assumption); (case kb => exact rfl); (case kc => walk_at "len"); intro _ _)
  | ((with_reducible refine' kAppK ?ka 2 ?kb ?kc ?kd); (case ka => assumption); (case kb => exact rfl); (case kc => walk_at "len"); intro _ _)
  | ((with_reducible refine' kSlLK ?ka ?kb ?kc); (case ka => walk_at "lg"); (case kb => assumption); intro _ _ _)
  | ((with_reducible refine' kListK ?ka ?kb ?kc); (case ka => walk_at "lg"); (case kb => assumption); intro _ _ _)
  | ((with_reducible refine' kTupleK ?ka ?kb ?kc); (case ka => walk_at "lg"); (case kb => assumption); intro _ _ _)
  | ((with_reducible refine' kD1 ?ka ?kb); (case ka => assumption); intro _ _)
  | ((with_reducible refine' kD2 ?ka ?kb); (case ka => assumption); intro _ _)
  | ((with_reducible refine' kD3 ?ka ?kb); (case ka => assumption); intro _ _))
local macro_rules | `(tactic| walk_at "go") => `(tactic| repeat walk_at "s1")

/-! ### a throw -/
abbrev s_law_roll : Stmt := topS 28
theorem sc_law_roll : FnScope ["dice", "size", "at", "cell", "seed", "rest"] ["dice", "size"] (defScope s_law_roll) := ⟨rfl, rfl, rfl, by decide +kernel, rfl, by decide +kernel, by decide +kernel⟩
def spRoll : Sp := fun vs H Q _ => ∃ (d : Addr) (n : Nat) (L : Led) (size : Int), vs = [.ref d, .int size] ∧ 0 < size ∧ size.natAbs.log2 < 9000 ∧ n ≤ 2 ^ 60 ∧ Kn d n L H ∧
  ∀ (r : Int) (H' : Hp), 0 ≤ r → r < size → Kn d (n + 1) L H' → Q (.int r) H'
section
variable {P : Program} {w : World} {K : PySem.W.Frag} {mg : Str → Option Value} {base : Heap}
theorem ok_law_roll {f : Addr} {fd : FuncData} {k : Nat} (D : Df K mg "_law_roll" s_law_roll ["dice", "size"] f fd) (M : Bl mg) : FnOk P w K mg base CX0 (k + 1) f fd ["dice", "size"] spRoll := by
  refine D.F.ok sc_law_roll (fun vs H Q E h => ?_) (fun cdv A outer s H vs Q E hr h => ?_)
  · obtain ⟨d, n, L, size, rfl, _⟩ := h
    rfl
  obtain ⟨d, n, L, size, rfl, h0, h9, hn, kn, q⟩ := h
  refine ⟨_, (pss_cons (ps_if (pt_cmpR op_eq (pe_ix ix_list (pv 0) pe_int (fun _ _ => rfl)) pe_int (nomark _)) (pss_cons (ps_set (i := 2) sc_law_roll.nd rfl (Or.inl rfl) (pe_ix ix_list (pv 0) pe_int (fun _ _ => rfl)))
    (pss_cons (ps_asg (pe_op op_add (pv 2) pe_int) (pg_sub (pv 0) pe_int set_list))
    (pss_cons (ps_set (i := 3) sc_law_roll.nd rfl (Or.inl rfl) pe_int)
    (pss_cons (ps_if (pt_cmpR (op_neD hr.units) (pe_ix ix_list (pv 0) pe_int (fun _ _ => rfl)) (pe_lst pa_nil) (nomark _)) (pss_one (ps_set (i := 3) sc_law_roll.nd rfl (Or.inl rfl) (pe_ix ix_seq (pe_ix ix_list (pv 0) pe_int (fun _ _ => rfl)) (pe_op op_mod (pv 2) (pe_callB c_len (by rfl) M.len PySem.boot_len (pa_cons (pe_ix ix_list (pv 0) pe_int (fun _ _ => rfl)) pa_nil))) (fun _ _ => rfl)))) pss_nil)
    (pss_cons (ps_if (PW.pt (pw_or (pt_cmpR op_ge (pv 2) (pe_callB c_len (by rfl) M.len PySem.boot_len (pa_cons (pe_ix ix_list (pv 0) pe_int (fun _ _ => rfl)) pa_nil)) (nomark _)) (pw_or1 (pt_cmpR op_lt (pv 3) (pe_op op_pow pe_int pe_int) (nomark _))))) (pss_cons (ps_set (i := 4) sc_law_roll.nd rfl (Or.inl rfl) (pe_op op_mod (pe_op op_mul (pe_op op_add (pe_op op_mod (pv 3) pe_int) pe_int) (pe_op op_add (pe_op op_add (pe_op op_mul (pv 2) (pv 2)) (pe_op op_mul pe_int (pv 2))) pe_int)) pe_int))
     (pss_cons (ps_set (i := 4) sc_law_roll.nd rfl (Or.inl rfl) (pe_op op_mod (pe_op op_pow (pv 4) pe_int) pe_int))
     (pss_one (ps_ret (pe_op op_mod (pe_op op_fdivW (pe_op op_mod (pe_op op_add (pv 4) (pe_op op_mul pe_int (pv 2))) pe_int) pe_int) (pv 1)))))) pss_nil)
    (pss_cons (ps_asg pe_int (pg_sub (pv 0) pe_int set_list))
    (pss_one (ps_asg (pe_op op_sub (pv 3) (pe_op op_pow pe_int pe_int)) (pg_sub (pv 0) pe_int set_list))))))))) pss_nil)
   (pss_cons (ps_asg (pe_op op_sub (pe_ix ix_list (pv 0) pe_int (fun _ _ => rfl)) pe_int) (pg_sub (pv 0) pe_int set_list))
   (pss_cons (ps_set (i := 5) sc_law_roll.nd rfl (Or.inl rfl) (pe_ix ix_list (pv 0) pe_int (fun _ _ => rfl)))
   (pss_cons (ps_asg (pe_op op_fdivW (pv 5) (pv 1)) (pg_sub (pv 0) pe_int set_list))
   (pss_one (ps_ret (pe_op op_mod (pv 5) (pv 1)))))))), ?_⟩
  obtain ⟨sa, a, c, r, ns, lg, a0, an⟩ := kn
  have hmod : ∀ z : Int, 0 ≤ z % size ∧ z % size < size := fun z => ⟨Int.emod_nonneg z (by omega), Int.emod_lt_of_pos z h0⟩
  refine kJoin (fun σ' H' => ∃ (a' c' r' : Int) (x y z : Option V), σ' = [some (.ref d), some (.int size), x, y, z, none] ∧ Lg ((d, .lst [.ref sa, .int a', .int c', .int r']) :: (sa, .lst (ns.map V.int)) :: L) H' ∧ 0 ≤ a' ∧ a' ≤ n + 1) (fun σ' H' hW => ?_) fun N join => ?_
  · obtain ⟨a', c', r', x, y, z, rfl, lg', b0, bn⟩ := hW
    walk_at "go"
    exact q _ _ (hmod _).1 (hmod _).2 ⟨sa, a', _, _, ns, by assumption, b0, by omega⟩
  walk_at "go"
  refine iteI (fun hc => ?_) (fun hc => ?_)
  · walk_at "go"
    rename_i H1 lg1
    refine kJoin (fun σ' H' => ∃ (z : Int), σ' = [some (.ref d), some (.int size), some (.int a), some (.int z), none, none] ∧ Lg ((d, .lst [.ref sa, .int (a + 1), .int c, .int r]) :: (sa, .lst (ns.map V.int)) :: L) H') (fun σ' H' hW => ?_) fun N' join' => ?_
    · obtain ⟨z, rfl, lg'⟩ := hW
      refine kJoin (fun σ'' H'' => σ'' = [some (.ref d), some (.int size), some (.int a), some (.int z), none, none] ∧ H'' = H') (fun σ'' H'' hW => ?_) fun N'' join'' => ?_
      · obtain ⟨rfl, rfl⟩ := hW
        walk_at "go"
        refine join _ _ ⟨a + 1, _, _, _, _, _, rfl, by assumption, by omega, by omega⟩
      refine kIfS ?_
      walk_at "go"
      refine iteD (fun _ => iteT ?_) (fun _ => ?_)
      · walk_at "go"
        exact q _ _ (hmod _).1 (hmod _).2 ⟨sa, a + 1, c, r, ns, lg', by omega, by omega⟩
      · walk_at "go"
        refine iteD (fun _ => ?_) (fun _ => ?_)
        · walk_at "go"
          exact q _ _ (hmod _).1 (hmod _).2 ⟨sa, a + 1, c, r, ns, lg', by omega, by omega⟩
        · walk_at "go"
          exact join'' _ _ ⟨rfl, rfl⟩
    · refine kIfS ?_
      walk_at "go"
      refine ⟨Nat.zero_le _, fun p hp => ?_⟩
      have lg2 := (lg1.new (o := .lst []) hp).sub (List.sublist_cons_self _ _)
      refine kNeL (xs := ns) (ys := []) (by walk_at "lg") (.inl (.inl upd_same)) ?_
      refine kBl (iteN (fun hne => ?_) (fun he => ?_))
      · obtain ⟨z, hz⟩ := atMod hne a
        have hpos := lenPos hne
        walk_at "go"
        refine kIxSeqL (by walk_at "lg") hz ?_
        walk_at "go"
        exact join' _ _ ⟨z, rfl, lg2⟩
      · walk_at "go"
        exact join' _ _ ⟨0, rfl, lg2⟩
  · walk_at "go"
    exact join _ _ ⟨a, c, r, none, none, none, rfl, lg, a0, by omega⟩
end
theorem kRoll {d : Addr} {n : Nat} {L : Led} {H : Hp} {size : Int} {Q : VK} {E : XK} (k : Kn d n L H) (h0 : 0 < size) (h1 : size < 2 ^ 62) (hn : n ≤ 2 ^ 60) (q : ∀ (r : Int) (H' : Hp), 0 ≤ r → r < size → Kn d (n + 1) L H' → Q (.int r) H') : spRoll [.ref d, .int size] H Q E :=
  ⟨d, n, L, size, rfl, h0, log_small h0 h1, hn, k, q⟩

/-! ### a drawn pointing -/
abbrev s_law_pointing : Stmt := topS 29
theorem sc_law_pointing : FnScope ["dice", "most", "way", "n", "found", "k", "free", "forms", "one"] ["dice", "most"] (defScope s_law_pointing) := ⟨rfl, rfl, rfl, by decide +kernel, rfl, by decide +kernel, by decide +kernel⟩
/-- a pointing of at most m houses -/
structure PtOk (m : Int) (xs : List Int) : Prop where
  two : 2 ≤ xs.length
  most : (xs.length : Int) ≤ m
  goal : ∀ (k : Nat) (x : Int), xs[k]? = some x → 0 ≤ x ∧ x < xs.length ∧ x ≠ k
def spPt : Sp := fun vs H Q _ => ∃ (d : Addr) (n : Nat) (L : Led) (m : Int), vs = [.ref d, .int m] ∧ 2 ≤ m ∧ m ≤ 1000 ∧ n ≤ 2 ^ 59 ∧ Kn d n L H ∧
  ∀ (p : Addr) (xs : List Int) (H' : Hp), PtOk m xs → Kn d (n + 3000) ((p, .tup (xs.map V.int)) :: L) H' → Q (.ref p) H'
theorem nextOk {n k : Int} (h2 : 2 ≤ n) (k0 : 0 ≤ k) (kn : k < n) : 0 ≤ (k + 1) % n ∧ (k + 1) % n < n ∧ (k + 1) % n ≠ k := by
  refine ⟨Int.emod_nonneg _ (by omega), Int.emod_lt_of_pos _ (by omega), fun e => ?_⟩
  by_cases h : k + 1 < n
  · rw [Int.emod_eq_of_lt (by omega) h] at e
    omega
  · have h3 : k + 1 = n := by omega
    rw [h3, Int.emod_self] at e
    omega
section
variable {P : Program} {w : World} {K : PySem.W.Frag} {mg : Str → Option Value} {base : Heap}
theorem ok_law_pointing {f a_law_roll : Addr} {fd fd_law_roll : FuncData} {k : Nat} (D : Df K mg "_law_pointing" s_law_pointing ["dice", "most"] f fd)
    (D_law_roll : Df K mg "_law_roll" s_law_roll ["dice", "size"] a_law_roll fd_law_roll) (M : Bl mg) : FnOk P w K mg base CX0 (k + 1 + 1) f fd ["dice", "most"] spPt := by
  have G_law_roll := ok_law_roll (P := P) (w := w) (base := base) (k := 0) D_law_roll M
  refine D.F.ok sc_law_pointing (fun vs H Q E h => ?_) (fun cdv A outer s H vs Q E hr h => ?_)
  · obtain ⟨d, n, L, size, rfl, _⟩ := h
    rfl
  obtain ⟨d, n0, L, m, rfl, m2, m1000, hn, kn, q⟩ := h
  refine ⟨_, (pss_cons (ps_set (i := 2) sc_law_pointing.nd rfl (Or.inl rfl) (pe_call G_law_roll (hr.mono (by omega)) (by rfl) D_law_roll.g D_law_roll.F.kp D_law_roll.b .nil pass0 (pa_cons (pv 0) (pa_cons pe_int pa_nil))))
   (pss_cons (ps_set (i := 3) sc_law_pointing.nd rfl (Or.inl rfl) (pe_op op_add pe_int (pe_call G_law_roll (hr.mono (by omega)) (by rfl) D_law_roll.g D_law_roll.F.kp D_law_roll.b .nil pass0 (pa_cons (pv 0) (pa_cons (pe_op op_sub (pv 1) pe_int) pa_nil)))))
   (pss_cons (ps_set (i := 4) sc_law_pointing.nd rfl (Or.inl rfl) (pe_lst pa_nil))
   (pss_cons (ps_for PassesOwn.never rfl (pi_range1 (by rfl) M.range (pa_cons (pv 3) pa_nil)) (pg_name (i := 5) sc_law_pointing.nd rfl (Or.inl rfl))
    (pss_cons (ps_set (i := 6) sc_law_pointing.nd rfl (Or.inl rfl) (pe_op op_mod (pe_op op_add (pe_op op_add (pv 5) pe_int) (pe_call G_law_roll (hr.mono (by omega)) (by rfl) D_law_roll.g D_law_roll.F.kp D_law_roll.b .nil pass0 (pa_cons (pv 0) (pa_cons (pe_op op_sub (pv 3) pe_int) pa_nil)))) (pv 3)))
    (pss_cons (ps_set (i := 7) sc_law_pointing.nd rfl (Or.inl rfl) (pe_lst (pa_cons (pv 6) (pa_cons (pv 6) (pa_cons (pe_op op_mod (pe_op op_add (pv 5) pe_int) (pv 3)) (pa_cons (pe_callB (c_max rfl) (by rfl) M.max (by decide +kernel) (pa_cons (pe_op op_sub (pv 5) pe_int) (pa_cons (pe_callTy c_int (by rfl) M.int (by decide +kernel) (pa_cons (pe_cmpR op_eq (pv 5) pe_int (nomark _)) pa_nil)) pa_nil))) (pa_cons (pe_callTy c_int (by rfl) M.int (by decide +kernel) (pa_cons (pe_cmpR op_eq (pv 5) pe_int (nomark _)) pa_nil)) (pa_cons (pe_callB (c_min rfl) (by rfl) M.min (by decide +kernel) (pa_cons (pe_op op_xor (pv 5) pe_int) (pa_cons (pe_op op_sub (pv 3) pe_int) pa_nil))) (pa_cons (pv 6) pa_nil)))))))))
    (pss_cons (ps_set (i := 8) sc_law_pointing.nd rfl (Or.inl rfl) (pe_ix ix_list (pv 7) (pv 2) (fun _ _ => rfl)))
    (pss_cons (ps_if (PW.pt (pw_or (pt_cmpR op_eq (pv 8) (pv 5) (nomark _)) (pw_or1 (PW.pt (pw_and (pt_cmpR op_eq (pv 2) pe_int (nomark _)) (pw_and1 (pt_cmpR op_eq (pe_call G_law_roll (hr.mono (by omega)) (by rfl) D_law_roll.g D_law_roll.F.kp D_law_roll.b .nil pass0 (pa_cons (pv 0) (pa_cons pe_int pa_nil))) pe_int (nomark _)))))))) (pss_one (ps_set (i := 8) sc_law_pointing.nd rfl (Or.inl rfl) (pe_op op_mod (pe_op op_add (pv 5) pe_int) (pv 3)))) pss_nil)
    (pss_one (ps_expr (pe_bm PySem.F.plainAttrs_list PySem.F.slot_list_append PySem.F.type_list_append mt_append (pv 4) (pa_cons (pv 8) pa_nil)))))))))
   (pss_one (ps_ret (pe_callTy c_tuple (by rfl) M.tuple (by decide +kernel) (pa_cons (pv 4) pa_nil)))))))), ?_⟩
  walk_at "go"
  refine kRoll kn (by omega) (by omega) (by omega) fun way H1 w0 w1 kn1 => ?_
  walk_at "go"
  refine kRoll kn1 (by omega) (by omega) (by omega) fun n' H2 n0' n1' kn2 => ?_
  walk_at "go"
  rename_i pf H3 kn3
  refine kSeq (kRng1 (n := 2 + n') (by omega) (fun i σ' H' => ∃ (xs : List Int) (x5 x6 x7 x8 : Option V), σ' = [some (.ref d), some (.int m), some (.int way), some (.int (2 + n')), some (.ref pf), x5, x6, x7, x8] ∧ xs.length = i ∧
      (∀ (j : Nat) (x : Int), xs[j]? = some x → 0 ≤ x ∧ x < 2 + n' ∧ x ≠ j) ∧ Kn d (n0 + 2 + 2 * i) ((pf, .lst (xs.map V.int)) :: L) H')
    ⟨[], none, none, none, none, rfl, rfl, fun j x h => by simp at h, kn3⟩ (fun i σ' H' hi hW => ?_) (fun σ' H' hW => ?_) fun R hR => by walk_at "go"; exact hR)
  · obtain ⟨xs, x5, x6, x7, x8, rfl, hl, hx, kn4⟩ := hW
    refine kSeqA ?_
    walk_at "go"
    refine kRoll kn4 (by omega) (by omega) (by omega) fun r H5 r0 r1 kn5 => ?_
    walk_at "go"
    rename_i pl H6 kn6
    have hfr : 0 ≤ ((i : Int) + 1 + r) % (2 + n') ∧ ((i : Int) + 1 + r) % (2 + n') < 2 + n' := ⟨Int.emod_nonneg _ (by omega), Int.emod_lt_of_pos _ (by omega)⟩
    have hnx := nextOk (n := 2 + n') (k := i) (by omega) (by omega) hi
    have hbx := Bits.bitXor_nonneg (x := i) (y := 1) (by omega) (by omega)
    obtain ⟨e, he, hm⟩ := atMem (es := [((i : Int) + 1 + r) % (2 + n'), ((i : Int) + 1 + r) % (2 + n'), ((i : Int) + 1) % (2 + n'),
      (if (if decide (V.int (i : Int) = V.int 0) = true then 1 else 0) > (i : Int) - 1 then if decide (V.int (i : Int) = V.int 0) = true then 1 else 0 else (i : Int) - 1),
      (if decide (V.int (i : Int) = V.int 0) = true then 1 else 0), (if 2 + n' - 1 < Builtin.bitXor (i : Int) 1 then 2 + n' - 1 else Builtin.bitXor (i : Int) 1), ((i : Int) + 1 + r) % (2 + n')]) w0 (by simpa using w1)
    have hb : 0 ≤ e ∧ e < 2 + n' := by
      simp only [List.mem_cons, List.not_mem_nil, or_false] at hm
      rcases hm with rfl | rfl | rfl | rfl | rfl | rfl | rfl
      · exact hfr
      · exact hfr
      · exact ⟨hnx.1, hnx.2.1⟩
      · by_cases z : V.int (i : Int) = V.int 0
        · have z' := V.int.inj z
          simp only [z, decide_true, if_true]
          split <;> omega
        · simp only [z, decide_false, if_false, Bool.false_eq_true]
          split <;> omega
      · split <;> omega
      · split <;> omega
      · exact hfr
    refine kIxL (by walk_at "lg") he ?_
    refine kJoin (fun σ' H' => ∃ (x6 x7 : Option V) (y : Int), σ' = [some (.ref d), some (.int m), some (.int way), some (.int (2 + n')), some (.ref pf), some (.int i), x6, x7, some (.int y)] ∧
      (0 ≤ y ∧ y < 2 + n' ∧ y ≠ i) ∧ Kn d (n0 + 2 + 2 * i + 2) ((pf, .lst (xs.map V.int)) :: L) H') (fun σ' H' hW => ?_) fun N join => ?_
    · obtain ⟨y6, y7, y, rfl, hy, kn7⟩ := hW
      walk_at "go"
      rename_i H8 kn8
      refine ⟨xs ++ [y], _, _, _, _, rfl, by simp [hl], fun j x h => ?_, ?_⟩
      · by_cases hj : j < xs.length
        · rw [List.getElem?_append_left hj] at h
          exact hx j x h
        · rw [List.getElem?_append_right (by omega)] at h
          have hj0 : j - xs.length = 0 := by
            cases hz : j - xs.length with
            | zero => rfl
            | succ z => rw [hz] at h; simp at h
          rw [hj0] at h
          have hyx : y = x := by simpa using h
          have hj1 : j = i := by omega
          subst hj1
          subst hyx
          exact hy
      · rw [List.map_append]
        exact kn8.more (by omega)
    · refine kIfS ?_
      walk_at "go"
      refine iteI (fun h1 => iteT ?_) (fun h1 => ?_)
      · walk_at "go"
        exact join _ _ ⟨_, _, _, rfl, hnx, kn6.tail.more (by omega)⟩
      · walk_at "go"
        refine iteI (fun h2 => ?_) (fun h2 => ?_)
        · walk_at "go"
          refine kRoll kn6.tail (by omega) (by omega) (by omega) fun r2 H8 r20 r21 kn8 => ?_
          walk_at "go"
          refine iteI (fun h3 => ?_) (fun h3 => ?_)
          · walk_at "go"
            exact join _ _ ⟨_, _, _, rfl, hnx, kn8.more (by omega)⟩
          · walk_at "go"
            exact join _ _ ⟨_, _, _, rfl, ⟨hb.1, hb.2, h1⟩, kn8.more (by omega)⟩
        · refine iteF ?_
          walk_at "go"
          exact join _ _ ⟨_, _, _, rfl, ⟨hb.1, hb.2, h1⟩, kn6.tail.more (by omega)⟩
  · obtain ⟨xs, x5, x6, x7, x8, rfl, hl, hx, kn4⟩ := hW
    walk_at "go"
    rename_i p H5 kn5
    refine q p xs H5 ⟨by omega, by omega, fun j x h => ?_⟩ ?_
    · have := hx j x h
      omega
    · exact (kn5.sub ((List.sublist_cons_self _ _).cons₂ _)).more (by omega)
end

/-! ### labels of which none is its next's -/
/-- labels of which none is its next's -/
structure LbOk (xs ls : List Int) (top : Int) : Prop where
  len : ls.length = xs.length
  low : ∀ x ∈ ls, 0 ≤ x ∧ (x < top ∨ x < xs.length)
  own : ∀ (i : Nat) (x a b : Int), xs[i]? = some x → ls[i]? = some a → ls[x.toNat]? = some b → a ≠ b
theorem kNiL {H : Hp} {Q : VK} {K : PySem.W.Frag} {p : Addr} {x : Int} {ns : List Int} (h : SqL K H p (ns.map V.int)) (g : Q (.bl (!decide (x ∈ ns))) H) : rIn K true (.int x) (.ref p) H Q := by
  refine ⟨p, _, rfl, .inl h, rfl, flatInts ns, ?_⟩
  rw [if_pos rfl, inInts]
  exact g
/-- the labels of those that point to i, of the first c -/
def tiedTo (xs fs : List Int) (i c : Nat) : List Int := ((List.range c).filter (fun j => decide (xs.getD j 0 = (i : Int)))).map (fun j => fs.getD j 0)
theorem tied_more (xs fs : List Int) (i c : Nat) : tiedTo xs fs i (c + 1) = tiedTo xs fs i c ++ (if decide (xs.getD c 0 = (i : Int)) = true then [fs.getD c 0] else []) := by
  unfold tiedTo
  rw [List.range_succ, List.filter_append, List.map_append]
  by_cases h : decide (xs.getD c 0 = (i : Int)) = true
  · rw [if_pos h]
    simp only [List.filter_cons, h, if_true, List.filter_nil, List.map_cons, List.map_nil]
  · rw [if_neg h]
    simp only [List.filter_cons, h, if_false, List.filter_nil, List.map_nil, Bool.false_eq_true]
theorem tied_mem {xs fs : List Int} {i k : Nat} {a : Int} (hk : k < fs.length) (hl : fs.length = xs.length) (hx : xs[k]? = some (i : Int)) (ha : fs[k]? = some a) : a ∈ tiedTo xs fs i xs.length := by
  unfold tiedTo
  refine List.mem_map.mpr ⟨k, List.mem_filter.mpr ⟨List.mem_range.mpr (by omega), ?_⟩, ?_⟩
  · rw [List.getD_eq_getElem?_getD, hx]
    simp
  · rw [List.getD_eq_getElem?_getD, ha]
    rfl
theorem LbOk.set {xs fs : List Int} {top l : Int} {i : Nat} {m : Int} (h : LbOk xs fs top) (hp : PtOk m xs) (hi : i < xs.length) (l0 : 0 ≤ l) (l1 : l < top) (hn : ∀ x b, xs[i]? = some x → fs[x.toNat]? = some b → l ≠ b) (ht : l ∉ tiedTo xs fs i xs.length) : LbOk xs (fs.set i l) top := by
  refine ⟨by rw [List.length_set, h.len], fun x hx => ?_, fun k x a b hk ha hb => ?_⟩
  · rcases List.mem_or_eq_of_mem_set hx with hx | rfl
    · exact h.low x hx
    · exact ⟨l0, .inl l1⟩
  · have hg := hp.goal k x hk
    have hl := h.len
    rw [List.getElem?_set] at ha hb
    by_cases hki : i = k
    · subst hki
      rw [if_pos rfl, if_pos (by omega)] at ha
      rw [if_neg (by omega)] at hb
      rw [← Option.some.inj ha]
      exact hn x b hk hb
    · rw [if_neg hki] at ha
      by_cases hxi : i = x.toNat
      · rw [if_pos hxi, if_pos (by omega)] at hb
        rw [← Option.some.inj hb]
        have hx' : x = (i : Int) := by omega
        intro e
        subst e
        rw [hx'] at hk
        exact ht (tied_mem (List.getElem?_eq_some_iff.mp ha).1 hl hk ha)
      · rw [if_neg hxi] at hb
        exact h.own k x a b hk ha hb
theorem LbOk.first {xs : List Int} {top m : Int} (hp : PtOk m xs) : LbOk xs ((List.range xs.length).map (fun (i : Nat) => (i : Int))) top := by
  refine ⟨by simp, fun x hx => ?_, fun k x a b hk ha hb => ?_⟩
  · obtain ⟨j, hj, rfl⟩ := List.mem_map.mp hx
    have := List.mem_range.mp hj
    exact ⟨by omega, .inr (by omega)⟩
  · have hg := hp.goal k x hk
    rw [List.getElem?_map, List.getElem?_range (by have := (List.getElem?_eq_some_iff.mp hk).1; omega)] at ha
    rw [List.getElem?_map, List.getElem?_range (by omega)] at hb
    have ha' : (k : Int) = a := Option.some.inj ha
    have hb' : ((x.toNat : Nat) : Int) = b := Option.some.inj hb
    omega

/-! ### is_proper, asked by the laws -/
/-- the i-th house has not its next's label -/
def apartAt (xs ls : List Int) (i : Nat) : Bool := !decide (ls.getD i 0 = ls.getD (xs.getD i 0).toNat 0)
def properB (xs ls : List Int) : Bool := (List.range xs.length).all (apartAt xs ls)
def spIsProper : Sp := fun vs H Q _ => ∃ (d : Addr) (n : Nat) (L : Led) (p q : Addr) (xs ls : List Int), vs = [.ref p, .ref q] ∧ PtOk 60 xs ∧ ls.length = xs.length ∧ (p, .tup (xs.map V.int)) ∈ L ∧ (q, .tup (ls.map V.int)) ∈ L ∧ Kn d n L H ∧ ∀ H', Kn d n L H' → Q (.bl (properB xs ls)) H'
theorem getD_of {l : List Int} {i : Nat} {x : Int} (h : l[i]? = some x) : l.getD i 0 = x := by
  rw [List.getD_eq_getElem?_getD, h]
  rfl
theorem atInt {l : List Int} {i : Nat} {x : Int} (h : l[i]? = some x) : atI (l.map V.int) (i : Int) = some (.int x) := atI_nat (by rw [List.getElem?_map, h]; rfl)
theorem LbOk.proper {xs ls : List Int} {top m : Int} (h : LbOk xs ls top) (hp : PtOk m xs) : properB xs ls = true := by
  unfold properB
  rw [List.all_eq_true]
  intro i hi
  have hi' := List.mem_range.mp hi
  have hx : xs[i]? = some xs[i] := List.getElem?_eq_getElem hi'
  have hg := hp.goal i _ hx
  have hl := h.len
  have ha : ls[i]? = some ls[i] := List.getElem?_eq_getElem (by omega)
  have hb : ls[(xs[i]).toNat]? = some ls[(xs[i]).toNat] := List.getElem?_eq_getElem (by omega)
  unfold apartAt
  rw [getD_of ha, getD_of hx, getD_of hb]
  have := h.own i _ _ _ hx ha hb
  simp [this]

/-! ### while -/
theorem kWhile {σ : L2.St} {H : Hp} {c : L2.TT} {tb : TS} {nx bk ct : L2.St → Hp → Prop} {rt : VK} (W : Nat → L2.St → Hp → Prop) (m : Nat) (h0 : W m σ H)
    (hs : ∀ m σ H, W m σ H → c σ H fun b H1 => if b = true then tb (Ends.mk (fun σ' H' => ∃ m', m' < m ∧ W m' σ' H') rt nx (fun σ' H' => ∃ m', m' < m ∧ W m' σ' H')) σ H1 else nx σ H1)
    (mono : ∀ σ H Q Q', (∀ b H1, Q b H1 → Q' b H1) → c σ H Q → c σ H Q') : tWhile c tb (Ends.mk nx rt bk ct) σ H := by
  refine ⟨W, ⟨m, h0⟩, fun m σ H hw => mono _ _ _ _ (fun b H1 hh => ?_) (hs m σ H hw)⟩
  cases b with
  | true =>
    rw [if_pos rfl] at hh ⊢
    exact ⟨_, fun σ' H' h => h, hh⟩
  | false =>
    rw [if_neg Bool.false_ne_true] at hh ⊢
    exact hh

/-! ### the least place of unlike bits -/
def shortN (a b : Nat) : Nat := if h : a = b then 0 else if a % 2 = b % 2 then 2 + shortN (a / 2) (b / 2) else a % 2
termination_by a + b
decreasing_by omega
theorem short_like {a b : Nat} (h : a ≠ b) (e : a % 2 = b % 2) : shortN a b = 2 + shortN (a / 2) (b / 2) := by
  rw [shortN, dif_neg h, if_pos e]
theorem short_unlike {a b : Nat} (e : ¬ a % 2 = b % 2) : shortN a b = a % 2 := by
  rw [shortN, dif_neg (fun z => e (by rw [z])), if_neg e]
theorem short_bound : ∀ (k a b : Nat), a < 2 ^ k → b < 2 ^ k → shortN a b ≤ 2 * k
  | 0, a, b, ha, hb => by
    have : a = b := by omega
    rw [shortN, dif_pos this]
    exact Nat.zero_le _
  | k + 1, a, b, ha, hb => by
    rw [Nat.pow_succ] at ha hb
    by_cases h : a = b
    · rw [shortN, dif_pos h]
      exact Nat.zero_le _
    · by_cases e : a % 2 = b % 2
      · rw [short_like h e]
        have := short_bound k (a / 2) (b / 2) (by omega) (by omega)
        omega
      · rw [short_unlike e]
        omega
def spShorter : Sp := fun vs H Q _ => ∃ a b : Nat, vs = [.int (a : Int), .int (b : Int)] ∧ a < 2 ^ 62 ∧ b < 2 ^ 62 ∧ a ≠ b ∧ Q (.int (shortN a b : Int)) H

/-! ### one round of the laws: a step, a taking over -/
/-- all labels are from nought on, and small -/
def LbIn (ls : List Int) : Prop := ∀ x ∈ ls, 0 ≤ x ∧ x < 2 ^ 62
def stepAt (xs ls : List Int) (i : Nat) : Int := (shortN (ls.getD i 0).toNat (ls.getD (xs.getD i 0).toNat 0).toNat : Nat)
def overAt (xs ls : List Int) (i : Nat) : Int := ls.getD (xs.getD i 0).toNat 0
def roundL (xs ls : List Int) (w : Int) : List Int := (List.range xs.length).map (if w = 0 then stepAt xs ls else overAt xs ls)

/-- what the program's text says of a refusal with a field -/
structure Rf (P : Program) (K : PySem.W.Frag) (mg : Str → Option Value) (x fld : Str) (C fI : Addr) (fd : FuncData) (msg : Expr) (bmB : List Value) : Prop where
  T : ExT P K mg fld C fI bmB
  J : ExI P K fld C fI fd msg
  M : ∀ w, MsgOk P w fld msg (fun _ => True)
  g : mg x = some (.ref C)
theorem kRaiseR {σ : L2.St} {H : Hp} {C : Addr} {fld : Str} {W : WX} {ta : TA} {D : Ends} (h : ta σ H fun vs H1 => ∃ v, vs = [v] ∧ ∀ d, H1 d = none → W (.ref C) (some d) σ (upd H1 d (.xd [(fld, v)]))) : tRaiseR C fld W ta D σ H := h

/-! ### how many bits -/
def bitsN (n : Nat) : Nat := if n = 0 then 0 else Nat.log2 n + 1
theorem bits_half {n : Nat} (h : 0 < n) : bitsN n = bitsN (n / 2) + 1 := by
  unfold bitsN
  rw [if_neg (by omega)]
  by_cases h2 : n / 2 = 0
  · rw [if_pos h2]
    have : n = 1 := by omega
    subst this
    decide
  · rw [if_neg h2]
    rw [Nat.log2_def n, if_pos (by omega)]
def spBits : Sp := fun vs H Q _ => ∃ n : Nat, vs = [.int (n : Int)] ∧ n < 2 ^ 62 ∧ Q (.int (bitsN n : Int)) H
theorem bits_less {m : Nat} (h : 6 < m) : 2 * bitsN (m - 1) < m := by
  unfold bitsN
  rw [if_neg (by omega)]
  have h1 : 2 ^ Nat.log2 (m - 1) ≤ m - 1 := Nat.log2_self_le (by omega)
  have key : ∀ l : Nat, 3 ≤ l → 2 * l + 2 ≤ 2 ^ l := by
    intro l hl
    induction l with
    | zero => omega
    | succ k ih =>
      by_cases hk : 3 ≤ k
      · have := ih hk
        rw [Nat.pow_succ]
        omega
      · have : k = 2 := by omega
        subst this
        decide
  by_cases hl : 3 ≤ Nat.log2 (m - 1)
  · have := key _ hl
    omega
  · omega
def halv (m : Nat) : List Nat := if h : 6 < m then m :: halv (2 * bitsN (m - 1)) else [m]
termination_by m
decreasing_by exact bits_less h
theorem halv_big {m : Nat} (h : 6 < m) : halv m = m :: halv (2 * bitsN (m - 1)) := by
  rw [halv, dif_pos h]
theorem halv_end {m : Nat} (h : ¬ 6 < m) : halv m = [m] := by
  rw [halv, dif_neg h]
theorem halv_len (m : Nat) : (halv m).length ≤ m + 1 := by
  induction m using Nat.strongRecOn with
  | _ m ih =>
    by_cases h : 6 < m
    · rw [halv_big h, List.length_cons]
      have := ih _ (bits_less h)
      have := bits_less h
      omega
    · rw [halv_end h, List.length_singleton]
      omega
theorem bits_le {n : Nat} (h : n < 2 ^ 62) : bitsN n ≤ 62 := by
  unfold bitsN
  split
  · omega
  · rename_i h0
    have := (Nat.log2_lt h0).mpr h
    omega

abbrev s_law_bits : Stmt := topS 33
theorem sc_law_bits : FnScope ["number", "found"] ["number"] (defScope s_law_bits) := ⟨rfl, rfl, rfl, by decide +kernel, rfl, by decide +kernel, by decide +kernel⟩
theorem ok_law_bits {P : Program} {w : World} {K : PySem.W.Frag} {mg : Str → Option Value} {base : Heap} {f : Addr} {fd : FuncData} {k : Nat} (D : Df K mg "_law_bits" s_law_bits ["number"] f fd) (M : Bl mg) : FnOk P w K mg base CX0 (k + 1) f fd ["number"] spBits := by
  refine D.F.ok sc_law_bits (fun vs H Q E h => ?_) (fun cdv A outer s H vs Q E hr h => ?_)
  · obtain ⟨n, rfl, _⟩ := h
    rfl
  obtain ⟨n, rfl, hn, q⟩ := h
  refine ⟨_, (pss_cons (ps_set (i := 1) sc_law_bits.nd rfl (Or.inl rfl) pe_int)
   (pss_cons (ps_while PassesOwn.never (pt_cmpR op_gt (pv 0) pe_int (nomark _))
    (pss_cons (ps_set (i := 0) sc_law_bits.nd rfl (Or.inl rfl) (pe_op op_fdivW (pv 0) pe_int))
    (pss_one (ps_set (i := 1) sc_law_bits.nd rfl (Or.inl rfl) (pe_op op_add (pv 1) pe_int)))))
   (pss_one (ps_ret (pv 1))))), ?_⟩
  walk_at "go"
  refine kSeq (kWhile (fun m σ' H' => ∃ (a : Nat) (b : Nat), m = a ∧ σ' = [some (.int (a : Int)), some (.int (b : Int))] ∧ a < 2 ^ 62 ∧ b + bitsN a = bitsN n ∧ H' = H) n ⟨n, 0, rfl, rfl, hn, by omega, rfl⟩ (fun m σ' H' hW => ?_) (fun σ H Q Q' hm hh => ?_))
  · obtain ⟨a, b, rfl, rfl, ha, hb, rfl⟩ := hW
    walk_at "go"
    refine iteD (fun h0 => ?_) (fun h0 => ?_)
    · walk_at "go"
      refine ⟨m / 2, by omega, m / 2, b + 1, rfl, ?_, by omega, ?_, rfl⟩
      · have e : ((m : Int) / 2) = ((m / 2 : Nat) : Int) := by omega
        simp only [List.set_cons_zero, List.set_cons_succ]
        rw [e]
        rfl
      · rw [bits_half (by omega)] at hb
        omega
    · walk_at "go"
      have e : m = 0 := by omega
      subst e
      have e2 : bitsN 0 = 0 := rfl
      rw [e2] at hb
      have e3 : b = bitsN n := by omega
      rw [e3]
      exact q
  · obtain ⟨v, hv, i, j, e1, e2, k, ek, hq⟩ := hh
    exact ⟨v, hv, i, j, e1, e2, k, ek, hm _ _ hq⟩

/-! ### steps keep labels proper, and shorten them -/
theorem short_ne : ∀ (n a b c : Nat), a + b + c ≤ n → a ≠ b → b ≠ c → shortN a b ≠ shortN b c
  | 0, a, b, c, h, hab, _ => absurd (show a = b by omega) hab
  | n + 1, a, b, c, h, hab, hbc => by
    by_cases e1 : a % 2 = b % 2
    · rw [short_like hab e1]
      by_cases e2 : b % 2 = c % 2
      · rw [short_like hbc e2]
        have := short_ne n (a / 2) (b / 2) (c / 2) (by omega) (by omega) (by omega)
        omega
      · rw [short_unlike e2]
        omega
    · rw [short_unlike e1]
      by_cases e2 : b % 2 = c % 2
      · rw [short_like hbc e2]
        omega
      · rw [short_unlike e2]
        omega
theorem short_lt : ∀ (k a b : Nat), a < 2 ^ k → b < 2 ^ k → a ≠ b → shortN a b < 2 * k
  | 0, a, b, ha, hb, h => absurd (show a = b by omega) h
  | k + 1, a, b, ha, hb, h => by
    rw [Nat.pow_succ] at ha hb
    by_cases e : a % 2 = b % 2
    · rw [short_like h e]
      have := short_lt k (a / 2) (b / 2) (by omega) (by omega) (by omega)
      omega
    · rw [short_unlike e]
      omega
theorem lt_bits {n : Nat} : n < 2 ^ bitsN n := by
  unfold bitsN
  split
  · omega
  · exact Nat.lt_log2_self
theorem short_halv {m a b : Nat} (ha : a < m) (hb : b < m) (h : a ≠ b) : shortN a b < 2 * bitsN (m - 1) :=
  short_lt _ _ _ (Nat.lt_of_le_of_lt (by omega) (lt_bits (n := m - 1))) (Nat.lt_of_le_of_lt (by omega) (lt_bits (n := m - 1))) h
/-- what properB says -/
theorem proper_at {xs ls : List Int} {m : Int} (hp : PtOk m xs) (h : properB xs ls = true) {i : Nat} {x : Int} (hx : xs[i]? = some x) : ls.getD i 0 ≠ ls.getD x.toNat 0 := by
  unfold properB at h
  rw [List.all_eq_true] at h
  have := h i (List.mem_range.mpr (List.getElem?_eq_some_iff.mp hx).1)
  unfold apartAt at this
  rw [getD_of hx] at this
  simpa using this
theorem proper_of {xs ls : List Int} (h : ∀ (i : Nat) (x : Int), xs[i]? = some x → ls.getD i 0 ≠ ls.getD x.toNat 0) : properB xs ls = true := by
  unfold properB
  rw [List.all_eq_true]
  intro i hi
  have hi' := List.mem_range.mp hi
  have hx : xs[i]? = some xs[i] := List.getElem?_eq_getElem hi'
  unfold apartAt
  rw [getD_of hx]
  have := h i _ hx
  simpa using this
theorem roundL_len (xs ls : List Int) (w : Int) : (roundL xs ls w).length = xs.length := by
  unfold roundL
  rw [List.length_map, List.length_range]
theorem roundL_at {xs ls : List Int} {w : Int} {i : Nat} (hi : i < xs.length) : (roundL xs ls w).getD i 0 = (if w = 0 then stepAt xs ls else overAt xs ls) i := by
  unfold roundL
  rw [List.getD_eq_getElem?_getD, List.getElem?_map, List.getElem?_range hi]
  rfl
theorem getD_in {ls : List Int} (h : LbIn ls) {i : Nat} (hi : i < ls.length) : 0 ≤ ls.getD i 0 ∧ ls.getD i 0 < 2 ^ 62 := by
  rw [getD_of (List.getElem?_eq_getElem hi)]
  exact h _ (List.getElem_mem hi)
theorem round_proper {xs ls : List Int} {m w : Int} (hp : PtOk m xs) (hl : ls.length = xs.length) (hin : LbIn ls) (h : properB xs ls = true) : properB xs (roundL xs ls w) = true := by
  refine proper_of fun i x hx => ?_
  have hi := (List.getElem?_eq_some_iff.mp hx).1
  have hg := hp.goal i x hx
  have hxn : x.toNat < xs.length := by omega
  have hy : xs[x.toNat]? = some xs[x.toNat] := List.getElem?_eq_getElem hxn
  have hg2 := hp.goal x.toNat _ hy
  have h1 := proper_at hp h hx
  have h2 := proper_at hp h hy
  rw [roundL_at hi, roundL_at hxn]
  by_cases hw : w = 0
  · rw [if_pos hw]
    unfold stepAt
    rw [getD_of hx, getD_of hy]
    have b1 := getD_in hin (i := i) (by omega)
    have b2 := getD_in hin (i := x.toNat) (by omega)
    have b3 := getD_in hin (i := (xs[x.toNat]).toNat) (by omega)
    have := short_ne _ (ls.getD i 0).toNat (ls.getD x.toNat 0).toNat (ls.getD (xs[x.toNat]).toNat 0).toNat (Nat.le_refl _) (by omega) (by omega)
    intro e
    exact this (by exact_mod_cast e)
  · rw [if_neg hw]
    unfold overAt
    rw [getD_of hx, getD_of hy]
    exact h2
theorem roundL_in {xs ls : List Int} {m : Int} (hp : PtOk m xs) (hl : ls.length = xs.length) (hin : LbIn ls) : LbIn (roundL xs ls 0) := by
  intro y hy
  unfold roundL at hy
  obtain ⟨i, hi, rfl⟩ := List.mem_map.mp hy
  have hi' := List.mem_range.mp hi
  rw [if_pos rfl]
  unfold stepAt
  have hx : xs[i]? = some xs[i] := List.getElem?_eq_getElem hi'
  have hg := hp.goal i _ hx
  rw [getD_of hx]
  have b1 := getD_in hin (i := i) (by omega)
  have b2 := getD_in hin (i := (xs[i]).toNat) (by omega)
  have := short_bound 62 (ls.getD i 0).toNat (ls.getD (xs[i]).toNat 0).toNat (by omega) (by omega)
  omega

/-! ### the row of halvings -/
theorem halv_short {m : Nat} (h : m < 2 ^ 62) : (halv m).length ≤ 126 := by
  by_cases h6 : 6 < m
  · rw [halv_big h6, List.length_cons]
    have h1 := halv_len (2 * bitsN (m - 1))
    have h2 := bits_le (n := m - 1) (by omega)
    omega
  · rw [halv_end h6, List.length_singleton]
    omega
def vN (n : Nat) : V := .int (n : Int)
def spHalv : Sp := fun vs H Q _ => ∃ (d : Addr) (n : Nat) (L : Led) (m : Nat), vs = [.int (m : Int)] ∧ m < 2 ^ 62 ∧ Kn d n L H ∧ ∀ l H', Kn d n ((l, .lst ((halv m).map vN)) :: L) H' → Q (.ref l) H'
theorem halv_pos (m : Nat) : 1 ≤ (halv m).length := by
  by_cases h6 : 6 < m
  · rw [halv_big h6, List.length_cons]; omega
  · rw [halv_end h6, List.length_singleton]; omega

/-! ### check_proper, stepped, step of the program -/
abbrev s_unlike_place : Stmt := topS 12
theorem sc_unlike_place : FnScope ["one", "other", "unlike"] ["one", "other"] (defScope s_unlike_place) := ⟨rfl, rfl, rfl, by decide +kernel, rfl, by decide +kernel, by decide +kernel⟩
abbrev s_stepped : Stmt := topS 13
theorem sc_stepped : FnScope ["label", "goal_label", "place"] ["label", "goal_label"] (defScope s_stepped) := ⟨rfl, rfl, rfl, by decide +kernel, rfl, by decide +kernel, by decide +kernel⟩
def plN (a b : Nat) : Nat := if h : a = b then 0 else if a % 2 = b % 2 then 1 + plN (a / 2) (b / 2) else 0
termination_by a + b
decreasing_by omega
theorem plN_like {a b : Nat} (h : a ≠ b) (e : a % 2 = b % 2) : plN a b = 1 + plN (a / 2) (b / 2) := by
  rw [plN, dif_neg h, if_pos e]
theorem plN_unlike {a b : Nat} (e : ¬ a % 2 = b % 2) : plN a b = 0 := by
  rw [plN, dif_neg (fun z => e (by rw [z])), if_neg e]
theorem plN_low : ∀ (n a b : Nat), a + b ≤ n → a ≠ b → lowB (a ^^^ b) = 2 ^ plN a b ∧ shortN a b = 2 * plN a b + a / 2 ^ plN a b % 2
  | 0, a, b, h, hne => absurd (show a = b by omega) hne
  | n + 1, a, b, h, hne => by
    have h1 := xor_half a b
    have h2 := xor_two a b
    by_cases e : a % 2 = b % 2
    · have ih := plN_low n (a / 2) (b / 2) (by omega) (by omega)
      rw [plN_like hne e, short_like hne e, ih.2]
      have h3 : a ^^^ b = 2 * (a / 2 ^^^ b / 2) := by omega
      rw [h3, low_even (xor_pos (by omega)), ih.1]
      have h4 : (2 : Nat) ^ (1 + plN (a / 2) (b / 2)) = 2 * 2 ^ plN (a / 2) (b / 2) := by rw [Nat.add_comm, Nat.pow_succ, Nat.mul_comm]
      rw [h4]
      refine ⟨rfl, ?_⟩
      rw [← Nat.div_div_eq_div_mul]
      omega
    · rw [plN_unlike e, short_unlike e]
      have h3 : (a ^^^ b) % 2 = 1 := by omega
      rw [low_odd h3]
      simp
theorem plN_le {a b : Nat} (ha : a < 2 ^ 62) (hb : b < 2 ^ 62) (hne : a ≠ b) : plN a b ≤ 62 := by
  have h1 := (plN_low _ a b (Nat.le_refl _) hne).2
  have h2 := short_bound 62 a b ha hb
  omega
def spPlace : Sp := fun vs H Q _ => ∃ a b : Nat, vs = [.int (a : Int), .int (b : Int)] ∧ a < 2 ^ 62 ∧ b < 2 ^ 62 ∧ a ≠ b ∧ Q (.int (plN a b : Int)) H
section
variable {P : Program} {w : World} {K : PySem.W.Frag} {mg : Str → Option Value} {base : Heap}
theorem ok_unlike_place {f : Addr} {fd : FuncData} {k : Nat} (D : Df K mg "unlike_place" s_unlike_place ["one", "other"] f fd) (M : Bl mg) : FnOk P w K mg base CX0 (k + 1) f fd ["one", "other"] spPlace := by
  refine D.F.ok sc_unlike_place (fun vs H Q E h => ?_) (fun cdv A outer s H vs Q E hr h => ?_)
  · obtain ⟨a, b, rfl, _⟩ := h
    rfl
  obtain ⟨a, b, rfl, ha, hb, hne, q⟩ := h
  refine ⟨_, (pss_cons (ps_set (i := 2) sc_unlike_place.nd rfl (Or.inl rfl) (pe_op op_xor (pv 0) (pv 1)))
   (pss_one (ps_ret (pe_op op_sub (pe_bits (pe_op op_and (pv 2) (pe_un un_neg (pv 2)))) pe_int)))), ?_⟩
  have hx := xor_pos hne
  walk_at "go"
  refine kBits (n := 0) ?_
  walk_at "go"
  rw [bitXor_nat, bitAnd_neg hx, (plN_low _ a b (Nat.le_refl _) hne).1, bits_pow]
  have e : ((plN a b + 1 : Nat) : Int) - 1 = (plN a b : Int) := by omega
  rw [e]
  exact q
theorem ok_stepped {f a_unlike_place : Addr} {fd fd_unlike_place : FuncData} {k : Nat} (D : Df K mg "stepped" s_stepped ["label", "goal_label"] f fd) (D_unlike_place : Df K mg "unlike_place" s_unlike_place ["one", "other"] a_unlike_place fd_unlike_place) (M : Bl mg) : FnOk P w K mg base CX0 (k + 1 + 1) f fd ["label", "goal_label"] spShorter := by
  have G_unlike_place := ok_unlike_place (P := P) (w := w) (base := base) (k := 0) D_unlike_place M
  refine D.F.ok sc_stepped (fun vs H Q E h => ?_) (fun cdv A outer s H vs Q E hr h => ?_)
  · obtain ⟨a, b, rfl, _⟩ := h
    rfl
  obtain ⟨a, b, rfl, ha, hb, hne, q⟩ := h
  refine ⟨_, (pss_cons (ps_set (i := 2) sc_stepped.nd rfl (Or.inl rfl) (pe_call G_unlike_place (hr.mono (by omega)) (by rfl) D_unlike_place.g D_unlike_place.F.kp D_unlike_place.b .nil pass0 (pa_cons (pv 0) (pa_cons (pv 1) pa_nil))))
   (pss_one (ps_ret (pe_op op_add (pe_op op_mul pe_int (pv 2)) (pe_op op_and (pe_op op_shr (pv 0) (pv 2)) pe_int))))), ?_⟩
  have hp := plN_le ha hb hne
  walk_at "go"
  refine ⟨a, b, rfl, ha, hb, hne, ?_⟩
  walk_at "go"
  refine kI (show (0 : Int) ≤ _ by omega) ?_
  walk_at "go"
  have e : 2 * (plN a b : Int) + Builtin.bitAnd ((a : Int) / 2 ^ ((plN a b : Int)).toNat) 1 = ((shortN a b : Nat) : Int) := by
    rw [bitAnd_m1, (plN_low _ a b (Nat.le_refl _) hne).2, Int.toNat_natCast]
    norm_cast
  rw [e]
  exact q
end

/-! ### halvings of the program -/
abbrev s_halvings : Stmt := topS 16
theorem sc_halvings : FnScope ["m", "told"] ["m"] (defScope s_halvings) := ⟨rfl, rfl, rfl, by decide +kernel, rfl, by decide +kernel, by decide +kernel⟩
theorem bits_int (n : Nat) : Builtin.Int.intBits (n : Int) = bitsN n := by
  unfold Builtin.Int.intBits bitsN
  by_cases h : n = 0
  · subst h
    rfl
  · rw [if_neg h, if_neg (by rw [beq_iff_eq]; omega), Int.natAbs_natCast]
theorem ok_halvings {P : Program} {w : World} {K : PySem.W.Frag} {mg : Str → Option Value} {base : Heap} {f : Addr} {fd : FuncData} {k : Nat} (D : Df K mg "halvings" s_halvings ["m"] f fd)
    (C1 : ∃ t, mg "SHORT" = some (.int 6 t)) (M : Bl mg) : FnOk P w K mg base CX0 (k + 1) f fd ["m"] spHalv := by
  obtain ⟨t1, g_SHORT⟩ := C1
  refine D.F.ok sc_halvings (fun vs H Q E h => ?_) (fun cdv A outer s H vs Q E hr h => ?_)
  · obtain ⟨d, n, L, m, rfl, _⟩ := h
    rfl
  obtain ⟨d, n, L, m, rfl, hm, kn, q⟩ := h
  refine ⟨_, (pss_cons (ps_set (i := 1) sc_halvings.nd rfl (Or.inl rfl) (pe_lst (pa_cons (pv 0) pa_nil)))
   (pss_cons (ps_while PassesOwn.never (pt_cmpR op_gt (pe_ix ix_list (pv 1) (pe_un un_neg pe_int) (fun _ _ => rfl)) (pe_glob (v := .int 6) (by rfl) g_SHORT ⟨_, rfl⟩) (nomark _))
    (pss_one (ps_expr (pe_bm PySem.F.plainAttrs_list PySem.F.slot_list_append PySem.F.type_list_append mt_append (pv 1) (pa_cons (pe_op op_mul pe_int (pe_bits (pe_op op_sub (pe_ix ix_list (pv 1) (pe_un un_neg pe_int) (fun _ _ => rfl)) pe_int))) pa_nil)))))
   (pss_one (ps_ret (pv 1))))), ?_⟩
  have hs := halv_short hm
  walk_at "go"
  rename_i l H1 kn1
  refine kSeq (kWhile (fun x σ' H' => ∃ acc : List Nat, σ' = [some (.int (m : Int)), some (.ref l)] ∧ x < 2 ^ 62 ∧ acc ++ halv x = halv m ∧ Kn d n ((l, .lst ((acc ++ [x]).map vN)) :: L) H') m ⟨[], rfl, hm, rfl, kn1⟩ (fun x σ' H' hW => ?_) (fun σ H Q Q' hm' hh => ?_))
  · obtain ⟨acc, rfl, hx, hacc, kn2⟩ := hW
    have hlen : (acc ++ [x]).length ≤ 126 := by
      have h1 := congrArg List.length hacc
      rw [List.length_append] at h1
      have h2 : 1 ≤ (halv x).length := by
        by_cases h6 : 6 < x
        · rw [halv_big h6, List.length_cons]; omega
        · rw [halv_end h6, List.length_singleton]; omega
      rw [List.length_append, List.length_singleton]
      omega
    have hlast : atI ((acc ++ [x]).map vN) (-1) = some (.int (x : Int)) := by
      have := atLast (acc.map (fun n : Nat => (n : Int))) (x : Int)
      rw [← this]
      congr 1
      simp [vN, Function.comp_def]
    walk_at "go"
    refine kIxL (kn2.seqL List.mem_cons_self) hlast ?_
    walk_at "go"
    refine iteD (fun h6 => ?_) (fun h6 => ?_)
    · have h6' : 6 < x := by omega
      have hbl := bits_less h6'
      have hb62 := bits_le (n := x - 1) (by omega)
      walk_at "go"
      refine kBits (n := 0) ?_
      walk_at "go"
      refine kIxL (kn2.seqL List.mem_cons_self) hlast ?_
      walk_at "go"
      have e : (x : Int) - 1 = ((x - 1 : Nat) : Int) := by omega
      rw [e, bits_int]
      refine kAppK kn2 0 rfl (by rw [List.length_map]; omega) fun H5 kn5 => ?_
      refine ⟨2 * bitsN (x - 1), hbl, acc ++ [x], rfl, by omega, ?_, ?_⟩
      · rw [List.append_assoc, List.singleton_append, ← halv_big h6']
        exact hacc
      · have e : (2 * (bitsN (x - 1) : Int)) = ((2 * bitsN (x - 1) : Nat) : Int) := by omega
        rw [e] at kn5
        rw [List.map_append]
        exact kn5
    · have h6' : ¬ 6 < x := by omega
      walk_at "go"
      rw [halv_end h6'] at hacc
      rw [hacc] at kn2
      exact q _ _ kn2
  · obtain ⟨v, hv, i, ei, p, xs, kk, vv, e1, e2, hS, ha, a, b, e3, e4, kb, ek, hq⟩ := hh
    exact ⟨v, hv, i, ei, p, xs, kk, vv, e1, e2, hS, ha, a, b, e3, e4, kb, ek, hm' _ _ hq⟩

/-! ### needed_steps of the program -/
abbrev s_needed_steps : Stmt := topS 17
theorem sc_needed_steps : FnScope ["m"] ["m"] (defScope s_needed_steps) := ⟨rfl, rfl, rfl, by decide +kernel, rfl, by decide +kernel, by decide +kernel⟩
def spNeeded : Sp := fun vs H Q _ => ∃ (d : Addr) (n : Nat) (L : Led) (m : Nat), vs = [.int (m : Int)] ∧ m < 2 ^ 62 ∧ Kn d n L H ∧ ∀ H', Kn d n L H' → Q (.int (((halv m).length - 1 : Nat) : Int)) H'
theorem ok_needed_steps {P : Program} {w : World} {K : PySem.W.Frag} {mg : Str → Option Value} {base : Heap} {k : Nat} {f a_halvings : Addr} {fd fd_halvings : FuncData} (D : Df K mg "needed_steps" s_needed_steps ["m"] f fd) (D_halvings : Df K mg "halvings" s_halvings ["m"] a_halvings fd_halvings) (C1 : ∃ t, mg "SHORT" = some (.int 6 t)) (M : Bl mg) : FnOk P w K mg base CX0 (k + 1 + 1) f fd ["m"] spNeeded := by
  have G_halvings := ok_halvings (P := P) (w := w) (base := base) (k := 0) D_halvings C1 M
  refine D.F.ok sc_needed_steps (fun vs H Q E h => ?_) (fun cdv A outer s H vs Q E hr h => ?_)
  · obtain ⟨d, n, L, m, rfl, _⟩ := h
    rfl
  obtain ⟨d, n, L, m, rfl, hm, kn, g⟩ := h
  refine ⟨_, (pss_one (ps_ret (pe_op op_sub (pe_callB c_len (by rfl) M.len PySem.boot_len (pa_cons (pe_call G_halvings (hr.mono (by omega)) (by rfl) D_halvings.g D_halvings.F.kp D_halvings.b .nil pass0 (pa_cons (pv 0) pa_nil)) pa_nil)) pe_int))), ?_⟩
  have h1 := halv_pos m
  walk_at "go"
  refine ⟨d, n, L, m, rfl, hm, kn, fun l H1 kn1 => ?_⟩
  walk_at "go"
  have e : ((List.map vN (halv m)).length : Int) - 1 = (((halv m).length - 1 : Nat) : Int) := by
    rw [List.length_map]
    omega
  rw [e]
  exact g _ kn1.tail

/-! ### for i in range(..) whose number is drawn on the way -/
theorem kRngD {σ : L2.St} {H : Hp} {tr : TA} {tb : TS} {j : Nat} {nx bk ct : L2.St → Hp → Prop} {rt : VK} (G : Int → Hp → Prop) (src : ∀ R : List V → Hp → Prop, (∀ n H1, G n H1 → R [.int n] H1) → tr σ H R)
    (body : ∀ n H1, G n H1 → (0 ≤ n ∧ n ≤ 100000) ∧ ∃ Pv : Nat → L2.St → Hp → Prop, Pv 0 σ H1 ∧ (∀ (i : Nat) σ' H', (i : Int) < n → Pv i σ' H' → tb (Ends.mk (Pv (i + 1)) rt nx (Pv (i + 1))) (σ'.set j (some (.int (i : Int)))) H') ∧ ∀ σ' H', Pv n.toNat σ' H' → nx σ' H') :
    tFor (iRng1 tr) (gName j) tb (Ends.mk nx rt bk ct) σ H := by
  refine src _ fun n H1 hG => ?_
  obtain ⟨hn, Pv, h0, hs, hd⟩ := body n H1 hG
  refine ⟨n, rfl, by omega, by omega, for_range (lo := 0) (n := n.toNat) Pv h0 (fun i σ' H' hi p => ?_) hd⟩
  have e0 : (0 : Int) + (i : Int) = (i : Int) := Int.zero_add _
  show tb (Ends.mk (Pv (i + 1)) rt nx (Pv (i + 1))) (σ'.set j (some (.int ((0 : Int) + (i : Int))))) H'
  rw [e0]
  exact hs i σ' H' (by omega) p

/-! ### step by step -/
def itL (xs : List Int) : Nat → List Int → List Int
  | 0, ls => ls
  | k + 1, ls => roundL xs (itL xs k ls) 0
def shortL (xs ls : List Int) (m : Nat) : List Int := itL xs ((halv m).length - 1) ls
/-- names of a pointing for m -/
structure NmOk (xs ls : List Int) (m : Nat) : Prop where
  len : ls.length = xs.length
  nd : ls.Nodup
  low : ∀ x ∈ ls, 0 ≤ x ∧ x < (m : Int)
theorem itL_ok {xs ls : List Int} {m : Int} (hp : PtOk m xs) (hl : ls.length = xs.length) (hin : LbIn ls) (hpr : properB xs ls = true) : ∀ k, (itL xs k ls).length = xs.length ∧ LbIn (itL xs k ls) ∧ properB xs (itL xs k ls) = true
  | 0 => ⟨hl, hin, hpr⟩
  | k + 1 => by
    obtain ⟨h1, h2, h3⟩ := itL_ok hp hl hin hpr k
    exact ⟨roundL_len _ _ _, roundL_in hp h1 h2, round_proper hp h1 h2 h3⟩
theorem NmOk.proper {xs ls : List Int} {m : Nat} {t : Int} (hp : PtOk t xs) (h : NmOk xs ls m) : properB xs ls = true := by
  refine proper_of fun i x hx => ?_
  have hg := hp.goal i x hx
  have hi := (List.getElem?_eq_some_iff.mp hx).1
  have hl := h.len
  have ha : ls[i]? = some ls[i] := List.getElem?_eq_getElem (by omega)
  have hb : ls[x.toNat]? = some ls[x.toNat] := List.getElem?_eq_getElem (by omega)
  rw [getD_of ha, getD_of hb]
  intro e
  have key := (List.getElem_inj h.nd).mp e
  omega
theorem NmOk.into {xs ls : List Int} {m : Nat} (h : NmOk xs ls m) (hm : m < 2 ^ 62) : LbIn ls := fun x hx => by
  have := h.low x hx
  omega
def spShort : Sp := fun vs H Q _ => ∃ (d : Addr) (n : Nat) (L : Led) (p q : Addr) (xs ls : List Int) (m : Nat), vs = [.ref p, .ref q, .int (m : Int)] ∧ PtOk 60 xs ∧ NmOk xs ls m ∧ m < 2 ^ 62 ∧ (p, .tup (xs.map V.int)) ∈ L ∧ (q, .tup (ls.map V.int)) ∈ L ∧ Kn d n L H ∧
  ∀ r L2 H', (r, .tup ((shortL xs ls m).map V.int)) ∈ L2 → L.Sublist L2 → Kn d n L2 H' → Q (.ref r) H'

/-! ### a hue eased away -/
/-- the least of 0, 1, 2 that is neither x nor y -/
def freeOf (x y : Int) : Int := if 0 ≠ x ∧ 0 ≠ y then 0 else if 1 ≠ x ∧ 1 ≠ y then 1 else 2
def easedAt (xs be ls : List Int) (hue : Int) (i : Nat) : Int := if ls.getD i 0 = hue then freeOf (ls.getD (xs.getD i 0).toNat 0) (be.getD i 0) else ls.getD i 0
def easedL (xs be ls : List Int) (hue : Int) : List Int := (List.range xs.length).map (easedAt xs be ls hue)

theorem freeOf_ne1 (x y : Int) : freeOf x y ≠ x := by
  unfold freeOf
  split
  · omega
  · split
    · omega
    · omega
theorem freeOf_ne2 (x y : Int) : freeOf x y ≠ y := by
  unfold freeOf
  split
  · omega
  · split
    · omega
    · omega
theorem freeOf_in (x y : Int) : 0 ≤ freeOf x y ∧ freeOf x y ≤ 2 := by
  unfold freeOf
  split
  · omega
  · split <;> omega
theorem easedL_len (xs be ls : List Int) (hue : Int) : (easedL xs be ls hue).length = xs.length := by
  unfold easedL
  rw [List.length_map, List.length_range]
theorem easedL_get {xs be ls : List Int} {hue : Int} {i : Nat} (hi : i < xs.length) : (easedL xs be ls hue)[i]? = some (easedAt xs be ls hue i) := by
  unfold easedL
  rw [List.getElem?_map, List.getElem?_range hi]
  rfl
theorem over_at {xs ls : List Int} {i : Nat} (hi : i < xs.length) : (roundL xs ls 1).getD i 0 = ls.getD (xs.getD i 0).toNat 0 := by
  rw [roundL_at hi, if_neg (by omega)]
  rfl
theorem over_len (xs ls : List Int) : (roundL xs ls 1).length = xs.length := roundL_len xs ls 1
theorem over_mem {xs ls : List Int} {m : Int} (hp : PtOk m xs) (hl : ls.length = xs.length) {P : Int → Prop} (h : ∀ y ∈ ls, P y) : ∀ y ∈ roundL xs ls 1, P y := by
  intro y hy
  unfold roundL at hy
  obtain ⟨i, hi, rfl⟩ := List.mem_map.mp hy
  have hi' := List.mem_range.mp hi
  rw [if_neg (by omega)]
  have hx : xs[i]? = some xs[i] := List.getElem?_eq_getElem hi'
  have hg := hp.goal i _ hx
  unfold overAt
  rw [getD_of hx, getD_of (List.getElem?_eq_getElem (show (xs[i]).toNat < ls.length by omega))]
  exact h _ (List.getElem_mem _)
/-- two rounds: what is there behind them -/
def twoL (xs ls : List Int) (hue : Int) : List Int := easedL xs ls (roundL xs ls 1) hue
theorem twoL_len (xs ls : List Int) (hue : Int) : (twoL xs ls hue).length = xs.length := easedL_len _ _ _ _
theorem twoL_proper {xs ls : List Int} {m hue : Int} (hp : PtOk m xs) (hl : ls.length = xs.length) (hpr : properB xs ls = true) : properB xs (twoL xs ls hue) = true := by
  refine proper_of fun i x hx => ?_
  have hi := (List.getElem?_eq_some_iff.mp hx).1
  have hg := hp.goal i x hx
  have hxn : x.toNat < xs.length := by omega
  have hy : xs[x.toNat]? = some xs[x.toNat] := List.getElem?_eq_getElem hxn
  have hzn := hp.goal x.toNat _ hy
  have h2 := proper_at hp hpr hy
  unfold twoL
  rw [getD_of (easedL_get hi), getD_of (easedL_get hxn)]
  unfold easedAt
  rw [over_at hi, over_at hxn, getD_of hx, getD_of hy, over_at hxn, over_at (by omega), getD_of hy]
  by_cases c1 : ls.getD x.toNat 0 = hue
  · have c2 : ¬ ls.getD (xs[x.toNat]).toNat 0 = hue := fun e => h2 (c1.trans e.symm)
    rw [if_pos c1, if_neg c2]
    exact freeOf_ne1 _ _
  · rw [if_neg c1]
    by_cases c2 : ls.getD (xs[x.toNat]).toNat 0 = hue
    · rw [if_pos c2]
      exact fun e => freeOf_ne2 _ _ e.symm
    · rw [if_neg c2]
      exact h2
theorem twoL_mem {xs ls : List Int} {m hue : Int} (hp : PtOk m xs) (hl : ls.length = xs.length) {P : Int → Prop} (h : ∀ y ∈ ls, y ≠ hue → P y) (hf : ∀ y, 0 ≤ y → y ≤ 2 → P y) : ∀ y ∈ twoL xs ls hue, P y := by
  intro y hy
  unfold twoL easedL at hy
  obtain ⟨i, hi, rfl⟩ := List.mem_map.mp hy
  have hi' := List.mem_range.mp hi
  have hx : xs[i]? = some xs[i] := List.getElem?_eq_getElem hi'
  have hg := hp.goal i _ hx
  unfold easedAt
  rw [over_at hi', getD_of hx]
  by_cases c1 : ls.getD (xs[i]).toNat 0 = hue
  · rw [if_pos c1]
    have := freeOf_in ((roundL xs ls 1).getD (xs[i]).toNat 0) (ls.getD i 0)
    exact hf _ this.1 this.2
  · rw [if_neg c1]
    refine h _ ?_ c1
    rw [getD_of (List.getElem?_eq_getElem (show (xs[i]).toNat < ls.length by omega))]
    exact List.getElem_mem _
theorem twoL_in {xs ls : List Int} {m hue : Int} (hp : PtOk m xs) (hl : ls.length = xs.length) (hin : LbIn ls) : LbIn (twoL xs ls hue) :=
  twoL_mem hp hl (fun y hy _ => hin y hy) fun y h0 h1 => ⟨h0, by omega⟩

/-! ### the second round of one house -/
abbrev s_given_up : Stmt := topS 22
theorem sc_given_up : FnScope ["ahead", "label", "goal_label", "hue", "left"] ["ahead", "label", "goal_label", "hue"] (defScope s_given_up) := ⟨rfl, rfl, rfl, by decide +kernel, rfl, by decide +kernel, by decide +kernel⟩
theorem kLcK {d : Addr} {n : Nat} {L : Led} {H : Hp} {K : PySem.W.Frag} {σ : L2.St} {Q : VK} {p : Addr} {xs : List V} {te0 te : TE} {tt : TT} {j : Nat} {vs : List Nat} (k : Kn d n L H) (hq : ∀ H, SqT K H p xs) (src : ∀ R : VK, R (.ref p) H → te0 σ H R)
    (hz : xs.length ≤ 100000) (acc : Nat → List V) (a0 : acc 0 = []) (al : ∀ i, (acc i).length ≤ i) (hw : ∀ x, wipe ((wipe σ vs).set j (some x)) vs = wipe σ vs)
    (turn : ∀ i x H' D, xs[i]? = some x → Kn d n ((D, .lst (acc i)) :: L) H' → ∀ (N1 : VK) (N2 : Hp → Prop), (∀ y H4, Kn d n ((D, .lst (acc i)) :: L) H4 → acc (i + 1) = acc i ++ [y] → N1 y H4) → (∀ H3, Kn d n ((D, .lst (acc i)) :: L) H3 → acc (i + 1) = acc i → N2 H3) →
      tt ((wipe σ vs).set j (some x)) H' fun b H3 => if b = true then te ((wipe σ vs).set j (some x)) H3 N1 else N2 H3)
    (q : ∀ D H', Kn d n ((D, .lst (acc xs.length)) :: L) H' → Q (.ref D) H') : tLc (iTup K te0) (gName j) tt te vs σ H Q := by
  refine src _ ⟨p, rfl, ⟨xs, hq H⟩, fun D hD => lc_tup (xs := xs) (fun i H' => Kn d n ((D, .lst (acc i)) :: L) H') ?_ (fun i H' _ kn => hq H') (fun i x H' hx kn => ⟨hw x, ?_⟩) (fun H' kn => q D H' kn)⟩
  · rw [a0]
    exact k.new hD
  · have hi : i < xs.length := (List.getElem?_eq_some_iff.mp hx).1
    refine turn i x H' D hx kn _ _ (fun y H4 kn4 e => ⟨acc i, kn4.at 0 rfl, szL' (by have := al i; omega), ?_⟩) (fun H3 kn3 e => ?_)
    · rw [e]
      exact kn4.put 0 rfl
    · rw [e]
      exact kn3
theorem kListT3 {d : Addr} {n : Nat} {L : Led} {H : Hp} {Q : VK} {K : PySem.W.Frag} {p : Addr} {xs : List V} (h : SqT K H p xs) (k : Kn d n L H) (q : ∀ l H', Kn d n ((l, .lst xs) :: L) H' → Q (.ref l) H') : rList2 K [.ref p] H Q := ⟨p, xs, rfl, .inr h, fun l hl => q l _ (k.new hl)⟩
theorem kNiT2 {H : Hp} {Q : VK} {K : PySem.W.Frag} {p : Addr} {x : Int} {ns : List Int} (h : SqT K H p (ns.map V.int)) (g : Q (.bl (!decide (x ∈ ns))) H) : rIn K true (.int x) (.ref p) H Q := by
  refine ⟨p, _, rfl, .inr h, rfl, flatInts ns, ?_⟩
  rw [if_pos rfl, inInts]
  exact g
def spGiven : Sp := fun vs H Q _ => ∃ (d : Addr) (n : Nat) (L : Led) (x a y hue : Int), vs = [.int x, .int a, .int y, .int hue] ∧ Kn d n L H ∧ ∀ H', Kn d n L H' → Q (.int (if a = hue then freeOf y x else a)) H'
theorem ok_given_up {P : Program} {w : World} {K : PySem.W.Frag} {mg : Str → Option Value} {base : Heap} {k : Nat} {f : Addr} {fd : FuncData} (D : Df K mg "given_up" s_given_up ["ahead", "label", "goal_label", "hue"] f fd)  (C2 : ∃ a, mg "LEFT_HUES" = some (.ref a) ∧ ∀ H, SqT K H a (([0, 1, 2] : List Int).map V.int)) (M : Bl mg) : FnOk P w K mg base CX0 (k + 1) f fd ["ahead", "label", "goal_label", "hue"] spGiven := by
  obtain ⟨A_LEFT_HUES, g_LEFT_HUES, hQ⟩ := C2
  refine D.F.ok sc_given_up (fun vs H Q E h => ?_) (fun cdv A outer s H vs Q E hr h => ?_)
  · obtain ⟨d, n, L, x, a, y, hue, rfl, _⟩ := h
    rfl
  obtain ⟨d, n, L, x, a, y, hue, rfl, kn, g⟩ := h
  refine ⟨_, (pss_cons (ps_if (pt_cmpR op_ne (pv 1) (pv 3) (nomark _)) (pss_one (ps_ret (pv 1))) pss_nil)
   (pss_one (ps_ret (pe_callB (cr_min rfl) (by rfl) M.min (by decide +kernel) (pa_cons (pe_lc (own := [("left", 4)]) (g := gName 4) (by rfl) sc_given_up.nd (pi_tup (pe_glob (v := .ref A_LEFT_HUES) (by rfl) g_LEFT_HUES rfl)) (blkOk_by (own := [("left", 4)]) (N := ["ahead", "label", "goal_label", "hue", "left"]) (sc := defScope s_given_up) (by decide +kernel)) (fun _ _ _ _ _ => (pg_name (i := 4) sc_given_up.nd rfl (Or.inl rfl))) (fun _ _ _ _ _ => (pts_one (pt_cmpR (niQ (K := K) rfl) (pv 4) (pe_tup (pa_cons (pv 0) (pa_cons (pv 2) pa_nil))) (by rfl)))) (fun _ _ _ _ _ => (pv 4))) pa_nil))))), ?_⟩
  refine kSeq (kIfS ?_)
  walk_at "go"
  refine iteIN (fun he => ?_) (fun he => ?_)
  · rw [if_neg he] at g
    walk_at "go"
    exact g _ kn
  rw [if_pos he] at g
  walk_at "go"
  refine kLcK kn hQ (fun R hR => by walk_at "go"; exact hR) (by decide) (fun i => ((([0, 1, 2] : List Int).take i).filter (fun h => !decide (h ∈ [x, y]))).map V.int) rfl (fun i => ?_) (fun _ => rfl) (fun i v H' D hx kn2 N1 N2 h1 h2 => ?_) (fun D H' kn2 => ?_)
  · rw [List.length_map]
    refine Nat.le_trans (List.length_filter_le _ _) ?_
    rw [List.length_take]
    exact Nat.min_le_left _ _
  · obtain ⟨z, hz, rfl⟩ : ∃ z, ([0, 1, 2] : List Int)[i]? = some z ∧ v = V.int z := by
      rw [List.getElem?_map] at hx
      cases e : ([0, 1, 2] : List Int)[i]? with
      | none => rw [e] at hx; cases hx
      | some z => rw [e] at hx; exact ⟨z, rfl, (Option.some.inj hx).symm⟩
    have nxt : (([0, 1, 2] : List Int).take (i + 1)).filter (fun h => !decide (h ∈ [x, y])) = (([0, 1, 2] : List Int).take i).filter (fun h => !decide (h ∈ [x, y])) ++ (if (!decide (z ∈ [x, y])) = true then [z] else []) := by
      rw [List.take_add_one, hz, List.filter_append]
      congr 1
      show List.filter _ [z] = _
      rw [List.filter_cons, List.filter_nil]
    refine kTest ?_
    walk_at "go"
    rename_i T H3 kn3
    refine kNiT2 (ns := [x, y]) (kn3.seqT List.mem_cons_self) ?_
    refine kBl ?_
    refine iteB (fun hb => ?_) (fun hb => ?_)
    · rw [hb, if_pos rfl] at nxt
      walk_at "go"
      refine h1 _ _ kn3.tail ?_
      rw [nxt, List.map_append]
      rfl
    · rw [hb, if_neg Bool.false_ne_true, List.append_nil] at nxt
      exact h2 _ kn3.tail (by rw [nxt])
  · have e3 : ([0, 1, 2] : List Int).take (([0, 1, 2] : List Int).map V.int).length = [0, 1, 2] := rfl
    rw [e3] at kn2
    have hm : freeOf y x ∈ ([0, 1, 2] : List Int).filter (fun h => !decide (h ∈ [x, y])) := by
      have h1 := freeOf_in y x
      have h2 := freeOf_ne1 y x
      have h3 := freeOf_ne2 y x
      rw [List.mem_filter]
      refine ⟨?_, by simp [h2, h3]⟩
      have : freeOf y x = 0 ∨ freeOf y x = 1 ∨ freeOf y x = 2 := by omega
      simp [this]
    have hleast : ∀ z ∈ ([0, 1, 2] : List Int).filter (fun h => !decide (h ∈ [x, y])), freeOf y x ≤ z := by
      intro z hz
      rw [List.mem_filter] at hz
      have h1 : z = 0 ∨ z = 1 ∨ z = 2 := by simpa using hz.1
      have h2 : ¬ z = x ∧ ¬ z = y := by simpa using hz.2
      unfold freeOf
      split
      · omega
      · split <;> omega
    walk_at "go"
    refine kMinL (ns := ([0, 1, 2] : List Int).filter (fun h => !decide (h ∈ [x, y]))) (kn2.seqL List.mem_cons_self) (List.length_pos_of_mem hm) fun m hm1 hm2 => ?_
    have e : m = freeOf y x := Int.le_antisymm (hm2 _ hm) (hleast _ hm1)
    rw [e]
    exact g _ kn2.tail

abbrev s_rounds : Stmt := topS 23
theorem sc_rounds : FnScope ["m"] ["m"] (defScope s_rounds) := ⟨rfl, rfl, rfl, by decide +kernel, rfl, by decide +kernel, by decide +kernel⟩
def spRounds : Sp := fun vs H Q _ => ∃ (d : Addr) (n : Nat) (L : Led) (m : Nat), vs = [.int (m : Int)] ∧ m < 2 ^ 62 ∧ Kn d n L H ∧ ∀ H', Kn d n L H' → Q (.int (((halv m).length : Int) + 5)) H'
theorem ok_rounds {P : Program} {w : World} {K : PySem.W.Frag} {mg : Str → Option Value} {base : Heap} {k : Nat} {f a_halvings a_needed_steps : Addr} {fd fd_halvings fd_needed_steps : FuncData} (D : Df K mg "rounds" s_rounds ["m"] f fd) (D_halvings : Df K mg "halvings" s_halvings ["m"] a_halvings fd_halvings) (D_needed_steps : Df K mg "needed_steps" s_needed_steps ["m"] a_needed_steps fd_needed_steps) (C1 : ∃ t, mg "SHORT" = some (.int 6 t)) (C3 : ∃ a, mg "GONE_HUES" = some (.ref a) ∧ ∀ H, SqT K H a (([5, 4, 3] : List Int).map V.int)) (C4 : ∃ t, mg "ROUNDS_EACH" = some (.int 2 t)) (M : Bl mg) :
    FnOk P w K mg base CX0 (k + 1 + 1 + 1) f fd ["m"] spRounds := by
  have G_needed_steps := ok_needed_steps (P := P) (w := w) (base := base) (k := 0) D_needed_steps D_halvings C1 M
  obtain ⟨A_GONE_HUES, g_GONE_HUES, hQ⟩ := C3
  obtain ⟨t4, g_ROUNDS_EACH⟩ := C4
  refine D.F.ok sc_rounds (fun vs H Q E h => ?_) (fun cdv A outer s H vs Q E hr h => ?_)
  · obtain ⟨d, n, L, m, rfl, _⟩ := h
    rfl
  obtain ⟨d, n, L, m, rfl, hm, kn, g⟩ := h
  refine ⟨_, (pss_one (ps_ret (pe_op op_add (pe_call G_needed_steps (hr.mono (by omega)) (by rfl) D_needed_steps.g D_needed_steps.F.kp D_needed_steps.b .nil pass0 (pa_cons (pv 0) pa_nil)) (pe_op op_mul (pe_glob (v := .int 2) (by rfl) g_ROUNDS_EACH ⟨_, rfl⟩) (pe_callB c_len (by rfl) M.len PySem.boot_len (pa_cons (pe_glob (v := .ref A_GONE_HUES) (by rfl) g_GONE_HUES rfl) pa_nil)))))), ?_⟩
  walk_at "go"
  refine ⟨d, n, L, m, rfl, hm, kn, fun H1 kn1 => ?_⟩
  walk_at "go"
  refine kLenT (hQ _) ?_
  walk_at "go"
  have h1 := halv_pos m
  have e : (((halv m).length - 1 : Nat) : Int) + 2 * ((List.map V.int ([5, 4, 3] : List Int)).length : Int) = ((halv m).length : Int) + 5 := by
    show (((halv m).length - 1 : Nat) : Int) + 2 * ((3 : Nat) : Int) = _
    omega
  rw [e]
  exact g _ kn1

/-! ### the label of one house behind one round more -/
abbrev s_next_label : Stmt := topS 24
theorem sc_next_label : FnScope ["m", "own", "goal_label", "done", "turn", "second"] ["m", "own", "goal_label"] (defScope s_next_label) := ⟨rfl, rfl, rfl, by decide +kernel, rfl, by decide +kernel, by decide +kernel⟩
def goneH (t : Nat) : Int := ([5, 4, 3] : List Int).getD t 0
def nextL (m : Nat) (os : List Int) (y : Int) : Int :=
  if os.length - 1 < (halv m).length - 1 then ((shortN (os.getD (os.length - 1) 0).toNat y.toNat : Nat) : Int)
  else if (os.length - 1 - ((halv m).length - 1)) % 2 = 0 then y
  else if os.getD (os.length - 1) 0 = goneH ((os.length - 1 - ((halv m).length - 1)) / 2) then freeOf y (os.getD (os.length - 2) 0) else os.getD (os.length - 1) 0
def spNext : Sp := fun vs H Q _ => ∃ (d : Addr) (n : Nat) (L : Led) (m : Nat) (p : Addr) (os : List Int) (y : Int), vs = [.int (m : Int), .ref p, .int y] ∧ m < 2 ^ 62 ∧ 1 ≤ os.length ∧ os.length ≤ (halv m).length + 5 ∧
  (os.length - 1 < (halv m).length - 1 → (0 ≤ os.getD (os.length - 1) 0 ∧ os.getD (os.length - 1) 0 < 2 ^ 62) ∧ (0 ≤ y ∧ y < 2 ^ 62) ∧ os.getD (os.length - 1) 0 ≠ y) ∧ (p, .lst (os.map V.int)) ∈ L ∧ Kn d n L H ∧ ∀ H', Kn d n L H' → Q (.int (nextL m os y)) H'
theorem lastInt {os : List Int} (h : 1 ≤ os.length) : atI (os.map V.int) (-1) = some (.int (os.getD (os.length - 1) 0)) := by
  refine atBack (k := 1) (by omega) (by rw [List.length_map]; exact h) ?_
  rw [List.length_map, List.getElem?_map, List.getElem?_eq_getElem (show os.length - 1 < os.length by omega), getD_of (List.getElem?_eq_getElem (show os.length - 1 < os.length by omega))]
  rfl
theorem lastInt2 {os : List Int} (h : 2 ≤ os.length) : atI (os.map V.int) (-2) = some (.int (os.getD (os.length - 2) 0)) := by
  refine atBack (k := 2) (by omega) (by rw [List.length_map]; exact h) ?_
  rw [List.length_map, List.getElem?_map, List.getElem?_eq_getElem (show os.length - 2 < os.length by omega), getD_of (List.getElem?_eq_getElem (show os.length - 2 < os.length by omega))]
  rfl
theorem ok_next_label {P : Program} {w : World} {K : PySem.W.Frag} {mg : Str → Option Value} {base : Heap} {k : Nat} {f a_unlike_place a_stepped a_halvings a_needed_steps a_given_up : Addr} {fd fd_unlike_place fd_stepped fd_halvings fd_needed_steps fd_given_up : FuncData} (D : Df K mg "next_label" s_next_label ["m", "own", "goal_label"] f fd) (D_unlike_place : Df K mg "unlike_place" s_unlike_place ["one", "other"] a_unlike_place fd_unlike_place) (D_stepped : Df K mg "stepped" s_stepped ["label", "goal_label"] a_stepped fd_stepped) (D_halvings : Df K mg "halvings" s_halvings ["m"] a_halvings fd_halvings) (D_needed_steps : Df K mg "needed_steps" s_needed_steps ["m"] a_needed_steps fd_needed_steps) (D_given_up : Df K mg "given_up" s_given_up ["ahead", "label", "goal_label", "hue"] a_given_up fd_given_up) (C1 : ∃ t, mg "SHORT" = some (.int 6 t)) (C2 : ∃ a, mg "LEFT_HUES" = some (.ref a) ∧ ∀ H, SqT K H a (([0, 1, 2] : List Int).map V.int)) (C3 : ∃ a, mg "GONE_HUES" = some (.ref a) ∧ ∀ H, SqT K H a (([5, 4, 3] : List Int).map V.int)) (C4 : ∃ t, mg "ROUNDS_EACH" = some (.int 2 t)) (M : Bl mg) :
    FnOk P w K mg base CX0 (k + 1 + 1 + 1) f fd ["m", "own", "goal_label"] spNext := by
  have G_needed_steps := ok_needed_steps (P := P) (w := w) (base := base) (k := 0) D_needed_steps D_halvings C1 M
  have G_stepped := ok_stepped (P := P) (w := w) (base := base) (k := 0) D_stepped D_unlike_place M
  have G_given_up := ok_given_up (P := P) (w := w) (base := base) (k := 0) D_given_up C2 M
  obtain ⟨A_GONE_HUES, g_GONE_HUES, hQ⟩ := C3
  obtain ⟨t4, g_ROUNDS_EACH⟩ := C4
  refine D.F.ok sc_next_label (fun vs H Q E h => ?_) (fun cdv A outer s H vs Q E hr h => ?_)
  · obtain ⟨d, n, L, m, p, os, y, rfl, _⟩ := h
    rfl
  obtain ⟨d, n, L, m, p, os, y, rfl, hm, h1, h2, hb, hp, kn, g⟩ := h
  refine ⟨_, (pss_cons (ps_set (i := 3) sc_next_label.nd rfl (Or.inl rfl) (pe_op op_sub (pe_callB c_len (by rfl) M.len PySem.boot_len (pa_cons (pv 1) pa_nil)) pe_int))
   (pss_cons (ps_if (pt_cmpR op_lt (pv 3) (pe_call G_needed_steps (hr.mono (by omega)) (by rfl) D_needed_steps.g D_needed_steps.F.kp D_needed_steps.b .nil pass0 (pa_cons (pv 0) pa_nil)) (nomark _)) (pss_one (ps_ret (pe_call G_stepped (hr.mono (by omega)) (by rfl) D_stepped.g D_stepped.F.kp D_stepped.b .nil pass0 (pa_cons (pe_ix ix_list (pv 1) (pe_un un_neg pe_int) (fun _ _ => rfl)) (pa_cons (pv 2) pa_nil))))) pss_nil)
   (pss_cons (ps_asg (pe_callB c_divmod (by rfl) M.divmod (by decide +kernel) (pa_cons (pe_op op_sub (pv 3) (pe_call G_needed_steps (hr.mono (by omega)) (by rfl) D_needed_steps.g D_needed_steps.F.kp D_needed_steps.b .nil pass0 (pa_cons (pv 0) pa_nil))) (pa_cons (pe_glob (v := .int 2) (by rfl) g_ROUNDS_EACH ⟨_, rfl⟩) pa_nil))) (pg_tup rfl (pgs_cons (pg_name (i := 4) sc_next_label.nd rfl (Or.inl rfl)) (pgs_cons (pg_name (i := 5) sc_next_label.nd rfl (Or.inl rfl)) pgs_nil))))
   (pss_cons (ps_if (pt_cmpR op_eq (pv 5) pe_int (nomark _)) (pss_one (ps_ret (pv 2))) pss_nil)
   (pss_one (ps_ret (pe_call G_given_up (hr.mono (by omega)) (by rfl) D_given_up.g D_given_up.F.kp D_given_up.b .nil pass0 (pa_cons (pe_ix ix_list (pv 1) (pe_un un_neg pe_int) (fun _ _ => rfl)) (pa_cons (pe_ix ix_list (pv 1) (pe_un un_neg pe_int) (fun _ _ => rfl)) (pa_cons (pv 2) (pa_cons (pe_ix ix_tup (pe_glob (v := .ref A_GONE_HUES) (by rfl) g_GONE_HUES rfl) (pv 4) (fun _ _ => rfl)) pa_nil))))))))))), ?_⟩
  have hh := halv_pos m
  walk_at "go"
  rw [List.length_map]
  have ej : (os.length : Int) - 1 = ((os.length - 1 : Nat) : Int) := by omega
  rw [ej]
  refine kSeq (kIfS ?_)
  walk_at "go"
  refine ⟨d, n, L, m, rfl, hm, kn, fun H1 kn1 => ?_⟩
  walk_at "go"
  refine iteD (fun hlt => ?_) (fun hlt => ?_)
  · have hlt' : os.length - 1 < (halv m).length - 1 := by omega
    obtain ⟨⟨b1, b2⟩, ⟨b3, b4⟩, b5⟩ := hb hlt'
    unfold nextL at g
    rw [if_pos hlt'] at g
    walk_at "go"
    refine kIxL (kn1.seqL hp) (lastInt h1) ?_
    walk_at "go"
    refine ⟨(os.getD (os.length - 1) 0).toNat, y.toNat, ?_, by omega, by omega, by omega, ?_⟩
    · have e1 : (((os.getD (os.length - 1) 0).toNat : Nat) : Int) = os.getD (os.length - 1) 0 := by omega
      have e2 : ((y.toNat : Nat) : Int) = y := by omega
      rw [e1, e2]
    exact g _ kn1
  · have hlt' : ¬ os.length - 1 < (halv m).length - 1 := by omega
    obtain ⟨c, hc⟩ : ∃ c : Nat, os.length - 1 - ((halv m).length - 1) = c := ⟨_, rfl⟩
    unfold nextL at g
    rw [if_neg hlt', hc] at g
    have ec : ((os.length - 1 : Nat) : Int) - (((halv m).length - 1 : Nat) : Int) = (c : Int) := by omega
    have hc6 : c < 6 := by omega
    walk_at "go"
    refine ⟨d, n, L, m, rfl, hm, kn1, fun H2 kn2 => ?_⟩
    walk_at "go"
    rw [ec]
    refine kDm kn2 (by omega) (by omega) fun tp H3 kn3 => ?_
    refine kTwo (kn3.seqT List.mem_cons_self) ?_
    refine kSeq (kIfS ?_)
    walk_at "go"
    refine iteI (fun h0 => ?_) (fun h0 => ?_)
    · rw [if_pos (by omega)] at g
      walk_at "go"
      exact g _ kn3.tail
    · rw [if_neg (by omega)] at g
      have ht : (([5, 4, 3] : List Int).map V.int)[c / 2]? = some (.int (goneH (c / 2))) := by
        have : c / 2 = 0 ∨ c / 2 = 1 ∨ c / 2 = 2 := by omega
        rcases this with e | e | e <;> rw [e] <;> rfl
      have hos : 2 ≤ os.length := by omega
      walk_at "go"
      refine kIxL (kn3.seqL (List.mem_cons_of_mem _ hp)) (lastInt2 hos) ?_
      walk_at "go"
      refine kIxL (kn3.seqL (List.mem_cons_of_mem _ hp)) (lastInt h1) ?_
      walk_at "go"
      refine kIxT (hQ _) (atI_at (j := c / 2) (by omega) ht) ?_
      walk_at "go"
      refine ⟨d, n, _, _, _, _, _, rfl, kn3, fun H4 kn4 => ?_⟩
      exact g _ kn4.tail

/-! ### the last of a list -/
def lastOf (os : List Int) : Int := os.getD (os.length - 1) 0
theorem lastOf_app (os : List Int) (x : Int) : lastOf (os ++ [x]) = x := by
  unfold lastOf
  rw [List.length_append, List.length_singleton, Nat.add_sub_cancel, List.getD_eq_getElem?_getD, List.getElem?_append_right (Nat.le_refl _), Nat.sub_self]
  rfl
/-! ### lists in the ledger -/
structure ListsAt (L : Led) (as : List Addr) (rows : List (List Int)) : Prop where
  len : as.length = rows.length
  at_ : ∀ (i : Nat) (a : Addr) (r : List Int), as[i]? = some a → rows[i]? = some r → (a, HO.lst (r.map V.int)) ∈ L
theorem ListsAt.up {L L' : Led} {as : List Addr} {rows : List (List Int)} (h : ListsAt L as rows) (s : ∀ y, y ∈ L → y ∈ L') : ListsAt L' as rows := ⟨h.len, fun i a r h1 h2 => s _ (h.at_ i a r h1 h2)⟩
theorem ListsAt.snoc {L : Led} {as : List Addr} {rows : List (List Int)} {a : Addr} {r : List Int} (h : ListsAt L as rows) (ha : (a, HO.lst (r.map V.int)) ∈ L) : ListsAt L (as ++ [a]) (rows ++ [r]) := by
  have hl := h.len
  refine ⟨by rw [List.length_append, List.length_append, hl]; rfl, fun i x s e1 e2 => ?_⟩
  by_cases hi : i < as.length
  · rw [List.getElem?_append_left hi] at e1
    rw [List.getElem?_append_left (by omega)] at e2
    exact h.at_ i x s e1 e2
  · rw [List.getElem?_append_right (by omega)] at e1
    rw [List.getElem?_append_right (by omega), ← hl] at e2
    cases hz : i - as.length with
    | zero =>
      rw [hz] at e1 e2
      have e1' : a = x := by simpa using e1
      have e2' : r = s := by simpa using e2
      rw [← e1', ← e2']
      exact ha
    | succ z =>
      rw [hz] at e1
      simp at e1

/-! ### the labels that each house has had, by even rounds -/
def histH (m : Nat) (xs ls : List Int) : Nat → Nat → List Int
  | 0, i => [ls.getD i 0]
  | r + 1, i => histH m xs ls r i ++ [nextL m (histH m xs ls r i) (lastOf (histH m xs ls r (xs.getD i 0).toNat))]
def labH (m : Nat) (xs ls : List Int) (r i : Nat) : Int := lastOf (histH m xs ls r i)
theorem histH_len (m : Nat) (xs ls : List Int) : ∀ r i, (histH m xs ls r i).length = r + 1
  | 0, i => rfl
  | r + 1, i => by
    show (histH m xs ls r i ++ [_]).length = _
    rw [List.length_append, histH_len m xs ls r i]
    rfl
theorem labH_next (m : Nat) (xs ls : List Int) (r i : Nat) : labH m xs ls (r + 1) i = nextL m (histH m xs ls r i) (labH m xs ls r (xs.getD i 0).toNat) := lastOf_app _ _
theorem histH_step (m : Nat) (xs ls : List Int) (r i : Nat) : histH m xs ls (r + 1) i = histH m xs ls r i ++ [labH m xs ls (r + 1) i] := by
  rw [labH_next]
  rfl
theorem histH_get (m : Nat) (xs ls : List Int) (i : Nat) : ∀ (r k : Nat), k ≤ r → (histH m xs ls r i)[k]? = some (labH m xs ls k i)
  | 0, k, h => by
    have : k = 0 := by omega
    subst this
    rfl
  | r + 1, k, h => by
    rw [histH_step]
    by_cases hk : k ≤ r
    · rw [List.getElem?_append_left (by rw [histH_len]; omega)]
      exact histH_get m xs ls i r k hk
    · have e : k = r + 1 := by omega
      rw [List.getElem?_append_right (by rw [histH_len]; omega), histH_len, e, Nat.sub_self]
      rfl
theorem histH_last (m : Nat) (xs ls : List Int) (r i : Nat) : (histH m xs ls r i).getD r 0 = labH m xs ls r i := getD_of (histH_get m xs ls i r r (Nat.le_refl _))
theorem labH_step {m : Nat} {xs ls : List Int} {r : Nat} (h : r < (halv m).length - 1) (i : Nat) : labH m xs ls (r + 1) i = ((shortN (labH m xs ls r i).toNat (labH m xs ls r (xs.getD i 0).toNat).toNat : Nat) : Int) := by
  rw [labH_next]
  unfold nextL
  rw [histH_len, Nat.add_sub_cancel, if_pos h, histH_last]
theorem labH_over {m : Nat} {xs ls : List Int} {r c : Nat} (h : r = (halv m).length - 1 + 2 * c) (i : Nat) : labH m xs ls (r + 1) i = labH m xs ls r (xs.getD i 0).toNat := by
  rw [labH_next]
  unfold nextL
  rw [histH_len, Nat.add_sub_cancel, if_neg (by omega), if_pos (by omega)]
theorem labH_ease {m : Nat} {xs ls : List Int} {r c : Nat} (h : r = (halv m).length - 1 + 2 * c) (i : Nat) : labH m xs ls (r + 2) i = if labH m xs ls (r + 1) i = goneH c then freeOf (labH m xs ls (r + 1) (xs.getD i 0).toNat) (labH m xs ls r i) else labH m xs ls (r + 1) i := by
  rw [show r + 2 = (r + 1) + 1 from rfl, labH_next]
  unfold nextL
  rw [histH_len, Nat.add_sub_cancel, if_neg (by omega), if_neg (by omega), show (r + 1 - ((halv m).length - 1)) / 2 = c by omega, histH_last, show r + 1 + 1 - 2 = r by omega, getD_of (histH_get m xs ls i (r + 1) r (by omega))]
theorem goalLt {xs : List Int} {t : Int} (hp : PtOk t xs) {i : Nat} (hi : i < xs.length) : (xs.getD i 0).toNat < xs.length := by
  have hz : xs[i]? = some xs[i] := List.getElem?_eq_getElem hi
  have hg := hp.goal i _ hz
  rw [getD_of hz]
  omega
theorem labH_its {m : Nat} {xs ls : List Int} {t : Int} (hp : PtOk t xs) : ∀ r i, r ≤ (halv m).length - 1 → i < xs.length → labH m xs ls r i = (itL xs r ls).getD i 0
  | 0, i, _, _ => rfl
  | r + 1, i, h, hi => by
    rw [labH_step (by omega), labH_its hp r i (by omega) hi, labH_its hp r _ (by omega) (goalLt hp hi)]
    show _ = (roundL xs (itL xs r ls) 0).getD i 0
    rw [roundL_at hi, if_pos rfl]
    rfl
/-- labels ahead of a step: small ones, unlike the next one's -/
theorem labH_ready {m : Nat} {xs ls : List Int} {t : Int} (hp : PtOk t xs) (hl : ls.length = xs.length) (hin : LbIn ls) (hpr : properB xs ls = true) {r i : Nat} (hr : r < (halv m).length - 1) (hi : i < xs.length) :
    (0 ≤ labH m xs ls r i ∧ labH m xs ls r i < 2 ^ 62) ∧ (0 ≤ labH m xs ls r (xs.getD i 0).toNat ∧ labH m xs ls r (xs.getD i 0).toNat < 2 ^ 62) ∧ labH m xs ls r i ≠ labH m xs ls r (xs.getD i 0).toNat := by
  obtain ⟨g1, g2, g3⟩ := itL_ok hp hl hin hpr r
  have hg := goalLt hp hi
  rw [labH_its hp r i (by omega) hi, labH_its hp r _ (by omega) hg]
  have hz : xs[i]? = some xs[i] := List.getElem?_eq_getElem hi
  have h1 := proper_at hp g3 hz
  rw [getD_of hz] at hg ⊢
  exact ⟨getD_in g2 (by omega), getD_in g2 (by omega), h1⟩

/-! ### whole numbers that are houses -/
abbrev s_is_whole : Stmt := topS 8
theorem sc_is_whole : FnScope ["thing"] ["thing"] (defScope s_is_whole) := ⟨rfl, rfl, rfl, by decide +kernel, rfl, by decide +kernel, by decide +kernel⟩
abbrev s_is_house : Stmt := topS 9
theorem sc_is_house : FnScope ["thing", "many"] ["thing", "many"] (defScope s_is_house) := ⟨rfl, rfl, rfl, by decide +kernel, rfl, by decide +kernel, by decide +kernel⟩
abbrev s_check_house : Stmt := topS 10
theorem sc_check_house : FnScope ["pointing", "number"] ["pointing", "number"] (defScope s_check_house) := ⟨rfl, rfl, rfl, by decide +kernel, rfl, by decide +kernel, by decide +kernel⟩
def spIsHouse : Sp := fun vs H Q _ => ∃ z m : Int, vs = [.int z, .int m] ∧ Q (.bl (decide (0 ≤ z ∧ z < m))) H
def spCheckH (C : Addr) : Sp := fun vs H Q E => ∃ (d : Addr) (n : Nat) (L : Led) (p : Addr) (xs : List Int) (z : Int), vs = [.ref p, .int z] ∧ (p, .tup (xs.map V.int)) ∈ L ∧ Kn d n L H ∧ (0 ≤ z ∧ z < xs.length → Q .non H) ∧ (¬ (0 ≤ z ∧ z < xs.length) → ∀ e H', Kn d n ((e, .xd [(("house" : Str), .int z)]) :: L) H' → E (.ref C) (some e) H')
section
variable {P : Program} {w : World} {K : PySem.W.Frag} {mg : Str → Option Value} {base : Heap}
theorem ok_is_wholeI {k : Nat} {f : Addr} {fd : FuncData} (D : Df K mg "is_whole" s_is_whole ["thing"] f fd)  (M : Bl mg) : FnOk P w K mg base CX0 (k + 1) f fd ["thing"] (fun vs H Q _ => ∃ z : Int, vs = [.int z] ∧ Q (.bl true) H) := by
  refine D.F.ok sc_is_whole (fun vs H Q E h => ?_) (fun cdv A outer s H vs Q E hr h => ?_)
  · obtain ⟨z, rfl, _⟩ := h
    rfl
  obtain ⟨z, rfl, q⟩ := h
  refine ⟨_, (pss_one (ps_ret (pe_and (pe_callB call_isi (by rfl) M.isinstance (by decide +kernel) (pa_cons (pv 0) (pa_cons (pe_bltn (v := .ty "int") (u := .type "int") (by rfl) M.int (by decide +kernel) rfl) pa_nil))) (pe_one (pe_not (pe_callB call_isi (by rfl) M.isinstance (by decide +kernel) (pa_cons (pv 0) (pa_cons (pe_bltn (v := .ty "bool") (u := .type "bool") (by rfl) M.bool (by decide +kernel) rfl) pa_nil)))))))), ?_⟩
  walk_at "go"
  refine iteT ?_
  walk_at "go"
  exact q
theorem ok_is_houseI {k : Nat} {f a_is_whole : Addr} {fd fd_is_whole : FuncData} (D : Df K mg "is_house" s_is_house ["thing", "many"] f fd) (D_is_whole : Df K mg "is_whole" s_is_whole ["thing"] a_is_whole fd_is_whole) (M : Bl mg) : FnOk P w K mg base CX0 (k + 1 + 1) f fd ["thing", "many"] spIsHouse := by
  have G_is_whole := ok_is_wholeI (P := P) (w := w) (base := base) (k := 0) D_is_whole M
  refine D.F.ok sc_is_house (fun vs H Q E h => ?_) (fun cdv A outer s H vs Q E hr h => ?_)
  · obtain ⟨z, m, rfl, _⟩ := h
    rfl
  obtain ⟨z, m, rfl, q⟩ := h
  refine ⟨_, (pss_one (ps_ret (pe_and (pe_call G_is_whole (hr.mono (by omega)) (by rfl) D_is_whole.g D_is_whole.F.kp D_is_whole.b .nil pass0 (pa_cons (pv 0) pa_nil)) (pe_one (pe_chain op_le op_lt pe_int (pv 0) (pv 1)))))), ?_⟩
  walk_at "go"
  refine ⟨z, rfl, ?_⟩
  refine kBl (iteT ?_)
  walk_at "go"
  refine iteD (fun h => ?_) (fun h => ?_)
  · walk_at "go"
    have e : decide (z < m) = decide (0 ≤ z ∧ z < m) := by simp [h]
    rw [e]
    exact q
  · have e : decide (0 ≤ z ∧ z < m) = false := decide_eq_false (fun hh => h hh.1)
    rw [e] at q
    exact q
theorem ok_check_house {C_NoHouse fI_NoHouse : Addr} {fd_NoHouse : FuncData} {m_NoHouse : Expr} {bm_NoHouse : List Value} (E_NoHouse : Rf P K mg "NoHouse" "house" C_NoHouse fI_NoHouse fd_NoHouse m_NoHouse bm_NoHouse) {k : Nat} {f a_is_whole a_is_house : Addr} {fd fd_is_whole fd_is_house : FuncData} (D : Df K mg "check_house" s_check_house ["pointing", "number"] f fd) (D_is_whole : Df K mg "is_whole" s_is_whole ["thing"] a_is_whole fd_is_whole) (D_is_house : Df K mg "is_house" s_is_house ["thing", "many"] a_is_house fd_is_house) (M : Bl mg) :
    FnOk P w K mg base (L2.CX P w) (k + 1 + 1 + 1) f fd ["pointing", "number"] (spCheckH C_NoHouse) := by
  have G_is_house := ok_is_houseI (P := P) (w := w) (base := base) (k := 0) D_is_house D_is_whole M
  refine D.F.okX sc_check_house (fun vs H Q E h => ?_) (fun cdv A outer s H vs Q E hr h => ?_)
  · obtain ⟨d, n, L, p, xs, z, rfl, _⟩ := h
    rfl
  obtain ⟨d, n, L, p, xs, z, rfl, hp, kn, gR, gE⟩ := h
  refine ⟨_, (pss_one (ps_if (pt_not (pt_val (pe_call G_is_house (hr.mono (by omega)) (by rfl) D_is_house.g D_is_house.F.kp D_is_house.b .nil pass0 (pa_cons (pv 1) (pa_cons (pe_callB c_len (by rfl) M.len PySem.boot_len (pa_cons (pv 0) pa_nil)) pa_nil))))) (pss_one (ps_raiseR (k := 1) rfl E_NoHouse.T E_NoHouse.J (E_NoHouse.M _) (hr.mono (by omega)) (takes_of rfl rfl rfl rfl) (pa_cons (pv 1) pa_nil) E_NoHouse.g)) pss_nil)), ?_⟩
  walk_at "go"
  refine ⟨z, _, rfl, ?_⟩
  rw [List.length_map]
  by_cases h : 0 ≤ z ∧ z < (xs.length : Int)
  · rw [decide_eq_true h]
    refine kBl (iteF ?_)
    walk_at "go"
    exact gR h
  · rw [decide_eq_false h]
    refine kBl (iteT ?_)
    refine kRaiseR ?_
    walk_at "go"
    refine ⟨_, rfl, fun e he => ?_⟩
    exact gE h e _ (kn.new he)
end

/-! ### late hands -/
abbrev s_Hands_init : Stmt := inClass (topS 26) 0
theorem sc_Hands_init : FnScope ["self", "pointing", "names", "m", "name"] ["self", "pointing", "names", "m"] (defScope s_Hands_init) := ⟨rfl, rfl, rfl, by decide +kernel, rfl, by decide +kernel, by decide +kernel⟩
abbrev s_Hands_can_go : Stmt := inClass (topS 26) 1
theorem sc_Hands_can_go : FnScope ["self", "house", "many"] ["self", "house"] (defScope s_Hands_can_go) := ⟨rfl, rfl, rfl, by decide +kernel, rfl, by decide +kernel, by decide +kernel⟩
abbrev s_Hands_go : Stmt := inClass (topS 26) 2
theorem sc_Hands_go : FnScope ["self", "house", "own", "behind"] ["self", "house"] (defScope s_Hands_go) := ⟨rfl, rfl, rfl, by decide +kernel, rfl, by decide +kernel, by decide +kernel⟩
abbrev s_Hands_done : Stmt := inClass (topS 26) 3
theorem sc_Hands_done : FnScope ["self", "own"] ["self"] (defScope s_Hands_done) := ⟨rfl, rfl, rfl, by decide +kernel, rfl, by decide +kernel, by decide +kernel⟩
abbrev s_Hands_ready : Stmt := inClass (topS 26) 4
theorem sc_Hands_ready : FnScope ["self", "house"] ["self"] (defScope s_Hands_ready) := ⟨rfl, rfl, rfl, by decide +kernel, rfl, by decide +kernel, by decide +kernel⟩
abbrev s_Hands_label : Stmt := inClass (topS 26) 5
theorem sc_Hands_label : FnScope ["self", "house", "k", "own"] ["self", "house", "k"] (defScope s_Hands_label) := ⟨rfl, rfl, rfl, by decide +kernel, rfl, by decide +kernel, by decide +kernel⟩
theorem ne_pm : ¬ (("pointing" : Str) = "m") := by decide +kernel
theorem ne_pl : ¬ (("pointing" : Str) = "labels") := by decide +kernel
theorem ne_ml : ¬ (("m" : Str) = "labels") := by decide +kernel
def hf (p : Addr) (m : Nat) (l : Addr) : List (Str × V) := putF "labels" (.ref l) (putF "m" (.int (m : Int)) (putF "pointing" (.ref p) []))
theorem hf_p (p : Addr) (m : Nat) (l : Addr) : (hf p m l).lookup ("pointing" : Str) = some (.ref p) := by
  unfold hf
  rw [lookup_putF, if_neg ne_pl, lookup_putF, if_neg ne_pm, lookup_putF, if_pos rfl]
theorem hf_m (p : Addr) (m : Nat) (l : Addr) : (hf p m l).lookup ("m" : Str) = some (.int (m : Int)) := by
  unfold hf
  rw [lookup_putF, if_neg ne_ml, lookup_putF, if_pos rfl]
theorem hf_l (p : Addr) (m : Nat) (l : Addr) : (hf p m l).lookup ("labels" : Str) = some (.ref l) := by
  unfold hf
  rw [lookup_putF, if_pos rfl]
theorem hf_no (p : Addr) (m : Nat) (l : Addr) {f : Str} (h1 : ¬ f = "labels") (h2 : ¬ f = "m") (h3 : ¬ f = "pointing") : (hf p m l).lookup f = none := by
  unfold hf
  rw [lookup_putF, if_neg h1, lookup_putF, if_neg h2, lookup_putF, if_neg h3]
  rfl
/-- what each house has had, by how many rounds it has done -/
def rowsH (m : Nat) (xs ls : List Int) (done : List Nat) : List (List Int) := (List.range xs.length).map (fun i => histH m xs ls (done.getD i 0) i)
def zipLed (as : List Addr) (rows : List (List Int)) : Led := (as.zip rows).map (fun q => (q.1, HO.lst (q.2.map V.int)))
def handsLed (x dx C p : Addr) (m : Nat) (l : Addr) (as : List Addr) (rows : List (List Int)) : Led := (x, .ins C dx (hf p m l)) :: (dx, .own x) :: (l, .lst (as.map V.ref)) :: zipLed as rows
/-- late hands stand at x in the ledger -/
structure HandsAt (L : Led) (x C p : Addr) (m : Nat) (l : Addr) (as : List Addr) (xs ls : List Int) (done : List Nat) : Prop where
  ins : ∃ dx, (x, HO.ins C dx (hf p m l)) ∈ L
  lst : (l, HO.lst (as.map V.ref)) ∈ L
  pt : (p, HO.tup (xs.map V.int)) ∈ L
  rows : ListsAt L as (rowsH m xs ls done)
theorem HandsAt.up {L L' : Led} {x C p : Addr} {m : Nat} {l : Addr} {as : List Addr} {xs ls : List Int} {done : List Nat} (h : HandsAt L x C p m l as xs ls done) (s : ∀ y, y ∈ L → y ∈ L') : HandsAt L' x C p m l as xs ls done :=
  ⟨h.ins.imp fun dx hd => s _ hd, s _ h.lst, s _ h.pt, h.rows.up s⟩
theorem zipLed_app : ∀ (as : List Addr) (rows : List (List Int)) (a : Addr) (r : List Int), as.length = rows.length → zipLed (as ++ [a]) (rows ++ [r]) = zipLed as rows ++ [(a, HO.lst (r.map V.int))] := by
  intro as rows a r h
  unfold zipLed
  rw [List.zip_append h, List.map_append]
  rfl
theorem zipLed_get {as : List Addr} {rows : List (List Int)} {i : Nat} {a : Addr} {r : List Int} (ha : as[i]? = some a) (hr : rows[i]? = some r) : (zipLed as rows)[i]? = some (a, HO.lst (r.map V.int)) := by
  unfold zipLed
  rw [List.getElem?_map]
  have : (as.zip rows)[i]? = some (a, r) := by rw [List.getElem?_zip_eq_some]; exact ⟨ha, hr⟩
  rw [this]
  rfl
theorem zipLed_set {as : List Addr} {rows : List (List Int)} {i : Nat} {a : Addr} {r : List Int} (ha : as[i]? = some a) (hl : as.length = rows.length) : (zipLed as rows).set i (a, HO.lst (r.map V.int)) = zipLed as (rows.set i r) := by
  apply List.ext_getElem?
  intro j
  have hi := (List.getElem?_eq_some_iff.mp ha).1
  have hzl : ∀ rows' : List (List Int), rows'.length = rows.length → (zipLed as rows').length = as.length := fun rows' h => by
    unfold zipLed
    rw [List.length_map, List.length_zip, h]
    omega
  by_cases hj : j < as.length
  · have haj : as[j]? = some as[j] := List.getElem?_eq_getElem hj
    rw [List.getElem?_set]
    by_cases e : i = j
    · subst e
      rw [if_pos rfl, if_pos (by rw [hzl rows rfl]; exact hi), zipLed_get (r := r) ha (by rw [List.getElem?_set, if_pos rfl, if_pos (by omega)])]
    · have hrj : rows[j]? = some (rows[j]'(by omega)) := List.getElem?_eq_getElem (by omega)
      rw [if_neg e, zipLed_get haj hrj, zipLed_get haj (r := rows[j]'(by omega)) (by rw [List.getElem?_set, if_neg e, hrj])]
  · rw [List.getElem?_eq_none (by rw [List.length_set, hzl rows rfl]; omega), List.getElem?_eq_none (by rw [hzl _ (List.length_set ..)]; omega)]
theorem zipLed_at {as : List Addr} {rows : List (List Int)} (h : as.length = rows.length) {L : Led} (s : ∀ y, y ∈ zipLed as rows → y ∈ L) : ListsAt L as rows := ⟨h, fun i a r ha hr => s _ (List.mem_of_getElem? (zipLed_get ha hr))⟩
theorem rowsH_len (m : Nat) (xs ls : List Int) (done : List Nat) : (rowsH m xs ls done).length = xs.length := by
  unfold rowsH
  rw [List.length_map, List.length_range]
theorem rowsH_get {m : Nat} {xs ls : List Int} {done : List Nat} {i : Nat} (hi : i < xs.length) : (rowsH m xs ls done)[i]? = some (histH m xs ls (done.getD i 0) i) := by
  unfold rowsH
  rw [List.getElem?_map, List.getElem?_range hi]
  rfl
theorem handsLed_at {x dx C p : Addr} {m : Nat} {l : Addr} {as : List Addr} {xs ls : List Int} {done : List Nat} {L : Led} (h : as.length = xs.length) (hp : (p, HO.tup (xs.map V.int)) ∈ L) : HandsAt (handsLed x dx C p m l as (rowsH m xs ls done) ++ L) x C p m l as xs ls done :=
  ⟨⟨dx, List.mem_append_left _ List.mem_cons_self⟩, List.mem_append_left _ (List.mem_cons_of_mem _ (List.mem_cons_of_mem _ List.mem_cons_self)), List.mem_append_right _ hp, zipLed_at (by rw [rowsH_len]; exact h) fun y hy => List.mem_append_left _ (List.mem_cons_of_mem _ (List.mem_cons_of_mem _ (List.mem_cons_of_mem _ hy)))⟩
theorem rowsH_set {m : Nat} {xs ls : List Int} {done : List Nat} {i : Nat} (hi : i < xs.length) (hd : done.length = xs.length) : (rowsH m xs ls done).set i (histH m xs ls (done.getD i 0 + 1) i) = rowsH m xs ls (done.set i (done.getD i 0 + 1)) := by
  apply List.ext_getElem?
  intro j
  by_cases hj : j < xs.length
  · rw [rowsH_get hj, List.getElem?_set]
    by_cases e : i = j
    · subst e
      rw [if_pos rfl, if_pos (by rw [rowsH_len]; exact hi)]
      congr 2
      rw [List.getD_eq_getElem?_getD (l := done.set _ _), List.getElem?_set, if_pos rfl, if_pos (by omega)]
      rfl
    · rw [if_neg e, rowsH_get hj]
      congr 2
      rw [List.getD_eq_getElem?_getD (l := done.set _ _), List.getElem?_set, if_neg e, ← List.getD_eq_getElem?_getD]
  · rw [List.getElem?_eq_none (by rw [List.length_set, rowsH_len]; omega), List.getElem?_eq_none (by rw [rowsH_len]; omega)]
/-- what late hands are of: a pointing and proper small labels -/
structure HOk (xs ls : List Int) (m : Nat) (done : List Nat) : Prop where
  pt : PtOk 60 xs
  len : ls.length = xs.length
  in_ : LbIn ls
  pr : properB xs ls = true
  m62 : m < 2 ^ 62
  dl : done.length = xs.length
  top : ∀ r ∈ done, r ≤ (halv m).length + 5
def canB (xs : List Int) (m : Nat) (done : List Nat) (i : Nat) : Bool := decide (done.getD i 0 < (halv m).length + 5 ∧ done.getD i 0 ≤ done.getD (xs.getD i 0).toNat 0)
theorem HOk.next {xs ls : List Int} {m : Nat} {done : List Nat} {i : Nat} (h : HOk xs ls m done) (hc : canB xs m done i = true) : HOk xs ls m (done.set i (done.getD i 0 + 1)) := by
  unfold canB at hc
  have hc' := of_decide_eq_true hc
  refine ⟨h.pt, h.len, h.in_, h.pr, h.m62, by rw [List.length_set]; exact h.dl, fun r hr => ?_⟩
  rcases List.mem_or_eq_of_mem_set hr with hr | rfl
  · exact h.top r hr
  · omega
def spHInit (C : Addr) : Sp := fun vs H Q _ => ∃ (d : Addr) (n : Nat) (L : Led) (x dx p q : Addr) (xs ls : List Int) (m : Nat), vs = [.ref x, .ref p, .ref q, .int (m : Int)] ∧ ls.length = xs.length ∧ ls.length ≤ 60 ∧ (p, .tup (xs.map V.int)) ∈ L ∧ (q, .tup (ls.map V.int)) ∈ L ∧ Kn d n ((x, .ins C dx []) :: (dx, .own x) :: L) H ∧
  ∀ (l : Addr) (as : List Addr) H', as.length = xs.length → Kn d n (handsLed x dx C p m l as (rowsH m xs ls (List.replicate xs.length 0)) ++ L) H' → Q .non H'
def spHCan (C : Addr) : Sp := fun vs H Q _ => ∃ (d : Addr) (n : Nat) (L : Led) (x p l : Addr) (as : List Addr) (xs ls : List Int) (m : Nat) (done : List Nat) (i : Nat), vs = [.ref x, .int (i : Int)] ∧ i < xs.length ∧ HOk xs ls m done ∧ HandsAt L x C p m l as xs ls done ∧ Kn d n L H ∧ ∀ H', Kn d n L H' → Q (.bl (canB xs m done i)) H'
def spHDone (C : Addr) : Sp := fun vs H Q _ => ∃ (d : Addr) (n : Nat) (L : Led) (x p l : Addr) (as : List Addr) (xs ls : List Int) (m : Nat) (done : List Nat), vs = [.ref x] ∧ HOk xs ls m done ∧ HandsAt L x C p m l as xs ls done ∧ Kn d n L H ∧ ∀ r H', Kn d n ((r, .lst (done.map vN)) :: L) H' → Q (.ref r) H'
def canL (xs : List Int) (m : Nat) (done : List Nat) : List Nat := (List.range xs.length).filter (canB xs m done)
def spHReady (C : Addr) : Sp := fun vs H Q _ => ∃ (d : Addr) (n : Nat) (L : Led) (x p l : Addr) (as : List Addr) (xs ls : List Int) (m : Nat) (done : List Nat), vs = [.ref x] ∧ HOk xs ls m done ∧ HandsAt L x C p m l as xs ls done ∧ Kn d n L H ∧ ∀ r H', Kn d n ((r, .lst ((canL xs m done).map vN)) :: L) H' → Q (.ref r) H'
def spHLabel (C CH : Addr) : Sp := fun vs H Q E => ∃ (d : Addr) (n : Nat) (L : Led) (x p l : Addr) (as : List Addr) (xs ls : List Int) (m : Nat) (done : List Nat) (z k : Int), vs = [.ref x, .int z, .int k] ∧ 0 ≤ k ∧ HOk xs ls m done ∧ HandsAt L x C p m l as xs ls done ∧ Kn d n L H ∧
  (0 ≤ z ∧ z < xs.length → ∀ H', Kn d n L H' → Q (if k ≤ (done.getD z.toNat 0 : Nat) then .int (labH m xs ls k.toNat z.toNat) else .non) H') ∧ (¬ (0 ≤ z ∧ z < xs.length) → ∀ e H', Kn d n ((e, .xd [(("house" : Str), .int z)]) :: L) H' → E (.ref CH) (some e) H')
def spHGo (C CH CY : Addr) : Sp := fun vs H Q E => ∃ (d : Addr) (n : Nat) (L : Led) (x dx p l : Addr) (as : List Addr) (xs ls : List Int) (m : Nat) (done : List Nat) (z : Int), vs = [.ref x, .int z] ∧ HOk xs ls m done ∧ as.length = xs.length ∧ (p, .tup (xs.map V.int)) ∈ L ∧ Kn d n (handsLed x dx C p m l as (rowsH m xs ls done) ++ L) H ∧
  (0 ≤ z ∧ z < xs.length → canB xs m done z.toNat = true → ∀ H', Kn d n (handsLed x dx C p m l as (rowsH m xs ls (done.set z.toNat (done.getD z.toNat 0 + 1))) ++ L) H' → Q (.int (labH m xs ls (done.getD z.toNat 0 + 1) z.toNat)) H') ∧
  (¬ (0 ≤ z ∧ z < xs.length) → ∀ e H', Kn d n ((e, .xd [(("house" : Str), .int z)]) :: (handsLed x dx C p m l as (rowsH m xs ls done) ++ L)) H' → E (.ref CH) (some e) H') ∧
  (0 ≤ z ∧ z < xs.length → canB xs m done z.toNat = false → ∀ e H', Kn d n ((e, .xd [(("house" : Str), .int z)]) :: (handsLed x dx C p m l as (rowsH m xs ls done) ++ L)) H' → E (.ref CY) (some e) H')
section
variable {P : Program} {w : World} {K : PySem.W.Frag} {mg : Str → Option Value} {base : Heap} {C_Hands : Addr} (cl_Hands : Cls K C_Hands) (na_Hands_labels : NoAttr K C_Hands "labels") (na_Hands_m : NoAttr K C_Hands "m") (na_Hands_pointing : NoAttr K C_Hands "pointing")
include cl_Hands na_Hands_labels na_Hands_m na_Hands_pointing
theorem ok_Hands_init {k : Nat} {f : Addr} {fd : FuncData} (D : If K mg "Hands" C_Hands s_Hands_init ["self", "pointing", "names", "m"] f fd)  (M : Bl mg) : FnOk P w K mg base CX0 (k + 1) f fd ["self", "pointing", "names", "m"] (spHInit C_Hands) := by
  refine D.F.ok sc_Hands_init (fun vs H Q E h => ?_) (fun cdv A outer s H vs Q E hr h => ?_)
  · obtain ⟨d, n, L, x, dx, p, q, xs, ls, m, rfl, _⟩ := h
    rfl
  obtain ⟨d, n, L, x, dx, p, q, xs, ls, m, rfl, hl, h60, hp, hq, kn, g⟩ := h
  refine ⟨_, (pss_cons (ps_fld (pv 0) (pv 1) rfl)
   (pss_cons (ps_fld (pv 0) (pv 3) rfl)
   (pss_one (ps_fld (pv 0) (pe_lc (own := [("name", 4)]) (g := gName 4) (by rfl) sc_Hands_init.nd (pi_tup (pv 2)) (blkOk_by (own := [("name", 4)]) (N := ["self", "pointing", "names", "m", "name"]) (sc := defScope s_Hands_init) (by decide +kernel)) (fun _ _ _ _ _ => (pg_name (i := 4) sc_Hands_init.nd rfl (Or.inl rfl))) (fun _ _ _ _ _ => pts_nil) (fun _ _ _ _ _ => (pe_lst (pa_cons (pv 4) pa_nil)))) rfl)))), ?_⟩
  refine kSeq (kSetFld ⟨.ref p, rfl, .ref x, rfl, x, C_Hands, dx, [], rfl, kn.at 0 rfl, cl_Hands, na_Hands_pointing, (by decide), ?_⟩)
  have kn1 := kn.put (u := .ins C_Hands dx (putF "pointing" (.ref p) [])) 0 rfl
  refine kSeq (kSetFld ⟨.int (m : Int), rfl, .ref x, rfl, x, C_Hands, dx, _, rfl, kn1.at 0 rfl, cl_Hands, na_Hands_m, Nat.lt_of_lt_of_le (putF_lt (k := 1) (by decide)) (by decide), ?_⟩)
  have kn2 := kn1.put (u := .ins C_Hands dx (putF "m" (.int (m : Int)) (putF "pointing" (.ref p) []))) 0 rfl
  have kn3 : Kn d n ((x, .ins C_Hands dx (putF "m" (.int (m : Int)) (putF "pointing" (.ref p) []))) :: (dx, .own x) :: L) _ := kn2
  refine kSetFld ?_
  refine kLcTS kn3 (List.mem_cons_of_mem _ (List.mem_cons_of_mem _ hq)) (fun R hR => by walk_at "go"; exact hR) (by rw [List.length_map]; omega) (fun i acc m2 L2 => m2 = n ∧ ∃ as : List Addr, acc = as.map V.ref ∧ as.length = i ∧ L2.Perm (zipLed as ((List.range i).map (fun j => [ls.getD j 0])) ++ ((x, .ins C_Hands dx (putF "m" (.int (m : Int)) (putF "pointing" (.ref p) []))) :: (dx, .own x) :: L)))
    ⟨rfl, [], rfl, rfl, List.Perm.refl _⟩ (fun i l m2 L2 h => ?_) (fun _ => rfl) (fun i v H' D acc m2 L2 hx hS kn1 N1 N2 h1' _ => ?_) (fun D acc m2 L2 H' hS kn1 => ?_)
  · obtain ⟨_, as, rfl, hal, hs⟩ := h
    exact ⟨by rw [List.length_map]; omega, hs.mem_iff.mpr (List.mem_append_right _ (List.mem_cons_of_mem _ (List.mem_cons_of_mem _ hq)))⟩
  · obtain ⟨rfl, as, rfl, hal, hs⟩ := hS
    obtain ⟨z, hz, rfl⟩ : ∃ z, ls[i]? = some z ∧ v = V.int z := by
      rw [List.getElem?_map] at hx
      cases e : ls[i]? with
      | none => rw [e] at hx; cases hx
      | some z => rw [e] at hx; exact ⟨z, rfl, (Option.some.inj hx).symm⟩
    refine kYes (iteT ?_)
    walk_at "go"
    rename_i l H3 kn3
    refine h1' _ _ m2 ((l, HO.lst ([z].map V.int)) :: L2) ⟨rfl, as ++ [l], by rw [List.map_append]; rfl, by rw [List.length_append, hal]; rfl, ?_⟩ (kn3.perm (List.Perm.swap _ _ _))
    rw [List.range_succ, List.map_append]
    show List.Perm _ (zipLed (as ++ [l]) (List.map (fun j => [ls.getD j 0]) (List.range i) ++ [[ls.getD i 0]]) ++ _)
    rw [zipLed_app _ _ _ _ (by rw [List.length_map, List.length_range]; exact hal), getD_of hz, List.append_assoc]
    exact (hs.cons _).trans List.perm_middle.symm
  · obtain ⟨rfl, as, rfl, hal, hs⟩ := hS
    rw [List.length_map] at hs hal
    have erow : (List.range ls.length).map (fun j => [ls.getD j 0]) = rowsH m xs ls (List.replicate xs.length 0) := by
      unfold rowsH
      rw [hl]
      refine List.map_congr_left fun j hj => ?_
      have e : (List.replicate xs.length 0).getD j 0 = 0 := by
        rw [List.getD_eq_getElem?_getD, List.getElem?_replicate]
        split <;> rfl
      rw [e]
      rfl
    rw [erow] at hs
    have kn4 := kn1.perm ((hs.cons _).trans ((List.Perm.cons _ List.perm_append_comm).trans (List.Perm.refl ((D, HO.lst (as.map V.ref)) :: (((x, HO.ins C_Hands dx (putF "m" (.int (m : Int)) (putF "pointing" (.ref p) []))) :: (dx, .own x) :: L) ++ zipLed as (rowsH m xs ls (List.replicate xs.length 0)))))))
    refine ⟨.ref x, rfl, x, C_Hands, dx, _, rfl, kn4.at 1 rfl, cl_Hands, na_Hands_labels, Nat.lt_of_lt_of_le (putF_lt (putF_lt (k := 1) (by decide))) (by decide), ?_⟩
    have kn5 := kn4.put (u := .ins C_Hands dx (hf p m D)) 1 rfl
    refine g D as _ (by rw [hal, hl]) (kn5.perm ?_)
    show List.Perm ((D, HO.lst (as.map V.ref)) :: (x, HO.ins C_Hands dx (hf p m D)) :: (dx, .own x) :: (L ++ zipLed as (rowsH m xs ls (List.replicate xs.length 0)))) ((x, HO.ins C_Hands dx (hf p m D)) :: (dx, .own x) :: (D, HO.lst (as.map V.ref)) :: (zipLed as (rowsH m xs ls (List.replicate xs.length 0)) ++ L))
    refine (List.Perm.swap _ _ _).trans (List.Perm.cons _ ((List.Perm.swap _ _ _).trans (List.Perm.cons _ (List.Perm.cons _ List.perm_append_comm))))
end

section
variable {P : Program} {w : World} {K : PySem.W.Frag} {mg : Str → Option Value} {base : Heap} {C_Hands : Addr} (cl_Hands : Cls K C_Hands) (na_Hands_labels : NoAttr K C_Hands "labels") (na_Hands_m : NoAttr K C_Hands "m") (na_Hands_pointing : NoAttr K C_Hands "pointing")
include cl_Hands na_Hands_labels na_Hands_m na_Hands_pointing
theorem ok_Hands_can_go {k : Nat} {f a_halvings a_needed_steps a_rounds : Addr} {fd fd_halvings fd_needed_steps fd_rounds : FuncData} (D : Mf K C_Hands "can_go" "Hands.can_go" s_Hands_can_go ["self", "house"] f fd) (D_halvings : Df K mg "halvings" s_halvings ["m"] a_halvings fd_halvings) (D_needed_steps : Df K mg "needed_steps" s_needed_steps ["m"] a_needed_steps fd_needed_steps) (D_rounds : Df K mg "rounds" s_rounds ["m"] a_rounds fd_rounds) (C1 : ∃ t, mg "SHORT" = some (.int 6 t)) (C3 : ∃ a, mg "GONE_HUES" = some (.ref a) ∧ ∀ H, SqT K H a (([5, 4, 3] : List Int).map V.int)) (C4 : ∃ t, mg "ROUNDS_EACH" = some (.int 2 t)) (M : Bl mg) : FnOk P w K mg base CX0 (k + 1 + 1 + 1 + 1) f fd ["self", "house"] (spHCan C_Hands) := by
  have G_rounds := ok_rounds (P := P) (w := w) (base := base) (k := 0) D_rounds D_halvings D_needed_steps C1 C3 C4 M
  refine D.F.ok sc_Hands_can_go (fun vs H Q E h => ?_) (fun cdv A outer s H vs Q E hr h => ?_)
  · obtain ⟨d, n, L, x, p, l, as, xs, ls, m, done, i, rfl, _⟩ := h
    rfl
  obtain ⟨d, n, L, x, p, l, as, xs, ls, m, done, i, rfl, hi, ho, ha, kn, g⟩ := h
  refine ⟨_, (pss_cons (ps_set (i := 2) sc_Hands_can_go.nd rfl (Or.inl rfl) (pe_callB c_len (by rfl) M.len PySem.boot_len (pa_cons (pe_ix ix_list (pe_fld (pv 0) rfl) (pv 1) (fun _ _ => rfl)) pa_nil)))
   (pss_one (ps_ret (pe_and (pe_cmpR op_le (pv 2) (pe_call G_rounds (hr.mono (by omega)) (by rfl) D_rounds.g D_rounds.F.kp D_rounds.b .nil pass0 (pa_cons (pe_fld (pv 0) rfl) pa_nil)) (nomark _)) (pe_one (pe_cmpR op_ge (pe_callB c_len (by rfl) M.len PySem.boot_len (pa_cons (pe_ix ix_list (pe_fld (pv 0) rfl) (pe_ix ix_tup (pe_fld (pv 0) rfl) (pv 1) (fun _ _ => rfl)) (fun _ _ => rfl)) pa_nil)) (pv 2) (nomark _))))))), ?_⟩
  obtain ⟨dx, hins⟩ := ha.ins
  have hal : as.length = xs.length := by rw [ha.rows.len, rowsH_len]
  have hg := goalLt ho.pt hi
  have hz : xs[i]? = some xs[i] := List.getElem?_eq_getElem hi
  have hzg := ho.pt.goal i _ hz
  have ez : xs.getD i 0 = xs[i] := getD_of hz
  obtain ⟨a, hai⟩ : ∃ a, as[i]? = some a := ⟨_, List.getElem?_eq_getElem (by omega)⟩
  obtain ⟨b, hbj⟩ : ∃ b, as[(xs.getD i 0).toNat]? = some b := ⟨_, List.getElem?_eq_getElem (by omega)⟩
  have ra := ha.rows.at_ i a _ hai (rowsH_get hi)
  have rb := ha.rows.at_ _ b _ hbj (rowsH_get hg)
  have ec : canB xs m done i = (decide (done.getD i 0 < (halv m).length + 5) && decide (done.getD i 0 ≤ done.getD (xs.getD i 0).toNat 0)) := by
    unfold canB
    rw [Bool.decide_and]
  rw [ec] at g
  walk_at "go"
  refine kFld rfl (kn.mem hins) cl_Hands na_Hands_labels (hf_l _ _ _) ?_
  walk_at "go"
  refine kIxL (kn.seqL ha.lst) (atI_at (j := i) rfl (by rw [List.getElem?_map, hai]; rfl)) ?_
  walk_at "go"
  rw [List.length_map, histH_len]
  refine kFld rfl (kn.mem hins) cl_Hands na_Hands_m (hf_m _ _ _) ?_
  walk_at "go"
  refine ⟨d, n, L, m, rfl, ho.m62, kn, fun H1 kn1 => ?_⟩
  walk_at "go"
  refine iteD (fun h1 => ?_) (fun h1 => ?_)
  · walk_at "go"
    refine kFld rfl (kn1.mem hins) cl_Hands na_Hands_labels (hf_l _ _ _) ?_
    walk_at "go"
    refine kFld rfl (kn1.mem hins) cl_Hands na_Hands_pointing (hf_p _ _ _) ?_
    walk_at "go"
    refine kIxT (kn1.seqT ha.pt) (atInt hz) ?_
    walk_at "go"
    refine kIxL (kn1.seqL ha.lst) (atI_at (j := (xs.getD i 0).toNat) (by omega) (by rw [List.getElem?_map, hbj]; rfl)) ?_
    walk_at "go"
    rw [List.length_map, histH_len]
    have e1 : decide (done.getD i 0 < (halv m).length + 5) = true := decide_eq_true (by omega)
    rw [e1, Bool.true_and] at g
    have e2 : decide (((done.getD (xs.getD i 0).toNat 0 + 1 : Nat) : Int) ≥ ((done.getD i 0 + 1 : Nat) : Int)) = decide (done.getD i 0 ≤ done.getD (xs.getD i 0).toNat 0) := by
      refine decide_eq_decide.mpr ?_
      omega
    rw [e2]
    exact g _ kn1
  · have e1 : decide (done.getD i 0 < (halv m).length + 5) = false := decide_eq_false (by omega)
    rw [e1, Bool.false_and] at g
    exact g _ kn1
theorem ok_Hands_done {k : Nat} {f : Addr} {fd : FuncData} (D : Mf K C_Hands "done" "Hands.done" s_Hands_done ["self"] f fd)  (M : Bl mg) : FnOk P w K mg base CX0 (k + 1) f fd ["self"] (spHDone C_Hands) := by
  refine D.F.ok sc_Hands_done (fun vs H Q E h => ?_) (fun cdv A outer s H vs Q E hr h => ?_)
  · obtain ⟨d, n, L, x, p, l, as, xs, ls, m, done, rfl, _⟩ := h
    rfl
  obtain ⟨d, n, L, x, p, l, as, xs, ls, m, done, rfl, ho, ha, kn, g⟩ := h
  refine ⟨_, (pss_one (ps_ret (pe_lc (own := [("own", 1)]) (g := gName 1) (by rfl) sc_Hands_done.nd (pi_list (pe_fld (pv 0) rfl)) (blkOk_by (own := [("own", 1)]) (N := ["self", "own"]) (sc := defScope s_Hands_done) (by decide +kernel)) (fun _ _ _ _ _ => (pg_name (i := 1) sc_Hands_done.nd rfl (Or.inl rfl))) (fun _ _ _ _ _ => pts_nil) (fun _ _ _ _ _ => (pe_op op_sub (pe_callB (lenQ (K := K) rfl) (by rfl) M.len PySem.boot_len (pa_cons (pv 1) pa_nil)) pe_int))))), ?_⟩
  obtain ⟨dx, hins⟩ := ha.ins
  have hal : as.length = xs.length := by rw [ha.rows.len, rowsH_len]
  have h60 := ho.pt.most
  walk_at "go"
  refine kLcL kn ha.lst (fun R hR => kFld rfl (kn.mem hins) cl_Hands na_Hands_labels (hf_l _ _ _) hR) (by rw [List.length_map]; omega) (fun i => ((List.range i).map (fun j => done.getD j 0)).map vN) rfl (fun i => by simp) (fun _ => rfl) (fun i v H' D hx kn2 N1 N2 h1 _ => ?_) (fun D H' kn2 => ?_)
  · obtain ⟨a, hai, rfl⟩ : ∃ z, as[i]? = some z ∧ v = V.ref z := by
      rw [List.getElem?_map] at hx
      cases e : as[i]? with
      | none => rw [e] at hx; cases hx
      | some z => rw [e] at hx; exact ⟨z, rfl, (Option.some.inj hx).symm⟩
    have hi := (List.getElem?_eq_some_iff.mp hai).1
    have ra := List.mem_cons_of_mem (D, HO.lst (((List.range i).map (fun j => done.getD j 0)).map vN)) (ha.rows.at_ i a _ hai (rowsH_get (by omega)))
    refine kYes (iteT ?_)
    walk_at "go"
    rw [List.length_map, histH_len]
    have e : ((done.getD i 0 + 1 : Nat) : Int) - 1 = ((done.getD i 0 : Nat) : Int) := by omega
    rw [e]
    refine h1 _ _ kn2 ?_
    rw [List.range_succ, List.map_append, List.map_append]
    rfl
  · rw [List.length_map] at kn2
    have e : (List.range as.length).map (fun j => done.getD j 0) = done := by
      apply List.ext_getElem?
      intro j
      rw [List.getElem?_map]
      by_cases hj : j < as.length
      · rw [List.getElem?_range hj, List.getElem?_eq_getElem (show j < done.length by rw [ho.dl]; omega)]
        show some (done.getD j 0) = _
        rw [List.getD_eq_getElem?_getD, List.getElem?_eq_getElem (show j < done.length by rw [ho.dl]; omega)]
        rfl
      · rw [List.getElem?_eq_none (by rw [List.length_range]; omega), List.getElem?_eq_none (by rw [ho.dl]; omega)]
        rfl
    rw [e] at kn2
    exact g _ _ kn2
theorem ok_Hands_ready {k : Nat} {f a_halvings a_needed_steps a_rounds a_Hands_can_go : Addr} {fd fd_halvings fd_needed_steps fd_rounds fd_Hands_can_go : FuncData} (D : Mf K C_Hands "ready" "Hands.ready" s_Hands_ready ["self"] f fd) (D_halvings : Df K mg "halvings" s_halvings ["m"] a_halvings fd_halvings) (D_needed_steps : Df K mg "needed_steps" s_needed_steps ["m"] a_needed_steps fd_needed_steps) (D_rounds : Df K mg "rounds" s_rounds ["m"] a_rounds fd_rounds) (D_Hands_can_go : Mf K C_Hands "can_go" "Hands.can_go" s_Hands_can_go ["self", "house"] a_Hands_can_go fd_Hands_can_go) (C1 : ∃ t, mg "SHORT" = some (.int 6 t)) (C3 : ∃ a, mg "GONE_HUES" = some (.ref a) ∧ ∀ H, SqT K H a (([5, 4, 3] : List Int).map V.int)) (C4 : ∃ t, mg "ROUNDS_EACH" = some (.int 2 t)) (M : Bl mg) : FnOk P w K mg base CX0 (k + 1 + 1 + 1 + 1 + 1) f fd ["self"] (spHReady C_Hands) := by
  have G_Hands_can_go := ok_Hands_can_go (P := P) (w := w) (base := base) (k := 0) cl_Hands na_Hands_labels na_Hands_m na_Hands_pointing D_Hands_can_go D_halvings D_needed_steps D_rounds C1 C3 C4 M
  refine D.F.ok sc_Hands_ready (fun vs H Q E h => ?_) (fun cdv A outer s H vs Q E hr h => ?_)
  · obtain ⟨d, n, L, x, p, l, as, xs, ls, m, done, rfl, _⟩ := h
    rfl
  obtain ⟨d, n, L, x, p, l, as, xs, ls, m, done, rfl, ho, ha, kn, g⟩ := h
  refine ⟨_, (pss_one (ps_ret (pe_lc (own := [("house", 1)]) (g := gName 1) (by rfl) sc_Hands_ready.nd (pi_range1 (by rfl) M.range (pa_cons (pe_callB c_len (by rfl) M.len PySem.boot_len (pa_cons (pe_fld (pv 0) rfl) pa_nil)) pa_nil)) (blkOk_by (own := [("house", 1)]) (N := ["self", "house"]) (sc := defScope s_Hands_ready) (by decide +kernel)) (fun _ _ _ _ _ => (pg_name (i := 1) sc_Hands_ready.nd rfl (Or.inl rfl))) (fun _ _ _ _ _ => (pts_one (pt_val (pe_meth (pv 0) cl_Hands D_Hands_can_go.mt G_Hands_can_go (hr.mono (by omega)) D_Hands_can_go.b .nil pass0 (pa_cons (pv 1) pa_nil))))) (fun _ _ _ _ _ => (pv 1))))), ?_⟩
  obtain ⟨dx, hins⟩ := ha.ins
  have h60 := ho.pt.most
  walk_at "go"
  refine kLcR (lo := 0) (N := xs.length) kn (fun R hR => srcR1 (n := (xs.length : Int)) (fun R' h' => ?_) (by omega) (by omega) R (by rw [Int.toNat_natCast]; exact hR)) (by omega) (fun i => ((List.range i).filter (canB xs m done)).map vN) rfl (fun i => ?_) (fun _ => rfl) (fun i H' D hi kn2 N1 N2 h1 h2 => ?_) (fun D H' kn2 => ?_)
  · walk_at "go"
    refine kFld rfl (kn.mem hins) cl_Hands na_Hands_pointing (hf_p _ _ _) ?_
    walk_at "go"
    refine kLenT (kn.seqT ha.pt) ?_
    walk_at "go"
    rw [List.length_map]
    exact h'
  · rw [List.length_map]
    exact Nat.le_trans (List.length_filter_le _ _) (by rw [List.length_range]; exact Nat.le_refl _)
  · rw [Int.zero_add]
    have nxt : (List.range (i + 1)).filter (canB xs m done) = (List.range i).filter (canB xs m done) ++ (if canB xs m done i = true then [i] else []) := by
      rw [List.range_succ, List.filter_append]
      congr 1
      rw [List.filter_cons, List.filter_nil]
    refine kTest ?_
    refine kMeth rfl (kn2.mem (List.mem_cons_of_mem _ hins)) (hf_no _ _ _ (by decide +kernel) (by decide +kernel) (by decide +kernel)) ?_
    walk_at "go"
    refine ⟨d, n, _, x, p, l, as, xs, ls, m, done, i, rfl, hi, ho, ha.up fun y hy => List.mem_cons_of_mem _ hy, kn2, fun H5 kn5 => ?_⟩
    refine kBl ?_
    refine iteB (fun hb => ?_) (fun hb => ?_)
    · rw [if_pos hb] at nxt
      walk_at "go"
      refine h1 _ _ kn5 ?_
      rw [nxt, List.map_append]
      rfl
    · rw [if_neg (by rw [hb]; exact Bool.false_ne_true), List.append_nil] at nxt
      exact h2 _ kn5 (by rw [nxt])
  · exact g _ _ kn2
end

theorem handsLed_get {x dx C p : Addr} {m : Nat} {l : Addr} {as : List Addr} {rows : List (List Int)} {L : Led} {i : Nat} {a : Addr} {r : List Int} (ha : as[i]? = some a) (hr : rows[i]? = some r) : (handsLed x dx C p m l as rows ++ L)[i + 3]? = some (a, HO.lst (r.map V.int)) := by
  have h := zipLed_get ha hr
  show (zipLed as rows ++ L)[i]? = _
  rw [List.getElem?_append_left (List.getElem?_eq_some_iff.mp h).1]
  exact h
theorem handsLed_set {x dx C p : Addr} {m : Nat} {l : Addr} {as : List Addr} {rows : List (List Int)} {L : Led} {i : Nat} {a : Addr} {r : List Int} (ha : as[i]? = some a) (hl : as.length = rows.length) : (handsLed x dx C p m l as rows ++ L).set (i + 3) (a, HO.lst (r.map V.int)) = handsLed x dx C p m l as (rows.set i r) ++ L := by
  have hi := (List.getElem?_eq_some_iff.mp ha).1
  have e : (zipLed as rows ++ L).set i (a, HO.lst (r.map V.int)) = zipLed as (rows.set i r) ++ L := by
    rw [← zipLed_set ha hl, List.set_append_left]
    unfold zipLed
    rw [List.length_map, List.length_zip]
    omega
  show (x, HO.ins C dx (hf p m l)) :: (dx, HO.own x) :: (l, HO.lst (as.map V.ref)) :: (zipLed as rows ++ L).set i (a, HO.lst (r.map V.int)) = _
  rw [e]
  rfl
section
variable {P : Program} {w : World} {K : PySem.W.Frag} {mg : Str → Option Value} {base : Heap} {C_Hands : Addr} (cl_Hands : Cls K C_Hands) (na_Hands_labels : NoAttr K C_Hands "labels") (na_Hands_m : NoAttr K C_Hands "m") (na_Hands_pointing : NoAttr K C_Hands "pointing")
  {C_NoHouse fI_NoHouse : Addr} {fd_NoHouse : FuncData} {m_NoHouse : Expr} {bm_NoHouse : List Value} (E_NoHouse : Rf P K mg "NoHouse" "house" C_NoHouse fI_NoHouse fd_NoHouse m_NoHouse bm_NoHouse)
  {C_NotReady fI_NotReady : Addr} {fd_NotReady : FuncData} {m_NotReady : Expr} {bm_NotReady : List Value} (E_NotReady : Rf P K mg "NotReady" "house" C_NotReady fI_NotReady fd_NotReady m_NotReady bm_NotReady)
include cl_Hands na_Hands_labels na_Hands_m na_Hands_pointing E_NoHouse
theorem ok_Hands_label {k : Nat} {f a_is_whole a_is_house a_check_house : Addr} {fd fd_is_whole fd_is_house fd_check_house : FuncData} (D : Mf K C_Hands "label" "Hands.label" s_Hands_label ["self", "house", "k"] f fd) (D_is_whole : Df K mg "is_whole" s_is_whole ["thing"] a_is_whole fd_is_whole) (D_is_house : Df K mg "is_house" s_is_house ["thing", "many"] a_is_house fd_is_house) (D_check_house : Df K mg "check_house" s_check_house ["pointing", "number"] a_check_house fd_check_house) (M : Bl mg) : FnOk P w K mg base (L2.CX P w) (k + 1 + 1 + 1 + 1) f fd ["self", "house", "k"] (spHLabel C_Hands C_NoHouse) := by
  have G_check_house := ok_check_house (w := w) (base := base) (k := 0) E_NoHouse D_check_house D_is_whole D_is_house M
  refine D.F.okX sc_Hands_label (fun vs H Q E h => ?_) (fun cdv A outer s H vs Q E hr h => ?_)
  · obtain ⟨d, n, L, x, p, l, as, xs, ls, m, done, z, k, rfl, _⟩ := h
    rfl
  obtain ⟨d, n, L, x, p, l, as, xs, ls, m, done, z, k', rfl, hk, ho, ha, kn, gR, gE⟩ := h
  refine ⟨_, (pss_cons (ps_expr (pe_callS G_check_house (hr.mono (by omega)) (by rfl) D_check_house.g D_check_house.F.kp D_check_house.b (fun σ => passAt (takes_of rfl rfl rfl rfl) σ) (pa_cons (pe_fld (pv 0) rfl) (pa_cons (pv 1) pa_nil))))
   (pss_cons (ps_set (i := 3) sc_Hands_label.nd rfl (Or.inl rfl) (pe_ix ix_list (pe_fld (pv 0) rfl) (pv 1) (fun _ _ => rfl)))
   (pss_one (ps_ret (pe_ifExp (pt_chain op_le op_lt pe_int (pv 2) (pe_callB c_len (by rfl) M.len PySem.boot_len (pa_cons (pv 3) pa_nil))) (pe_ix ix_list (pv 3) (pv 2) (fun _ _ => rfl)) pe_non))))), ?_⟩
  obtain ⟨dx, hins⟩ := ha.ins
  have hal : as.length = xs.length := by rw [ha.rows.len, rowsH_len]
  walk_at "go"
  refine kFld rfl (kn.mem hins) cl_Hands na_Hands_pointing (hf_p _ _ _) ?_
  walk_at "go"
  refine ⟨d, n, L, p, xs, z, rfl, ha.pt, kn, fun hz => ?_, gE⟩
  obtain ⟨i, rfl⟩ : ∃ i : Nat, z = (i : Int) := ⟨z.toNat, by omega⟩
  have gR' := gR hz
  rw [Int.toNat_natCast] at gR'
  obtain ⟨a, hai⟩ : ∃ a, as[i]? = some a := ⟨_, List.getElem?_eq_getElem (by omega)⟩
  have ra := ha.rows.at_ i a _ hai (rowsH_get (by omega))
  walk_at "go"
  refine kFld rfl (kn.mem hins) cl_Hands na_Hands_labels (hf_l _ _ _) ?_
  walk_at "go"
  refine kIxL (kn.seqL ha.lst) (atI_at (j := i) rfl (by rw [List.getElem?_map, hai]; rfl)) ?_
  walk_at "go"
  refine iteD (fun _ => ?_) (fun h => absurd hk h)
  walk_at "go"
  rw [List.length_map, histH_len]
  refine iteD (fun h1 => ?_) (fun h1 => ?_)
  · rw [if_pos (by omega)] at gR'
    walk_at "go"
    refine kIxL (kn.seqL ra) (atI_at (j := k'.toNat) (by omega) (by rw [List.getElem?_map, histH_get m xs ls i _ k'.toNat (by omega)]; rfl)) ?_
    exact gR' _ kn
  · rw [if_neg (by omega)] at gR'
    walk_at "go"
    exact gR' _ kn
include E_NotReady
theorem ok_Hands_go {k : Nat} {f a_is_whole a_is_house a_check_house a_unlike_place a_stepped a_halvings a_needed_steps a_given_up a_rounds a_next_label a_Hands_can_go : Addr} {fd fd_is_whole fd_is_house fd_check_house fd_unlike_place fd_stepped fd_halvings fd_needed_steps fd_given_up fd_rounds fd_next_label fd_Hands_can_go : FuncData} (D : Mf K C_Hands "go" "Hands.go" s_Hands_go ["self", "house"] f fd) (D_is_whole : Df K mg "is_whole" s_is_whole ["thing"] a_is_whole fd_is_whole) (D_is_house : Df K mg "is_house" s_is_house ["thing", "many"] a_is_house fd_is_house) (D_check_house : Df K mg "check_house" s_check_house ["pointing", "number"] a_check_house fd_check_house) (D_unlike_place : Df K mg "unlike_place" s_unlike_place ["one", "other"] a_unlike_place fd_unlike_place) (D_stepped : Df K mg "stepped" s_stepped ["label", "goal_label"] a_stepped fd_stepped) (D_halvings : Df K mg "halvings" s_halvings ["m"] a_halvings fd_halvings) (D_needed_steps : Df K mg "needed_steps" s_needed_steps ["m"] a_needed_steps fd_needed_steps) (D_given_up : Df K mg "given_up" s_given_up ["ahead", "label", "goal_label", "hue"] a_given_up fd_given_up) (D_rounds : Df K mg "rounds" s_rounds ["m"] a_rounds fd_rounds) (D_next_label : Df K mg "next_label" s_next_label ["m", "own", "goal_label"] a_next_label fd_next_label) (D_Hands_can_go : Mf K C_Hands "can_go" "Hands.can_go" s_Hands_can_go ["self", "house"] a_Hands_can_go fd_Hands_can_go) (C1 : ∃ t, mg "SHORT" = some (.int 6 t)) (C2 : ∃ a, mg "LEFT_HUES" = some (.ref a) ∧ ∀ H, SqT K H a (([0, 1, 2] : List Int).map V.int)) (C3 : ∃ a, mg "GONE_HUES" = some (.ref a) ∧ ∀ H, SqT K H a (([5, 4, 3] : List Int).map V.int)) (C4 : ∃ t, mg "ROUNDS_EACH" = some (.int 2 t)) (M : Bl mg) : FnOk P w K mg base (L2.CX P w) (k + 1 + 1 + 1 + 1 + 1) f fd ["self", "house"] (spHGo C_Hands C_NoHouse C_NotReady) := by
  have G_check_house := ok_check_house (w := w) (base := base) (k := 0) E_NoHouse D_check_house D_is_whole D_is_house M
  have G_Hands_can_go := ok_Hands_can_go (P := P) (w := w) (base := base) (k := 0) cl_Hands na_Hands_labels na_Hands_m na_Hands_pointing D_Hands_can_go D_halvings D_needed_steps D_rounds C1 C3 C4 M
  have G_next_label := ok_next_label (P := P) (w := w) (base := base) (k := 0) D_next_label D_unlike_place D_stepped D_halvings D_needed_steps D_given_up C1 C2 C3 C4 M
  refine D.F.okX sc_Hands_go (fun vs H Q E h => ?_) (fun cdv A outer s H vs Q E hr h => ?_)
  · obtain ⟨d, n, L, x, dx, p, l, as, xs, ls, m, done, z, rfl, _⟩ := h
    rfl
  obtain ⟨d, n, L, x, dx, p, l, as, xs, ls, m, done, z, rfl, ho, hal, hp, kn, gR, gH, gY⟩ := h
  refine ⟨_, (pss_cons (ps_expr (pe_callS G_check_house (hr.mono (by omega)) (by rfl) D_check_house.g D_check_house.F.kp D_check_house.b (fun σ => passAt (takes_of rfl rfl rfl rfl) σ) (pa_cons (pe_fld (pv 0) rfl) (pa_cons (pv 1) pa_nil))))
   (pss_cons (ps_if (pt_not (pt_val (pe_meth (pv 0) cl_Hands D_Hands_can_go.mt G_Hands_can_go (hr.mono (by omega)) D_Hands_can_go.b .nil pass0 (pa_cons (pv 1) pa_nil)))) (pss_one (ps_raiseR (k := 1) rfl E_NotReady.T E_NotReady.J (E_NotReady.M _) (hr.mono (by omega)) (takes_of rfl rfl rfl rfl) (pa_cons (pv 1) pa_nil) E_NotReady.g)) pss_nil)
   (pss_cons (ps_set (i := 2) sc_Hands_go.nd rfl (Or.inl rfl) (pe_ix ix_list (pe_fld (pv 0) rfl) (pv 1) (fun _ _ => rfl)))
   (pss_cons (ps_set (i := 3) sc_Hands_go.nd rfl (Or.inl rfl) (pe_ix ix_list (pe_fld (pv 0) rfl) (pe_ix ix_tup (pe_fld (pv 0) rfl) (pv 1) (fun _ _ => rfl)) (fun _ _ => rfl)))
   (pss_cons (ps_expr (pe_bm PySem.F.plainAttrs_list PySem.F.slot_list_append PySem.F.type_list_append mt_append (pv 2) (pa_cons (pe_call G_next_label (hr.mono (by omega)) (by rfl) D_next_label.g D_next_label.F.kp D_next_label.b .nil pass0 (pa_cons (pe_fld (pv 0) rfl) (pa_cons (pv 2) (pa_cons (pe_ix ix_list (pv 3) (pe_op op_sub (pe_callB c_len (by rfl) M.len PySem.boot_len (pa_cons (pv 2) pa_nil)) pe_int) (fun _ _ => rfl)) pa_nil)))) pa_nil)))
   (pss_one (ps_ret (pe_ix ix_list (pv 2) (pe_un un_neg pe_int) (fun _ _ => rfl))))))))), ?_⟩
  have ha := handsLed_at (x := x) (dx := dx) (C := C_Hands) (m := m) (l := l) (ls := ls) (done := done) hal hp
  obtain ⟨LL, eLL⟩ : ∃ LL, handsLed x dx C_Hands p m l as (rowsH m xs ls done) ++ L = LL := ⟨_, rfl⟩
  have hins : (x, HO.ins C_Hands dx (hf p m l)) ∈ LL := by rw [← eLL]; exact List.mem_append_left _ List.mem_cons_self
  rw [eLL] at ha kn gH gY
  walk_at "go"
  refine kFld rfl (kn.mem hins) cl_Hands na_Hands_pointing (hf_p _ _ _) ?_
  walk_at "go"
  refine ⟨d, n, LL, p, xs, z, rfl, ha.pt, kn, fun hz => ?_, gH⟩
  obtain ⟨i, rfl⟩ : ∃ i : Nat, z = (i : Int) := ⟨z.toNat, by omega⟩
  have hi : i < xs.length := by omega
  have gR' := gR hz
  have gY' := gY hz
  rw [Int.toNat_natCast] at gR' gY'
  have hg := goalLt ho.pt hi
  have hz' : xs[i]? = some xs[i] := List.getElem?_eq_getElem hi
  have hzg := ho.pt.goal i _ hz'
  have ez : xs.getD i 0 = xs[i] := getD_of hz'
  obtain ⟨a, hai⟩ : ∃ a, as[i]? = some a := ⟨_, List.getElem?_eq_getElem (by omega)⟩
  obtain ⟨b, hbj⟩ : ∃ b, as[(xs.getD i 0).toNat]? = some b := ⟨_, List.getElem?_eq_getElem (by omega)⟩
  have ra := ha.rows.at_ i a _ hai (rowsH_get hi)
  have rb := ha.rows.at_ _ b _ hbj (rowsH_get hg)
  refine kSeq (kIfS ?_)
  walk_at "go"
  refine kMeth rfl (kn.mem hins) (hf_no _ _ _ (by decide +kernel) (by decide +kernel) (by decide +kernel)) ?_
  walk_at "go"
  refine ⟨d, n, LL, x, p, l, as, xs, ls, m, done, i, rfl, hi, ho, ha, kn, fun H5 kn5 => ?_⟩
  cases hc : canB xs m done i with
  | false =>
    refine kBl ?_
    refine iteT ?_
    refine kRaiseR ?_
    walk_at "go"
    exact ⟨_, rfl, fun e he => gY' hc e _ (kn5.new he)⟩
  | true =>
    have hc' := hc
    unfold canB at hc'
    have hc2 := of_decide_eq_true hc'
    refine kBl ?_
    refine iteF ?_
    walk_at "go"
    refine kFld rfl (kn5.mem hins) cl_Hands na_Hands_labels (hf_l _ _ _) ?_
    walk_at "go"
    refine kIxL (kn5.seqL ha.lst) (atI_at (j := i) rfl (by rw [List.getElem?_map, hai]; rfl)) ?_
    walk_at "go"
    refine kFld rfl (kn5.mem hins) cl_Hands na_Hands_labels (hf_l _ _ _) ?_
    walk_at "go"
    refine kFld rfl (kn5.mem hins) cl_Hands na_Hands_pointing (hf_p _ _ _) ?_
    walk_at "go"
    refine kIxT (kn5.seqT ha.pt) (atInt hz') ?_
    walk_at "go"
    refine kIxL (kn5.seqL ha.lst) (atI_at (j := (xs.getD i 0).toNat) (by omega) (by rw [List.getElem?_map, hbj]; rfl)) ?_
    walk_at "go"
    refine kFld rfl (kn5.mem hins) cl_Hands na_Hands_m (hf_m _ _ _) ?_
    walk_at "go"
    rw [List.length_map, histH_len]
    refine kIxL (kn5.seqL rb) (atI_at (j := done.getD i 0) (by omega) (by rw [List.getElem?_map, histH_get m xs ls _ _ (done.getD i 0) hc2.2]; rfl)) ?_
    walk_at "go"
    refine ⟨d, n, LL, m, a, histH m xs ls (done.getD i 0) i, labH m xs ls (done.getD i 0) (xs.getD i 0).toNat, rfl, ho.m62, by rw [histH_len]; omega, by rw [histH_len]; omega, fun hlt => ?_, ra, kn5, fun H6 kn6 => ?_⟩
    · rw [histH_len, Nat.add_sub_cancel] at hlt ⊢
      rw [histH_last]
      exact labH_ready ho.pt ho.len ho.in_ ho.pr hlt hi
    · rw [← labH_next]
      rw [← eLL] at kn6
      walk_at "go"
      refine kAppK (xs := (histH m xs ls (done.getD i 0) i).map V.int) kn6 (i + 3) (handsLed_get hai (rowsH_get hi)) (by rw [List.length_map, histH_len]; have := ho.top; have hs := halv_short ho.m62; omega) fun H7 kn7 => ?_
      have er : (histH m xs ls (done.getD i 0) i).map V.int ++ [V.int (labH m xs ls (done.getD i 0 + 1) i)] = (histH m xs ls (done.getD i 0 + 1) i).map V.int := by
        rw [histH_step, List.map_append]
        rfl
      rw [er, handsLed_set hai (by rw [rowsH_len]; exact hal), rowsH_set hi ho.dl] at kn7
      have hdi : (done.set i (done.getD i 0 + 1)).getD i 0 = done.getD i 0 + 1 := by
        rw [List.getD_eq_getElem?_getD, List.getElem?_set, if_pos rfl, if_pos (by rw [ho.dl]; exact hi)]
        rfl
      have ha2 := handsLed_at (x := x) (dx := dx) (C := C_Hands) (m := m) (l := l) (ls := ls) (done := done.set i (done.getD i 0 + 1)) hal hp
      have ra2 := ha2.rows.at_ i a _ hai (rowsH_get hi)
      rw [hdi] at ra2
      walk_at "go"
      refine kIxL (kn7.seqL ra2) (lastInt (by rw [histH_len]; omega)) ?_
      rw [histH_len, Nat.add_sub_cancel, histH_last]
      exact gR' hc _ kn7
end

/-! ### a bound, by dice -/
abbrev s_law_bound : Stmt := topS 31
theorem sc_law_bound : FnScope ["dice", "n"] ["dice", "n"] (defScope s_law_bound) := ⟨rfl, rfl, rfl, by decide +kernel, rfl, by decide +kernel, by decide +kernel⟩
def spBoundR : Sp := fun vs H Q _ => ∃ (d : Addr) (n0 : Nat) (L : Led) (n : Int), vs = [.ref d, .int n] ∧ 2 ≤ n ∧ n ≤ 60 ∧ n0 ≤ 2 ^ 59 ∧ Kn d n0 L H ∧ ∀ (m : Int) (H' : Hp), n ≤ m → m ≤ 10 ^ 18 → Kn d (n0 + 10) L H' → Q (.int m) H'
theorem ok_law_boundR {P : Program} {w : World} {K : PySem.W.Frag} {mg : Str → Option Value} {base : Heap} {k : Nat} {f a_law_roll : Addr} {fd fd_law_roll : FuncData} (D : Df K mg "_law_bound" s_law_bound ["dice", "n"] f fd) (D_law_roll : Df K mg "_law_roll" s_law_roll ["dice", "size"] a_law_roll fd_law_roll) (M : Bl mg) : FnOk P w K mg base CX0 (k + 1 + 1) f fd ["dice", "n"] spBoundR := by
  have G_law_roll := ok_law_roll (P := P) (w := w) (base := base) (k := 0) D_law_roll M
  refine D.F.ok sc_law_bound (fun vs H Q E h => ?_) (fun cdv A outer s H vs Q E hr h => ?_)
  · obtain ⟨d, n, L, size, rfl, _⟩ := h
    rfl
  obtain ⟨d, n0, L, n, rfl, n2, n60, hn, kn, q⟩ := h
  refine ⟨_, (pss_one (ps_ret (pe_callB (c_min rfl) (by rfl) M.min (by decide +kernel) (pa_cons (pe_op op_pow pe_int pe_int) (pa_cons (pe_op op_add (pe_callB (c_max rfl) (by rfl) M.max (by decide +kernel) (pa_cons pe_int (pa_cons (pv 1) pa_nil))) (pe_call G_law_roll (hr.mono (by omega)) (by rfl) D_law_roll.g D_law_roll.F.kp D_law_roll.b .nil pass0 (pa_cons (pv 0) (pa_cons (pe_ix ix_list (pe_lst (pa_cons pe_int (pa_cons pe_int (pa_cons pe_int (pa_cons (pe_op op_pow pe_int pe_int) (pa_cons (pe_op op_pow pe_int pe_int) (pa_cons (pe_op op_mul pe_int (pe_op op_pow pe_int pe_int)) pa_nil))))))) (pe_call G_law_roll (hr.mono (by omega)) (by rfl) D_law_roll.g D_law_roll.F.kp D_law_roll.b .nil pass0 (pa_cons (pv 0) (pa_cons pe_int pa_nil))) (fun _ _ => rfl)) pa_nil)))) pa_nil))))), ?_⟩
  have h18 : (10 : Int) ^ Int.toNat 18 = 1000000000000000000 := by decide
  have h6 : (10 : Int) ^ Int.toNat 6 = 1000000 := by decide
  walk_at "go"
  rename_i so H1 kn1
  refine kRoll kn1 (by omega) (by omega) (by omega) fun c H2 c0 c1 kn2 => ?_
  obtain ⟨y, hy, hym⟩ := atMem (es := [1, 4, 60, (10 : Int) ^ Int.toNat 6, (10 : Int) ^ Int.toNat 18, 2 * (10 : Int) ^ Int.toNat 18]) c0 (by simpa using c1)
  have hy1 : 1 ≤ y ∧ y ≤ 2000000000000000000 := by
    rw [h18, h6] at hym
    simp only [List.mem_cons, List.not_mem_nil, or_false] at hym
    rcases hym with rfl | rfl | rfl | rfl | rfl | rfl <;> omega
  refine kIxL (kn2.seqL List.mem_cons_self) hy ?_
  walk_at "go"
  refine kRoll kn2.tail (by omega) (by omega) (by omega) fun r H3 r0 r1 kn3 => ?_
  walk_at "go"
  rw [h18]
  refine q _ _ ?_ ?_ (kn3.more (by omega)) <;> (repeat' split) <;> omega

/-! ### names, unlike ones below a bound, by dice -/
abbrev s_law_names : Stmt := topS 32
theorem sc_law_names : FnScope ["dice", "n", "m", "found", "k", "one"] ["dice", "n", "m"] (defScope s_law_names) := ⟨rfl, rfl, rfl, by decide +kernel, rfl, by decide +kernel, by decide +kernel⟩
theorem nodup_sub {α : Type} [DecidableEq α] : ∀ (l m : List α), l.Nodup → (∀ x ∈ l, x ∈ m) → l.length ≤ m.length
  | [], m, _, _ => Nat.zero_le _
  | x :: r, m, nd, h => by
    have hx := h x List.mem_cons_self
    have ih := nodup_sub r (m.erase x) (List.nodup_cons.mp nd).2 fun y hy => by
      have hne : y ≠ x := fun e => (List.nodup_cons.mp nd).1 (e ▸ hy)
      exact (List.mem_erase_of_ne hne).mpr (h y (List.mem_cons_of_mem _ hy))
    rw [List.length_erase_of_mem hx] at ih
    have : 0 < m.length := List.length_pos_of_mem hx
    rw [List.length_cons]
    omega
/-- a number from s on, m round, is not in a row of fewer -/
theorem probe {m s : Int} {k : Nat} {l : List Int} (m0 : 0 < m) (s0 : 0 ≤ s) (hk : l.length = k) (hm : (k : Int) < m) (h : ∀ u ≤ k, (s + (u : Int)) % m ∈ l) : False := by
  have nd : ((List.range (k + 1)).map (fun u : Nat => (s + (u : Int)) % m)).Nodup := by
    rw [List.nodup_iff_pairwise_ne, List.pairwise_map]
    refine List.Pairwise.imp_of_mem ?_ (List.nodup_range (n := k + 1))
    intro a b ha hb hne e
    have ha' := List.mem_range.mp ha
    have hb' := List.mem_range.mp hb
    have h1 : ((s + (a : Int)) - (s + (b : Int))) % m = 0 := Int.emod_eq_emod_iff_emod_sub_eq_zero.mp e
    have h2 : ((a : Int) - (b : Int)) % m = 0 := by
      have : (s + (a : Int)) - (s + (b : Int)) = (a : Int) - (b : Int) := by omega
      rw [this] at h1
      exact h1
    obtain ⟨c, hc⟩ := Int.dvd_of_emod_eq_zero h2
    have hc0 : c = 0 := by
      by_cases hcp : 0 < c
      · have : m * 1 ≤ m * c := Int.mul_le_mul_of_nonneg_left (by omega) (by omega)
        omega
      · by_cases hcn : c < 0
        · have : m * c ≤ -m := by
            have h3 : m * c ≤ m * (-1) := Int.mul_le_mul_of_nonneg_left (by omega) (by omega)
            omega
          omega
        · omega
    rw [hc0, Int.mul_zero] at hc
    exact hne (by omega)
  have := nodup_sub _ l nd fun x hx => by
    obtain ⟨u, hu, rfl⟩ := List.mem_map.mp hx
    exact h u (by have := List.mem_range.mp hu; omega)
  rw [List.length_map, List.length_range] at this
  omega
def spNames : Sp := fun vs H Q _ => ∃ (d : Addr) (n0 : Nat) (L : Led) (n : Nat) (m : Int), vs = [.ref d, .int (n : Int), .int m] ∧ n ≤ 60 ∧ (n : Int) ≤ m ∧ 0 < m ∧ m < 2 ^ 62 ∧ n0 ≤ 2 ^ 59 ∧ Kn d n0 L H ∧
  ∀ (p : Addr) (ls : List Int) (H' : Hp), ls.length = n → ls.Nodup → (∀ x ∈ ls, 0 ≤ x ∧ x < m) → Kn d (n0 + 100) ((p, .tup (ls.map V.int)) :: L) H' → Q (.ref p) H'
theorem ok_law_namesR {P : Program} {w : World} {K : PySem.W.Frag} {mg : Str → Option Value} {base : Heap} {k : Nat} {f a_law_roll : Addr} {fd fd_law_roll : FuncData} (D : Df K mg "_law_names" s_law_names ["dice", "n", "m"] f fd) (D_law_roll : Df K mg "_law_roll" s_law_roll ["dice", "size"] a_law_roll fd_law_roll) (M : Bl mg) : FnOk P w K mg base CX0 (k + 1 + 1) f fd ["dice", "n", "m"] spNames := by
  have G_law_roll := ok_law_roll (P := P) (w := w) (base := base) (k := 0) D_law_roll M
  refine D.F.ok sc_law_names (fun vs H Q E h => ?_) (fun cdv A outer s H vs Q E hr h => ?_)
  · obtain ⟨d, n0, L, n, m, rfl, _⟩ := h
    rfl
  obtain ⟨d, n0, L, n, m, rfl, n60, nm, m0, m1, hn, kn, q⟩ := h
  refine ⟨_, (pss_cons (ps_set (i := 3) sc_law_names.nd rfl (Or.inl rfl) (pe_lst pa_nil))
   (pss_cons (ps_for PassesOwn.never rfl (pi_range1 (by rfl) M.range (pa_cons (pv 1) pa_nil)) (pg_name (i := 4) sc_law_names.nd rfl (Or.inl rfl))
    (pss_cons (ps_set (i := 5) sc_law_names.nd rfl (Or.inl rfl) (pe_call G_law_roll (hr.mono (by omega)) (by rfl) D_law_roll.g D_law_roll.F.kp D_law_roll.b .nil pass0 (pa_cons (pv 0) (pa_cons (pv 2) pa_nil))))
    (pss_cons (ps_while PassesOwn.never (pt_cmpR op_in_seq (pv 5) (pv 3) (by rfl))
     (pss_one (ps_set (i := 5) sc_law_names.nd rfl (Or.inl rfl) (pe_op op_mod (pe_op op_add (pv 5) pe_int) (pv 2)))))
    (pss_one (ps_expr (pe_bm PySem.F.plainAttrs_list PySem.F.slot_list_append PySem.F.type_list_append mt_append (pv 3) (pa_cons (pv 5) pa_nil)))))))
   (pss_one (ps_ret (pe_callTy c_tuple (by rfl) M.tuple (by decide +kernel) (pa_cons (pv 3) pa_nil)))))), ?_⟩
  walk_at "go"
  rename_i fo H1 kn1
  refine kSeq (kRng1 (n := (n : Int)) (by omega) (fun i σ' H' => ∃ (fs : List Int) (x4 x5 : Option V), σ' = [some (.ref d), some (.int (n : Int)), some (.int m), some (.ref fo), x4, x5] ∧ fs.length = i ∧ fs.Nodup ∧ (∀ x ∈ fs, 0 ≤ x ∧ x < m) ∧ Kn d (n0 + i) ((fo, .lst (fs.map V.int)) :: L) H')
    ⟨[], _, _, rfl, rfl, List.nodup_nil, (fun x h => by cases h), kn1⟩ (fun i σ' H' hi hW => ?_) (fun σ' H' hW => ?_) fun R hR => by walk_at "go"; exact hR)
  · obtain ⟨fs, x4, x5, rfl, hl, hnd, hb, kn2⟩ := hW
    walk_at "go"
    refine kRoll kn2 (by omega) (by omega) (by omega) fun s0 H2 s00 s01 kn3 => ?_
    walk_at "go"
    refine kSeq (kWhile (fun u σ' H' => ∃ (t : Nat) (y : Int), u + t = i ∧ σ' = [some (.ref d), some (.int (n : Int)), some (.int m), some (.ref fo), some (.int (i : Int)), some (.int y)] ∧ (0 ≤ y ∧ y < m) ∧ (y = (s0 + (t : Int)) % m ∧ ∀ u < t, (s0 + (u : Int)) % m ∈ fs) ∧ Kn d (n0 + i + 1) ((fo, .lst (fs.map V.int)) :: L) H') i
      ⟨0, s0, rfl, rfl, ⟨s00, s01⟩, ⟨by rw [Int.natCast_zero, Int.add_zero, Int.emod_eq_of_lt s00 s01], fun u hu => absurd hu (Nat.not_lt_zero _)⟩, kn3⟩ (fun u σ' H' hW => ?_) (fun σ H Q Q' hm' hh => ?_))
    · obtain ⟨t, y, ht, rfl, hy, hor, kn4⟩ := hW
      walk_at "go"
      refine kInL (kn4.seqL List.mem_cons_self) ?_
      refine kBl ?_
      by_cases hm : y ∈ fs
      · rw [decide_eq_true hm]
        refine iteT ?_
        have hti : t < i := by
          by_cases e : t = i
          · refine absurd (probe (k := i) m0 s00 hl (by omega) (fun u hu => ?_)) id
            by_cases h : u = t
            · rw [h, ← hor.1]
              exact hm
            · exact hor.2 u (by omega)
          · omega
        walk_at "go"
        refine ⟨u - 1, by omega, t + 1, _, by omega, rfl, ⟨Int.emod_nonneg _ (by omega), Int.emod_lt_of_pos _ m0⟩, ⟨?_, fun v hv => ?_⟩, kn4⟩
        · rw [hor.1, Int.emod_add_emod]
          congr 1
          push_cast
          omega
        · rcases Nat.lt_succ_iff_lt_or_eq.mp hv with h | h
          · exact hor.2 v h
          · rw [h, ← hor.1]
            exact hm
      · rw [decide_eq_false hm]
        refine iteF ?_
        walk_at "go"
        rename_i H5 kn5
        refine ⟨fs ++ [y], _, _, rfl, by rw [List.length_append, hl]; rfl, ?_, fun x hx => ?_, ?_⟩
        · rw [List.nodup_append]
          refine ⟨hnd, (by simp), fun a ha b hb' e => ?_⟩
          rw [List.mem_singleton.mp hb'] at e
          exact hm (e ▸ ha)
        · rcases List.mem_append.mp hx with h | h
          · exact hb x h
          · rw [List.mem_singleton.mp h]
            exact hy
        · rw [List.map_append]
          exact kn5.more (by omega)
    · obtain ⟨v1, hv1, v2, hv2, p1, xs1, e1, e2, e3, e4, kk, ek, hq⟩ := hh
      exact ⟨v1, hv1, v2, hv2, p1, xs1, e1, e2, e3, e4, kk, ek, hm' _ _ hq⟩
  · obtain ⟨fs, x4, x5, rfl, hl, hnd, hb, kn2⟩ := hW
    walk_at "go"
    rename_i p H5 kn5
    exact q p fs H5 (by omega) hnd hb ((kn5.sub (((List.Sublist.refl L).cons _).cons₂ _)).more (by omega))

/-! ### all goes till all are done -/
theorem vN_map (l : List Nat) : l.map vN = (l.map (fun n : Nat => (n : Int))).map V.int := by
  rw [List.map_map]
  rfl
theorem exMin (f : Nat → Nat) : ∀ n, 0 < n → ∃ i, i < n ∧ ∀ j, j < n → f i ≤ f j
  | 0, h => absurd h (Nat.lt_irrefl _)
  | 1, _ => ⟨0, by omega, fun j hj => by rw [show j = 0 by omega]; exact Nat.le_refl _⟩
  | n + 2, _ => by
    obtain ⟨i, hi, hm⟩ := exMin f (n + 1) (by omega)
    by_cases h : f i ≤ f (n + 1)
    · refine ⟨i, by omega, fun j hj => ?_⟩
      by_cases e : j = n + 1
      · rw [e]; exact h
      · exact hm j (by omega)
    · refine ⟨n + 1, by omega, fun j hj => ?_⟩
      by_cases e : j = n + 1
      · rw [e]; exact Nat.le_refl _
      · have := hm j (by omega)
        omega
theorem sum_ge {R : Nat} : ∀ l : List Nat, (∀ r ∈ l, R ≤ r) → l.length * R ≤ l.sum
  | [], _ => by simp
  | a :: l, h => by
    have ih := sum_ge l fun r hr => h r (List.mem_cons_of_mem _ hr)
    have := h a List.mem_cons_self
    rw [List.length_cons, List.sum_cons, Nat.add_mul, Nat.one_mul]
    omega
theorem sum_full {R : Nat} : ∀ l : List Nat, (∀ r ∈ l, r ≤ R) → l.length * R ≤ l.sum → l = List.replicate l.length R
  | [], _, _ => rfl
  | a :: l, h, hs => by
    have ha := h a List.mem_cons_self
    have hl : l.sum ≤ l.length * R := by
      clear hs
      induction l with
      | nil => simp
      | cons b r ih =>
        have hb := h b (List.mem_cons_of_mem _ List.mem_cons_self)
        have := ih fun x hx => h x (by rcases List.mem_cons.mp hx with rfl | hx; exact List.mem_cons_self; exact List.mem_cons_of_mem _ (List.mem_cons_of_mem _ hx))
        rw [List.length_cons, List.sum_cons, Nat.add_mul, Nat.one_mul]
        omega
    rw [List.length_cons, List.sum_cons, Nat.add_mul, Nat.one_mul] at hs
    have e : a = R := by omega
    have ih := sum_full l (fun r hr => h r (List.mem_cons_of_mem _ hr)) (by omega)
    rw [List.length_cons, List.replicate_succ, ← ih, e]
theorem sum_set : ∀ (l : List Nat) (i : Nat), i < l.length → (l.set i (l.getD i 0 + 1)).sum = l.sum + 1
  | [], i, h => absurd h (Nat.not_lt_zero _)
  | a :: l, 0, _ => by
    show (a + 1) + l.sum = a + l.sum + 1
    omega
  | a :: l, i + 1, h => by
    have := sum_set l i (by simpa using h)
    show a + (l.set i (l.getD i 0 + 1)).sum = a + l.sum + 1
    omega
theorem getD_mem {l : List Nat} {i : Nat} (h : i < l.length) : l.getD i 0 ∈ l := by
  rw [List.getD_eq_getElem?_getD, List.getElem?_eq_getElem h]
  exact List.getElem_mem h
theorem can_some {xs ls : List Int} {m : Nat} {done : List Nat} (ho : HOk xs ls m done) (h : done.sum < xs.length * ((halv m).length + 5)) : canL xs m done ≠ [] := by
  have h2 := ho.pt.two
  obtain ⟨i, hi, hm⟩ := exMin (fun i => done.getD i 0) xs.length (by omega)
  have hlt : done.getD i 0 < (halv m).length + 5 := by
    by_cases hc : done.getD i 0 < (halv m).length + 5
    · exact hc
    · have := sum_ge (R := (halv m).length + 5) done fun r hr => by
        obtain ⟨j, hj, e⟩ := List.getElem_of_mem hr
        have hmj := hm j (by rw [← ho.dl]; exact hj)
        have : done.getD j 0 = r := by rw [List.getD_eq_getElem?_getD, List.getElem?_eq_getElem hj, e]; rfl
        have hmj' : done.getD i 0 ≤ done.getD j 0 := hmj
        omega
      rw [ho.dl] at this
      omega
  have hcan : canB xs m done i = true := by
    unfold canB
    exact decide_eq_true ⟨hlt, hm _ (goalLt ho.pt hi)⟩
  have hmem : i ∈ canL xs m done := List.mem_filter.mpr ⟨List.mem_range.mpr hi, hcan⟩
  intro e
  rw [e] at hmem
  cases hmem
theorem can_none {xs : List Int} {m : Nat} : canL xs m (List.replicate xs.length ((halv m).length + 5)) = [] := by
  unfold canL
  rw [List.filter_eq_nil_iff]
  intro i hi
  have hi' := List.mem_range.mp hi
  unfold canB
  have e : (List.replicate xs.length ((halv m).length + 5)).getD i 0 = (halv m).length + 5 := by
    rw [List.getD_eq_getElem?_getD, List.getElem?_replicate, if_pos hi']
    rfl
  rw [e]
  simp
theorem canL_mem {xs : List Int} {m : Nat} {done : List Nat} {i : Nat} (h : i ∈ canL xs m done) : i < xs.length ∧ canB xs m done i = true := by
  have := List.mem_filter.mp h
  exact ⟨List.mem_range.mp this.1, this.2⟩
/-! one way round -/
def cyc (n f i : Nat) : Nat := if f ≤ i then i - f else i + n - f
def doneR (n f k j : Nat) : List Nat := (List.range n).map (fun i => if cyc n f i < j then k + 1 else k)
def wrap (n a : Nat) : Nat := if a < n then a else a - n
theorem doneR_len (n f k j : Nat) : (doneR n f k j).length = n := by
  unfold doneR
  rw [List.length_map, List.length_range]
theorem doneR_get {n f k j i : Nat} (h : i < n) : (doneR n f k j).getD i 0 = if cyc n f i < j then k + 1 else k := by
  unfold doneR
  rw [List.getD_eq_getElem?_getD, List.getElem?_map, List.getElem?_range h]
  rfl
theorem doneR_zero (n f k : Nat) : doneR n f k 0 = List.replicate n k := by
  unfold doneR
  rw [List.eq_replicate_iff]
  refine ⟨by rw [List.length_map, List.length_range], fun b hb => ?_⟩
  obtain ⟨i, _, rfl⟩ := List.mem_map.mp hb
  rw [if_neg (Nat.not_lt_zero _)]
theorem doneR_all {n f k : Nat} (hf : f < n) : doneR n f k n = List.replicate n (k + 1) := by
  unfold doneR
  rw [List.eq_replicate_iff]
  refine ⟨by rw [List.length_map, List.length_range], fun b hb => ?_⟩
  obtain ⟨i, hi, rfl⟩ := List.mem_map.mp hb
  have hi' := List.mem_range.mp hi
  rw [if_pos]
  unfold cyc
  split <;> omega
theorem wrap_lt {n f j : Nat} (hf : f < n) (hj : j < n) : wrap n (f + j) < n := by
  unfold wrap
  split <;> omega
theorem cyc_wrap {n f j : Nat} (hf : f < n) (hj : j < n) : cyc n f (wrap n (f + j)) = j := by
  unfold cyc wrap
  split <;> split <;> omega
theorem cyc_inj {n f j i : Nat} (hf : f < n) (hj : j < n) (hi : i < n) (h : cyc n f i = j) : i = wrap n (f + j) := by
  unfold cyc at h
  unfold wrap
  split at h <;> split <;> omega
theorem doneR_next {n f k j : Nat} (hf : f < n) (hj : j < n) : (doneR n f k j).set (wrap n (f + j)) (k + 1) = doneR n f k (j + 1) := by
  apply List.ext_getElem?
  intro i
  have hw := wrap_lt hf hj
  by_cases hi : i < n
  · have e : (doneR n f k (j + 1))[i]? = some ((doneR n f k (j + 1)).getD i 0) := by
      rw [List.getD_eq_getElem?_getD, List.getElem?_eq_getElem (by rw [doneR_len]; exact hi)]
      rfl
    rw [e, doneR_get hi, List.getElem?_set]
    by_cases hh : wrap n (f + j) = i
    · rw [if_pos hh, if_pos (by rw [doneR_len]; exact hw), ← hh, cyc_wrap hf hj, if_pos (Nat.lt_succ_self _)]
    · have e2 : (doneR n f k j)[i]? = some ((doneR n f k j).getD i 0) := by
        rw [List.getD_eq_getElem?_getD, List.getElem?_eq_getElem (by rw [doneR_len]; exact hi)]
        rfl
      have hne : cyc n f i ≠ j := fun e => hh (cyc_inj hf hj hi e).symm
      rw [if_neg hh, e2, doneR_get hi]
      congr 1
      by_cases h : cyc n f i < j
      · rw [if_pos h, if_pos (by omega)]
      · rw [if_neg h, if_neg (by omega)]
  · rw [List.getElem?_eq_none (by rw [List.length_set, doneR_len]; omega), List.getElem?_eq_none (by rw [doneR_len]; omega)]
theorem wrapMod {n a : Nat} (h : a < 2 * n) : (a : Int) % (n : Int) = ((wrap n a : Nat) : Int) := by
  have : a % n = wrap n a := by
    unfold wrap
    split
    · exact Nat.mod_eq_of_lt (by assumption)
    · rw [Nat.mod_eq_sub_mod (by omega), Nat.mod_eq_of_lt (by omega)]
  rw [← this]
  norm_cast

abbrev s_law_short : Stmt := topS 35
theorem sc_law_short : FnScope ["one", "other", "place"] ["one", "other"] (defScope s_law_short) := ⟨rfl, rfl, rfl, by decide +kernel, rfl, by decide +kernel, by decide +kernel⟩
theorem ok_law_short {P : Program} {w : World} {K : PySem.W.Frag} {mg : Str → Option Value} {base : Heap} {f : Addr} {fd : FuncData} {k : Nat} (D : Df K mg "_law_short" s_law_short ["one", "other"] f fd) (M : Bl mg) : FnOk P w K mg base CX0 (k + 1) f fd ["one", "other"] spShorter := by
  refine D.F.ok sc_law_short (fun vs H Q E h => ?_) (fun cdv A outer s H vs Q E hr h => ?_)
  · obtain ⟨a, b, rfl, _⟩ := h
    rfl
  obtain ⟨a, b, rfl, ha, hb, hne, q⟩ := h
  refine ⟨_, (pss_cons (ps_set (i := 2) sc_law_short.nd rfl (Or.inl rfl) pe_int)
   (pss_cons (ps_while PassesOwn.never (pt_cmpR op_eq (pe_op op_mod (pv 0) pe_int) (pe_op op_mod (pv 1) pe_int) (nomark _))
    (pss_cons (ps_set (i := 0) sc_law_short.nd rfl (Or.inl rfl) (pe_op op_fdivW (pv 0) pe_int))
    (pss_cons (ps_set (i := 1) sc_law_short.nd rfl (Or.inl rfl) (pe_op op_fdivW (pv 1) pe_int))
    (pss_one (ps_set (i := 2) sc_law_short.nd rfl (Or.inl rfl) (pe_op op_add (pv 2) pe_int))))))
   (pss_one (ps_ret (pe_op op_add (pe_op op_mul pe_int (pv 2)) (pe_op op_mod (pv 0) pe_int)))))), ?_⟩
  have hbd := short_bound 62 a b ha hb
  walk_at "go"
  refine kSeq (kWhile (fun m σ' H' => ∃ (x y p : Nat), m = x + y ∧ σ' = [some (.int (x : Int)), some (.int (y : Int)), some (.int (p : Int))] ∧ x < 2 ^ 62 ∧ y < 2 ^ 62 ∧ x ≠ y ∧ 2 * p + shortN x y = shortN a b ∧ H' = H) (a + b) ⟨a, b, 0, rfl, rfl, ha, hb, hne, by omega, rfl⟩ (fun m σ' H' hW => ?_) (fun σ H Q Q' hm hh => ?_))
  · obtain ⟨x, y, p, hm, rfl, hx, hy, hxy, hs, rfl⟩ := hW
    walk_at "go"
    refine iteI (fun he => ?_) (fun he => ?_)
    · have e2 : x % 2 = y % 2 := by omega
      walk_at "go"
      refine ⟨x / 2 + y / 2, by omega, x / 2, y / 2, p + 1, rfl, ?_, by omega, by omega, by omega, ?_, rfl⟩
      · have e3 : ((x : Int) / 2) = ((x / 2 : Nat) : Int) := by omega
        have e4 : ((y : Int) / 2) = ((y / 2 : Nat) : Int) := by omega
        simp only [List.set_cons_zero, List.set_cons_succ]
        rw [e3, e4]
        rfl
      · rw [short_like hxy e2] at hs
        omega
    · have e2 : ¬ x % 2 = y % 2 := by omega
      rw [short_unlike e2] at hs
      walk_at "go"
      have e3 : 2 * (p : Int) + (x : Int) % 2 = ((shortN a b : Nat) : Int) := by omega
      rw [e3]
      exact q
  · obtain ⟨v1, hv1, i1, j1, a1, a2, a3, v2, hv2, i2, j2, b1, b2, b3, sc, k, ek, hq⟩ := hh
    exact ⟨v1, hv1, i1, j1, a1, a2, a3, v2, hv2, i2, j2, b1, b2, b3, sc, k, ek, hm _ _ hq⟩

/-! ### a whole number is one -/
abbrev s_law_whole : Stmt := topS 30
theorem sc_law_whole : FnScope ["thing"] ["thing"] (defScope s_law_whole) := ⟨rfl, rfl, rfl, by decide +kernel, rfl, by decide +kernel, by decide +kernel⟩
def spWhole : Sp := fun vs H Q _ => ∃ z : Int, vs = [.int z] ∧ Q (.bl true) H
theorem ok_law_whole {P : Program} {w : World} {K : PySem.W.Frag} {mg : Str → Option Value} {base : Heap} {f : Addr} {fd : FuncData} {k : Nat} (D : Df K mg "_law_whole" s_law_whole ["thing"] f fd) (M : Bl mg) : FnOk P w K mg base CX0 (k + 1) f fd ["thing"] spWhole := by
  refine D.F.ok sc_law_whole (fun vs H Q E h => ?_) (fun cdv A outer s H vs Q E hr h => ?_)
  · obtain ⟨z, rfl, _⟩ := h
    rfl
  obtain ⟨z, rfl, q⟩ := h
  refine ⟨_, (pss_one (ps_ret (pe_and (pe_callB call_isi (by rfl) M.isinstance (by decide +kernel) (pa_cons (pv 0) (pa_cons (pe_bltn (v := .ty "int") (u := .type "int") (by rfl) M.int (by decide +kernel) rfl) pa_nil))) (pe_one (pe_not (pe_callB call_isi (by rfl) M.isinstance (by decide +kernel) (pa_cons (pv 0) (pa_cons (pe_bltn (v := .ty "bool") (u := .type "bool") (by rfl) M.bool (by decide +kernel) rfl) pa_nil)))))))), ?_⟩
  walk_at "go"
  refine iteT ?_
  walk_at "go"
  exact q

theorem kForMade {σ : L2.St} {H : Hp} {K : PySem.W.Frag} {tb : TS} {j : Nat} {te : TE} {nx bk ct : L2.St → Hp → Prop} {rt : VK} (G : Addr → List V → Hp → Prop) (src : ∀ R : VK, (∀ p xs H', G p xs H' → R (.ref p) H') → te σ H R)
    (body : ∀ p xs H1, G p xs H1 → SqL K H1 p xs ∧ ∃ Pv : Nat → L2.St → Hp → Prop, Pv 0 σ H1 ∧ (∀ i σ' H', Pv i σ' H' → SqL K H' p xs) ∧ (∀ i x σ' H', xs[i]? = some x → Pv i σ' H' → tb (Ends.mk (Pv (i + 1)) rt nx (Pv (i + 1))) (σ'.set j (some x)) H') ∧ ∀ σ' H', Pv xs.length σ' H' → nx σ' H') :
    tFor (iList K te) (gName j) tb (Ends.mk nx rt bk ct) σ H := by
  refine src _ fun p xs H1 hG => ?_
  obtain ⟨hq, Pv, h0, hl, hs, hd⟩ := body p xs H1 hG
  exact ⟨p, rfl, ⟨xs, hq⟩, for_list (xs := xs) Pv h0 (fun i σ' H' _ p => hl i σ' H' p) (fun i x σ' H' hx p => hs i x σ' H' hx p) hd⟩
theorem atLastR {as : List Addr} {k : Nat} {a : Addr} (hl : as.length = k + 1) (ha : as[k]? = some a) : atI (as.map V.ref) (-1) = some (V.ref a) := by
  have e : as.map V.ref = (as.take k).map V.ref ++ [V.ref a] := by
    have e2 : as = as.take k ++ [a] := by
      have e3 : as.take (k + 1) = as.take k ++ [a] := by rw [List.take_add_one, ha]; rfl
      rw [List.take_of_length_le (by omega)] at e3
      exact e3
    conv => lhs; rw [e2, List.map_append]
    rfl
  rw [e]
  exact atI_last _ _

/-! ### even rounds, by the law -/
abbrev s_law_steps : Stmt := topS 34
theorem sc_law_steps : FnScope ["m", "found"] ["m"] (defScope s_law_steps) := ⟨rfl, rfl, rfl, by decide +kernel, rfl, by decide +kernel, by decide +kernel⟩
abbrev s_law_even : Stmt := topS 36
theorem sc_law_even : FnScope ["pointing", "names", "m", "found", "turn", "last", "k", "after", "hue", "over", "made", "one"] ["pointing", "names", "m"] (defScope s_law_even) := ⟨rfl, rfl, rfl, by decide +kernel, rfl, by decide +kernel, by decide +kernel⟩
def spSteps : Sp := fun vs H Q _ => ∃ m : Nat, vs = [.int (m : Int)] ∧ m < 2 ^ 62 ∧ Q (.int (((halv m).length - 1 : Nat) : Int)) H
def evRow (m : Nat) (xs ls : List Int) (r : Nat) : List Int := (List.range xs.length).map (fun i => labH m xs ls r i)
theorem evRow_len (m : Nat) (xs ls : List Int) (r : Nat) : (evRow m xs ls r).length = xs.length := by
  unfold evRow
  rw [List.length_map, List.length_range]
theorem evRow_get {m : Nat} {xs ls : List Int} {r i : Nat} (h : i < xs.length) : (evRow m xs ls r)[i]? = some (labH m xs ls r i) := by
  unfold evRow
  rw [List.getElem?_map, List.getElem?_range h]
  rfl
theorem evRow_zero {m : Nat} {xs ls : List Int} (h : ls.length = xs.length) : evRow m xs ls 0 = ls := by
  apply List.ext_getElem?
  intro i
  by_cases hi : i < xs.length
  · rw [evRow_get hi, List.getElem?_eq_getElem (by omega)]
    show some (ls.getD i 0) = _
    rw [getD_of (List.getElem?_eq_getElem (by omega))]
  · rw [List.getElem?_eq_none (by rw [evRow_len]; omega), List.getElem?_eq_none (by omega)]
/-- a pointing and proper small labels -/
structure POk (xs ls : List Int) (m : Nat) : Prop where
  pt : PtOk 60 xs
  len : ls.length = xs.length
  in_ : LbIn ls
  pr : properB xs ls = true
  m62 : m < 2 ^ 62
def spEven : Sp := fun vs H Q _ => ∃ (d : Addr) (n : Nat) (L : Led) (p q : Addr) (xs ls : List Int) (m : Nat), vs = [.ref p, .ref q, .int (m : Int)] ∧ POk xs ls m ∧ (p, .tup (xs.map V.int)) ∈ L ∧ (q, .tup (ls.map V.int)) ∈ L ∧ Kn d n L H ∧
  ∀ (l : Addr) (es : List Addr) (X : Led) H', ListsAt X es ((List.range ((halv m).length + 6)).map (evRow m xs ls)) → Kn d n ((l, .lst (es.map V.ref)) :: (X ++ L)) H' → Q (.ref l) H'
section
variable {P : Program} {w : World} {K : PySem.W.Frag} {mg : Str → Option Value} {base : Heap}
theorem ok_law_steps {k : Nat} {f a_law_bits : Addr} {fd fd_law_bits : FuncData} (D : Df K mg "_law_steps" s_law_steps ["m"] f fd) (D_law_bits : Df K mg "_law_bits" s_law_bits ["number"] a_law_bits fd_law_bits) (M : Bl mg) : FnOk P w K mg base CX0 (k + 1 + 1) f fd ["m"] spSteps := by
  have G_law_bits := ok_law_bits (P := P) (w := w) (base := base) (k := 0) D_law_bits M
  refine D.F.ok sc_law_steps (fun vs H Q E h => ?_) (fun cdv A outer s H vs Q E hr h => ?_)
  · obtain ⟨m, rfl, _⟩ := h
    rfl
  obtain ⟨m, rfl, hm, q⟩ := h
  refine ⟨_, (pss_cons (ps_set (i := 1) sc_law_steps.nd rfl (Or.inl rfl) pe_int)
   (pss_cons (ps_while PassesOwn.never (pt_cmpR op_gt (pv 0) pe_int (nomark _))
    (pss_cons (ps_set (i := 0) sc_law_steps.nd rfl (Or.inl rfl) (pe_op op_mul pe_int (pe_call G_law_bits (hr.mono (by omega)) (by rfl) D_law_bits.g D_law_bits.F.kp D_law_bits.b .nil pass0 (pa_cons (pe_op op_sub (pv 0) pe_int) pa_nil))))
    (pss_one (ps_set (i := 1) sc_law_steps.nd rfl (Or.inl rfl) (pe_op op_add (pv 1) pe_int)))))
   (pss_one (ps_ret (pv 1))))), ?_⟩
  walk_at "go"
  refine kSeq (kWhile (fun u σ' H' => ∃ (a b : Nat), u = a ∧ σ' = [some (.int (a : Int)), some (.int (b : Int))] ∧ a < 2 ^ 62 ∧ b + (halv a).length = (halv m).length ∧ H' = H) m ⟨m, 0, rfl, rfl, hm, by omega, rfl⟩ (fun u σ' H' hW => ?_) (fun σ H Q Q' hm hh => ?_))
  · obtain ⟨a, b, rfl, rfl, ha, hb, rfl⟩ := hW
    walk_at "go"
    refine iteD (fun h6 => ?_) (fun h6 => ?_)
    · have h6' : 6 < u := by omega
      have hbl := bits_less h6'
      rw [halv_big h6', List.length_cons] at hb
      walk_at "go"
      refine ⟨u - 1, by congr 2; omega, by omega, ?_⟩
      walk_at "go"
      refine ⟨2 * bitsN (u - 1), hbl, 2 * bitsN (u - 1), b + 1, rfl, ?_, by omega, by omega, rfl⟩
      simp only [List.set_cons_zero, List.set_cons_succ]
      push_cast
      rfl
    · have h6' : ¬ 6 < u := by omega
      rw [halv_end h6', List.length_singleton] at hb
      walk_at "go"
      have e : b = (halv m).length - 1 := by omega
      rw [e]
      exact q
  · obtain ⟨v, hv, i, j, e1, e2, k, ek, hq⟩ := hh
    exact ⟨v, hv, i, j, e1, e2, k, ek, hm _ _ hq⟩
theorem ok_law_even {k : Nat} {f a_law_bits a_law_steps a_law_short : Addr} {fd fd_law_bits fd_law_steps fd_law_short : FuncData} (D : Df K mg "_law_even" s_law_even ["pointing", "names", "m"] f fd) (D_law_bits : Df K mg "_law_bits" s_law_bits ["number"] a_law_bits fd_law_bits) (D_law_steps : Df K mg "_law_steps" s_law_steps ["m"] a_law_steps fd_law_steps) (D_law_short : Df K mg "_law_short" s_law_short ["one", "other"] a_law_short fd_law_short) (M : Bl mg) : FnOk P w K mg base CX0 (k + 1 + 1 + 1) f fd ["pointing", "names", "m"] spEven := by
  have G_law_steps := ok_law_steps (P := P) (w := w) (base := base) (k := 0) D_law_steps D_law_bits M
  have G_law_short := ok_law_short (P := P) (w := w) (base := base) (k := 0) D_law_short M
  refine D.F.ok sc_law_even (fun vs H Q E h => ?_) (fun cdv A outer s H vs Q E hr h => ?_)
  · obtain ⟨d, n, L, p, q, xs, ls, m, rfl, _⟩ := h
    rfl
  obtain ⟨d, n, L, p, q, xs, ls, m, rfl, ho, hpL, hqL, kn, g⟩ := h
  refine ⟨_, (pss_cons (ps_set (i := 3) sc_law_even.nd rfl (Or.inl rfl) (pe_lst (pa_cons (pe_callTy c_list (by rfl) M.list (by decide +kernel) (pa_cons (pv 1) pa_nil)) pa_nil)))
   (pss_cons (ps_for PassesOwn.never rfl (pi_range1 (by rfl) M.range (pa_cons (pe_call G_law_steps (hr.mono (by omega)) (by rfl) D_law_steps.g D_law_steps.F.kp D_law_steps.b .nil pass0 (pa_cons (pv 2) pa_nil)) pa_nil)) (pg_name (i := 4) sc_law_even.nd rfl (Or.inl rfl))
    (pss_cons (ps_set (i := 5) sc_law_even.nd rfl (Or.inr rfl) (pe_ix ix_list (pv 3) (pe_un un_neg pe_int) (fun _ _ => rfl)))
    (pss_one (ps_expr (pe_bm PySem.F.plainAttrs_list PySem.F.slot_list_append PySem.F.type_list_append mt_append (pv 3) (pa_cons (pe_lc (own := [("k", 6), ("after", 7)]) (g := gTup K 2 (gCons (gName 6) (gCons (gName 7) gNil))) (by rfl) sc_law_even.nd (pi_enumU (by rfl) M.enumerate (pa_cons (pv 0) pa_nil)) (blkOk_by (own := [("k", 6), ("after", 7)]) (N := ["pointing", "names", "m", "found", "turn", "last", "k", "after", "hue", "over", "made", "one"]) (sc := defScope s_law_even) (by decide +kernel)) (fun _ _ _ _ _ => (pg_tup rfl (pgs_cons (pg_name (i := 6) sc_law_even.nd rfl (Or.inl rfl)) (pgs_cons (pg_name (i := 7) sc_law_even.nd rfl (Or.inl rfl)) pgs_nil)))) (fun _ _ _ _ _ => pts_nil) (fun _ _ _ _ _ => (pe_call G_law_short (hr.mono (by omega)) (by rfl) D_law_short.g D_law_short.F.kp D_law_short.b .nil pass0 (pa_cons (pe_ix (ixL (K := K) rfl) (pv 5) (pv 6) (fun _ _ => rfl)) (pa_cons (pe_ix (ixL (K := K) rfl) (pv 5) (pv 7) (fun _ _ => rfl)) pa_nil))))) pa_nil))))))
   (pss_cons (ps_for PassesOwn.never rfl (pi_list (pe_lst (pa_cons pe_int (pa_cons pe_int (pa_cons pe_int pa_nil))))) (pg_name (i := 8) sc_law_even.nd rfl (Or.inl rfl))
    (pss_cons (ps_set (i := 5) sc_law_even.nd rfl (Or.inr rfl) (pe_ix ix_list (pv 3) (pe_un un_neg pe_int) (fun _ _ => rfl)))
    (pss_cons (ps_set (i := 9) sc_law_even.nd rfl (Or.inr rfl) (pe_lc (own := [("after", 7)]) (g := gName 7) (by rfl) sc_law_even.nd (pi_tup (pv 0)) (blkOk_by (own := [("after", 7)]) (N := ["pointing", "names", "m", "found", "turn", "last", "k", "after", "hue", "over", "made", "one"]) (sc := defScope s_law_even) (by decide +kernel)) (fun _ _ _ _ _ => (pg_name (i := 7) sc_law_even.nd rfl (Or.inl rfl))) (fun _ _ _ _ _ => pts_nil) (fun _ _ _ _ _ => (pe_ix (ixL (K := K) rfl) (pv 5) (pv 7) (fun _ _ => rfl)))))
    (pss_cons (ps_expr (pe_bm PySem.F.plainAttrs_list PySem.F.slot_list_append PySem.F.type_list_append mt_append (pv 3) (pa_cons (pv 9) pa_nil)))
    (pss_cons (ps_set (i := 10) sc_law_even.nd rfl (Or.inl rfl) (pe_callTy c_list (by rfl) M.list (by decide +kernel) (pa_cons (pv 9) pa_nil)))
    (pss_cons (ps_for PassesOwn.never rfl (pi_enumU (by rfl) M.enumerate (pa_cons (pv 0) pa_nil)) (pg_tup rfl (pgs_cons (pg_name (i := 6) sc_law_even.nd rfl (Or.inr rfl)) (pgs_cons (pg_name (i := 7) sc_law_even.nd rfl (Or.inr rfl)) pgs_nil)))
     (pss_one (ps_if (pt_cmpR op_eq (pe_ix ix_list (pv 9) (pv 6) (fun _ _ => rfl)) (pv 8) (nomark _)) (pss_one (ps_asg (pe_ix ix_list (pe_lc (own := [("one", 11)]) (g := gName 11) (by rfl) sc_law_even.nd (pi_range1 (by rfl) M.range (pa_cons pe_int pa_nil)) (blkOk_by (own := [("one", 11)]) (N := ["pointing", "names", "m", "found", "turn", "last", "k", "after", "hue", "over", "made", "one"]) (sc := defScope s_law_even) (by decide +kernel)) (fun _ _ _ _ _ => (pg_name (i := 11) sc_law_even.nd rfl (Or.inl rfl))) (fun _ _ _ _ _ => (pts_one (PW.pt (pw_and (pt_cmpR op_ne (pv 11) (pe_ix (ixL (K := K) rfl) (pv 9) (pv 7) (fun _ _ => rfl)) (nomark _)) (pw_and1 (pt_cmpR op_ne (pv 11) (pe_ix (ixL (K := K) rfl) (pv 5) (pv 6) (fun _ _ => rfl)) (nomark _))))))) (fun _ _ _ _ _ => (pv 11))) pe_int (fun _ _ => rfl)) (pg_sub (pv 10) (pv 6) set_list))) pss_nil)))
    (pss_one (ps_expr (pe_bm PySem.F.plainAttrs_list PySem.F.slot_list_append PySem.F.type_list_append mt_append (pv 3) (pa_cons (pv 10) pa_nil))))))))))
   (pss_one (ps_ret (pv 3)))))), ?_⟩
  have h60 := ho.pt.most
  have h1 := halv_pos m
  have hs := halv_short ho.m62
  walk_at "go"
  refine kListT3 (kn.seqT hqL) kn fun fl H1 kn1 => ?_
  walk_at "go"
  rename_i fo H2 kn2
  refine kSeq (kRngD (fun z H' => z = (((halv m).length - 1 : Nat) : Int) ∧ H' = H2) (fun R hR => ?_) (fun z H5 ⟨hz, hH⟩ => ⟨by omega, fun t σ' H' => ∃ (x4 x5 x6 x7 x8 x9 x10 x11 : Option V) (es : List Addr) (X : Led), σ' = [some (.ref p), some (.ref q), some (.int (m : Int)), some (.ref fo), x4, x5, x6, x7, x8, x9, x10, x11] ∧ ListsAt X es ((List.range (t + 1)).map (evRow m xs ls)) ∧ Kn d n ((fo, .lst (es.map V.ref)) :: (X ++ L)) H',
      ⟨_, _, _, _, _, _, _, _, [fl], [(fl, .lst (ls.map V.int))], rfl, ⟨rfl, fun i a r e1 e2 => ?_⟩, by rw [hH]; exact kn2⟩, fun t σ' H' ht hW => ?_, fun σ' H' hW => ?_⟩))
  · walk_at "go"
    exact ⟨m, rfl, ho.m62, hR _ _ ⟨rfl, rfl⟩⟩
  · cases i with
    | zero =>
      have ea : fl = a := by simpa using e1
      have er : evRow m xs ls 0 = r := by simpa using e2
      rw [← ea, ← er, evRow_zero ho.len]
      exact List.mem_cons_self
    | succ i => simp at e1
  · obtain ⟨x4, x5, x6, x7, x8, x9, x10, x11, es, X, rfl, hes, kn3⟩ := hW
    have hel := hes.len
    rw [List.length_map, List.length_range] at hel
    obtain ⟨e, he⟩ : ∃ e, es[t]? = some e := ⟨_, List.getElem?_eq_getElem (by omega)⟩
    have me : (e, HO.lst ((evRow m xs ls t).map V.int)) ∈ X ++ L := List.mem_append_left _ (hes.at_ t e (evRow m xs ls t) he (by rw [List.getElem?_map, List.getElem?_range (by omega)]; rfl))
    walk_at "go"
    refine kIxL (kn3.seqL List.mem_cons_self) (atLastR (by omega) he) ?_
    walk_at "go"
    refine kLcE kn3 (List.mem_cons_of_mem _ (List.mem_append_right X hpL)) (fun R hR => by walk_at "go"; exact hR) (by rw [List.length_map]; omega) (fun i => ((List.range i).map (fun j => labH m xs ls (t + 1) j)).map V.int) rfl (fun i => by simp) (fun _ _ => rfl) (fun i x H' D T hx kn4 N1 N2 h1' _ => ?_) (fun D H' kn4 => ?_)
    · obtain ⟨z, hz', rfl⟩ : ∃ z, xs[i]? = some z ∧ x = V.int z := by
        rw [List.getElem?_map] at hx
        cases e : xs[i]? with
        | none => rw [e] at hx; cases hx
        | some z => rw [e] at hx; exact ⟨z, rfl, (Option.some.inj hx).symm⟩
      have hi' : i < xs.length := (List.getElem?_eq_some_iff.mp hz').1
      have hg := ho.pt.goal i _ hz'
      have ez : xs.getD i 0 = z := getD_of hz'
      have me' := List.mem_cons_of_mem (T, HO.tup [.int (i : Int), .int z]) (List.mem_cons_of_mem (D, HO.lst (((List.range i).map (fun j => labH m xs ls (t + 1) j)).map V.int)) (List.mem_cons_of_mem (fo, HO.lst (es.map V.ref)) me))
      obtain ⟨⟨b1, b2⟩, ⟨b3, b4⟩, b5⟩ := labH_ready (m := m) ho.pt ho.len ho.in_ ho.pr (r := t) (i := i) (by omega) hi'
      rw [ez] at b3 b4 b5
      refine kYes (iteT ?_)
      walk_at "go"
      refine kIxL (kn4.seqL me') (atInt (evRow_get hi')) ?_
      walk_at "go"
      refine kIxL (kn4.seqL me') (atI_at (j := z.toNat) (by omega) (by rw [List.getElem?_map, evRow_get (by omega)]; rfl)) ?_
      walk_at "go"
      refine ⟨(labH m xs ls t i).toNat, (labH m xs ls t z.toNat).toNat, ?_, by omega, by omega, by omega, ?_⟩
      · have e1 : (((labH m xs ls t i).toNat : Nat) : Int) = labH m xs ls t i := by omega
        have e2 : (((labH m xs ls t z.toNat).toNat : Nat) : Int) = labH m xs ls t z.toNat := by omega
        rw [e1, e2]
      refine h1' _ _ kn4 ?_
      have e3 : ((shortN (labH m xs ls t i).toNat (labH m xs ls t z.toNat).toNat : Nat) : Int) = labH m xs ls (t + 1) i := by
        rw [labH_step (by omega), ez]
      rw [e3, List.range_succ, List.map_append, List.map_append]
      rfl
    · rw [List.length_map] at kn4
      have kn5 : Kn d n ((D, HO.lst ((evRow m xs ls (t + 1)).map V.int)) :: (fo, HO.lst (es.map V.ref)) :: (X ++ L)) H' := kn4
      walk_at "go"
      rename_i H6 kn6
      refine ⟨_, _, _, _, _, _, _, _, es ++ [D], (D, HO.lst ((evRow m xs ls (t + 1)).map V.int)) :: X, rfl, ?_, ?_⟩
      · rw [List.range_succ, List.map_append]
        exact (hes.up fun y hy => List.mem_cons_of_mem _ hy).snoc List.mem_cons_self
      · rw [List.map_append]
        exact kn6.perm (List.Perm.swap _ _ _)
  · obtain ⟨x4, x5, x6, x7, x8, x9, x10, x11, es, X, rfl, hes, kn3⟩ := hW
    have ez : z.toNat = (halv m).length - 1 := by omega
    rw [ez, show (halv m).length - 1 + 1 = (halv m).length by omega] at hes
    obtain ⟨sN, hsN⟩ : ∃ sN, (halv m).length - 1 = sN := ⟨_, rfl⟩
    refine kSeq (kForMade (K := K) (fun pl zs H' => zs = ([5, 4, 3] : List Int).map V.int ∧ Kn d n ((pl, HO.lst zs) :: (fo, HO.lst (es.map V.ref)) :: (X ++ L)) H') (fun R hR => by
      walk_at "go"
      rename_i hl3 H6 kn6
      exact hR hl3 _ H6 ⟨rfl, kn6⟩) (fun pl zs H6 ⟨hzs, kn6⟩ => ⟨kn6.seqL List.mem_cons_self, fun c σ' H' => ∃ (y4 y5 y6 y7 y8 y9 y10 y11 : Option V) (es2 : List Addr) (X3 : Led), σ' = [some (.ref p), some (.ref q), some (.int (m : Int)), some (.ref fo), y4, y5, y6, y7, y8, y9, y10, y11] ∧ c ≤ 3 ∧ ListsAt X3 es2 ((List.range ((halv m).length + 2 * c)).map (evRow m xs ls)) ∧ (pl, HO.lst zs) ∈ X3 ∧ Kn d n ((fo, .lst (es2.map V.ref)) :: (X3 ++ L)) H',
      ⟨_, _, _, _, _, _, _, _, es, (pl, HO.lst zs) :: X, rfl, by omega, hes.up fun y hy => List.mem_cons_of_mem _ hy, List.mem_cons_self, kn6.perm (List.Perm.swap _ _ _)⟩, fun c σ' H' hW => ?_, fun c x σ' H' hx hW => ?_, fun σ' H' hW => ?_⟩))
    · obtain ⟨y4, y5, y6, y7, y8, y9, y10, y11, es2, X3, rfl, _, hes2, hs3, k'⟩ := hW
      exact k'.seqL (List.mem_cons_of_mem _ (List.mem_append_left _ hs3))
    · obtain ⟨y4, y5, y6, y7, y8, y9, y10, y11, es2, X3, rfl, hc3, hes2, hs3, kn7⟩ := hW
      obtain ⟨L3, hL3⟩ : ∃ L3, X3 ++ L = L3 := ⟨_, rfl⟩
      rw [hL3] at kn7
      rw [hzs] at hx
      obtain ⟨hc, hgone⟩ : c < 3 ∧ x = V.int (goneH c) := by
        have h3 : c < 3 := (List.getElem?_eq_some_iff.mp hx).1
        refine ⟨h3, ?_⟩
        have : c = 0 ∨ c = 1 ∨ c = 2 := by omega
        rcases this with e | e | e <;> rw [e] at hx ⊢ <;> exact (Option.some.inj hx).symm
      subst hgone
      obtain ⟨r, hr⟩ : ∃ r, (halv m).length - 1 + 2 * c = r := ⟨_, rfl⟩
      have hrr : (halv m).length + 2 * c = r + 1 := by omega
      rw [hrr] at hes2
      have hel := hes2.len
      rw [List.length_map, List.length_range] at hel
      have hpL3 : (p, HO.tup (xs.map V.int)) ∈ L3 := by rw [← hL3]; exact List.mem_append_right _ hpL
      obtain ⟨e, he⟩ : ∃ e, es2[r]? = some e := ⟨_, List.getElem?_eq_getElem (by omega)⟩
      have me : (e, HO.lst ((evRow m xs ls r).map V.int)) ∈ L3 := by
        rw [← hL3]
        exact List.mem_append_left _ (hes2.at_ r e (evRow m xs ls r) he (by rw [List.getElem?_map, List.getElem?_range (by omega)]; rfl))
      walk_at "go"
      refine kIxL (kn7.seqL List.mem_cons_self) (atLastR (by omega) he) ?_
      walk_at "go"
      refine kLcT kn7 (List.mem_cons_of_mem _ hpL3) (fun R hR => by walk_at "go"; exact hR) (by rw [List.length_map]; omega) (fun i => ((List.range i).map (fun j => labH m xs ls (r + 1) j)).map V.int) rfl (fun i => by simp) (fun _ => rfl) (fun i x H' D hx kn8 N1 N2 h1' _ => ?_) (fun D H' kn8 => ?_)
      · obtain ⟨z, hz', rfl⟩ : ∃ z, xs[i]? = some z ∧ x = V.int z := by
          rw [List.getElem?_map] at hx
          cases e : xs[i]? with
          | none => rw [e] at hx; cases hx
          | some z => rw [e] at hx; exact ⟨z, rfl, (Option.some.inj hx).symm⟩
        have hi' : i < xs.length := (List.getElem?_eq_some_iff.mp hz').1
        have hg := ho.pt.goal i _ hz'
        have ez : xs.getD i 0 = z := getD_of hz'
        have me' := List.mem_cons_of_mem (D, HO.lst (((List.range i).map (fun j => labH m xs ls (r + 1) j)).map V.int)) (List.mem_cons_of_mem (fo, HO.lst (es2.map V.ref)) me)
        refine kYes (iteT ?_)
        walk_at "go"
        refine kIxL (kn8.seqL me') (atI_at (j := z.toNat) (by omega) (by rw [List.getElem?_map, evRow_get (by omega)]; rfl)) ?_
        refine h1' _ _ kn8 ?_
        have e3 : labH m xs ls r z.toNat = labH m xs ls (r + 1) i := by
          rw [labH_over hr.symm, ez]
        rw [e3, List.range_succ, List.map_append, List.map_append]
        rfl
      · rw [List.length_map] at kn8
        have kn9 : Kn d n ((D, HO.lst ((evRow m xs ls (r + 1)).map V.int)) :: (fo, HO.lst (es2.map V.ref)) :: L3) H' := kn8
        walk_at "go"
        rename_i H10 kn10 ma H11 kn11
        have mD : (D, HO.lst ((evRow m xs ls (r + 1)).map V.int)) ∈ (D, HO.lst ((evRow m xs ls (r + 1)).map V.int)) :: (fo, HO.lst (es2.map V.ref ++ [V.ref D])) :: L3 := List.mem_cons_self
        refine kSeq (kForE (K := K) (p := p) (xs := xs.map V.int) (fun i σ' H' => ∃ (z6 z7 z11 : Option V) (ts : List Int), σ' = [some (.ref p), some (.ref q), some (.int (m : Int)), some (.ref fo), y4, some (.ref e), z6, z7, some (.int (goneH c)), some (.ref D), some (.ref ma), z11] ∧ ts = (List.range xs.length).map (fun j => if j < i then labH m xs ls (r + 2) j else labH m xs ls (r + 1) j) ∧ Kn d n ((ma, .lst (ts.map V.int)) :: (D, HO.lst ((evRow m xs ls (r + 1)).map V.int)) :: (fo, HO.lst (es2.map V.ref ++ [V.ref D])) :: L3) H')
          (kn11.seqT (List.mem_cons_of_mem _ (List.mem_cons_of_mem _ (List.mem_cons_of_mem _ hpL3)))) ⟨_, _, _, _, rfl, rfl, ?_⟩ (fun i σ' H' _ hW => by obtain ⟨_, _, _, _, _, _, k'⟩ := hW; exact k'.seqT (List.mem_cons_of_mem _ (List.mem_cons_of_mem _ (List.mem_cons_of_mem _ hpL3)))) (fun i x σ' H' T hx hW hT => ?_) (fun σ' H' hW => ?_) fun R hR => by walk_at "go"; exact hR)
        · have e0 : (List.range xs.length).map (fun j => if j < 0 then labH m xs ls (r + 2) j else labH m xs ls (r + 1) j) = evRow m xs ls (r + 1) := List.map_congr_left fun j _ => if_neg (Nat.not_lt_zero _)
          rw [e0]
          exact kn11
        · obtain ⟨z6, z7, z11, ts, rfl, hts, kn12⟩ := hW
          obtain ⟨z, hz', rfl⟩ : ∃ z, xs[i]? = some z ∧ x = V.int z := by
            rw [List.getElem?_map] at hx
            cases e : xs[i]? with
            | none => rw [e] at hx; cases hx
            | some z => rw [e] at hx; exact ⟨z, rfl, (Option.some.inj hx).symm⟩
          have hi' : i < xs.length := (List.getElem?_eq_some_iff.mp hz').1
          have hg := ho.pt.goal i _ hz'
          have ez : xs.getD i 0 = z := getD_of hz'
          have kn13 := (kn12.new (o := .tup [.int (i : Int), .int z]) hT).tail
          have htl : ts.length = xs.length := by rw [hts, List.length_map, List.length_range]
          have hgs : ∀ (v : Int), v = labH m xs ls (r + 2) i → (List.range xs.length).map (fun j => if j < i + 1 then labH m xs ls (r + 2) j else labH m xs ls (r + 1) j) = ts.set i v := fun v hv => by
            apply List.ext_getElem?
            intro j
            rw [List.getElem?_set]
            by_cases hj : j < xs.length
            · rw [List.getElem?_map, List.getElem?_range hj]
              show some (if j < i + 1 then labH m xs ls (r + 2) j else labH m xs ls (r + 1) j) = _
              by_cases e : i = j
              · subst e
                rw [if_pos (Nat.lt_succ_self _), if_pos rfl, if_pos (by omega), hv]
              · rw [if_neg e, hts, List.getElem?_map, List.getElem?_range hj]
                show _ = some (if j < i then labH m xs ls (r + 2) j else labH m xs ls (r + 1) j)
                congr 1
                by_cases h : j < i
                · rw [if_pos h, if_pos (by omega)]
                · rw [if_neg h, if_neg (by omega)]
            · rw [List.getElem?_eq_none (by rw [List.length_map, List.length_range]; omega), if_neg (by omega), List.getElem?_eq_none (by omega)]
          have heq : labH m xs ls (r + 2) i = if labH m xs ls (r + 1) i = goneH c then freeOf (labH m xs ls (r + 1) z.toNat) (labH m xs ls r i) else labH m xs ls (r + 1) i := by
            rw [labH_ease hr.symm, ez]
          have mD' := List.mem_cons_of_mem (ma, HO.lst (ts.map V.int)) mD
          refine kIfS ?_
          walk_at "go"
          refine kIxL (kn13.seqL mD') (atInt (evRow_get hi')) ?_
          walk_at "go"
          refine iteI (fun hh => ?_) (fun hh => ?_)
          · rw [if_pos hh] at heq
            have fd_in := freeOf_in (labH m xs ls (r + 1) z.toNat) (labH m xs ls r i)
            have fd1 := freeOf_ne1 (labH m xs ls (r + 1) z.toNat) (labH m xs ls r i)
            have fd2 := freeOf_ne2 (labH m xs ls (r + 1) z.toNat) (labH m xs ls r i)
            obtain ⟨ux, hux⟩ : ∃ u, labH m xs ls (r + 1) z.toNat = u := ⟨_, rfl⟩
            obtain ⟨uy, huy⟩ : ∃ u, labH m xs ls r i = u := ⟨_, rfl⟩
            rw [hux, huy] at fd_in fd1 fd2 heq
            walk_at "go"
            refine kLcR (lo := 0) (N := 3) kn13 (fun R hR => srcR1 (n := 3) (fun R' h' => by walk_at "go"; exact h') (by omega) (by omega) R hR) (by omega) (fun i => ((([0, 1, 2] : List Int).take i).filter (fun h => decide (h ≠ ux) && decide (h ≠ uy))).map V.int) rfl (fun i => ?_) (fun _ => rfl) (fun i' H' D' hi3 kn14 N1 N2 h1' h2' => ?_) (fun D' H' kn14 => ?_)
            · rw [List.length_map]
              refine Nat.le_trans (List.length_filter_le _ _) ?_
              rw [List.length_take]
              exact Nat.min_le_left _ _
            · rw [Int.zero_add]
              have h3 : ([0, 1, 2] : List Int)[i']? = some (i' : Int) := by
                have : i' = 0 ∨ i' = 1 ∨ i' = 2 := by omega
                rcases this with e | e | e <;> rw [e] <;> rfl
              have nxt : (([0, 1, 2] : List Int).take (i' + 1)).filter (fun h => decide (h ≠ ux) && decide (h ≠ uy)) = (([0, 1, 2] : List Int).take i').filter (fun h => decide (h ≠ ux) && decide (h ≠ uy)) ++ (if (decide ((i' : Int) ≠ ux) && decide ((i' : Int) ≠ uy)) = true then [(i' : Int)] else []) := by
                rw [List.take_add_one, h3, List.filter_append]
                congr 1
                show List.filter _ [(i' : Int)] = _
                rw [List.filter_cons, List.filter_nil]
              walk_at "go"
              refine kIxL (kn14.seqL (List.mem_cons_of_mem _ mD')) (atI_at (j := z.toNat) (by omega) (by rw [List.getElem?_map, evRow_get (by omega)]; rfl)) ?_
              walk_at "go"
              rw [hux]
              refine iteIN (fun hn1 => ?_) (fun hn1 => ?_)
              · walk_at "go"
                refine kIxL (kn14.seqL (List.mem_cons_of_mem _ (List.mem_cons_of_mem _ (List.mem_cons_of_mem _ (List.mem_cons_of_mem _ me))))) (atInt (evRow_get hi')) ?_
                walk_at "go"
                rw [huy]
                refine iteIN (fun hn2 => ?_) (fun hn2 => ?_)
                · walk_at "go"
                  refine h1' _ _ kn14 ?_
                  rw [nxt, decide_eq_true hn1, decide_eq_true hn2, if_pos (show (true && true) = true from rfl), List.map_append]
                  rfl
                · refine h2' _ kn14 ?_
                  rw [nxt, show decide ((i' : Int) ≠ uy) = false from decide_eq_false (fun h => h hn2), Bool.and_false, if_neg Bool.false_ne_true, List.append_nil]
              · refine h2' _ kn14 ?_
                rw [nxt, show decide ((i' : Int) ≠ ux) = false from decide_eq_false (fun h => h hn1), Bool.false_and, if_neg Bool.false_ne_true, List.append_nil]
            · have eh : (([0, 1, 2] : List Int).take 3).filter (fun h => decide (h ≠ ux) && decide (h ≠ uy)) = freeOf ux uy :: ((([0, 1, 2] : List Int).take 3).filter (fun h => decide (h ≠ ux) && decide (h ≠ uy))).tail := by
                show List.filter _ ([0, 1, 2] : List Int) = _
                by_cases a0 : 0 ≠ ux ∧ 0 ≠ uy
                · have : freeOf ux uy = 0 := by unfold freeOf; rw [if_pos a0]
                  rw [this]
                  simp [List.filter_cons, a0.1, a0.2]
                · by_cases a1 : 1 ≠ ux ∧ 1 ≠ uy
                  · have : freeOf ux uy = 1 := by unfold freeOf; rw [if_neg a0, if_pos a1]
                    rw [this]
                    have c0 : (decide ((0 : Int) ≠ ux) && decide ((0 : Int) ≠ uy)) = false := by
                      rw [← Bool.decide_and]
                      exact decide_eq_false a0
                    have c1 : (decide ((1 : Int) ≠ ux) && decide ((1 : Int) ≠ uy)) = true := by
                      rw [← Bool.decide_and]
                      exact decide_eq_true a1
                    simp only [List.take, List.filter_cons, c0, c1, if_true, Bool.false_eq_true, if_false, List.tail_cons]
                  · have : freeOf ux uy = 2 := by unfold freeOf; rw [if_neg a0, if_neg a1]
                    rw [this] at fd1 fd2 ⊢
                    have c0 : (decide ((0 : Int) ≠ ux) && decide ((0 : Int) ≠ uy)) = false := by
                      rw [← Bool.decide_and]
                      exact decide_eq_false a0
                    have c1 : (decide ((1 : Int) ≠ ux) && decide ((1 : Int) ≠ uy)) = false := by
                      rw [← Bool.decide_and]
                      exact decide_eq_false a1
                    have c2 : (decide ((2 : Int) ≠ ux) && decide ((2 : Int) ≠ uy)) = true := by
                      rw [← Bool.decide_and]
                      exact decide_eq_true ⟨fd1, fd2⟩
                    simp only [List.take, List.filter_cons, c0, c1, c2, if_true, Bool.false_eq_true, if_false, List.tail_cons]
              rw [eh] at kn14
              walk_at "go"
              refine kSetK kn14 1 rfl (j := i) rfl (by rw [List.length_map]; omega) fun H15 kn15 => ?_
              walk_at "go"
              refine ⟨_, _, _, _, rfl, (hgs _ heq.symm).symm, ?_⟩
              rw [List.map_set]
              exact kn15.tail
          · rw [if_neg hh] at heq
            walk_at "go"
            refine ⟨_, _, _, ts, rfl, ?_, kn13⟩
            have hsame : ts.set i (labH m xs ls (r + 1) i) = ts := by
              apply List.ext_getElem?
              intro j
              rw [List.getElem?_set]
              by_cases e : i = j
              · subst e
                rw [if_pos rfl, if_pos (by omega), hts, List.getElem?_map, List.getElem?_range hi']
                show _ = some (if i < i then labH m xs ls (r + 2) i else labH m xs ls (r + 1) i)
                rw [if_neg (Nat.lt_irrefl _)]
              · rw [if_neg e]
            rw [hgs _ heq.symm, hsame]
        · obtain ⟨z6, z7, z11, ts, rfl, hts, kn12⟩ := hW
          rw [List.length_map] at hts
          have e2 : ts = evRow m xs ls (r + 2) := by
            rw [hts]
            exact List.map_congr_left fun j hj => if_pos (List.mem_range.mp hj)
          rw [e2] at kn12
          walk_at "go"
          rename_i H13 kn13
          refine ⟨_, _, _, _, _, _, _, _, es2 ++ [D] ++ [ma], (ma, HO.lst ((evRow m xs ls (r + 2)).map V.int)) :: (D, HO.lst ((evRow m xs ls (r + 1)).map V.int)) :: X3, rfl, by omega, ?_, List.mem_cons_of_mem _ (List.mem_cons_of_mem _ hs3), ?_⟩
          · rw [show (halv m).length + 2 * (c + 1) = r + 1 + 1 + 1 by omega, List.range_succ, List.map_append, List.range_succ, List.map_append]
            exact ((hes2.up fun y hy => List.mem_cons_of_mem _ (List.mem_cons_of_mem _ hy)).snoc (List.mem_cons_of_mem _ List.mem_cons_self)).snoc List.mem_cons_self
          · have kn14 := kn13.perm (List.perm_middle (l₁ := [(ma, _), (D, _)]))
            rw [List.map_append, List.map_append, List.cons_append, List.cons_append, hL3]
            exact kn14
    · obtain ⟨y4, y5, y6, y7, y8, y9, y10, y11, es2, X3, rfl, _, hes2, hs3, kn7⟩ := hW
      rw [hzs] at hes2
      walk_at "go"
      exact g fo es2 X3 _ hes2 kn7
end

/-! ### the law's own keeping: what it knows of late hands -/
structure Hd where
  (x dx p l D Hh S Ev : Addr)
  m : Nat
  (as es : List Addr)
  (xs ls : List Int)
  kvs : List (Key × V)
  R : Led
structure KvOk (c : Hd) : Prop where
  kp : valV c.kvs (.inr "pointing") = some (.ref c.p)
  kd : valV c.kvs (.inr "done") = some (.ref c.D)
  kh : valV c.kvs (.inr "held") = some (.ref c.Hh)
  ke : valV c.kvs (.inr "even") = some (.ref c.Ev)
structure HdOk (c : Hd) : Prop where
  pok : POk c.xs c.ls c.m
  asl : c.as.length = c.xs.length
  pt : (c.p, HO.tup (c.xs.map V.int)) ∈ c.R
  st : (c.S, HO.dK c.kvs) ∈ c.R
  kv : KvOk c
  ev : (c.Ev, HO.lst (c.es.map V.ref)) ∈ c.R
  rows : ListsAt c.R c.es ((List.range ((halv c.m).length + 6)).map (evRow c.m c.xs c.ls))
abbrev He := Addr × Addr × Addr × List Int
def heOne (e : He) : Led := [(e.1, .tup [.ref e.2.1, .ref e.2.2.1]), (e.2.1, .lst (e.2.2.2.map V.int)), (e.2.2.1, .lst (e.2.2.2.map V.int))]
def heldLed (hs : List He) : Led := hs.flatMap heOne
def hts (hs : List He) : List V := hs.map (fun e => V.ref e.1)
def stLed (C : Addr) (c : Hd) (done : List Nat) (hs : List He) : Led := handsLed c.x c.dx C c.p c.m c.l c.as (rowsH c.m c.xs c.ls done) ++ ((c.D, .lst (done.map vN)) :: (c.Hh, .lst (hts hs)) :: (heldLed hs ++ c.R))
abbrev DOk (c : Hd) (done : List Nat) : Prop := HOk c.xs c.ls c.m done
/-- what of it stands in a ledger -/
structure LIn (L : Led) (c : Hd) (done : List Nat) : Prop where
  st : (c.S, HO.dK c.kvs) ∈ L
  pt : (c.p, HO.tup (c.xs.map V.int)) ∈ L
  dn : (c.D, HO.lst (done.map vN)) ∈ L
  ev : (c.Ev, HO.lst (c.es.map V.ref)) ∈ L
  rows : ListsAt L c.es ((List.range ((halv c.m).length + 6)).map (evRow c.m c.xs c.ls))
theorem LIn.up {L L' : Led} {c : Hd} {done : List Nat} (h : LIn L c done) (s : ∀ y, y ∈ L → y ∈ L') : LIn L' c done := ⟨s _ h.st, s _ h.pt, s _ h.dn, s _ h.ev, h.rows.up s⟩
theorem inR {C : Addr} {c : Hd} {done : List Nat} {hs : List He} {y : Addr × HO} (h : y ∈ c.R) : y ∈ stLed C c done hs := List.mem_append_right _ (List.mem_cons_of_mem _ (List.mem_cons_of_mem _ (List.mem_append_right _ h)))
theorem HdOk.lin {C : Addr} {c : Hd} {done : List Nat} {hs : List He} (h : HdOk c) : LIn (stLed C c done hs) c done := ⟨inR h.st, inR h.pt, List.mem_append_right _ List.mem_cons_self, inR h.ev, h.rows.up fun _ hy => inR hy⟩
theorem HdOk.hat {C : Addr} {c : Hd} {done : List Nat} {hs : List He} (h : HdOk c) : HandsAt (stLed C c done hs) c.x C c.p c.m c.l c.as c.xs c.ls done := handsLed_at h.asl (List.mem_cons_of_mem _ (List.mem_cons_of_mem _ (List.mem_append_right _ h.pt)))
theorem st_ins {C : Addr} {c : Hd} {done : List Nat} {hs : List He} : (c.x, HO.ins C c.dx (hf c.p c.m c.l)) ∈ stLed C c done hs := List.mem_append_left _ List.mem_cons_self
theorem esLen {L : Led} {c : Hd} {done : List Nat} (h : LIn L c done) : c.es.length = (halv c.m).length + 6 := by
  have := h.rows.len
  rw [List.length_map, List.length_range] at this
  exact this
theorem kDGet {σ : L2.St} {H : Hp} {Q : VK} {i : Nat} {S : Addr} {kvs : List (Key × V)} {s : Str} {v : V} (h : σ[i]? = some (some (.ref S))) (ho : H S = some (.dK kvs)) (hv : valV kvs (.inr s) = some v) (q : Q v H) : tDGet (tVar i) (tC (.str s)) σ H Q :=
  ⟨.ref S, h, S, v, rfl, hv ▸ DGet.k (k := .inr s) ho, q⟩
theorem kSetMid {d : Addr} {n : Nat} {A Z : Led} {H : Hp} {p : Addr} {xs : List V} {k : Int} {j : Nat} {v : V} {R : Hp → Prop} (kn : Kn d n (A ++ (p, .lst xs) :: Z) H) (e : k = (j : Int)) (hj : j < xs.length) (g : ∀ H', Kn d n (A ++ (p, .lst (xs.set j v)) :: Z) H' → R H') : rSetL (.ref p) (.int k) v H R := by
  refine kSetK kn A.length (by rw [List.getElem?_append_right (Nat.le_refl _), Nat.sub_self]; rfl) e hj fun H' kn' => g H' ?_
  rw [List.set_append_right _ _ (Nat.le_refl _), Nat.sub_self] at kn'
  exact kn'
theorem kAppMid {d : Addr} {n : Nat} {A Z : Led} {H : Hp} {p : Addr} {xs : List V} {v : V} {Q : VK} (kn : Kn d n (A ++ (p, .lst xs) :: Z) H) (z : xs.length < 100000) (g : ∀ H', Kn d n (A ++ (p, .lst (xs ++ [v])) :: Z) H' → Q .non H') : rAppend (.ref p) [v] H Q := by
  refine kAppK kn A.length (by rw [List.getElem?_append_right (Nat.le_refl _), Nat.sub_self]; rfl) z fun H' kn' => g H' ?_
  rw [List.set_append_right _ _ (Nat.le_refl _), Nat.sub_self] at kn'
  exact kn'
theorem at_nat {l : List Nat} {i : Nat} (h : i < l.length) : atI (l.map vN) (i : Int) = some (.int ((l.getD i 0 : Nat) : Int)) := atI_nat (by rw [List.getElem?_map, List.getElem?_eq_getElem h, List.getD_eq_getElem?_getD, List.getElem?_eq_getElem h]; rfl)
/-! ### which houses can go, by the law -/
abbrev s_law_can : Stmt := topS 38
theorem sc_law_can : FnScope ["state", "done", "far", "k", "after"] ["state"] (defScope s_law_can) := ⟨rfl, rfl, rfl, by decide +kernel, rfl, by decide +kernel, by decide +kernel⟩
abbrev s_law_kept : Stmt := topS 39
theorem sc_law_kept : FnScope ["dice", "state", "told", "way"] ["dice", "state", "told"] (defScope s_law_kept) := ⟨rfl, rfl, rfl, by decide +kernel, rfl, by decide +kernel, by decide +kernel⟩
abbrev s_law_held : Stmt := topS 40
theorem sc_law_held : FnScope ["state", "one", "copy"] ["state"] (defScope s_law_held) := ⟨rfl, rfl, rfl, by decide +kernel, rfl, by decide +kernel, by decide +kernel⟩
def spCan : Sp := fun vs H Q _ => ∃ (d : Addr) (n : Nat) (L : Led) (c : Hd) (done : List Nat), vs = [.ref c.S] ∧ DOk c done ∧ KvOk c ∧ LIn L c done ∧ Kn d n L H ∧ ∀ r H', Kn d n ((r, .lst ((canL c.xs c.m done).map vN)) :: L) H' → Q (.ref r) H'
def spKept : Sp := fun vs H Q _ => ∃ (d : Addr) (n0 : Nat) (L : Led) (S Hh told : Addr) (kvs : List (Key × V)) (ts : List V) (zs : List Int), vs = [.ref d, .ref S, .ref told] ∧ zs.length ≤ 200 ∧ ts.length ≤ 90000 ∧ n0 ≤ 2 ^ 59 ∧ (S, HO.dK kvs) ∈ L ∧ valV kvs (.inr "held") = some (.ref Hh) ∧ Kn d n0 ((told, .lst (zs.map V.int)) :: (Hh, .lst ts) :: L) H ∧
  ∀ (t b : Addr) (zs' : List Int) H', zs'.length ≤ 1000 → Kn d (n0 + 10) ((t, .tup [.ref told, .ref b]) :: (b, .lst (zs'.map V.int)) :: (told, .lst (zs'.map V.int)) :: (Hh, .lst (ts ++ [.ref t])) :: L) H' → Q (.bl true) H'
def spHeld : Sp := fun vs H Q _ => ∃ (d : Addr) (n : Nat) (L : Led) (S Hh : Addr) (kvs : List (Key × V)) (hs : List He), vs = [.ref S] ∧ (∀ e ∈ hs, e.2.2.2.length ≤ 1000) ∧ (S, HO.dK kvs) ∈ L ∧ valV kvs (.inr "held") = some (.ref Hh) ∧ Kn d n (heldLed hs ++ ((Hh, .lst (hts hs)) :: L)) H ∧ ∀ H', Kn d n ((Hh, .lst (hts hs)) :: L) H' → Q (.bl true) H'
section
variable {P : Program} {w : World} {K : PySem.W.Frag} {mg : Str → Option Value} {base : Heap}
theorem ok_law_can {k : Nat} {f : Addr} {fd : FuncData} (D : Df K mg "_law_can" s_law_can ["state"] f fd)  (M : Bl mg) : FnOk P w K mg base CX0 (k + 1) f fd ["state"] spCan := by
  refine D.F.ok sc_law_can (fun vs H Q E h => ?_) (fun cdv A outer s H vs Q E hr h => ?_)
  · obtain ⟨d, n, L, c, done, rfl, _⟩ := h
    rfl
  obtain ⟨d, n, L, c, done, rfl, ho, hk, hl, kn, g⟩ := h
  refine ⟨_, (pss_cons (ps_set (i := 1) sc_law_can.nd rfl (Or.inr rfl) (pe_dget (unit1 hr.units) (pv 0) pe_str (fun _ _ => rfl)))
   (pss_cons (ps_set (i := 2) sc_law_can.nd rfl (Or.inr rfl) (pe_op op_sub (pe_callB c_len (by rfl) M.len PySem.boot_len (pa_cons (pe_dget (unit1 hr.units) (pv 0) pe_str (fun _ _ => rfl)) pa_nil)) pe_int))
   (pss_one (ps_ret (pe_lc (own := [("k", 3), ("after", 4)]) (g := gTup K 2 (gCons (gName 3) (gCons (gName 4) gNil))) (by rfl) sc_law_can.nd (pi_enumU (by rfl) M.enumerate (pa_cons (pe_dget (unit1 hr.units) (pv 0) pe_str (fun _ _ => rfl)) pa_nil)) (blkOk_by (own := [("k", 3), ("after", 4)]) (N := ["state", "done", "far", "k", "after"]) (sc := defScope s_law_can) (by decide +kernel)) (fun _ _ _ _ _ => (pg_tup rfl (pgs_cons (pg_name (i := 3) sc_law_can.nd rfl (Or.inl rfl)) (pgs_cons (pg_name (i := 4) sc_law_can.nd rfl (Or.inl rfl)) pgs_nil)))) (fun _ _ _ _ _ => (pts_one (PW.pt (pw_and (pt_cmpR op_lt (pe_ix (ixL (K := K) rfl) (pv 1) (pv 3) (fun _ _ => rfl)) (pv 2) (nomark _)) (pw_and1 (pt_cmpR op_ge (pe_ix (ixL (K := K) rfl) (pv 1) (pv 4) (fun _ _ => rfl)) (pe_ix (ixL (K := K) rfl) (pv 1) (pv 3) (fun _ _ => rfl)) (nomark _))))))) (fun _ _ _ _ _ => (pv 3))))))), ?_⟩
  have hes := esLen hl
  have h60 := ho.pt.most
  walk_at "go"
  refine kDGet rfl (kn.mem hl.st) hk.kd ?_
  walk_at "go"
  refine kDGet rfl (kn.mem hl.st) hk.ke ?_
  walk_at "go"
  refine kLenL (kn.seqL hl.ev) ?_
  walk_at "go"
  rw [List.length_map, hes]
  refine kLcE kn hl.pt (fun R hR => kDGet rfl (kn.mem hl.st) hk.kp hR) (by rw [List.length_map]; omega) (fun i => ((List.range i).filter (canB c.xs c.m done)).map vN) rfl (fun i => ?_) (fun _ _ => rfl) (fun i x H' D T hx kn2 N1 N2 h1 h2 => ?_) (fun D H' kn2 => ?_)
  · rw [List.length_map]
    exact Nat.le_trans (List.length_filter_le _ _) (by rw [List.length_range]; exact Nat.le_refl _)
  · obtain ⟨z, hz', rfl⟩ : ∃ z, c.xs[i]? = some z ∧ x = V.int z := by
      rw [List.getElem?_map] at hx
      cases e : c.xs[i]? with
      | none => rw [e] at hx; cases hx
      | some z => rw [e] at hx; exact ⟨z, rfl, (Option.some.inj hx).symm⟩
    have hi' : i < c.xs.length := (List.getElem?_eq_some_iff.mp hz').1
    have hg := ho.pt.goal i _ hz'
    have ez : c.xs.getD i 0 = z := getD_of hz'
    have md := List.mem_cons_of_mem (T, HO.tup [.int (i : Int), .int z]) (List.mem_cons_of_mem (D, HO.lst (((List.range i).filter (canB c.xs c.m done)).map vN)) hl.dn)
    have nxt : (List.range (i + 1)).filter (canB c.xs c.m done) = (List.range i).filter (canB c.xs c.m done) ++ (if canB c.xs c.m done i = true then [i] else []) := by
      rw [List.range_succ, List.filter_append]
      congr 1
      rw [List.filter_cons, List.filter_nil]
    have dlen := ho.dl
    walk_at "go"
    refine kIxL (kn2.seqL md) (at_nat (by omega)) ?_
    walk_at "go"
    refine iteD (fun hh1 => ?_) (fun hh1 => ?_)
    · walk_at "go"
      have ezn : z = ((z.toNat : Nat) : Int) := by omega
      refine kIxL (kn2.seqL md) (by rw [ezn]; exact at_nat (i := z.toNat) (by omega)) ?_
      walk_at "go"
      refine kIxL (kn2.seqL md) (at_nat (by omega)) ?_
      walk_at "go"
      refine iteD (fun hh2 => ?_) (fun hh2 => ?_)
      · have hc : canB c.xs c.m done i = true := by
          unfold canB
          rw [ez]
          exact decide_eq_true ⟨by omega, by omega⟩
        rw [if_pos hc] at nxt
        walk_at "go"
        refine h1 _ _ kn2 ?_
        rw [nxt, List.map_append]
        rfl
      · have hc : canB c.xs c.m done i = false := by
          unfold canB
          rw [ez]
          exact decide_eq_false (by omega)
        rw [if_neg (by rw [hc]; exact Bool.false_ne_true), List.append_nil] at nxt
        exact h2 _ kn2 (by rw [nxt])
    · have hc : canB c.xs c.m done i = false := by
        unfold canB
        exact decide_eq_false (by omega)
      rw [if_neg (by rw [hc]; exact Bool.false_ne_true), List.append_nil] at nxt
      exact h2 _ kn2 (by rw [nxt])
  · rw [List.length_map] at kn2
    exact g _ _ kn2
theorem ok_law_kept {k : Nat} {f a_law_roll : Addr} {fd fd_law_roll : FuncData} (D : Df K mg "_law_kept" s_law_kept ["dice", "state", "told"] f fd) (D_law_roll : Df K mg "_law_roll" s_law_roll ["dice", "size"] a_law_roll fd_law_roll) (M : Bl mg) : FnOk P w K mg base CX0 (k + 1 + 1) f fd ["dice", "state", "told"] spKept := by
  have G_law_roll := ok_law_roll (P := P) (w := w) (base := base) (k := 0) D_law_roll M
  refine D.F.ok sc_law_kept (fun vs H Q E h => ?_) (fun cdv A outer s H vs Q E hr h => ?_)
  · obtain ⟨d, n0, L, S, Hh, told, kvs, ts, zs, rfl, _⟩ := h
    rfl
  obtain ⟨d, n0, L, S, Hh, told, kvs, ts, zs, rfl, hz, ht, hn, hS, hv, kn, g⟩ := h
  refine ⟨_, (pss_cons (ps_set (i := 3) sc_law_kept.nd rfl (Or.inl rfl) (pe_call G_law_roll (hr.mono (by omega)) (by rfl) D_law_roll.g D_law_roll.F.kp D_law_roll.b .nil pass0 (pa_cons (pv 0) (pa_cons pe_int pa_nil))))
   (pss_cons (ps_if (pt_cmpR op_eq (pv 3) pe_int (nomark _)) (pss_one (ps_expr (pe_bm PySem.F.plainAttrs_list PySem.F.slot_list_append PySem.F.type_list_append mt_append (pv 2) (pa_cons (pe_un un_neg pe_int) pa_nil)))) pss_nil)
   (pss_cons (ps_if (pt_cmpR op_eq (pv 3) pe_int (nomark _)) (pss_one (ps_expr (pe_bm0 PySem.F.plainAttrs_list PySem.F.slot_list_clear PySem.F.type_list_clear mt_clear (pv 2)))) pss_nil)
   (pss_cons (ps_if (pt_cmpR op_eq (pv 3) pe_int (nomark _)) (pss_one (ps_expr (pe_bm PySem.F.plainAttrs_list PySem.F.slot_list_insert PySem.F.type_list_insert c_insert (pv 2) (pa_cons pe_int (pa_cons (pe_call G_law_roll (hr.mono (by omega)) (by rfl) D_law_roll.g D_law_roll.F.kp D_law_roll.b .nil pass0 (pa_cons (pv 0) (pa_cons pe_int pa_nil))) pa_nil))))) pss_nil)
   (pss_cons (ps_if (pt_cmpR op_eq (pv 3) pe_int (nomark _)) (pss_one (ps_expr (pe_bm0 PySem.F.plainAttrs_list PySem.F.slot_list_reverse PySem.F.type_list_reverse mt_reverse (pv 2)))) pss_nil)
   (pss_cons (ps_if (PW.pt (pw_and (pt_cmpR op_eq (pv 3) pe_int (nomark _)) (pw_and1 (pt_cmpR (op_neD hr.units) (pv 2) (pe_lst pa_nil) (nomark _))))) (pss_one (ps_asg (pe_call G_law_roll (hr.mono (by omega)) (by rfl) D_law_roll.g D_law_roll.F.kp D_law_roll.b .nil pass0 (pa_cons (pv 0) (pa_cons pe_int pa_nil))) (pg_sub (pv 2) (pe_call G_law_roll (hr.mono (by omega)) (by rfl) D_law_roll.g D_law_roll.F.kp D_law_roll.b .nil pass0 (pa_cons (pv 0) (pa_cons (pe_callB c_len (by rfl) M.len PySem.boot_len (pa_cons (pv 2) pa_nil)) pa_nil))) set_list))) pss_nil)
   (pss_cons (ps_expr (pe_bm PySem.F.plainAttrs_list PySem.F.slot_list_append PySem.F.type_list_append mt_append (pe_dget (unit1 hr.units) (pv 1) pe_str (fun _ _ => rfl)) (pa_cons (pe_tup (pa_cons (pv 2) (pa_cons (pe_callTy c_list (by rfl) M.list (by decide +kernel) (pa_cons (pv 2) pa_nil)) pa_nil))) pa_nil)))
   (pss_one (ps_ret pe_bl))))))))), ?_⟩
  have jn : ∀ (zs' : List Int) (n' : Nat) H', Kn d n' ((told, .lst (zs'.map V.int)) :: (Hh, .lst ts) :: L) H' → Kn d n' ((told, .lst (zs'.map V.int)) :: (Hh, .lst ts) :: L) H' := fun _ _ _ h => h
  walk_at "go"
  refine kRoll kn (by omega) (by omega) (by omega) fun way H1 w0 w1 kn1 => ?_
  refine kJoin (fun σ' H' => ∃ zs' : List Int, zs'.length ≤ 201 ∧ σ' = [some (.ref d), some (.ref S), some (.ref told), some (.int way)] ∧ Kn d (n0 + 1) ((told, .lst (zs'.map V.int)) :: (Hh, .lst ts) :: L) H') (fun σ' H' hW => ?_) fun N join => ?_
  case refine_2 =>
    refine kIfS ?_
    walk_at "go"
    refine iteI (fun _ => ?_) (fun _ => ?_)
    · walk_at "go"
      rename_i H2 kn2
      refine join _ _ ⟨zs ++ [-1], by simp; omega, rfl, ?_⟩
      rw [List.map_append]
      exact kn2
    · walk_at "go"
      exact join _ _ ⟨zs, by omega, rfl, kn1⟩
  obtain ⟨zs1, hz1, rfl, kn2⟩ := hW
  refine kJoin (fun σ' H' => ∃ zs' : List Int, zs'.length ≤ 201 ∧ σ' = [some (.ref d), some (.ref S), some (.ref told), some (.int way)] ∧ Kn d (n0 + 1) ((told, .lst (zs'.map V.int)) :: (Hh, .lst ts) :: L) H') (fun σ' H' hW => ?_) fun N join => ?_
  case refine_2 =>
    refine kIfS ?_
    walk_at "go"
    refine iteI (fun _ => ?_) (fun _ => ?_)
    · walk_at "go"
      refine ⟨told, _, rfl, rfl, kn2.at 0 rfl, ?_⟩
      exact join _ _ ⟨[], by simp, rfl, kn2.put (u := .lst []) 0 rfl⟩
    · walk_at "go"
      exact join _ _ ⟨zs1, hz1, rfl, kn2⟩
  obtain ⟨zs2, hz2, rfl, kn3⟩ := hW
  refine kJoin (fun σ' H' => ∃ zs' : List Int, zs'.length ≤ 202 ∧ σ' = [some (.ref d), some (.ref S), some (.ref told), some (.int way)] ∧ Kn d (n0 + 2) ((told, .lst (zs'.map V.int)) :: (Hh, .lst ts) :: L) H') (fun σ' H' hW => ?_) fun N join => ?_
  case refine_2 =>
    refine kIfS ?_
    walk_at "go"
    refine iteI (fun _ => ?_) (fun _ => ?_)
    · walk_at "go"
      refine kRoll kn3 (by omega) (by omega) (by omega) fun r H4 r0 r1 kn4 => ?_
      walk_at "go"
      refine kInsK kn4 0 rfl (by rw [List.length_map]; omega) (by omega) (by omega) fun H5 kn5 => ?_
      walk_at "go"
      refine join _ _ ⟨r :: zs2, by simp; omega, rfl, ?_⟩
      exact kn5
    · walk_at "go"
      exact join _ _ ⟨zs2, by omega, rfl, kn3.more (by omega)⟩
  obtain ⟨zs3, hz3, rfl, kn4⟩ := hW
  refine kJoin (fun σ' H' => ∃ zs' : List Int, zs'.length ≤ 202 ∧ σ' = [some (.ref d), some (.ref S), some (.ref told), some (.int way)] ∧ Kn d (n0 + 2) ((told, .lst (zs'.map V.int)) :: (Hh, .lst ts) :: L) H') (fun σ' H' hW => ?_) fun N join => ?_
  case refine_2 =>
    refine kIfS ?_
    walk_at "go"
    refine iteI (fun _ => ?_) (fun _ => ?_)
    · walk_at "go"
      refine ⟨told, _, rfl, rfl, kn4.at 0 rfl, ?_⟩
      refine join _ _ ⟨zs3.reverse, by rw [List.length_reverse]; exact hz3, rfl, ?_⟩
      rw [List.map_reverse]
      exact kn4.put 0 rfl
    · walk_at "go"
      exact join _ _ ⟨zs3, hz3, rfl, kn4⟩
  obtain ⟨zs4, hz4, rfl, kn5⟩ := hW
  refine kJoin (fun σ' H' => ∃ zs' : List Int, zs'.length ≤ 202 ∧ σ' = [some (.ref d), some (.ref S), some (.ref told), some (.int way)] ∧ Kn d (n0 + 5) ((told, .lst (zs'.map V.int)) :: (Hh, .lst ts) :: L) H') (fun σ' H' hW => ?_) fun N join => ?_
  case refine_2 =>
    refine kIfS ?_
    walk_at "go"
    refine iteI (fun _ => ?_) (fun _ => ?_)
    · walk_at "go"
      rename_i em H6 kn6
      refine kNeL (xs := zs4) (ys := []) (kn6.seqL (List.mem_cons_of_mem _ List.mem_cons_self)) (kn6.seqL List.mem_cons_self) ?_
      refine kBl ?_
      refine iteN (fun hne => ?_) (fun _ => ?_)
      · have hpos : 0 < zs4.length := List.length_pos_iff.mpr hne
        walk_at "go"
        refine kRoll kn6.tail (by omega) (by omega) (by omega) fun r H7 r0 r1 kn7 => ?_
        walk_at "go"
        have elen : (zs4.map V.int).length = zs4.length := List.length_map _
        rw [elen]
        refine kRoll kn7 (by omega) (by omega) (by omega) fun r2 H8 r20 r21 kn8 => ?_
        refine kSetK kn8 0 rfl (j := r2.toNat) (by omega) (by rw [elen]; omega) fun H9 kn9 => ?_
        refine join _ _ ⟨zs4.set r2.toNat r, by rw [List.length_set]; exact hz4, rfl, ?_⟩
        rw [List.map_set]
        exact kn9.more (by omega)
      · walk_at "go"
        exact join _ _ ⟨zs4, hz4, rfl, kn6.tail.more (by omega)⟩
    · walk_at "go"
      exact join _ _ ⟨zs4, hz4, rfl, kn5.more (by omega)⟩
  obtain ⟨zs5, hz5, rfl, kn6⟩ := hW
  walk_at "go"
  refine kDGet rfl (kn6.mem (List.mem_cons_of_mem _ (List.mem_cons_of_mem _ hS))) hv ?_
  walk_at "go"
  rename_i b H7 kn7 t H8 kn8
  refine kAppK kn8 3 rfl (by omega) fun H9 kn9 => ?_
  walk_at "go"
  exact g t b zs5 _ (by omega) (kn9.more (by omega))
theorem kForL2 {σ : L2.St} {H : Hp} {tb : TS} {j l : Nat} {te : TE} {nx bk ct : L2.St → Hp → Prop} {rt : VK} {p : Addr} {xs : List V} (Pv : Nat → L2.St → Hp → Prop) (hq : SqL K H p xs) (h0 : Pv 0 σ H) (hl : ∀ i σ' H', i ≤ xs.length → Pv i σ' H' → SqL K H' p xs)
    (hs : ∀ i x σ' H', xs[i]? = some x → Pv i σ' H' → ∃ a u v, x = .ref a ∧ SqT K H' a [u, v] ∧ tb (Ends.mk (Pv (i + 1)) rt nx (Pv (i + 1))) ((σ'.set j (some u)).set l (some v)) H') (hd : ∀ σ' H', Pv xs.length σ' H' → nx σ' H')
    (h : ∀ R : VK, R (.ref p) H → te σ H R) : tFor (iList K te) (gTup K 2 (gCons (gName j) (gCons (gName l) gNil))) tb (Ends.mk nx rt bk ct) σ H :=
  h _ ⟨p, rfl, ⟨xs, hq⟩, for_list (xs := xs) Pv h0 hl (fun i x σ' H' hx p => by
    obtain ⟨a, u, v, rfl, ha, hb⟩ := hs i x σ' H' hx p
    exact ⟨a, [u, v], rfl, ha, rfl, _, _, rfl, _, _, rfl, rfl, hb⟩) hd⟩
theorem ok_law_held {k : Nat} {f : Addr} {fd : FuncData} (D : Df K mg "_law_held" s_law_held ["state"] f fd)  (M : Bl mg) : FnOk P w K mg base CX0 (k + 1) f fd ["state"] spHeld := by
  refine D.F.ok sc_law_held (fun vs H Q E h => ?_) (fun cdv A outer s H vs Q E hr h => ?_)
  · obtain ⟨d, n, L, S, Hh, kvs, hs, rfl, _⟩ := h
    rfl
  obtain ⟨d, n, L, S, Hh, kvs, hs, rfl, hz, hS, hv, kn, g⟩ := h
  refine ⟨_, (pss_cons (ps_for PassesOwn.never rfl (pi_list (pe_dget (unit1 hr.units) (pv 0) pe_str (fun _ _ => rfl))) (pg_tup rfl (pgs_cons (pg_name (i := 1) sc_law_held.nd rfl (Or.inl rfl)) (pgs_cons (pg_name (i := 2) sc_law_held.nd rfl (Or.inl rfl)) pgs_nil)))
    (pss_cons (ps_if (pt_cmpR (op_neD hr.units) (pv 1) (pv 2) (nomark _)) (pss_one (ps_ret pe_bl)) pss_nil)
    (pss_one (ps_expr (pe_bm PySem.F.plainAttrs_list PySem.F.slot_list_append PySem.F.type_list_append mt_append (pv 1) (pa_cons (pe_un un_neg pe_int) pa_nil))))))
   (pss_one (ps_ret pe_bl))), ?_⟩
  have hin : ∀ {A : Led}, (S, HO.dK kvs) ∈ A ++ ((Hh, .lst (hts hs)) :: L) := fun {A} => List.mem_append_right _ (List.mem_cons_of_mem _ hS)
  have hhs : ∀ {A : Led}, (Hh, HO.lst (hts hs)) ∈ A ++ ((Hh, .lst (hts hs)) :: L) := fun {A} => List.mem_append_right _ List.mem_cons_self
  refine kSeq (kForL2 (K := K) (p := Hh) (xs := hts hs) (fun i σ' H' => ∃ (x1 x2 : Option V), σ' = [some (.ref S), x1, x2] ∧ Kn d n (heldLed (hs.drop i) ++ ((Hh, .lst (hts hs)) :: L)) H') (kn.seqL hhs) ⟨_, _, rfl, kn⟩ (fun i σ' H' _ hW => by obtain ⟨_, _, _, k'⟩ := hW; exact k'.seqL hhs) (fun i x σ' H' hx hW => ?_) (fun σ' H' hW => ?_) fun R hR => kDGet rfl (kn.mem hin) hv hR)
  · obtain ⟨x1, x2, rfl, kn2⟩ := hW
    obtain ⟨e, he, rfl⟩ : ∃ z, hs[i]? = some z ∧ x = V.ref z.1 := by
      unfold hts at hx
      rw [List.getElem?_map] at hx
      cases e : hs[i]? with
      | none => rw [e] at hx; cases hx
      | some z => rw [e] at hx; exact ⟨z, rfl, (Option.some.inj hx).symm⟩
    have hi := (List.getElem?_eq_some_iff.mp he).1
    have hdr : hs.drop i = e :: hs.drop (i + 1) := by
      rw [List.drop_eq_getElem_cons hi]
      congr 1
      exact (List.getElem?_eq_some_iff.mp he).2
    obtain ⟨t, a, b, zs⟩ := e
    have hzl := hz (t, a, b, zs) (List.mem_of_getElem? he)
    have kn3 : Kn d n ((t, .tup [.ref a, .ref b]) :: (a, .lst (zs.map V.int)) :: (b, .lst (zs.map V.int)) :: (heldLed (hs.drop (i + 1)) ++ ((Hh, .lst (hts hs)) :: L))) H' := by
      rw [hdr] at kn2
      exact kn2
    refine ⟨t, _, _, rfl, kn3.seqT List.mem_cons_self, ?_⟩
    refine kSeq (kIfS ?_)
    walk_at "go"
    refine kNeL (xs := zs) (ys := zs) (kn3.seqL (List.mem_cons_of_mem _ List.mem_cons_self)) (kn3.seqL (List.mem_cons_of_mem _ (List.mem_cons_of_mem _ List.mem_cons_self))) ?_
    refine kBl ?_
    rw [decide_eq_true rfl]
    refine iteF ?_
    walk_at "go"
    refine kAppK kn3 1 rfl (by rw [List.length_map]; have : zs.length ≤ 1000 := hzl; omega) fun H4 kn4 => ?_
    exact ⟨_, _, rfl, kn4.tail.tail.tail⟩
  · obtain ⟨x1, x2, rfl, kn2⟩ := hW
    have e : heldLed (hs.drop (hts hs).length) = [] := by
      unfold hts
      rw [List.length_map, List.drop_length]
      rfl
    rw [e] at kn2
    walk_at "go"
    exact g _ kn2
end

/-! ### late hands asked -/
abbrev s_law_asked : Stmt := topS 41
theorem sc_law_asked : FnScope ["dice", "hands", "state", "way", "told", "house", "k", "one"] ["dice", "hands", "state", "way"] (defScope s_law_asked) := ⟨rfl, rfl, rfl, by decide +kernel, rfl, by decide +kernel, by decide +kernel⟩
abbrev s_law_looks : Stmt := topS 42
theorem sc_law_looks : FnScope ["dice", "hands", "state", "first", "k"] ["dice", "hands", "state"] (defScope s_law_looks) := ⟨rfl, rfl, rfl, by decide +kernel, rfl, by decide +kernel, by decide +kernel⟩
theorem keptPerm {A Hl R : Led} {Dd Hh' : Addr × HO} {N : Led} : (N ++ (Hh' :: (A ++ Dd :: (Hl ++ R)))).Perm (A ++ (Dd :: Hh' :: ((Hl ++ N) ++ R))) := by
  have s1 : (Hh' :: (A ++ Dd :: (Hl ++ R))).Perm (A ++ (Dd :: Hh' :: (Hl ++ R))) := List.perm_middle.symm.trans (List.Perm.append_left A (List.Perm.swap _ _ _))
  refine (List.Perm.append_left N s1).trans ?_
  have e : A ++ (Dd :: Hh' :: (Hl ++ R)) = (A ++ Dd :: Hh' :: Hl) ++ R := by simp
  have e2 : A ++ (Dd :: Hh' :: ((Hl ++ N) ++ R)) = ((A ++ Dd :: Hh' :: Hl) ++ N) ++ R := by simp
  rw [e, e2, ← List.append_assoc]
  exact List.Perm.append_right R List.perm_append_comm
theorem heldPerm {A Z : Led} {Dd Hh : Addr × HO} : (A ++ (Dd :: Hh :: Z)).Perm (Hh :: (A ++ Dd :: Z)) := (List.Perm.append_left A (List.Perm.swap _ _ _)).trans List.perm_middle
theorem heldLed_snoc (hs : List He) (e : He) : heldLed (hs ++ [e]) = heldLed hs ++ heOne e := by
  unfold heldLed
  rw [List.flatMap_append]
  simp
theorem st_kept {C : Addr} {c : Hd} {done : List Nat} {hs : List He} {d : Addr} {n : Nat} {H : Hp} {t b told : Addr} {zs : List Int} (kn : Kn d n ((t, .tup [.ref told, .ref b]) :: (b, .lst (zs.map V.int)) :: (told, .lst (zs.map V.int)) :: (c.Hh, .lst (hts hs ++ [.ref t])) :: (handsLed c.x c.dx C c.p c.m c.l c.as (rowsH c.m c.xs c.ls done) ++ (c.D, .lst (done.map vN)) :: (heldLed hs ++ c.R))) H) :
    Kn d n (stLed C c done (hs ++ [(t, told, b, zs)])) H := by
  have k2 := kn.perm (List.Perm.cons _ (List.Perm.swap _ _ _))
  have k3 := k2.perm (keptPerm (A := handsLed c.x c.dx C c.p c.m c.l c.as (rowsH c.m c.xs c.ls done)) (N := [(t, HO.tup [V.ref told, V.ref b]), (told, HO.lst (zs.map V.int)), (b, HO.lst (zs.map V.int))]) (Hh' := ((c.Hh, HO.lst (hts hs ++ [V.ref t])) : Addr × HO)) (Dd := ((c.D, HO.lst (done.map vN)) : Addr × HO)) (Hl := heldLed hs) (R := c.R))
  unfold stLed
  rw [heldLed_snoc]
  have eh : hts (hs ++ [(t, told, b, zs)]) = hts hs ++ [V.ref t] := by
    unfold hts
    rw [List.map_append]
    rfl
  rw [eh]
  exact k3
theorem kEqDI {K : PySem.W.Frag} {H : Hp} {Q : VK} {z : Int} (q : Q (.bl true) H) : rEqD K (.int z) (.int z) H Q := by
  refine ⟨.int z, .int z, .int z, .int z, ?_, ?_, ?_⟩
  · simp [SeqAt.shaped, PyData.canLay0, PyData.depth]
  · simp [SeqAt.shaped, PyData.canLay0, PyData.depth]
  · have e : PyData.eqv (.int z) (.int z) = true := by simp [PyData.eqv]
    rw [e]
    exact q
def spAskedH (C : Addr) : Sp := fun vs H Q _ => ∃ (d : Addr) (n0 : Nat) (c : Hd) (done : List Nat) (hs : List He) (way : Int), vs = [.ref d, .ref c.x, .ref c.S, .int way] ∧ 0 ≤ way ∧ way ≤ 2 ∧ DOk c done ∧ HdOk c ∧ hs.length ≤ 80000 ∧ n0 ≤ 2 ^ 58 ∧ (∀ e ∈ hs, e.2.2.2.length ≤ 1000) ∧ Kn d n0 (stLed C c done hs) H ∧
  ∀ hs' H', hs'.length ≤ hs.length + 1 → (∀ e ∈ hs', e.2.2.2.length ≤ 1000) → Kn d (n0 + 20) (stLed C c done hs') H' → Q (.bl true) H'
/-- a list told, handed on to be kept -/
theorem kKept {C : Addr} {c : Hd} {done : List Nat} {hs : List He} {d told : Addr} {n0 : Nat} {zs : List Int} {H : Hp} {Q : VK} {E : XK} (hc : HdOk c) (hz : zs.length ≤ 200) (hl : hs.length ≤ 80000) (hn : n0 ≤ 2 ^ 59) (hh : ∀ e ∈ hs, e.2.2.2.length ≤ 1000)
    (kn : Kn d n0 ((told, .lst (zs.map V.int)) :: stLed C c done hs) H) (g : ∀ hs' H', hs'.length ≤ hs.length + 1 → (∀ e ∈ hs', e.2.2.2.length ≤ 1000) → Kn d (n0 + 10) (stLed C c done hs') H' → Q (.bl true) H') : spKept [.ref d, .ref c.S, .ref told] H Q E := by
  have kn2 := kn.perm (List.Perm.cons _ (heldPerm (A := handsLed c.x c.dx C c.p c.m c.l c.as (rowsH c.m c.xs c.ls done)) (Dd := (c.D, .lst (done.map vN))) (Hh := (c.Hh, .lst (hts hs))) (Z := heldLed hs ++ c.R)))
  refine ⟨d, n0, _, c.S, c.Hh, told, c.kvs, hts hs, zs, rfl, hz, ?_, hn, ?_, hc.kv.kh, kn2, fun t b zs' H' hz' kn3 => ?_⟩
  · unfold hts
    rw [List.length_map]
    omega
  · exact List.mem_append_right _ (List.mem_cons_of_mem _ (List.mem_append_right _ hc.st))
  · refine g (hs ++ [(t, told, b, zs')]) H' (by simp) (fun e he => ?_) (st_kept kn3)
    rcases List.mem_append.mp he with he | he
    · exact hh e he
    · rw [List.mem_singleton.mp he]
      exact hz'
section
variable {P : Program} {w : World} {K : PySem.W.Frag} {mg : Str → Option Value} {base : Heap} {C_Hands : Addr} (cl_Hands : Cls K C_Hands) (na_Hands_labels : NoAttr K C_Hands "labels") (na_Hands_m : NoAttr K C_Hands "m") (na_Hands_pointing : NoAttr K C_Hands "pointing")
  {C_NoHouse fI_NoHouse : Addr} {fd_NoHouse : FuncData} {m_NoHouse : Expr} {bm_NoHouse : List Value} (E_NoHouse : Rf P K mg "NoHouse" "house" C_NoHouse fI_NoHouse fd_NoHouse m_NoHouse bm_NoHouse)
include cl_Hands na_Hands_labels na_Hands_m na_Hands_pointing E_NoHouse
theorem ok_law_asked {k : Nat} {f a_is_whole a_is_house a_check_house a_halvings a_needed_steps a_rounds a_Hands_can_go a_Hands_done a_Hands_ready a_Hands_label a_law_roll a_law_whole a_law_can a_law_kept : Addr} {fd fd_is_whole fd_is_house fd_check_house fd_halvings fd_needed_steps fd_rounds fd_Hands_can_go fd_Hands_done fd_Hands_ready fd_Hands_label fd_law_roll fd_law_whole fd_law_can fd_law_kept : FuncData} (D : Df K mg "_law_asked" s_law_asked ["dice", "hands", "state", "way"] f fd) (D_is_whole : Df K mg "is_whole" s_is_whole ["thing"] a_is_whole fd_is_whole) (D_is_house : Df K mg "is_house" s_is_house ["thing", "many"] a_is_house fd_is_house) (D_check_house : Df K mg "check_house" s_check_house ["pointing", "number"] a_check_house fd_check_house) (D_halvings : Df K mg "halvings" s_halvings ["m"] a_halvings fd_halvings) (D_needed_steps : Df K mg "needed_steps" s_needed_steps ["m"] a_needed_steps fd_needed_steps) (D_rounds : Df K mg "rounds" s_rounds ["m"] a_rounds fd_rounds) (D_Hands_can_go : Mf K C_Hands "can_go" "Hands.can_go" s_Hands_can_go ["self", "house"] a_Hands_can_go fd_Hands_can_go) (D_Hands_done : Mf K C_Hands "done" "Hands.done" s_Hands_done ["self"] a_Hands_done fd_Hands_done) (D_Hands_ready : Mf K C_Hands "ready" "Hands.ready" s_Hands_ready ["self"] a_Hands_ready fd_Hands_ready) (D_Hands_label : Mf K C_Hands "label" "Hands.label" s_Hands_label ["self", "house", "k"] a_Hands_label fd_Hands_label) (D_law_roll : Df K mg "_law_roll" s_law_roll ["dice", "size"] a_law_roll fd_law_roll) (D_law_whole : Df K mg "_law_whole" s_law_whole ["thing"] a_law_whole fd_law_whole) (D_law_can : Df K mg "_law_can" s_law_can ["state"] a_law_can fd_law_can) (D_law_kept : Df K mg "_law_kept" s_law_kept ["dice", "state", "told"] a_law_kept fd_law_kept) (C1 : ∃ t, mg "SHORT" = some (.int 6 t)) (C3 : ∃ a, mg "GONE_HUES" = some (.ref a) ∧ ∀ H, SqT K H a (([5, 4, 3] : List Int).map V.int)) (C4 : ∃ t, mg "ROUNDS_EACH" = some (.int 2 t)) (M : Bl mg) : FnOk P w K mg base CX0 (k + 1 + 1 + 1 + 1 + 1 + 1) f fd ["dice", "hands", "state", "way"] (spAskedH C_Hands) := by
  have G_law_roll := ok_law_roll (P := P) (w := w) (base := base) (k := 0) D_law_roll M
  have G_law_whole := ok_law_whole (P := P) (w := w) (base := base) (k := 0) D_law_whole M
  have G_law_can := ok_law_can (P := P) (w := w) (base := base) (k := 0) D_law_can M
  have G_law_kept := ok_law_kept (P := P) (w := w) (base := base) (k := 0) D_law_kept D_law_roll M
  have G_Hands_done := ok_Hands_done (P := P) (w := w) (base := base) (k := 0) cl_Hands na_Hands_labels na_Hands_m na_Hands_pointing D_Hands_done M
  have G_Hands_ready := ok_Hands_ready (P := P) (w := w) (base := base) (k := 0) cl_Hands na_Hands_labels na_Hands_m na_Hands_pointing D_Hands_ready D_halvings D_needed_steps D_rounds D_Hands_can_go C1 C3 C4 M
  have G_Hands_label := ok_Hands_label (P := P) (w := w) (base := base) (k := 0) cl_Hands na_Hands_labels na_Hands_m na_Hands_pointing E_NoHouse D_Hands_label D_is_whole D_is_house D_check_house M
  refine D.F.ok sc_law_asked (fun vs H Q E h => ?_) (fun cdv A outer s H vs Q E hr h => ?_)
  · obtain ⟨d, n0, c, done, hs, way, rfl, _⟩ := h
    rfl
  obtain ⟨d, n0, c, done, hs, way, rfl, w0, w1, ho, hc, hhl, hn, hhz, kn, g⟩ := h
  refine ⟨_, (pss_cons (ps_if (pt_cmpR op_eq (pv 3) pe_int (nomark _)) (pss_cons (ps_set (i := 4) sc_law_asked.nd rfl (Or.inl rfl) (pe_meth0 (pv 1) cl_Hands D_Hands_done.mt G_Hands_done (hr.mono (by omega)) D_Hands_done.b .nil pass0))
    (pss_cons (ps_if (PW.pt (pw_or (pt_not (pt_val (pe_callB call_isi (by rfl) M.isinstance (by decide +kernel) (pa_cons (pv 4) (pa_cons (pe_bltn (v := .ty "list") (u := .type "list") (by rfl) M.list (by decide +kernel) rfl) pa_nil))))) (pw_or (pt_cmpR (op_neD hr.units) (pv 4) (pe_dget (unit1 hr.units) (pv 2) pe_str (fun _ _ => rfl)) (nomark _)) (pw_or1 (pt_cmpR (op_neD hr.units) (pe_lc (own := [("one", 7)]) (g := gName 7) (by rfl) sc_law_asked.nd (pi_list (pv 4)) (blkOk_by (own := [("one", 7)]) (N := ["dice", "hands", "state", "way", "told", "house", "k", "one"]) (sc := defScope s_law_asked) (by decide +kernel)) (fun _ _ _ _ _ => (pg_name (i := 7) sc_law_asked.nd rfl (Or.inl rfl))) (fun _ _ _ _ _ => (pts_one (pt_not (pt_val (pe_call G_law_whole (hr.mono (by omega)) (by rfl) D_law_whole.g D_law_whole.F.kp D_law_whole.b .nil pass0 (pa_cons (pv 7) pa_nil)))))) (fun _ _ _ _ _ => (pv 7))) (pe_lst pa_nil) (nomark _)))))) (pss_one (ps_ret pe_bl)) pss_nil)
    (pss_one (ps_ret (pe_call G_law_kept (hr.mono (by omega)) (by rfl) D_law_kept.g D_law_kept.F.kp D_law_kept.b .nil pass0 (pa_cons (pv 0) (pa_cons (pv 2) (pa_cons (pv 4) pa_nil)))))))) pss_nil)
   (pss_cons (ps_if (pt_cmpR op_eq (pv 3) pe_int (nomark _)) (pss_cons (ps_set (i := 4) sc_law_asked.nd rfl (Or.inl rfl) (pe_meth0 (pv 1) cl_Hands D_Hands_ready.mt G_Hands_ready (hr.mono (by omega)) D_Hands_ready.b .nil pass0))
    (pss_cons (ps_if (PW.pt (pw_or (pt_not (pt_val (pe_callB call_isi (by rfl) M.isinstance (by decide +kernel) (pa_cons (pv 4) (pa_cons (pe_bltn (v := .ty "list") (u := .type "list") (by rfl) M.list (by decide +kernel) rfl) pa_nil))))) (pw_or (pt_cmpR (op_neD hr.units) (pv 4) (pe_call G_law_can (hr.mono (by omega)) (by rfl) D_law_can.g D_law_can.F.kp D_law_can.b .nil pass0 (pa_cons (pv 2) pa_nil)) (nomark _)) (pw_or1 (pt_cmpR (op_neD hr.units) (pe_lc (own := [("one", 7)]) (g := gName 7) (by rfl) sc_law_asked.nd (pi_list (pv 4)) (blkOk_by (own := [("one", 7)]) (N := ["dice", "hands", "state", "way", "told", "house", "k", "one"]) (sc := defScope s_law_asked) (by decide +kernel)) (fun _ _ _ _ _ => (pg_name (i := 7) sc_law_asked.nd rfl (Or.inl rfl))) (fun _ _ _ _ _ => (pts_one (pt_not (pt_val (pe_call G_law_whole (hr.mono (by omega)) (by rfl) D_law_whole.g D_law_whole.F.kp D_law_whole.b .nil pass0 (pa_cons (pv 7) pa_nil)))))) (fun _ _ _ _ _ => (pv 7))) (pe_lst pa_nil) (nomark _)))))) (pss_one (ps_ret pe_bl)) pss_nil)
    (pss_one (ps_ret (pe_call G_law_kept (hr.mono (by omega)) (by rfl) D_law_kept.g D_law_kept.F.kp D_law_kept.b .nil pass0 (pa_cons (pv 0) (pa_cons (pv 2) (pa_cons (pv 4) pa_nil)))))))) pss_nil)
   (pss_cons (ps_set (i := 5) sc_law_asked.nd rfl (Or.inl rfl) (pe_call G_law_roll (hr.mono (by omega)) (by rfl) D_law_roll.g D_law_roll.F.kp D_law_roll.b .nil pass0 (pa_cons (pv 0) (pa_cons (pe_callB c_len (by rfl) M.len PySem.boot_len (pa_cons (pe_dget (unit1 hr.units) (pv 2) pe_str (fun _ _ => rfl)) pa_nil)) pa_nil))))
   (pss_cons (ps_set (i := 6) sc_law_asked.nd rfl (Or.inl rfl) (pe_call G_law_roll (hr.mono (by omega)) (by rfl) D_law_roll.g D_law_roll.F.kp D_law_roll.b .nil pass0 (pa_cons (pv 0) (pa_cons (pe_op op_add (pe_callB c_len (by rfl) M.len PySem.boot_len (pa_cons (pe_dget (unit1 hr.units) (pv 2) pe_str (fun _ _ => rfl)) pa_nil)) pe_int) pa_nil))))
   (pss_cons (ps_if (pt_cmpR op_eq (pe_call G_law_roll (hr.mono (by omega)) (by rfl) D_law_roll.g D_law_roll.F.kp D_law_roll.b .nil pass0 (pa_cons (pv 0) (pa_cons pe_int pa_nil))) pe_int (nomark _)) (pss_one (ps_set (i := 6) sc_law_asked.nd rfl (Or.inl rfl) (pe_op op_sub (pe_op op_pow pe_int pe_int) (pv 6)))) pss_nil)
   (pss_cons (ps_set (i := 4) sc_law_asked.nd rfl (Or.inl rfl) (pe_meth (pv 1) cl_Hands D_Hands_label.mt G_Hands_label (hr.mono (by omega)) D_Hands_label.b .nil passX (pa_cons (pv 5) (pa_cons (pv 6) pa_nil))))
   (pss_cons (ps_if (pt_cmpR op_gt (pv 6) (pe_ix ix_list (pe_dget (unit1 hr.units) (pv 2) pe_str (fun _ _ => rfl)) (pv 5) (fun _ _ => rfl)) (nomark _)) (pss_one (ps_ret (pe_cmpR op_isN (pv 4) pe_non (nomark _)))) pss_nil)
   (pss_one (ps_ret (pe_and (pe_call G_law_whole (hr.mono (by omega)) (by rfl) D_law_whole.g D_law_whole.F.kp D_law_whole.b .nil pass0 (pa_cons (pv 4) pa_nil)) (pe_one (pe_cmpR (op_eqD hr.units) (pv 4) (pe_ix ix_list (pe_ix ix_list (pe_dget (unit1 hr.units) (pv 2) pe_str (fun _ _ => rfl)) (pv 6) (fun _ _ => rfl)) (pv 5) (fun _ _ => rfl)) (nomark _))))))))))))), ?_⟩
  have h60 := ho.pt.most
  have dlen := ho.dl
  have hsh := halv_short ho.m62
  have nog : ∀ f : Str, ¬ f = "labels" → ¬ f = "m" → ¬ f = "pointing" → (hf c.p c.m c.l).lookup f = none := fun f h1 h2 h3 => hf_no _ _ _ h1 h2 h3
  have nD := nog "done" (by decide +kernel) (by decide +kernel) (by decide +kernel)
  have nR := nog "ready" (by decide +kernel) (by decide +kernel) (by decide +kernel)
  have nL := nog "label" (by decide +kernel) (by decide +kernel) (by decide +kernel)
  have hli : LIn (stLed C_Hands c done hs) c done := hc.lin
  have hat : HandsAt (stLed C_Hands c done hs) c.x C_Hands c.p c.m c.l c.as c.xs c.ls done := hc.hat
  have hins : (c.x, HO.ins C_Hands c.dx (hf c.p c.m c.l)) ∈ stLed C_Hands c done hs := st_ins
  have hes := esLen hli
  refine kSeq (kIfS ?_)
  walk_at "go"
  refine iteI (fun hw => ?_) (fun hw => ?_)
  · walk_at "go"
    refine kMeth rfl (kn.mem hins) nD ?_
    walk_at "go"
    refine ⟨d, n0, _, c.x, c.p, c.l, c.as, c.xs, c.ls, c.m, done, rfl, ho, hat, kn, fun r H1 kn1 => ?_⟩
    rw [vN_map] at kn1
    refine kSeq (kIfS ?_)
    walk_at "go"
    refine iteF ?_
    walk_at "go"
    refine kDGet rfl (kn1.mem (List.mem_cons_of_mem _ hli.st)) hc.kv.kd ?_
    have hdn := hli.dn
    rw [vN_map] at hdn
    refine kNeL (xs := done.map (fun n : Nat => (n : Int))) (ys := done.map (fun n : Nat => (n : Int))) (kn1.seqL List.mem_cons_self) (kn1.seqL (List.mem_cons_of_mem _ hdn)) ?_
    refine kBl ?_
    rw [decide_eq_true rfl]
    refine iteF ?_
    walk_at "go"
    refine kLcL kn1 List.mem_cons_self (fun R hR => by walk_at "go"; exact hR) (by rw [List.length_map, List.length_map]; omega) (fun i => []) rfl (fun i => Nat.zero_le _) (fun _ => rfl) (fun i v H' D hx kn2 N1 N2 h1 h2 => ?_) (fun D H' kn2 => ?_)
    · obtain ⟨z, rfl⟩ : ∃ z, v = V.int z := by
        rw [List.getElem?_map] at hx
        cases e : (done.map (fun n : Nat => (n : Int)))[i]? with
        | none => rw [e] at hx; cases hx
        | some z => rw [e] at hx; exact ⟨z, (Option.some.inj hx).symm⟩
      walk_at "go"
      refine ⟨z, rfl, ?_⟩
      refine kBl ?_
      refine iteF ?_
      exact h2 _ kn2 rfl
    · walk_at "go"
      rename_i em H3 kn3
      refine kNeL (xs := []) (ys := []) (kn3.seqL (List.mem_cons_of_mem _ List.mem_cons_self)) (kn3.seqL List.mem_cons_self) ?_
      refine kBl ?_
      rw [decide_eq_true rfl]
      refine iteF ?_
      walk_at "go"
      refine kKept (zs := done.map (fun n : Nat => (n : Int))) hc (by rw [List.length_map]; omega) (by omega) (by omega) hhz (kn3.tail.tail) fun hs' H' hl' hz' kn4 => ?_
      exact g hs' _ hl' hz' (kn4.more (by omega))
  walk_at "go"
  refine kSeq (kIfS ?_)
  walk_at "go"
  refine iteI (fun hw2 => ?_) (fun hw2 => ?_)
  · walk_at "go"
    refine kMeth rfl (kn.mem hins) nR ?_
    walk_at "go"
    refine ⟨d, n0, _, c.x, c.p, c.l, c.as, c.xs, c.ls, c.m, done, rfl, ho, hat, kn, fun r H1 kn1 => ?_⟩
    refine kSeq (kIfS ?_)
    walk_at "go"
    refine iteF ?_
    walk_at "go"
    refine ⟨d, n0, _, c, done, rfl, ho, hc.kv, hli.up fun y hy => List.mem_cons_of_mem _ hy, kn1, fun r2 H2 kn2 => ?_⟩
    rw [vN_map] at kn2
    have hcl : (canL c.xs c.m done).length ≤ 60 := Nat.le_trans (List.length_filter_le _ _) (by rw [List.length_range]; omega)
    refine kNeL (xs := (canL c.xs c.m done).map (fun n : Nat => (n : Int))) (ys := (canL c.xs c.m done).map (fun n : Nat => (n : Int))) (kn2.seqL (List.mem_cons_of_mem _ List.mem_cons_self)) (kn2.seqL List.mem_cons_self) ?_
    refine kBl ?_
    rw [decide_eq_true rfl]
    refine iteF ?_
    have kn2 := kn2.tail
    walk_at "go"
    refine kLcL kn2 List.mem_cons_self (fun R hR => by walk_at "go"; exact hR) (by rw [List.length_map, List.length_map]; omega) (fun i => []) rfl (fun i => Nat.zero_le _) (fun _ => rfl) (fun i v H' D hx kn3 N1 N2 h1 h2 => ?_) (fun D H' kn3 => ?_)
    · obtain ⟨z, rfl⟩ : ∃ z, v = V.int z := by
        rw [List.getElem?_map] at hx
        cases e : ((canL c.xs c.m done).map (fun n : Nat => (n : Int)))[i]? with
        | none => rw [e] at hx; cases hx
        | some z => rw [e] at hx; exact ⟨z, (Option.some.inj hx).symm⟩
      walk_at "go"
      refine ⟨z, rfl, ?_⟩
      refine kBl ?_
      refine iteF ?_
      exact h2 _ kn3 rfl
    · walk_at "go"
      rename_i em H3 kn4
      refine kNeL (xs := []) (ys := []) (kn4.seqL (List.mem_cons_of_mem _ List.mem_cons_self)) (kn4.seqL List.mem_cons_self) ?_
      refine kBl ?_
      rw [decide_eq_true rfl]
      refine iteF ?_
      walk_at "go"
      refine kKept (zs := (canL c.xs c.m done).map (fun n : Nat => (n : Int))) hc (by rw [List.length_map]; omega) (by omega) (by omega) hhz (kn4.tail.tail) fun hs' H' hl' hz' kn5 => ?_
      exact g hs' _ hl' hz' (kn5.more (by omega))
  walk_at "go"
  refine kDGet rfl (kn.mem hli.st) hc.kv.kd ?_
  walk_at "go"
  refine kLenL (kn.seqL hli.dn) ?_
  walk_at "go"
  rw [List.length_map, dlen]
  have h2 := ho.pt.two
  refine kRoll kn (by omega) (by omega) (by omega) fun house H1 ho0 ho1 kn1 => ?_
  walk_at "go"
  refine kDGet rfl (kn1.mem hli.st) hc.kv.ke ?_
  walk_at "go"
  refine kLenL (kn1.seqL hli.ev) ?_
  walk_at "go"
  rw [List.length_map, hes]
  refine kRoll kn1 (by omega) (by omega) (by omega) fun kk H2 k0 k1 kn2 => ?_
  walk_at "go"
  have h59 : (10 : Int) ^ Int.toNat 59 = 100000000000000000000000000000000000000000000000000000000000 := by decide
  refine kJoin (fun σ' H' => ∃ kv : Int, 0 ≤ kv ∧ σ' = [some (.ref d), some (.ref c.x), some (.ref c.S), some (.int way), none, some (.int house), some (.int kv), none] ∧ Kn d (n0 + 3) (stLed C_Hands c done hs) H') (fun σ' H' hW => ?_) fun N join => ?_
  case refine_2 =>
    refine kIfS ?_
    walk_at "go"
    refine kRoll kn2 (by omega) (by omega) (by omega) fun rr H3 _ _ kn3 => ?_
    walk_at "go"
    refine iteI (fun _ => ?_) (fun _ => ?_)
    · walk_at "go"
      refine join _ _ ⟨_, ?_, rfl, kn3⟩
      rw [h59]
      omega
    · walk_at "go"
      exact join _ _ ⟨kk, k0, rfl, kn3⟩
  obtain ⟨kv, hkv, rfl, kn3⟩ := hW
  walk_at "go"
  refine kMeth rfl (kn3.mem hins) nL ?_
  walk_at "go"
  refine ⟨d, _, _, c.x, c.p, c.l, c.as, c.xs, c.ls, c.m, done, house, kv, rfl, hkv, ho, hat, kn3, fun _ H4 kn4 => ?_, fun hh => absurd ⟨ho0, ho1⟩ hh⟩
  obtain ⟨hi, rfl⟩ : ∃ hi : Nat, house = (hi : Int) := ⟨house.toNat, by omega⟩
  rw [Int.toNat_natCast]
  have gg := g hs H4 (by omega) hhz (kn4.more (by omega))
  refine kSeq (kIfS ?_)
  walk_at "go"
  refine kDGet rfl (kn4.mem hli.st) hc.kv.kd ?_
  walk_at "go"
  refine kIxL (kn4.seqL hli.dn) (at_nat (by omega)) ?_
  walk_at "go"
  refine iteD (fun hk => ?_) (fun hk => ?_)
  · rw [if_neg (by omega)]
    walk_at "go"
    refine ⟨rfl, ?_⟩
    exact gg
  · rw [if_pos (by omega)]
    walk_at "go"
    refine ⟨_, rfl, ?_⟩
    refine kBl ?_
    refine iteT ?_
    have hdl := ho.top (done.getD hi 0) (getD_mem (by omega))
    obtain ⟨kn', hkn⟩ : ∃ kn' : Nat, kv = (kn' : Int) := ⟨kv.toNat, by omega⟩
    subst hkn
    rw [Int.toNat_natCast]
    obtain ⟨e, he⟩ : ∃ e, c.es[kn']? = some e := ⟨_, List.getElem?_eq_getElem (by omega)⟩
    have me := hli.rows.at_ kn' e (evRow c.m c.xs c.ls kn') he (by rw [List.getElem?_map, List.getElem?_range (by omega)]; rfl)
    walk_at "go"
    refine kDGet rfl (kn4.mem hli.st) hc.kv.ke ?_
    walk_at "go"
    refine kIxL (kn4.seqL hli.ev) (atI_at (j := kn') rfl (by rw [List.getElem?_map, he]; rfl)) ?_
    walk_at "go"
    refine kIxL (kn4.seqL me) (atInt (evRow_get (by omega))) ?_
    walk_at "go"
    refine kEqDI ?_
    exact gg
end

/-! ### late hands looked at; let go -/
abbrev s_law_gone : Stmt := topS 43
theorem sc_law_gone : FnScope ["hands", "state", "house", "told"] ["hands", "state", "house"] (defScope s_law_gone) := ⟨rfl, rfl, rfl, by decide +kernel, rfl, by decide +kernel, by decide +kernel⟩
abbrev s_law_goes : Stmt := topS 44
theorem sc_law_goes : FnScope ["dice", "hands", "state", "some", "house", "turn"] ["dice", "hands", "state"] (defScope s_law_goes) := ⟨rfl, rfl, rfl, by decide +kernel, rfl, by decide +kernel, by decide +kernel⟩
def spLooks (C : Addr) : Sp := fun vs H Q _ => ∃ (d : Addr) (n0 : Nat) (c : Hd) (done : List Nat) (hs : List He), vs = [.ref d, .ref c.x, .ref c.S] ∧ DOk c done ∧ HdOk c ∧ hs.length ≤ 70000 ∧ n0 ≤ 2 ^ 57 ∧ (∀ e ∈ hs, e.2.2.2.length ≤ 1000) ∧ Kn d n0 (stLed C c done hs) H ∧
  ∀ hs' H', hs'.length ≤ hs.length + 3 → (∀ e ∈ hs', e.2.2.2.length ≤ 1000) → Kn d (n0 + 100) (stLed C c done hs') H' → Q (.bl true) H'
def spGone (C : Addr) : Sp := fun vs H Q _ => ∃ (d : Addr) (n0 : Nat) (c : Hd) (done : List Nat) (hs : List He) (i : Nat), vs = [.ref c.x, .ref c.S, .int (i : Int)] ∧ DOk c done ∧ HdOk c ∧ i < c.xs.length ∧ canB c.xs c.m done i = true ∧ Kn d n0 (stLed C c done hs) H ∧
  ∀ H', Kn d n0 (stLed C c (done.set i (done.getD i 0 + 1)) hs) H' → Q (.bl true) H'
def spGoes (C : Addr) : Sp := fun vs H Q _ => ∃ (d : Addr) (n0 : Nat) (c : Hd) (done : List Nat) (hs : List He), vs = [.ref d, .ref c.x, .ref c.S] ∧ DOk c done ∧ HdOk c ∧ n0 ≤ 2 ^ 57 ∧ Kn d n0 (stLed C c done hs) H ∧
  ∀ done' H', DOk c done' → Kn d (n0 + 100) (stLed C c done' hs) H' → Q (.bl true) H'
section
variable {P : Program} {w : World} {K : PySem.W.Frag} {mg : Str → Option Value} {base : Heap} {C_Hands : Addr} (cl_Hands : Cls K C_Hands) (na_Hands_labels : NoAttr K C_Hands "labels") (na_Hands_m : NoAttr K C_Hands "m") (na_Hands_pointing : NoAttr K C_Hands "pointing")
  {C_NoHouse fI_NoHouse : Addr} {fd_NoHouse : FuncData} {m_NoHouse : Expr} {bm_NoHouse : List Value} (E_NoHouse : Rf P K mg "NoHouse" "house" C_NoHouse fI_NoHouse fd_NoHouse m_NoHouse bm_NoHouse)
  {C_NotReady fI_NotReady : Addr} {fd_NotReady : FuncData} {m_NotReady : Expr} {bm_NotReady : List Value} (E_NotReady : Rf P K mg "NotReady" "house" C_NotReady fI_NotReady fd_NotReady m_NotReady bm_NotReady)
include cl_Hands na_Hands_labels na_Hands_m na_Hands_pointing E_NoHouse
theorem ok_law_looks {k : Nat} {f a_is_whole a_is_house a_check_house a_halvings a_needed_steps a_rounds a_Hands_can_go a_Hands_done a_Hands_ready a_Hands_label a_law_roll a_law_whole a_law_can a_law_kept a_law_asked : Addr} {fd fd_is_whole fd_is_house fd_check_house fd_halvings fd_needed_steps fd_rounds fd_Hands_can_go fd_Hands_done fd_Hands_ready fd_Hands_label fd_law_roll fd_law_whole fd_law_can fd_law_kept fd_law_asked : FuncData} (D : Df K mg "_law_looks" s_law_looks ["dice", "hands", "state"] f fd) (D_is_whole : Df K mg "is_whole" s_is_whole ["thing"] a_is_whole fd_is_whole) (D_is_house : Df K mg "is_house" s_is_house ["thing", "many"] a_is_house fd_is_house) (D_check_house : Df K mg "check_house" s_check_house ["pointing", "number"] a_check_house fd_check_house) (D_halvings : Df K mg "halvings" s_halvings ["m"] a_halvings fd_halvings) (D_needed_steps : Df K mg "needed_steps" s_needed_steps ["m"] a_needed_steps fd_needed_steps) (D_rounds : Df K mg "rounds" s_rounds ["m"] a_rounds fd_rounds) (D_Hands_can_go : Mf K C_Hands "can_go" "Hands.can_go" s_Hands_can_go ["self", "house"] a_Hands_can_go fd_Hands_can_go) (D_Hands_done : Mf K C_Hands "done" "Hands.done" s_Hands_done ["self"] a_Hands_done fd_Hands_done) (D_Hands_ready : Mf K C_Hands "ready" "Hands.ready" s_Hands_ready ["self"] a_Hands_ready fd_Hands_ready) (D_Hands_label : Mf K C_Hands "label" "Hands.label" s_Hands_label ["self", "house", "k"] a_Hands_label fd_Hands_label) (D_law_roll : Df K mg "_law_roll" s_law_roll ["dice", "size"] a_law_roll fd_law_roll) (D_law_whole : Df K mg "_law_whole" s_law_whole ["thing"] a_law_whole fd_law_whole) (D_law_can : Df K mg "_law_can" s_law_can ["state"] a_law_can fd_law_can) (D_law_kept : Df K mg "_law_kept" s_law_kept ["dice", "state", "told"] a_law_kept fd_law_kept) (D_law_asked : Df K mg "_law_asked" s_law_asked ["dice", "hands", "state", "way"] a_law_asked fd_law_asked) (C1 : ∃ t, mg "SHORT" = some (.int 6 t)) (C3 : ∃ a, mg "GONE_HUES" = some (.ref a) ∧ ∀ H, SqT K H a (([5, 4, 3] : List Int).map V.int)) (C4 : ∃ t, mg "ROUNDS_EACH" = some (.int 2 t)) (M : Bl mg) : FnOk P w K mg base CX0 (k + 1 + 1 + 1 + 1 + 1 + 1 + 1) f fd ["dice", "hands", "state"] (spLooks C_Hands) := by
  have G_law_roll := ok_law_roll (P := P) (w := w) (base := base) (k := 0) D_law_roll M
  have G_law_asked := ok_law_asked (P := P) (w := w) (base := base) (k := 0) cl_Hands na_Hands_labels na_Hands_m na_Hands_pointing E_NoHouse D_law_asked D_is_whole D_is_house D_check_house D_halvings D_needed_steps D_rounds D_Hands_can_go D_Hands_done D_Hands_ready D_Hands_label D_law_roll D_law_whole D_law_can D_law_kept C1 C3 C4 M
  refine D.F.ok sc_law_looks (fun vs H Q E h => ?_) (fun cdv A outer s H vs Q E hr h => ?_)
  · obtain ⟨d, n0, c, done, hs, rfl, _⟩ := h
    rfl
  obtain ⟨d, n0, c, done, hs, rfl, ho, hc, hhl, hn, hhz, kn, g⟩ := h
  refine ⟨_, (pss_cons (ps_set (i := 3) sc_law_looks.nd rfl (Or.inl rfl) (pe_call G_law_roll (hr.mono (by omega)) (by rfl) D_law_roll.g D_law_roll.F.kp D_law_roll.b .nil pass0 (pa_cons (pv 0) (pa_cons pe_int pa_nil))))
   (pss_cons (ps_for PassesOwn.never rfl (pi_range1 (by rfl) M.range (pa_cons (pe_ix ix_list (pe_lst (pa_cons pe_int (pa_cons pe_int (pa_cons pe_int pa_nil)))) (pe_call G_law_roll (hr.mono (by omega)) (by rfl) D_law_roll.g D_law_roll.F.kp D_law_roll.b .nil pass0 (pa_cons (pv 0) (pa_cons pe_int pa_nil))) (fun _ _ => rfl)) pa_nil)) (pg_name (i := 4) sc_law_looks.nd rfl (Or.inl rfl))
    (pss_one (ps_if (pt_not (pt_val (pe_call G_law_asked (hr.mono (by omega)) (by rfl) D_law_asked.g D_law_asked.F.kp D_law_asked.b .nil pass0 (pa_cons (pv 0) (pa_cons (pv 1) (pa_cons (pv 2) (pa_cons (pe_op op_mod (pe_op op_add (pv 3) (pv 4)) pe_int) pa_nil))))))) (pss_one (ps_ret pe_bl)) pss_nil)))
   (pss_one (ps_ret pe_bl)))), ?_⟩
  walk_at "go"
  refine kRoll kn (by omega) (by omega) (by omega) fun fi H1 f0 f1 kn1 => ?_
  walk_at "go"
  refine kSeq (kRngD (fun z H' => (0 ≤ z ∧ z ≤ 3) ∧ Kn d (n0 + 2) (stLed C_Hands c done hs) H') (fun R hR => ?_) (fun z H5 ⟨hz, kn6⟩ => ⟨by omega, fun t σ' H' => ∃ (x4 : Option V) (hs' : List He), σ' = [some (.ref d), some (.ref c.x), some (.ref c.S), some (.int fi), x4] ∧ t ≤ 3 ∧ hs'.length ≤ hs.length + t ∧ (∀ e ∈ hs', e.2.2.2.length ≤ 1000) ∧ Kn d (n0 + 2 + 20 * t) (stLed C_Hands c done hs') H',
    ⟨_, hs, rfl, by omega, by omega, hhz, kn6⟩, fun t σ' H' ht hW => ?_, fun σ' H' hW => ?_⟩))
  · walk_at "go"
    rename_i lq H2 kn2
    refine kRoll kn2 (by omega) (by omega) (by omega) fun r H3 r0 r1 kn3 => ?_
    obtain ⟨y, hy, hym⟩ := atMem (es := [0, 1, 3]) r0 (by simpa using r1)
    refine kIxL (kn3.seqL List.mem_cons_self) hy ?_
    refine hR _ _ ⟨?_, kn3.tail⟩
    simp only [List.mem_cons, List.not_mem_nil, or_false] at hym
    omega
  · obtain ⟨x4, hs', rfl, ht3, hl', hz', kn7⟩ := hW
    refine kIfS ?_
    walk_at "go"
    refine ⟨d, _, c, done, hs', _, rfl, Int.emod_nonneg _ (by omega), by have := Int.emod_lt_of_pos (fi + (t : Int)) (show (0 : Int) < 3 by omega); omega, ho, hc, by omega, by omega, hz', kn7, fun hs'' H8 hl'' hz'' kn8 => ?_⟩
    refine kBl ?_
    refine iteF ?_
    walk_at "go"
    exact ⟨_, hs'', rfl, by omega, by omega, hz'', kn8.more (by omega)⟩
  · obtain ⟨x4, hs', rfl, ht3, hl', hz', kn7⟩ := hW
    walk_at "go"
    exact g hs' _ (by omega) hz' (kn7.more (by omega))
include E_NotReady
theorem ok_law_gone {k : Nat} {f a_is_whole a_is_house a_check_house a_unlike_place a_stepped a_halvings a_needed_steps a_given_up a_rounds a_next_label a_Hands_can_go a_Hands_go a_law_whole : Addr} {fd fd_is_whole fd_is_house fd_check_house fd_unlike_place fd_stepped fd_halvings fd_needed_steps fd_given_up fd_rounds fd_next_label fd_Hands_can_go fd_Hands_go fd_law_whole : FuncData} (D : Df K mg "_law_gone" s_law_gone ["hands", "state", "house"] f fd) (D_is_whole : Df K mg "is_whole" s_is_whole ["thing"] a_is_whole fd_is_whole) (D_is_house : Df K mg "is_house" s_is_house ["thing", "many"] a_is_house fd_is_house) (D_check_house : Df K mg "check_house" s_check_house ["pointing", "number"] a_check_house fd_check_house) (D_unlike_place : Df K mg "unlike_place" s_unlike_place ["one", "other"] a_unlike_place fd_unlike_place) (D_stepped : Df K mg "stepped" s_stepped ["label", "goal_label"] a_stepped fd_stepped) (D_halvings : Df K mg "halvings" s_halvings ["m"] a_halvings fd_halvings) (D_needed_steps : Df K mg "needed_steps" s_needed_steps ["m"] a_needed_steps fd_needed_steps) (D_given_up : Df K mg "given_up" s_given_up ["ahead", "label", "goal_label", "hue"] a_given_up fd_given_up) (D_rounds : Df K mg "rounds" s_rounds ["m"] a_rounds fd_rounds) (D_next_label : Df K mg "next_label" s_next_label ["m", "own", "goal_label"] a_next_label fd_next_label) (D_Hands_can_go : Mf K C_Hands "can_go" "Hands.can_go" s_Hands_can_go ["self", "house"] a_Hands_can_go fd_Hands_can_go) (D_Hands_go : Mf K C_Hands "go" "Hands.go" s_Hands_go ["self", "house"] a_Hands_go fd_Hands_go) (D_law_whole : Df K mg "_law_whole" s_law_whole ["thing"] a_law_whole fd_law_whole) (C1 : ∃ t, mg "SHORT" = some (.int 6 t)) (C2 : ∃ a, mg "LEFT_HUES" = some (.ref a) ∧ ∀ H, SqT K H a (([0, 1, 2] : List Int).map V.int)) (C3 : ∃ a, mg "GONE_HUES" = some (.ref a) ∧ ∀ H, SqT K H a (([5, 4, 3] : List Int).map V.int)) (C4 : ∃ t, mg "ROUNDS_EACH" = some (.int 2 t)) (M : Bl mg) : FnOk P w K mg base CX0 (k + 1 + 1 + 1 + 1 + 1 + 1) f fd ["hands", "state", "house"] (spGone C_Hands) := by
  have G_law_whole := ok_law_whole (P := P) (w := w) (base := base) (k := 0) D_law_whole M
  have G_Hands_go := ok_Hands_go (P := P) (w := w) (base := base) (k := 0) cl_Hands na_Hands_labels na_Hands_m na_Hands_pointing E_NoHouse E_NotReady D_Hands_go D_is_whole D_is_house D_check_house D_unlike_place D_stepped D_halvings D_needed_steps D_given_up D_rounds D_next_label D_Hands_can_go C1 C2 C3 C4 M
  refine D.F.ok sc_law_gone (fun vs H Q E h => ?_) (fun cdv A outer s H vs Q E hr h => ?_)
  · obtain ⟨d, n0, c, done, hs, i, rfl, _⟩ := h
    rfl
  obtain ⟨d, n0, c, done, hs, i, rfl, ho, hc, hi, hcan, kn, g⟩ := h
  refine ⟨_, (pss_cons (ps_set (i := 3) sc_law_gone.nd rfl (Or.inl rfl) (pe_meth (pv 0) cl_Hands D_Hands_go.mt G_Hands_go (hr.mono (by omega)) D_Hands_go.b .nil passX (pa_cons (pv 2) pa_nil)))
   (pss_cons (ps_asg (pe_op op_add (pe_ix ix_list (pe_dget (unit1 hr.units) (pv 1) pe_str (fun _ _ => rfl)) (pv 2) (fun _ _ => rfl)) pe_int) (pg_sub (pe_dget (unit1 hr.units) (pv 1) pe_str (fun _ _ => rfl)) (pv 2) set_list))
   (pss_one (ps_ret (pe_and (pe_call G_law_whole (hr.mono (by omega)) (by rfl) D_law_whole.g D_law_whole.F.kp D_law_whole.b .nil pass0 (pa_cons (pv 3) pa_nil)) (pe_one (pe_cmpR (op_eqD hr.units) (pv 3) (pe_ix ix_list (pe_ix ix_list (pe_dget (unit1 hr.units) (pv 1) pe_str (fun _ _ => rfl)) (pe_ix ix_list (pe_dget (unit1 hr.units) (pv 1) pe_str (fun _ _ => rfl)) (pv 2) (fun _ _ => rfl)) (fun _ _ => rfl)) (pv 2) (fun _ _ => rfl)) (nomark _)))))))), ?_⟩
  have dlen := ho.dl
  have hcan' := hcan
  unfold canB at hcan'
  have hc2 := of_decide_eq_true hcan'
  have hsh := halv_short ho.m62
  walk_at "go"
  refine kMeth rfl (kn.mem st_ins) (hf_no _ _ _ (by decide +kernel) (by decide +kernel) (by decide +kernel)) ?_
  walk_at "go"
  refine ⟨d, n0, _, c.x, c.dx, c.p, c.l, c.as, c.xs, c.ls, c.m, done, (i : Int), rfl, ho, hc.asl, List.mem_cons_of_mem _ (List.mem_cons_of_mem _ (List.mem_append_right _ hc.pt)), kn, fun _ _ H1 kn1 => ?_, fun hh => absurd ⟨by omega, by omega⟩ hh, fun _ hh => by rw [Int.toNat_natCast, hcan] at hh; cases hh⟩
  rw [Int.toNat_natCast] at kn1 ⊢
  have mS : (c.S, HO.dK c.kvs) ∈ handsLed c.x c.dx C_Hands c.p c.m c.l c.as (rowsH c.m c.xs c.ls (done.set i (done.getD i 0 + 1))) ++ ((c.D, HO.lst (done.map vN)) :: (c.Hh, HO.lst (hts hs)) :: (heldLed hs ++ c.R)) := List.mem_append_right _ (List.mem_cons_of_mem _ (List.mem_cons_of_mem _ (List.mem_append_right _ hc.st)))
  have mD : (c.D, HO.lst (done.map vN)) ∈ handsLed c.x c.dx C_Hands c.p c.m c.l c.as (rowsH c.m c.xs c.ls (done.set i (done.getD i 0 + 1))) ++ ((c.D, HO.lst (done.map vN)) :: (c.Hh, HO.lst (hts hs)) :: (heldLed hs ++ c.R)) := List.mem_append_right _ List.mem_cons_self
  walk_at "go"
  refine kDGet rfl (kn1.mem mS) hc.kv.kd ?_
  walk_at "go"
  refine kIxL (kn1.seqL mD) (at_nat (by omega)) ?_
  walk_at "go"
  refine kDGet rfl (kn1.mem mS) hc.kv.kd ?_
  walk_at "go"
  refine kSetMid kn1 rfl (by rw [List.length_map]; omega) fun H2 kn2 => ?_
  have eset : (done.map vN).set i (V.int (((done.getD i 0 : Nat) : Int) + 1)) = (done.set i (done.getD i 0 + 1)).map vN := by
    rw [List.map_set]
    rfl
  rw [eset] at kn2
  have kn3 : Kn d n0 (stLed C_Hands c (done.set i (done.getD i 0 + 1)) hs) H2 := kn2
  have ho2 := ho.next hcan
  have hli : LIn (stLed C_Hands c (done.set i (done.getD i 0 + 1)) hs) c (done.set i (done.getD i 0 + 1)) := hc.lin
  have hes := esLen hli
  have hdi : (done.set i (done.getD i 0 + 1)).getD i 0 = done.getD i 0 + 1 := by
    rw [List.getD_eq_getElem?_getD, List.getElem?_set, if_pos rfl, if_pos (by omega)]
    rfl
  walk_at "go"
  refine ⟨_, rfl, ?_⟩
  refine kBl ?_
  refine iteT ?_
  walk_at "go"
  refine kDGet rfl (kn3.mem hli.st) hc.kv.ke ?_
  walk_at "go"
  refine kDGet rfl (kn3.mem hli.st) hc.kv.kd ?_
  walk_at "go"
  have ha := at_nat (l := done.set i (done.getD i 0 + 1)) (i := i) (by rw [List.length_set]; omega)
  rw [hdi] at ha
  refine kIxL (kn3.seqL hli.dn) ha ?_
  obtain ⟨e, he⟩ : ∃ e, c.es[done.getD i 0 + 1]? = some e := ⟨_, List.getElem?_eq_getElem (by omega)⟩
  have me := hli.rows.at_ (done.getD i 0 + 1) e (evRow c.m c.xs c.ls (done.getD i 0 + 1)) he (by rw [List.getElem?_map, List.getElem?_range (by omega)]; rfl)
  refine kIxL (kn3.seqL hli.ev) (atI_at (j := done.getD i 0 + 1) rfl (by rw [List.getElem?_map, he]; rfl)) ?_
  walk_at "go"
  refine kIxL (kn3.seqL me) (atInt (evRow_get hi)) ?_
  refine kEqDI ?_
  exact g _ kn3
theorem ok_law_goes {k : Nat} {f a_is_whole a_is_house a_check_house a_unlike_place a_stepped a_halvings a_needed_steps a_given_up a_rounds a_next_label a_Hands_can_go a_Hands_go a_law_roll a_law_whole a_law_can a_law_gone : Addr} {fd fd_is_whole fd_is_house fd_check_house fd_unlike_place fd_stepped fd_halvings fd_needed_steps fd_given_up fd_rounds fd_next_label fd_Hands_can_go fd_Hands_go fd_law_roll fd_law_whole fd_law_can fd_law_gone : FuncData} (D : Df K mg "_law_goes" s_law_goes ["dice", "hands", "state"] f fd) (D_is_whole : Df K mg "is_whole" s_is_whole ["thing"] a_is_whole fd_is_whole) (D_is_house : Df K mg "is_house" s_is_house ["thing", "many"] a_is_house fd_is_house) (D_check_house : Df K mg "check_house" s_check_house ["pointing", "number"] a_check_house fd_check_house) (D_unlike_place : Df K mg "unlike_place" s_unlike_place ["one", "other"] a_unlike_place fd_unlike_place) (D_stepped : Df K mg "stepped" s_stepped ["label", "goal_label"] a_stepped fd_stepped) (D_halvings : Df K mg "halvings" s_halvings ["m"] a_halvings fd_halvings) (D_needed_steps : Df K mg "needed_steps" s_needed_steps ["m"] a_needed_steps fd_needed_steps) (D_given_up : Df K mg "given_up" s_given_up ["ahead", "label", "goal_label", "hue"] a_given_up fd_given_up) (D_rounds : Df K mg "rounds" s_rounds ["m"] a_rounds fd_rounds) (D_next_label : Df K mg "next_label" s_next_label ["m", "own", "goal_label"] a_next_label fd_next_label) (D_Hands_can_go : Mf K C_Hands "can_go" "Hands.can_go" s_Hands_can_go ["self", "house"] a_Hands_can_go fd_Hands_can_go) (D_Hands_go : Mf K C_Hands "go" "Hands.go" s_Hands_go ["self", "house"] a_Hands_go fd_Hands_go) (D_law_roll : Df K mg "_law_roll" s_law_roll ["dice", "size"] a_law_roll fd_law_roll) (D_law_whole : Df K mg "_law_whole" s_law_whole ["thing"] a_law_whole fd_law_whole) (D_law_can : Df K mg "_law_can" s_law_can ["state"] a_law_can fd_law_can) (D_law_gone : Df K mg "_law_gone" s_law_gone ["hands", "state", "house"] a_law_gone fd_law_gone) (C1 : ∃ t, mg "SHORT" = some (.int 6 t)) (C2 : ∃ a, mg "LEFT_HUES" = some (.ref a) ∧ ∀ H, SqT K H a (([0, 1, 2] : List Int).map V.int)) (C3 : ∃ a, mg "GONE_HUES" = some (.ref a) ∧ ∀ H, SqT K H a (([5, 4, 3] : List Int).map V.int)) (C4 : ∃ t, mg "ROUNDS_EACH" = some (.int 2 t)) (M : Bl mg) : FnOk P w K mg base CX0 (k + 1 + 1 + 1 + 1 + 1 + 1 + 1) f fd ["dice", "hands", "state"] (spGoes C_Hands) := by
  have G_law_roll := ok_law_roll (P := P) (w := w) (base := base) (k := 0) D_law_roll M
  have G_law_can := ok_law_can (P := P) (w := w) (base := base) (k := 0) D_law_can M
  have G_law_gone := ok_law_gone (P := P) (w := w) (base := base) (k := 0) cl_Hands na_Hands_labels na_Hands_m na_Hands_pointing E_NoHouse E_NotReady D_law_gone D_is_whole D_is_house D_check_house D_unlike_place D_stepped D_halvings D_needed_steps D_given_up D_rounds D_next_label D_Hands_can_go D_Hands_go D_law_whole C1 C2 C3 C4 M
  refine D.F.ok sc_law_goes (fun vs H Q E h => ?_) (fun cdv A outer s H vs Q E hr h => ?_)
  · obtain ⟨d, n0, c, done, hs, rfl, _⟩ := h
    rfl
  obtain ⟨d, n0, c, done, hs, rfl, ho, hc, hn, kn, g⟩ := h
  refine ⟨_, (pss_cons (ps_set (i := 3) sc_law_goes.nd rfl (Or.inl rfl) (pe_call G_law_can (hr.mono (by omega)) (by rfl) D_law_can.g D_law_can.F.kp D_law_can.b .nil pass0 (pa_cons (pv 2) pa_nil)))
   (pss_cons (ps_if (pt_cmpR (op_eqD hr.units) (pv 3) (pe_lst pa_nil) (nomark _)) (pss_one (ps_ret pe_bl)) pss_nil)
   (pss_cons (ps_set (i := 4) sc_law_goes.nd rfl (Or.inl rfl) (pe_ix ix_list (pe_lst (pa_cons (pe_ix ix_list (pv 3) pe_int (fun _ _ => rfl)) (pa_cons (pe_ix ix_list (pv 3) (pe_un un_neg pe_int) (fun _ _ => rfl)) (pa_cons (pe_ix ix_list (pv 3) (pe_call G_law_roll (hr.mono (by omega)) (by rfl) D_law_roll.g D_law_roll.F.kp D_law_roll.b .nil pass0 (pa_cons (pv 0) (pa_cons (pe_callB c_len (by rfl) M.len PySem.boot_len (pa_cons (pv 3) pa_nil)) pa_nil))) (fun _ _ => rfl)) pa_nil)))) (pe_callB (c_min rfl) (by rfl) M.min (by decide +kernel) (pa_cons pe_int (pa_cons (pe_call G_law_roll (hr.mono (by omega)) (by rfl) D_law_roll.g D_law_roll.F.kp D_law_roll.b .nil pass0 (pa_cons (pv 0) (pa_cons pe_int pa_nil))) pa_nil))) (fun _ _ => rfl)))
   (pss_cons (ps_for PassesOwn.never rfl (pi_range1 (by rfl) M.range (pa_cons (pe_ix ix_list (pe_lst (pa_cons pe_int (pa_cons pe_int (pa_cons pe_int pa_nil)))) (pe_call G_law_roll (hr.mono (by omega)) (by rfl) D_law_roll.g D_law_roll.F.kp D_law_roll.b .nil pass0 (pa_cons (pv 0) (pa_cons pe_int pa_nil))) (fun _ _ => rfl)) pa_nil)) (pg_name (i := 5) sc_law_goes.nd rfl (Or.inl rfl))
    (pss_one (ps_if (PW.pt (pw_and (pt_cmpR op_in_seq (pv 4) (pe_call G_law_can (hr.mono (by omega)) (by rfl) D_law_can.g D_law_can.F.kp D_law_can.b .nil pass0 (pa_cons (pv 2) pa_nil)) (by rfl)) (pw_and1 (pt_not (pt_val (pe_call G_law_gone (hr.mono (by omega)) (by rfl) D_law_gone.g D_law_gone.F.kp D_law_gone.b .nil pass0 (pa_cons (pv 1) (pa_cons (pv 2) (pa_cons (pv 4) pa_nil))))))))) (pss_one (ps_ret pe_bl)) pss_nil)))
   (pss_one (ps_ret pe_bl)))))), ?_⟩
  have h60 := ho.pt.most
  have hli : LIn (stLed C_Hands c done hs) c done := hc.lin
  walk_at "go"
  refine ⟨d, n0, _, c, done, rfl, ho, hc.kv, hli, kn, fun so H1 kn1 => ?_⟩
  obtain ⟨cs, hcs⟩ : ∃ cs, canL c.xs c.m done = cs := ⟨_, rfl⟩
  have hcl : cs.length ≤ 60 := by
    rw [← hcs]
    exact Nat.le_trans (List.length_filter_le _ _) (by rw [List.length_range]; omega)
  obtain ⟨zs, hzs⟩ : ∃ zs : List Int, cs.map (fun n : Nat => (n : Int)) = zs := ⟨_, rfl⟩
  have hzl : zs.length = cs.length := by rw [← hzs, List.length_map]
  have hzm : ∀ z ∈ zs, ∃ i ∈ cs, z = (i : Int) := fun z hz => by
    rw [← hzs] at hz
    obtain ⟨i, hi, e⟩ := List.mem_map.mp hz
    exact ⟨i, hi, e.symm⟩
  rw [vN_map, hcs, hzs] at kn1
  refine kSeq (kIfS ?_)
  walk_at "go"
  rename_i em H2 kn2
  refine kEqL (xs := zs) (ys := []) (kn2.seqL (List.mem_cons_of_mem _ List.mem_cons_self)) (kn2.seqL List.mem_cons_self) ?_
  refine kBl ?_
  refine iteD (fun he => ?_) (fun hne => ?_)
  · walk_at "go"
    exact g done _ ho (kn2.tail.tail.more (by omega))
  have hz0 : 0 < zs.length := List.length_pos_iff.mpr hne
  have kn3 := kn2.tail
  obtain ⟨z0, hz0', m0⟩ := atMem (es := zs) (z := 0) (by omega) (by omega)
  have hzlast : atI (zs.map V.int) (-1) = some (.int (zs.getD (zs.length - 1) 0)) := by
    refine atBack (k := 1) (by omega) (by rw [List.length_map]; omega) ?_
    rw [List.length_map, List.getElem?_map, List.getElem?_eq_getElem (show zs.length - 1 < zs.length by omega), getD_of (List.getElem?_eq_getElem (show zs.length - 1 < zs.length by omega))]
    rfl
  have mlast : zs.getD (zs.length - 1) 0 ∈ zs := by
    rw [getD_of (List.getElem?_eq_getElem (show zs.length - 1 < zs.length by omega))]
    exact List.getElem_mem _
  walk_at "go"
  refine kIxL (kn3.seqL List.mem_cons_self) hz0' ?_
  walk_at "go"
  refine kIxL (kn3.seqL List.mem_cons_self) hzlast ?_
  walk_at "go"
  have elen : (zs.map V.int).length = zs.length := List.length_map _
  rw [elen]
  refine kRoll kn3 (by omega) (by omega) (by omega) fun rr H4 r0 r1 kn4 => ?_
  obtain ⟨z1, hz1, m1⟩ := atMem (es := zs) (z := rr) r0 (by omega)
  refine kIxL (kn4.seqL List.mem_cons_self) hz1 ?_
  walk_at "go"
  rename_i lq H5 kn5
  refine kRoll kn5 (by omega) (by omega) (by omega) fun r3 H6 r30 r31 kn6 => ?_
  walk_at "go"
  obtain ⟨zz, hzz, mz⟩ := atMem (es := [z0, zs.getD (zs.length - 1) 0, z1]) (z := if r3 < 2 then r3 else 2) (by split <;> omega) (by show (if r3 < 2 then r3 else 2) < (3 : Int); split <;> omega)
  refine kIxL (kn6.seqL List.mem_cons_self) hzz ?_
  have mzz : zz ∈ zs := by
    simp only [List.mem_cons, List.not_mem_nil, or_false] at mz
    rcases mz with rfl | rfl | rfl
    · exact m0
    · exact mlast
    · exact m1
  obtain ⟨i, hic, rfl⟩ := hzm zz mzz
  rw [← hcs] at hic
  obtain ⟨hil, hcan⟩ := canL_mem hic
  have kn7 := kn6.tail.tail
  walk_at "go"
  refine kSeq (kRngD (fun z H' => (0 ≤ z ∧ z ≤ 12) ∧ Kn d (n0 + 3) (stLed C_Hands c done hs) H') (fun R hR => ?_) (fun z H8 ⟨hz, kn8⟩ => ⟨by omega, fun t σ' H' => ∃ (x5 : Option V) (done' : List Nat), σ' = [some (.ref d), some (.ref c.x), some (.ref c.S), some (.ref so), some (.int (i : Int)), x5] ∧ DOk c done' ∧ Kn d (n0 + 3) (stLed C_Hands c done' hs) H',
    ⟨_, done, rfl, ho, kn8⟩, fun t σ' H' ht hW => ?_, fun σ' H' hW => ?_⟩))
  · walk_at "go"
    rename_i l2 H9 kn9
    refine kRoll kn9 (by omega) (by omega) (by omega) fun r H10 r0 r1 kn10 => ?_
    obtain ⟨y, hy, hym⟩ := atMem (es := [1, 1, 12]) r0 (by simpa using r1)
    refine kIxL (kn10.seqL List.mem_cons_self) hy ?_
    refine hR _ _ ⟨?_, kn10.tail⟩
    simp only [List.mem_cons, List.not_mem_nil, or_false] at hym
    omega
  · obtain ⟨x5, done', rfl, ho', kn9⟩ := hW
    have hli' : LIn (stLed C_Hands c done' hs) c done' := hc.lin
    refine kIfS ?_
    walk_at "go"
    refine ⟨d, _, _, c, done', rfl, ho', hc.kv, hli', kn9, fun so2 H10 kn10 => ?_⟩
    rw [vN_map] at kn10
    refine kInL (kn10.seqL List.mem_cons_self) ?_
    refine kBl ?_
    refine iteD (fun hmem => ?_) (fun _ => ?_)
    · obtain ⟨i2, hi2, e2⟩ := List.mem_map.mp hmem
      have ei : i2 = i := by exact_mod_cast e2
      rw [ei] at hi2
      obtain ⟨_, hcan2⟩ := canL_mem hi2
      walk_at "go"
      refine ⟨d, _, c, done', hs, i, rfl, ho', hc, hil, hcan2, kn10.tail, fun H11 kn11 => ?_⟩
      refine kBl ?_
      refine iteF ?_
      walk_at "go"
      exact ⟨_, _, rfl, ho'.next hcan2, kn11⟩
    · walk_at "go"
      exact ⟨_, done', rfl, ho', kn10.tail⟩
  · obtain ⟨x5, done', rfl, ho', kn9⟩ := hW
    walk_at "go"
    exact g done' _ ho' (kn9.more (by omega))
end

/-! ### all is so; the state; the law -/
abbrev s_law_all_so : Stmt := topS 47
theorem sc_law_all_so : FnScope ["hands", "state", "house", "far", "k"] ["hands", "state"] (defScope s_law_all_so) := ⟨rfl, rfl, rfl, by decide +kernel, rfl, by decide +kernel, by decide +kernel⟩
abbrev s_law_state : Stmt := topS 37
theorem sc_law_state : FnScope ["dice", "most", "pointing", "n", "m", "names", "state"] ["dice", "most"] (defScope s_law_state) := ⟨rfl, rfl, rfl, by decide +kernel, rfl, by decide +kernel, by decide +kernel⟩
theorem kDPut {σ : L2.St} {H : Hp} {td ty tv : TE} {nx bk ct : L2.St → Hp → Prop} {rt : VK} (h : tv σ H fun v H1 => td σ H1 fun x H2 => ty σ H2 fun y H3 => ∃ a H4, x = .ref a ∧ DPut H3 a y v H4 ∧ nx σ H4) : sDPut td ty tv (Ends.mk nx rt bk ct) σ H := h
theorem heldPerm2 {A Hl R : Led} {Dd Hh : Addr × HO} : (A ++ (Dd :: Hh :: (Hl ++ R))).Perm (Hl ++ (Hh :: (A ++ Dd :: R))) := by
  refine heldPerm.trans ?_
  have e : A ++ Dd :: (Hl ++ R) = (A ++ [Dd]) ++ (Hl ++ R) := by simp
  have e2 : A ++ Dd :: R = (A ++ [Dd]) ++ R := by simp
  rw [e, e2]
  have s : ((A ++ [Dd]) ++ (Hl ++ R)).Perm (Hl ++ ((A ++ [Dd]) ++ R)) := by
    rw [← List.append_assoc, ← List.append_assoc]
    exact List.Perm.append_right R List.perm_append_comm
  exact (s.cons _).trans List.perm_middle.symm
theorem repFlatI {α : Type} (a : α) : ∀ n : Nat, (List.replicate n [a]).flatten = List.replicate n a
  | 0 => rfl
  | n + 1 => by
    rw [List.replicate_succ, List.flatten_cons, repFlatI a n, List.replicate_succ]
    rfl
def spAllSo (C : Addr) : Sp := fun vs H Q _ => ∃ (d : Addr) (n0 : Nat) (c : Hd) (done : List Nat) (hs : List He), vs = [.ref c.x, .ref c.S] ∧ DOk c done ∧ HdOk c ∧ Kn d n0 (stLed C c done hs) H ∧ ∀ H', Kn d n0 (stLed C c done hs) H' → Q (.bl true) H'
def spState : Sp := fun vs H Q _ => ∃ (d : Addr) (n0 : Nat) (L : Led) (mo : Int), vs = [.ref d, .int mo] ∧ 2 ≤ mo ∧ mo ≤ 60 ∧ n0 ≤ 2 ^ 57 ∧ Kn d n0 L H ∧
  ∀ (S p q D Hh Ev : Addr) (m : Nat) (es : List Addr) (xs ls : List Int) (kvs : List (Key × V)) (X : Led) H', POk xs ls m → valV kvs (.inr "pointing") = some (.ref p) → valV kvs (.inr "names") = some (.ref q) → valV kvs (.inr "bound") = some (.int (m : Int)) → valV kvs (.inr "done") = some (.ref D) → valV kvs (.inr "held") = some (.ref Hh) → valV kvs (.inr "even") = some (.ref Ev) →
    (p, HO.tup (xs.map V.int)) ∈ X → (q, HO.tup (ls.map V.int)) ∈ X → (S, HO.dK kvs) ∈ X → (Ev, HO.lst (es.map V.ref)) ∈ X → ListsAt X es ((List.range ((halv m).length + 6)).map (evRow m xs ls)) → xs.length ≤ mo → kvs.length ≤ 10 →
    Kn d (n0 + 4000) ((D, .lst ((List.replicate xs.length 0).map vN)) :: (Hh, .lst []) :: (X ++ L)) H' → Q (.ref S) H'
section
variable {P : Program} {w : World} {K : PySem.W.Frag} {mg : Str → Option Value} {base : Heap}
theorem ok_law_state {k : Nat} {f a_law_roll a_law_pointing a_law_bound a_law_names a_law_bits a_law_steps a_law_short a_law_even : Addr} {fd fd_law_roll fd_law_pointing fd_law_bound fd_law_names fd_law_bits fd_law_steps fd_law_short fd_law_even : FuncData} (D : Df K mg "_law_state" s_law_state ["dice", "most"] f fd) (D_law_roll : Df K mg "_law_roll" s_law_roll ["dice", "size"] a_law_roll fd_law_roll) (D_law_pointing : Df K mg "_law_pointing" s_law_pointing ["dice", "most"] a_law_pointing fd_law_pointing) (D_law_bound : Df K mg "_law_bound" s_law_bound ["dice", "n"] a_law_bound fd_law_bound) (D_law_names : Df K mg "_law_names" s_law_names ["dice", "n", "m"] a_law_names fd_law_names) (D_law_bits : Df K mg "_law_bits" s_law_bits ["number"] a_law_bits fd_law_bits) (D_law_steps : Df K mg "_law_steps" s_law_steps ["m"] a_law_steps fd_law_steps) (D_law_short : Df K mg "_law_short" s_law_short ["one", "other"] a_law_short fd_law_short) (D_law_even : Df K mg "_law_even" s_law_even ["pointing", "names", "m"] a_law_even fd_law_even) (M : Bl mg) : FnOk P w K mg base CX0 (k + 1 + 1 + 1 + 1) f fd ["dice", "most"] spState := by
  have G_law_roll := ok_law_roll (P := P) (w := w) (base := base) (k := 0) D_law_roll M
  have G_law_pointing := ok_law_pointing (P := P) (w := w) (base := base) (k := 0) D_law_pointing D_law_roll M
  have G_law_bound := ok_law_boundR (P := P) (w := w) (base := base) (k := 0) D_law_bound D_law_roll M
  have G_law_names := ok_law_namesR (P := P) (w := w) (base := base) (k := 0) D_law_names D_law_roll M
  have G_law_even := ok_law_even (P := P) (w := w) (base := base) (k := 0) D_law_even D_law_bits D_law_steps D_law_short M
  refine D.F.ok sc_law_state (fun vs H Q E h => ?_) (fun cdv A outer s H vs Q E hr h => ?_)
  · obtain ⟨d, n0, L, mo, rfl, _⟩ := h
    rfl
  obtain ⟨d, n0, L, mo, rfl, hm2, hm60, hn, kn, g⟩ := h
  refine ⟨_, (pss_cons (ps_set (i := 2) sc_law_state.nd rfl (Or.inl rfl) (pe_call G_law_pointing (hr.mono (by omega)) (by rfl) D_law_pointing.g D_law_pointing.F.kp D_law_pointing.b .nil pass0 (pa_cons (pv 0) (pa_cons (pv 1) pa_nil))))
   (pss_cons (ps_set (i := 3) sc_law_state.nd rfl (Or.inl rfl) (pe_callB c_len (by rfl) M.len PySem.boot_len (pa_cons (pv 2) pa_nil)))
   (pss_cons (ps_set (i := 4) sc_law_state.nd rfl (Or.inl rfl) (pe_call G_law_bound (hr.mono (by omega)) (by rfl) D_law_bound.g D_law_bound.F.kp D_law_bound.b .nil pass0 (pa_cons (pv 0) (pa_cons (pv 3) pa_nil))))
   (pss_cons (ps_set (i := 5) sc_law_state.nd rfl (Or.inl rfl) (pe_call G_law_names (hr.mono (by omega)) (by rfl) D_law_names.g D_law_names.F.kp D_law_names.b .nil pass0 (pa_cons (pv 0) (pa_cons (pv 3) (pa_cons (pv 4) pa_nil)))))
   (pss_cons (ps_set (i := 6) sc_law_state.nd rfl (Or.inl rfl) (pe_disp (pps_cons pe_str (pv 2) (pps_cons pe_str (pv 5) (pps_cons pe_str (pv 4) (pps_cons pe_str (pe_op op_rep (pe_lst (pa_cons pe_int pa_nil)) (pv 3)) (pps_cons pe_str (pe_lst pa_nil) pps_nil))))) rfl rfl (List.cons_ne_nil _ _) (by decide)))
   (pss_cons (ps_dput (unit1 hr.units) (pv 6) pe_str (pe_call G_law_even (hr.mono (by omega)) (by rfl) D_law_even.g D_law_even.F.kp D_law_even.b .nil pass0 (pa_cons (pv 2) (pa_cons (pv 5) (pa_cons (pv 4) pa_nil)))) rfl)
   (pss_one (ps_ret (pv 6))))))))), ?_⟩
  walk_at "go"
  refine ⟨d, _, _, mo, rfl, hm2, by omega, by omega, kn, fun p xs H4 hp' kn4 => ?_⟩
  have hp : PtOk 60 xs := ⟨hp'.two, by have := hp'.most; omega, hp'.goal⟩
  have h2 := hp.two
  have h60 := hp.most
  walk_at "go"
  rw [List.length_map]
  refine ⟨d, _, _, _, rfl, by omega, by omega, by omega, kn4, fun mi H5 hm1 hm2 kn5 => ?_⟩
  obtain ⟨m, rfl⟩ : ∃ m : Nat, mi = (m : Int) := ⟨mi.toNat, by omega⟩
  have hm62 : m < 2 ^ 62 := by omega
  walk_at "go"
  refine ⟨d, _, _, xs.length, (m : Int), rfl, by omega, hm1, by omega, by omega, by omega, kn5, fun q' ls H6 hll hnd hlow kn6 => ?_⟩
  have hnm : NmOk xs ls m := ⟨hll, hnd, hlow⟩
  have hpok : POk xs ls m := ⟨hp, hll, hnm.into hm62, hnm.proper hp, hm62⟩
  walk_at "go"
  intro S hSn
  have kn7 := kn6.new (o := .dK []) hSn
  unfold tPairs
  walk_at "go"
  unfold tPairs
  walk_at "go"
  unfold tPairs
  walk_at "go"
  unfold tPairs
  walk_at "go"
  rename_i z1 H8 kn8
  refine kRepK kn8 List.mem_cons_self (by omega) (by omega) (by rw [Int.toNat_natCast, List.length_singleton]; omega) fun D H9 kn9 => ?_
  rw [Int.toNat_natCast, repFlatI] at kn9
  unfold tPairs
  walk_at "go"
  rename_i Hh H10 kn10
  unfold tPairs
  have e0 : List.replicate xs.length (V.int 0) = (List.replicate xs.length 0).map vN := by
    rw [List.map_replicate]
    rfl
  rw [e0] at kn10
  refine ⟨kn10.at 3 rfl, [(.inr "pointing", .ref p), (.inr "names", .ref q'), (.inr "bound", .int (m : Int)), (.inr "done", .ref D), (.inr "held", .ref Hh)], rfl, (by show 5 ≤ 15; decide), ?_⟩
  obtain ⟨kv5, hkv5⟩ : ∃ kv5, mergeK [] ([(.inr "pointing", .ref p), (.inr "names", .ref q'), (.inr "bound", .int (m : Int)), (.inr "done", .ref D), (.inr "held", .ref Hh)] : List (Key × V)) = kv5 := ⟨_, rfl⟩
  have k5 : kv5.length ≤ 5 ∧ ∀ j, valV kv5 j = if j = .inr "held" then some (.ref Hh) else if j = .inr "done" then some (.ref D) else if j = .inr "bound" then some (.int (m : Int)) else if j = .inr "names" then some (.ref q') else if j = .inr "pointing" then some (.ref p) else none := by
    rw [← hkv5]
    refine ⟨?_, fun j => ?_⟩
    · unfold mergeK
      simp only [List.foldl_cons, List.foldl_nil]
      have pl : ∀ (kvs : List (Key × V)) (k : Key) (v : V), (putK kvs k v).length ≤ kvs.length + 1 := fun kvs k v => by
        unfold putK
        split
        · rw [List.length_map]; omega
        · rw [List.length_append]; exact Nat.le_refl _
      have p1 := pl [] (.inr "pointing") (.ref p)
      have p2 := pl (putK [] (.inr "pointing") (.ref p)) (.inr "names") (.ref q')
      have p3 := pl (putK (putK [] (.inr "pointing") (.ref p)) (.inr "names") (.ref q')) (.inr "bound") (.int (m : Int))
      have p4 := pl (putK (putK (putK [] (.inr "pointing") (.ref p)) (.inr "names") (.ref q')) (.inr "bound") (.int (m : Int))) (.inr "done") (.ref D)
      have p5 := pl (putK (putK (putK (putK [] (.inr "pointing") (.ref p)) (.inr "names") (.ref q')) (.inr "bound") (.int (m : Int))) (.inr "done") (.ref D)) (.inr "held") (.ref Hh)
      rw [List.length_nil] at p1
      omega
    · unfold mergeK
      simp only [List.foldl_cons, List.foldl_nil, valV_put]
      rfl
  rw [hkv5]
  have kn11 : Kn d _ ((Hh, .lst []) :: (D, .lst ((List.replicate xs.length 0).map vN)) :: (z1, .lst [.int 0]) :: (S, .dK kv5) :: (q', .tup (ls.map V.int)) :: (p, .tup (xs.map V.int)) :: L) _ := kn10.put (u := .dK kv5) 3 rfl
  clear hkv5
  walk_at "go"
  refine kSeq (kDPut ?_)
  walk_at "go"
  refine ⟨d, _, _, p, q', xs, ls, m, rfl, hpok, List.mem_cons_of_mem _ (List.mem_cons_of_mem _ (List.mem_cons_of_mem _ (List.mem_cons_of_mem _ (List.mem_cons_of_mem _ List.mem_cons_self)))), List.mem_cons_of_mem _ (List.mem_cons_of_mem _ (List.mem_cons_of_mem _ (List.mem_cons_of_mem _ List.mem_cons_self))), kn11, fun Ev es X H12 hes kn12 => ?_⟩
  have kn13 := kn12.perm (List.Perm.cons _ List.perm_append_comm)
  walk_at "go"
  refine ⟨S, _, rfl, DPut.k (k := .inr "even") (kn13.at 4 rfl) (Nat.lt_of_le_of_lt k5.1 (by decide)), ?_⟩
  have kn14 : Kn d _ ((Ev, .lst (es.map V.ref)) :: (Hh, .lst []) :: (D, .lst ((List.replicate xs.length 0).map vN)) :: (z1, .lst [.int 0]) :: (S, .dK (putK kv5 (.inr "even") (.ref Ev))) :: (q', .tup (ls.map V.int)) :: (p, .tup (xs.map V.int)) :: (L ++ X)) _ := kn13.put 4 rfl
  have vp : ∀ j, valV (putK kv5 (.inr "even") (.ref Ev)) j = if j = .inr "even" then some (.ref Ev) else if j = .inr "held" then some (.ref Hh) else if j = .inr "done" then some (.ref D) else if j = .inr "bound" then some (.int (m : Int)) else if j = .inr "names" then some (.ref q') else if j = .inr "pointing" then some (.ref p) else none := fun j => by
    rw [valV_put, k5.2]
  have dk : ∀ (a b : Str), a ≠ b → ¬ ((Sum.inr a : Key) = Sum.inr b) := fun a b h e => h (Sum.inr.inj e)
  have d1 : ("pointing" : Str) ≠ "even" := by decide +kernel
  have d2 : ("pointing" : Str) ≠ "held" := by decide +kernel
  have d3 : ("pointing" : Str) ≠ "done" := by decide +kernel
  have d4 : ("pointing" : Str) ≠ "bound" := by decide +kernel
  have d5 : ("pointing" : Str) ≠ "names" := by decide +kernel
  have d6 : ("names" : Str) ≠ "even" := by decide +kernel
  have d7 : ("names" : Str) ≠ "held" := by decide +kernel
  have d8 : ("names" : Str) ≠ "done" := by decide +kernel
  have d9 : ("names" : Str) ≠ "bound" := by decide +kernel
  have d10 : ("bound" : Str) ≠ "even" := by decide +kernel
  have d11 : ("bound" : Str) ≠ "held" := by decide +kernel
  have d12 : ("bound" : Str) ≠ "done" := by decide +kernel
  have d13 : ("done" : Str) ≠ "even" := by decide +kernel
  have d14 : ("done" : Str) ≠ "held" := by decide +kernel
  have d15 : ("held" : Str) ≠ "even" := by decide +kernel
  walk_at "go"
  obtain ⟨kv6, hkv6⟩ : ∃ kv6, putK kv5 (.inr "even") (.ref Ev) = kv6 := ⟨_, rfl⟩
  rw [hkv6] at vp kn14 ⊢
  have kn15 := kn14.perm (L' := (D, .lst ((List.replicate xs.length 0).map vN)) :: (Hh, .lst []) :: (Ev, .lst (es.map V.ref)) :: (z1, .lst [.int 0]) :: (S, .dK kv6) :: (q', .tup (ls.map V.int)) :: (p, .tup (xs.map V.int)) :: (L ++ X)) (by
    refine (List.Perm.cons _ (List.Perm.swap _ _ _)).trans ?_
    refine (List.Perm.swap _ _ _).trans ?_
    exact List.Perm.cons _ (List.Perm.swap _ _ _))
  have kn16 := kn15.more (m := n0 + 4000) (by omega)
  have kn17 := kn16.perm (L' := (D, .lst ((List.replicate xs.length 0).map vN)) :: (Hh, .lst []) :: (((Ev, .lst (es.map V.ref)) :: (z1, .lst [.int 0]) :: (S, .dK kv6) :: (q', .tup (ls.map V.int)) :: (p, .tup (xs.map V.int)) :: X) ++ L)) (by
    refine List.Perm.cons _ (List.Perm.cons _ ?_)
    exact List.Perm.cons _ (List.Perm.cons _ (List.Perm.cons _ (List.Perm.cons _ (List.Perm.cons _ List.perm_append_comm)))))
  refine g S p q' D Hh Ev m es xs ls kv6 ((Ev, .lst (es.map V.ref)) :: (z1, .lst [.int 0]) :: (S, .dK kv6) :: (q', .tup (ls.map V.int)) :: (p, .tup (xs.map V.int)) :: X) _ hpok ?_ ?_ ?_ ?_ ?_ ?_ ?_ ?_ ?_ ?_ ?_ ?_ ?_ kn17
  · rw [vp, if_neg (dk _ _ d1), if_neg (dk _ _ d2), if_neg (dk _ _ d3), if_neg (dk _ _ d4), if_neg (dk _ _ d5), if_pos rfl]
  · rw [vp, if_neg (dk _ _ d6), if_neg (dk _ _ d7), if_neg (dk _ _ d8), if_neg (dk _ _ d9), if_pos rfl]
  · rw [vp, if_neg (dk _ _ d10), if_neg (dk _ _ d11), if_neg (dk _ _ d12), if_pos rfl]
  · rw [vp, if_neg (dk _ _ d13), if_neg (dk _ _ d14), if_pos rfl]
  · rw [vp, if_neg (dk _ _ d15), if_pos rfl]
  · rw [vp, if_pos rfl]
  · exact List.mem_cons_of_mem _ (List.mem_cons_of_mem _ (List.mem_cons_of_mem _ (List.mem_cons_of_mem _ List.mem_cons_self)))
  · exact List.mem_cons_of_mem _ (List.mem_cons_of_mem _ (List.mem_cons_of_mem _ List.mem_cons_self))
  · exact List.mem_cons_of_mem _ (List.mem_cons_of_mem _ List.mem_cons_self)
  · exact List.mem_cons_self
  · exact hes.up fun y hy => List.mem_cons_of_mem _ (List.mem_cons_of_mem _ (List.mem_cons_of_mem _ (List.mem_cons_of_mem _ (List.mem_cons_of_mem _ hy))))
  · have := hp'.most
    omega
  · rw [← hkv6]
    have pl : ∀ (kvs : List (Key × V)) (k : Key) (v : V), (putK kvs k v).length ≤ kvs.length + 1 := fun kvs k v => by
      unfold putK
      split
      · rw [List.length_map]; omega
      · rw [List.length_append]; exact Nat.le_refl _
    have := pl kv5 (.inr "even") (.ref Ev)
    have := k5.1
    omega
end
section
variable {P : Program} {w : World} {K : PySem.W.Frag} {mg : Str → Option Value} {base : Heap} {C_Hands : Addr} (cl_Hands : Cls K C_Hands) (na_Hands_labels : NoAttr K C_Hands "labels") (na_Hands_m : NoAttr K C_Hands "m") (na_Hands_pointing : NoAttr K C_Hands "pointing")
  {C_NoHouse fI_NoHouse : Addr} {fd_NoHouse : FuncData} {m_NoHouse : Expr} {bm_NoHouse : List Value} (E_NoHouse : Rf P K mg "NoHouse" "house" C_NoHouse fI_NoHouse fd_NoHouse m_NoHouse bm_NoHouse)
include cl_Hands na_Hands_labels na_Hands_m na_Hands_pointing E_NoHouse
theorem ok_law_all_so {k : Nat} {f a_is_whole a_is_house a_check_house a_Hands_done a_Hands_label : Addr} {fd fd_is_whole fd_is_house fd_check_house fd_Hands_done fd_Hands_label : FuncData} (D : Df K mg "_law_all_so" s_law_all_so ["hands", "state"] f fd) (D_is_whole : Df K mg "is_whole" s_is_whole ["thing"] a_is_whole fd_is_whole) (D_is_house : Df K mg "is_house" s_is_house ["thing", "many"] a_is_house fd_is_house) (D_check_house : Df K mg "check_house" s_check_house ["pointing", "number"] a_check_house fd_check_house) (D_Hands_done : Mf K C_Hands "done" "Hands.done" s_Hands_done ["self"] a_Hands_done fd_Hands_done) (D_Hands_label : Mf K C_Hands "label" "Hands.label" s_Hands_label ["self", "house", "k"] a_Hands_label fd_Hands_label) (M : Bl mg) : FnOk P w K mg base CX0 (k + 1 + 1 + 1 + 1 + 1) f fd ["hands", "state"] (spAllSo C_Hands) := by
  have G_Hands_done := ok_Hands_done (P := P) (w := w) (base := base) (k := 0) cl_Hands na_Hands_labels na_Hands_m na_Hands_pointing D_Hands_done M
  have G_Hands_label := ok_Hands_label (P := P) (w := w) (base := base) (k := 0) cl_Hands na_Hands_labels na_Hands_m na_Hands_pointing E_NoHouse D_Hands_label D_is_whole D_is_house D_check_house M
  refine D.F.ok sc_law_all_so (fun vs H Q E h => ?_) (fun cdv A outer s H vs Q E hr h => ?_)
  · obtain ⟨d, n0, c, done, hs, rfl, _⟩ := h
    rfl
  obtain ⟨d, n0, c, done, hs, rfl, ho, hc, kn, g⟩ := h
  refine ⟨_, (pss_cons (ps_if (pt_cmpR (op_neD hr.units) (pe_meth0 (pv 0) cl_Hands D_Hands_done.mt G_Hands_done (hr.mono (by omega)) D_Hands_done.b .nil pass0) (pe_dget (unit1 hr.units) (pv 1) pe_str (fun _ _ => rfl)) (nomark _)) (pss_one (ps_ret pe_bl)) pss_nil)
   (pss_cons (ps_for PassesOwn.never rfl (pi_range1 (by rfl) M.range (pa_cons (pe_callB c_len (by rfl) M.len PySem.boot_len (pa_cons (pe_dget (unit1 hr.units) (pv 1) pe_str (fun _ _ => rfl)) pa_nil)) pa_nil)) (pg_name (i := 2) sc_law_all_so.nd rfl (Or.inr rfl))
    (pss_cons (ps_set (i := 3) sc_law_all_so.nd rfl (Or.inl rfl) (pe_ix ix_list (pe_dget (unit1 hr.units) (pv 1) pe_str (fun _ _ => rfl)) (pv 2) (fun _ _ => rfl)))
    (pss_cons (ps_if (pt_cmpR (op_neD hr.units) (pe_lc (own := [("k", 4)]) (g := gName 4) (by rfl) sc_law_all_so.nd (pi_range1 (by rfl) M.range (pa_cons (pe_op op_add (pv 3) pe_int) pa_nil)) (blkOk_by (own := [("k", 4)]) (N := ["hands", "state", "house", "far", "k"]) (sc := defScope s_law_all_so) (by decide +kernel)) (fun _ _ _ _ _ => (pg_name (i := 4) sc_law_all_so.nd rfl (Or.inl rfl))) (fun _ _ _ _ _ => pts_nil) (fun _ _ _ _ _ => (pe_meth (pv 0) cl_Hands D_Hands_label.mt G_Hands_label (hr.mono (by omega)) D_Hands_label.b .nil passX (pa_cons (pv 2) (pa_cons (pv 4) pa_nil))))) (pe_lc (own := [("k", 4)]) (g := gName 4) (by rfl) sc_law_all_so.nd (pi_range1 (by rfl) M.range (pa_cons (pe_op op_add (pv 3) pe_int) pa_nil)) (blkOk_by (own := [("k", 4)]) (N := ["hands", "state", "house", "far", "k"]) (sc := defScope s_law_all_so) (by decide +kernel)) (fun _ _ _ _ _ => (pg_name (i := 4) sc_law_all_so.nd rfl (Or.inl rfl))) (fun _ _ _ _ _ => pts_nil) (fun _ _ _ _ _ => (pe_ix (ixL (K := K) rfl) (pe_ix (ixL (K := K) rfl) (pe_dget (unit1 hr.units) (pv 1) pe_str (fun _ _ => rfl)) (pv 4) (fun _ _ => rfl)) (pv 2) (fun _ _ => rfl)))) (nomark _)) (pss_one (ps_ret pe_bl)) pss_nil)
    (pss_one (ps_if (pt_cmpR op_notN (pe_meth (pv 0) cl_Hands D_Hands_label.mt G_Hands_label (hr.mono (by omega)) D_Hands_label.b .nil passX (pa_cons (pv 2) (pa_cons (pe_op op_add (pv 3) pe_int) pa_nil))) pe_non (nomark _)) (pss_one (ps_ret pe_bl)) pss_nil)))))
   (pss_one (ps_ret pe_bl)))), ?_⟩
  have h60 := ho.pt.most
  have dlen := ho.dl
  have hsh := halv_short ho.m62
  have nog : ∀ f : Str, ¬ f = "labels" → ¬ f = "m" → ¬ f = "pointing" → (hf c.p c.m c.l).lookup f = none := fun f h1 h2 h3 => hf_no _ _ _ h1 h2 h3
  have nD := nog "done" (by decide +kernel) (by decide +kernel) (by decide +kernel)
  have nL := nog "label" (by decide +kernel) (by decide +kernel) (by decide +kernel)
  have hli : LIn (stLed C_Hands c done hs) c done := hc.lin
  have hat : HandsAt (stLed C_Hands c done hs) c.x C_Hands c.p c.m c.l c.as c.xs c.ls done := hc.hat
  have hins : (c.x, HO.ins C_Hands c.dx (hf c.p c.m c.l)) ∈ stLed C_Hands c done hs := st_ins
  have hes := esLen hli
  refine kSeq (kIfS ?_)
  walk_at "go"
  refine kMeth rfl (kn.mem hins) nD ?_
  walk_at "go"
  refine ⟨d, n0, _, c.x, c.p, c.l, c.as, c.xs, c.ls, c.m, done, rfl, ho, hat, kn, fun r H1 kn1 => ?_⟩
  rw [vN_map] at kn1
  refine kDGet rfl (kn1.mem (List.mem_cons_of_mem _ hli.st)) hc.kv.kd ?_
  have hdn := hli.dn
  rw [vN_map] at hdn
  refine kNeL (xs := done.map (fun n : Nat => (n : Int))) (ys := done.map (fun n : Nat => (n : Int))) (kn1.seqL List.mem_cons_self) (kn1.seqL (List.mem_cons_of_mem _ hdn)) ?_
  refine kBl ?_
  rw [decide_eq_true rfl]
  refine iteF ?_
  walk_at "go"
  refine kSeq (kRngD (fun z H' => z = (c.xs.length : Int) ∧ Kn d n0 (stLed C_Hands c done hs) H') (fun R hR => ?_) (fun z H5 ⟨hz, kn6⟩ => ⟨by omega, fun i σ' H' => ∃ (x2 x3 x4 : Option V), σ' = [some (.ref c.x), some (.ref c.S), x2, x3, x4] ∧ Kn d n0 (stLed C_Hands c done hs) H',
    ⟨_, _, _, rfl, kn6⟩, fun i σ' H' hi hW => ?_, fun σ' H' hW => ?_⟩))
  · walk_at "go"
    refine kDGet rfl (kn1.mem (List.mem_cons_of_mem _ hli.st)) hc.kv.kd ?_
    walk_at "go"
    rw [List.length_map, List.length_map]
    exact hR _ _ ⟨by omega, kn1.tail⟩
  · obtain ⟨x2, x3, x4, rfl, kn2⟩ := hW
    have hi' : i < c.xs.length := by omega
    have htop := ho.top (done.getD i 0) (getD_mem (by omega))
    walk_at "go"
    refine kDGet rfl (kn2.mem hli.st) hc.kv.kd ?_
    walk_at "go"
    refine kIxL (kn2.seqL hli.dn) (at_nat (by omega)) ?_
    walk_at "go"
    refine kSeq (kIfS ?_)
    walk_at "go"
    refine kLcR (lo := 0) (N := done.getD i 0 + 1) kn2 (fun R hR => srcR1 (n := ((done.getD i 0 : Nat) : Int) + 1) (fun R' h' => ?_) (by omega) (by omega) R (by rw [show (((done.getD i 0 : Nat) : Int) + 1).toNat = done.getD i 0 + 1 by omega]; exact hR)) (by omega) (fun j => ((List.range j).map (fun u => labH c.m c.xs c.ls u i)).map V.int) rfl (fun j => by simp) (fun _ => rfl) (fun j H' D hj kn19 N1 N2 h1' _ => ?_) (fun D H' kn19 => ?_)
    · walk_at "go"
      exact h'
    · rw [Int.zero_add]
      refine kYes (iteT ?_)
      refine kMeth rfl (kn19.mem (List.mem_cons_of_mem _ hins)) nL ?_
      walk_at "go"
      refine ⟨d, n0, _, c.x, c.p, c.l, c.as, c.xs, c.ls, c.m, done, (i : Int), (j : Int), rfl, by omega, ho, hat.up fun y hy => List.mem_cons_of_mem _ hy, kn19, fun _ H20 kn20 => ?_, fun hh => absurd ⟨by omega, by omega⟩ hh⟩
      rw [Int.toNat_natCast, Int.toNat_natCast, if_pos (by omega)]
      refine h1' _ _ kn20 ?_
      rw [List.range_succ, List.map_append, List.map_append]
      rfl
    · refine kLcR (lo := 0) (N := done.getD i 0 + 1) kn19 (fun R hR => srcR1 (n := ((done.getD i 0 : Nat) : Int) + 1) (fun R' h' => ?_) (by omega) (by omega) R (by rw [show (((done.getD i 0 : Nat) : Int) + 1).toNat = done.getD i 0 + 1 by omega]; exact hR)) (by omega) (fun j => ((List.range j).map (fun u => labH c.m c.xs c.ls u i)).map V.int) rfl (fun j => by simp) (fun _ => rfl) (fun j H' D2 hj kn21 N1 N2 h1' _ => ?_) (fun D2 H' kn21 => ?_)
      · walk_at "go"
        exact h'
      · rw [Int.zero_add]
        refine kYes (iteT ?_)
        obtain ⟨e, he⟩ : ∃ e, c.es[j]? = some e := ⟨_, List.getElem?_eq_getElem (by omega)⟩
        have me := hli.rows.at_ j e (evRow c.m c.xs c.ls j) he (by rw [List.getElem?_map, List.getElem?_range (by omega)]; rfl)
        walk_at "go"
        refine kDGet rfl (kn21.mem (List.mem_cons_of_mem _ (List.mem_cons_of_mem _ hli.st))) hc.kv.ke ?_
        walk_at "go"
        refine kIxL (kn21.seqL (List.mem_cons_of_mem _ (List.mem_cons_of_mem _ hli.ev))) (atI_at (j := j) rfl (by rw [List.getElem?_map, he]; rfl)) ?_
        walk_at "go"
        refine kIxL (kn21.seqL (List.mem_cons_of_mem _ (List.mem_cons_of_mem _ me))) (atInt (evRow_get hi')) ?_
        refine h1' _ _ kn21 ?_
        rw [List.range_succ, List.map_append, List.map_append]
        rfl
      · refine kNeL (xs := (List.range (done.getD i 0 + 1)).map (fun u => labH c.m c.xs c.ls u i)) (ys := (List.range (done.getD i 0 + 1)).map (fun u => labH c.m c.xs c.ls u i)) (kn21.seqL (List.mem_cons_of_mem _ List.mem_cons_self)) (kn21.seqL List.mem_cons_self) ?_
        refine kBl ?_
        rw [decide_eq_true rfl]
        refine iteF ?_
        have kn22 := kn21.tail.tail
        walk_at "go"
        refine kMeth rfl (kn22.mem hins) nL ?_
        walk_at "go"
        refine ⟨d, n0, _, c.x, c.p, c.l, c.as, c.xs, c.ls, c.m, done, (i : Int), _, rfl, by omega, ho, hat, kn22, fun _ H23 kn23 => ?_, fun hh => absurd ⟨by omega, by omega⟩ hh⟩
        rw [Int.toNat_natCast, if_neg (by omega)]
        walk_at "go"
        refine ⟨rfl, ?_⟩
        refine kBl ?_
        refine iteN (fun h => absurd rfl h) fun _ => ?_
        walk_at "go"
        exact ⟨_, _, _, rfl, kn23⟩
  · obtain ⟨x2, x3, x4, rfl, kn2⟩ := hW
    walk_at "go"
    exact g _ kn2
end

/-! ### what the top says of refusals, out of what can be asked -/
theorem excInit_of {K : PySem.W.Frag} {nm q : Str} {C N : Addr} {bs bm bmB : List Value} {hd : Bool} {sn : List Str} {sub : List Value} {ab : Bool} {col : Option Bool} {dd : Option Addr} {k0 k1 k2 k3 k5 : Option Value} {newId : String}
    (h : K.lookup C = some (PySem.excClassObj nm q C N bs bm hd sn sub ab col dd k0 k1 k2 k3 k5 newId)) (ht : PySem.W.excTail bmB bm = true) : PySem.W.excInitIn K C bmB newId = true := by
  unfold PySem.W.excInitIn
  rw [h]
  simp [PySem.excClassObj, ht]
theorem super_of {K : PySem.W.Frag} {nm q nm' q' : Str} {C N b N' : Addr} {bs bm bs' : List Value} {hd hd' : Bool} {sn sn' : List Str} {sub sub' : List Value} {ab ab' : Bool} {col col' : Option Bool} {dd dd' : Option Addr} {k0 k1 k2 k3 k5 k0' k1' k2' k3' k5' : Option Value} {newId newId' : String} {name : Str} {r : Option Value}
    (h : K.lookup C = some (PySem.excClassObj nm q C N bs (.ref b :: bm) hd sn sub ab col dd k0 k1 k2 k3 k5 newId)) (hb : K.lookup b = some (PySem.excClassObj nm' q' b N' bs' bm hd' sn' sub' ab' col' dd' k0' k1' k2' k3' k5' newId'))
    (hi : PySem.W.findIn K (.ref b) name = some r) : PySem.W.ks_superIn K C C name = some r := by
  have hcl : (PySem.W.clsIn K C).map (·.mro) = some (.ref C :: .ref b :: bm) := by
    unfold PySem.W.clsIn
    rw [h]
    rfl
  unfold PySem.W.ks_superIn
  cases e : PySem.W.clsIn K C with
  | none =>
    rw [e] at hcl
    cases hcl
  | some cd =>
    rw [e] at hcl
    have hm : cd.mro = .ref C :: .ref b :: bm := Option.some.inj hcl
    show PySem.W.alongIn K name (List.drop 1 (List.dropWhile (fun x => x != Value.ref C) cd.mro)) = _
    rw [hm]
    have hd1 : List.dropWhile (fun x => x != Value.ref C) (Value.ref C :: Value.ref b :: bm) = Value.ref C :: Value.ref b :: bm := by
      simp [List.dropWhile]
    rw [hd1]
    obtain ⟨cd', e', ha⟩ := PySem.W.kw_along hi
    have hcl' : (PySem.W.clsIn K b).map (·.mro) = some (.ref b :: bm) := by
      unfold PySem.W.clsIn
      rw [hb]
      rfl
    rw [e'] at hcl'
    have hm' : cd'.mro = .ref b :: bm := Option.some.inj hcl'
    rw [hm'] at ha
    exact ha
theorem kitOne_self {K : PySem.W.Frag} {C : Addr} : PySem.W.kitOne K (.ref C) (.ref C) = some true := by
  unfold PySem.W.kitOne
  rw [if_pos (by simp)]
theorem kitOne_no {K : PySem.W.Frag} {C D : Addr} (h : PySem.W.subIn K (.ref C) (.ref D) = some false) (hs : PySem.W.subIn K (.ref C) (.ref C) = some true) (hd : PySem.W.hasDictIn K D = true) (ht : PySem.W.typeIn K (.ref D) = some (.type "type")) : PySem.W.kitOne K (.ref C) (.ref D) = some false := by
  have hne : C ≠ D := fun e => by
    rw [← e, hs] at h
    cases h
  have hcl : (PySem.W.clsIn K D).isSome = true := by
    unfold PySem.W.hasDictIn at hd
    cases e : PySem.W.clsIn K D with
    | none =>
      rw [e] at hd
      simp at hd
    | some _ => rfl
  unfold PySem.W.kitOne
  rw [if_neg (by simpa using hne)]
  show (if ((PySem.W.clsIn K D).isSome && PySem.W.typeIn K (.ref D) == some (.type "type")) = true then PySem.W.subIn K (.ref C) (.ref D) else none) = some false
  rw [hcl, ht]
  exact h
theorem kitOne_ty {K : PySem.W.Frag} {C : Addr} {T : String} {b : Bool} (hk : PySem.W.kitMeta T = true) (h : PySem.W.subIn K (.ref C) (.type T) = some b) : PySem.W.kitOne K (.ref C) (.type T) = some b := by
  unfold PySem.W.kitOne
  rw [if_neg (by simp)]
  show (if PySem.W.kitMeta T = true then PySem.W.subIn K (.ref C) (.type T) else none) = some b
  rw [if_pos hk]
  exact h

/-! ### what the laws ask of refusals -/
structure AskedG (mg : Str → Option Value) (C_HueError C_NotProper C_NoHouse C_NotReady C_NoText C_NoRow : Addr) : Prop where
  gE : mg "HueError" = some (.ref C_HueError)
  gP : mg "NotProper" = some (.ref C_NotProper)
  gH : mg "NoHouse" = some (.ref C_NoHouse)
  gY : mg "NotReady" = some (.ref C_NotReady)
  gT : mg "NoText" = some (.ref C_NoText)
  gR : mg "NoRow" = some (.ref C_NoRow)
structure AskedC (K : PySem.W.Frag) (C C_HueError C_NotProper C_NoHouse C_NotReady C_NoText C_NoRow : Addr) (fld : Str) (bP bH bY bT bR : Bool) : Prop where
  exm : PySem.W.exmOne K (.ref C) (.ref C_HueError) = some true
  exc : L2.ExcC K C
  xf : XfC K C
  noN : PySem.W.findIn K (.ref C) fld = some none
  kP : PySem.W.kitOne K (.ref C) (.ref C_NotProper) = some bP
  kH : PySem.W.kitOne K (.ref C) (.ref C_NoHouse) = some bH
  kY : PySem.W.kitOne K (.ref C) (.ref C_NotReady) = some bY
  kT : PySem.W.kitOne K (.ref C) (.ref C_NoText) = some bT
  kR : PySem.W.kitOne K (.ref C) (.ref C_NoRow) = some bR
  kE : PySem.W.kitOne K (.ref C) (.ref C_HueError) = some true
  kV : PySem.W.kitOne K (.ref C) (.type "ValueError") = some true
theorem kitOne_yes {K : PySem.W.Frag} {C D : Addr} (h : PySem.W.subIn K (.ref C) (.ref D) = some true) (hd : PySem.W.hasDictIn K D = true) (ht : PySem.W.typeIn K (.ref D) = some (.type "type")) : PySem.W.kitOne K (.ref C) (.ref D) = some true := by
  have hcl : (PySem.W.clsIn K D).isSome = true := by
    unfold PySem.W.hasDictIn at hd
    cases e : PySem.W.clsIn K D with
    | none =>
      rw [e] at hd
      simp at hd
    | some _ => rfl
  unfold PySem.W.kitOne
  by_cases e : C = D
  · rw [if_pos (by simp [e])]
  · rw [if_neg (by simpa using e)]
    show (if ((PySem.W.clsIn K D).isSome && PySem.W.typeIn K (.ref D) == some (.type "type")) = true then PySem.W.subIn K (.ref C) (.ref D) else none) = some true
    rw [hcl, ht]
    exact h

/-! ### late hands' refusals caught -/
abbrev s_law_caught : Stmt := topS 45
theorem sc_law_caught : FnScope ["hands", "way", "house", "k", "caught", "e"] ["hands", "way", "house", "k"] (defScope s_law_caught) := ⟨rfl, rfl, rfl, by decide +kernel, rfl, by decide +kernel, by decide +kernel⟩
abbrev s_law_no_house : Stmt := topS 46
theorem sc_law_no_house : FnScope ["dice", "n", "far"] ["dice", "n"] (defScope s_law_no_house) := ⟨rfl, rfl, rfl, by decide +kernel, rfl, by decide +kernel, by decide +kernel⟩
def spCaught (C : Addr) : Sp := fun vs H Q _ => ∃ (d : Addr) (n0 : Nat) (c : Hd) (done : List Nat) (hs : List He) (way z k : Int) (wd : Str), vs = [.ref c.x, .int way, .int z, .int k] ∧ DOk c done ∧ HdOk c ∧ 0 ≤ k ∧ Kn d n0 (stLed C c done hs) H ∧
  ((¬ (0 ≤ z ∧ z < c.xs.length) ∧ wd = "house") ∨ (way = 0 ∧ (0 ≤ z ∧ z < c.xs.length) ∧ canB c.xs c.m done z.toNat = false ∧ wd = "ready")) ∧
  ∀ r H', Kn d n0 ((r, .lst [.str wd, .int z]) :: stLed C c done hs) H' → Q (.ref r) H'
def spNoHouse : Sp := fun vs H Q _ => ∃ (d : Addr) (n0 : Nat) (L : Led) (n : Nat), vs = [.ref d, .int (n : Int)] ∧ n ≤ 60 ∧ n0 ≤ 2 ^ 59 ∧ Kn d n0 L H ∧ ∀ (z : Int) H', ¬ (0 ≤ z ∧ z < n) → Kn d (n0 + 5) L H' → Q (.int z) H'
theorem kitAny3 {K : PySem.W.Frag} {t a b c : Value} (h1 : PySem.W.kitOne K t a = some false) (h2 : PySem.W.kitOne K t b = some false) (h3 : PySem.W.kitOne K t c = some false) : PySem.W.kitAny K t [a, b, c] = some false := by
  simp [PySem.W.kitAny, h1, h2, h3]
section
variable {P : Program} {w : World} {K : PySem.W.Frag} {mg : Str → Option Value} {base : Heap} {C_Hands : Addr} (cl_Hands : Cls K C_Hands) (na_Hands_labels : NoAttr K C_Hands "labels") (na_Hands_m : NoAttr K C_Hands "m") (na_Hands_pointing : NoAttr K C_Hands "pointing")
  {C_HueError C_NotProper C_NoText C_NoRow : Addr}
  {C_NoHouse fI_NoHouse : Addr} {fd_NoHouse : FuncData} {m_NoHouse : Expr} {bm_NoHouse : List Value} (E_NoHouse : Rf P K mg "NoHouse" "house" C_NoHouse fI_NoHouse fd_NoHouse m_NoHouse bm_NoHouse)
  {C_NotReady fI_NotReady : Addr} {fd_NotReady : FuncData} {m_NotReady : Expr} {bm_NotReady : List Value} (E_NotReady : Rf P K mg "NotReady" "house" C_NotReady fI_NotReady fd_NotReady m_NotReady bm_NotReady)
  (GL : AskedG mg C_HueError C_NotProper C_NoHouse C_NotReady C_NoText C_NoRow) (AH : AskedC K C_NoHouse C_HueError C_NotProper C_NoHouse C_NotReady C_NoText C_NoRow "house" false true false false false) (AY : AskedC K C_NotReady C_HueError C_NotProper C_NoHouse C_NotReady C_NoText C_NoRow "house" false false true false false)
theorem ok_law_no_house {k : Nat} {f a_law_roll : Addr} {fd fd_law_roll : FuncData} (D : Df K mg "_law_no_house" s_law_no_house ["dice", "n"] f fd) (D_law_roll : Df K mg "_law_roll" s_law_roll ["dice", "size"] a_law_roll fd_law_roll) (M : Bl mg) : FnOk P w K mg base CX0 (k + 1 + 1) f fd ["dice", "n"] spNoHouse := by
  have G_law_roll := ok_law_roll (P := P) (w := w) (base := base) (k := 0) D_law_roll M
  refine D.F.ok sc_law_no_house (fun vs H Q E h => ?_) (fun cdv A outer s H vs Q E hr h => ?_)
  · obtain ⟨d, n0, L, n, rfl, _⟩ := h
    rfl
  obtain ⟨d, n0, L, n, rfl, hn60, hn, kn, g⟩ := h
  refine ⟨_, (pss_cons (ps_set (i := 2) sc_law_no_house.nd rfl (Or.inl rfl) (pe_call G_law_roll (hr.mono (by omega)) (by rfl) D_law_roll.g D_law_roll.F.kp D_law_roll.b .nil pass0 (pa_cons (pv 0) (pa_cons (pe_ix ix_list (pe_lst (pa_cons pe_int (pa_cons (pe_op op_pow pe_int pe_int) pa_nil))) (pe_call G_law_roll (hr.mono (by omega)) (by rfl) D_law_roll.g D_law_roll.F.kp D_law_roll.b .nil pass0 (pa_cons (pv 0) (pa_cons pe_int pa_nil))) (fun _ _ => rfl)) pa_nil))))
   (pss_one (ps_ret (pe_ix ix_list (pe_lst (pa_cons (pe_op op_add (pv 1) (pv 2)) (pa_cons (pe_op op_sub (pe_un un_neg pe_int) (pv 2)) pa_nil))) (pe_call G_law_roll (hr.mono (by omega)) (by rfl) D_law_roll.g D_law_roll.F.kp D_law_roll.b .nil pass0 (pa_cons (pv 0) (pa_cons pe_int pa_nil))) (fun _ _ => rfl))))), ?_⟩
  have h59 : (10 : Int) ^ Int.toNat 59 = 100000000000000000000000000000000000000000000000000000000000 := by decide
  walk_at "go"
  rename_i lq H1 kn1
  refine kRoll kn1 (by omega) (by omega) (by omega) fun r H2 r0 r1 kn2 => ?_
  obtain ⟨y, hy, hym⟩ := atMem (es := [3, (10 : Int) ^ Int.toNat 59]) r0 (by simpa using r1)
  have hy1 : 0 < y ∧ y.natAbs.log2 < 9000 := by
    simp only [List.mem_cons, List.not_mem_nil, or_false] at hym
    rcases hym with rfl | rfl
    · exact ⟨by omega, by decide⟩
    · exact ⟨by rw [h59]; omega, by rw [h59]; decide +kernel⟩
  refine kIxL (kn2.seqL List.mem_cons_self) hy ?_
  walk_at "go"
  refine ⟨d, _, _, y, rfl, hy1.1, hy1.2, by omega, kn2.tail, fun far H3 f0 _ kn3 => ?_⟩
  walk_at "go"
  rename_i l2 H4 kn4
  refine kRoll kn4 (by omega) (by omega) (by omega) fun r2 H5 r20 r21 kn5 => ?_
  obtain ⟨zz, hzz, mz⟩ := atMem (es := [(n : Int) + far, -1 - far]) r20 (by simpa using r21)
  refine kIxL (kn5.seqL List.mem_cons_self) hzz ?_
  refine g zz _ ?_ (kn5.tail.more (by omega))
  simp only [List.mem_cons, List.not_mem_nil, or_false] at mz
  omega
include cl_Hands na_Hands_labels na_Hands_m na_Hands_pointing E_NoHouse E_NotReady GL AH AY
theorem ok_law_caught {k : Nat} {f a_is_whole a_is_house a_check_house a_unlike_place a_stepped a_halvings a_needed_steps a_given_up a_rounds a_next_label a_Hands_can_go a_Hands_go a_Hands_label a_law_whole : Addr} {fd fd_is_whole fd_is_house fd_check_house fd_unlike_place fd_stepped fd_halvings fd_needed_steps fd_given_up fd_rounds fd_next_label fd_Hands_can_go fd_Hands_go fd_Hands_label fd_law_whole : FuncData} (D : Df K mg "_law_caught" s_law_caught ["hands", "way", "house", "k"] f fd) (D_is_whole : Df K mg "is_whole" s_is_whole ["thing"] a_is_whole fd_is_whole) (D_is_house : Df K mg "is_house" s_is_house ["thing", "many"] a_is_house fd_is_house) (D_check_house : Df K mg "check_house" s_check_house ["pointing", "number"] a_check_house fd_check_house) (D_unlike_place : Df K mg "unlike_place" s_unlike_place ["one", "other"] a_unlike_place fd_unlike_place) (D_stepped : Df K mg "stepped" s_stepped ["label", "goal_label"] a_stepped fd_stepped) (D_halvings : Df K mg "halvings" s_halvings ["m"] a_halvings fd_halvings) (D_needed_steps : Df K mg "needed_steps" s_needed_steps ["m"] a_needed_steps fd_needed_steps) (D_given_up : Df K mg "given_up" s_given_up ["ahead", "label", "goal_label", "hue"] a_given_up fd_given_up) (D_rounds : Df K mg "rounds" s_rounds ["m"] a_rounds fd_rounds) (D_next_label : Df K mg "next_label" s_next_label ["m", "own", "goal_label"] a_next_label fd_next_label) (D_Hands_can_go : Mf K C_Hands "can_go" "Hands.can_go" s_Hands_can_go ["self", "house"] a_Hands_can_go fd_Hands_can_go) (D_Hands_go : Mf K C_Hands "go" "Hands.go" s_Hands_go ["self", "house"] a_Hands_go fd_Hands_go) (D_Hands_label : Mf K C_Hands "label" "Hands.label" s_Hands_label ["self", "house", "k"] a_Hands_label fd_Hands_label) (D_law_whole : Df K mg "_law_whole" s_law_whole ["thing"] a_law_whole fd_law_whole) (C1 : ∃ t, mg "SHORT" = some (.int 6 t)) (C2 : ∃ a, mg "LEFT_HUES" = some (.ref a) ∧ ∀ H, SqT K H a (([0, 1, 2] : List Int).map V.int)) (C3 : ∃ a, mg "GONE_HUES" = some (.ref a) ∧ ∀ H, SqT K H a (([5, 4, 3] : List Int).map V.int)) (C4 : ∃ t, mg "ROUNDS_EACH" = some (.int 2 t)) (M : Bl mg) : FnOk P w K mg base CX0 (k + 1 + 1 + 1 + 1 + 1 + 1) f fd ["hands", "way", "house", "k"] (spCaught C_Hands) := by
  have G_law_whole := ok_law_whole (P := P) (w := w) (base := base) (k := 0) D_law_whole M
  have G_Hands_go := ok_Hands_go (P := P) (w := w) (base := base) (k := 0) cl_Hands na_Hands_labels na_Hands_m na_Hands_pointing E_NoHouse E_NotReady D_Hands_go D_is_whole D_is_house D_check_house D_unlike_place D_stepped D_halvings D_needed_steps D_given_up D_rounds D_next_label D_Hands_can_go C1 C2 C3 C4 M
  have G_Hands_label := ok_Hands_label (P := P) (w := w) (base := base) (k := 0) cl_Hands na_Hands_labels na_Hands_m na_Hands_pointing E_NoHouse D_Hands_label D_is_whole D_is_house D_check_house M
  have g_HueError := GL.gE
  have g_NotProper := GL.gP
  have g_NoHouse := GL.gH
  have g_NotReady := GL.gY
  have g_NoText := GL.gT
  have g_NoRow := GL.gR
  refine D.F.ok sc_law_caught (fun vs H Q E h => ?_) (fun cdv A' outer s H vs Q E hr h => ?_)
  · obtain ⟨d, n0, c, done, hs, way, z, k, wd, rfl, _⟩ := h
    rfl
  obtain ⟨d, n0, c, done, hs, way, z, k', wd, rfl, ho, hc, hk, kn, hcase, q⟩ := h
  refine ⟨_, (pss_cons (ps_set (i := 4) sc_law_caught.nd rfl (Or.inl rfl) pe_non)
   (pss_cons (ps_hold (i := 5) rfl rfl rfl sc_law_caught.nd rfl rfl (by rfl) g_HueError (fun W pn xe tk => (pss_one (ps_if (pt_cmpR op_eq (pv 1) pe_int (nomark _)) (pss_one (ps_expr (pe_methS (pv 0) cl_Hands D_Hands_go.mt G_Hands_go (hr.mono (by omega)) D_Hands_go.b (fun σ => passAt tk σ) (pa_cons (pv 2) pa_nil)))) (pss_one (ps_expr (pe_methS (pv 0) cl_Hands D_Hands_label.mt G_Hands_label (hr.mono (by omega)) D_Hands_label.b (fun σ => passAt tk σ) (pa_cons (pv 2) (pa_cons (pv 3) pa_nil)))))))) (fun a oe cls d pn hz hf => (pss_one (ps_set (i := 4) sc_law_caught.nd rfl (Or.inl rfl) (pv 5)))))
   (pss_cons (ps_if (PW.pt (pw_or (pt_cmpR op_isN (pv 4) pe_non (nomark _)) (pw_or (pt_val (pe_callB call_isHT (by rfl) M.isinstance (by decide +kernel) (pa_cons (pv 4) (pa_cons (pe_tup (pa_cons (pe_glob (v := .ref C_NotProper) (by rfl) g_NotProper rfl) (pa_cons (pe_glob (v := .ref C_NoText) (by rfl) g_NoText rfl) (pa_cons (pe_glob (v := .ref C_NoRow) (by rfl) g_NoRow rfl) pa_nil)))) pa_nil)))) (pw_or1 (pt_not (pt_val (pe_callB call_isH (by rfl) M.isinstance (by decide +kernel) (pa_cons (pv 4) (pa_cons (pe_bltn (v := .ty "ValueError") (u := .type "ValueError") (by rfl) M.ValueError (by decide +kernel) rfl) pa_nil))))))))) (pss_one (ps_ret pe_non)) pss_nil)
   (pss_cons (ps_if (PW.pt (pw_or (pt_cmpR op_eq (pe_callB call_isH (by rfl) M.isinstance (by decide +kernel) (pa_cons (pv 4) (pa_cons (pe_glob (v := .ref C_NoHouse) (by rfl) g_NoHouse rfl) pa_nil))) (pe_callB call_isH (by rfl) M.isinstance (by decide +kernel) (pa_cons (pv 4) (pa_cons (pe_glob (v := .ref C_NotReady) (by rfl) g_NotReady rfl) pa_nil))) (nomark _)) (pw_or1 (pt_not (pt_val (pe_call G_law_whole (hr.mono (by omega)) (by rfl) D_law_whole.g D_law_whole.F.kp D_law_whole.b .nil pass0 (pa_cons (pe_hf (pv 4)) pa_nil))))))) (pss_one (ps_ret pe_non)) pss_nil)
   (pss_one (ps_ret (pe_lst (pa_cons (pe_ix ix_list (pe_lst (pa_cons pe_str (pa_cons pe_str pa_nil))) (pe_callTy c_int (by rfl) M.int (by decide +kernel) (pa_cons (pe_callB call_isH (by rfl) M.isinstance (by decide +kernel) (pa_cons (pv 4) (pa_cons (pe_glob (v := .ref C_NoHouse) (by rfl) g_NoHouse rfl) pa_nil))) pa_nil)) (fun _ _ => rfl)) (pa_cons (pe_hf (pv 4)) pa_nil))))))))), ?_⟩
  have nog : ∀ f : Str, ¬ f = "labels" → ¬ f = "m" → ¬ f = "pointing" → (hf c.p c.m c.l).lookup f = none := fun f h1 h2 h3 => hf_no _ _ _ h1 h2 h3
  have nG := nog "go" (by decide +kernel) (by decide +kernel) (by decide +kernel)
  have nL := nog "label" (by decide +kernel) (by decide +kernel) (by decide +kernel)
  have mpR : (c.p, HO.tup (c.xs.map V.int)) ∈ ((c.D, HO.lst (done.map vN)) :: (c.Hh, HO.lst (hts hs)) :: (heldLed hs ++ c.R)) := List.mem_cons_of_mem _ (List.mem_cons_of_mem _ (List.mem_append_right _ hc.pt))
  walk_at "go"
  refine kSeq ?_
  walk_at "go"
  refine iteI (fun hw => ?_) (fun hw => ?_)
  · walk_at "go"
    refine kMethS rfl (kn.mem st_ins) nG ?_
    walk_at "go"
    refine ⟨d, n0, _, c.x, c.dx, c.p, c.l, c.as, c.xs, c.ls, c.m, done, z, rfl, ho, hc.asl, mpR, kn, fun hin hcan => ?_, fun hin e H2 kn2 => ?_, fun hin hcan e H2 kn2 => ?_⟩
    · rcases hcase with ⟨h, _⟩ | ⟨_, _, h, _⟩
      · exact absurd hin h
      · rw [hcan] at h
        cases h
    · have hwd : wd = "house" := by
        rcases hcase with ⟨_, h⟩ | ⟨_, h, _⟩
        · exact h
        · exact absurd h hin
      subst hwd
      refine ⟨AH.exm, fun xx hx => ?_⟩
      have kn3 := kn2.new (o := exh xx (.ref C_NoHouse) (some e)) hx
      have kept : ∀ {n' : Nat} {L'} {H'}, Kn d n' L' H' → (∀ q ∈ ((xx, exh xx (.ref C_NoHouse) (some e)) :: (e, HO.xd [(("house" : Str), V.int z)]) :: stLed C_Hands c done hs), q ∈ L') → Kept H' xx C_NoHouse e [(("house" : Str), V.int z)] := fun k' s => ⟨k'.mem (s _ List.mem_cons_self), k'.mem (s _ (List.mem_cons_of_mem _ List.mem_cons_self))⟩
      walk_at "go"
      dsimp only
      refine kSeq (kIfS ?_)
      walk_at "go"
      refine ⟨rfl, ?_⟩
      refine kBl ?_
      refine iteD (fun h => by cases h) fun _ => ?_
      walk_at "go"
      rename_i tp H3 kn4
      refine ⟨xx, C_NoHouse, e, tp, _, [.ref C_NotProper, .ref C_NoText, .ref C_NoRow], [.ref C_NotProper, .ref C_NoText, .ref C_NoRow], false, rfl, kept kn4 (fun q hq => List.mem_cons_of_mem _ hq), AH.exc, kn4.mem List.mem_cons_self, .cons (by constructor) (.cons (by constructor) (.cons (by constructor) .nil)), kitAny3 AH.kP AH.kT AH.kR, ?_⟩
      refine kBl ?_
      refine iteF ?_
      walk_at "go"
      refine ⟨xx, C_NoHouse, e, _, _, _, true, rfl, kept kn4 (fun q hq => List.mem_cons_of_mem _ hq), AH.exc, .ty _, AH.kV, ?_⟩
      refine kBl ?_
      refine iteF ?_
      walk_at "go"
      refine kSeq (kIfS ?_)
      walk_at "go"
      refine ⟨xx, C_NoHouse, e, _, _, _, true, rfl, kept kn4 (fun q hq => List.mem_cons_of_mem _ hq), AH.exc, (by constructor), AH.kH, ?_⟩
      walk_at "go"
      refine ⟨xx, C_NoHouse, e, _, _, _, false, rfl, kept kn4 (fun q hq => List.mem_cons_of_mem _ hq), AH.exc, (by constructor), AH.kY, ?_⟩
      walk_at "go"
      refine iteD (fun h => by cases h) fun _ => ?_
      walk_at "go"
      refine kHf ?_
      walk_at "go"
      refine ⟨xx, C_NoHouse, e, _, V.int z, rfl, kept kn4 (fun q hq => List.mem_cons_of_mem _ hq), AH.xf, AH.noN, rfl, ?_⟩
      walk_at "go"
      refine ⟨z, rfl, ?_⟩
      refine kBl ?_
      refine iteF ?_
      walk_at "go"
      rename_i l2 H5 kn5
      refine ⟨xx, C_NoHouse, e, _, _, _, true, rfl, kept kn5 (fun q hq => List.mem_cons_of_mem _ (List.mem_cons_of_mem _ hq)), AH.exc, (by constructor), AH.kH, ?_⟩
      walk_at "go"
      refine kHf ?_
      walk_at "go"
      refine ⟨xx, C_NoHouse, e, _, V.int z, rfl, kept kn5 (fun q hq => List.mem_cons_of_mem _ (List.mem_cons_of_mem _ hq)), AH.xf, AH.noN, rfl, ?_⟩
      walk_at "go"
      rename_i r H6 kn6
      exact q r _ (kn6.sub (((((List.Sublist.refl _).cons _).cons _).cons _).cons _ |>.cons₂ _))
    · have hwd : wd = "ready" := by
        rcases hcase with ⟨h, _⟩ | ⟨_, _, _, h⟩
        · exact absurd hin h
        · exact h
      subst hwd
      refine ⟨AY.exm, fun xx hx => ?_⟩
      have kn3 := kn2.new (o := exh xx (.ref C_NotReady) (some e)) hx
      have kept : ∀ {n' : Nat} {L'} {H'}, Kn d n' L' H' → (∀ q ∈ ((xx, exh xx (.ref C_NotReady) (some e)) :: (e, HO.xd [(("house" : Str), V.int z)]) :: stLed C_Hands c done hs), q ∈ L') → Kept H' xx C_NotReady e [(("house" : Str), V.int z)] := fun k' s => ⟨k'.mem (s _ List.mem_cons_self), k'.mem (s _ (List.mem_cons_of_mem _ List.mem_cons_self))⟩
      walk_at "go"
      dsimp only
      refine kSeq (kIfS ?_)
      walk_at "go"
      refine ⟨rfl, ?_⟩
      refine kBl ?_
      refine iteD (fun h => by cases h) fun _ => ?_
      walk_at "go"
      rename_i tp H3 kn4
      refine ⟨xx, C_NotReady, e, tp, _, [.ref C_NotProper, .ref C_NoText, .ref C_NoRow], [.ref C_NotProper, .ref C_NoText, .ref C_NoRow], false, rfl, kept kn4 (fun q hq => List.mem_cons_of_mem _ hq), AY.exc, kn4.mem List.mem_cons_self, .cons (by constructor) (.cons (by constructor) (.cons (by constructor) .nil)), kitAny3 AY.kP AY.kT AY.kR, ?_⟩
      refine kBl ?_
      refine iteF ?_
      walk_at "go"
      refine ⟨xx, C_NotReady, e, _, _, _, true, rfl, kept kn4 (fun q hq => List.mem_cons_of_mem _ hq), AY.exc, .ty _, AY.kV, ?_⟩
      refine kBl ?_
      refine iteF ?_
      walk_at "go"
      refine kSeq (kIfS ?_)
      walk_at "go"
      refine ⟨xx, C_NotReady, e, _, _, _, false, rfl, kept kn4 (fun q hq => List.mem_cons_of_mem _ hq), AY.exc, (by constructor), AY.kH, ?_⟩
      walk_at "go"
      refine ⟨xx, C_NotReady, e, _, _, _, true, rfl, kept kn4 (fun q hq => List.mem_cons_of_mem _ hq), AY.exc, (by constructor), AY.kY, ?_⟩
      walk_at "go"
      refine iteD (fun h => by cases h) fun _ => ?_
      walk_at "go"
      refine kHf ?_
      walk_at "go"
      refine ⟨xx, C_NotReady, e, _, V.int z, rfl, kept kn4 (fun q hq => List.mem_cons_of_mem _ hq), AY.xf, AY.noN, rfl, ?_⟩
      walk_at "go"
      refine ⟨z, rfl, ?_⟩
      refine kBl ?_
      refine iteF ?_
      walk_at "go"
      rename_i l2 H5 kn5
      refine ⟨xx, C_NotReady, e, _, _, _, false, rfl, kept kn5 (fun q hq => List.mem_cons_of_mem _ (List.mem_cons_of_mem _ hq)), AY.exc, (by constructor), AY.kH, ?_⟩
      walk_at "go"
      refine kHf ?_
      walk_at "go"
      refine ⟨xx, C_NotReady, e, _, V.int z, rfl, kept kn5 (fun q hq => List.mem_cons_of_mem _ (List.mem_cons_of_mem _ hq)), AY.xf, AY.noN, rfl, ?_⟩
      walk_at "go"
      rename_i r H6 kn6
      exact q r _ (kn6.sub (((((List.Sublist.refl _).cons _).cons _).cons _).cons _ |>.cons₂ _))
  · walk_at "go"
    refine kMethS rfl (kn.mem st_ins) nL ?_
    walk_at "go"
    have hcase' : ¬ (0 ≤ z ∧ z < (c.xs.length : Int)) ∧ wd = "house" := by
      rcases hcase with h | ⟨h, _⟩
      · exact h
      · exact absurd h hw
    refine ⟨d, n0, _, c.x, c.p, c.l, c.as, c.xs, c.ls, c.m, done, z, k', rfl, hk, ho, hc.hat, kn, fun hin => absurd hin hcase'.1, fun hin e H2 kn2 => ?_⟩
    have hwd : wd = "house" := hcase'.2
    subst hwd
    refine ⟨AH.exm, fun xx hx => ?_⟩
    have kn3 := kn2.new (o := exh xx (.ref C_NoHouse) (some e)) hx
    have kept : ∀ {n' : Nat} {L'} {H'}, Kn d n' L' H' → (∀ q ∈ ((xx, exh xx (.ref C_NoHouse) (some e)) :: (e, HO.xd [(("house" : Str), V.int z)]) :: stLed C_Hands c done hs), q ∈ L') → Kept H' xx C_NoHouse e [(("house" : Str), V.int z)] := fun k' s => ⟨k'.mem (s _ List.mem_cons_self), k'.mem (s _ (List.mem_cons_of_mem _ List.mem_cons_self))⟩
    walk_at "go"
    dsimp only
    refine kSeq (kIfS ?_)
    walk_at "go"
    refine ⟨rfl, ?_⟩
    refine kBl ?_
    refine iteD (fun h => by cases h) fun _ => ?_
    walk_at "go"
    rename_i tp H3 kn4
    refine ⟨xx, C_NoHouse, e, tp, _, [.ref C_NotProper, .ref C_NoText, .ref C_NoRow], [.ref C_NotProper, .ref C_NoText, .ref C_NoRow], false, rfl, kept kn4 (fun q hq => List.mem_cons_of_mem _ hq), AH.exc, kn4.mem List.mem_cons_self, .cons (by constructor) (.cons (by constructor) (.cons (by constructor) .nil)), kitAny3 AH.kP AH.kT AH.kR, ?_⟩
    refine kBl ?_
    refine iteF ?_
    walk_at "go"
    refine ⟨xx, C_NoHouse, e, _, _, _, true, rfl, kept kn4 (fun q hq => List.mem_cons_of_mem _ hq), AH.exc, .ty _, AH.kV, ?_⟩
    refine kBl ?_
    refine iteF ?_
    walk_at "go"
    refine kSeq (kIfS ?_)
    walk_at "go"
    refine ⟨xx, C_NoHouse, e, _, _, _, true, rfl, kept kn4 (fun q hq => List.mem_cons_of_mem _ hq), AH.exc, (by constructor), AH.kH, ?_⟩
    walk_at "go"
    refine ⟨xx, C_NoHouse, e, _, _, _, false, rfl, kept kn4 (fun q hq => List.mem_cons_of_mem _ hq), AH.exc, (by constructor), AH.kY, ?_⟩
    walk_at "go"
    refine iteD (fun h => by cases h) fun _ => ?_
    walk_at "go"
    refine kHf ?_
    walk_at "go"
    refine ⟨xx, C_NoHouse, e, _, V.int z, rfl, kept kn4 (fun q hq => List.mem_cons_of_mem _ hq), AH.xf, AH.noN, rfl, ?_⟩
    walk_at "go"
    refine ⟨z, rfl, ?_⟩
    refine kBl ?_
    refine iteF ?_
    walk_at "go"
    rename_i l2 H5 kn5
    refine ⟨xx, C_NoHouse, e, _, _, _, true, rfl, kept kn5 (fun q hq => List.mem_cons_of_mem _ (List.mem_cons_of_mem _ hq)), AH.exc, (by constructor), AH.kH, ?_⟩
    walk_at "go"
    refine kHf ?_
    walk_at "go"
    refine ⟨xx, C_NoHouse, e, _, V.int z, rfl, kept kn5 (fun q hq => List.mem_cons_of_mem _ (List.mem_cons_of_mem _ hq)), AH.xf, AH.noN, rfl, ?_⟩
    walk_at "go"
    rename_i r H6 kn6
    exact q r _ (kn6.sub (((((List.Sublist.refl _).cons _).cons _).cons _).cons _ |>.cons₂ _))
end

/-! ### the law -/
def cLed (C : Addr) (c : Hd) (done : List Nat) (hs : List He) : Led := handsLed c.x c.dx C c.p c.m c.l c.as (rowsH c.m c.xs c.ls done) ++ ((c.D, .lst (done.map vN)) :: (c.Hh, .lst (hts hs)) :: heldLed hs)
def withR (c : Hd) (X : Led) : Hd := { c with R := X ++ c.R }
theorem stLed_c {C : Addr} {c : Hd} {done : List Nat} {hs : List He} : stLed C c done hs = cLed C c done hs ++ c.R := by
  unfold stLed cLed
  simp
theorem stPush {C : Addr} {c : Hd} {done : List Nat} {hs : List He} {X : Led} : (X ++ stLed C c done hs).Perm (stLed C (withR c X) done hs) := by
  rw [stLed_c, stLed_c]
  show (X ++ (cLed C c done hs ++ c.R)).Perm (cLed C c done hs ++ (X ++ c.R))
  rw [← List.append_assoc, ← List.append_assoc]
  exact List.Perm.append_right c.R List.perm_append_comm
theorem HdOk.push {c : Hd} (h : HdOk c) (X : Led) : HdOk (withR c X) := ⟨h.pok, h.asl, List.mem_append_right _ h.pt, List.mem_append_right _ h.st, ⟨h.kv.kp, h.kv.kd, h.kv.kh, h.kv.ke⟩, List.mem_append_right _ h.ev, h.rows.up fun _ hy => List.mem_append_right _ hy⟩
def wordOk (wd : Str) : Prop := wd = "house" ∨ wd = "ready"
def dSI (wd : Str) (z : Int) : PyData := .list [.str wd, .int z]
theorem laySI {wd : Str} (h : wordOk wd) : PyData.canLay0 (.str wd) = true := by
  rcases h with rfl | rfl
  · simp [PyData.canLay0]
    decide +kernel
  · simp [PyData.canLay0]
    decide +kernel
theorem shSI {wd : Str} {z : Int} (h : wordOk wd) : SeqAt.shaped (dSI wd z) = true := by
  have e := laySI h
  unfold dSI SeqAt.shaped
  simp [PyData.canLay0, PyData.canLayAll0, PyData.depth, PyData.depthAll] at e ⊢
  exact e
theorem kNeSI {K : PySem.W.Frag} {H : Hp} {Q : VK} {p q : Addr} {wd : Str} {z : Int} (h : wordOk wd) (h1 : SqL K H p [.str wd, .int z]) (h2 : SqL K H q [.str wd, .int z]) (g : Q (.bl false) H) : rNeD K (.ref p) (.ref q) H Q := by
  refine ⟨dSI wd z, dSI wd z, .lst h1 (.cons (.str _) (.cons (.int _) .nil)), .lst h2 (.cons (.str _) (.cons (.int _) .nil)), shSI h, shSI h, ?_⟩
  have e : PyData.eqv (dSI wd z) (dSI wd z) = true := by simp [dSI, PyData.eqv, PyData.eqvAll]
  rw [e]
  exact g
theorem kNeSI2 {K : PySem.W.Frag} {H : Hp} {Q : VK} {p q a b a2 b2 : Addr} {wd : Str} {z : Int} (h : wordOk wd) (h1 : SqL K H p [.ref a, .ref b]) (ha : SqL K H a [.str wd, .int z]) (hb : SqL K H b [.str wd, .int z]) (h2 : SqL K H q [.ref a2, .ref b2]) (ha2 : SqL K H a2 [.str wd, .int z]) (hb2 : SqL K H b2 [.str wd, .int z]) (g : Q (.bl false) H) : rNeD K (.ref p) (.ref q) H Q := by
  have dd : ∀ {x : Addr}, SqL K H x [.str wd, .int z] → Dp K H (.ref x) (dSI wd z) := fun hx => .lst hx (.cons (.str _) (.cons (.int _) .nil))
  have e0 := laySI h
  have sh : SeqAt.shaped (.list [dSI wd z, dSI wd z]) = true := by
    unfold dSI SeqAt.shaped
    simp [PyData.canLay0, PyData.canLayAll0, PyData.depth, PyData.depthAll] at e0 ⊢
    exact e0
  refine ⟨.list [dSI wd z, dSI wd z], .list [dSI wd z, dSI wd z], .lst h1 (.cons (dd ha) (.cons (dd hb) .nil)), .lst h2 (.cons (dd ha2) (.cons (dd hb2) .nil)), sh, sh, ?_⟩
  have e : PyData.eqv (.list [dSI wd z, dSI wd z]) (.list [dSI wd z, dSI wd z]) = true := by simp [dSI, PyData.eqv, PyData.eqvAll]
  rw [e]
  exact g
abbrev s_law : Stmt := topS 48
theorem sc_law : FnScope ["script", "dice", "state", "hands", "n", "k", "bad", "way", "turn", "far", "some", "house", "one"] ["script"] (defScope s_law) := ⟨rfl, rfl, rfl, by decide +kernel, rfl, by decide +kernel, by decide +kernel⟩
def spLaw (K : PySem.W.Frag) : Sp := fun vs H Q _ => ∃ (a : Addr) (ns : List Int), vs = [.ref a] ∧ SqL K H a (ns.map V.int) ∧ ns.length ≤ 63 ∧ ∀ H', Q (.bl true) H'
section
variable {P : Program} {w : World} {K : PySem.W.Frag} {mg : Str → Option Value} {base : Heap} {C_Hands : Addr}
theorem ok_law {C_HueError C_NotProper C_NoText C_NoRow : Addr} {C_NoHouse fI_NoHouse : Addr} {fd_NoHouse : FuncData} {m_NoHouse : Expr} {bm_NoHouse : List Value} (E_NoHouse : Rf P K mg "NoHouse" "house" C_NoHouse fI_NoHouse fd_NoHouse m_NoHouse bm_NoHouse)
  {C_NotReady fI_NotReady : Addr} {fd_NotReady : FuncData} {m_NotReady : Expr} {bm_NotReady : List Value} (E_NotReady : Rf P K mg "NotReady" "house" C_NotReady fI_NotReady fd_NotReady m_NotReady bm_NotReady)
  (GL : AskedG mg C_HueError C_NotProper C_NoHouse C_NotReady C_NoText C_NoRow) (AH : AskedC K C_NoHouse C_HueError C_NotProper C_NoHouse C_NotReady C_NoText C_NoRow "house" false true false false false) (AY : AskedC K C_NotReady C_HueError C_NotProper C_NoHouse C_NotReady C_NoText C_NoRow "house" false false true false false)
  (cl_Hands : Cls K C_Hands) (na_Hands_labels : NoAttr K C_Hands "labels") (na_Hands_m : NoAttr K C_Hands "m") (na_Hands_pointing : NoAttr K C_Hands "pointing")
  {f a_is_whole a_is_house a_check_house a_unlike_place a_stepped a_halvings a_needed_steps a_given_up a_rounds a_next_label a_Hands_init a_Hands_can_go a_Hands_go a_Hands_done a_Hands_ready a_Hands_label a_law_roll a_law_pointing a_law_whole a_law_bound a_law_names a_law_bits a_law_steps a_law_short a_law_even a_law_state a_law_can a_law_kept a_law_held a_law_asked a_law_looks a_law_gone a_law_goes a_law_caught a_law_no_house a_law_all_so : Addr} {fd fd_is_whole fd_is_house fd_check_house fd_unlike_place fd_stepped fd_halvings fd_needed_steps fd_given_up fd_rounds fd_next_label fd_Hands_init fd_Hands_can_go fd_Hands_go fd_Hands_done fd_Hands_ready fd_Hands_label fd_law_roll fd_law_pointing fd_law_whole fd_law_bound fd_law_names fd_law_bits fd_law_steps fd_law_short fd_law_even fd_law_state fd_law_can fd_law_kept fd_law_held fd_law_asked fd_law_looks fd_law_gone fd_law_goes fd_law_caught fd_law_no_house fd_law_all_so : FuncData} (D_is_whole : Df K mg "is_whole" s_is_whole ["thing"] a_is_whole fd_is_whole) (D_is_house : Df K mg "is_house" s_is_house ["thing", "many"] a_is_house fd_is_house) (D_check_house : Df K mg "check_house" s_check_house ["pointing", "number"] a_check_house fd_check_house) (D_unlike_place : Df K mg "unlike_place" s_unlike_place ["one", "other"] a_unlike_place fd_unlike_place) (D_stepped : Df K mg "stepped" s_stepped ["label", "goal_label"] a_stepped fd_stepped) (D_halvings : Df K mg "halvings" s_halvings ["m"] a_halvings fd_halvings) (D_needed_steps : Df K mg "needed_steps" s_needed_steps ["m"] a_needed_steps fd_needed_steps) (D_given_up : Df K mg "given_up" s_given_up ["ahead", "label", "goal_label", "hue"] a_given_up fd_given_up) (D_rounds : Df K mg "rounds" s_rounds ["m"] a_rounds fd_rounds) (D_next_label : Df K mg "next_label" s_next_label ["m", "own", "goal_label"] a_next_label fd_next_label) (D_Hands_init : If K mg "Hands" C_Hands s_Hands_init ["self", "pointing", "names", "m"] a_Hands_init fd_Hands_init) (D_Hands_can_go : Mf K C_Hands "can_go" "Hands.can_go" s_Hands_can_go ["self", "house"] a_Hands_can_go fd_Hands_can_go) (D_Hands_go : Mf K C_Hands "go" "Hands.go" s_Hands_go ["self", "house"] a_Hands_go fd_Hands_go) (D_Hands_done : Mf K C_Hands "done" "Hands.done" s_Hands_done ["self"] a_Hands_done fd_Hands_done) (D_Hands_ready : Mf K C_Hands "ready" "Hands.ready" s_Hands_ready ["self"] a_Hands_ready fd_Hands_ready) (D_Hands_label : Mf K C_Hands "label" "Hands.label" s_Hands_label ["self", "house", "k"] a_Hands_label fd_Hands_label) (D_law_roll : Df K mg "_law_roll" s_law_roll ["dice", "size"] a_law_roll fd_law_roll) (D_law_pointing : Df K mg "_law_pointing" s_law_pointing ["dice", "most"] a_law_pointing fd_law_pointing) (D_law_whole : Df K mg "_law_whole" s_law_whole ["thing"] a_law_whole fd_law_whole) (D_law_bound : Df K mg "_law_bound" s_law_bound ["dice", "n"] a_law_bound fd_law_bound) (D_law_names : Df K mg "_law_names" s_law_names ["dice", "n", "m"] a_law_names fd_law_names) (D_law_bits : Df K mg "_law_bits" s_law_bits ["number"] a_law_bits fd_law_bits) (D_law_steps : Df K mg "_law_steps" s_law_steps ["m"] a_law_steps fd_law_steps) (D_law_short : Df K mg "_law_short" s_law_short ["one", "other"] a_law_short fd_law_short) (D_law_even : Df K mg "_law_even" s_law_even ["pointing", "names", "m"] a_law_even fd_law_even) (D_law_state : Df K mg "_law_state" s_law_state ["dice", "most"] a_law_state fd_law_state) (D_law_can : Df K mg "_law_can" s_law_can ["state"] a_law_can fd_law_can) (D_law_kept : Df K mg "_law_kept" s_law_kept ["dice", "state", "told"] a_law_kept fd_law_kept) (D_law_held : Df K mg "_law_held" s_law_held ["state"] a_law_held fd_law_held) (D_law_asked : Df K mg "_law_asked" s_law_asked ["dice", "hands", "state", "way"] a_law_asked fd_law_asked) (D_law_looks : Df K mg "_law_looks" s_law_looks ["dice", "hands", "state"] a_law_looks fd_law_looks) (D_law_gone : Df K mg "_law_gone" s_law_gone ["hands", "state", "house"] a_law_gone fd_law_gone) (D_law_goes : Df K mg "_law_goes" s_law_goes ["dice", "hands", "state"] a_law_goes fd_law_goes) (D_law_caught : Df K mg "_law_caught" s_law_caught ["hands", "way", "house", "k"] a_law_caught fd_law_caught) (D_law_no_house : Df K mg "_law_no_house" s_law_no_house ["dice", "n"] a_law_no_house fd_law_no_house) (D_law_all_so : Df K mg "_law_all_so" s_law_all_so ["hands", "state"] a_law_all_so fd_law_all_so) (D : Df K mg "law" s_law ["script"] f fd)
  (C2 : ∃ a, mg "LEFT_HUES" = some (.ref a) ∧ ∀ H, SqT K H a (([0, 1, 2] : List Int).map V.int)) (C3 : ∃ a, mg "GONE_HUES" = some (.ref a) ∧ ∀ H, SqT K H a (([5, 4, 3] : List Int).map V.int)) (C1 : ∃ t, mg "SHORT" = some (.int 6 t)) (C4 : ∃ t, mg "ROUNDS_EACH" = some (.int 2 t)) (M : Bl mg) : FnOk P w K mg base CX0 12 f fd ["script"] (spLaw K) := by
  have G_law_roll := ok_law_roll (P := P) (w := w) (base := base) (k := 0) D_law_roll M
  have G_law_state := ok_law_state (P := P) (w := w) (base := base) (k := 0) D_law_state D_law_roll D_law_pointing D_law_bound D_law_names D_law_bits D_law_steps D_law_short D_law_even M
  have G_Hands_init := ok_Hands_init (P := P) (w := w) (base := base) (k := 0) cl_Hands na_Hands_labels na_Hands_m na_Hands_pointing D_Hands_init M
  have G_Hands_ready := ok_Hands_ready (P := P) (w := w) (base := base) (k := 0) cl_Hands na_Hands_labels na_Hands_m na_Hands_pointing D_Hands_ready D_halvings D_needed_steps D_rounds D_Hands_can_go C1 C3 C4 M
  have G_law_can := ok_law_can (P := P) (w := w) (base := base) (k := 0) D_law_can M
  have G_law_gone := ok_law_gone (P := P) (w := w) (base := base) (k := 0) cl_Hands na_Hands_labels na_Hands_m na_Hands_pointing E_NoHouse E_NotReady D_law_gone D_is_whole D_is_house D_check_house D_unlike_place D_stepped D_halvings D_needed_steps D_given_up D_rounds D_next_label D_Hands_can_go D_Hands_go D_law_whole C1 C2 C3 C4 M
  have G_law_goes := ok_law_goes (P := P) (w := w) (base := base) (k := 0) cl_Hands na_Hands_labels na_Hands_m na_Hands_pointing E_NoHouse E_NotReady D_law_goes D_is_whole D_is_house D_check_house D_unlike_place D_stepped D_halvings D_needed_steps D_given_up D_rounds D_next_label D_Hands_can_go D_Hands_go D_law_roll D_law_whole D_law_can D_law_gone C1 C2 C3 C4 M
  have G_law_looks := ok_law_looks (P := P) (w := w) (base := base) (k := 0) cl_Hands na_Hands_labels na_Hands_m na_Hands_pointing E_NoHouse D_law_looks D_is_whole D_is_house D_check_house D_halvings D_needed_steps D_rounds D_Hands_can_go D_Hands_done D_Hands_ready D_Hands_label D_law_roll D_law_whole D_law_can D_law_kept D_law_asked C1 C3 C4 M
  have G_law_no_house := ok_law_no_house (P := P) (w := w) (base := base) (k := 0) D_law_no_house D_law_roll M
  have G_law_caught := ok_law_caught (P := P) (w := w) (base := base) (k := 0) cl_Hands na_Hands_labels na_Hands_m na_Hands_pointing E_NoHouse E_NotReady GL AH AY D_law_caught D_is_whole D_is_house D_check_house D_unlike_place D_stepped D_halvings D_needed_steps D_given_up D_rounds D_next_label D_Hands_can_go D_Hands_go D_Hands_label D_law_whole C1 C2 C3 C4 M
  have G_law_all_so := ok_law_all_so (P := P) (w := w) (base := base) (k := 0) cl_Hands na_Hands_labels na_Hands_m na_Hands_pointing E_NoHouse D_law_all_so D_is_whole D_is_house D_check_house D_Hands_done D_Hands_label M
  have G_law_held := ok_law_held (P := P) (w := w) (base := base) (k := 0) D_law_held M
  refine D.F.ok sc_law (fun vs H Q E h => ?_) (fun cdv A' outer s H vs Q E hr h => ?_)
  · obtain ⟨a, ns, rfl, _⟩ := h
    rfl
  obtain ⟨a0, ns, rfl, hS, hl, q⟩ := h
  refine ⟨_, (pss_cons (ps_set (i := 1) sc_law.nd rfl (Or.inl rfl) (pe_lst (pa_cons (pe_callTy c_list (by rfl) M.list (by decide +kernel) (pa_cons (pe_slice sl_list (pv 0) po_none (po_some pe_int)) pa_nil)) (pa_cons pe_int (pa_cons pe_int (pa_cons pe_int pa_nil))))))
   (pss_cons (ps_set (i := 2) sc_law.nd rfl (Or.inr rfl) (pe_call G_law_state (hr.mono (by omega)) (by rfl) D_law_state.g D_law_state.F.kp D_law_state.b .nil pass0 (pa_cons (pv 1) (pa_cons (pe_ix ix_list (pe_lst (pa_cons pe_int (pa_cons pe_int (pa_cons pe_int (pa_cons pe_int pa_nil))))) (pe_call G_law_roll (hr.mono (by omega)) (by rfl) D_law_roll.g D_law_roll.F.kp D_law_roll.b .nil pass0 (pa_cons (pv 1) (pa_cons pe_int pa_nil))) (fun _ _ => rfl)) pa_nil))))
   (pss_cons (ps_set (i := 3) sc_law.nd rfl (Or.inr rfl) (pe_make D_Hands_init.mke G_Hands_init (hr.mono (by omega)) (by rfl) D_Hands_init.g D_Hands_init.b .nil pass0 (pa_cons (pe_dget (unit1 hr.units) (pv 2) pe_str (fun _ _ => rfl)) (pa_cons (pe_dget (unit1 hr.units) (pv 2) pe_str (fun _ _ => rfl)) (pa_cons (pe_dget (unit1 hr.units) (pv 2) pe_str (fun _ _ => rfl)) pa_nil)))))
   (pss_cons (ps_set (i := 4) sc_law.nd rfl (Or.inl rfl) (pe_callB c_len (by rfl) M.len PySem.boot_len (pa_cons (pe_dget (unit1 hr.units) (pv 2) pe_str (fun _ _ => rfl)) pa_nil)))
   (pss_cons (ps_for PassesOwn.never rfl (pi_range1 (by rfl) M.range (pa_cons pe_int pa_nil)) (pg_name (i := 5) sc_law.nd rfl (Or.inl rfl))
    (pss_cons (ps_set (i := 6) sc_law.nd rfl (Or.inl rfl) (pe_call G_law_no_house (hr.mono (by omega)) (by rfl) D_law_no_house.g D_law_no_house.F.kp D_law_no_house.b .nil pass0 (pa_cons (pv 1) (pa_cons (pv 4) pa_nil))))
    (pss_cons (ps_set (i := 7) sc_law.nd rfl (Or.inl rfl) (pe_call G_law_roll (hr.mono (by omega)) (by rfl) D_law_roll.g D_law_roll.F.kp D_law_roll.b .nil pass0 (pa_cons (pv 1) (pa_cons pe_int pa_nil))))
    (pss_cons (ps_for PassesOwn.never rfl (pi_range1 (by rfl) M.range (pa_cons (pe_op op_add pe_int (pe_call G_law_roll (hr.mono (by omega)) (by rfl) D_law_roll.g D_law_roll.F.kp D_law_roll.b .nil pass0 (pa_cons (pv 1) (pa_cons pe_int pa_nil)))) pa_nil)) (pg_name (i := 8) sc_law.nd rfl (Or.inl rfl))
     (pss_cons (ps_set (i := 9) sc_law.nd rfl (Or.inl rfl) (pe_ix ix_list (pe_lst (pa_cons pe_int (pa_cons pe_int (pa_cons (pe_callB c_len (by rfl) M.len PySem.boot_len (pa_cons (pe_dget (unit1 hr.units) (pv 2) pe_str (fun _ _ => rfl)) pa_nil)) (pa_cons (pe_op op_pow pe_int pe_int) pa_nil))))) (pe_call G_law_roll (hr.mono (by omega)) (by rfl) D_law_roll.g D_law_roll.F.kp D_law_roll.b .nil pass0 (pa_cons (pv 1) (pa_cons pe_int pa_nil))) (fun _ _ => rfl)))
     (pss_one (ps_if (pt_cmpR (op_neD hr.units) (pe_call G_law_caught (hr.mono (by omega)) (by rfl) D_law_caught.g D_law_caught.F.kp D_law_caught.b .nil pass0 (pa_cons (pv 3) (pa_cons (pv 7) (pa_cons (pv 6) (pa_cons (pv 9) pa_nil))))) (pe_lst (pa_cons pe_str (pa_cons (pv 6) pa_nil))) (nomark _)) (pss_one (ps_ret pe_bl)) pss_nil))))
    (pss_cons (ps_setLc (i := 10) (own := [("one", 12)]) (g := gName 12) (by rfl) sc_law.nd rfl rfl (sw_true rfl rfl rfl (by decide +kernel)) (pi_range1 (by rfl) M.range (pa_cons (pv 4) pa_nil)) (blkOk_by (own := [("one", 12)]) (N := ["script", "dice", "state", "hands", "n", "k", "bad", "way", "turn", "far", "some", "house", "one"]) (sc := defScope s_law) (by decide +kernel)) (fun _ _ _ _ _ => (pg_name (i := 12) sc_law.nd rfl (Or.inl rfl))) (fun _ _ _ _ _ => (pts_one (pt_cmpR (niQ (K := K) rfl) (pv 12) (pe_call G_law_can (hr.mono (by omega)) (by rfl) D_law_can.g D_law_can.F.kp D_law_can.b .nil pass0 (pa_cons (pv 2) pa_nil)) (by rfl)))) (fun _ _ _ _ _ => (pv 12)))
    (pss_cons (ps_for PassesOwn.never rfl (pi_range1 (by rfl) M.range (pa_cons (pe_op op_mul (pe_call G_law_roll (hr.mono (by omega)) (by rfl) D_law_roll.g D_law_roll.F.kp D_law_roll.b .nil pass0 (pa_cons (pv 1) (pa_cons pe_int pa_nil))) (pe_callTy c_int (by rfl) M.int (by decide +kernel) (pa_cons (pe_cmpR (op_neD hr.units) (pv 10) (pe_lst pa_nil) (nomark _)) pa_nil))) pa_nil)) (pg_name (i := 8) sc_law.nd rfl (Or.inl rfl))
     (pss_cons (ps_set (i := 11) sc_law.nd rfl (Or.inr rfl) (pe_ix ix_list (pv 10) (pe_call G_law_roll (hr.mono (by omega)) (by rfl) D_law_roll.g D_law_roll.F.kp D_law_roll.b .nil pass0 (pa_cons (pv 1) (pa_cons (pe_callB c_len (by rfl) M.len PySem.boot_len (pa_cons (pv 10) pa_nil)) pa_nil))) (fun _ _ => rfl)))
     (pss_one (ps_if (pt_cmpR (op_neD hr.units) (pe_call G_law_caught (hr.mono (by omega)) (by rfl) D_law_caught.g D_law_caught.F.kp D_law_caught.b .nil pass0 (pa_cons (pv 3) (pa_cons pe_int (pa_cons (pv 11) (pa_cons pe_int pa_nil))))) (pe_lst (pa_cons pe_str (pa_cons (pv 11) pa_nil))) (nomark _)) (pss_one (ps_ret pe_bl)) pss_nil))))
    (pss_one (ps_if (PW.pt (pw_or (pt_not (pt_val (pe_call G_law_looks (hr.mono (by omega)) (by rfl) D_law_looks.g D_law_looks.F.kp D_law_looks.b .nil pass0 (pa_cons (pv 1) (pa_cons (pv 3) (pa_cons (pv 2) pa_nil)))))) (pw_or1 (pt_not (pt_val (pe_call G_law_goes (hr.mono (by omega)) (by rfl) D_law_goes.g D_law_goes.F.kp D_law_goes.b .nil pass0 (pa_cons (pv 1) (pa_cons (pv 3) (pa_cons (pv 2) pa_nil))))))))) (pss_one (ps_ret pe_bl)) pss_nil))))))))
   (pss_cons (ps_if (pt_not (pt_val (pe_call G_law_all_so (hr.mono (by omega)) (by rfl) D_law_all_so.g D_law_all_so.F.kp D_law_all_so.b .nil pass0 (pa_cons (pv 3) (pa_cons (pv 2) pa_nil))))) (pss_one (ps_ret pe_bl)) pss_nil)
   (pss_cons (ps_set (i := 9) sc_law.nd rfl (Or.inl rfl) (pe_op op_mul (pv 4) (pe_callB c_len (by rfl) M.len PySem.boot_len (pa_cons (pe_dget (unit1 hr.units) (pv 2) pe_str (fun _ _ => rfl)) pa_nil))))
   (pss_cons (ps_for PassesOwn.never rfl (pi_range1 (by rfl) M.range (pa_cons (pv 9) pa_nil)) (pg_name (i := 5) sc_law.nd rfl (Or.inl rfl))
    (pss_cons (ps_set (i := 10) sc_law.nd rfl (Or.inl rfl) (pe_call G_law_can (hr.mono (by omega)) (by rfl) D_law_can.g D_law_can.F.kp D_law_can.b .nil pass0 (pa_cons (pv 2) pa_nil)))
    (pss_one (ps_if (PW.pt (pw_and (pt_cmpR (op_neD hr.units) (pv 10) (pe_lst pa_nil) (nomark _)) (pw_and1 (pt_not (pt_val (pe_call G_law_gone (hr.mono (by omega)) (by rfl) D_law_gone.g D_law_gone.F.kp D_law_gone.b .nil pass0 (pa_cons (pv 3) (pa_cons (pv 2) (pa_cons (pe_ix ix_list (pv 10) pe_int (fun _ _ => rfl)) pa_nil))))))))) (pss_one (ps_ret pe_bl)) pss_nil))))
   (pss_cons (ps_if (PW.pt (pw_or (pt_cmpR (op_neD hr.units) (pe_meth0 (pv 3) cl_Hands D_Hands_ready.mt G_Hands_ready (hr.mono (by omega)) D_Hands_ready.b .nil pass0) (pe_lst pa_nil) (nomark _)) (pw_or1 (pt_cmpR (op_neD hr.units) (pe_dget (unit1 hr.units) (pv 2) pe_str (fun _ _ => rfl)) (pe_op op_rep (pe_lst (pa_cons (pe_op op_sub (pe_callB c_len (by rfl) M.len PySem.boot_len (pa_cons (pe_dget (unit1 hr.units) (pv 2) pe_str (fun _ _ => rfl)) pa_nil)) pe_int) pa_nil)) (pv 4)) (nomark _))))) (pss_one (ps_ret pe_bl)) pss_nil)
   (pss_cons (ps_for PassesOwn.never rfl (pi_range1 (by rfl) M.range (pa_cons (pv 4) pa_nil)) (pg_name (i := 11) sc_law.nd rfl (Or.inr rfl))
    (pss_one (ps_if (pt_cmpR (op_neD hr.units) (pe_call G_law_caught (hr.mono (by omega)) (by rfl) D_law_caught.g D_law_caught.F.kp D_law_caught.b .nil pass0 (pa_cons (pv 3) (pa_cons pe_int (pa_cons (pv 11) (pa_cons pe_int pa_nil))))) (pe_lst (pa_cons pe_str (pa_cons (pv 11) pa_nil))) (nomark _)) (pss_one (ps_ret pe_bl)) pss_nil)))
   (pss_cons (ps_for PassesOwn.never rfl (pi_list (pe_lst (pa_cons (pv 4) (pa_cons (pe_un un_neg pe_int) pa_nil)))) (pg_name (i := 11) sc_law.nd rfl (Or.inr rfl))
    (pss_one (ps_if (pt_cmpR (op_neD hr.units) (pe_lc (own := [("way", 7)]) (g := gName 7) (by rfl) sc_law.nd (pi_range1 (by rfl) M.range (pa_cons pe_int pa_nil)) (blkOk_by (own := [("way", 7)]) (N := ["script", "dice", "state", "hands", "n", "k", "bad", "way", "turn", "far", "some", "house", "one"]) (sc := defScope s_law) (by decide +kernel)) (fun _ _ _ _ _ => (pg_name (i := 7) sc_law.nd rfl (Or.inl rfl))) (fun _ _ _ _ _ => pts_nil) (fun _ _ _ _ _ => (pe_call G_law_caught (hr.mono (by omega)) (by rfl) D_law_caught.g D_law_caught.F.kp D_law_caught.b .nil pass0 (pa_cons (pv 3) (pa_cons (pv 7) (pa_cons (pv 11) (pa_cons pe_int pa_nil))))))) (pe_lst (pa_cons (pe_lst (pa_cons pe_str (pa_cons (pv 11) pa_nil))) (pa_cons (pe_lst (pa_cons pe_str (pa_cons (pv 11) pa_nil))) pa_nil))) (nomark _)) (pss_one (ps_ret pe_bl)) pss_nil)))
   (pss_one (ps_ret (pe_and (pe_cmpR (op_eqD hr.units) (pe_meth0 (pv 3) cl_Hands D_Hands_ready.mt G_Hands_ready (hr.mono (by omega)) D_Hands_ready.b .nil pass0) (pe_lst pa_nil) (nomark _)) (pe_and (pe_call G_law_all_so (hr.mono (by omega)) (by rfl) D_law_all_so.g D_law_all_so.F.kp D_law_all_so.b .nil pass0 (pa_cons (pv 3) (pa_cons (pv 2) pa_nil))) (pe_one (pe_call G_law_held (hr.mono (by omega)) (by rfl) D_law_held.g D_law_held.F.kp D_law_held.b .nil pass0 (pa_cons (pv 2) pa_nil)))))))))))))))))), ?_⟩
  refine kStart hS rfl fun d H1 kn => ?_
  walk_at "go"
  rename_i lq H2 kn2
  refine kRoll kn2 (by omega) (by omega) (by omega) fun c H3 c0 c1 kn3 => ?_
  obtain ⟨mo, he, hm⟩ := atMem (es := [3, 8, 8, 60]) c0 (by simpa using c1)
  have hmo : 3 ≤ mo ∧ mo ≤ 60 := by
    simp only [List.mem_cons, List.not_mem_nil, or_false] at hm
    rcases hm with rfl | rfl | rfl | rfl <;> omega
  refine kIxL (kn3.seqL List.mem_cons_self) he ?_
  walk_at "go"
  refine ⟨d, _, _, mo, rfl, by omega, by omega, by omega, kn3.tail, fun S p q' D Hh Ev m es xs ls kvs R0 H4 hpok vP vN' vB vD vH vE mp0 mq0 mS0 mE0 hrows0 _ _ kn4 => ?_⟩
  have u0 : ∀ y, y ∈ R0 → y ∈ R0 ++ [] := fun y hy => List.mem_append_left _ hy
  obtain ⟨R, hRR⟩ : ∃ R, R0 ++ [] = R := ⟨_, rfl⟩
  rw [hRR] at kn4 u0
  have mp := u0 _ mp0
  have mq := u0 _ mq0
  have mS := u0 _ mS0
  have mE := u0 _ mE0
  have hrows := hrows0.up u0
  have h2 := hpok.pt.two
  have h60 := hpok.pt.most
  have hsh := halv_short hpok.m62
  walk_at "go"
  refine kMake ?_
  walk_at "go"
  refine kDGet rfl (kn4.mem (List.mem_cons_of_mem _ (List.mem_cons_of_mem _ mS))) vP ?_
  walk_at "go"
  refine kDGet rfl (kn4.mem (List.mem_cons_of_mem _ (List.mem_cons_of_mem _ mS))) vN' ?_
  walk_at "go"
  refine kDGet rfl (kn4.mem (List.mem_cons_of_mem _ (List.mem_cons_of_mem _ mS))) vB ?_
  walk_at "go"
  intro x dx hx hdx hne
  refine ⟨d, _, _, x, dx, p, q', xs, ls, m, rfl, hpok.len, by have := hpok.len; omega, List.mem_cons_of_mem _ (List.mem_cons_of_mem _ mp), List.mem_cons_of_mem _ (List.mem_cons_of_mem _ mq), kn4.made hx hdx hne, fun l as H5 hasl kn5 => ⟨rfl, ?_⟩⟩
  obtain ⟨cc, hcc⟩ : ∃ cc : Hd, cc = ⟨x, dx, p, l, D, Hh, S, Ev, m, as, es, xs, ls, kvs, R⟩ := ⟨_, rfl⟩
  have hc : HdOk cc := by rw [hcc]; exact ⟨hpok, hasl, mp, mS, ⟨vP, vD, vH, vE⟩, mE, hrows⟩
  have ho : DOk cc (List.replicate xs.length 0) := by
    rw [hcc]
    exact ⟨hpok.pt, hpok.len, hpok.in_, hpok.pr, hpok.m62, List.length_replicate .., fun z hz => by rw [(List.mem_replicate.mp hz).2]; exact Nat.zero_le _⟩
  have kn6 : Kn d 10000 (stLed C_Hands cc (List.replicate xs.length 0) []) H5 := by rw [hcc]; exact Kn.more kn5 (by omega)
  have ex : cc.x = x := by rw [hcc]
  have eS : cc.S = S := by rw [hcc]
  have exs : cc.xs = xs := by rw [hcc]
  have em : cc.m = m := by rw [hcc]
  have eHh : cc.Hh = Hh := by rw [hcc]
  have ekv : cc.kvs = kvs := by rw [hcc]
  have eD : cc.D = D := by rw [hcc]
  have eEv : cc.Ev = Ev := by rw [hcc]
  rw [← exs] at ho h2 h60 kn6
  rw [← em] at hsh
  rw [← ex, ← eS]
  clear hcc kn5 kn4 kn3 kn2 kn hrows hrows0
  have hli0 : LIn (stLed C_Hands cc (List.replicate cc.xs.length 0) []) cc (List.replicate cc.xs.length 0) := hc.lin
  have hes := esLen hli0
  walk_at "go"
  refine kDGet rfl (kn6.mem hli0.st) hc.kv.kd ?_
  walk_at "go"
  refine kLenL (kn6.seqL hli0.dn) ?_
  walk_at "go"
  rw [List.length_map, List.length_replicate]
  have h58 : (10 : Int) ^ Int.toNat 58 = 10000000000000000000000000000000000000000000000000000000000 := by decide
  refine kSeq (kRng1 (n := 14) (by omega) (fun t σ' H' => ∃ (x5 x6 x7 x8 x9 x10 x11 x12 : Option V) (done : List Nat) (hs : List He), σ' = [some (.ref a0), some (.ref d), some (.ref cc.S), some (.ref cc.x), some (.int (cc.xs.length : Int)), x5, x6, x7, x8, x9, x10, x11, x12] ∧ t ≤ 14 ∧ DOk cc done ∧ hs.length ≤ 3 * t ∧ (∀ e ∈ hs, e.2.2.2.length ≤ 1000) ∧ Kn d (10000 + 1000 * t) (stLed C_Hands cc done hs) H')
    ⟨_, _, _, _, _, _, _, _, _, [], rfl, by omega, ho, Nat.zero_le _, (fun _ h => by cases h), kn6⟩ (fun t σ' H' ht hW => ?_) (fun σ' H' hW => ?_) fun R hR => by walk_at "go"; exact hR)
  · obtain ⟨x5, x6, x7, x8, x9, x10, x11, x12, done, hs, rfl, ht14, hod, hhl, hhz, kn7⟩ := hW
    have hli : LIn (stLed C_Hands cc done hs) cc done := hc.lin
    walk_at "go"
    refine ⟨d, _, _, cc.xs.length, rfl, by omega, by omega, kn7, fun bad H8 hbad kn8 => ?_⟩
    walk_at "go"
    refine kRoll kn8 (by omega) (by omega) (by omega) fun way H9 w0 w1 kn9 => ?_
    refine kSeq (kRngD (fun z H' => (1 ≤ z ∧ z ≤ 2) ∧ Kn d (10000 + 1000 * t + 7) (stLed C_Hands cc done hs) H') (fun R hR => ?_) (fun z H10 ⟨hz, kn10⟩ => ⟨by omega, fun u σ' H' => ∃ (x8 x9 : Option V), σ' = [some (.ref a0), some (.ref d), some (.ref cc.S), some (.ref cc.x), some (.int (cc.xs.length : Int)), some (.int (t : Int)), some (.int bad), some (.int way), x8, x9, x10, x11, x12] ∧ u ≤ 2 ∧ Kn d (10000 + 1000 * t + 7 + u) (stLed C_Hands cc done hs) H',
      ⟨_, _, rfl, by omega, kn10⟩, fun u σ' H' hu hW => ?_, fun σ' H' hW => ?_⟩))
    · walk_at "go"
      refine kRoll kn9 (by omega) (by omega) (by omega) fun r H10 r0 r1 kn10 => ?_
      walk_at "go"
      exact hR _ _ ⟨by omega, kn10⟩
    · obtain ⟨x8, x9, rfl, hu2, kn10⟩ := hW
      walk_at "go"
      refine kDGet rfl (kn10.mem hli.st) hc.kv.ke ?_
      walk_at "go"
      refine kLenL (kn10.seqL hli.ev) ?_
      walk_at "go"
      rename_i l4 H11 kn11
      rw [List.length_map] at kn11
      refine kRoll kn11 (by omega) (by omega) (by omega) fun r H12 r0 r1 kn12 => ?_
      obtain ⟨fv, hfv, mfv⟩ := atMem (es := [0, 5, (cc.es.length : Int), (10 : Int) ^ Int.toNat 58]) r0 (by simpa using r1)
      have hfv0 : 0 ≤ fv := by
        rw [h58] at mfv
        simp only [List.mem_cons, List.not_mem_nil, or_false] at mfv
        omega
      refine kIxL (kn12.seqL List.mem_cons_self) hfv ?_
      walk_at "go"
      refine ⟨d, _, cc, done, hs, way, bad, fv, "house", rfl, hod, hc, hfv0, kn12.tail, .inl ⟨hbad, rfl⟩, fun rr H13 kn13 => ?_⟩
      walk_at "go"
      rename_i l5 H14 kn14
      refine kNeSI (wd := "house") (z := bad) (.inl rfl) (kn14.seqL (List.mem_cons_of_mem _ List.mem_cons_self)) (kn14.seqL List.mem_cons_self) ?_
      refine kBl ?_
      refine iteF ?_
      walk_at "go"
      exact ⟨_, _, rfl, by omega, kn14.tail.tail.more (by omega)⟩
    · obtain ⟨x8, x9, rfl, hu2, kn10⟩ := hW
      have kn10 := kn10.more (m := 10000 + 1000 * t + 20) (by omega)
      walk_at "go"
      refine kLcRG (lo := 0) (N := cc.xs.length) kn10 (fun R hR => srcR1 (n := (cc.xs.length : Int)) (fun R' h' => ?_) (by omega) (by omega) R (by rw [Int.toNat_natCast]; exact hR)) (by omega) (fun i acc m2 L2 => m2 = 10000 + 1000 * t + 20 ∧ acc = ((List.range i).filter (fun j => !canB cc.xs cc.m done j)).map vN ∧ ∃ X, L2 = X ++ stLed C_Hands cc done hs) ⟨rfl, rfl, [], rfl⟩ (fun i l m2 L2 h => ?_) (fun _ => rfl) (fun i H' DD acc m2 L2 hi hS kn11 N1 N2 h1' h2' => ?_) (fun so acc m2 L2 H' hS kn11 => ?_)
      · walk_at "go"
        exact h'
      · rw [h.2.1, List.length_map]
        exact Nat.le_trans (List.length_filter_le _ _) (by rw [List.length_range]; exact Nat.le_refl _)
      · obtain ⟨rfl, rfl, X, rfl⟩ := hS
        rw [Int.zero_add]
        have nxt : (List.range (i + 1)).filter (fun j => !canB cc.xs cc.m done j) = (List.range i).filter (fun j => !canB cc.xs cc.m done j) ++ (if (!canB cc.xs cc.m done i) = true then [i] else []) := by
          rw [List.range_succ, List.filter_append]
          congr 1
          rw [List.filter_cons, List.filter_nil]
        walk_at "go"
        refine ⟨d, _, _, cc, done, rfl, hod, hc.kv, hli.up fun y hy => List.mem_cons_of_mem _ (List.mem_append_right _ hy), kn11, fun cl H12 kn12 => ?_⟩
        rw [vN_map (canL cc.xs cc.m done)] at kn12
        refine kNiL (kn12.seqL List.mem_cons_self) ?_
        refine kBl ?_
        have kn13 := kn12.perm (List.Perm.swap _ _ _)
        refine iteN (fun hni => ?_) (fun hin => ?_)
        · have hcb : canB cc.xs cc.m done i = false := by
            cases hb : canB cc.xs cc.m done i with
            | false => rfl
            | true => exact absurd (List.mem_map.mpr ⟨i, List.mem_filter.mpr ⟨List.mem_range.mpr hi, hb⟩, rfl⟩) hni
          rw [hcb, if_pos (by rfl)] at nxt
          walk_at "go"
          refine h1' _ _ _ ((cl, HO.lst (((canL cc.xs cc.m done).map (fun n : Nat => (n : Int))).map V.int)) :: (X ++ stLed C_Hands cc done hs)) ⟨rfl, ?_, (cl, HO.lst (((canL cc.xs cc.m done).map (fun n : Nat => (n : Int))).map V.int)) :: X, rfl⟩ kn13
          rw [nxt, List.map_append]
          rfl
        · obtain ⟨i2, hi2, e2⟩ := List.mem_map.mp hin
          have ei : i2 = i := by exact_mod_cast e2
          rw [ei] at hi2
          have hcb := (List.mem_filter.mp hi2).2
          rw [hcb, if_neg (by decide), List.append_nil] at nxt
          exact h2' _ _ ((cl, HO.lst (((canL cc.xs cc.m done).map (fun n : Nat => (n : Int))).map V.int)) :: (X ++ stLed C_Hands cc done hs)) ⟨rfl, by rw [nxt], (cl, HO.lst (((canL cc.xs cc.m done).map (fun n : Nat => (n : Int))).map V.int)) :: X, rfl⟩ kn13
      · obtain ⟨rfl, rfl, X, rfl⟩ := hS
        obtain ⟨cs, hcs⟩ : ∃ cs, (List.range cc.xs.length).filter (fun j => !canB cc.xs cc.m done j) = cs := ⟨_, rfl⟩
        have hcl : cs.length ≤ 60 := by
          rw [← hcs]
          exact Nat.le_trans (List.length_filter_le _ _) (by rw [List.length_range]; omega)
        obtain ⟨zs, hzs⟩ : ∃ zs : List Int, cs.map (fun n : Nat => (n : Int)) = zs := ⟨_, rfl⟩
        have hzl : zs.length = cs.length := by rw [← hzs, List.length_map]
        have hzm : ∀ z ∈ zs, ∃ i : Nat, i < cc.xs.length ∧ canB cc.xs cc.m done i = false ∧ z = (i : Int) := fun z hz => by
          rw [← hzs] at hz
          obtain ⟨i, hi, e⟩ := List.mem_map.mp hz
          rw [← hcs] at hi
          have h1 := List.mem_filter.mp hi
          exact ⟨i, List.mem_range.mp h1.1, by simpa using h1.2, e.symm⟩
        rw [vN_map, hcs, hzs] at kn11
        have kn12 : Kn d (10000 + 1000 * t + 20) ((so, HO.lst (zs.map V.int)) :: stLed C_Hands cc done hs) H' := kn11.sub ((List.sublist_append_right X _).cons₂ _)
        walk_at "go"
        refine kSeq (kRngD (fun z H' => (0 ≤ z ∧ z ≤ 2) ∧ (zs = [] → z = 0) ∧ Kn d (10000 + 1000 * t + 21) ((so, HO.lst (zs.map V.int)) :: stLed C_Hands cc done hs) H') (fun R hR => ?_) (fun z H13 ⟨hz, hz0, kn13⟩ => ⟨by omega, fun u σ' H' => ∃ (x8 x11 : Option V), σ' = [some (.ref a0), some (.ref d), some (.ref cc.S), some (.ref cc.x), some (.int (cc.xs.length : Int)), some (.int (t : Int)), some (.int bad), some (.int way), x8, x9, some (.ref so), x11, x12] ∧ u ≤ 2 ∧ Kn d (10000 + 1000 * t + 21 + u) ((so, HO.lst (zs.map V.int)) :: stLed C_Hands cc done hs) H',
          ⟨_, _, rfl, by omega, kn13⟩, fun u σ' H' hu hW => ?_, fun σ' H' hW => ?_⟩))
        · walk_at "go"
          refine kRoll kn12 (by omega) (by omega) (by omega) fun r H13 r0 r1 kn13 => ?_
          walk_at "go"
          rename_i em H14 kn14
          refine kNeL (xs := zs) (ys := []) (kn14.seqL (List.mem_cons_of_mem _ List.mem_cons_self)) (kn14.seqL List.mem_cons_self) ?_
          walk_at "go"
          by_cases hne : zs = []
          · rw [decide_eq_true hne]
            exact hR _ _ ⟨by simp, fun _ => by simp, kn14.tail⟩
          · rw [decide_eq_false hne]
            refine hR _ _ ⟨?_, fun h => absurd h hne, kn14.tail⟩
            simp
            omega
        · obtain ⟨x8, x11, rfl, hu2, kn13⟩ := hW
          have hne : zs ≠ [] := fun h => by
            have := hz0 h
            omega
          have hpos : 0 < zs.length := List.length_pos_iff.mpr hne
          have elen : (zs.map V.int).length = zs.length := List.length_map _
          walk_at "go"
          rw [elen]
          refine kRoll kn13 (by omega) (by omega) (by omega) fun r H14 r0 r1 kn14 => ?_
          obtain ⟨zz, hzz, mz⟩ := atMem (es := zs) (z := r) r0 (by omega)
          obtain ⟨i, hil, hcb, rfl⟩ := hzm zz mz
          refine kIxL (kn14.seqL List.mem_cons_self) hzz ?_
          walk_at "go"
          refine ⟨d, _, withR cc [(so, HO.lst (zs.map V.int))], done, hs, 0, (i : Int), 0, "ready", rfl, hod, hc.push _, by omega, kn14.perm (stPush (X := [(so, HO.lst (zs.map V.int))])), .inr ⟨rfl, ⟨by omega, ?_⟩, by rw [Int.toNat_natCast]; exact hcb, rfl⟩, fun rr H15 kn15 => ?_⟩
          · show (i : Int) < (cc.xs.length : Int)
            omega
          have kn16 := kn15.perm (List.Perm.cons _ (stPush (X := [(so, HO.lst (zs.map V.int))])).symm)
          walk_at "go"
          rename_i l5 H17 kn17
          refine kNeSI (wd := "ready") (z := (i : Int)) (.inr rfl) (kn17.seqL (List.mem_cons_of_mem _ List.mem_cons_self)) (kn17.seqL List.mem_cons_self) ?_
          refine kBl ?_
          refine iteF ?_
          walk_at "go"
          exact ⟨_, _, rfl, by omega, Kn.more kn17.tail.tail (by omega)⟩
        · obtain ⟨x8, x11, rfl, hu2, kn13⟩ := hW
          have kn14 := kn13.tail
          refine kIfS ?_
          walk_at "go"
          refine ⟨d, _, cc, done, hs, rfl, hod, hc, by omega, by omega, hhz, kn14, fun hs' H15 hl' hz' kn15 => ?_⟩
          refine kBl ?_
          refine iteF ?_
          walk_at "go"
          refine ⟨d, _, cc, done, hs', rfl, hod, hc, by omega, kn15, fun done' H16 hod' kn16 => ?_⟩
          refine kBl ?_
          refine iteF ?_
          walk_at "go"
          exact ⟨_, _, _, _, _, _, _, _, done', hs', rfl, by omega, hod', by omega, hz', kn16.more (by omega)⟩
  · obtain ⟨x5, x6, x7, x8, x9, x10, x11, x12, done, hs, rfl, ht14, hod, hhl, hhz, kn7⟩ := hW
    have hli : LIn (stLed C_Hands cc done hs) cc done := hc.lin
    obtain ⟨rr, hrr⟩ : ∃ rr, (halv cc.m).length + 5 = rr := ⟨_, rfl⟩
    have hes' : cc.es.length = rr + 1 := by omega
    have hmul : cc.xs.length * (rr + 1) ≤ 60 * 132 := Nat.mul_le_mul (by omega) (by omega)
    refine kSeq (kIfS ?_)
    walk_at "go"
    refine ⟨d, _, cc, done, hs, rfl, hod, hc, kn7, fun H8 kn8 => ?_⟩
    refine kBl ?_
    refine iteF ?_
    walk_at "go"
    refine kDGet rfl (kn8.mem hli.st) hc.kv.ke ?_
    walk_at "go"
    refine kLenL (kn8.seqL hli.ev) ?_
    walk_at "go"
    rw [List.length_map, hes']
    have efar : (cc.xs.length : Int) * ((rr + 1 : Nat) : Int) = ((cc.xs.length * (rr + 1) : Nat) : Int) := by norm_cast
    rw [efar]
    refine kSeq (kRng1 (n := ((cc.xs.length * (rr + 1) : Nat) : Int)) ⟨by omega, by omega⟩ (fun u σ' H' => ∃ (x5 x10 : Option V) (done' : List Nat), σ' = [some (.ref a0), some (.ref d), some (.ref cc.S), some (.ref cc.x), some (.int (cc.xs.length : Int)), x5, x6, x7, x8, some (.int ((cc.xs.length * (rr + 1) : Nat) : Int)), x10, x11, x12] ∧ DOk cc done' ∧ (u ≤ done'.sum ∨ cc.xs.length * rr ≤ done'.sum) ∧ Kn d 40000 (stLed C_Hands cc done' hs) H')
      ⟨_, _, done, rfl, hod, .inl (Nat.zero_le _), kn8.more (by omega)⟩ (fun u σ' H' hu hW => ?_) (fun σ' H' hW => ?_) fun R hR => by walk_at "go"; exact hR)
    · obtain ⟨x5, x10, done', rfl, hod', hsum, kn9⟩ := hW
      have hli' : LIn (stLed C_Hands cc done' hs) cc done' := hc.lin
      walk_at "go"
      refine ⟨d, _, _, cc, done', rfl, hod', hc.kv, hli', kn9, fun so H10 kn10 => ?_⟩
      obtain ⟨cs, hcs⟩ : ∃ cs, canL cc.xs cc.m done' = cs := ⟨_, rfl⟩
      obtain ⟨zs, hzs⟩ : ∃ zs : List Int, cs.map (fun n : Nat => (n : Int)) = zs := ⟨_, rfl⟩
      have hzl : zs.length = cs.length := by rw [← hzs, List.length_map]
      rw [vN_map, hcs, hzs] at kn10
      refine kIfS ?_
      walk_at "go"
      rename_i em H11 kn11
      refine kNeL (xs := zs) (ys := []) (kn11.seqL (List.mem_cons_of_mem _ List.mem_cons_self)) (kn11.seqL List.mem_cons_self) ?_
      refine kBl ?_
      refine iteN (fun hne => ?_) (fun he => ?_)
      · have hpos : 0 < zs.length := List.length_pos_iff.mpr hne
        obtain ⟨z0, hz0, m0⟩ := atMem (es := zs) (z := 0) (by omega) (by omega)
        rw [← hzs] at m0
        obtain ⟨i, hi, rfl⟩ := List.mem_map.mp m0
        rw [← hcs] at hi
        obtain ⟨hil, hcan⟩ := canL_mem hi
        walk_at "go"
        refine kIxL (kn11.seqL (List.mem_cons_of_mem _ List.mem_cons_self)) hz0 ?_
        walk_at "go"
        refine ⟨d, _, cc, done', hs, i, rfl, hod', hc, hil, hcan, kn11.tail.tail, fun H12 kn12 => ?_⟩
        refine kBl ?_
        refine iteF ?_
        walk_at "go"
        refine ⟨_, _, _, rfl, hod'.next hcan, ?_, kn12⟩
        rw [sum_set _ _ (by rw [hod'.dl]; exact hil)]
        omega
      · have hce : canL cc.xs cc.m done' = [] := by
          rw [hcs]
          exact List.length_eq_zero_iff.mp (by rw [← hzl, he]; rfl)
        walk_at "go"
        refine ⟨_, _, done', rfl, hod', ?_, kn11.tail.tail⟩
        by_cases hlt : done'.sum < cc.xs.length * ((halv cc.m).length + 5)
        · exact absurd hce (can_some hod' hlt)
        · rw [hrr] at hlt
          exact .inr (by omega)
    · obtain ⟨x5, x10, done', rfl, hod', hsum, kn9⟩ := hW
      rw [Int.toNat_natCast] at hsum
      have hge : cc.xs.length * rr ≤ done'.sum := by
        rcases hsum with h | h
        · have : cc.xs.length * rr ≤ cc.xs.length * (rr + 1) := Nat.mul_le_mul_left _ (by omega)
          omega
        · exact h
      have hfull : done' = List.replicate cc.xs.length rr := by
        have := sum_full (R := rr) done' (fun r hr => by have := hod'.top r hr; omega) (by rw [hod'.dl]; exact hge)
        rw [hod'.dl] at this
        exact this
      subst hfull
      have hli' : LIn (stLed C_Hands cc (List.replicate cc.xs.length rr) hs) cc (List.replicate cc.xs.length rr) := hc.lin
      have hnone : canL cc.xs cc.m (List.replicate cc.xs.length rr) = [] := by rw [← hrr]; exact can_none
      have hcb : ∀ i, i < cc.xs.length → canB cc.xs cc.m (List.replicate cc.xs.length rr) i = false := fun i hi => by
        cases hb : canB cc.xs cc.m (List.replicate cc.xs.length rr) i with
        | false => rfl
        | true =>
          have : i ∈ canL cc.xs cc.m (List.replicate cc.xs.length rr) := List.mem_filter.mpr ⟨List.mem_range.mpr hi, hb⟩
          rw [hnone] at this
          cases this
      have nog : ∀ f : Str, ¬ f = "labels" → ¬ f = "m" → ¬ f = "pointing" → (hf cc.p cc.m cc.l).lookup f = none := fun f h1 h2 h3 => hf_no _ _ _ h1 h2 h3
      have nR := nog "ready" (by decide +kernel) (by decide +kernel) (by decide +kernel)
      refine kSeq (kIfS ?_)
      walk_at "go"
      refine kMeth rfl (kn9.mem st_ins) nR ?_
      walk_at "go"
      refine ⟨d, _, _, cc.x, cc.p, cc.l, cc.as, cc.xs, cc.ls, cc.m, _, rfl, hod', hc.hat, kn9, fun r H10 kn10 => ?_⟩
      rw [hnone] at kn10
      walk_at "go"
      rename_i em H11 kn11
      refine kNeL (xs := []) (ys := []) (kn11.seqL (List.mem_cons_of_mem _ List.mem_cons_self)) (kn11.seqL List.mem_cons_self) ?_
      refine kBl ?_
      rw [decide_eq_true rfl]
      refine iteF ?_
      have kn12 := kn11.tail.tail
      walk_at "go"
      refine kDGet rfl (kn12.mem hli'.st) hc.kv.kd ?_
      walk_at "go"
      refine kDGet rfl (kn12.mem hli'.st) hc.kv.ke ?_
      walk_at "go"
      refine kLenL (kn12.seqL hli'.ev) ?_
      walk_at "go"
      rename_i z1 H13 kn13
      rw [List.length_map, hes'] at kn13
      refine kRepK kn13 List.mem_cons_self (by omega) (by omega) (by rw [Int.toNat_natCast, List.length_singleton]; omega) fun z2 H14 kn14 => ?_
      rw [Int.toNat_natCast, repFlatI] at kn14
      have er : ((rr + 1 : Nat) : Int) - 1 = ((rr : Nat) : Int) := by omega
      have e1 : List.replicate cc.xs.length (V.int (((rr + 1 : Nat) : Int) - 1)) = (List.replicate cc.xs.length ((rr : Nat) : Int)).map V.int := by
        rw [List.map_replicate, er]
      have e2 : (List.replicate cc.xs.length rr).map vN = (List.replicate cc.xs.length ((rr : Nat) : Int)).map V.int := by
        rw [List.map_replicate, List.map_replicate]
        rfl
      rw [e1] at kn14
      have hdn := hli'.dn
      rw [e2] at hdn
      refine kNeL (xs := List.replicate cc.xs.length ((rr : Nat) : Int)) (ys := List.replicate cc.xs.length ((rr : Nat) : Int)) (kn14.seqL (List.mem_cons_of_mem _ (List.mem_cons_of_mem _ hdn))) (kn14.seqL List.mem_cons_self) ?_
      refine kBl ?_
      rw [decide_eq_true rfl]
      refine iteF ?_
      have kn15 := kn14.tail.tail
      walk_at "go"
      refine kSeq (kRng1 (n := (cc.xs.length : Int)) (by omega) (fun u σ' H' => ∃ (x11 : Option V), σ' = [some (.ref a0), some (.ref d), some (.ref cc.S), some (.ref cc.x), some (.int (cc.xs.length : Int)), x5, x6, x7, x8, some (.int ((cc.xs.length * (rr + 1) : Nat) : Int)), x10, x11, x12] ∧ Kn d 40000 (stLed C_Hands cc (List.replicate cc.xs.length rr) hs) H')
        ⟨_, rfl, kn15⟩ (fun u σ' H' hu hW => ?_) (fun σ' H' hW => ?_) fun R hR => by walk_at "go"; exact hR)
      · obtain ⟨x11, rfl, kn16⟩ := hW
        refine kIfS ?_
        walk_at "go"
        refine ⟨d, _, cc, _, hs, 0, (u : Int), 0, "ready", rfl, hod', hc, by omega, kn16, .inr ⟨rfl, ⟨by omega, hu⟩, by rw [Int.toNat_natCast]; exact hcb u (by omega), rfl⟩, fun r2 H17 kn17 => ?_⟩
        walk_at "go"
        rename_i l5 H18 kn18
        refine kNeSI (wd := "ready") (z := (u : Int)) (.inr rfl) (kn18.seqL (List.mem_cons_of_mem _ List.mem_cons_self)) (kn18.seqL List.mem_cons_self) ?_
        refine kBl ?_
        refine iteF ?_
        walk_at "go"
        exact ⟨_, rfl, kn18.tail.tail⟩
      · obtain ⟨x11, rfl, kn16⟩ := hW
        refine kSeq (kForMade (K := K) (fun pl zs H' => zs = [V.int (cc.xs.length : Int), V.int (-1)] ∧ Kn d 40000 ((pl, HO.lst zs) :: stLed C_Hands cc (List.replicate cc.xs.length rr) hs) H') (fun R hR => ?_) (fun pl zs H17 ⟨hzs, kn17⟩ => ⟨kn17.seqL List.mem_cons_self, fun i σ' H' => ∃ (x7 x11 : Option V), σ' = [some (.ref a0), some (.ref d), some (.ref cc.S), some (.ref cc.x), some (.int (cc.xs.length : Int)), x5, x6, x7, x8, some (.int ((cc.xs.length * (rr + 1) : Nat) : Int)), x10, x11, x12] ∧ Kn d 40000 ((pl, HO.lst zs) :: stLed C_Hands cc (List.replicate cc.xs.length rr) hs) H',
          ⟨_, _, rfl, kn17⟩, fun i σ' H' hW => ?_, fun i x σ' H' hx hW => ?_, fun σ' H' hW => ?_⟩))
        · walk_at "go"
          rename_i pl H17 kn17
          exact hR pl _ H17 ⟨rfl, kn17⟩
        · obtain ⟨_, _, _, k'⟩ := hW
          exact k'.seqL List.mem_cons_self
        · obtain ⟨x7, x11, rfl, kn18⟩ := hW
          rw [hzs] at hx
          have hi : i < 2 := (List.getElem?_eq_some_iff.mp hx).1
          obtain ⟨z, hz, rfl⟩ : ∃ z : Int, ¬ (0 ≤ z ∧ z < (cc.xs.length : Int)) ∧ x = V.int z := by
            have hi01 : i = 0 ∨ i = 1 := by omega
            rcases hi01 with rfl | rfl
            · exact ⟨_, by omega, (Option.some.inj hx).symm⟩
            · exact ⟨_, by omega, (Option.some.inj hx).symm⟩
          refine kIfS ?_
          walk_at "go"
          refine kLcRG (lo := 0) (N := 2) kn18 (fun R hR => srcR1 (n := 2) (fun R' h' => by walk_at "go"; exact h') (by omega) (by omega) R hR) (by omega) (fun i acc m2 L2 => m2 = 40000 ∧ ∃ (rs : List Addr) (X : Led), acc = rs.map V.ref ∧ rs.length = i ∧ (∀ r ∈ rs, (r, HO.lst [V.str "house", V.int z]) ∈ X) ∧ L2 = (X ++ [(pl, HO.lst zs)]) ++ stLed C_Hands cc (List.replicate cc.xs.length rr) hs) ⟨rfl, [], [], rfl, rfl, (fun _ h => by cases h), rfl⟩ (fun i l m2 L2 h => ?_) (fun _ => rfl) (fun i' H' DD acc m2 L2 hi2 hS kn19 N1 N2 h1' _ => ?_) (fun res acc m2 L2 H' hS kn19 => ?_)
          · obtain ⟨_, rs, X, rfl, hl, _⟩ := h
            rw [List.length_map]
            omega
          · obtain ⟨rfl, rs, X, rfl, hrl, hrs, rfl⟩ := hS
            rw [Int.zero_add]
            refine kYes (iteT ?_)
            walk_at "go"
            refine ⟨d, _, withR cc ((DD, HO.lst (rs.map V.ref)) :: (X ++ [(pl, HO.lst zs)])), _, hs, (i' : Int), z, 0, "house", rfl, hod', hc.push _, by omega, kn19.perm (stPush (X := (DD, HO.lst (rs.map V.ref)) :: (X ++ [(pl, HO.lst zs)]))), .inl ⟨hz, rfl⟩, fun r2 H20 kn20 => ?_⟩
            have kn21 := kn20.perm (List.Perm.cons _ (stPush (X := (DD, HO.lst (rs.map V.ref)) :: (X ++ [(pl, HO.lst zs)]))).symm)
            refine h1' _ _ 40000 ((r2, HO.lst [V.str "house", V.int z]) :: ((X ++ [(pl, HO.lst zs)]) ++ stLed C_Hands cc (List.replicate cc.xs.length rr) hs)) ⟨rfl, rs ++ [r2], (r2, HO.lst [V.str "house", V.int z]) :: X, by rw [List.map_append]; rfl, by rw [List.length_append, hrl]; rfl, fun r hr => ?_, rfl⟩ (kn21.perm (List.Perm.swap _ _ _))
            rcases List.mem_append.mp hr with h | h
            · exact List.mem_cons_of_mem _ (hrs r h)
            · rw [List.mem_singleton.mp h]
              exact List.mem_cons_self
          · obtain ⟨rfl, rs, X, rfl, hrl, hrs, rfl⟩ := hS
            obtain ⟨ra, rb, rfl⟩ : ∃ ra rb, rs = [ra, rb] := by
              match rs, hrl with
              | [ra, rb], _ => exact ⟨ra, rb, rfl⟩
            have mra := hrs ra List.mem_cons_self
            have mrb := hrs rb (List.mem_cons_of_mem _ List.mem_cons_self)
            walk_at "go"
            rename_i l1 H21 kn21 l2 H22 kn22 l3 H23 kn23
            refine kNeSI2 (wd := "house") (z := z) (a := ra) (b := rb) (.inl rfl) (kn23.seqL (List.mem_cons_of_mem _ (List.mem_cons_of_mem _ (List.mem_cons_of_mem _ List.mem_cons_self)))) (kn23.seqL (List.mem_cons_of_mem _ (List.mem_cons_of_mem _ (List.mem_cons_of_mem _ (List.mem_cons_of_mem _ (List.mem_append_left _ (List.mem_append_left _ mra))))))) (kn23.seqL (List.mem_cons_of_mem _ (List.mem_cons_of_mem _ (List.mem_cons_of_mem _ (List.mem_cons_of_mem _ (List.mem_append_left _ (List.mem_append_left _ mrb)))))))
              (kn23.seqL List.mem_cons_self) (kn23.seqL (List.mem_cons_of_mem _ (List.mem_cons_of_mem _ List.mem_cons_self))) (kn23.seqL (List.mem_cons_of_mem _ List.mem_cons_self)) ?_
            refine kBl ?_
            refine iteF ?_
            walk_at "go"
            refine ⟨_, _, rfl, kn23.tail.tail.tail.tail.sub ?_⟩
            rw [List.append_assoc]
            exact List.sublist_append_right _ _
        · obtain ⟨x7, x11, rfl, kn18⟩ := hW
          have kn19 := kn18.tail
          walk_at "go"
          refine kMeth rfl (kn19.mem st_ins) nR ?_
          walk_at "go"
          refine ⟨d, _, _, cc.x, cc.p, cc.l, cc.as, cc.xs, cc.ls, cc.m, _, rfl, hod', hc.hat, kn19, fun r H20 kn20 => ?_⟩
          rw [hnone] at kn20
          walk_at "go"
          rename_i em2 H21 kn21
          refine kEqL (xs := []) (ys := []) (kn21.seqL (List.mem_cons_of_mem _ List.mem_cons_self)) (kn21.seqL List.mem_cons_self) ?_
          refine kBl ?_
          rw [decide_eq_true rfl]
          refine iteT ?_
          have kn22 := kn21.tail.tail
          walk_at "go"
          refine ⟨d, _, cc, _, hs, rfl, hod', hc, kn22, fun H23 kn23 => ?_⟩
          refine kBl ?_
          refine iteT ?_
          walk_at "go"
          have kn24 := kn23.perm (heldPerm2 (A := handsLed cc.x cc.dx C_Hands cc.p cc.m cc.l cc.as (rowsH cc.m cc.xs cc.ls (List.replicate cc.xs.length rr))) (Dd := ((cc.D, HO.lst ((List.replicate cc.xs.length rr).map vN)) : Addr × HO)) (Hh := ((cc.Hh, HO.lst (hts hs)) : Addr × HO)) (Hl := heldLed hs) (R := cc.R))
          refine ⟨d, _, _, cc.S, cc.Hh, cc.kvs, hs, rfl, hhz, List.mem_append_right _ (List.mem_cons_of_mem _ hc.st), hc.kv.kh, kn24, fun H25 kn25 => ?_⟩
          exact q _
end
abbrev s_init_NoHouse : Stmt := inClass (topS 3) 0
theorem isc_NoHouse : (∀ x ∈ (defScope s_init_NoHouse).names, x.2 ≠ .cell) ∧ (defScope s_init_NoHouse).names.lookup ("self" : Str) = some .local ∧ (defScope s_init_NoHouse).names.lookup ("house" : Str) = some .local ∧ (defScope s_init_NoHouse).names.lookup ("super" : Str) = some .globalImplicit ∧ (defScope s_init_NoHouse).names.lookup ("__class__" : Str) = some .free := by decide +kernel
abbrev s_init_NotReady : Stmt := inClass (topS 4) 0
theorem isc_NotReady : (∀ x ∈ (defScope s_init_NotReady).names, x.2 ≠ .cell) ∧ (defScope s_init_NotReady).names.lookup ("self" : Str) = some .local ∧ (defScope s_init_NotReady).names.lookup ("house" : Str) = some .local ∧ (defScope s_init_NotReady).names.lookup ("super" : Str) = some .globalImplicit ∧ (defScope s_init_NotReady).names.lookup ("__class__" : Str) = some .free := by decide +kernel
theorem all_mk {l : PySem.W.OpenLaw} {w : World} {K : PySem.W.Frag} {h : Heap} {mg : Str → Option Value} {fa f0 f1 f2 f3 f4 f5 f6 f7 f8 f9 f10 f11 f12 f13 f14 f15 f16 f17 f18 f19 f20 f21 f22 f23 f24 f25 f26 f27 f28 f29 f30 f31 f32 f33 f34 f35 f36 : Addr} (X : K.In h) (G : h.Ns mainGlobals mg) (hfa : mg "law" = some (.ref fa)) {od0 an0 od1 an1 od2 an2 od3 an3 od4 an4 od5 an5 od6 an6 od7 an7 od8 an8 od9 an9 od10 an10 od11 an11 od12 an12 od13 an13 od14 an14 od15 an15 od16 an16 od17 an17 od18 an18 od19 an19 od20 an20 od21 an21 od22 an22 od23 an23 od24 an24 od25 an25 od26 an26 od27 an27 od28 an28 od29 an29 od30 an30 od31 an31 od32 an32 od33 an33 od34 an34 od35 an35 od36 an36 : Option Addr} {sl0 sl1 sl2 sl3 sl4 sl5 sl6 sl7 sl8 sl9 sl10 sl11 sl12 sl13 sl14 sl15 sl16 sl17 sl18 sl19 sl20 sl21 sl22 sl23 sl24 sl25 sl26 sl27 sl28 sl29 sl30 sl31 sl32 sl33 sl34 sl35 sl36 : Array (Option Value)} {oc0 kV0 dc0 pm0 cd0 ct0 oc1 kV1 dc1 pm1 cd1 ct1 oc2 kV2 dc2 pm2 cd2 ct2 oc3 kV3 dc3 pm3 cd3 ct3 oc4 kV4 dc4 pm4 cd4 ct4 oc5 kV5 dc5 pm5 cd5 ct5 oc6 kV6 dc6 pm6 cd6 ct6 oc7 kV7 dc7 pm7 cd7 ct7 oc8 kV8 dc8 pm8 cd8 ct8 oc9 kV9 dc9 pm9 cd9 ct9 oc10 kV10 dc10 pm10 cd10 ct10 oc11 kV11 dc11 pm11 cd11 ct11 oc12 kV12 dc12 pm12 cd12 ct12 oc13 kV13 dc13 pm13 cd13 ct13 oc14 kV14 dc14 pm14 cd14 ct14 oc15 kV15 dc15 pm15 cd15 ct15 oc16 kV16 dc16 pm16 cd16 ct16 oc17 kV17 dc17 pm17 cd17 ct17 oc18 kV18 dc18 pm18 cd18 ct18 oc19 kV19 dc19 pm19 cd19 ct19 oc20 kV20 dc20 pm20 cd20 ct20 oc21 kV21 dc21 pm21 cd21 ct21 oc22 kV22 dc22 pm22 cd22 ct22 oc23 kV23 dc23 pm23 cd23 ct23 oc24 kV24 dc24 pm24 cd24 ct24 oc25 kV25 dc25 pm25 cd25 ct25 oc26 kV26 dc26 pm26 cd26 ct26 oc27 kV27 dc27 pm27 cd27 ct27 oc28 kV28 dc28 pm28 cd28 ct28 oc29 kV29 dc29 pm29 cd29 ct29 oc30 kV30 dc30 pm30 cd30 ct30 oc31 kV31 dc31 pm31 cd31 ct31 oc32 kV32 dc32 pm32 cd32 ct32 oc33 kV33 dc33 pm33 cd33 ct33 oc34 kV34 dc34 pm34 cd34 ct34 oc35 kV35 dc35 pm35 cd35 ct35 oc36 kV36 dc36 pm36 cd36 ct36 : Value}
    (a0 : PySem.W.nsIn K mainGlobals "is_whole" = some (some (.ref f0))) (l0 : K.lookup f0 = some ⟨oc0, od0, .func (PySem.W.fnOf "is_whole" "is_whole" (defArgs s_is_whole) (defBody s_is_whole) (defScope s_is_whole) .none kV0 dc0 pm0 an0 cd0 ct0), sl0⟩) (c0 : PySem.W.codeIn K cd0 "is_whole" = true) (k0 : PySem.W.keepIn K (.ref f0) = true)
    (a1 : PySem.W.nsIn K mainGlobals "is_house" = some (some (.ref f1))) (l1 : K.lookup f1 = some ⟨oc1, od1, .func (PySem.W.fnOf "is_house" "is_house" (defArgs s_is_house) (defBody s_is_house) (defScope s_is_house) .none kV1 dc1 pm1 an1 cd1 ct1), sl1⟩) (c1 : PySem.W.codeIn K cd1 "is_house" = true) (k1 : PySem.W.keepIn K (.ref f1) = true)
    (a2 : PySem.W.nsIn K mainGlobals "check_house" = some (some (.ref f2))) (l2 : K.lookup f2 = some ⟨oc2, od2, .func (PySem.W.fnOf "check_house" "check_house" (defArgs s_check_house) (defBody s_check_house) (defScope s_check_house) .none kV2 dc2 pm2 an2 cd2 ct2), sl2⟩) (c2 : PySem.W.codeIn K cd2 "check_house" = true) (k2 : PySem.W.keepIn K (.ref f2) = true)
    (a3 : PySem.W.nsIn K mainGlobals "unlike_place" = some (some (.ref f3))) (l3 : K.lookup f3 = some ⟨oc3, od3, .func (PySem.W.fnOf "unlike_place" "unlike_place" (defArgs s_unlike_place) (defBody s_unlike_place) (defScope s_unlike_place) .none kV3 dc3 pm3 an3 cd3 ct3), sl3⟩) (c3 : PySem.W.codeIn K cd3 "unlike_place" = true) (k3 : PySem.W.keepIn K (.ref f3) = true)
    (a4 : PySem.W.nsIn K mainGlobals "stepped" = some (some (.ref f4))) (l4 : K.lookup f4 = some ⟨oc4, od4, .func (PySem.W.fnOf "stepped" "stepped" (defArgs s_stepped) (defBody s_stepped) (defScope s_stepped) .none kV4 dc4 pm4 an4 cd4 ct4), sl4⟩) (c4 : PySem.W.codeIn K cd4 "stepped" = true) (k4 : PySem.W.keepIn K (.ref f4) = true)
    (a5 : PySem.W.nsIn K mainGlobals "halvings" = some (some (.ref f5))) (l5 : K.lookup f5 = some ⟨oc5, od5, .func (PySem.W.fnOf "halvings" "halvings" (defArgs s_halvings) (defBody s_halvings) (defScope s_halvings) .none kV5 dc5 pm5 an5 cd5 ct5), sl5⟩) (c5 : PySem.W.codeIn K cd5 "halvings" = true) (k5 : PySem.W.keepIn K (.ref f5) = true)
    (a6 : PySem.W.nsIn K mainGlobals "needed_steps" = some (some (.ref f6))) (l6 : K.lookup f6 = some ⟨oc6, od6, .func (PySem.W.fnOf "needed_steps" "needed_steps" (defArgs s_needed_steps) (defBody s_needed_steps) (defScope s_needed_steps) .none kV6 dc6 pm6 an6 cd6 ct6), sl6⟩) (c6 : PySem.W.codeIn K cd6 "needed_steps" = true) (k6 : PySem.W.keepIn K (.ref f6) = true)
    (a7 : PySem.W.nsIn K mainGlobals "given_up" = some (some (.ref f7))) (l7 : K.lookup f7 = some ⟨oc7, od7, .func (PySem.W.fnOf "given_up" "given_up" (defArgs s_given_up) (defBody s_given_up) (defScope s_given_up) .none kV7 dc7 pm7 an7 cd7 ct7), sl7⟩) (c7 : PySem.W.codeIn K cd7 "given_up" = true) (k7 : PySem.W.keepIn K (.ref f7) = true)
    (a8 : PySem.W.nsIn K mainGlobals "rounds" = some (some (.ref f8))) (l8 : K.lookup f8 = some ⟨oc8, od8, .func (PySem.W.fnOf "rounds" "rounds" (defArgs s_rounds) (defBody s_rounds) (defScope s_rounds) .none kV8 dc8 pm8 an8 cd8 ct8), sl8⟩) (c8 : PySem.W.codeIn K cd8 "rounds" = true) (k8 : PySem.W.keepIn K (.ref f8) = true)
    (a9 : PySem.W.nsIn K mainGlobals "next_label" = some (some (.ref f9))) (l9 : K.lookup f9 = some ⟨oc9, od9, .func (PySem.W.fnOf "next_label" "next_label" (defArgs s_next_label) (defBody s_next_label) (defScope s_next_label) .none kV9 dc9 pm9 an9 cd9 ct9), sl9⟩) (c9 : PySem.W.codeIn K cd9 "next_label" = true) (k9 : PySem.W.keepIn K (.ref f9) = true)
    {C_Hands : Addr} (gC_Hands : PySem.W.nsIn K mainGlobals "Hands" = some (some (.ref C_Hands))) (pg_Hands : PySem.W.plainGet K C_Hands Str.empty = true) (hd_Hands : PySem.W.hasDictIn K C_Hands = true) (po_Hands : PySem.W.plainOver K C_Hands = true) (sa_Hands : PySem.W.findIn K (.ref C_Hands) "__setattr__" = some (some (.builtin "object.__setattr__"))) (mk_Hands : PySem.W.makesIn K C_Hands = true) (kc_Hands : PySem.W.keepIn K (.ref C_Hands) = true) (na_Hands_labels : PySem.W.findIn K (.ref C_Hands) "labels" = some none) (na_Hands_m : PySem.W.findIn K (.ref C_Hands) "m" = some none) (na_Hands_pointing : PySem.W.findIn K (.ref C_Hands) "pointing" = some none)
    (a10 : PySem.W.findIn K (.ref C_Hands) "__init__" = some (some (.ref f10))) (i10 : PySem.W.isFn K (.ref f10) = true) (l10 : K.lookup f10 = some ⟨oc10, od10, .func (PySem.W.fnOf "__init__" "Hands.__init__" (defArgs s_Hands_init) (defBody s_Hands_init) (defScope s_Hands_init) .none kV10 dc10 pm10 an10 cd10 ct10), sl10⟩) (c10 : PySem.W.codeIn K cd10 "Hands.__init__" = true) (k10 : PySem.W.keepIn K (.ref f10) = true)
    (a11 : PySem.W.findIn K (.ref C_Hands) "can_go" = some (some (.ref f11))) (i11 : PySem.W.isFn K (.ref f11) = true) (l11 : K.lookup f11 = some ⟨oc11, od11, .func (PySem.W.fnOf "can_go" "Hands.can_go" (defArgs s_Hands_can_go) (defBody s_Hands_can_go) (defScope s_Hands_can_go) .none kV11 dc11 pm11 an11 cd11 ct11), sl11⟩) (c11 : PySem.W.codeIn K cd11 "Hands.can_go" = true) (k11 : PySem.W.keepIn K (.ref f11) = true)
    (a12 : PySem.W.findIn K (.ref C_Hands) "go" = some (some (.ref f12))) (i12 : PySem.W.isFn K (.ref f12) = true) (l12 : K.lookup f12 = some ⟨oc12, od12, .func (PySem.W.fnOf "go" "Hands.go" (defArgs s_Hands_go) (defBody s_Hands_go) (defScope s_Hands_go) .none kV12 dc12 pm12 an12 cd12 ct12), sl12⟩) (c12 : PySem.W.codeIn K cd12 "Hands.go" = true) (k12 : PySem.W.keepIn K (.ref f12) = true)
    (a13 : PySem.W.findIn K (.ref C_Hands) "done" = some (some (.ref f13))) (i13 : PySem.W.isFn K (.ref f13) = true) (l13 : K.lookup f13 = some ⟨oc13, od13, .func (PySem.W.fnOf "done" "Hands.done" (defArgs s_Hands_done) (defBody s_Hands_done) (defScope s_Hands_done) .none kV13 dc13 pm13 an13 cd13 ct13), sl13⟩) (c13 : PySem.W.codeIn K cd13 "Hands.done" = true) (k13 : PySem.W.keepIn K (.ref f13) = true)
    (a14 : PySem.W.findIn K (.ref C_Hands) "ready" = some (some (.ref f14))) (i14 : PySem.W.isFn K (.ref f14) = true) (l14 : K.lookup f14 = some ⟨oc14, od14, .func (PySem.W.fnOf "ready" "Hands.ready" (defArgs s_Hands_ready) (defBody s_Hands_ready) (defScope s_Hands_ready) .none kV14 dc14 pm14 an14 cd14 ct14), sl14⟩) (c14 : PySem.W.codeIn K cd14 "Hands.ready" = true) (k14 : PySem.W.keepIn K (.ref f14) = true)
    (a15 : PySem.W.findIn K (.ref C_Hands) "label" = some (some (.ref f15))) (i15 : PySem.W.isFn K (.ref f15) = true) (l15 : K.lookup f15 = some ⟨oc15, od15, .func (PySem.W.fnOf "label" "Hands.label" (defArgs s_Hands_label) (defBody s_Hands_label) (defScope s_Hands_label) .none kV15 dc15 pm15 an15 cd15 ct15), sl15⟩) (c15 : PySem.W.codeIn K cd15 "Hands.label" = true) (k15 : PySem.W.keepIn K (.ref f15) = true)
    (a16 : PySem.W.nsIn K mainGlobals "_law_roll" = some (some (.ref f16))) (l16 : K.lookup f16 = some ⟨oc16, od16, .func (PySem.W.fnOf "_law_roll" "_law_roll" (defArgs s_law_roll) (defBody s_law_roll) (defScope s_law_roll) .none kV16 dc16 pm16 an16 cd16 ct16), sl16⟩) (c16 : PySem.W.codeIn K cd16 "_law_roll" = true) (k16 : PySem.W.keepIn K (.ref f16) = true)
    (a17 : PySem.W.nsIn K mainGlobals "_law_pointing" = some (some (.ref f17))) (l17 : K.lookup f17 = some ⟨oc17, od17, .func (PySem.W.fnOf "_law_pointing" "_law_pointing" (defArgs s_law_pointing) (defBody s_law_pointing) (defScope s_law_pointing) .none kV17 dc17 pm17 an17 cd17 ct17), sl17⟩) (c17 : PySem.W.codeIn K cd17 "_law_pointing" = true) (k17 : PySem.W.keepIn K (.ref f17) = true)
    (a18 : PySem.W.nsIn K mainGlobals "_law_whole" = some (some (.ref f18))) (l18 : K.lookup f18 = some ⟨oc18, od18, .func (PySem.W.fnOf "_law_whole" "_law_whole" (defArgs s_law_whole) (defBody s_law_whole) (defScope s_law_whole) .none kV18 dc18 pm18 an18 cd18 ct18), sl18⟩) (c18 : PySem.W.codeIn K cd18 "_law_whole" = true) (k18 : PySem.W.keepIn K (.ref f18) = true)
    (a19 : PySem.W.nsIn K mainGlobals "_law_bound" = some (some (.ref f19))) (l19 : K.lookup f19 = some ⟨oc19, od19, .func (PySem.W.fnOf "_law_bound" "_law_bound" (defArgs s_law_bound) (defBody s_law_bound) (defScope s_law_bound) .none kV19 dc19 pm19 an19 cd19 ct19), sl19⟩) (c19 : PySem.W.codeIn K cd19 "_law_bound" = true) (k19 : PySem.W.keepIn K (.ref f19) = true)
    (a20 : PySem.W.nsIn K mainGlobals "_law_names" = some (some (.ref f20))) (l20 : K.lookup f20 = some ⟨oc20, od20, .func (PySem.W.fnOf "_law_names" "_law_names" (defArgs s_law_names) (defBody s_law_names) (defScope s_law_names) .none kV20 dc20 pm20 an20 cd20 ct20), sl20⟩) (c20 : PySem.W.codeIn K cd20 "_law_names" = true) (k20 : PySem.W.keepIn K (.ref f20) = true)
    (a21 : PySem.W.nsIn K mainGlobals "_law_bits" = some (some (.ref f21))) (l21 : K.lookup f21 = some ⟨oc21, od21, .func (PySem.W.fnOf "_law_bits" "_law_bits" (defArgs s_law_bits) (defBody s_law_bits) (defScope s_law_bits) .none kV21 dc21 pm21 an21 cd21 ct21), sl21⟩) (c21 : PySem.W.codeIn K cd21 "_law_bits" = true) (k21 : PySem.W.keepIn K (.ref f21) = true)
    (a22 : PySem.W.nsIn K mainGlobals "_law_steps" = some (some (.ref f22))) (l22 : K.lookup f22 = some ⟨oc22, od22, .func (PySem.W.fnOf "_law_steps" "_law_steps" (defArgs s_law_steps) (defBody s_law_steps) (defScope s_law_steps) .none kV22 dc22 pm22 an22 cd22 ct22), sl22⟩) (c22 : PySem.W.codeIn K cd22 "_law_steps" = true) (k22 : PySem.W.keepIn K (.ref f22) = true)
    (a23 : PySem.W.nsIn K mainGlobals "_law_short" = some (some (.ref f23))) (l23 : K.lookup f23 = some ⟨oc23, od23, .func (PySem.W.fnOf "_law_short" "_law_short" (defArgs s_law_short) (defBody s_law_short) (defScope s_law_short) .none kV23 dc23 pm23 an23 cd23 ct23), sl23⟩) (c23 : PySem.W.codeIn K cd23 "_law_short" = true) (k23 : PySem.W.keepIn K (.ref f23) = true)
    (a24 : PySem.W.nsIn K mainGlobals "_law_even" = some (some (.ref f24))) (l24 : K.lookup f24 = some ⟨oc24, od24, .func (PySem.W.fnOf "_law_even" "_law_even" (defArgs s_law_even) (defBody s_law_even) (defScope s_law_even) .none kV24 dc24 pm24 an24 cd24 ct24), sl24⟩) (c24 : PySem.W.codeIn K cd24 "_law_even" = true) (k24 : PySem.W.keepIn K (.ref f24) = true)
    (a25 : PySem.W.nsIn K mainGlobals "_law_state" = some (some (.ref f25))) (l25 : K.lookup f25 = some ⟨oc25, od25, .func (PySem.W.fnOf "_law_state" "_law_state" (defArgs s_law_state) (defBody s_law_state) (defScope s_law_state) .none kV25 dc25 pm25 an25 cd25 ct25), sl25⟩) (c25 : PySem.W.codeIn K cd25 "_law_state" = true) (k25 : PySem.W.keepIn K (.ref f25) = true)
    (a26 : PySem.W.nsIn K mainGlobals "_law_can" = some (some (.ref f26))) (l26 : K.lookup f26 = some ⟨oc26, od26, .func (PySem.W.fnOf "_law_can" "_law_can" (defArgs s_law_can) (defBody s_law_can) (defScope s_law_can) .none kV26 dc26 pm26 an26 cd26 ct26), sl26⟩) (c26 : PySem.W.codeIn K cd26 "_law_can" = true) (k26 : PySem.W.keepIn K (.ref f26) = true)
    (a27 : PySem.W.nsIn K mainGlobals "_law_kept" = some (some (.ref f27))) (l27 : K.lookup f27 = some ⟨oc27, od27, .func (PySem.W.fnOf "_law_kept" "_law_kept" (defArgs s_law_kept) (defBody s_law_kept) (defScope s_law_kept) .none kV27 dc27 pm27 an27 cd27 ct27), sl27⟩) (c27 : PySem.W.codeIn K cd27 "_law_kept" = true) (k27 : PySem.W.keepIn K (.ref f27) = true)
    (a28 : PySem.W.nsIn K mainGlobals "_law_held" = some (some (.ref f28))) (l28 : K.lookup f28 = some ⟨oc28, od28, .func (PySem.W.fnOf "_law_held" "_law_held" (defArgs s_law_held) (defBody s_law_held) (defScope s_law_held) .none kV28 dc28 pm28 an28 cd28 ct28), sl28⟩) (c28 : PySem.W.codeIn K cd28 "_law_held" = true) (k28 : PySem.W.keepIn K (.ref f28) = true)
    (a29 : PySem.W.nsIn K mainGlobals "_law_asked" = some (some (.ref f29))) (l29 : K.lookup f29 = some ⟨oc29, od29, .func (PySem.W.fnOf "_law_asked" "_law_asked" (defArgs s_law_asked) (defBody s_law_asked) (defScope s_law_asked) .none kV29 dc29 pm29 an29 cd29 ct29), sl29⟩) (c29 : PySem.W.codeIn K cd29 "_law_asked" = true) (k29 : PySem.W.keepIn K (.ref f29) = true)
    (a30 : PySem.W.nsIn K mainGlobals "_law_looks" = some (some (.ref f30))) (l30 : K.lookup f30 = some ⟨oc30, od30, .func (PySem.W.fnOf "_law_looks" "_law_looks" (defArgs s_law_looks) (defBody s_law_looks) (defScope s_law_looks) .none kV30 dc30 pm30 an30 cd30 ct30), sl30⟩) (c30 : PySem.W.codeIn K cd30 "_law_looks" = true) (k30 : PySem.W.keepIn K (.ref f30) = true)
    (a31 : PySem.W.nsIn K mainGlobals "_law_gone" = some (some (.ref f31))) (l31 : K.lookup f31 = some ⟨oc31, od31, .func (PySem.W.fnOf "_law_gone" "_law_gone" (defArgs s_law_gone) (defBody s_law_gone) (defScope s_law_gone) .none kV31 dc31 pm31 an31 cd31 ct31), sl31⟩) (c31 : PySem.W.codeIn K cd31 "_law_gone" = true) (k31 : PySem.W.keepIn K (.ref f31) = true)
    (a32 : PySem.W.nsIn K mainGlobals "_law_goes" = some (some (.ref f32))) (l32 : K.lookup f32 = some ⟨oc32, od32, .func (PySem.W.fnOf "_law_goes" "_law_goes" (defArgs s_law_goes) (defBody s_law_goes) (defScope s_law_goes) .none kV32 dc32 pm32 an32 cd32 ct32), sl32⟩) (c32 : PySem.W.codeIn K cd32 "_law_goes" = true) (k32 : PySem.W.keepIn K (.ref f32) = true)
    (a33 : PySem.W.nsIn K mainGlobals "_law_caught" = some (some (.ref f33))) (l33 : K.lookup f33 = some ⟨oc33, od33, .func (PySem.W.fnOf "_law_caught" "_law_caught" (defArgs s_law_caught) (defBody s_law_caught) (defScope s_law_caught) .none kV33 dc33 pm33 an33 cd33 ct33), sl33⟩) (c33 : PySem.W.codeIn K cd33 "_law_caught" = true) (k33 : PySem.W.keepIn K (.ref f33) = true)
    (a34 : PySem.W.nsIn K mainGlobals "_law_no_house" = some (some (.ref f34))) (l34 : K.lookup f34 = some ⟨oc34, od34, .func (PySem.W.fnOf "_law_no_house" "_law_no_house" (defArgs s_law_no_house) (defBody s_law_no_house) (defScope s_law_no_house) .none kV34 dc34 pm34 an34 cd34 ct34), sl34⟩) (c34 : PySem.W.codeIn K cd34 "_law_no_house" = true) (k34 : PySem.W.keepIn K (.ref f34) = true)
    (a35 : PySem.W.nsIn K mainGlobals "_law_all_so" = some (some (.ref f35))) (l35 : K.lookup f35 = some ⟨oc35, od35, .func (PySem.W.fnOf "_law_all_so" "_law_all_so" (defArgs s_law_all_so) (defBody s_law_all_so) (defScope s_law_all_so) .none kV35 dc35 pm35 an35 cd35 ct35), sl35⟩) (c35 : PySem.W.codeIn K cd35 "_law_all_so" = true) (k35 : PySem.W.keepIn K (.ref f35) = true)
    (a36 : PySem.W.nsIn K mainGlobals "law" = some (some (.ref f36))) (l36 : K.lookup f36 = some ⟨oc36, od36, .func (PySem.W.fnOf "law" "law" (defArgs s_law) (defBody s_law) (defScope s_law) .none kV36 dc36 pm36 an36 cd36 ct36), sl36⟩) (c36 : PySem.W.codeIn K cd36 "law" = true) (k36 : PySem.W.keepIn K (.ref f36) = true)
    {t0 : Addr} {u0 : Option Addr} {n0 : Nat} {s0 : Array (Option Value)} {w0_0 w0_1 w0_2 : Tok} (x0 : PySem.W.nsIn K mainGlobals "LEFT_HUES" = some (some (.ref t0))) (y0 : K.lookup t0 = some ⟨.type "tuple", u0, .seq #[.int 0 w0_0, .int 1 w0_1, .int 2 w0_2] n0, s0⟩)
    {t1 : Addr} {u1 : Option Addr} {n1 : Nat} {s1 : Array (Option Value)} {w1_0 w1_1 w1_2 : Tok} (x1 : PySem.W.nsIn K mainGlobals "GONE_HUES" = some (some (.ref t1))) (y1 : K.lookup t1 = some ⟨.type "tuple", u1, .seq #[.int 5 w1_0, .int 4 w1_1, .int 3 w1_2] n1, s1⟩)
    {t2 : Tok} (x2 : PySem.W.nsIn K mainGlobals "SHORT" = some (some (.int 6 t2)))
    {t3 : Tok} (x3 : PySem.W.nsIn K mainGlobals "ROUNDS_EACH" = some (some (.int 2 t3)))
    {C_HueError : Addr} (gC_HueError : PySem.W.nsIn K mainGlobals "HueError" = some (some (.ref C_HueError)))
    {C_NotProper : Addr} (gC_NotProper : PySem.W.nsIn K mainGlobals "NotProper" = some (some (.ref C_NotProper)))
    {C_NoHouse : Addr} (gC_NoHouse : PySem.W.nsIn K mainGlobals "NoHouse" = some (some (.ref C_NoHouse)))
    {C_NotReady : Addr} (gC_NotReady : PySem.W.nsIn K mainGlobals "NotReady" = some (some (.ref C_NotReady)))
    {C_NoText : Addr} (gC_NoText : PySem.W.nsIn K mainGlobals "NoText" = some (some (.ref C_NoText)))
    {C_NoRow : Addr} (gC_NoRow : PySem.W.nsIn K mainGlobals "NoRow" = some (some (.ref C_NoRow)))
    (zsup : PySem.W.nsIn K mainGlobals "super" = some none) (znoO : PySem.W.nsIn K cStatics "thirdparty.any" = some none)
    (ztop : (l.prog.main.scope.names.lookup ("super" : Str)).isSome = false)
    {nm_E q_E : Str} {N_E : Addr} {bs_E : List Value} {sn_E : List Str} {sub_E : List Value} {ab_E : Bool} {col_E : Option Bool} {dd_E : Option Addr} {m0_E m1_E m2_E m3_E m5_E : Option Value} (xL_E : K.lookup C_HueError = some (PySem.excClassObj nm_E q_E C_HueError N_E bs_E [.type "ValueError", .type "Exception", .type "BaseException", .type "object"] true sn_E sub_E ab_E col_E dd_E m0_E m1_E m2_E m3_E m5_E "ValueError.__new__")) (iC_E : PySem.W.findIn K (.ref C_HueError) "__init__" = some (some (.builtin "ValueError.__init__")))
    {nm_NoHouse q_NoHouse : Str} {N_NoHouse fI_NoHouse cda_NoHouse cc_NoHouse : Addr} {bs_NoHouse : List Value} {sn_NoHouse : List Str} {sub_NoHouse : List Value} {ab_NoHouse : Bool} {col_NoHouse : Option Bool} {dd_NoHouse odI_NoHouse anI_NoHouse e1_NoHouse e2_NoHouse : Option Addr} {m0_NoHouse m1_NoHouse m2_NoHouse m3_NoHouse m5_NoHouse : Option Value} {ocI_NoHouse kVI_NoHouse dcI_NoHouse pmI_NoHouse ctI_NoHouse c1_NoHouse c2_NoHouse : Value} {slI_NoHouse s1_NoHouse s2_NoHouse : Array (Option Value)} {vs_NoHouse : Array Value} {file_NoHouse : Str} {tf_NoHouse : Tok}
    (xL_NoHouse : K.lookup C_NoHouse = some (PySem.excClassObj nm_NoHouse q_NoHouse C_NoHouse N_NoHouse bs_NoHouse [.ref C_HueError, .type "ValueError", .type "Exception", .type "BaseException", .type "object"] true sn_NoHouse sub_NoHouse ab_NoHouse col_NoHouse dd_NoHouse m0_NoHouse m1_NoHouse m2_NoHouse m3_NoHouse m5_NoHouse "ValueError.__new__"))
    (sa_NoHouse : PySem.W.findIn K (.ref C_NoHouse) "__setattr__" = some (some (.builtin "object.__setattr__")))
    (ga_NoHouse : PySem.W.findIn K (.ref C_NoHouse) "__getattribute__" = some (some (.builtin "BaseException.__getattribute__")))
    (gg_NoHouse : PySem.W.findIn K (.ref C_NoHouse) "__getattr__" = some none)
    (nN_NoHouse : PySem.W.findIn K (.ref C_NoHouse) "house" = some none)
    (iC_NoHouse : PySem.W.findIn K (.ref C_NoHouse) "__init__" = some (some (.ref fI_NoHouse)))
    (tI_NoHouse : PySem.W.typeIn K (.ref fI_NoHouse) = some (.type "function"))
    (kC_NoHouse : PySem.W.keepIn K (.ref C_NoHouse) = true)
    (eC_NoHouse : PySem.W.subIn K (.ref C_NoHouse) (.type "BaseException") = some true)
    (vC_NoHouse : PySem.W.subIn K (.ref C_NoHouse) (.type "ValueError") = some true)
    (sC_NoHouse : PySem.W.subIn K (.ref C_NoHouse) (.ref C_NoHouse) = some true)
    (tC_NoHouse : PySem.W.typeIn K (.ref C_NoHouse) = some (.type "type"))
    (hC_NoHouse : PySem.W.hasDictIn K C_NoHouse = true)
    (cl_NoHouse : PySem.W.findIn K (.ref C_NoHouse) "__class__" = some (some (.builtin "object.__class__")))
    (sp_NoHouse : PySem.W.specialIn K (.builtin "object.__class__") "__get__" = some (some (.builtin "getset_descriptor.__get__")))
    (tk_NoHouse : PySem.W.takesIn K (.builtin "object.__class__") = some true)
    (mo_NoHouse : PySem.W.mroIn K C_NoHouse (.type "object") = some true)
    (lI_NoHouse : K.lookup fI_NoHouse = some ⟨ocI_NoHouse, odI_NoHouse, .func (PySem.W.ksFn "__init__" "NoHouse.__init__" (defArgs s_init_NoHouse) (defBody s_init_NoHouse) (defScope s_init_NoHouse) .none kVI_NoHouse dcI_NoHouse pmI_NoHouse anI_NoHouse (.ref cda_NoHouse) ctI_NoHouse cc_NoHouse), slI_NoHouse⟩)
    (cI_NoHouse : PySem.W.codeIn K (.ref cda_NoHouse) "NoHouse.__init__" = true)
    (lD_NoHouse : K.lookup cda_NoHouse = some ⟨c1_NoHouse, e1_NoHouse, .fields vs_NoHouse, s1_NoHouse⟩)
    (vD_NoHouse : vs_NoHouse[2]? = some (.str file_NoHouse tf_NoHouse))
    (fD_NoHouse : ((l.prog.main.file : Str) == file_NoHouse) = true)
    (lK_NoHouse : K.lookup cc_NoHouse = some ⟨c2_NoHouse, e2_NoHouse, .cell (some (.ref C_NoHouse)), s2_NoHouse⟩)
    {nm_NotReady q_NotReady : Str} {N_NotReady fI_NotReady cda_NotReady cc_NotReady : Addr} {bs_NotReady : List Value} {sn_NotReady : List Str} {sub_NotReady : List Value} {ab_NotReady : Bool} {col_NotReady : Option Bool} {dd_NotReady odI_NotReady anI_NotReady e1_NotReady e2_NotReady : Option Addr} {m0_NotReady m1_NotReady m2_NotReady m3_NotReady m5_NotReady : Option Value} {ocI_NotReady kVI_NotReady dcI_NotReady pmI_NotReady ctI_NotReady c1_NotReady c2_NotReady : Value} {slI_NotReady s1_NotReady s2_NotReady : Array (Option Value)} {vs_NotReady : Array Value} {file_NotReady : Str} {tf_NotReady : Tok}
    (xL_NotReady : K.lookup C_NotReady = some (PySem.excClassObj nm_NotReady q_NotReady C_NotReady N_NotReady bs_NotReady [.ref C_HueError, .type "ValueError", .type "Exception", .type "BaseException", .type "object"] true sn_NotReady sub_NotReady ab_NotReady col_NotReady dd_NotReady m0_NotReady m1_NotReady m2_NotReady m3_NotReady m5_NotReady "ValueError.__new__"))
    (sa_NotReady : PySem.W.findIn K (.ref C_NotReady) "__setattr__" = some (some (.builtin "object.__setattr__")))
    (ga_NotReady : PySem.W.findIn K (.ref C_NotReady) "__getattribute__" = some (some (.builtin "BaseException.__getattribute__")))
    (gg_NotReady : PySem.W.findIn K (.ref C_NotReady) "__getattr__" = some none)
    (nN_NotReady : PySem.W.findIn K (.ref C_NotReady) "house" = some none)
    (iC_NotReady : PySem.W.findIn K (.ref C_NotReady) "__init__" = some (some (.ref fI_NotReady)))
    (tI_NotReady : PySem.W.typeIn K (.ref fI_NotReady) = some (.type "function"))
    (kC_NotReady : PySem.W.keepIn K (.ref C_NotReady) = true)
    (eC_NotReady : PySem.W.subIn K (.ref C_NotReady) (.type "BaseException") = some true)
    (vC_NotReady : PySem.W.subIn K (.ref C_NotReady) (.type "ValueError") = some true)
    (sC_NotReady : PySem.W.subIn K (.ref C_NotReady) (.ref C_NotReady) = some true)
    (tC_NotReady : PySem.W.typeIn K (.ref C_NotReady) = some (.type "type"))
    (hC_NotReady : PySem.W.hasDictIn K C_NotReady = true)
    (cl_NotReady : PySem.W.findIn K (.ref C_NotReady) "__class__" = some (some (.builtin "object.__class__")))
    (sp_NotReady : PySem.W.specialIn K (.builtin "object.__class__") "__get__" = some (some (.builtin "getset_descriptor.__get__")))
    (tk_NotReady : PySem.W.takesIn K (.builtin "object.__class__") = some true)
    (mo_NotReady : PySem.W.mroIn K C_NotReady (.type "object") = some true)
    (lI_NotReady : K.lookup fI_NotReady = some ⟨ocI_NotReady, odI_NotReady, .func (PySem.W.ksFn "__init__" "NotReady.__init__" (defArgs s_init_NotReady) (defBody s_init_NotReady) (defScope s_init_NotReady) .none kVI_NotReady dcI_NotReady pmI_NotReady anI_NotReady (.ref cda_NotReady) ctI_NotReady cc_NotReady), slI_NotReady⟩)
    (cI_NotReady : PySem.W.codeIn K (.ref cda_NotReady) "NotReady.__init__" = true)
    (lD_NotReady : K.lookup cda_NotReady = some ⟨c1_NotReady, e1_NotReady, .fields vs_NotReady, s1_NotReady⟩)
    (vD_NotReady : vs_NotReady[2]? = some (.str file_NotReady tf_NotReady))
    (fD_NotReady : ((l.prog.main.file : Str) == file_NotReady) = true)
    (lK_NotReady : K.lookup cc_NotReady = some ⟨c2_NotReady, e2_NotReady, .cell (some (.ref C_NotReady)), s2_NotReady⟩)
    (bE : PySem.W.subIn K (.ref C_HueError) (.type "BaseException") = some true)
    (kt_HueError : PySem.W.typeIn K (.ref C_HueError) = some (.type "type")) (kh_HueError : PySem.W.hasDictIn K C_HueError = true)
    (ko_NoHouse_HueError : PySem.W.subIn K (.ref C_NoHouse) (.ref C_HueError) = some true)
    (kt_NotProper : PySem.W.typeIn K (.ref C_NotProper) = some (.type "type")) (kh_NotProper : PySem.W.hasDictIn K C_NotProper = true)
    (ko_NoHouse_NotProper : PySem.W.subIn K (.ref C_NoHouse) (.ref C_NotProper) = some false)
    (kt_NoHouse : PySem.W.typeIn K (.ref C_NoHouse) = some (.type "type")) (kh_NoHouse : PySem.W.hasDictIn K C_NoHouse = true)
    (ko_NoHouse_NoHouse : PySem.W.subIn K (.ref C_NoHouse) (.ref C_NoHouse) = some true)
    (kt_NotReady : PySem.W.typeIn K (.ref C_NotReady) = some (.type "type")) (kh_NotReady : PySem.W.hasDictIn K C_NotReady = true)
    (ko_NoHouse_NotReady : PySem.W.subIn K (.ref C_NoHouse) (.ref C_NotReady) = some false)
    (kt_NoText : PySem.W.typeIn K (.ref C_NoText) = some (.type "type")) (kh_NoText : PySem.W.hasDictIn K C_NoText = true)
    (ko_NoHouse_NoText : PySem.W.subIn K (.ref C_NoHouse) (.ref C_NoText) = some false)
    (kt_NoRow : PySem.W.typeIn K (.ref C_NoRow) = some (.type "type")) (kh_NoRow : PySem.W.hasDictIn K C_NoRow = true)
    (ko_NoHouse_NoRow : PySem.W.subIn K (.ref C_NoHouse) (.ref C_NoRow) = some false)
    (ko_NotReady_HueError : PySem.W.subIn K (.ref C_NotReady) (.ref C_HueError) = some true)
    (ko_NotReady_NotProper : PySem.W.subIn K (.ref C_NotReady) (.ref C_NotProper) = some false)
    (ko_NotReady_NoHouse : PySem.W.subIn K (.ref C_NotReady) (.ref C_NoHouse) = some false)
    (ko_NotReady_NotReady : PySem.W.subIn K (.ref C_NotReady) (.ref C_NotReady) = some true)
    (ko_NotReady_NoText : PySem.W.subIn K (.ref C_NotReady) (.ref C_NoText) = some false)
    (ko_NotReady_NoRow : PySem.W.subIn K (.ref C_NotReady) (.ref C_NoRow) = some false)
    (z0 : PySem.W.nsIn K mainGlobals "len" = some none)
    (z1 : PySem.W.nsIn K mainGlobals "range" = some none)
    (z2 : PySem.W.nsIn K mainGlobals "max" = some none)
    (z3 : PySem.W.nsIn K mainGlobals "min" = some none)
    (z4 : PySem.W.nsIn K mainGlobals "int" = some none)
    (z5 : PySem.W.nsIn K mainGlobals "bool" = some none)
    (z6 : PySem.W.nsIn K mainGlobals "str" = some none)
    (z7 : PySem.W.nsIn K mainGlobals "list" = some none)
    (z8 : PySem.W.nsIn K mainGlobals "tuple" = some none)
    (z9 : PySem.W.nsIn K mainGlobals "isinstance" = some none)
    (z10 : PySem.W.nsIn K mainGlobals "repr" = some none)
    (z11 : PySem.W.nsIn K mainGlobals "all" = some none)
    (z12 : PySem.W.nsIn K mainGlobals "any" = some none)
    (z13 : PySem.W.nsIn K mainGlobals "enumerate" = some none)
    (z14 : PySem.W.nsIn K mainGlobals "sorted" = some none)
    (z15 : PySem.W.nsIn K mainGlobals "ValueError" = some none)
    (z16 : PySem.W.nsIn K mainGlobals "zip" = some none)
    (z17 : PySem.W.nsIn K mainGlobals "sum" = some none)
    (z18 : PySem.W.nsIn K mainGlobals "set" = some none)
    (z19 : PySem.W.nsIn K mainGlobals "reversed" = some none)
    (z20 : PySem.W.nsIn K mainGlobals "divmod" = some none)
    (z21 : PySem.W.nsIn K mainGlobals "dict" = some none) :
    ∃ fd : FuncData, (∀ (s : Shared) (v : Value), BindsTo s fd ⟨[v], []⟩ [("script", v)]) ∧ ∀ base : Heap, K.In base → base.Ns mainGlobals mg → FnOk l.prog w K mg base CX0 12 fa fd ["script"] (spLaw K) := by
  have e := hfa.symm.trans (PySem.W.mg_of X G a36)
  cases e
  have M : Bl mg := ⟨PySem.W.mg_none_of X G z0, PySem.W.mg_none_of X G z1, PySem.W.mg_none_of X G z2, PySem.W.mg_none_of X G z3, PySem.W.mg_none_of X G z4, PySem.W.mg_none_of X G z5, PySem.W.mg_none_of X G z6, PySem.W.mg_none_of X G z7, PySem.W.mg_none_of X G z8, PySem.W.mg_none_of X G z9, PySem.W.mg_none_of X G z10, PySem.W.mg_none_of X G z11, PySem.W.mg_none_of X G z12, PySem.W.mg_none_of X G z13, PySem.W.mg_none_of X G z14, PySem.W.mg_none_of X G z15, PySem.W.mg_none_of X G z16, PySem.W.mg_none_of X G z17, PySem.W.mg_none_of X G z18, PySem.W.mg_none_of X G z19, PySem.W.mg_none_of X G z20, PySem.W.mg_none_of X G z21⟩
  have F0 := fun_mk (st := s_is_whole) l0 c0 k0
  have D0 : Df K mg "is_whole" s_is_whole ["thing"] _ _ := ⟨F0, PySem.W.mg_of X G a0, F0.binds (ps := ["thing"]) fun _ _ _ _ _ _ us hl => match us, hl with | [_], _ => rfl⟩
  have F1 := fun_mk (st := s_is_house) l1 c1 k1
  have D1 : Df K mg "is_house" s_is_house ["thing", "many"] _ _ := ⟨F1, PySem.W.mg_of X G a1, F1.binds (ps := ["thing", "many"]) fun _ _ _ _ _ _ us hl => match us, hl with | [_, _], _ => rfl⟩
  have F2 := fun_mk (st := s_check_house) l2 c2 k2
  have D2 : Df K mg "check_house" s_check_house ["pointing", "number"] _ _ := ⟨F2, PySem.W.mg_of X G a2, F2.binds (ps := ["pointing", "number"]) fun _ _ _ _ _ _ us hl => match us, hl with | [_, _], _ => rfl⟩
  have F3 := fun_mk (st := s_unlike_place) l3 c3 k3
  have D3 : Df K mg "unlike_place" s_unlike_place ["one", "other"] _ _ := ⟨F3, PySem.W.mg_of X G a3, F3.binds (ps := ["one", "other"]) fun _ _ _ _ _ _ us hl => match us, hl with | [_, _], _ => rfl⟩
  have F4 := fun_mk (st := s_stepped) l4 c4 k4
  have D4 : Df K mg "stepped" s_stepped ["label", "goal_label"] _ _ := ⟨F4, PySem.W.mg_of X G a4, F4.binds (ps := ["label", "goal_label"]) fun _ _ _ _ _ _ us hl => match us, hl with | [_, _], _ => rfl⟩
  have F5 := fun_mk (st := s_halvings) l5 c5 k5
  have D5 : Df K mg "halvings" s_halvings ["m"] _ _ := ⟨F5, PySem.W.mg_of X G a5, F5.binds (ps := ["m"]) fun _ _ _ _ _ _ us hl => match us, hl with | [_], _ => rfl⟩
  have F6 := fun_mk (st := s_needed_steps) l6 c6 k6
  have D6 : Df K mg "needed_steps" s_needed_steps ["m"] _ _ := ⟨F6, PySem.W.mg_of X G a6, F6.binds (ps := ["m"]) fun _ _ _ _ _ _ us hl => match us, hl with | [_], _ => rfl⟩
  have F7 := fun_mk (st := s_given_up) l7 c7 k7
  have D7 : Df K mg "given_up" s_given_up ["ahead", "label", "goal_label", "hue"] _ _ := ⟨F7, PySem.W.mg_of X G a7, F7.binds (ps := ["ahead", "label", "goal_label", "hue"]) fun _ _ _ _ _ _ us hl => match us, hl with | [_, _, _, _], _ => rfl⟩
  have F8 := fun_mk (st := s_rounds) l8 c8 k8
  have D8 : Df K mg "rounds" s_rounds ["m"] _ _ := ⟨F8, PySem.W.mg_of X G a8, F8.binds (ps := ["m"]) fun _ _ _ _ _ _ us hl => match us, hl with | [_], _ => rfl⟩
  have F9 := fun_mk (st := s_next_label) l9 c9 k9
  have D9 : Df K mg "next_label" s_next_label ["m", "own", "goal_label"] _ _ := ⟨F9, PySem.W.mg_of X G a9, F9.binds (ps := ["m", "own", "goal_label"]) fun _ _ _ _ _ _ us hl => match us, hl with | [_, _, _], _ => rfl⟩
  have cl_Hands : Cls K C_Hands := ⟨pg_Hands, hd_Hands, po_Hands, sa_Hands⟩
  have F10 := fun_mk (st := s_Hands_init) l10 c10 k10
  have D10 : If K mg "Hands" C_Hands s_Hands_init ["self", "pointing", "names", "m"] _ _ := ⟨F10, PySem.W.mg_of X G gC_Hands, F10.binds (ps := ["self", "pointing", "names", "m"]) fun _ _ _ _ _ _ us hl => match us, hl with | [_, _, _, _], _ => rfl, ⟨mk_Hands, a10, i10, kc_Hands⟩⟩
  have F11 := fun_mk (st := s_Hands_can_go) l11 c11 k11
  have D11 : Mf K C_Hands "can_go" "Hands.can_go" s_Hands_can_go ["self", "house"] _ _ := ⟨F11, ⟨a11, i11, k11⟩, F11.binds (ps := ["self", "house"]) fun _ _ _ _ _ _ us hl => match us, hl with | [_, _], _ => rfl⟩
  have F12 := fun_mk (st := s_Hands_go) l12 c12 k12
  have D12 : Mf K C_Hands "go" "Hands.go" s_Hands_go ["self", "house"] _ _ := ⟨F12, ⟨a12, i12, k12⟩, F12.binds (ps := ["self", "house"]) fun _ _ _ _ _ _ us hl => match us, hl with | [_, _], _ => rfl⟩
  have F13 := fun_mk (st := s_Hands_done) l13 c13 k13
  have D13 : Mf K C_Hands "done" "Hands.done" s_Hands_done ["self"] _ _ := ⟨F13, ⟨a13, i13, k13⟩, F13.binds (ps := ["self"]) fun _ _ _ _ _ _ us hl => match us, hl with | [_], _ => rfl⟩
  have F14 := fun_mk (st := s_Hands_ready) l14 c14 k14
  have D14 : Mf K C_Hands "ready" "Hands.ready" s_Hands_ready ["self"] _ _ := ⟨F14, ⟨a14, i14, k14⟩, F14.binds (ps := ["self"]) fun _ _ _ _ _ _ us hl => match us, hl with | [_], _ => rfl⟩
  have F15 := fun_mk (st := s_Hands_label) l15 c15 k15
  have D15 : Mf K C_Hands "label" "Hands.label" s_Hands_label ["self", "house", "k"] _ _ := ⟨F15, ⟨a15, i15, k15⟩, F15.binds (ps := ["self", "house", "k"]) fun _ _ _ _ _ _ us hl => match us, hl with | [_, _, _], _ => rfl⟩
  have F16 := fun_mk (st := s_law_roll) l16 c16 k16
  have D16 : Df K mg "_law_roll" s_law_roll ["dice", "size"] _ _ := ⟨F16, PySem.W.mg_of X G a16, F16.binds (ps := ["dice", "size"]) fun _ _ _ _ _ _ us hl => match us, hl with | [_, _], _ => rfl⟩
  have F17 := fun_mk (st := s_law_pointing) l17 c17 k17
  have D17 : Df K mg "_law_pointing" s_law_pointing ["dice", "most"] _ _ := ⟨F17, PySem.W.mg_of X G a17, F17.binds (ps := ["dice", "most"]) fun _ _ _ _ _ _ us hl => match us, hl with | [_, _], _ => rfl⟩
  have F18 := fun_mk (st := s_law_whole) l18 c18 k18
  have D18 : Df K mg "_law_whole" s_law_whole ["thing"] _ _ := ⟨F18, PySem.W.mg_of X G a18, F18.binds (ps := ["thing"]) fun _ _ _ _ _ _ us hl => match us, hl with | [_], _ => rfl⟩
  have F19 := fun_mk (st := s_law_bound) l19 c19 k19
  have D19 : Df K mg "_law_bound" s_law_bound ["dice", "n"] _ _ := ⟨F19, PySem.W.mg_of X G a19, F19.binds (ps := ["dice", "n"]) fun _ _ _ _ _ _ us hl => match us, hl with | [_, _], _ => rfl⟩
  have F20 := fun_mk (st := s_law_names) l20 c20 k20
  have D20 : Df K mg "_law_names" s_law_names ["dice", "n", "m"] _ _ := ⟨F20, PySem.W.mg_of X G a20, F20.binds (ps := ["dice", "n", "m"]) fun _ _ _ _ _ _ us hl => match us, hl with | [_, _, _], _ => rfl⟩
  have F21 := fun_mk (st := s_law_bits) l21 c21 k21
  have D21 : Df K mg "_law_bits" s_law_bits ["number"] _ _ := ⟨F21, PySem.W.mg_of X G a21, F21.binds (ps := ["number"]) fun _ _ _ _ _ _ us hl => match us, hl with | [_], _ => rfl⟩
  have F22 := fun_mk (st := s_law_steps) l22 c22 k22
  have D22 : Df K mg "_law_steps" s_law_steps ["m"] _ _ := ⟨F22, PySem.W.mg_of X G a22, F22.binds (ps := ["m"]) fun _ _ _ _ _ _ us hl => match us, hl with | [_], _ => rfl⟩
  have F23 := fun_mk (st := s_law_short) l23 c23 k23
  have D23 : Df K mg "_law_short" s_law_short ["one", "other"] _ _ := ⟨F23, PySem.W.mg_of X G a23, F23.binds (ps := ["one", "other"]) fun _ _ _ _ _ _ us hl => match us, hl with | [_, _], _ => rfl⟩
  have F24 := fun_mk (st := s_law_even) l24 c24 k24
  have D24 : Df K mg "_law_even" s_law_even ["pointing", "names", "m"] _ _ := ⟨F24, PySem.W.mg_of X G a24, F24.binds (ps := ["pointing", "names", "m"]) fun _ _ _ _ _ _ us hl => match us, hl with | [_, _, _], _ => rfl⟩
  have F25 := fun_mk (st := s_law_state) l25 c25 k25
  have D25 : Df K mg "_law_state" s_law_state ["dice", "most"] _ _ := ⟨F25, PySem.W.mg_of X G a25, F25.binds (ps := ["dice", "most"]) fun _ _ _ _ _ _ us hl => match us, hl with | [_, _], _ => rfl⟩
  have F26 := fun_mk (st := s_law_can) l26 c26 k26
  have D26 : Df K mg "_law_can" s_law_can ["state"] _ _ := ⟨F26, PySem.W.mg_of X G a26, F26.binds (ps := ["state"]) fun _ _ _ _ _ _ us hl => match us, hl with | [_], _ => rfl⟩
  have F27 := fun_mk (st := s_law_kept) l27 c27 k27
  have D27 : Df K mg "_law_kept" s_law_kept ["dice", "state", "told"] _ _ := ⟨F27, PySem.W.mg_of X G a27, F27.binds (ps := ["dice", "state", "told"]) fun _ _ _ _ _ _ us hl => match us, hl with | [_, _, _], _ => rfl⟩
  have F28 := fun_mk (st := s_law_held) l28 c28 k28
  have D28 : Df K mg "_law_held" s_law_held ["state"] _ _ := ⟨F28, PySem.W.mg_of X G a28, F28.binds (ps := ["state"]) fun _ _ _ _ _ _ us hl => match us, hl with | [_], _ => rfl⟩
  have F29 := fun_mk (st := s_law_asked) l29 c29 k29
  have D29 : Df K mg "_law_asked" s_law_asked ["dice", "hands", "state", "way"] _ _ := ⟨F29, PySem.W.mg_of X G a29, F29.binds (ps := ["dice", "hands", "state", "way"]) fun _ _ _ _ _ _ us hl => match us, hl with | [_, _, _, _], _ => rfl⟩
  have F30 := fun_mk (st := s_law_looks) l30 c30 k30
  have D30 : Df K mg "_law_looks" s_law_looks ["dice", "hands", "state"] _ _ := ⟨F30, PySem.W.mg_of X G a30, F30.binds (ps := ["dice", "hands", "state"]) fun _ _ _ _ _ _ us hl => match us, hl with | [_, _, _], _ => rfl⟩
  have F31 := fun_mk (st := s_law_gone) l31 c31 k31
  have D31 : Df K mg "_law_gone" s_law_gone ["hands", "state", "house"] _ _ := ⟨F31, PySem.W.mg_of X G a31, F31.binds (ps := ["hands", "state", "house"]) fun _ _ _ _ _ _ us hl => match us, hl with | [_, _, _], _ => rfl⟩
  have F32 := fun_mk (st := s_law_goes) l32 c32 k32
  have D32 : Df K mg "_law_goes" s_law_goes ["dice", "hands", "state"] _ _ := ⟨F32, PySem.W.mg_of X G a32, F32.binds (ps := ["dice", "hands", "state"]) fun _ _ _ _ _ _ us hl => match us, hl with | [_, _, _], _ => rfl⟩
  have F33 := fun_mk (st := s_law_caught) l33 c33 k33
  have D33 : Df K mg "_law_caught" s_law_caught ["hands", "way", "house", "k"] _ _ := ⟨F33, PySem.W.mg_of X G a33, F33.binds (ps := ["hands", "way", "house", "k"]) fun _ _ _ _ _ _ us hl => match us, hl with | [_, _, _, _], _ => rfl⟩
  have F34 := fun_mk (st := s_law_no_house) l34 c34 k34
  have D34 : Df K mg "_law_no_house" s_law_no_house ["dice", "n"] _ _ := ⟨F34, PySem.W.mg_of X G a34, F34.binds (ps := ["dice", "n"]) fun _ _ _ _ _ _ us hl => match us, hl with | [_, _], _ => rfl⟩
  have F35 := fun_mk (st := s_law_all_so) l35 c35 k35
  have D35 : Df K mg "_law_all_so" s_law_all_so ["hands", "state"] _ _ := ⟨F35, PySem.W.mg_of X G a35, F35.binds (ps := ["hands", "state"]) fun _ _ _ _ _ _ us hl => match us, hl with | [_, _], _ => rfl⟩
  have F36 := fun_mk (st := s_law) l36 c36 k36
  have D36 : Df K mg "law" s_law ["script"] _ _ := ⟨F36, PySem.W.mg_of X G a36, F36.binds (ps := ["script"]) fun _ _ _ _ _ _ us hl => match us, hl with | [_], _ => rfl⟩
  have T_NoHouse : ExT l.prog K mg "house" C_NoHouse fI_NoHouse [.type "ValueError", .type "Exception", .type "BaseException", .type "object"] := ⟨⟨_, _, _, _, _, _, _, _, _, _, _, _, _, _, _, xL_NoHouse, rfl⟩, PySem.F.excBase_ValueError, excInit_of xL_NoHouse rfl, sa_NoHouse, nN_NoHouse, iC_NoHouse, tI_NoHouse, kC_NoHouse, eC_NoHouse, vC_NoHouse, sC_NoHouse, tC_NoHouse, super_of xL_NoHouse xL_E iC_E, znoO, PySem.W.mg_none_of X G zsup, ztop⟩
  have J_NoHouse : ExI l.prog K "house" C_NoHouse fI_NoHouse (PySem.W.ksFn "__init__" "NoHouse.__init__" (defArgs s_init_NoHouse) (defBody s_init_NoHouse) (defScope s_init_NoHouse) .none kVI_NoHouse dcI_NoHouse pmI_NoHouse anI_NoHouse (.ref cda_NoHouse) ctI_NoHouse cc_NoHouse) _ :=
    ⟨⟨_, _, _, lI_NoHouse⟩, ⟨_, _, _, _, _, _, _, _, _, rfl, fun env => ⟨_, rfl⟩, fun env => rfl, fun env => rfl⟩, fun s x v => .of_eq rfl, isc_NoHouse.1, rfl, rfl, rfl, isc_NoHouse.2.1, isc_NoHouse.2.2.1, isc_NoHouse.2.2.2.1, isc_NoHouse.2.2.2.2, ⟨_, _, _, _, _, _, _, rfl, lD_NoHouse, vD_NoHouse, fD_NoHouse⟩, cI_NoHouse, ⟨_, _, _, _, rfl, lK_NoHouse⟩, rfl, rfl, ⟨_, rfl, rfl⟩, by decide, by decide⟩
  have E_NoHouse : Rf l.prog K mg "NoHouse" "house" C_NoHouse fI_NoHouse _ _ [.type "ValueError", .type "Exception", .type "BaseException", .type "object"] := ⟨T_NoHouse, J_NoHouse, fun w => msg_const, PySem.W.mg_of X G gC_NoHouse⟩
  have T_NotReady : ExT l.prog K mg "house" C_NotReady fI_NotReady [.type "ValueError", .type "Exception", .type "BaseException", .type "object"] := ⟨⟨_, _, _, _, _, _, _, _, _, _, _, _, _, _, _, xL_NotReady, rfl⟩, PySem.F.excBase_ValueError, excInit_of xL_NotReady rfl, sa_NotReady, nN_NotReady, iC_NotReady, tI_NotReady, kC_NotReady, eC_NotReady, vC_NotReady, sC_NotReady, tC_NotReady, super_of xL_NotReady xL_E iC_E, znoO, PySem.W.mg_none_of X G zsup, ztop⟩
  have J_NotReady : ExI l.prog K "house" C_NotReady fI_NotReady (PySem.W.ksFn "__init__" "NotReady.__init__" (defArgs s_init_NotReady) (defBody s_init_NotReady) (defScope s_init_NotReady) .none kVI_NotReady dcI_NotReady pmI_NotReady anI_NotReady (.ref cda_NotReady) ctI_NotReady cc_NotReady) _ :=
    ⟨⟨_, _, _, lI_NotReady⟩, ⟨_, _, _, _, _, _, _, _, _, rfl, fun env => ⟨_, rfl⟩, fun env => rfl, fun env => rfl⟩, fun s x v => .of_eq rfl, isc_NotReady.1, rfl, rfl, rfl, isc_NotReady.2.1, isc_NotReady.2.2.1, isc_NotReady.2.2.2.1, isc_NotReady.2.2.2.2, ⟨_, _, _, _, _, _, _, rfl, lD_NotReady, vD_NotReady, fD_NotReady⟩, cI_NotReady, ⟨_, _, _, _, rfl, lK_NotReady⟩, rfl, rfl, ⟨_, rfl, rfl⟩, by decide, by decide⟩
  have E_NotReady : Rf l.prog K mg "NotReady" "house" C_NotReady fI_NotReady _ _ [.type "ValueError", .type "Exception", .type "BaseException", .type "object"] := ⟨T_NotReady, J_NotReady, fun w => msg_const, PySem.W.mg_of X G gC_NotReady⟩
  have A_NoHouse : AskedC K C_NoHouse C_HueError C_NotProper C_NoHouse C_NotReady C_NoText C_NoRow "house" false true false false false := ⟨PySem.W.exm_ref bE kh_HueError kt_HueError ko_NoHouse_HueError, ⟨ga_NoHouse, gg_NoHouse, eC_NoHouse, hC_NoHouse, cl_NoHouse, sp_NoHouse, tk_NoHouse, mo_NoHouse⟩, ⟨ga_NoHouse, gg_NoHouse, eC_NoHouse, hC_NoHouse⟩, nN_NoHouse, kitOne_no ko_NoHouse_NotProper sC_NoHouse kh_NotProper kt_NotProper, kitOne_self, kitOne_no ko_NoHouse_NotReady sC_NoHouse kh_NotReady kt_NotReady, kitOne_no ko_NoHouse_NoText sC_NoHouse kh_NoText kt_NoText, kitOne_no ko_NoHouse_NoRow sC_NoHouse kh_NoRow kt_NoRow, kitOne_yes ko_NoHouse_HueError kh_HueError kt_HueError, kitOne_ty (by decide +kernel) vC_NoHouse⟩
  have GL : AskedG mg C_HueError C_NotProper C_NoHouse C_NotReady C_NoText C_NoRow := ⟨PySem.W.mg_of X G gC_HueError, PySem.W.mg_of X G gC_NotProper, PySem.W.mg_of X G gC_NoHouse, PySem.W.mg_of X G gC_NotReady, PySem.W.mg_of X G gC_NoText, PySem.W.mg_of X G gC_NoRow⟩
  have A_NotReady : AskedC K C_NotReady C_HueError C_NotProper C_NoHouse C_NotReady C_NoText C_NoRow "house" false false true false false := ⟨PySem.W.exm_ref bE kh_HueError kt_HueError ko_NotReady_HueError, ⟨ga_NotReady, gg_NotReady, eC_NotReady, hC_NotReady, cl_NotReady, sp_NotReady, tk_NotReady, mo_NotReady⟩, ⟨ga_NotReady, gg_NotReady, eC_NotReady, hC_NotReady⟩, nN_NotReady, kitOne_no ko_NotReady_NotProper sC_NotReady kh_NotProper kt_NotProper, kitOne_no ko_NotReady_NoHouse sC_NotReady kh_NoHouse kt_NoHouse, kitOne_self, kitOne_no ko_NotReady_NoText sC_NotReady kh_NoText kt_NoText, kitOne_no ko_NotReady_NoRow sC_NotReady kh_NoRow kt_NoRow, kitOne_yes ko_NotReady_HueError kh_HueError kt_HueError, kitOne_ty (by decide +kernel) vC_NotReady⟩
  exact ⟨PySem.W.fnOf "law" "law" (defArgs s_law) (defBody s_law) (defScope s_law) .none kV36 dc36 pm36 an36 cd36 ct36, fun s v => .of_eq rfl, fun base _ _ => ok_law E_NoHouse E_NotReady GL A_NoHouse A_NotReady cl_Hands na_Hands_labels na_Hands_m na_Hands_pointing D0 D1 D2 D3 D4 D5 D6 D7 D8 D9 D10 D11 D12 D13 D14 D15 D16 D17 D18 D19 D20 D21 D22 D23 D24 D25 D26 D27 D28 D29 D30 D31 D32 D33 D34 D35 D36 ⟨_, PySem.W.mg_of X G x0, fun H => .inr ⟨_, _, _, y0, rfl, rfl, szL (by show 3 ≤ 100000; decide), (.cons ⟨_, rfl⟩ (.cons ⟨_, rfl⟩ (.cons ⟨_, rfl⟩ .nil)))⟩⟩ ⟨_, PySem.W.mg_of X G x1, fun H => .inr ⟨_, _, _, y1, rfl, rfl, szL (by show 3 ≤ 100000; decide), (.cons ⟨_, rfl⟩ (.cons ⟨_, rfl⟩ (.cons ⟨_, rfl⟩ .nil)))⟩⟩ ⟨_, PySem.W.mg_of X G x2⟩ ⟨_, PySem.W.mg_of X G x3⟩ M⟩
end Rg
open PySem PySem.W PyProof.Rows
set_option maxRecDepth 100000 in
set_option maxHeartbeats 0 in
theorem PySem.Challenge.cw_ringhue_k71_hands_refuse_holds : PySem.Challenge.rw_ringhue_k71_hands_refuse.Holds := by
  w_on; o_law; k_head; (case hw => w_witness2)
  k_fill
  refine L2.walk_of (l := PySem.Challenge.rw_ringhue_k71_hands_refuse) (n := 63) (k := 12) (x := "script") (CX := fun _ => L2.CX0) (sp := fun w => Rg.spLaw _) rfl (by decide) rfl ⟨rfl, by decide, by decide⟩ (fun w h Y => PySem.W.kIn_of Y) ?F (fun _ _ a ns hl _ hS => ⟨a, ns, rfl, hS, hl, fun _ => rfl⟩) (fun _ _ _ _ _ h => h)
  case F =>
    intro w mg fa h KX G hmg
    refine' Rg.all_mk KX G hmg ?a0 ?l0 ?c0 ?k0 ?a1 ?l1 ?c1 ?k1 ?a2 ?l2 ?c2 ?k2 ?a3 ?l3 ?c3 ?k3 ?a4 ?l4 ?c4 ?k4 ?a5 ?l5 ?c5 ?k5 ?a6 ?l6 ?c6 ?k6 ?a7 ?l7 ?c7 ?k7 ?a8 ?l8 ?c8 ?k8 ?a9 ?l9 ?c9 ?k9 ?gC_Hands ?pg_Hands ?hd_Hands ?po_Hands ?sa_Hands ?mk_Hands ?kc_Hands ?na_Hands_labels ?na_Hands_m ?na_Hands_pointing ?a10 ?i10 ?l10 ?c10 ?k10 ?a11 ?i11 ?l11 ?c11 ?k11 ?a12 ?i12 ?l12 ?c12 ?k12 ?a13 ?i13 ?l13 ?c13 ?k13 ?a14 ?i14 ?l14 ?c14 ?k14 ?a15 ?i15 ?l15 ?c15 ?k15 ?a16 ?l16 ?c16 ?k16 ?a17 ?l17 ?c17 ?k17 ?a18 ?l18 ?c18 ?k18 ?a19 ?l19 ?c19 ?k19 ?a20 ?l20 ?c20 ?k20 ?a21 ?l21 ?c21 ?k21 ?a22 ?l22 ?c22 ?k22 ?a23 ?l23 ?c23 ?k23 ?a24 ?l24 ?c24 ?k24 ?a25 ?l25 ?c25 ?k25 ?a26 ?l26 ?c26 ?k26 ?a27 ?l27 ?c27 ?k27 ?a28 ?l28 ?c28 ?k28 ?a29 ?l29 ?c29 ?k29 ?a30 ?l30 ?c30 ?k30 ?a31 ?l31 ?c31 ?k31 ?a32 ?l32 ?c32 ?k32 ?a33 ?l33 ?c33 ?k33 ?a34 ?l34 ?c34 ?k34 ?a35 ?l35 ?c35 ?k35 ?a36 ?l36 ?c36 ?k36 ?x0 ?y0 ?x1 ?y1 ?x2 ?x3 ?gC_HueError ?gC_NotProper ?gC_NoHouse ?gC_NotReady ?gC_NoText ?gC_NoRow ?zsup ?znoO ?ztop ?xL_E ?iC_E ?xL_NoHouse ?sa_NoHouse ?ga_NoHouse ?gg_NoHouse ?nN_NoHouse ?iC_NoHouse ?tI_NoHouse ?kC_NoHouse ?eC_NoHouse ?vC_NoHouse ?sC_NoHouse ?tC_NoHouse ?hC_NoHouse ?cl_NoHouse ?sp_NoHouse ?tk_NoHouse ?mo_NoHouse ?lI_NoHouse ?cI_NoHouse ?lD_NoHouse ?vD_NoHouse ?fD_NoHouse ?lK_NoHouse ?xL_NotReady ?sa_NotReady ?ga_NotReady ?gg_NotReady ?nN_NotReady ?iC_NotReady ?tI_NotReady ?kC_NotReady ?eC_NotReady ?vC_NotReady ?sC_NotReady ?tC_NotReady ?hC_NotReady ?cl_NotReady ?sp_NotReady ?tk_NotReady ?mo_NotReady ?lI_NotReady ?cI_NotReady ?lD_NotReady ?vD_NotReady ?fD_NotReady ?lK_NotReady ?bE ?kt_HueError ?kh_HueError ?ko_NoHouse_HueError ?kt_NotProper ?kh_NotProper ?ko_NoHouse_NotProper ?kt_NoHouse ?kh_NoHouse ?ko_NoHouse_NoHouse ?kt_NotReady ?kh_NotReady ?ko_NoHouse_NotReady ?kt_NoText ?kh_NoText ?ko_NoHouse_NoText ?kt_NoRow ?kh_NoRow ?ko_NoHouse_NoRow ?ko_NotReady_HueError ?ko_NotReady_NotProper ?ko_NotReady_NoHouse ?ko_NotReady_NotReady ?ko_NotReady_NoText ?ko_NotReady_NoRow ?z0 ?z1 ?z2 ?z3 ?z4 ?z5 ?z6 ?z7 ?z8 ?z9 ?z10 ?z11 ?z12 ?z13 ?z14 ?z15 ?z16 ?z17 ?z18 ?z19 ?z20 ?z21
    (case a0 => k_is)
    (case l0 => k_is)
    (case c0 => k_is)
    (case k0 => k_is)
    (case a1 => k_is)
    (case l1 => k_is)
    (case c1 => k_is)
    (case k1 => k_is)
    (case a2 => k_is)
    (case l2 => k_is)
    (case c2 => k_is)
    (case k2 => k_is)
    (case a3 => k_is)
    (case l3 => k_is)
    (case c3 => k_is)
    (case k3 => k_is)
    (case a4 => k_is)
    (case l4 => k_is)
    (case c4 => k_is)
    (case k4 => k_is)
    (case a5 => k_is)
    (case l5 => k_is)
    (case c5 => k_is)
    (case k5 => k_is)
    (case a6 => k_is)
    (case l6 => k_is)
    (case c6 => k_is)
    (case k6 => k_is)
    (case a7 => k_is)
    (case l7 => k_is)
    (case c7 => k_is)
    (case k7 => k_is)
    (case a8 => k_is)
    (case l8 => k_is)
    (case c8 => k_is)
    (case k8 => k_is)
    (case a9 => k_is)
    (case l9 => k_is)
    (case c9 => k_is)
    (case k9 => k_is)
    (case gC_Hands => k_is)
    (case pg_Hands => k_is)
    (case hd_Hands => k_is)
    (case po_Hands => k_is)
    (case sa_Hands => k_is)
    (case mk_Hands => k_is)
    (case kc_Hands => k_is)
    (case na_Hands_labels => k_is)
    (case na_Hands_m => k_is)
    (case na_Hands_pointing => k_is)
    (case a10 => k_is)
    (case i10 => k_is)
    (case l10 => k_is)
    (case c10 => k_is)
    (case k10 => k_is)
    (case a11 => k_is)
    (case i11 => k_is)
    (case l11 => k_is)
    (case c11 => k_is)
    (case k11 => k_is)
    (case a12 => k_is)
    (case i12 => k_is)
    (case l12 => k_is)
    (case c12 => k_is)
    (case k12 => k_is)
    (case a13 => k_is)
    (case i13 => k_is)
    (case l13 => k_is)
    (case c13 => k_is)
    (case k13 => k_is)
    (case a14 => k_is)
    (case i14 => k_is)
    (case l14 => k_is)
    (case c14 => k_is)
    (case k14 => k_is)
    (case a15 => k_is)
    (case i15 => k_is)
    (case l15 => k_is)
    (case c15 => k_is)
    (case k15 => k_is)
    (case a16 => k_is)
    (case l16 => k_is)
    (case c16 => k_is)
    (case k16 => k_is)
    (case a17 => k_is)
    (case l17 => k_is)
    (case c17 => k_is)
    (case k17 => k_is)
    (case a18 => k_is)
    (case l18 => k_is)
    (case c18 => k_is)
    (case k18 => k_is)
    (case a19 => k_is)
    (case l19 => k_is)
    (case c19 => k_is)
    (case k19 => k_is)
    (case a20 => k_is)
    (case l20 => k_is)
    (case c20 => k_is)
    (case k20 => k_is)
    (case a21 => k_is)
    (case l21 => k_is)
    (case c21 => k_is)
    (case k21 => k_is)
    (case a22 => k_is)
    (case l22 => k_is)
    (case c22 => k_is)
    (case k22 => k_is)
    (case a23 => k_is)
    (case l23 => k_is)
    (case c23 => k_is)
    (case k23 => k_is)
    (case a24 => k_is)
    (case l24 => k_is)
    (case c24 => k_is)
    (case k24 => k_is)
    (case a25 => k_is)
    (case l25 => k_is)
    (case c25 => k_is)
    (case k25 => k_is)
    (case a26 => k_is)
    (case l26 => k_is)
    (case c26 => k_is)
    (case k26 => k_is)
    (case a27 => k_is)
    (case l27 => k_is)
    (case c27 => k_is)
    (case k27 => k_is)
    (case a28 => k_is)
    (case l28 => k_is)
    (case c28 => k_is)
    (case k28 => k_is)
    (case a29 => k_is)
    (case l29 => k_is)
    (case c29 => k_is)
    (case k29 => k_is)
    (case a30 => k_is)
    (case l30 => k_is)
    (case c30 => k_is)
    (case k30 => k_is)
    (case a31 => k_is)
    (case l31 => k_is)
    (case c31 => k_is)
    (case k31 => k_is)
    (case a32 => k_is)
    (case l32 => k_is)
    (case c32 => k_is)
    (case k32 => k_is)
    (case a33 => k_is)
    (case l33 => k_is)
    (case c33 => k_is)
    (case k33 => k_is)
    (case a34 => k_is)
    (case l34 => k_is)
    (case c34 => k_is)
    (case k34 => k_is)
    (case a35 => k_is)
    (case l35 => k_is)
    (case c35 => k_is)
    (case k35 => k_is)
    (case a36 => k_is)
    (case l36 => k_is)
    (case c36 => k_is)
    (case k36 => k_is)
    (case x0 => k_is)
    (case y0 => k_is)
    (case x1 => k_is)
    (case y1 => k_is)
    (case x2 => k_is)
    (case x3 => k_is)
    (case gC_HueError => k_is)
    (case gC_NotProper => k_is)
    (case gC_NoHouse => k_is)
    (case gC_NotReady => k_is)
    (case gC_NoText => k_is)
    (case gC_NoRow => k_is)
    (case zsup => k_is)
    (case znoO => k_is)
    (case ztop => first | rfl | decide +kernel)
    (case xL_E => k_is)
    (case iC_E => k_is)
    (case xL_NoHouse => k_is)
    (case sa_NoHouse => k_is)
    (case ga_NoHouse => k_is)
    (case gg_NoHouse => k_is)
    (case nN_NoHouse => k_is)
    (case iC_NoHouse => k_is)
    (case tI_NoHouse => k_is)
    (case kC_NoHouse => k_is)
    (case eC_NoHouse => k_is)
    (case vC_NoHouse => k_is)
    (case sC_NoHouse => k_is)
    (case tC_NoHouse => k_is)
    (case hC_NoHouse => k_is)
    (case cl_NoHouse => k_is)
    (case sp_NoHouse => k_is)
    (case tk_NoHouse => k_is)
    (case mo_NoHouse => k_is)
    (case lI_NoHouse => k_is)
    (case cI_NoHouse => k_is)
    (case lD_NoHouse => k_is)
    (case vD_NoHouse => rfl)
    (case fD_NoHouse => first | rfl | decide +kernel)
    (case lK_NoHouse => k_is)
    (case xL_NotReady => k_is)
    (case sa_NotReady => k_is)
    (case ga_NotReady => k_is)
    (case gg_NotReady => k_is)
    (case nN_NotReady => k_is)
    (case iC_NotReady => k_is)
    (case tI_NotReady => k_is)
    (case kC_NotReady => k_is)
    (case eC_NotReady => k_is)
    (case vC_NotReady => k_is)
    (case sC_NotReady => k_is)
    (case tC_NotReady => k_is)
    (case hC_NotReady => k_is)
    (case cl_NotReady => k_is)
    (case sp_NotReady => k_is)
    (case tk_NotReady => k_is)
    (case mo_NotReady => k_is)
    (case lI_NotReady => k_is)
    (case cI_NotReady => k_is)
    (case lD_NotReady => k_is)
    (case vD_NotReady => rfl)
    (case fD_NotReady => first | rfl | decide +kernel)
    (case lK_NotReady => k_is)
    (case bE => k_is)
    (case kt_HueError => k_is)
    (case kh_HueError => k_is)
    (case ko_NoHouse_HueError => k_is)
    (case kt_NotProper => k_is)
    (case kh_NotProper => k_is)
    (case ko_NoHouse_NotProper => k_is)
    (case kt_NoHouse => k_is)
    (case kh_NoHouse => k_is)
    (case ko_NoHouse_NoHouse => k_is)
    (case kt_NotReady => k_is)
    (case kh_NotReady => k_is)
    (case ko_NoHouse_NotReady => k_is)
    (case kt_NoText => k_is)
    (case kh_NoText => k_is)
    (case ko_NoHouse_NoText => k_is)
    (case kt_NoRow => k_is)
    (case kh_NoRow => k_is)
    (case ko_NoHouse_NoRow => k_is)
    (case ko_NotReady_HueError => k_is)
    (case ko_NotReady_NotProper => k_is)
    (case ko_NotReady_NoHouse => k_is)
    (case ko_NotReady_NotReady => k_is)
    (case ko_NotReady_NoText => k_is)
    (case ko_NotReady_NoRow => k_is)
    (case z0 => k_is)
    (case z1 => k_is)
    (case z2 => k_is)
    (case z3 => k_is)
    (case z4 => k_is)
    (case z5 => k_is)
    (case z6 => k_is)
    (case z7 => k_is)
    (case z8 => k_is)
    (case z9 => k_is)
    (case z10 => k_is)
    (case z11 => k_is)
    (case z12 => k_is)
    (case z13 => k_is)
    (case z14 => k_is)
    (case z15 => k_is)
    (case z16 => k_is)
    (case z17 => k_is)
    (case z18 => k_is)
    (case z19 => k_is)
    (case z20 => k_is)
    (case z21 => k_is)



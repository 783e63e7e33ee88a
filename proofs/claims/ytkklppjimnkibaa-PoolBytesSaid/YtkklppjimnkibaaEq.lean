/-
  '==' on arrays: element by element.
-/
import Derived.Test.YtkklppjimnkibaaReg
import Derived.Laws.StructEq
namespace Go.Proofs.Ytkklppjimnkibaa.Eq
open Go.RowKit
set_option linter.unusedVariables false
set_option linter.unusedSimpArgs false

/-- the elements with these numbers, one by one -/
def eqElems (d : Nat) (e : TypeId) (n : Nat) (xs ys : Array Value) : List Nat → Sem Bool
  | [] => pure true
  | i :: is => do
      let a ← part e xs (i * n)
      let b ← part e ys (i * n)
      let r ← Op.equalIn d e a b
      if (!r) = true then pure false else eqElems d e n xs ys is

section
variable {P : Program}
theorem run_equalIn_array (w : World) (d : Nat) (t e : TypeId) (len n : Nat) (xs ys : Array Value) (ht : P.underlying t = some (.array len e)) (hs : ∀ w, (sizeOf e).run P w = .ok n w) :
    (Op.equalIn (d + 1) t (.agg xs) (.agg ys)).run P w = (eqElems d e n xs ys (List.range len)).run P w := by
  simp only [Op.equalIn, Sem.run_bind, run_underlying ht, Result.andThen_ok, hs, Std.Legacy.Range.forIn_eq_forIn_range', Std.Legacy.Range.size]
  have hr : List.range' 0 ((len - 0 + 1 - 1) / 1) 1 = List.range len := by
    rw [List.range_eq_range']
    simp
  rw [hr]
  generalize List.range len = is
  clear ht hr
  induction is generalizing w with
  | nil => simp [eqElems]
  | cons i is ih =>
    simp only [List.forIn_cons, eqElems, Sem.run_bind, Sem.run_ite]
    generalize (part e xs (i * n)).run P w = r1
    cases r1 with
    | ok a w1 =>
      simp only [Result.andThen_ok]
      generalize (part e ys (i * n)).run P w1 = r2
      cases r2 with
      | ok b w2 =>
        simp only [Result.andThen_ok]
        generalize (Op.equalIn d e a b).run P w2 = r3
        cases r3 with
        | ok r w3 =>
          cases r
          · simp only [Result.andThen_ok, Bool.not_false, if_true, Sem.run_pure]
          · simp only [Result.andThen_ok, Bool.not_true, Bool.false_eq_true, if_false, Sem.run_pure]
            exact ih w3
        | halt x w3 => simp [Result.andThen]
      | halt x w2 => simp [Result.andThen]
    | halt x w1 => simp [Result.andThen]

/-- numbers of one kind, as many as the type says -/
theorem run_elems_ints (w : World) (d : Nat) (e : TypeId) (k : IntKind) (he : P.underlying e = some (.int k)) (ha : ∀ w, (isAgg e).run P w = .ok false w) (xs ys : List Int) :
    ∀ (is : List Nat), (∀ i ∈ is, i < xs.length ∧ i < ys.length) → (eqElems (d + 1) e 1 (xs.map (Value.int k)).toArray (ys.map (Value.int k)).toArray is).run P w = .ok (is.all fun i => xs.getD i 0 == ys.getD i 0) w
  | [], _ => by simp [eqElems]
  | i :: is, h => by
    obtain ⟨h1, h2⟩ := h i (List.mem_cons_self ..)
    have ih := run_elems_ints w d e k he ha xs ys is fun j hj => h j (List.mem_cons_of_mem _ hj)
    simp only [eqElems, part, Sem.run_bind, ha, Result.andThen_ok, Bool.false_eq_true, if_false, Sem.run_ite, Nat.mul_one]
    have e1 : (xs.map (Value.int k)).toArray[i]? = some (.int k (xs.getD i 0)) := by simp [List.getD, h1]
    have e2 : (ys.map (Value.int k)).toArray[i]? = some (.int k (ys.getD i 0)) := by simp [List.getD, h2]
    rw [e1, e2]
    simp only [Sem.run_pure, Result.andThen_ok, run_equalIn_int _ _ _ _ _ _ _ he, List.all_cons]
    by_cases hb : xs.getD i 0 = ys.getD i 0
    · simp only [hb, beq_self_eq_true, Bool.not_true, Bool.false_eq_true, if_false, Bool.true_and]
      exact ih
    · have hb' : (xs.getD i 0 == ys.getD i 0) = false := by simpa using hb
      simp only [hb', Bool.not_false, if_true, Sem.run_pure, Bool.false_and]

theorem run_equalIn_ints (w : World) (d : Nat) (t e : TypeId) (k : IntKind) (len : Nat) (xs ys : List Int) (hx : xs.length = len) (hy : ys.length = len) (ht : P.underlying t = some (.array len e)) (he : P.underlying e = some (.int k))
    (ha : ∀ w, (isAgg e).run P w = .ok false w) (hs : ∀ w, (sizeOf e).run P w = .ok 1 w) :
    (Op.equalIn (d + 2) t (.agg (xs.map (Value.int k)).toArray) (.agg (ys.map (Value.int k)).toArray)).run P w = .ok ((List.range len).all fun i => xs.getD i 0 == ys.getD i 0) w := by
  rw [run_equalIn_array w _ t e len 1 _ _ ht hs, run_elems_ints w _ e k he ha xs ys _ (fun i hi => by simp at hi; omega)]
end

theorem all_decide {n : Nat} (xs ys : List Int) (hx : xs.length = n) (hy : ys.length = n) : ((List.range n).all fun i => xs.getD i 0 == ys.getD i 0) = decide (xs = ys) := by
  rw [Bool.eq_iff_iff]
  simp only [List.all_eq_true, List.mem_range, beq_iff_eq, decide_eq_true_eq]
  constructor
  · intro h
    apply List.ext_getElem?
    intro i
    by_cases hi : i < n
    · have := h i hi
      simp only [List.getD, List.getElem?_eq_getElem (show i < xs.length by omega), List.getElem?_eq_getElem (show i < ys.length by omega), Option.getD_some] at this ⊢
      rw [this]
    · rw [List.getElem?_eq_none (by omega), List.getElem?_eq_none (by omega)]
  · rintro rfl i _
    rfl

/-- the greatest, and the least, of four -/
theorem run_max4 {P : Program} {w : World} (ts : Array TypeId) (t : TypeId) (k : IntKind) (x y z v : Int) : (Builtin.max_ ts t #[.int k x, .int k y, .int k z, .int k v]).run P w = .ok (.int k (max x (max y (max z v)))) w := by
  have e : ∀ a b : Int, (if b > a then b else a) = max a b := fun a b => by split <;> omega
  simp [Builtin.max_, Builtin.max2, e]
  repeat' split
  all_goals (first | rfl | (congr 2; omega))
theorem run_min4 {P : Program} {w : World} (ts : Array TypeId) (t : TypeId) (k : IntKind) (x y z v : Int) : (Builtin.min_ ts t #[.int k x, .int k y, .int k z, .int k v]).run P w = .ok (.int k (min x (min y (min z v)))) w := by
  have e : ∀ a b : Int, (if b < a then b else a) = min a b := fun a b => by split <;> omega
  simp [Builtin.min_, Builtin.min2, e]
  repeat' split
  all_goals (first | rfl | (congr 2; omega))

theorem eq_col (a0 a1 a2 a3 b0 b1 b2 b3 : Int) (w : World) (d : Nat) : (Op.equalIn (d + 2) 97 (.agg #[.int .u8 a0, .int .u8 a1, .int .u8 a2, .int .u8 a3]) (.agg #[.int .u8 b0, .int .u8 b1, .int .u8 b2, .int .u8 b3])).run Try.prog w =
    .ok (a0 == b0 && (a1 == b1 && (a2 == b2 && a3 == b3))) w := by
  have h := run_equalIn_ints (P := Try.prog) w d 97 5 .u8 4 [a0, a1, a2, a3] [b0, b1, b2, b3] rfl rfl Try.underlying97 Try.underlying5 (fun _ => Try.isAgg5 _) (fun _ => Try.sizeOf5 _)
  simpa [List.range_succ, Bool.and_assoc] using h
end Go.Proofs.Ytkklppjimnkibaa.Eq

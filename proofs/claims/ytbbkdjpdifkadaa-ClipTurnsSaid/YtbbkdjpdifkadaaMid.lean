/-
  A part of a row by value; the greater and the smaller of two in one goal; products.
-/
import Derived.Test.YtbbkdjpdifkadaaRow
import Derived.Deep.MidRow
namespace Go.Proofs.Ytbbkdjpdifkadaa.Mid
open Go.RowKit Rd Go.Proofs.Ytbbkdjpdifkadaa.Row
set_option linter.unusedVariables false
set_option linter.unusedSimpArgs false
set_option maxRecDepth 10000

theorem prod_bd {a b A B : Int} (h1 : -A ≤ a) (h2 : a ≤ A) (h3 : -B ≤ b) (h4 : b ≤ B) : -(A * B) ≤ a * b ∧ a * b ≤ A * B := by
  rcases Int.le_total 0 a with ha | ha <;> rcases Int.le_total 0 b with hb | hb
  · have e1 := Int.mul_le_mul h2 h4 hb (by omega); have e2 := Int.mul_nonneg ha hb; have e3 : 0 ≤ A * B := Int.le_trans e2 e1; omega
  · have e1 := Int.mul_le_mul h2 (show -b ≤ B by omega) (by omega) (by omega); have e2 := Int.mul_nonneg ha (show 0 ≤ -b by omega); have e4 : a * -b = -(a * b) := Int.mul_neg ..; omega
  · have e1 := Int.mul_le_mul (show -a ≤ A by omega) h4 hb (by omega); have e2 := Int.mul_nonneg (show 0 ≤ -a by omega) hb; have e4 : -a * b = -(a * b) := Int.neg_mul ..; omega
  · have e1 := Int.mul_le_mul (show -a ≤ A by omega) (show -b ≤ B by omega) (by omega) (by omega); have e2 := Int.mul_nonneg (show 0 ≤ -a by omega) (show 0 ≤ -b by omega); have e4 : -a * -b = a * b := Int.neg_mul_neg ..; omega

/-! The greater and the smaller of two, in one goal -/
theorem run_maxT {P : Program} {w : World} (ts : Array TypeId) (t : TypeId) (k : IntKind) (x y : Int) : (Builtin.max_ ts t #[.int k x, .int k y]).run P w = .ok (.int k (max x y)) w := by
  have e : ∀ a b : Int, (if b > a then b else a) = max a b := fun a b => by split <;> omega
  simp [Builtin.max_, Builtin.max2, e]
  repeat' split
  all_goals (first | rfl | (congr 2; omega))
theorem run_minT {P : Program} {w : World} (ts : Array TypeId) (t : TypeId) (k : IntKind) (x y : Int) : (Builtin.min_ ts t #[.int k x, .int k y]).run P w = .ok (.int k (min x y)) w := by
  have e : ∀ a b : Int, (if b < a then b else a) = min a b := fun a b => by split <;> omega
  simp [Builtin.min_, Builtin.min2, e]
  repeat' split
  all_goals (first | rfl | (congr 2; omega))

/-! A part of a row, by value -/
section
variable {P : Program}
def piece (c : Array Value) (o n : Nat) : Array Value := c.extract o (o + n)
def midLoad (P : Program) (t n g o : Nat) (W : World) : Result Value :=
  match blk W g with
  | some (.cells c _ _) => if o + n ≤ c.size then .ok (.agg (piece c o n)) W else fallLoad P t g o W
  | _ => fallLoad P t g o W
theorem midLoad_eq (t n g o : Nat) (W : World) : midLoad P t n g o W = match blk W g with
  | some (.cells c _ _) => if o + n ≤ c.size then .ok (.agg (piece c o n)) W else fallLoad P t g o W
  | _ => fallLoad P t g o W := rfl
theorem run_loadMid {t n : Nat} {d : TypeDesc} (hu : P.underlying t = some d) (hd : d.isRow = true) (hi : (P.info? t).map (·.size) = some n) (g o : Nat) (W : World) :
    (loadRow t (.pointer (some ⟨g, o, none⟩))).run P W = midLoad P t n g o W := by
  unfold midLoad loadRow blk
  split
  · rename_i c t' fr h
    split
    · rename_i h0
      have := run_loadAt_mid (P := P) W g o t (c.extract o (o + n)).toList d (fun j v hj => by
        rw [cell_of_row W g (o + j) c t' fr h]
        rw [Array.getElem?_toList, Array.getElem?_extract] at hj
        split at hj
        · exact hj
        · cases hj) hu hd (by rw [hi]; simp; omega)
      rw [this, Array.toArray_toList]; rfl
    · simp [Instr.loadAt, Instr.sureAddr, fallLoad]
  · simp [Instr.loadAt, Instr.sureAddr, fallLoad]
end

theorem piece_cs (t : List Int) (o n : Nat) : piece (cs .i64 t) o n = cs .i64 ((t.drop o).take n) := by
  simp only [cs, piece, List.extract_toArray, List.map_take, List.map_drop]
  simp [List.extract_eq_take_drop]
theorem one_bool (b : Bool) : (Value.bool b).oneCell' = true := rfl
end Go.Proofs.Ytbbkdjpdifkadaa.Mid

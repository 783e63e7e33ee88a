/-
  A part of a row by value; the greater and the smaller of two in one goal; products.
-/
import Derived.Test.YtkklppjimnkibaaRow
import Derived.Deep.MidRow
namespace Go.Proofs.Ytkklppjimnkibaa.Mid
open Go.RowKit Rd Go.Proofs.Ytkklppjimnkibaa.Row
set_option linter.unusedVariables false
set_option linter.unusedSimpArgs false
set_option maxRecDepth 10000

theorem prod_bd {a b A B : Int} (h1 : -A ≤ a) (h2 : a ≤ A) (h3 : -B ≤ b) (h4 : b ≤ B) : -(A * B) ≤ a * b ∧ a * b ≤ A * B := by
  rcases Int.le_total 0 a with ha | ha <;> rcases Int.le_total 0 b with hb | hb
  · have e1 := Int.mul_le_mul h2 h4 hb (by omega); have e2 := Int.mul_nonneg ha hb; have e3 : 0 ≤ A * B := Int.le_trans e2 e1; omega
  · have e1 := Int.mul_le_mul h2 (show -b ≤ B by omega) (by omega) (by omega); have e2 := Int.mul_nonneg ha (show 0 ≤ -b by omega); have e4 : a * -b = -(a * b) := Int.mul_neg ..; omega
  · have e1 := Int.mul_le_mul (show -a ≤ A by omega) h4 hb (by omega); have e2 := Int.mul_nonneg (show 0 ≤ -a by omega) hb; have e4 : -a * b = -(a * b) := Int.neg_mul ..; omega
  · have e1 := Int.mul_le_mul (show -a ≤ A by omega) (show -b ≤ B by omega) (by omega) (by omega); have e2 := Int.mul_nonneg (show 0 ≤ -a by omega) (show 0 ≤ -b by omega); have e4 : -a * -b = a * b := Int.neg_mul_neg ..; omega

/-! The greater and the smaller of two, in one goal -/
theorem run_maxT {P : Program} {w : World} (ts : Array TypeId) (t : TypeId) (k : IntKind) (x y : Int) : (Builtin.max_ ts t #[.int k x, .int k y]).run P w = .ok (.int k (max x y)) w := by
  have e : ∀ a b : Int, (if b > a then b else a) = max a b := fun a b => by split <;> omega
  simp [Builtin.max_, Builtin.max2, e]
  repeat' split
  all_goals (first | rfl | (congr 2; omega))
theorem run_minT {P : Program} {w : World} (ts : Array TypeId) (t : TypeId) (k : IntKind) (x y : Int) : (Builtin.min_ ts t #[.int k x, .int k y]).run P w = .ok (.int k (min x y)) w := by
  have e : ∀ a b : Int, (if b < a then b else a) = min a b := fun a b => by split <;> omega
  simp [Builtin.min_, Builtin.min2, e]
  repeat' split
  all_goals (first | rfl | (congr 2; omega))

/-! A part of a row, by value -/
section
variable {P : Program}
def piece (c : Array Value) (o n : Nat) : Array Value := c.extract o (o + n)
def midLoad (P : Program) (t n g o : Nat) (W : World) : Result Value :=
  match blk W g with
  | some (.cells c _ _) => if o + n ≤ c.size then .ok (.agg (piece c o n)) W else fallLoad P t g o W
  | _ => fallLoad P t g o W
theorem midLoad_eq (t n g o : Nat) (W : World) : midLoad P t n g o W = match blk W g with
  | some (.cells c _ _) => if o + n ≤ c.size then .ok (.agg (piece c o n)) W else fallLoad P t g o W
  | _ => fallLoad P t g o W := rfl
theorem run_loadMid {t n : Nat} {d : TypeDesc} (hu : P.underlying t = some d) (hd : d.isRow = true) (hi : (P.info? t).map (·.size) = some n) (g o : Nat) (W : World) :
    (loadRow t (.pointer (some ⟨g, o, none⟩))).run P W = midLoad P t n g o W := by
  unfold midLoad loadRow blk
  split
  · rename_i c t' fr h
    split
    · rename_i h0
      have := run_loadAt_mid (P := P) W g o t (c.extract o (o + n)).toList d (fun j v hj => by
        rw [cell_of_row W g (o + j) c t' fr h]
        rw [Array.getElem?_toList, Array.getElem?_extract] at hj
        split at hj
        · exact hj
        · cases hj) hu hd (by rw [hi]; simp; omega)
      rw [this, Array.toArray_toList]; rfl
    · simp [Instr.loadAt, Instr.sureAddr, fallLoad]
  · simp [Instr.loadAt, Instr.sureAddr, fallLoad]
end

theorem piece_cs (t : List Int) (o n : Nat) : piece (cs .i64 t) o n = cs .i64 ((t.drop o).take n) := by
  simp only [cs, piece, List.extract_toArray, List.map_take, List.map_drop]
  simp [List.extract_eq_take_drop]
theorem one_bool (b : Bool) : (Value.bool b).oneCell' = true := rfl
/-! A part of a row, stored -/
theorem setCell_setRow {w : World} {g : Nat} {c : Array Value} {t : TypeId} {fr : Nat × Nat} (h : blk w g = some (.cells c t fr)) (o : Nat) (v : Value) : w.setCell ⟨g, o, none⟩ v = w.setRow g (c.setIfInBounds o v) := by
  unfold blk at h
  simp only [World.setCell, World.setRow]
  congr 1
  apply Array.ext_getElem?
  intro i
  rw [Array.getElem?_modify, Array.getElem?_modify]
  by_cases hi : g = i
  · subst hi
    simp [h]
  · simp [hi]
theorem setRow_setRow (w : World) (g : Nat) (c c' : Array Value) : (w.setRow g c).setRow g c' = w.setRow g c' := by
  simp only [World.setRow]
  congr 1
  apply Array.ext_getElem?
  intro i
  rw [Array.getElem?_modify, Array.getElem?_modify, Array.getElem?_modify]
  by_cases hi : g = i
  · subst hi
    cases w.heap[g]? with
    | none => simp
    | some o => cases o <;> simp
  · simp [hi]
def pasteL : List Value → Nat → List Value → List Value
  | c, _, [] => c
  | c, o, v :: r => pasteL (c.set o v) (o + 1) r
theorem setCells_setRow (g : Nat) (t : TypeId) (fr : Nat × Nat) : ∀ (vs : List Value) (o : Nat) (w : World) (c : Array Value), blk w g = some (.cells c t fr) → vs ≠ [] → w.setCells g o vs = w.setRow g (pasteL c.toList o vs).toArray := by
  intro vs
  induction vs with
  | nil => intro o w c h h0; exact absurd rfl h0
  | cons v r ih =>
    intro o w c h _
    have e : (c.setIfInBounds o v).toList = c.toList.set o v := by simp
    cases r with
    | nil =>
      show w.setCell ⟨g, o, none⟩ v = _
      rw [setCell_setRow h]
      show _ = w.setRow g (c.toList.set o v).toArray
      rw [← e, Array.toArray_toList]
    | cons u r =>
      show (w.setCell ⟨g, o, none⟩ v).setCells g (o + 1) (u :: r) = _
      rw [setCell_setRow h, ih (o + 1) _ _ (blk_setRow_of h _) (by simp), setRow_setRow, e]
      rfl
section
variable {P : Program}
def midStore (P : Program) (t n g o : Nat) (cs : Array Value) (W : World) : Result Unit :=
  match blk W g with
  | some (.cells old _ (0, 0)) => if o + n ≤ old.size ∧ cs.size = n ∧ cs.all (·.oneCell') = true then .ok () (W.setRow g (pasteL old.toList o cs.toList).toArray) else fallStore P t g o cs W
  | _ => fallStore P t g o cs W
theorem midStore_eq (t n g o : Nat) (cs : Array Value) (W : World) : midStore P t n g o cs W = match blk W g with
  | some (.cells old _ (0, 0)) => if o + n ≤ old.size ∧ cs.size = n ∧ cs.all (·.oneCell') = true then .ok () (W.setRow g (pasteL old.toList o cs.toList).toArray) else fallStore P t g o cs W
  | _ => fallStore P t g o cs W := rfl
theorem run_storeMid {t n : Nat} (hi : (P.info? t).map (·.size) = some n) (h0 : 0 < n) (g o : Nat) (cs : Array Value) (W : World) :
    (storeRow t (.pointer (some ⟨g, o, none⟩)) (.agg cs)).run P W = midStore P t n g o cs W := by
  unfold midStore storeRow blk
  split
  · rename_i old t' h
    split
    · rename_i h1
      obtain ⟨h1, h2, h3⟩ := h1
      have hne : cs.toList ≠ [] := by
        intro e
        have h9 : cs.toList.length = 0 := by rw [e]; rfl
        rw [Array.length_toList] at h9
        omega
      rw [run_storeAt_mid W g o t cs (fun j hj => by
        have hc : W.cell? ⟨g, o + j, none⟩ = old[o + j]? := cell_of_row W g (o + j) old t' (0, 0) h
        refine ⟨?_, frozen_of_row W g (o + j) old t' h⟩
        rw [hc, Array.getElem?_eq_getElem (by omega)]
        rfl) (by rw [hi, h2]) h3, setCells_setRow g t' (0, 0) cs.toList o W old h hne]
    · simp [Instr.storeAt, Instr.sureAddr, fallStore]
  · simp [Instr.storeAt, Instr.sureAddr, fallStore]
end
end Go.Proofs.Ytkklppjimnkibaa.Mid

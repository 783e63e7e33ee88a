/-
  The pyramid's pages: the mathematics.
-/
import Derived.Test.YtkklppjimnkibaaChecked
namespace Go.Proofs.Ytkklppjimnkibaa.PgM
set_option linter.unusedVariables false
set_option linter.unusedSimpArgs false

abbrev Row := List (List Int)
def g (l : List Int) (i : Nat) : Int := l.getD i 0
def at_ (row : Row) (i : Nat) : List Int := row.getD i []
theorem at_eq {row : Row} {i : Nat} (h : i < row.length) : at_ row i = row[i] := by unfold at_; rw [List.getD_eq_getElem?_getD, List.getElem?_eq_getElem h]; rfl
theorem row_eq {r r' : Row} (hl : r.length = r'.length) (h : ∀ j, j < r.length → at_ r j = at_ r' j) : r = r' := by
  refine List.ext_getElem hl fun i h1 h2 => ?_
  have := h i h1
  rwa [at_eq h1, at_eq h2] at this

def depthB (d : Int) : Bool := decide (0 ≤ d ∧ d ≤ 3)
theorem depth_yes {d : Int} (h : depthB d = true) : 0 ≤ d ∧ d ≤ 3 := of_decide_eq_true h
theorem depth_mk {d : Int} (a : 0 ≤ d) (b : d ≤ 3) : depthB d = true := decide_eq_true ⟨a, b⟩
theorem depth_no {d : Int} (h : ¬ (0 ≤ d ∧ d ≤ 3)) : depthB d = false := decide_eq_false h
/-- a level's side -/
def sd (d l : Int) : Int := ((2 ^ (d - l).toNat : Nat) : Int)
theorem ten {d l : Int} (h0 : 0 ≤ l) (h1 : l ≤ d) (h2 : d ≤ 3) : (d = 0 ∧ l = 0) ∨ (d = 1 ∧ l = 0) ∨ (d = 1 ∧ l = 1) ∨ (d = 2 ∧ l = 0) ∨ (d = 2 ∧ l = 1) ∨ (d = 2 ∧ l = 2) ∨ (d = 3 ∧ l = 0) ∨ (d = 3 ∧ l = 1) ∨ (d = 3 ∧ l = 2) ∨ (d = 3 ∧ l = 3) := by omega
theorem sd_bd {d l : Int} (h0 : 0 ≤ l) (h1 : l ≤ d) (h2 : d ≤ 3) : 1 ≤ sd d l ∧ sd d l ≤ 8 := by
  rcases ten h0 h1 h2 with ⟨rfl, rfl⟩ | ⟨rfl, rfl⟩ | ⟨rfl, rfl⟩ | ⟨rfl, rfl⟩ | ⟨rfl, rfl⟩ | ⟨rfl, rfl⟩ | ⟨rfl, rfl⟩ | ⟨rfl, rfl⟩ | ⟨rfl, rfl⟩ | ⟨rfl, rfl⟩ <;> decide
def validB (d L X Y : Int) : Bool := decide ((0 ≤ d ∧ d ≤ 3) ∧ (0 ≤ L ∧ L ≤ d) ∧ (0 ≤ X ∧ X < sd d L) ∧ (0 ≤ Y ∧ Y < sd d L))
theorem valid_yes {d L X Y : Int} (h : validB d L X Y = true) : (0 ≤ d ∧ d ≤ 3) ∧ (0 ≤ L ∧ L ≤ d) ∧ (0 ≤ X ∧ X < sd d L) ∧ (0 ≤ Y ∧ Y < sd d L) := of_decide_eq_true h
theorem valid_mk {d L X Y : Int} (h : (0 ≤ d ∧ d ≤ 3) ∧ (0 ≤ L ∧ L ≤ d) ∧ (0 ≤ X ∧ X < sd d L) ∧ (0 ≤ Y ∧ Y < sd d L)) : validB d L X Y = true := decide_eq_true h
theorem valid_no {d L X Y : Int} (h : ¬ ((0 ≤ d ∧ d ≤ 3) ∧ (0 ≤ L ∧ L ≤ d) ∧ (0 ≤ X ∧ X < sd d L) ∧ (0 ≤ Y ∧ Y < sd d L))) : validB d L X Y = false := decide_eq_false h
/-- how many pages stand ahead of a level's -/
def frontV (d l : Int) : Int := (sd d l * sd d l - 1).tdiv 3
theorem front_bd {d l : Int} (h0 : 0 ≤ l) (h1 : l ≤ d) (h2 : d ≤ 3) : 0 ≤ frontV d l ∧ frontV d l ≤ 21 := by
  rcases ten h0 h1 h2 with ⟨rfl, rfl⟩ | ⟨rfl, rfl⟩ | ⟨rfl, rfl⟩ | ⟨rfl, rfl⟩ | ⟨rfl, rfl⟩ | ⟨rfl, rfl⟩ | ⟨rfl, rfl⟩ | ⟨rfl, rfl⟩ | ⟨rfl, rfl⟩ | ⟨rfl, rfl⟩ <;> decide
theorem front_top {d : Int} (h0 : 0 ≤ d) (h2 : d ≤ 3) : frontV d d = 0 := by
  have : d = 0 ∨ d = 1 ∨ d = 2 ∨ d = 3 := by omega
  rcases this with rfl | rfl | rfl | rfl <;> decide
theorem front_step {d l : Int} (h0 : 0 ≤ l - 1) (h1 : l ≤ d) (h2 : d ≤ 3) : frontV d l + sd d l * sd d l = frontV d (l - 1) := by
  rcases ten (l := l) (by omega) h1 h2 with ⟨rfl, rfl⟩ | ⟨rfl, rfl⟩ | ⟨rfl, rfl⟩ | ⟨rfl, rfl⟩ | ⟨rfl, rfl⟩ | ⟨rfl, rfl⟩ | ⟨rfl, rfl⟩ | ⟨rfl, rfl⟩ | ⟨rfl, rfl⟩ | ⟨rfl, rfl⟩ <;> first | omega | decide
def keyV (d L X Y : Int) : Int := if validB d L X Y = true then frontV d L + sd d L * Y + X else -1
theorem keyV_yes {d L X Y : Int} (h : validB d L X Y = true) : keyV d L X Y = frontV d L + sd d L * Y + X := if_pos h
theorem keyV_no {d L X Y : Int} (h : validB d L X Y = false) : keyV d L X Y = -1 := by unfold keyV; rw [h]; rfl
def countV (d : Int) : Int := if depthB d = true then frontV d 0 + sd d 0 * sd d 0 else 0
def rootV (d : Int) : List Int := if depthB d = true then [d, 0, 0] else [0, 0, 0]
def upB (d L X Y l : Int) : Bool := validB d L X Y && decide (L ≤ l ∧ l ≤ d)
def upV (d L X Y l : Int) : List Int := if upB d L X Y l = true then [l, X / (2 ^ (l - L).toNat : Nat), Y / (2 ^ (l - L).toNat : Nat)] else [0, 0, 0]
def cmpV (a b : Int) : Int := if a < b then -1 else if b < a then 1 else 0

/-! All of them -/
def lineL (s l y : Nat) (x : Nat) : List Int := [(l : Int), (x : Int), (y : Int)]
def rowsL (s l : Nat) (y : Nat) : Row := (List.range y).flatMap fun y => (List.range s).map (lineL s l y)
def levelL (s l : Nat) : Row := rowsL s l s
def doneL (d : Nat) (k : Nat) : Row := (List.range k).flatMap fun i => levelL (2 ^ i) (d - i)
def allN (d : Nat) : Row := doneL d (d + 1)
def allV (d : Int) : Row := if depthB d = true then allN d.toNat else []
theorem rowsL_succ (s l y : Nat) : rowsL s l (y + 1) = rowsL s l y ++ (List.range s).map (lineL s l y) := by simp [rowsL, List.range_succ]
theorem doneL_succ (d k : Nat) : doneL d (k + 1) = doneL d k ++ levelL (2 ^ k) (d - k) := by simp [doneL, List.range_succ]
theorem three_line (s l y x : Nat) : (lineL s l y x).length = 3 := rfl
theorem three_map (s l y x : Nat) : ∀ v ∈ (List.range x).map (lineL s l y), v.length = 3 := by
  intro v hv
  simp only [List.mem_map] at hv
  obtain ⟨i, _, rfl⟩ := hv
  rfl
theorem three_rows (s l y : Nat) : ∀ v ∈ rowsL s l y, v.length = 3 := by
  intro v hv
  simp only [rowsL, List.mem_flatMap] at hv
  obtain ⟨i, _, hv⟩ := hv
  exact three_map s l i s v hv
theorem three_done (d k : Nat) : ∀ v ∈ doneL d k, v.length = 3 := by
  intro v hv
  simp only [doneL, List.mem_flatMap] at hv
  obtain ⟨i, _, hv⟩ := hv
  exact three_rows _ _ _ v hv
theorem three_all (d : Int) : ∀ v ∈ allV d, v.length = 3 := by
  intro v hv
  unfold allV at hv
  split at hv
  · exact three_done _ _ v hv
  · cases hv
theorem four {d : Int} (h : depthB d = true) : d = 0 ∨ d = 1 ∨ d = 2 ∨ d = 3 := by have := depth_yes h; omega
theorem all_len (d : Int) : ((allV d).length : Int) = countV d := by
  unfold allV countV
  by_cases h : depthB d = true
  · rw [if_pos h, if_pos h]
    rcases four h with rfl | rfl | rfl | rfl <;> decide +kernel
  · rw [if_neg h, if_neg h]; rfl
theorem all_small (d : Int) : (allV d).length ≤ 85 := by
  have e := all_len d
  unfold countV at e
  by_cases h : depthB d = true
  · rw [if_pos h] at e
    rcases four h with rfl | rfl | rfl | rfl
    · have : frontV 0 0 + sd 0 0 * sd 0 0 = 1 := by decide
      omega
    · have : frontV 1 0 + sd 1 0 * sd 1 0 = 5 := by decide
      omega
    · have : frontV 2 0 + sd 2 0 * sd 2 0 = 21 := by decide
      omega
    · have : frontV 3 0 + sd 3 0 * sd 3 0 = 85 := by decide
      omega
  · rw [if_neg h] at e; omega
end Go.Proofs.Ytkklppjimnkibaa.PgM

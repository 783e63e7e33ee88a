/-
  Rows of vertices: where they lie; two of them compared.
-/
import Derived.Test.YtimfjogallcgnaaClB
import Derived.Test.YtimfjogallcgnaaEq
namespace Go.Proofs.Ytimfjogallcgnaa.ClC
open Go.RowKit FixA Num Rd Go.Proofs.Ytimfjogallcgnaa.Row Mid ClM ClA ClB
set_option linter.unusedVariables false
set_option linter.unusedSimpArgs false
set_option maxRecDepth 10000

theorem eq_vec4 (a0 a1 a2 a3 b0 b1 b2 b3 : Int) (d : Nat) (w : World) : (Op.equalIn (d + 2) 23 (.agg #[.int .i64 a0, .int .i64 a1, .int .i64 a2, .int .i64 a3]) (.agg #[.int .i64 b0, .int .i64 b1, .int .i64 b2, .int .i64 b3])).run Try.prog w = .ok (a0 == b0 && (a1 == b1 && (a2 == b2 && a3 == b3))) w := by
  have h := Eq.run_equalIn_ints (P := Try.prog) w d 23 3 .i64 4 [a0, a1, a2, a3] [b0, b1, b2, b3] rfl rfl Try.underlying23 Try.underlying3 (fun _ => Try.isAgg3 _) (fun _ => Try.sizeOf3 _)
  simpa [List.range_succ, Bool.and_assoc] using h
attribute [local go_sem ↓] eq_vec4
def eqL (xs ys : List Int) : Bool := decide (xs = ys)
theorem eq_vx6 (a0 a1 a2 a3 a4 a5 b0 b1 b2 b3 b4 b5 : Int) (w : World) : (Op.equalIn 10000 25 (.agg #[.int .i64 a0, .int .i64 a1, .int .i64 a2, .int .i64 a3, .int .i64 a4, .int .i64 a5]) (.agg #[.int .i64 b0, .int .i64 b1, .int .i64 b2, .int .i64 b3, .int .i64 b4, .int .i64 b5])).run Try.prog w =
    .ok (eqL [a0, a1, a2, a3, a4, a5] [b0, b1, b2, b3, b4, b5]) w := by
  unfold eqL
  go_simp
  by_cases h0 : a0 = b0 <;> by_cases h1 : a1 = b1 <;> by_cases h2 : a2 = b2 <;> by_cases h3 : a3 = b3 <;> by_cases h4 : a4 = b4 <;> by_cases h5 : a5 = b5 <;> simp [h0, h1, h2, h3, h4, h5]
attribute [local go_sem ↓] eq_vx6

/-! Where a row lies -/
def RowAt (W : World) (ad : Option Addr) (row : ClM.Row) : Prop :=
  (∀ v ∈ row, v.length = 6) ∧ (row = [] ∨ ∃ b o, ad = some ⟨b, o, none⟩ ∧ b < W.heap.size ∧ ∀ i, i < row.length → ∀ j, j < 6 → W.cell? ⟨b, o + i * 6 + j, none⟩ = some (.int .i64 (ClM.g (at_ row i) j)))
theorem RowAt.below {W W2 : World} {ad : Option Addr} {row : ClM.Row} {B : Nat} (h : RowAt W ad row) (hb : Below W.heap.size W W2) : RowAt W2 ad row := by
  refine ⟨h.1, ?_⟩
  rcases h.2 with h | ⟨b, o, e, hlt, hc⟩
  · exact Or.inl h
  · exact Or.inr ⟨b, o, e, Nat.lt_of_lt_of_le hlt hb.size, fun i hi j hj => (hb.cell (p := ⟨b, o + i * 6 + j, none⟩) hlt).trans (hc i hi j hj)⟩
theorem at_eq {row : ClM.Row} {i : Nat} (h : i < row.length) : at_ row i = row[i] := by unfold at_; rw [List.getD_eq_getElem?_getD, List.getElem?_eq_getElem h]; rfl
theorem row_eq {r r' : ClM.Row} (hl : r.length = r'.length) (h : ∀ j, j < r.length → at_ r j = at_ r' j) : r = r' := by
  refine List.ext_getElem hl fun i h1 h2 => ?_
  have := h i h1
  rwa [at_eq h1, at_eq h2] at this
theorem six {v : List Int} (h : v.length = 6) : v = [ClM.g v 0, ClM.g v 1, ClM.g v 2, ClM.g v 3, ClM.g v 4, ClM.g v 5] := by
  match v, h with
  | [a, b, c, d, e, f], _ => rfl
theorem eq_step {r r' : ClM.Row} {k : Nat} (h : ∀ j, j < k → at_ r j = at_ r' j) (h2 : at_ r k = at_ r' k) : ∀ j, j < k + 1 → at_ r j = at_ r' j := by
  intro j hj
  by_cases e : j = k
  · subst e; exact h2
  · exact h j (by omega)
end Go.Proofs.Ytimfjogallcgnaa.ClC

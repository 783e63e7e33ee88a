/-
  Rows of triangles: where they lie; one more behind one's own.
-/
import Derived.Test.YtimfjogallcgnaaScD
import Derived.Test.YtimfjogallcgnaaClD
namespace Go.Proofs.Ytimfjogallcgnaa.ScE
open Go.RowKit FixA Num Rd Go.Proofs.Ytimfjogallcgnaa.Row Mid ClM ClC ClD ScM ScA ScB
set_option linter.unusedVariables false
set_option linter.unusedSimpArgs false
set_option maxRecDepth 10000
def TriAt (W : World) (ad : Option Addr) (row : ClM.Row) : Prop :=
  (∀ v ∈ row, v.length = 18) ∧ (row = [] ∨ ∃ b o, ad = some ⟨b, o, none⟩ ∧ b < W.heap.size ∧ ∀ i, i < row.length → ∀ j, j < 18 → W.cell? ⟨b, o + i * 18 + j, none⟩ = some (.int .i64 (ClM.g (at_ row i) j)))
theorem TriAt.below {W W2 : World} {ad : Option Addr} {row : ClM.Row} {B : Nat} (h : TriAt W ad row) (hb : Below W.heap.size W W2) : TriAt W2 ad row := by
  refine ⟨h.1, ?_⟩
  rcases h.2 with h | ⟨b, o, e, hlt, hc⟩
  · exact Or.inl h
  · exact Or.inr ⟨b, o, e, Nat.lt_of_lt_of_le hlt hb.size, fun i hi j hj => (hb.cell (p := ⟨b, o + i * 18 + j, none⟩) hlt).trans (hc i hi j hj)⟩
theorem info_tri : (Try.prog.info? 45).map (fun i => (i.zero, i.size, i.bytes)) = some (some (.agg #[.int .i64 0, .int .i64 0, .int .i64 0, .int .i64 0, .int .i64 0, .int .i64 0, .int .i64 0, .int .i64 0, .int .i64 0, .int .i64 0, .int .i64 0, .int .i64 0, .int .i64 0, .int .i64 0, .int .i64 0, .int .i64 0, .int .i64 0, .int .i64 0]), 18, 144) := by kernel_rfl
theorem fl3_len {r : ClM.Row} (h : ∀ v ∈ r, v.length = 18) : (fl r).length = r.length * 18 := by
  induction r with
  | nil => rfl
  | cons v r ih =>
    have e : fl (v :: r) = fl [v] ++ fl r := fl_app [v] r
    rw [e, List.length_append, fl_one, List.length_map, h v (List.mem_cons_self ..), ih fun u hu => h u (List.mem_cons_of_mem _ hu), List.length_cons]
    omega
theorem fl3_at {r : ClM.Row} (h : ∀ v ∈ r, v.length = 18) : ∀ i, i < r.length → ∀ j, j < 18 → (fl r)[i * 18 + j]? = some (.int .i64 (ClM.g (at_ r i) j)) := by
  induction r with
  | nil => intro i hi; simp at hi
  | cons v r ih =>
    intro i hi j hj
    have e : fl (v :: r) = fl [v] ++ fl r := fl_app [v] r
    have hv := h v (List.mem_cons_self ..)
    rw [e, fl_one]
    cases i with
    | zero =>
      rw [List.getElem?_append_left (by simp; omega)]
      have : at_ (v :: r) 0 = v := rfl
      rw [this]
      simp [ClM.g, List.getD, hv, hj]
    | succ i =>
      rw [List.getElem?_append_right (by simp; omega), List.length_map, hv, show (i + 1) * 18 + j - 18 = i * 18 + j by omega, ih (fun u hu => h u (List.mem_cons_of_mem _ hu)) i (by simpa using hi) j hj]
      rfl
theorem triAt_owns {W : World} {base : Nat} {n : Nat} {ad : Option Addr} {cap : Nat} {r : ClM.Row} (h : W.ownsRow base 45 18 (.slice ad n cap) n (fl r)) (hr : ∀ v ∈ r, v.length = 18) : n = r.length ∧ TriAt W ad r := by
  have hn : n = r.length := by
    have := h.1
    rw [fl3_len hr] at this
    omega
  refine ⟨hn, hr, ?_⟩
  have hR := Reads.of_owns h
  obtain ⟨hl, hc⟩ := hR
  rcases hc with h0 | ⟨b, off, e, hb, hcell⟩
  · left; exact List.eq_nil_of_length_eq_zero (by omega)
  · right
    refine ⟨b, off, e, hb, fun i hi j hj => ?_⟩
    rw [Nat.add_assoc, hcell _ (by rw [fl3_len hr]; omega), fl3_at hr i hi j hj]
theorem app_tri {ops : Array Oper} {rest : List Oper} {o : Oper} {a : Act} {w : World} {Q : Exit → Act → World → Prop} (hgd : o.guard = none) (s x : Operand)
    (ho : o.op = .call { callee := .builtin .append, args := #[s, x], argTypes := #[36, 36] })
    (base : Nat) (v : Value) (m : Nat) (r : ClM.Row) (hs : a.eval s = v) (hown : w.ownsRow base 45 18 v m (fl r))
    (gx : Nat) (cx : Nat) (y : List Int) (hx : a.eval x = .slice (some ⟨gx, 0, none⟩) 1 cx) (hy : y.length = 18) (hg : blk w gx = some (.cells (cs .i64 y) 45 (0, 0))) (hm : m ≤ 1000000) (hbase : base ≤ w.heap.size)
    (h : ∀ v' w', w'.ownsRow base 45 18 v' (m + 1) (fl (r ++ [y])) → w.grownBy w' v.ownBlock → wpList Try.prog ops Q rest (a.put o.dst v') w') : wpList Try.prog ops Q (o :: rest) a w := by
  obtain ⟨i0, hi, hz0, hz1, hz2⟩ := info_parts info_tri
  refine App.wpList_append_reads w hgd s x 36 ho base 45 i0 _ 18 144 Try.underlying36 hi hz0 hz1 hz2 rfl (by decide) v m (fl r) hs hown (some ⟨gx, 0, none⟩) 1 cx (fl [y]) hx ?_ ?_ (by unfold maxLen; omega) (by omega) hbase ?_
  · refine ⟨by rw [fl_one, List.length_map, hy], Or.inr ⟨gx, 0, rfl, blk_lt hg, fun j hj => ?_⟩⟩
    rw [Nat.zero_add, blk_cell hg, fl_one]
    simp
  · intro u hu
    rw [fl_one, List.mem_map] at hu
    obtain ⟨z, _, rfl⟩ := hu
    rfl
  · intro v' w' h1 h2
    rw [← fl_app] at h1
    exact h v' w' h1 h2
end Go.Proofs.Ytimfjogallcgnaa.ScE

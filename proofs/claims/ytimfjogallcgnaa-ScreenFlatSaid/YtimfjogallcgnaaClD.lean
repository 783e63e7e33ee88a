/-
  A row of vertices of one's own: one more behind it; where it lies.
-/
import Derived.Test.YtimfjogallcgnaaClC
import Derived.Test.YtimfjogallcgnaaApp
namespace Go.Proofs.Ytimfjogallcgnaa.ClD
open Go.RowKit FixA Num Rd Go.Proofs.Ytimfjogallcgnaa.Row Mid ClM ClA ClB ClC
set_option linter.unusedVariables false
set_option linter.unusedSimpArgs false
set_option maxRecDepth 10000

theorem info_vert : (Try.prog.info? 25).map (fun i => (i.zero, i.size, i.bytes)) = some (some (.agg #[.int .i64 0, .int .i64 0, .int .i64 0, .int .i64 0, .int .i64 0, .int .i64 0]), 6, 48) := by kernel_rfl
def fl (r : ClM.Row) : List Value := r.flatMap fun v => v.map (Value.int .i64)
theorem fl_nil : fl [] = [] := rfl
theorem fl_app (r s : ClM.Row) : fl (r ++ s) = fl r ++ fl s := by simp [fl, List.flatMap_append]
theorem fl_one (v : List Int) : fl [v] = v.map (Value.int .i64) := by simp [fl]
theorem fl_len {r : ClM.Row} (h : ∀ v ∈ r, v.length = 6) : (fl r).length = r.length * 6 := by
  induction r with
  | nil => rfl
  | cons v r ih =>
    have e : fl (v :: r) = fl [v] ++ fl r := fl_app [v] r
    rw [e, List.length_append, fl_one, List.length_map, h v (List.mem_cons_self ..), ih fun u hu => h u (List.mem_cons_of_mem _ hu), List.length_cons]
    omega
theorem fl_at {r : ClM.Row} (h : ∀ v ∈ r, v.length = 6) : ∀ i, i < r.length → ∀ j, j < 6 → (fl r)[i * 6 + j]? = some (.int .i64 (ClM.g (at_ r i) j)) := by
  induction r with
  | nil => intro i hi; simp at hi
  | cons v r ih =>
    intro i hi j hj
    have e : fl (v :: r) = fl [v] ++ fl r := fl_app [v] r
    have hv := h v (List.mem_cons_self ..)
    rw [e, fl_one]
    cases i with
    | zero =>
      rw [List.getElem?_append_left (by simp; omega)]
      have : at_ (v :: r) 0 = v := rfl
      rw [this]
      simp [ClM.g, List.getD, hv, hj]
    | succ i =>
      rw [List.getElem?_append_right (by simp; omega), List.length_map, hv, show (i + 1) * 6 + j - 6 = i * 6 + j by omega, ih (fun u hu => h u (List.mem_cons_of_mem _ hu)) i (by simpa using hi) j hj]
      rfl
theorem owns_below {W W2 : World} {base : Nat} {e : TypeId} {size : Nat} {v : Value} {n : Nat} {xs : List Value} (h : W.ownsRow base e size v n xs) (hb : Below W.heap.size W W2) : W2.ownsRow base e size v n xs := by
  obtain ⟨h1, h2⟩ := h
  refine ⟨h1, ?_⟩
  rcases h2 with h2 | ⟨g, cap, cur, e1, e2, e3, e4⟩
  · exact Or.inl h2
  · refine Or.inr ⟨g, cap, cur, e1, e2, ?_, e4⟩
    have hg : g < W.heap.size := blk_lt (w := W) (g := g) e3
    exact (hb.block g hg).trans e3
theorem rowAt_owns {W : World} {base : Nat} {n : Nat} {ad : Option Addr} {cap : Nat} {r : ClM.Row} (h : W.ownsRow base 25 6 (.slice ad n cap) n (fl r)) (hr : ∀ v ∈ r, v.length = 6) : n = r.length ∧ RowAt W ad r := by
  have hn : n = r.length := by
    have := h.1
    rw [fl_len hr] at this
    omega
  refine ⟨hn, hr, ?_⟩
  have hR := Reads.of_owns h
  obtain ⟨hl, hc⟩ := hR
  rcases hc with h0 | ⟨b, off, e, hb, hcell⟩
  · left; exact List.eq_nil_of_length_eq_zero (by omega)
  · right
    refine ⟨b, off, e, hb, fun i hi j hj => ?_⟩
    rw [Nat.add_assoc, hcell _ (by rw [fl_len hr]; omega), fl_at hr i hi j hj]
theorem app_one {ops : Array Oper} {rest : List Oper} {o : Oper} {a : Act} {w : World} {Q : Exit → Act → World → Prop} (hgd : o.guard = none) (s x : Operand)
    (ho : o.op = .call { callee := .builtin .append, args := #[s, x], argTypes := #[63, 63] })
    (base : Nat) (v : Value) (m : Nat) (r : ClM.Row) (hs : a.eval s = v) (hown : w.ownsRow base 25 6 v m (fl r))
    (gx : Nat) (cx : Nat) (y : List Int) (hx : a.eval x = .slice (some ⟨gx, 0, none⟩) 1 cx) (hy : y.length = 6) (hg : blk w gx = some (.cells (cs .i64 y) 25 (0, 0))) (hm : m ≤ 1000000) (hbase : base ≤ w.heap.size)
    (h : ∀ v' w', w'.ownsRow base 25 6 v' (m + 1) (fl (r ++ [y])) → w.grownBy w' v.ownBlock → wpList Try.prog ops Q rest (a.put o.dst v') w') : wpList Try.prog ops Q (o :: rest) a w := by
  obtain ⟨i0, hi, hz0, hz1, hz2⟩ := info_parts info_vert
  refine App.wpList_append_reads w hgd s x 63 ho base 25 i0 _ 6 48 Try.underlying63 hi hz0 hz1 hz2 rfl (by decide) v m (fl r) hs hown (some ⟨gx, 0, none⟩) 1 cx (fl [y]) hx ?_ ?_ (by unfold maxLen; omega) (by omega) hbase ?_
  · refine ⟨by rw [fl_one, List.length_map, hy], Or.inr ⟨gx, 0, rfl, blk_lt hg, fun j hj => ?_⟩⟩
    rw [Nat.zero_add, blk_cell hg, fl_one]
    simp
  · intro u hu
    rw [fl_one, List.mem_map] at hu
    obtain ⟨z, _, rfl⟩ := hu
    rfl
  · intro v' w' h1 h2
    rw [← fl_app] at h1
    exact h v' w' h1 h2
end Go.Proofs.Ytimfjogallcgnaa.ClD

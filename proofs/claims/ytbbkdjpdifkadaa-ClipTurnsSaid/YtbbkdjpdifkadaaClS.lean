/-
  A row put together of two parts of another.
-/
import Derived.Test.YtbbkdjpdifkadaaClL
import Derived.Deep.RegionHeld3
namespace Go.Proofs.Ytbbkdjpdifkadaa.ClS
open Go.RowKit FixA Num Rd Go.Proofs.Ytbbkdjpdifkadaa.Row Mid ClM ClA ClB ClC ClD ClE ClF ClG ClI ClJ ClH ClL
set_option linter.unusedVariables false
set_option linter.unusedSimpArgs false
set_option maxRecDepth 10000
theorem rowAt_drop {W : World} {b o : Nat} {row : ClM.Row} (h : RowAt W (some ⟨b, o, none⟩) row) (q : Nat) : RowAt W (some ⟨b, o + q * 6, none⟩) (row.drop q) := by
  refine ⟨fun v hv => h.1 v (List.mem_of_mem_drop hv), ?_⟩
  by_cases hq : row.length ≤ q
  · left; exact List.drop_eq_nil_of_le hq
  · right
    obtain ⟨b', o', e, hb⟩ := row_cells h (j := q) (by omega)
    simp only [Option.some.injEq, Addr.mk.injEq, and_true] at e
    obtain ⟨rfl, rfl⟩ := e
    refine ⟨_, _, rfl, hb, fun i hi j hj => ?_⟩
    have hi' : q + i < row.length := by rw [List.length_drop] at hi; omega
    have := row_cell h hi' j hj
    rw [Nat.add_mul, ← Nat.add_assoc] at this
    rw [this]
    have e : at_ (row.drop q) i = at_ row (q + i) := by
      rw [at_eq hi, at_eq hi', List.getElem_drop]
    rw [e]
theorem rowAt_take {W : World} {ad : Option Addr} {row : ClM.Row} (h : RowAt W ad row) (q : Nat) : RowAt W ad (row.take q) := by
  refine ⟨fun v hv => h.1 v (List.mem_of_mem_take hv), ?_⟩
  rcases h.2 with h2 | ⟨b, o, e, hb, hc⟩
  · left; rw [h2]; simp
  · right
    refine ⟨b, o, e, hb, fun i hi j hj => ?_⟩
    have hi' : i < row.length := by rw [List.length_take] at hi; omega
    rw [hc i hi' j hj]
    have e : at_ (row.take q) i = at_ row i := by
      rw [at_eq hi, at_eq hi', List.getElem_take]
    rw [e]
theorem step_row {ops : Array Oper} {o : Oper} {a : Act} {w : World} {K : Act → World → Prop} {Q : Exit → Act → World → Prop} {E : Prop} (hgd : o.guard = none) (s x : Operand)
    (ho : o.op = .call { callee := .builtin .append, args := #[s, x], argTypes := #[22, 22] })
    (base : Nat) (v : Value) (m : Nat) (r0 : ClM.Row) (hs : a.eval s = v) (hown : w.ownsRow base 28 6 v m (fl r0))
    (ad : Option Addr) (c n : Nat) (r : ClM.Row) (hn : r.length = n) (hx : a.eval x = .slice ad n c) (hr : RowAt w ad r) (hm : m + n ≤ 1000000) (hbase : base ≤ w.heap.size)
    (h : ∀ v' w', w'.ownsRow base 28 6 v' (m + n) (fl (r0 ++ r)) → w.grownBy w' v.ownBlock → K (a.put o.dst v') w') : if Region.wanted o (yielded ops a.tmps) = true then Oper.wp Try.prog o a w K Q else E := by
  have hw : Region.wanted o (yielded ops a.tmps) = true := by simp [Region.wanted, hgd]
  rw [if_pos hw]
  subst hn
  obtain ⟨i0, hi, hz0, hz1, hz2⟩ := info_parts info_vert
  obtain ⟨v', w', hrun, h2, h3⟩ := App.run_append_reads (P := Try.prog) w base 22 o.type 28 i0 _ 6 48 Try.underlying22 hi hz0 hz1 hz2 rfl (by decide) v m (fl r0) hown ad r.length c (fl r) (reads_row hr) (by
    intro u hu
    unfold fl at hu
    rw [List.mem_flatMap] at hu
    obtain ⟨y, _, hu⟩ := hu
    rw [List.mem_map] at hu
    obtain ⟨z, _, rfl⟩ := hu
    rfl) (by unfold maxLen; omega) (by omega) hbase
  unfold Oper.wp execOp
  simp only [ho, resolve, invoke, builtin, Sem.run_bind, Sem.run_pure, Result.andThen_ok, List.map_toArray, List.map_cons, List.map_nil, hs, hx, hrun]
  rw [← fl_app] at h2
  exact h v' w' h2 h3
end Go.Proofs.Ytbbkdjpdifkadaa.ClS

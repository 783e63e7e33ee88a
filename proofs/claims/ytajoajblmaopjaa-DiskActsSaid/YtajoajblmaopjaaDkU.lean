/-
  The reference's row of what is held: cut, put together anew.
-/
import Derived.Test.YtajoajblmaopjaaDkY
import Derived.Laws.Slices
namespace Go.Proofs.Ytajoajblmaopjaa.DkU
open Go.RowKit Rd
open Go.Proofs.Ytajoajblmaopjaa.Row hiding cs blk3_0 blk3_1 blk3_2
open Mid DkM DkA DkL DkN DkO DkP DkQ DkR DkS DkT
open DkB (rd z32_len)
open DkH (Bd)
set_option linter.unusedVariables false
set_option linter.unusedSimpArgs false
set_option maxRecDepth 10000
variable {X Y : World} {B0 pd bg n : Nat} {s : DS}
theorem info_held : (Try.prog.info? 71).map (fun i => (i.zero, i.size, i.bytes)) = some (some (.agg #[.int .i64 0, .slice none 0 0]), 2, 32) := by kernel_rfl
theorem yields_app_h {ops : Array Oper} {o : Oper} {b : Act} {w : World} {R : Value → World → Prop} (hgd : o.guard = none) (s x : Operand)
    (ho : o.op = .call { callee := .builtin .append, args := #[s, x], argTypes := #[48, 48] })
    (base : Nat) (v : Value) (n : Nat) (r : List Value) (hs : b.eval s = v) (hown : w.ownsRow base 71 2 v n r)
    (ad : Option Addr) (m c : Nat) (ys : List Value) (hx : b.eval x = .slice ad m c) (hr : Reads w 2 ad m ys) (hy : ∀ u ∈ ys, u.oneCell' = true)
    (h63 : n + m ≤ 1000000) (hbase : base ≤ w.heap.size)
    (h : ∀ v' w', w'.ownsRow base 71 2 v' (n + m) (r ++ ys) → w.grownBy w' v.ownBlock → R v' w') : Pred.yields Try.prog ops o b w R := by
  obtain ⟨i0, hi, hz0, hz1, hz2⟩ := info_parts info_held
  obtain ⟨v', w', hrun, h2, h3⟩ := App.run_append_reads (P := Try.prog) w base 48 o.type 71 i0 _ 2 32 Try.underlying48 hi hz0 hz1 hz2 rfl (by decide) v n r hown ad m c ys
    hr hy (by unfold maxLen; omega) (by omega) hbase
  refine Pred.yields_run (v := v') (w' := w') (Pred.wanted_none hgd) ?_ (h v' w' h2 h3)
  unfold execOp
  simp only [ho, resolve, invoke, builtin, Sem.run_bind, Sem.run_pure, Result.andThen_ok, List.map_toArray, List.map_cons, List.map_nil, hs, hx, hrun]
/-- a row's front, its back -/
theorem held_front (a : Option Addr) (N c M : Nat) (y : World) (h : M ≤ c) : (Instr.sliceAt 48 (.slice a N c) none (some (.int .i64 (M : Int))) none).run Try.prog y = .ok (.slice (if c = 0 then a else a.map (·.add 0)) M c) y := by
  have h0 : (0 : Int) ≤ (M : Int) := by omega
  have h1 : (M : Int) ≤ (c : Int) := by omega
  go_simp
theorem held_back (a : Option Addr) (N c M : Nat) (y : World) (h : M ≤ N) : (Instr.sliceAt 48 (.slice a N c) (some (.int .i64 (M : Int))) none none).run Try.prog y = .ok (.slice (if c = M then a else a.map (·.add (M * 2))) (N - M) (c - M)) y := by
  have h0 : (0 : Int) ≤ (M : Int) := by omega
  have h1 : (M : Int) ≤ (N : Int) := by omega
  go_simp
theorem reads_front {a : Option Addr} {N c M z : Nat} {xs : List Value} (hr : Reads X z a N xs) (h : M ≤ N) : Reads X z (if c = 0 then a else a.map (·.add 0)) M (xs.take (M * z)) := by
  obtain ⟨h1, h2⟩ := hr
  have hz : M * z ≤ N * z := Nat.mul_le_mul_right z h
  refine ⟨by rw [List.length_take]; omega, ?_⟩
  rcases h2 with h2 | ⟨b, off, rfl, hlt, hc⟩
  · exact .inl (by omega)
  · refine .inr ⟨b, off, by split <;> rfl, hlt, fun i hi => ?_⟩
    rw [List.length_take] at hi
    rw [hc i (by omega), List.getElem?_take_of_lt (by omega)]
theorem reads_back {a : Option Addr} {N c M z : Nat} {xs : List Value} (hr : Reads X z a N xs) (h : M ≤ N) (hN : N ≤ c) (e : z = 2) : Reads X z (if c = M then a else a.map (·.add (M * 2))) (N - M) (xs.drop (M * z)) := by
  subst e
  obtain ⟨h1, h2⟩ := hr
  refine ⟨by rw [List.length_drop]; omega, ?_⟩
  rcases h2 with h2 | ⟨b, off, rfl, hlt, hc⟩
  · exact .inl (by omega)
  · by_cases hcm : c = M
    · exact .inl (by omega)
    · rw [if_neg hcm]
      refine .inr ⟨b, off + M * 2, by simp [Addr.add], hlt, fun i hi => ?_⟩
      rw [List.length_drop] at hi
      rw [Nat.add_assoc, hc _ (by omega), List.getElem?_drop]
theorem hl_ins {H : List (Bool × List Int)} {i : Nat} {l : List Int} (hi : i < H.length) (hq : H[i].1 = false) : ∃ F T, hl H 0 = F ++ T ∧ hl (H.set i (true, l)) 0 = F ++ (i, l) :: T ∧ (∀ x ∈ F, x.1 < i) ∧ (∀ x ∈ T, i < x.1) := by
  obtain ⟨e, -⟩ := free_at hi hq
  refine ⟨_, _, e, ?_, front_lt hi, behind_gt⟩
  rw [hl_set hi, if_pos rfl]
  simp
/-- the cells of a row that is held -/
def HC (X : World) (B0 : Nat) (hs : List Value) (L : List (Nat × List Int)) : Prop := ∀ k x, L[k]? = some x → hs[k * 2]? = some (.int .i64 (x.1 : Int)) ∧ ∃ u, hs[k * 2 + 1]? = some u ∧ Oc X B0 u x.2
theorem HC.ins {hs : List Value} {F T : List (Nat × List Int)} {i : Nat} {l : List Int} {u : Value} (h : HC X B0 hs (F ++ T)) (hl : hs.length = (F ++ T).length * 2) (hu : Oc X B0 u l) : HC X B0 (hs.take (F.length * 2) ++ [.int .i64 (i : Int), u] ++ hs.drop (F.length * 2)) (F ++ (i, l) :: T) := by
  rw [List.length_append] at hl
  have hF : (hs.take (F.length * 2)).length = F.length * 2 := by rw [List.length_take]; omega
  intro k x hx
  rcases Nat.lt_trichotomy k F.length with hk | hk | hk
  · rw [List.getElem?_append_left hk] at hx
    obtain ⟨h1, u9, h2, h3⟩ := h k x (by rw [List.getElem?_append_left hk]; exact hx)
    refine ⟨?_, u9, ?_, h3⟩
    · rw [List.append_assoc, List.getElem?_append_left (by omega), List.getElem?_take_of_lt (by omega), h1]
    · rw [List.append_assoc, List.getElem?_append_left (by omega), List.getElem?_take_of_lt (by omega), h2]
  · subst hk
    have hx2 : x = (i, l) := by
      rw [List.getElem?_append_right (by omega), Nat.sub_self] at hx
      exact (Option.some.inj hx).symm
    subst hx2
    refine ⟨?_, u, ?_, hu⟩
    · rw [List.append_assoc, List.getElem?_append_right (by omega), hF, Nat.sub_self]; rfl
    · rw [List.append_assoc, List.getElem?_append_right (by omega), hF, show F.length * 2 + 1 - F.length * 2 = 1 by omega]; rfl
  · obtain ⟨d, rfl⟩ : ∃ d, k = F.length + 1 + d := ⟨k - F.length - 1, by omega⟩
    rw [List.getElem?_append_right (by omega), show F.length + 1 + d - F.length = d + 1 by omega, List.getElem?_cons_succ] at hx
    obtain ⟨h1, u9, h2, h3⟩ := h (F.length + d) x (by rw [List.getElem?_append_right (by omega), show F.length + d - F.length = d by omega]; exact hx)
    have hP : (hs.take (F.length * 2) ++ [.int .i64 (i : Int), u]).length = F.length * 2 + 2 := by rw [List.length_append, hF]; rfl
    refine ⟨?_, u9, ?_, h3⟩
    · rw [List.getElem?_append_right (by omega), hP, List.getElem?_drop, ← h1]
      congr 1; omega
    · rw [List.getElem?_append_right (by omega), hP, List.getElem?_drop, ← h2]
      congr 1; omega
theorem HC.len {hs : List Value} {F T : List (Nat × List Int)} {i : Nat} {l : List Int} {u : Value} (hl : hs.length = (F ++ T).length * 2) : (hs.take (F.length * 2) ++ [Value.int .i64 (i : Int), u] ++ hs.drop (F.length * 2)).length = (F ++ (i, l) :: T).length * 2 := by
  simp [List.length_append] at hl ⊢; omega
theorem HC.below {hs : List Value} {L : List (Nat × List Int)} (h : HC X B0 hs L) (hb : Below X.heap.size X Y) : HC Y B0 hs L := fun k x hx => by
  obtain ⟨h1, u, h2, h3⟩ := h k x hx
  exact ⟨h1, u, h2, own_below h3 hb⟩
/-- all cells of such a row are single -/
theorem HC.one {hs : List Value} {L : List (Nat × List Int)} (h : HC X B0 hs L) (hl : hs.length = L.length * 2) : ∀ u ∈ hs, u.oneCell' = true := fun u hu => by
  obtain ⟨j, hj, rfl⟩ := List.mem_iff_getElem.1 hu
  have hk : j / 2 < L.length := by omega
  obtain ⟨h1, u9, h2, h3⟩ := h (j / 2) _ (List.getElem?_eq_getElem hk)
  rcases Nat.mod_two_eq_zero_or_one j with h0 | h0
  · rw [show j / 2 * 2 = j by omega, List.getElem?_eq_getElem hj] at h1
    rw [Option.some.inj h1]; rfl
  · rw [show j / 2 * 2 + 1 = j by omega, List.getElem?_eq_getElem hj] at h2
    obtain ⟨a9, c9, e9, -, -⟩ := owns_val h3
    rw [Option.some.inj h2, e9]; rfl
end Go.Proofs.Ytajoajblmaopjaa.DkU

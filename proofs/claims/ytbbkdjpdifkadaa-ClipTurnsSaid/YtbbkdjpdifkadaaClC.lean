/-
  Rows of vertices: where they lie; two of them compared.
-/
import Derived.Test.YtbbkdjpdifkadaaClB
import Derived.Test.YtbbkdjpdifkadaaEq
namespace Go.Proofs.Ytbbkdjpdifkadaa.ClC
open Go.RowKit FixA Num Rd Go.Proofs.Ytbbkdjpdifkadaa.Row Mid ClM ClA ClB
set_option linter.unusedVariables false
set_option linter.unusedSimpArgs false
set_option maxRecDepth 10000

theorem eq_vec4 (a0 a1 a2 a3 b0 b1 b2 b3 : Int) (d : Nat) (w : World) : (Op.equalIn (d + 2) 26 (.agg #[.int .i64 a0, .int .i64 a1, .int .i64 a2, .int .i64 a3]) (.agg #[.int .i64 b0, .int .i64 b1, .int .i64 b2, .int .i64 b3])).run Try.prog w = .ok (a0 == b0 && (a1 == b1 && (a2 == b2 && a3 == b3))) w := by
  have h := Eq.run_equalIn_ints (P := Try.prog) w d 26 3 .i64 4 [a0, a1, a2, a3] [b0, b1, b2, b3] rfl rfl Try.underlying26 Try.underlying3 (fun _ => Try.isAgg3 _) (fun _ => Try.sizeOf3 _)
  simpa [List.range_succ, Bool.and_assoc] using h
attribute [local go_sem ↓] eq_vec4
def eqL (xs ys : List Int) : Bool := decide (xs = ys)
theorem eq_vx6 (a0 a1 a2 a3 a4 a5 b0 b1 b2 b3 b4 b5 : Int) (w : World) : (Op.equalIn 10000 28 (.agg #[.int .i64 a0, .int .i64 a1, .int .i64 a2, .int .i64 a3, .int .i64 a4, .int .i64 a5]) (.agg #[.int .i64 b0, .int .i64 b1, .int .i64 b2, .int .i64 b3, .int .i64 b4, .int .i64 b5])).run Try.prog w =
    .ok (eqL [a0, a1, a2, a3, a4, a5] [b0, b1, b2, b3, b4, b5]) w := by
  unfold eqL
  go_simp
  by_cases h0 : a0 = b0 <;> by_cases h1 : a1 = b1 <;> by_cases h2 : a2 = b2 <;> by_cases h3 : a3 = b3 <;> by_cases h4 : a4 = b4 <;> by_cases h5 : a5 = b5 <;> simp [h0, h1, h2, h3, h4, h5]
attribute [local go_sem ↓] eq_vx6

/-! Where a row lies -/
def RowAt (W : World) (ad : Option Addr) (row : ClM.Row) : Prop :=
  (∀ v ∈ row, v.length = 6) ∧ (row = [] ∨ ∃ b o, ad = some ⟨b, o, none⟩ ∧ b < W.heap.size ∧ ∀ i, i < row.length → ∀ j, j < 6 → W.cell? ⟨b, o + i * 6 + j, none⟩ = some (.int .i64 (ClM.g (at_ row i) j)))
theorem RowAt.below {W W2 : World} {ad : Option Addr} {row : ClM.Row} {B : Nat} (h : RowAt W ad row) (hb : Below W.heap.size W W2) : RowAt W2 ad row := by
  refine ⟨h.1, ?_⟩
  rcases h.2 with h | ⟨b, o, e, hlt, hc⟩
  · exact Or.inl h
  · exact Or.inr ⟨b, o, e, Nat.lt_of_lt_of_le hlt hb.size, fun i hi j hj => (hb.cell (p := ⟨b, o + i * 6 + j, none⟩) hlt).trans (hc i hi j hj)⟩
theorem at_eq {row : ClM.Row} {i : Nat} (h : i < row.length) : at_ row i = row[i] := by unfold at_; rw [List.getD_eq_getElem?_getD, List.getElem?_eq_getElem h]; rfl
theorem row_eq {r r' : ClM.Row} (hl : r.length = r'.length) (h : ∀ j, j < r.length → at_ r j = at_ r' j) : r = r' := by
  refine List.ext_getElem hl fun i h1 h2 => ?_
  have := h i h1
  rwa [at_eq h1, at_eq h2] at this
theorem six {v : List Int} (h : v.length = 6) : v = [ClM.g v 0, ClM.g v 1, ClM.g v 2, ClM.g v 3, ClM.g v 4, ClM.g v 5] := by
  match v, h with
  | [a, b, c, d, e, f], _ => rfl
theorem eq_step {r r' : ClM.Row} {k : Nat} (h : ∀ j, j < k → at_ r j = at_ r' j) (h2 : at_ r k = at_ r' k) : ∀ j, j < k + 1 → at_ r j = at_ r' j := by
  intro j hj
  by_cases e : j = k
  · subst e; exact h2
  · exact h j (by omega)
set_option maxHeartbeats 2000000 in
theorem same_any (r r' : ClM.Row) (ad ad' : Option Addr) (c c' : Nat) (w : World) (h : RowAt w ad r) (h' : RowAt w ad' r') (hm : r.length ≤ 1000000) (hm' : r'.length ≤ 1000000) :
    Calls Try.prog 13 #[.slice ad r.length c, .slice ad' r'.length c'] w fun e w' => e = .returned (.bool (decide (r = r'))) ∧ Below w.heap.size w w' := by
  obtain ⟨n, hn⟩ : ∃ n, r.length = n := ⟨_, rfl⟩
  obtain ⟨n', hn'⟩ : ∃ n, r'.length = n := ⟨_, rfl⟩
  rw [hn, hn']
  rw [hn] at hm
  rw [hn'] at hm'
  by_cases hl : n = n'
  · subst hl
    have HN := Lib.hid hn
    have HN' := Lib.hid hn'
    have H := Lib.hid h
    have H' := Lib.hid h'
    clear hn hn' h h' hm'
    go_enter Try.func13, Try.ntmps13
    go_wp2_with fail
    go_loopw [5] (fun i wr => ∃ k : Nat, k ≤ n ∧ i = .int .i64 k ∧ Hid (∀ j, j < k → at_ r j = at_ r' j) ∧ Below w.heap.size w wr) (fun i _ => n - (intOf i).toNat)
    case atStart => exact ⟨0, by omega, rfl, fun j hj => absurd hj (by omega), by repeat' (first | (with_reducible exact Below.refl _ _) | (with_reducible refine Rd.below_step ?_ (by assumption)) | (with_reducible refine Rd.below_alloc ?_ _) | (with_reducible refine Rd.below_drewN ?_ _) | (with_reducible refine Below.drew ?_) | (with_reducible refine Below.setCell ?_ ?_ _) | (with_reducible refine Rd.below_setRow ?_ ?_ _) | go_size | (simp only [World.size_alloc]; omega) | omega)⟩
    case round =>
      obtain ⟨k, hk, rfl, HF, hb⟩ := hrel
      by_cases hlt : k < n
      · have hlt' : (k : Int) < n := by omega
        obtain ⟨b, o, ea, hb0, hc⟩ : ∃ b o, ad = some ⟨b, o, none⟩ ∧ b < w.heap.size ∧ ∀ i, i < r.length → ∀ j, j < 6 → w.cell? ⟨b, o + i * 6 + j, none⟩ = some (.int .i64 (ClM.g (at_ r i) j)) := by
          rcases H.out.2 with h | h
          · have := HN.out; rw [h] at this; simp at this; omega
          · exact h
        obtain ⟨b', o', ea', hb0', hc'⟩ : ∃ b o, ad' = some ⟨b, o, none⟩ ∧ b < w.heap.size ∧ ∀ i, i < r'.length → ∀ j, j < 6 → w.cell? ⟨b, o + i * 6 + j, none⟩ = some (.int .i64 (ClM.g (at_ r' i) j)) := by
          rcases H'.out.2 with h | h
          · have := HN'.out; rw [h] at this; simp at this; omega
          · exact h
        subst ea
        subst ea'
        have x0 : wr.cell? ⟨b, o + k * 6, none⟩ = some (.int .i64 (ClM.g (at_ r k) 0)) := (hb.cell (p := ⟨b, o + k * 6, none⟩) hb0).trans (hc k (by rw [HN.out]; exact hlt) 0 (by omega))
        have y0 : wr.cell? ⟨b', o' + k * 6, none⟩ = some (.int .i64 (ClM.g (at_ r' k) 0)) := (hb.cell (p := ⟨b', o' + k * 6, none⟩) hb0').trans (hc' k (by rw [HN'.out]; exact hlt) 0 (by omega))
        have x1 : wr.cell? ⟨b, o + k * 6 + 1, none⟩ = some (.int .i64 (ClM.g (at_ r k) 1)) := (hb.cell (p := ⟨b, o + k * 6 + 1, none⟩) hb0).trans (hc k (by rw [HN.out]; exact hlt) 1 (by omega))
        have y1 : wr.cell? ⟨b', o' + k * 6 + 1, none⟩ = some (.int .i64 (ClM.g (at_ r' k) 1)) := (hb.cell (p := ⟨b', o' + k * 6 + 1, none⟩) hb0').trans (hc' k (by rw [HN'.out]; exact hlt) 1 (by omega))
        have x2 : wr.cell? ⟨b, o + k * 6 + 2, none⟩ = some (.int .i64 (ClM.g (at_ r k) 2)) := (hb.cell (p := ⟨b, o + k * 6 + 2, none⟩) hb0).trans (hc k (by rw [HN.out]; exact hlt) 2 (by omega))
        have y2 : wr.cell? ⟨b', o' + k * 6 + 2, none⟩ = some (.int .i64 (ClM.g (at_ r' k) 2)) := (hb.cell (p := ⟨b', o' + k * 6 + 2, none⟩) hb0').trans (hc' k (by rw [HN'.out]; exact hlt) 2 (by omega))
        have x3 : wr.cell? ⟨b, o + k * 6 + 3, none⟩ = some (.int .i64 (ClM.g (at_ r k) 3)) := (hb.cell (p := ⟨b, o + k * 6 + 3, none⟩) hb0).trans (hc k (by rw [HN.out]; exact hlt) 3 (by omega))
        have y3 : wr.cell? ⟨b', o' + k * 6 + 3, none⟩ = some (.int .i64 (ClM.g (at_ r' k) 3)) := (hb.cell (p := ⟨b', o' + k * 6 + 3, none⟩) hb0').trans (hc' k (by rw [HN'.out]; exact hlt) 3 (by omega))
        have x4 : wr.cell? ⟨b, o + k * 6 + 4, none⟩ = some (.int .i64 (ClM.g (at_ r k) 4)) := (hb.cell (p := ⟨b, o + k * 6 + 4, none⟩) hb0).trans (hc k (by rw [HN.out]; exact hlt) 4 (by omega))
        have y4 : wr.cell? ⟨b', o' + k * 6 + 4, none⟩ = some (.int .i64 (ClM.g (at_ r' k) 4)) := (hb.cell (p := ⟨b', o' + k * 6 + 4, none⟩) hb0').trans (hc' k (by rw [HN'.out]; exact hlt) 4 (by omega))
        have x5 : wr.cell? ⟨b, o + k * 6 + 5, none⟩ = some (.int .i64 (ClM.g (at_ r k) 5)) := (hb.cell (p := ⟨b, o + k * 6 + 5, none⟩) hb0).trans (hc k (by rw [HN.out]; exact hlt) 5 (by omega))
        have y5 : wr.cell? ⟨b', o' + k * 6 + 5, none⟩ = some (.int .i64 (ClM.g (at_ r' k) 5)) := (hb.cell (p := ⟨b', o' + k * 6 + 5, none⟩) hb0').trans (hc' k (by rw [HN'.out]; exact hlt) 5 (by omega))
        have s6 := six (H.out.1 (at_ r k) (by rw [at_eq (by rw [HN.out]; exact hlt)]; exact List.getElem_mem _))
        have s6' := six (H'.out.1 (at_ r' k) (by rw [at_eq (by rw [HN'.out]; exact hlt)]; exact List.getElem_mem _))
        have S6 := Lib.hid s6
        have S6' := Lib.hid s6'
        clear s6 s6' hc hc'
        by_cases he : at_ r k = at_ r' k
        · have HE := Lib.hid he
          have d0 : eqL [ClM.g (at_ r k) 0, ClM.g (at_ r k) 1, ClM.g (at_ r k) 2, ClM.g (at_ r k) 3, ClM.g (at_ r k) 4, ClM.g (at_ r k) 5] [ClM.g (at_ r' k) 0, ClM.g (at_ r' k) 1, ClM.g (at_ r' k) 2, ClM.g (at_ r' k) 3, ClM.g (at_ r' k) 4, ClM.g (at_ r' k) 5] = true := decide_eq_true (by rw [← S6.out, ← S6'.out]; exact he)
          clear he
          go_wp2
          go_quiet (fail)
          go_wp2
          exact ⟨⟨k + 1, by omega, by go_num, Lib.hid (eq_step HF.out HE.out), by repeat' (first | (with_reducible exact Below.refl _ _) | (with_reducible refine Rd.below_step ?_ (by assumption)) | (with_reducible refine Rd.below_alloc ?_ _) | (with_reducible refine Rd.below_drewN ?_ _) | (with_reducible refine Below.drew ?_) | (with_reducible refine Below.setCell ?_ ?_ _) | (with_reducible refine Rd.below_setRow ?_ ?_ _) | go_size | (simp only [World.size_alloc]; omega) | omega)⟩, by simp [intOf]; omega⟩
        · have hr : ¬ r = r' := fun e => he (by rw [e])
          have HR := Lib.hid hr
          have d0 : eqL [ClM.g (at_ r k) 0, ClM.g (at_ r k) 1, ClM.g (at_ r k) 2, ClM.g (at_ r k) 3, ClM.g (at_ r k) 4, ClM.g (at_ r k) 5] [ClM.g (at_ r' k) 0, ClM.g (at_ r' k) 1, ClM.g (at_ r' k) 2, ClM.g (at_ r' k) 3, ClM.g (at_ r' k) 4, ClM.g (at_ r' k) 5] = false := decide_eq_false (by rw [← S6.out, ← S6'.out]; exact he)
          clear he hr
          go_wp2
          go_quiet (fail)
          go_wp2
          go_ret
          exact ⟨by rw [decide_eq_false HR.out]; first | done | rfl, by repeat' (first | (with_reducible exact Below.refl _ _) | (with_reducible refine Rd.below_step ?_ (by assumption)) | (with_reducible refine Rd.below_alloc ?_ _) | (with_reducible refine Rd.below_drewN ?_ _) | (with_reducible refine Below.drew ?_) | (with_reducible refine Below.setCell ?_ ?_ _) | (with_reducible refine Rd.below_setRow ?_ ?_ _) | go_size | (simp only [World.size_alloc]; omega) | omega)⟩
      · obtain rfl : k = n := by omega
        have hr : r = r' := row_eq (by rw [HN.out, HN'.out]) (by rw [HN.out]; exact HF.out)
        go_wp2
        go_ret
        exact ⟨by rw [decide_eq_true hr]; first | done | rfl, hb⟩
  · have hr : ¬ r = r' := fun e => hl (by rw [← hn, ← hn', e])
    go_enter Try.func13, Try.ntmps13
    go_wp2
    go_ret
    exact ⟨by rw [decide_eq_false hr]; first | done | rfl, by repeat' (first | (with_reducible exact Below.refl _ _) | (with_reducible refine Rd.below_step ?_ (by assumption)) | (with_reducible refine Rd.below_alloc ?_ _) | (with_reducible refine Rd.below_drewN ?_ _) | (with_reducible refine Below.drew ?_) | (with_reducible refine Below.setCell ?_ ?_ _) | (with_reducible refine Rd.below_setRow ?_ ?_ _) | go_size | (simp only [World.size_alloc]; omega) | omega)⟩
end Go.Proofs.Ytbbkdjpdifkadaa.ClC

/-
  Are all numbers of a row within what is promised?
-/
import Derived.Test.YtbbkdjpdifkadaaClC
import Derived.BigGuard
namespace Go.Proofs.Ytbbkdjpdifkadaa.ClI
open Go.RowKit FixA Num Rd Go.Proofs.Ytbbkdjpdifkadaa.Row Mid ClM ClA ClB ClC
set_option linter.unusedVariables false
set_option linter.unusedSimpArgs false
set_option maxRecDepth 10000
def FarIs (e : Ending) (row : ClM.Row) : Prop := ∃ b, e = .returned (.bool b) ∧ (b = false → VxR row)
theorem far_true (row : ClM.Row) : FarIs (.returned (.bool true)) row := ⟨true, rfl, fun e => by cases e⟩
theorem far_false {row : ClM.Row} (h : VxR row) : FarIs (.returned (.bool false)) row := ⟨false, rfl, fun _ => h⟩
set_option maxHeartbeats 2000000 in
theorem far_any (row : ClM.Row) (ad : Option Addr) (c : Nat) (w : World) (h : RowAt w ad row) (hm : row.length ≤ 1000000) :
    Calls Try.prog 7 #[.slice ad row.length c] w fun e w' => FarIs e row ∧ Below w.heap.size w w' := by
  obtain ⟨n, hn⟩ : ∃ n, row.length = n := ⟨_, rfl⟩
  have HN := Lib.hid hn
  have H := Lib.hid h
  rw [hn]
  rw [hn] at hm
  clear hn h
  go_enter Try.func7, Try.ntmps7
  go_wp2_with fail
  go_loopw [3] (fun i W => ∃ j : Nat, j ≤ n ∧ i = .int .i64 j ∧ Hid (∀ t, t < j → Vx (at_ row t)) ∧ Below w.heap.size w W) (fun i _ => n - (intOf i).toNat)
  case atStart => exact ⟨0, by omega, rfl, Lib.hid (fun t ht => absurd ht (by omega)), by repeat' (first | (with_reducible exact Below.refl _ _) | (with_reducible refine Rd.below_step ?_ (by assumption)) | (with_reducible refine Rd.below_alloc ?_ _) | (with_reducible refine Rd.below_drewN ?_ _) | (with_reducible refine Below.drew ?_) | (with_reducible refine Below.setCell ?_ ?_ _) | (with_reducible refine Rd.below_setRow ?_ ?_ _) | go_size | (simp only [World.size_alloc]; omega) | omega)⟩
  case round =>
    obtain ⟨j, hj, rfl, HI, hb⟩ := hrel
    rename World => W
    by_cases hjn : j < n
    · have hjn' : (j : Int) < n := by omega
      obtain ⟨b, o, ea, hb0, hc⟩ : ∃ b o, ad = some ⟨b, o, none⟩ ∧ b < w.heap.size ∧ ∀ i, i < row.length → ∀ j, j < 6 → w.cell? ⟨b, o + i * 6 + j, none⟩ = some (.int .i64 (ClM.g (at_ row i) j)) := by
        rcases H.out.2 with h | h
        · have := HN.out; rw [h] at this; simp at this; omega
        · exact h
      subst ea
      have C := Lib.hid (fun (X : World) (hX : Below w.heap.size w X) (t : Nat) (ht : t < 6) => (hX.cell (p := ⟨b, o + j * 6 + t, none⟩) hb0).trans (hc j (by rw [HN.out]; exact hjn) t ht))
      have hlen : (at_ row j).length = 6 := H.out.1 _ (by unfold at_; rw [List.getD_eq_getElem?_getD, List.getElem?_eq_getElem (by rw [HN.out]; exact hjn)]; exact List.getElem_mem _)
      obtain ⟨v, ev⟩ : ∃ v, at_ row j = v := ⟨_, rfl⟩
      have EV := Lib.hid ev
      rw [ev] at C hlen
      have HL := Lib.hid hlen
      clear hc ev hlen
      go_wp2_with fail
      go_loopw [4] (fun i W => ∃ k : Nat, k ≤ 4 ∧ i = .int .i64 k ∧ Hid (∀ t, t < k → -536870912 ≤ ClM.g v t ∧ ClM.g v t ≤ 536870912) ∧ Below w.heap.size w W) (fun i _ => 4 - (intOf i).toNat)
      case atStart => exact ⟨0, by omega, rfl, Lib.hid (fun t ht => absurd ht (by omega)), hb⟩
      case round =>
        obtain ⟨k, hk, rfl, HK, hbk⟩ := hrel
        rename World => W2
        by_cases hk4 : k < 4
        · have hk4' : (k : Int) < 4 := by omega
          obtain ⟨x, ex⟩ : ∃ x, ClM.g v k = x := ⟨_, rfl⟩
          have c0 : W2.cell? ⟨b, o + j * 6 + k, none⟩ = some (.int .i64 x) := by rw [← ex]; exact C.out W2 hbk k (by omega)
          have EX := Lib.hid ex
          clear ex
          by_cases h1 : x < -536870912
          · have d1 : decide (x < -536870912) = true := by simpa using h1
            clear h1
            go_wp2
            go_ret
            exact ⟨far_true row, hbk⟩
          have d1 : decide (x < -536870912) = false := by simpa using h1
          have H1 := Lib.hid h1
          clear h1
          by_cases h2 : 536870912 < x
          · have d2 : decide (536870912 < x) = true := by simpa using h2
            clear h2
            go_wp2
            go_ret
            exact ⟨far_true row, hbk⟩
          have d2 : decide (536870912 < x) = false := by simpa using h2
          have H2 := Lib.hid h2
          clear h2
          go_wp2
          go_roundw
          case rel =>
            refine ⟨k + 1, by omega, by go_num, Lib.hid (fun t ht => ?_), hbk⟩
            by_cases e : t = k
            · subst e
              rw [EX.out]
              have := H1.out
              have := H2.out
              omega
            · exact HK.out t (by omega)
          case measure => simp [intOf]; omega
        · obtain rfl : k = 4 := by omega
          obtain ⟨x, ex⟩ : ∃ x, ClM.g v 4 = x := ⟨_, rfl⟩
          obtain ⟨y, ey⟩ : ∃ x, ClM.g v 5 = x := ⟨_, rfl⟩
          have c0 : W2.cell? ⟨b, o + j * 6 + 4, none⟩ = some (.int .i64 x) := by rw [← ex]; exact C.out W2 hbk 4 (by omega)
          have c1 : W2.cell? ⟨b, o + j * 6 + 5, none⟩ = some (.int .i64 y) := by rw [← ey]; exact C.out W2 hbk 5 (by omega)
          have EX := Lib.hid ex
          have EY := Lib.hid ey
          clear ex ey
          by_cases h1 : x < -134217728
          · have d1 : decide (x < -134217728) = true := by simpa using h1
            clear h1
            go_wp2
            go_ret
            exact ⟨far_true row, hbk⟩
          have d1 : decide (x < -134217728) = false := by simpa using h1
          have H1 := Lib.hid h1
          clear h1
          by_cases h2 : 134217728 < x
          · have d2 : decide (134217728 < x) = true := by simpa using h2
            clear h2
            go_wp2
            go_ret
            exact ⟨far_true row, hbk⟩
          have d2 : decide (134217728 < x) = false := by simpa using h2
          have H2 := Lib.hid h2
          clear h2
          by_cases h3 : y < -134217728
          · have d3 : decide (y < -134217728) = true := by simpa using h3
            clear h3
            go_wp2
            go_ret
            exact ⟨far_true row, hbk⟩
          have d3 : decide (y < -134217728) = false := by simpa using h3
          have H3 := Lib.hid h3
          clear h3
          by_cases h4 : 134217728 < y
          · have d4 : decide (134217728 < y) = true := by simpa using h4
            clear h4
            go_wp2
            go_ret
            exact ⟨far_true row, hbk⟩
          have d4 : decide (134217728 < y) = false := by simpa using h4
          have H4 := Lib.hid h4
          clear h4
          have hvx : Vx v := by
            have a := HK.out
            have := H1.out
            have := H2.out
            have := H3.out
            have := H4.out
            have := EX.out
            have := EY.out
            exact ⟨HL.out, (a 0 (by omega)).1, (a 0 (by omega)).2, (a 1 (by omega)).1, (a 1 (by omega)).2, (a 2 (by omega)).1, (a 2 (by omega)).2, (a 3 (by omega)).1, (a 3 (by omega)).2, by omega, by omega, by omega, by omega⟩
          have HX := Lib.hid hvx
          clear hvx
          go_wp2
          refine ⟨⟨j + 1, by omega, by go_num, Lib.hid (fun t ht => ?_), hbk⟩, by simp [intOf]; omega⟩
          by_cases e : t = j
          · subst e; rw [EV.out]; exact HX.out
          · exact HI.out t (by omega)
    · obtain rfl : j = n := by omega
      go_wp2
      go_ret
      refine ⟨far_false fun v hv => ?_, hb⟩
      obtain ⟨i, hi, rfl⟩ := List.mem_iff_getElem.1 hv
      have := HI.out i (by rw [← HN.out]; exact hi)
      unfold at_ at this
      rwa [List.getD_eq_getElem?_getD, List.getElem?_eq_getElem hi] at this
end Go.Proofs.Ytbbkdjpdifkadaa.ClI

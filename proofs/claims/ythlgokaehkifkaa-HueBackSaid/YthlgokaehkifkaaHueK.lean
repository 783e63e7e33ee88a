/-
  The law of package hue: colours' bytes are read as they were.
-/
import Derived.Test.YthlgokaehkifkaaHueD
import Derived.Test.YthlgokaehkifkaaRow
import Derived.Test.YthlgokaehkifkaaApp
import Derived.Test.YthlgokaehkifkaaBytes
import Derived.BigQuiet
namespace Go.Proofs.Ythlgokaehkifkaa.HueK
open Go.RowKit Rd HueA HueB HueC HueD
set_option linter.unusedVariables false
set_option linter.unusedSimpArgs false
abbrev u8s (zs : List Int) : List Value := zs.map (Value.int .u8)
attribute [local go_sem] Eq.eq_col
set_option maxHeartbeats 4000000 in
theorem HueBack_walk (a0 : Option Addr) (len0 cap0 : Nat) (x0 : List (List Value)) (a1 : Option Addr) (len1 cap1 : Nat) (x1 : List (List Value)) (w : World) (w0 : Flat.IsRows [some .u8, some .u8, some .u8, some .u8] w a0 len0 cap0 x0) (w1 : Flat.IsRows [some .u8] w a1 len1 cap1 x1) :
    Calls Try.prog 5 #[.slice a0 len0 cap0, .slice a1 len1 cap1] w fun e w' => e = .returned (.bool true) ∧ Below w.heap.size w w' := by
  obtain ⟨zs, hzl, hz, hR, hlc, hcm, -⟩ := Bytes.rows_row (s := 4) (by omega) w0
  obtain ⟨ms, hml, hmz, hM, hmlc, hmcm, -⟩ := Bytes.rows_bytes w1
  clear w0 w1
  by_cases hbig : 100 < len0
  · have hbig2 : (100 : Int) < (len0 : Int) := by omega
    clear hzl hml
    go_enter Try.func5, Try.ntmps5
    go_wp2_with (go_at_call 8; refine (awake_any _).mono ?_; rintro e w3 ⟨rfl, hb⟩; have hs := hb.size; try simp only [World.size_alloc] at hs)
    go_ret
    exact ⟨rfl, by repeat' (first | (with_reducible exact Below.refl _ _) | (with_reducible refine Rd.below_step ?_ (by assumption)) | (with_reducible refine Rd.below_alloc ?_ _) | (with_reducible refine Rd.below_drewN ?_ _) | (with_reducible refine Below.drew ?_) | (with_reducible refine Below.setCell ?_ ?_ _) | (with_reducible refine Rd.below_setRow ?_ ?_ _) | go_size | (simp only [World.size_alloc]; omega) | omega)⟩
  have hsm : ¬ (100 : Int) < (len0 : Int) := by omega
  by_cases hbig3 : 3 < len1
  · have hbig2 : (3 : Int) < (len1 : Int) := by omega
    clear hzl hml
    go_enter Try.func5, Try.ntmps5
    go_wp2_with (go_at_call 8; refine (awake_any _).mono ?_; rintro e w3 ⟨rfl, hb⟩; have hs := hb.size; try simp only [World.size_alloc] at hs)
    go_ret
    exact ⟨rfl, by repeat' (first | (with_reducible exact Below.refl _ _) | (with_reducible refine Rd.below_step ?_ (by assumption)) | (with_reducible refine Rd.below_alloc ?_ _) | (with_reducible refine Rd.below_drewN ?_ _) | (with_reducible refine Below.drew ?_) | (with_reducible refine Below.setCell ?_ ?_ _) | (with_reducible refine Rd.below_setRow ?_ ?_ _) | go_size | (simp only [World.size_alloc]; omega) | omega)⟩
  have hsm1 : ¬ (3 : Int) < (len1 : Int) := by omega
  obtain ⟨i0, hi, hz0, hz1, hz2⟩ := info_parts info_u8
  have HZL := Lib.hid hzl
  have HML := Lib.hid hml
  clear hzl hml
  go_enter Try.func5, Try.ntmps5
  go_wp2_with fail
  refine (bytes_any a0 len0 cap0 zs _ (hR.below (by repeat' (first | (with_reducible exact Below.refl _ _) | (with_reducible refine Rd.below_step ?_ (by assumption)) | (with_reducible refine Rd.below_alloc ?_ _) | (with_reducible refine Rd.below_drewN ?_ _) | (with_reducible refine Below.drew ?_) | (with_reducible refine Below.setCell ?_ ?_ _) | (with_reducible refine Rd.below_setRow ?_ ?_ _) | go_size | (simp only [World.size_alloc]; omega) | omega)) (Nat.le_refl _)) (by omega)).mono ?_
  rintro e w1 ⟨v1, rfl, hown1, hb1⟩
  have s1 := hb1.size
  obtain ⟨A1, c1, rfl, h11, h12⟩ := owns_val hown1
  have R1 := Reads.of_owns hown1
  have L1 : Below w.heap.size w w1 := by repeat' (first | (with_reducible exact Below.refl _ _) | (with_reducible refine Rd.below_step ?_ (by assumption)) | (with_reducible refine Rd.below_alloc ?_ _) | (with_reducible refine Rd.below_drewN ?_ _) | (with_reducible refine Below.drew ?_) | (with_reducible refine Below.setCell ?_ ?_ _) | (with_reducible refine Rd.below_setRow ?_ ?_ _) | go_size | (simp only [World.size_alloc]; omega) | omega)
  clear hown1
  go_wp2_with fail
  refine (from_yes A1 (4 * len0) c1 len0 zs _ R1 (by omega) rfl h11 h12).mono ?_
  rintro e w2 ⟨v2, rfl, hown2, hb2⟩
  have s2 := hb2.size
  have R1' := R1.below hb2 (Nat.le_refl _)
  have L2 : Below w.heap.size w w2 := by repeat' (first | (with_reducible exact Below.refl _ _) | (with_reducible refine Rd.below_step ?_ (by assumption)) | (with_reducible refine Rd.below_alloc ?_ _) | (with_reducible refine Rd.below_drewN ?_ _) | (with_reducible refine Below.drew ?_) | (with_reducible refine Below.setCell ?_ ?_ _) | (with_reducible refine Rd.below_setRow ?_ ?_ _) | go_size | (simp only [World.size_alloc]; omega) | omega)
  have RM := hM.below L2 (Nat.le_refl _)
  obtain ⟨A2, c2, rfl, h21, h22⟩ := owns_val hown2
  have R2 := Reads.of_owns hown2
  have own2 := hown2
  clear hown2
  clear own2
  have HZ := Lib.hid hz
  have ones : ∀ u ∈ u8s zs, u.oneCell' = true := one_ints (l := zs)
  have onesM : ∀ u ∈ u8s ms, u.oneCell' = true := one_ints (l := ms)
  have hmade := World.ownsRow_made w2 (e := 5) (size := 1) (base := w2.heap.size) #[] 0 (Nat.le_refl _) (by decide) rfl
  have hBa : Below w2.heap.size w2 (w2.alloc (.cells #[] 5)) := (Below.refl _ _).alloc (Nat.le_refl _) _
  have RA := R1'.below hBa (Nat.le_refl _)
  go_wp2_with (first
    | (at_builtin; refine App.wpList_append_reads _ rfl (.tmp 28) (.tmp 29) 24 rfl w2.heap.size 5 i0 (.int .u8 0) 1 1 Try.underlying24 hi hz0 hz1 hz2 rfl (by decide) _ _ _ rfl hmade A1 (4 * len0) c1 (u8s zs) rfl RA ones (by unfold maxLen; omega) (by omega) (by simp) ?_; intro v3 w3 hown3 hgrow3)
    | (at_builtin; refine App.wpList_append_reads _ rfl (.tmp 30) (.tmp 31) 24 rfl w2.heap.size 5 i0 (.int .u8 0) 1 1 Try.underlying24 hi hz0 hz1 hz2 rfl (by decide) _ _ _ rfl hown3 a1 len1 cap1 (u8s ms) rfl (RM.below (hBa.grown hgrow3 (by simp) (fun j hj => (hmade.lt j hj).1)) (Nat.le_refl _)) onesM (by unfold maxLen; omega) (by omega) (by have := (hBa.grown hgrow3 (by simp) (fun j hj => (hmade.lt j hj).1)).size; omega) ?_; intro v4 w4 hown4 hgrow4))
  have L3 := hBa.grown hgrow3 (by simp) (fun j hj => (hmade.lt j hj).1)
  have L4 : Below w2.heap.size w2 w4 := L3.grown hgrow4 (by have := L3.size; omega) (fun j hj => (hown3.lt j hj).1)
  have s4 := L4.size
  clear hgrow3 hgrow4 hown3 hmade hBa L3 RA
  obtain ⟨A4, c4, rfl, h41, h42⟩ := owns_val hown4
  have R4 := Reads.of_owns hown4
  rw [List.nil_append, ← List.map_append] at R4
  clear hown4
  have R2' := R2.below L4 (Nat.le_refl _)
  have LW4 : Below w.heap.size w w4 := L2.trans (L4.mono (by omega))
  have R0 := hR.below LW4 (Nat.le_refl _)
  have hq : ((4 * len0 : Nat) : Int) = 4 * (len0 : Int) := by omega
  clear L4 L2 L1 R1 R1' R2 RM hb1 hb2 hR hM
  by_cases hno : len1 = 0
  · subst hno
    refine (from_yes A4 (0 + 4 * len0 + 0) c4 len0 (zs ++ ms) _ R4 (by omega) (by omega) h41 h42).mono ?_
    rintro e w5 ⟨v5, rfl, hown5, hb5⟩
    have s5 := hb5.size
    have R2 := R2'.below hb5 (Nat.le_refl _)
    have R00 := R0.below hb5 (Nat.le_refl _)
    have L5 : Below w.heap.size w w5 := LW4.trans (hb5.mono (by omega))
    have HR2 := Lib.hid R2
    have HR0 := Lib.hid R00
    clear R2 R00 R2' R0 R4 hb5 LW4
    go_wp2
    go_loopw [10] (fun i wr => ∃ k : Nat, k ≤ len0 ∧ i = .int .i64 k ∧ Below w5.heap.size w5 wr) (fun i _ => len0 - (intOf i).toNat)
    case atStart => exact ⟨0, Nat.zero_le _, rfl, Below.refl _ _⟩
    case round =>
      obtain ⟨k, hk, rfl, hbel⟩ := hrel
      by_cases hlt : k < len0
      · obtain ⟨hl2, hc2⟩ := HR2.out
        obtain ⟨hl0, hc0⟩ := HR0.out
        rcases hc2 with h0 | ⟨b2, o2, rfl, hb2, hc2⟩
        · omega
        rcases hc0 with h0 | ⟨b0, o0, rfl, hb0, hc0⟩
        · omega
        have g4 : (k : Int) < (len0 : Int) := by omega
        have hlz := HZL.out
        have f : ∀ j, j < 4 → wr.cell? ⟨b2, o2 + (k * 4 + j), none⟩ = some (.int .u8 (zs.getD (k * 4 + j) 0)) := fun j hj => by
          rw [hbel.cell (p := ⟨b2, o2 + (k * 4 + j), none⟩) (by exact hb2), hc2 _ (by simp; omega), u8s_at _ _ (by omega)]
        have g : ∀ j, j < 4 → wr.cell? ⟨b0, o0 + (k * 4 + j), none⟩ = some (.int .u8 (zs.getD (k * 4 + j) 0)) := fun j hj => by
          rw [hbel.cell (p := ⟨b0, o0 + (k * 4 + j), none⟩) (by exact hb0), hc0 _ (by simp; omega), u8s_at _ _ (by omega)]
        obtain ⟨x0, x1, x2, x3, f0, f1, f2, f3, g0, g1, g2, g3⟩ : ∃ x0 x1 x2 x3, wr.cell? ⟨b2, o2 + k * 4, none⟩ = some (.int .u8 x0) ∧ wr.cell? ⟨b2, o2 + k * 4 + 1, none⟩ = some (.int .u8 x1) ∧
            wr.cell? ⟨b2, o2 + k * 4 + 2, none⟩ = some (.int .u8 x2) ∧ wr.cell? ⟨b2, o2 + k * 4 + 3, none⟩ = some (.int .u8 x3) ∧ wr.cell? ⟨b0, o0 + k * 4, none⟩ = some (.int .u8 x0) ∧ wr.cell? ⟨b0, o0 + k * 4 + 1, none⟩ = some (.int .u8 x1) ∧
            wr.cell? ⟨b0, o0 + k * 4 + 2, none⟩ = some (.int .u8 x2) ∧ wr.cell? ⟨b0, o0 + k * 4 + 3, none⟩ = some (.int .u8 x3) :=
          ⟨_, _, _, _, f 0 (by omega), by rw [Nat.add_assoc]; exact f 1 (by omega), by rw [Nat.add_assoc]; exact f 2 (by omega), by rw [Nat.add_assoc]; exact f 3 (by omega),
            g 0 (by omega), by rw [Nat.add_assoc]; exact g 1 (by omega), by rw [Nat.add_assoc]; exact g 2 (by omega), by rw [Nat.add_assoc]; exact g 3 (by omega)⟩
        clear f g hc2 hc0 hlz hl2 hl0
        have sr := hbel.size
        go_wp2
        go_quiet (fail)
        go_wp2
        go_roundw
        case rel => exact ⟨k + 1, by omega, by go_num, by repeat' (first | (with_reducible exact Below.refl _ _) | (with_reducible refine Rd.below_step ?_ (by assumption)) | (with_reducible refine Rd.below_alloc ?_ _) | (with_reducible refine Rd.below_drewN ?_ _) | (with_reducible refine Below.drew ?_) | (with_reducible refine Below.setCell ?_ ?_ _) | (with_reducible refine Rd.below_setRow ?_ ?_ _) | go_size | (simp only [World.size_alloc]; omega) | omega)⟩
        case measure => simp [intOf]; omega
      · obtain rfl : k = len0 := by omega
        go_wp2_with (go_at_call 8; refine (awake_any _).mono ?_; rintro e w6 ⟨rfl, hb6⟩; have hs := hb6.size)
        go_ret
        exact ⟨rfl, by repeat' (first | (with_reducible exact Below.refl _ _) | (with_reducible refine Rd.below_step ?_ (by assumption)) | (with_reducible refine Rd.below_alloc ?_ _) | (with_reducible refine Rd.below_drewN ?_ _) | (with_reducible refine Below.drew ?_) | (with_reducible refine Below.setCell ?_ ?_ _) | (with_reducible refine Rd.below_setRow ?_ ?_ _) | go_size | (simp only [World.size_alloc]; omega) | omega)⟩

  · have hno1 : ((len1 : Int) == 0) = false := by simp; omega
    have hno2 : ¬ (len1 : Int) = 0 := by omega
    refine (from_no A4 (0 + 4 * len0 + len1) c4 _ (by omega) (by omega)).mono ?_
    rintro e w5 ⟨rfl, h45⟩
    have hb5 : Below w4.heap.size w4 w5 := by rw [← h45]; exact Below.refl _ _
    clear h45
    have s5 := hb5.size
    have R2 := R2'.below hb5 (Nat.le_refl _)
    have R00 := R0.below hb5 (Nat.le_refl _)
    have L5 : Below w.heap.size w w5 := LW4.trans (hb5.mono (by omega))
    have HR2 := Lib.hid R2
    have HR0 := Lib.hid R00
    clear R2 R00 R2' R0 R4 hb5 LW4
    go_wp2
    go_loopw [10] (fun i wr => ∃ k : Nat, k ≤ len0 ∧ i = .int .i64 k ∧ Below w5.heap.size w5 wr) (fun i _ => len0 - (intOf i).toNat)
    case atStart => exact ⟨0, Nat.zero_le _, rfl, Below.refl _ _⟩
    case round =>
      obtain ⟨k, hk, rfl, hbel⟩ := hrel
      by_cases hlt : k < len0
      · obtain ⟨hl2, hc2⟩ := HR2.out
        obtain ⟨hl0, hc0⟩ := HR0.out
        rcases hc2 with h0 | ⟨b2, o2, rfl, hb2, hc2⟩
        · omega
        rcases hc0 with h0 | ⟨b0, o0, rfl, hb0, hc0⟩
        · omega
        have g4 : (k : Int) < (len0 : Int) := by omega
        have hlz := HZL.out
        have f : ∀ j, j < 4 → wr.cell? ⟨b2, o2 + (k * 4 + j), none⟩ = some (.int .u8 (zs.getD (k * 4 + j) 0)) := fun j hj => by
          rw [hbel.cell (p := ⟨b2, o2 + (k * 4 + j), none⟩) (by exact hb2), hc2 _ (by simp; omega), u8s_at _ _ (by omega)]
        have g : ∀ j, j < 4 → wr.cell? ⟨b0, o0 + (k * 4 + j), none⟩ = some (.int .u8 (zs.getD (k * 4 + j) 0)) := fun j hj => by
          rw [hbel.cell (p := ⟨b0, o0 + (k * 4 + j), none⟩) (by exact hb0), hc0 _ (by simp; omega), u8s_at _ _ (by omega)]
        obtain ⟨x0, x1, x2, x3, f0, f1, f2, f3, g0, g1, g2, g3⟩ : ∃ x0 x1 x2 x3, wr.cell? ⟨b2, o2 + k * 4, none⟩ = some (.int .u8 x0) ∧ wr.cell? ⟨b2, o2 + k * 4 + 1, none⟩ = some (.int .u8 x1) ∧
            wr.cell? ⟨b2, o2 + k * 4 + 2, none⟩ = some (.int .u8 x2) ∧ wr.cell? ⟨b2, o2 + k * 4 + 3, none⟩ = some (.int .u8 x3) ∧ wr.cell? ⟨b0, o0 + k * 4, none⟩ = some (.int .u8 x0) ∧ wr.cell? ⟨b0, o0 + k * 4 + 1, none⟩ = some (.int .u8 x1) ∧
            wr.cell? ⟨b0, o0 + k * 4 + 2, none⟩ = some (.int .u8 x2) ∧ wr.cell? ⟨b0, o0 + k * 4 + 3, none⟩ = some (.int .u8 x3) :=
          ⟨_, _, _, _, f 0 (by omega), by rw [Nat.add_assoc]; exact f 1 (by omega), by rw [Nat.add_assoc]; exact f 2 (by omega), by rw [Nat.add_assoc]; exact f 3 (by omega),
            g 0 (by omega), by rw [Nat.add_assoc]; exact g 1 (by omega), by rw [Nat.add_assoc]; exact g 2 (by omega), by rw [Nat.add_assoc]; exact g 3 (by omega)⟩
        clear f g hc2 hc0 hlz hl2 hl0
        have sr := hbel.size
        go_wp2
        go_quiet (fail)
        go_wp2
        go_roundw
        case rel => exact ⟨k + 1, by omega, by go_num, by repeat' (first | (with_reducible exact Below.refl _ _) | (with_reducible refine Rd.below_step ?_ (by assumption)) | (with_reducible refine Rd.below_alloc ?_ _) | (with_reducible refine Rd.below_drewN ?_ _) | (with_reducible refine Below.drew ?_) | (with_reducible refine Below.setCell ?_ ?_ _) | (with_reducible refine Rd.below_setRow ?_ ?_ _) | go_size | (simp only [World.size_alloc]; omega) | omega)⟩
        case measure => simp [intOf]; omega
      · obtain rfl : k = len0 := by omega
        go_wp2_with (go_at_call 8; refine (awake_any _).mono ?_; rintro e w6 ⟨rfl, hb6⟩; have hs := hb6.size)
        go_ret
        exact ⟨rfl, by repeat' (first | (with_reducible exact Below.refl _ _) | (with_reducible refine Rd.below_step ?_ (by assumption)) | (with_reducible refine Rd.below_alloc ?_ _) | (with_reducible refine Rd.below_drewN ?_ _) | (with_reducible refine Below.drew ?_) | (with_reducible refine Below.setCell ?_ ?_ _) | (with_reducible refine Rd.below_setRow ?_ ?_ _) | go_size | (simp only [World.size_alloc]; omega) | omega)⟩

end Go.Proofs.Ythlgokaehkifkaa.HueK

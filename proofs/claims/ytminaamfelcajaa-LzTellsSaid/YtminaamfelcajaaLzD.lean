/-
  Most; what is fixed: awake.
-/
import Derived.Test.YtminaamfelcajaaLzC
import Derived.Laws.MakeOwn
namespace Go.Proofs.Ytminaamfelcajaa.LzD
open Go.RowKit Rd Go.Proofs.Ytminaamfelcajaa.Row OctA MaA BitB BitD LzM LzA LzB LzC
open MaD (own_bel own_mono)
open MaB (cell_u8)
set_option linter.unusedVariables false
set_option linter.unusedSimpArgs false
set_option maxRecDepth 10000
theorem most_ok (n : Nat) (w : World) (hn : n ≤ 65535) :
    Calls Try.prog 12 #[.int .i64 n] w fun e w' => e = .returned (.int .i64 (((9 * n + 23) / 8 : Nat) : Int)) ∧ w' = w := by
  have d0 : decide ((n : Int) < 0) = false := decide_eq_false (by omega)
  have d1 : decide ((65535 : Int) < (n : Int)) = false := decide_eq_false (by omega)
  have d2 : decide (65535 < n) = false := decide_eq_false (by omega)
  obtain ⟨s, hs⟩ : ∃ s : Nat, 16 + 9 * (n : Int) = s := ⟨16 + 9 * n, by omega⟩
  obtain ⟨t, ht⟩ : ∃ t : Nat, (s : Int) + 7 = t := ⟨s + 7, by omega⟩
  obtain ⟨q, hq⟩ : ∃ q : Nat, (t : Int) / 8 = q := ⟨t / 8, by omega⟩
  have hq2 : (t : Int).tdiv 8 = q := by rw [Int.tdiv_eq_ediv_of_nonneg (by omega)]; exact hq
  have HQ : Hid (q = (9 * n + 23) / 8) := Lib.hid (by omega)
  have ht1 : t ≤ 600000 := by omega
  go_enter Try.func12, Try.ntmps12
  go_wp2
  go_ret
  exact ⟨by rw [← HQ.out]; rfl, rfl⟩
theorem most_lo (n : Int) (w : World) (hn : n < 0) :
    Calls Try.prog 12 #[.int .i64 n] w fun e w' => e = .returned (.int .i64 0) ∧ w' = w := by
  have d0 : decide (n < 0) = true := decide_eq_true hn
  go_enter Try.func12, Try.ntmps12
  go_wp2
  go_ret
  exact ⟨rfl, rfl⟩
theorem str_own {W : World} {B : Nat} {a : Option Addr} {c : Nat} {l : List Int} (h : W.ownsRow B 5 1 (.slice a l.length c) l.length (us l)) (hb : By l) : (convert 22 9 (.slice a l.length c)).run Try.prog W = .ok (.string (bytesOf l)) W :=
  Rd.conv_reads Try.underlying22 Try.underlying5 Try.underlying9 (Reads.of_owns h) hb
/-- 65536 noughts -/
def Z64 : List Int := List.replicate 65536 0
theorem run_make_64k (w : World) : (Instr.makeSlice 22 (.int .i64 65536) (.int .i64 65536)).run Try.prog w = .ok (.slice (some ⟨w.heap.size, 0, none⟩) 65536 65536) (w.alloc (.cells (madeCells #[.int .u8 0] 65536) 5)) := by
  obtain ⟨i, hi, hz, hs, hb⟩ := info_parts BitA.info_u8
  have hr := run_make (P := Try.prog) w 22 5 i (.int .u8 0) Try.underlying22 hi hz .i64 .i64 65536 65536 (by omega) (by omega) (by rw [hb]; omega) (by omega)
  rw [hr, hs]
  rfl
attribute [local go_sem ↓] run_make_64k
abbrev TA : List Int := [97, 97, 97, 97, 97, 97, 97, 97, 97, 97]
theorem ta_len : (pack (packB TA)).length = 6 := by decide +kernel
theorem nil_pack : pack (packB []) = [0, 0] := by decide +kernel
theorem ta_by : By TA := by unfold By TA; decide
theorem ta_un : unL (pack (packB TA)) = some TA := unL_pack ta_by (by decide)
theorem one_un : unL [0] = none := unL_short (by decide +kernel)
set_option maxHeartbeats 4000000 in
theorem awake_any (w : World) :
    Calls Try.prog 7 #[] w fun e w' => e = .returned (.bool true) ∧ Below w.heap.size w w' := by
  go_enter Try.func7, Try.ntmps7
  go_wp2_with fail
  refine (pack_any none 0 [] w ⟨rfl, .inl rfl⟩ (fun z hz => by cases hz) (by decide)).mono ?_
  rintro e W1 ⟨⟨v1, rfl, ho1⟩, hb1⟩
  rw [nil_pack] at ho1
  obtain ⟨a1, c1, rfl, -, -⟩ := owns_val ho1
  have HO1 := Lib.hid ho1
  have HB1 := Lib.hid hb1
  clear ho1 hb1
  have k0 : (W1.alloc (.cells #[.int .u8 97, .int .u8 97, .int .u8 97, .int .u8 97, .int .u8 97, .int .u8 97, .int .u8 97, .int .u8 97, .int .u8 97, .int .u8 97] 5)).heap[W1.heap.size]? = some (.cells #[.int .u8 97, .int .u8 97, .int .u8 97, .int .u8 97, .int .u8 97, .int .u8 97, .int .u8 97, .int .u8 97, .int .u8 97, .int .u8 97] 5 (0, 0)) := World.alloc_heap_new _ _
  obtain ⟨Y, hY, hext⟩ := Pred.run_conv_own (P := Try.prog) (t := 22) (n := 10) (c := 10) Try.underlying22 Try.underlying5 k0
  obtain ⟨fr, h3⟩ := hext.2 _ _ _ _ k0
  have hb0 : Below W1.heap.size W1 Y := ((Below.refl _ W1).alloc (Nat.le_refl _) _).trans hext.1
  have HR : Hid (Reads Y 1 (some ⟨W1.heap.size, 0, none⟩) 10 (us TA)) := Lib.hid ⟨rfl, .inr ⟨_, 0, rfl, blk_lt (show blk Y W1.heap.size = _ from h3), fun i hi => by
    rw [Nat.zero_add, blk_cell (show blk Y W1.heap.size = _ from h3)]
    simp [us]⟩⟩
  have HB2 := Lib.hid (HB1.out.trans (hb0.mono HB1.out.size))
  have HO2 := Lib.hid (own_bel HO1.out hb0)
  clear k0 hext h3 hb0 HO1 HB1
  go_wp2_with fail
  refine (pack_any (some ⟨W1.heap.size, 0, none⟩) 10 TA Y HR.out ta_by (by decide)).mono ?_
  rintro e W3 ⟨⟨v3, rfl, ho3⟩, hb3⟩
  obtain ⟨a3, c3, rfl, -, -⟩ := owns_val ho3
  have HO3 := Lib.hid ho3
  have HP3 := Lib.hid (Reads.of_owns ho3)
  have HO2b := Lib.hid (own_bel HO2.out hb3)
  have HB3 := Lib.hid (HB2.out.trans (hb3.mono HB2.out.size))
  rw [ta_len] at HP3 ⊢
  clear ho3 hb3 HB2 HR hY HO2
  go_wp2_with fail
  refine (unpack_any a3 6 c3 _ W3 HP3.out (pack_b8 (packB_bits _)) (by decide)).mono ?_
  rintro e W4 ⟨hu, hb4⟩
  rcases hu with ⟨b, v4, hb, rfl, ho4⟩ | ⟨hb, -⟩
  rotate_left
  · rw [ta_un] at hb; cases hb
  rw [ta_un] at hb
  cases hb
  obtain ⟨a4, c4, rfl, -, -⟩ := owns_val ho4
  have HO4 := Lib.hid ho4
  have HO2c := Lib.hid (own_bel HO2b.out hb4)
  have HB4 := Lib.hid (HB3.out.trans (hb4.mono HB3.out.size))
  clear ho4 hb4 HB3 HO2b HO3 HP3
  go_wp2_with fail
  refine (unpack_any (some ⟨W4.heap.size, 0, none⟩) 1 1 [0] _ ⟨rfl, .inr ⟨W4.heap.size, 0, rfl, by simp, fun i hi => by
    rw [Nat.zero_add, blk_cell (blk_alloc_at _ _ _ rfl)]
    simp [us]⟩⟩ (by decide) (by decide)).mono ?_
  rintro e W5 ⟨hu, hb5⟩
  rcases hu with ⟨b, v5, hb, -, -⟩ | ⟨-, rfl⟩
  · rw [one_un] at hb; cases hb
  have hb5' : Below W4.heap.size W4 W5 := ((Below.refl _ W4).alloc (Nat.le_refl _) _).trans (hb5.mono (by simp))
  have HO5 := Lib.hid (own_bel HO4.out hb5')
  have HO2d := Lib.hid (own_bel HO2c.out hb5')
  have HB5 := Lib.hid (HB4.out.trans (hb5'.mono HB4.out.size))
  clear hb5 hb5' HB4 HO4 HO2c
  go_wp2_with fail
  refine (pack_long _ 65536 65536 _ (by decide)).mono ?_
  rintro e W6 ⟨rfl, hb6⟩
  have hb6' : Below W5.heap.size W5 W6 := ((Below.refl _ W5).alloc (Nat.le_refl _) _).trans (hb6.mono (by simp))
  have s1 : (convert 22 9 (.slice a1 2 c1)).run Try.prog W6 = .ok (.string ⟨#[0, 0]⟩) W6 := str_own (own_bel HO2d.out hb6') (by unfold By; decide)
  have s2 : (convert 22 9 (.slice a4 10 c4)).run Try.prog W6 = .ok (.string ⟨#[97, 97, 97, 97, 97, 97, 97, 97, 97, 97]⟩) W6 := str_own (own_bel HO5.out hb6') ta_by
  have HB6 := Lib.hid (HB5.out.trans (hb6'.mono HB5.out.size))
  clear hb6 hb6' HB5 HO5 HO2d
  go_wp2_with fail
  refine (most_ok 144 _ (by decide)).mono ?_
  rintro e _ ⟨rfl, rfl⟩
  go_wp2_with fail
  refine (most_lo (-1) _ (by decide)).mono ?_
  rintro e _ ⟨rfl, rfl⟩
  go_wp2
  go_ret
  exact ⟨rfl, HB6.out⟩
end Go.Proofs.Ytminaamfelcajaa.LzD

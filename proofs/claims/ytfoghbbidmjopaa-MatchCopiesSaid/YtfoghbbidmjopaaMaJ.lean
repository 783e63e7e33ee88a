/-
  What is fixed: awake.
-/
import Derived.Test.YtfoghbbidmjopaaMaI
import Derived.Test.YtfoghbbidmjopaaAlike
import Derived.Test.YtfoghbbidmjopaaPred
namespace Go.Proofs.Ytfoghbbidmjopaa.MaJ
open Go.RowKit Go.Shelf Rd Go.Proofs.Ytfoghbbidmjopaa.Row MaM MaA MaB MaC MaD MaE MaF MaG MaI
set_option linter.unusedVariables false
set_option linter.unusedSimpArgs false
set_option maxRecDepth 10000
abbrev AB : List Int := [97, 97, 97, 97, 98, 99, 97, 98, 99]
theorem ab1 : best AB 1 (all AB 1) = (1, 3) := by decide +kernel
theorem ab6 : best AB 6 (all AB 6) = (3, 3) := by decide +kernel
theorem ab4 : best AB 4 (all AB 4) = (0, 0) := by decide +kernel
theorem abl : all AB 1 = [1] := by decide +kernel
theorem ab_by : By AB := by unfold By AB; decide
theorem iv_ints (r : List Nat) : MaH.iv r = Alk.i64s (r.map fun (x : Nat) => (x : Int)) := by simp [MaH.iv, Alk.i64s]
set_option maxHeartbeats 4000000 in
theorem awake_any (w : World) :
    Calls Try.prog 5 #[] w fun e w' => e = .returned (.bool true) ∧ Below w.heap.size w w' := by
  have k0 : (w.alloc (.cells #[.int .u8 97, .int .u8 97, .int .u8 97, .int .u8 97, .int .u8 98, .int .u8 99, .int .u8 97, .int .u8 98, .int .u8 99] 5)).heap[w.heap.size]? = some (.cells #[.int .u8 97, .int .u8 97, .int .u8 97, .int .u8 97, .int .u8 98, .int .u8 99, .int .u8 97, .int .u8 98, .int .u8 99] 5 (0, 0)) := World.alloc_heap_new _ _
  obtain ⟨Y, hY, hext⟩ := Pred.run_conv_own (P := Try.prog) (t := 24) (n := 9) (c := 9) Try.underlying24 Try.underlying5 k0
  obtain ⟨fr, h3⟩ := hext.2 _ _ _ _ k0
  have hb0 : Below w.heap.size w Y := ((Below.refl _ w).alloc (Nat.le_refl _) _).trans hext.1
  have HR : Hid (Reads Y 1 (some ⟨w.heap.size, 0, none⟩) 9 (us AB)) := Lib.hid ⟨rfl, .inr ⟨_, 0, rfl, blk_lt (show blk Y w.heap.size = _ from h3), fun i hi => by
    rw [Nat.zero_add, blk_cell (show blk Y w.heap.size = _ from h3)]
    simp [us]⟩⟩
  have HB0 := Lib.hid hb0
  clear k0 hext h3 hb0
  go_enter Try.func5, Try.ntmps5
  go_wp2_with fail
  refine (new_any (some ⟨w.heap.size, 0, none⟩) 9 AB Y HR.out ab_by (by decide)).mono ?_
  rintro e W1 ⟨f, ba, cb, g, rfl, hst⟩
  have HF := Lib.hid (MaF.St.fx hst)
  have HB1 := Lib.hid (HB0.out.trans (hst.below.mono HB0.out.size))
  clear hst HR HB0 hY
  go_wp2_with fail
  refine (at_le HF.out 1 (by decide) (by decide)).mono ?_
  rintro e W2 ⟨rfl, hb⟩
  rw [ab1]
  have HF2 := Lib.hid (HF.out.bel hb)
  have HB2 := Lib.hid (HB1.out.trans (hb.mono HB1.out.size))
  clear hb HF HB1
  go_wp2_with fail
  refine (at_le HF2.out 6 (by decide) (by decide)).mono ?_
  rintro e W3 ⟨rfl, hb⟩
  rw [ab6]
  have HF3 := Lib.hid (HF2.out.bel hb)
  have HB3 := Lib.hid (HB2.out.trans (hb.mono HB2.out.size))
  clear hb HF2 HB2
  go_wp2_with fail
  refine (at_le HF3.out 4 (by decide) (by decide)).mono ?_
  rintro e W4 ⟨rfl, hb⟩
  rw [ab4]
  have HF4 := Lib.hid (HF3.out.bel hb)
  have HB4 := Lib.hid (HB3.out.trans (hb.mono HB3.out.size))
  clear hb HF3 HB3
  go_wp2_with fail
  refine (at_none (q := none) (kk := 0) (.inl rfl)).mono ?_
  rintro e W5 ⟨rfl, hb⟩
  have HF5 := Lib.hid (HF4.out.bel hb)
  have HB5 := Lib.hid (HB4.out.trans (hb.mono HB4.out.size))
  clear hb HF4 HB4
  go_wp2_with fail
  refine (lall_nil 0 _).mono ?_
  rintro e W6 ⟨⟨a6, c6, rfl⟩, hb⟩
  have HF6 := Lib.hid (HF5.out.bel hb)
  have HB6 := Lib.hid (HB5.out.trans (hb.mono HB5.out.size))
  clear hb HF5 HB5
  go_wp2_with fail
  refine (lall_le HF6.out 1 (by decide) (by decide)).mono ?_
  rintro e W7 ⟨⟨a7, c7, rfl, hr7, -⟩, hb⟩
  rw [abl] at hr7 ⊢
  rw [iv_ints] at hr7
  have HR7 := Lib.hid hr7
  have HB7 := Lib.hid (HB6.out.trans (hb.mono HB6.out.size))
  clear hb HF6 HB6 hr7
  go_wp2_with fail
  refine (Alk.ints_any _ _ _ _ _ _ [1] [1] _ (HR7.out.below ((Below.refl _ _).alloc (Nat.le_refl _) _) (Nat.le_refl _)) ⟨rfl, .inr ⟨W7.heap.size, 0, rfl, by simp, fun i hi => ?_⟩⟩ (by decide) (by decide)).mono ?_
  · rw [Nat.zero_add, blk_cell (blk_alloc_at _ _ _ rfl)]
    simp [Alk.i64s]
  rintro e W8 ⟨rfl, hb⟩
  have HB8 := Lib.hid (HB7.out.trans (((Below.refl _ W7).alloc (Nat.le_refl _) _).trans (hb.mono (by simp)) |>.mono HB7.out.size))
  clear hb HB7 HR7
  go_wp2
  go_ret
  exact ⟨rfl, HB8.out⟩
end Go.Proofs.Ytfoghbbidmjopaa.MaJ

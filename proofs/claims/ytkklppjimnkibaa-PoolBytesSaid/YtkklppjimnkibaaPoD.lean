/-
  wainscotref17: Data, exactly.
-/
import Derived.Test.YtkklppjimnkibaaTwP
import Derived.Test.YtkklppjimnkibaaRfC
namespace Go.Proofs.Ytkklppjimnkibaa.PoD
open Go.RowKit Rd Go.Proofs.Ytkklppjimnkibaa.Row Mid DkM HueA MpM MpA MpB MpC MpD MpE MpF RfA RfB RfC CtA TwA TwP
open Ints (i64s In64)
set_option linter.unusedVariables false
set_option linter.unusedSimpArgs false
set_option maxRecDepth 10000
def dz (n : Nat) : List Int := [(n : Int), (n : Int) / 3, (n : Int) / 7, 2]
def dw (n : Nat) : Bool := ((n : Int) % 2 == 0)
/-- a page's bytes -/
def dataL (n : Nat) : List Int := fb (pageP (paintL (atX (dz n) 0 4) (dz n) 4 16) 0 (dw n) 0 0 0)
abbrev us (l : List Int) : List Value := l.map (Value.int .u8)
def By (l : List Int) : Prop := ∀ z ∈ l, 0 ≤ z ∧ z ≤ 255
theorem us_len (l : List Int) : (us l).length = l.length := by simp [us]
theorem data_len (n : Nat) : (dataL n).length = 144 := by unfold dataL; rw [fb_len, pageP_len]
theorem shade_B (n : Int) : (shadeP n).B := by
  have k1 := Int.emod_nonneg n (b := 16777216) (by omega)
  have k2 := Int.emod_lt_of_pos n (b := 16777216) (by omega)
  unfold shadeP Px.B B8
  simp only
  omega
theorem bits_B (x : Int) : 0 ≤ x % 256 ∧ x % 256 ≤ 255 := by omega
theorem px_B (r : Int) (zs : List Int) (k : Nat) : (pxX r zs 4 k).B := by
  unfold pxX
  split
  · exact shade_B _
  · split
    · exact shade_B _
    · split
      · have h1 := Int.emod_nonneg (k : Int) (b := 4) (by omega)
        have h2 := Int.emod_lt_of_pos (k : Int) (b := 4) (by omega)
        have h3 := bits_B (bits BinOp.xor IntKind.i64 ((k : Int) % (4 : Nat)) ((k / 4 : Nat) : Int))
        unfold Px.B B8
        simp only
        omega
      · exact shade_B _
theorem data_B (n : Nat) : By (dataL n) := by
  unfold dataL
  refine fb_bd (pageP_B ?_ _ _ _)
  intro p hp
  obtain ⟨k, _, rfl⟩ := List.mem_map.1 hp
  exact px_B _ _ _
theorem valid0 : PgM.validB ((0 : Nat) : Int) 0 0 0 = true := by decide
attribute [local go_sem ↓] load_tex store_tex
attribute [local go_sem] one_int one_bool blk_alloc_at blk_alloc_old
set_option maxHeartbeats 4000000 in
theorem data_any (n : Nat) (hn : n ≤ 100000) (w : World) :
    Calls Try.prog 7 #[.int .i64 n] w fun e w' => (∃ v, e = .returned v ∧ w'.ownsRow w.heap.size 5 1 v 144 (us (dataL n))) ∧ Below w.heap.size w w' := by
  have hm : ((n : Int)).tmod 2 = ((n % 2 : Nat) : Int) := by rw [Int.tmod_eq_emod_of_nonneg (by omega)]; omega
  have hq3 : ((n : Int)).tdiv 3 = (n : Int) / 3 := Int.tdiv_eq_ediv_of_nonneg (by omega)
  have hq7 : ((n : Int)).tdiv 7 = (n : Int) / 7 := Int.tdiv_eq_ediv_of_nonneg (by omega)
  have hz : ∀ z ∈ dz n, In64 z := by
    intro z hz
    simp only [dz, List.mem_cons, List.mem_nil_iff, or_false] at hz
    unfold In64
    rcases hz with rfl | rfl | rfl | rfl <;> omega
  have CP := Lib.hid fun (X : World) (g : Nat) (hg : blk X g = some (.cells #[.int .i64 n, .int .i64 ((n : Int) / 3), .int .i64 ((n : Int) / 7), .int .i64 2] 3 (0, 0))) => Paint_x 0 ((n : Int) % 2 == 0) (some ⟨g, 0, none⟩) 4 4 (dz n) X (by omega) (by omega) ⟨rfl, .inr ⟨g, 0, rfl, blk_lt hg, fun i hi => by rw [Nat.zero_add, blk_cell hg]; have : i < 4 := hi; rcases (show i = 0 ∨ i = 1 ∨ i = 2 ∨ i = 3 by omega) with rfl | rfl | rfl | rfl <;> rfl⟩⟩ hz (by omega)
  clear hz
  go_enter Try.func7, Try.ntmps7
  go_wp2_with fail
  refine (CP.out _ w.heap.size (blk_alloc_at _ _ _ rfl)).mono ?_
  rintro e w1 ⟨⟨D, u, ts, hD, hD3, rfl, hts, hRB, hrow⟩, hb1⟩
  obtain rfl : D = 0 := by omega
  have L1 : Below w.heap.size w w1 := by repeat' (first | (with_reducible exact Below.refl _ _) | (with_reducible refine Rd.below_step ?_ (by assumption)) | (with_reducible refine Rd.below_alloc ?_ _) | (with_reducible refine Rd.below_drewN ?_ _) | (with_reducible refine Below.drew ?_) | (with_reducible refine Below.setCell ?_ ?_ _) | (with_reducible refine Rd.below_setRow ?_ ?_ _) | go_size | (simp only [World.size_alloc]; omega) | omega)
  obtain ⟨g, cap, rfl, hg0, hg1, hg2, hg3, hg4⟩ := owns_pos hrow (by decide)
  have hrd := Reads.of_owns hrow
  clear hrow hb1 hg4
  have hts' : ts = paintL (atX (dz n) 0 4) (dz n) 4 16 := hts
  have CB := Lib.hid (RBuild_any (D := 0) (ps := ts) ((n : Int) % 2 == 0) ⟨g, 0, none⟩ (sd 0 * sd 0) cap w1 hrd (by omega) rfl hRB)
  clear hts hrd CP
  go_wp2_with fail
  refine CB.out.mono ?_
  rintro e w2 ⟨⟨b, rfl, hb, hR⟩, hb2⟩
  have L2 := Rd.below_step L1 hb2
  have CC := Lib.hid fun X (hX : Below w2.heap.size w2 X) => RCut_any 0 0 0 X (hR.below hX) valid0
  clear CB hR
  go_wp2_with fail
  refine (CC.out _ (by repeat' (first | (with_reducible exact Below.refl _ _) | (with_reducible refine Rd.below_step ?_ (by assumption)) | (with_reducible refine Rd.below_alloc ?_ _) | (with_reducible refine Rd.below_drewN ?_ _) | (with_reducible refine Below.drew ?_) | (with_reducible refine Below.setCell ?_ ?_ _) | (with_reducible refine Rd.below_setRow ?_ ?_ _) | go_size | (simp only [World.size_alloc]; omega) | omega))).mono ?_
  rintro e w3 ⟨⟨v, rfl, hv⟩, hb3⟩
  have L3 : Below w.heap.size w w3 := Rd.below_step L2 (by repeat' (first | (with_reducible exact Below.refl _ _) | (with_reducible refine Rd.below_step ?_ (by assumption)) | (with_reducible refine Rd.below_alloc ?_ _) | (with_reducible refine Rd.below_drewN ?_ _) | (with_reducible refine Below.drew ?_) | (with_reducible refine Below.setCell ?_ ?_ _) | (with_reducible refine Rd.below_setRow ?_ ?_ _) | go_size | (simp only [World.size_alloc]; omega) | omega))
  have HV : w3.ownsRow w.heap.size 5 1 v 144 (us (dataL n)) := by
    unfold dataL dw
    rw [← hts']
    exact owns_mono hv (by have := L2.size; first | exact this | omega)
  obtain ⟨a9, c9, hv9, _⟩ := owns_val hv
  subst hv9
  clear CC hts' hv
  go_wp2_with fail
  go_ret
  exact ⟨⟨_, rfl, HV⟩, L3⟩
end Go.Proofs.Ytkklppjimnkibaa.PoD

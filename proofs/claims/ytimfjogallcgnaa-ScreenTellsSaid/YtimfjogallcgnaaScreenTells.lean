/-
  ScreenTells: whatever the arguments, the law answers true, and nothing that was there has turned. No condition.
-/
import Derived.Test.YtimfjogallcgnaaRows
import Derived.Test.YtimfjogallcgnaaFlat
import Derived.Test.YtimfjogallcgnaaScWa
import Derived.WalkKit
import Derived.ProofKit
import Derived.OpenShut
import Derived.ChangeOld
import Derived.Below
namespace Go.Proofs.Ytimfjogallcgnaa.screenTells
open Go.ChangeShapes Go.WideShapes Go.ChangeAt Go.RowKit
set_option linter.unusedVariables false
set_option linter.unusedSimpArgs false

theorem own : ownKnob Try.prog.godebug = none := by kernel_rfl
theorem laidOut : laidOutB Try.prog = true := by kernel_rfl

set_option maxRecDepth 100000 in
set_option maxHeartbeats 1000000 in
theorem lifted (os : Os) (started : os.Started) (H : Type) (enc : TypeId × Value → H) :
    ReturnsInHanded {} Try.checked os 3 .any (Rows.screenTellsSpec.pre6 enc Try.prog Try.f3 Rows.screenTellsRow.domain false) (Rows.screenTellsSpec.post enc Try.prog Try.f3 false true false false) := by
  refine returnsInHanded_of_change (C := Try.checked) own started (by kernel_rfl) Try.func3
    (ChangeSpec.witness6 (enc := enc) (C := Try.checked) false ⟨#[], #[.agg #[.int .i64 0, .int .i64 0, .int .i64 0, .int .i64 0, .int .i64 0, .int .i64 0], .int .i64 0, .int .i64 0, .agg #[.int .i64 0, .int .i64 0, .int .i64 0, .int .i64 0, .int .i64 0, .int .i64 0, .int .i64 0, .int .i64 0, .int .i64 0, .int .i64 0, .int .i64 0, .int .i64 0, .int .i64 0, .int .i64 0, .int .i64 0, .int .i64 0], .agg #[.int .i64 0, .int .i64 0, .int .i64 0, .int .i64 0, .int .i64 0, .int .i64 0, .int .i64 0, .int .i64 0, .int .i64 0, .int .i64 0, .int .i64 0, .int .i64 0, .int .i64 0, .int .i64 0, .int .i64 0, .int .i64 0, .int .i64 0, .int .i64 0, .int .i64 0, .int .u8 0, .int .u8 0, .int .u8 0, .int .u8 0]], []⟩ 8 (by kernel_rfl) (by kernel_rfl) (by kernel_rfl) (by kernel_rfl)) ?_
  intro W base args ds gs before hval0 hW hcnd _
  have hval : ∀ (j : Nat) t v, Try.f3.params[j]? = some t → args[j]? = some v → Value.okWide Try.prog W .any base t v := hval0
  have hW' := hW
  obtain ⟨p, q, hA0, hV, rfl, hfz, hnd⟩ := hW
  have hA : DataW.TrodAll enc Try.prog W 0 (fun _ => true) true Try.f3.params.toList args.toList ds p := hA0
  rw [Try.params3] at hA hval
  obtain ⟨v0, vs0, d0, ds0, p0, q0, hargs, rfl, rfl, h0, r0⟩ := trodAll_cons hA
  obtain ⟨v1, vs1, d1, ds1, p1, q1, rfl, rfl, rfl, h1, r1⟩ := trodAll_cons r0
  obtain ⟨v2, vs2, d2, ds2, p2, q2, rfl, rfl, rfl, h2, r2⟩ := trodAll_cons r1
  obtain ⟨v3, vs3, d3, ds3, p3, q3, rfl, rfl, rfl, h3, r3⟩ := trodAll_cons r2
  obtain ⟨v4, vs4, d4, ds4, p4, q4, rfl, rfl, rfl, h4, r4⟩ := trodAll_cons r3
  obtain ⟨rfl, rfl, rfl⟩ := trodAll_nil r4
  obtain rfl : args = #[v0, v1, v2, v3, v4] := by cases args; simp_all
  obtain ⟨rfl, rfl⟩ := trodVars_none hV
  have k0 := h0
  have lt0 : ∀ x ∈ p0, x.block < W.heap.size := by obtain ⟨m, hm⟩ := k0; exact DataW.trod_lt m _ _ _ hm
  obtain ⟨cs0, rfl, ft0⟩ := Flat.open_flat_struct (f := 12) (ks := [some .i64, some .i64, some .i64, some .i64, some .i64, some .i64]) Try.underlying25 (by kernel_rfl) (by kernel_rfl) (hval 0 25 v0 rfl rfl) h0
  obtain ⟨a0_0, cs0x0, rfl, w0_0, ft0x0⟩ := Flat.fits_int ft0
  obtain ⟨a0_1, cs0x1, rfl, w0_1, ft0x1⟩ := Flat.fits_int ft0x0
  obtain ⟨a0_2, cs0x2, rfl, w0_2, ft0x2⟩ := Flat.fits_int ft0x1
  obtain ⟨a0_3, cs0x3, rfl, w0_3, ft0x3⟩ := Flat.fits_int ft0x2
  obtain ⟨a0_4, cs0x4, rfl, w0_4, ft0x4⟩ := Flat.fits_int ft0x3
  obtain ⟨a0_5, cs0x5, rfl, w0_5, ft0x5⟩ := Flat.fits_int ft0x4
  obtain rfl := Flat.fits_nil ft0x5
  obtain ⟨a1, rfl, rfl, rfl, w1⟩ := open_int Try.underlying3 (hval 1 3 v1 rfl rfl) h1
  obtain ⟨a2, rfl, rfl, rfl, w2⟩ := open_int Try.underlying3 (hval 2 3 v2 rfl rfl) h2
  have k3 := h3
  have lt3 : ∀ x ∈ p3, x.block < W.heap.size := by obtain ⟨m, hm⟩ := k3; exact DataW.trod_lt m _ _ _ hm
  obtain ⟨cs3, rfl, ft3⟩ := Flat.open_flat_array (f := 12) (ks := [some .i64, some .i64, some .i64, some .i64, some .i64, some .i64, some .i64, some .i64, some .i64, some .i64, some .i64, some .i64, some .i64, some .i64, some .i64, some .i64]) Try.underlying27 (by kernel_rfl) (by kernel_rfl) (hval 3 27 v3 rfl rfl) h3
  obtain ⟨a3_0, cs3x0, rfl, w3_0, ft3x0⟩ := Flat.fits_int ft3
  obtain ⟨a3_1, cs3x1, rfl, w3_1, ft3x1⟩ := Flat.fits_int ft3x0
  obtain ⟨a3_2, cs3x2, rfl, w3_2, ft3x2⟩ := Flat.fits_int ft3x1
  obtain ⟨a3_3, cs3x3, rfl, w3_3, ft3x3⟩ := Flat.fits_int ft3x2
  obtain ⟨a3_4, cs3x4, rfl, w3_4, ft3x4⟩ := Flat.fits_int ft3x3
  obtain ⟨a3_5, cs3x5, rfl, w3_5, ft3x5⟩ := Flat.fits_int ft3x4
  obtain ⟨a3_6, cs3x6, rfl, w3_6, ft3x6⟩ := Flat.fits_int ft3x5
  obtain ⟨a3_7, cs3x7, rfl, w3_7, ft3x7⟩ := Flat.fits_int ft3x6
  obtain ⟨a3_8, cs3x8, rfl, w3_8, ft3x8⟩ := Flat.fits_int ft3x7
  obtain ⟨a3_9, cs3x9, rfl, w3_9, ft3x9⟩ := Flat.fits_int ft3x8
  obtain ⟨a3_10, cs3x10, rfl, w3_10, ft3x10⟩ := Flat.fits_int ft3x9
  obtain ⟨a3_11, cs3x11, rfl, w3_11, ft3x11⟩ := Flat.fits_int ft3x10
  obtain ⟨a3_12, cs3x12, rfl, w3_12, ft3x12⟩ := Flat.fits_int ft3x11
  obtain ⟨a3_13, cs3x13, rfl, w3_13, ft3x13⟩ := Flat.fits_int ft3x12
  obtain ⟨a3_14, cs3x14, rfl, w3_14, ft3x14⟩ := Flat.fits_int ft3x13
  obtain ⟨a3_15, cs3x15, rfl, w3_15, ft3x15⟩ := Flat.fits_int ft3x14
  obtain rfl := Flat.fits_nil ft3x15
  have k4 := h4
  have lt4 : ∀ x ∈ p4, x.block < W.heap.size := by obtain ⟨m, hm⟩ := k4; exact DataW.trod_lt m _ _ _ hm
  obtain ⟨cs4, rfl, ft4⟩ := Flat.open_flat_struct (f := 12) (ks := [some .i64, some .i64, some .i64, some .i64, some .i64, some .i64, some .i64, some .i64, some .i64, some .i64, some .i64, some .i64, some .i64, some .i64, some .i64, some .i64, some .i64, some .i64, some .i64, some .u8, some .u8, some .u8, some .u8]) Try.underlying31 (by kernel_rfl) (by kernel_rfl) (hval 4 31 v4 rfl rfl) h4
  obtain ⟨a4_0, cs4x0, rfl, w4_0, ft4x0⟩ := Flat.fits_int ft4
  obtain ⟨a4_1, cs4x1, rfl, w4_1, ft4x1⟩ := Flat.fits_int ft4x0
  obtain ⟨a4_2, cs4x2, rfl, w4_2, ft4x2⟩ := Flat.fits_int ft4x1
  obtain ⟨a4_3, cs4x3, rfl, w4_3, ft4x3⟩ := Flat.fits_int ft4x2
  obtain ⟨a4_4, cs4x4, rfl, w4_4, ft4x4⟩ := Flat.fits_int ft4x3
  obtain ⟨a4_5, cs4x5, rfl, w4_5, ft4x5⟩ := Flat.fits_int ft4x4
  obtain ⟨a4_6, cs4x6, rfl, w4_6, ft4x6⟩ := Flat.fits_int ft4x5
  obtain ⟨a4_7, cs4x7, rfl, w4_7, ft4x7⟩ := Flat.fits_int ft4x6
  obtain ⟨a4_8, cs4x8, rfl, w4_8, ft4x8⟩ := Flat.fits_int ft4x7
  obtain ⟨a4_9, cs4x9, rfl, w4_9, ft4x9⟩ := Flat.fits_int ft4x8
  obtain ⟨a4_10, cs4x10, rfl, w4_10, ft4x10⟩ := Flat.fits_int ft4x9
  obtain ⟨a4_11, cs4x11, rfl, w4_11, ft4x11⟩ := Flat.fits_int ft4x10
  obtain ⟨a4_12, cs4x12, rfl, w4_12, ft4x12⟩ := Flat.fits_int ft4x11
  obtain ⟨a4_13, cs4x13, rfl, w4_13, ft4x13⟩ := Flat.fits_int ft4x12
  obtain ⟨a4_14, cs4x14, rfl, w4_14, ft4x14⟩ := Flat.fits_int ft4x13
  obtain ⟨a4_15, cs4x15, rfl, w4_15, ft4x15⟩ := Flat.fits_int ft4x14
  obtain ⟨a4_16, cs4x16, rfl, w4_16, ft4x16⟩ := Flat.fits_int ft4x15
  obtain ⟨a4_17, cs4x17, rfl, w4_17, ft4x17⟩ := Flat.fits_int ft4x16
  obtain ⟨a4_18, cs4x18, rfl, w4_18, ft4x18⟩ := Flat.fits_int ft4x17
  obtain ⟨a4_19, cs4x19, rfl, w4_19, ft4x19⟩ := Flat.fits_int ft4x18
  obtain ⟨a4_20, cs4x20, rfl, w4_20, ft4x20⟩ := Flat.fits_int ft4x19
  obtain ⟨a4_21, cs4x21, rfl, w4_21, ft4x21⟩ := Flat.fits_int ft4x20
  obtain ⟨a4_22, cs4x22, rfl, w4_22, ft4x22⟩ := Flat.fits_int ft4x21
  obtain rfl := Flat.fits_nil ft4x22
  clear hA0 hval0
  refine (ScWa.ScreenTells_walk a0_0 a0_1 a0_2 a0_3 a0_4 a0_5 a1 a2 a3_0 a3_1 a3_2 a3_3 a3_4 a3_5 a3_6 a3_7 a3_8 a3_9 a3_10 a3_11 a3_12 a3_13 a3_14 a3_15 a4_0 a4_1 a4_2 a4_3 a4_4 a4_5 a4_6 a4_7 a4_8 a4_9 a4_10 a4_11 a4_12 a4_13 a4_14 a4_15 a4_16 a4_17 a4_18 a4_19 a4_20 a4_21 a4_22 W w0_0 w0_1 w0_2 w0_3 w0_4 w0_5 w1 w2 w3_0 w3_1 w3_2 w3_3 w3_4 w3_5 w3_6 w3_7 w3_8 w3_9 w3_10 w3_11 w3_12 w3_13 w3_14 w3_15 w4_0 w4_1 w4_2 w4_3 w4_4 w4_5 w4_6 w4_7 w4_8 w4_9 w4_10 w4_11 w4_12 w4_13 w4_14 w4_15 w4_16 w4_17 w4_18 w4_19 w4_20 w4_21 w4_22).mono fun e W' ⟨he, bel⟩ => ?_
  subst he
  exact ⟨_, rfl, _, _, _, [], _, [], hW', trodAll_mk1 (shut_bool Try.underlying4 _), (trodAll_cons_mk (Below.trod laidOut (by kernel_rfl) (of_decide_eq_true (by kernel_rfl)) k0 bel lt0) (trodAll_cons_mk (shut_int Try.underlying3 w1) (trodAll_cons_mk (shut_int Try.underlying3 w2) (trodAll_cons_mk (Below.trod laidOut (by kernel_rfl) (of_decide_eq_true (by kernel_rfl)) k3 bel lt3) (trodAll_cons_mk (Below.trod laidOut (by kernel_rfl) (of_decide_eq_true (by kernel_rfl)) k4 bel lt4) trodAll_mk0))))), rfl, bel.frame _, fun h => by cases h⟩

theorem over : Rows.screenTellsRow.holds Try.pinned (OpenSpec.ofChange Rows.screenTellsSpec) :=
  OpenClaim.holds_of_wide 3 Try.f3 rfl rfl rfl rfl rfl rfl rfl ⟨rfl, rfl, rfl, rfl, rfl⟩ rfl rfl rfl rfl rfl (by kernel_rfl) Try.func3 (by kernel_rfl)
    (of_decide_eq_true (by kernel_rfl)) (by unfold Func.isWrapper; first | (rw [if_pos (by decide +kernel)]; kernel_rfl) | (rw [if_neg (by decide +kernel)]; exact ⟨rfl, rfl⟩))
    (fun os started H enc _ => lifted os started H enc)

theorem proved : Rows.ScreenTellsSaid := over
#print axioms proved
end Go.Proofs.Ytimfjogallcgnaa.screenTells

/-
  ScreenWithin: whatever the arguments, the law answers true, and nothing that was there has turned. No condition.
-/
import Derived.Test.YtimfjogallcgnaaRows
import Derived.Test.YtimfjogallcgnaaFlat
import Derived.Test.YtimfjogallcgnaaScWb
import Derived.WalkKit
import Derived.ProofKit
import Derived.OpenShut
import Derived.ChangeOld
import Derived.Below
namespace Go.Proofs.Ytimfjogallcgnaa.screenWithin
open Go.ChangeShapes Go.WideShapes Go.ChangeAt Go.RowKit
set_option linter.unusedVariables false
set_option linter.unusedSimpArgs false

theorem own : ownKnob Try.prog.godebug = none := by kernel_rfl
theorem laidOut : laidOutB Try.prog = true := by kernel_rfl

set_option maxRecDepth 100000 in
set_option maxHeartbeats 1000000 in
theorem lifted (os : Os) (started : os.Started) (H : Type) (enc : TypeId × Value → H) :
    ReturnsInHanded {} Try.checked os 4 .any (Rows.screenWithinSpec.pre6 enc Try.prog Try.f4 Rows.screenWithinRow.domain false) (Rows.screenWithinSpec.post enc Try.prog Try.f4 false true false false) := by
  refine returnsInHanded_of_change (C := Try.checked) own started (by kernel_rfl) Try.func4
    (ChangeSpec.witness6 (enc := enc) (C := Try.checked) false ⟨#[], #[.agg #[.int .i64 0, .int .i64 0, .int .i64 0, .int .i64 0, .int .i64 0, .int .i64 0, .int .i64 0, .int .i64 0, .int .i64 0, .int .i64 0, .int .i64 0, .int .i64 0, .int .i64 0, .int .i64 0, .int .i64 0, .int .i64 0], .agg #[.int .i64 0, .int .i64 0, .int .i64 0, .int .i64 0, .int .i64 0, .int .i64 0, .int .i64 0, .int .i64 0, .int .i64 0, .int .i64 0, .int .i64 0, .int .i64 0, .int .i64 0, .int .i64 0, .int .i64 0, .int .i64 0, .int .i64 0, .int .i64 0, .int .i64 0, .int .u8 0, .int .u8 0, .int .u8 0, .int .u8 0], .int .i64 0, .int .i64 0], []⟩ 8 (by kernel_rfl) (by kernel_rfl) (by kernel_rfl) (by kernel_rfl)) ?_
  intro W base args ds gs before hval0 hW hcnd _
  have hval : ∀ (j : Nat) t v, Try.f4.params[j]? = some t → args[j]? = some v → Value.okWide Try.prog W .any base t v := hval0
  have hW' := hW
  obtain ⟨p, q, hA0, hV, rfl, hfz, hnd⟩ := hW
  have hA : DataW.TrodAll enc Try.prog W 0 (fun _ => true) true Try.f4.params.toList args.toList ds p := hA0
  rw [Try.params4] at hA hval
  obtain ⟨v0, vs0, d0, ds0, p0, q0, hargs, rfl, rfl, h0, r0⟩ := trodAll_cons hA
  obtain ⟨v1, vs1, d1, ds1, p1, q1, rfl, rfl, rfl, h1, r1⟩ := trodAll_cons r0
  obtain ⟨v2, vs2, d2, ds2, p2, q2, rfl, rfl, rfl, h2, r2⟩ := trodAll_cons r1
  obtain ⟨v3, vs3, d3, ds3, p3, q3, rfl, rfl, rfl, h3, r3⟩ := trodAll_cons r2
  obtain ⟨rfl, rfl, rfl⟩ := trodAll_nil r3
  obtain rfl : args = #[v0, v1, v2, v3] := by cases args; simp_all
  obtain ⟨rfl, rfl⟩ := trodVars_none hV
  have k0 := h0
  have lt0 : ∀ x ∈ p0, x.block < W.heap.size := by obtain ⟨m, hm⟩ := k0; exact DataW.trod_lt m _ _ _ hm
  obtain ⟨cs0, rfl, ft0⟩ := Flat.open_flat_array (f := 12) (ks := [some .i64, some .i64, some .i64, some .i64, some .i64, some .i64, some .i64, some .i64, some .i64, some .i64, some .i64, some .i64, some .i64, some .i64, some .i64, some .i64]) Try.underlying27 (by kernel_rfl) (by kernel_rfl) (hval 0 27 v0 rfl rfl) h0
  obtain ⟨a0_0, cs0x0, rfl, w0_0, ft0x0⟩ := Flat.fits_int ft0
  obtain ⟨a0_1, cs0x1, rfl, w0_1, ft0x1⟩ := Flat.fits_int ft0x0
  obtain ⟨a0_2, cs0x2, rfl, w0_2, ft0x2⟩ := Flat.fits_int ft0x1
  obtain ⟨a0_3, cs0x3, rfl, w0_3, ft0x3⟩ := Flat.fits_int ft0x2
  obtain ⟨a0_4, cs0x4, rfl, w0_4, ft0x4⟩ := Flat.fits_int ft0x3
  obtain ⟨a0_5, cs0x5, rfl, w0_5, ft0x5⟩ := Flat.fits_int ft0x4
  obtain ⟨a0_6, cs0x6, rfl, w0_6, ft0x6⟩ := Flat.fits_int ft0x5
  obtain ⟨a0_7, cs0x7, rfl, w0_7, ft0x7⟩ := Flat.fits_int ft0x6
  obtain ⟨a0_8, cs0x8, rfl, w0_8, ft0x8⟩ := Flat.fits_int ft0x7
  obtain ⟨a0_9, cs0x9, rfl, w0_9, ft0x9⟩ := Flat.fits_int ft0x8
  obtain ⟨a0_10, cs0x10, rfl, w0_10, ft0x10⟩ := Flat.fits_int ft0x9
  obtain ⟨a0_11, cs0x11, rfl, w0_11, ft0x11⟩ := Flat.fits_int ft0x10
  obtain ⟨a0_12, cs0x12, rfl, w0_12, ft0x12⟩ := Flat.fits_int ft0x11
  obtain ⟨a0_13, cs0x13, rfl, w0_13, ft0x13⟩ := Flat.fits_int ft0x12
  obtain ⟨a0_14, cs0x14, rfl, w0_14, ft0x14⟩ := Flat.fits_int ft0x13
  obtain ⟨a0_15, cs0x15, rfl, w0_15, ft0x15⟩ := Flat.fits_int ft0x14
  obtain rfl := Flat.fits_nil ft0x15
  have k1 := h1
  have lt1 : ∀ x ∈ p1, x.block < W.heap.size := by obtain ⟨m, hm⟩ := k1; exact DataW.trod_lt m _ _ _ hm
  obtain ⟨cs1, rfl, ft1⟩ := Flat.open_flat_struct (f := 12) (ks := [some .i64, some .i64, some .i64, some .i64, some .i64, some .i64, some .i64, some .i64, some .i64, some .i64, some .i64, some .i64, some .i64, some .i64, some .i64, some .i64, some .i64, some .i64, some .i64, some .u8, some .u8, some .u8, some .u8]) Try.underlying31 (by kernel_rfl) (by kernel_rfl) (hval 1 31 v1 rfl rfl) h1
  obtain ⟨a1_0, cs1x0, rfl, w1_0, ft1x0⟩ := Flat.fits_int ft1
  obtain ⟨a1_1, cs1x1, rfl, w1_1, ft1x1⟩ := Flat.fits_int ft1x0
  obtain ⟨a1_2, cs1x2, rfl, w1_2, ft1x2⟩ := Flat.fits_int ft1x1
  obtain ⟨a1_3, cs1x3, rfl, w1_3, ft1x3⟩ := Flat.fits_int ft1x2
  obtain ⟨a1_4, cs1x4, rfl, w1_4, ft1x4⟩ := Flat.fits_int ft1x3
  obtain ⟨a1_5, cs1x5, rfl, w1_5, ft1x5⟩ := Flat.fits_int ft1x4
  obtain ⟨a1_6, cs1x6, rfl, w1_6, ft1x6⟩ := Flat.fits_int ft1x5
  obtain ⟨a1_7, cs1x7, rfl, w1_7, ft1x7⟩ := Flat.fits_int ft1x6
  obtain ⟨a1_8, cs1x8, rfl, w1_8, ft1x8⟩ := Flat.fits_int ft1x7
  obtain ⟨a1_9, cs1x9, rfl, w1_9, ft1x9⟩ := Flat.fits_int ft1x8
  obtain ⟨a1_10, cs1x10, rfl, w1_10, ft1x10⟩ := Flat.fits_int ft1x9
  obtain ⟨a1_11, cs1x11, rfl, w1_11, ft1x11⟩ := Flat.fits_int ft1x10
  obtain ⟨a1_12, cs1x12, rfl, w1_12, ft1x12⟩ := Flat.fits_int ft1x11
  obtain ⟨a1_13, cs1x13, rfl, w1_13, ft1x13⟩ := Flat.fits_int ft1x12
  obtain ⟨a1_14, cs1x14, rfl, w1_14, ft1x14⟩ := Flat.fits_int ft1x13
  obtain ⟨a1_15, cs1x15, rfl, w1_15, ft1x15⟩ := Flat.fits_int ft1x14
  obtain ⟨a1_16, cs1x16, rfl, w1_16, ft1x16⟩ := Flat.fits_int ft1x15
  obtain ⟨a1_17, cs1x17, rfl, w1_17, ft1x17⟩ := Flat.fits_int ft1x16
  obtain ⟨a1_18, cs1x18, rfl, w1_18, ft1x18⟩ := Flat.fits_int ft1x17
  obtain ⟨a1_19, cs1x19, rfl, w1_19, ft1x19⟩ := Flat.fits_int ft1x18
  obtain ⟨a1_20, cs1x20, rfl, w1_20, ft1x20⟩ := Flat.fits_int ft1x19
  obtain ⟨a1_21, cs1x21, rfl, w1_21, ft1x21⟩ := Flat.fits_int ft1x20
  obtain ⟨a1_22, cs1x22, rfl, w1_22, ft1x22⟩ := Flat.fits_int ft1x21
  obtain rfl := Flat.fits_nil ft1x22
  obtain ⟨a2, rfl, rfl, rfl, w2⟩ := open_int Try.underlying3 (hval 2 3 v2 rfl rfl) h2
  obtain ⟨a3, rfl, rfl, rfl, w3⟩ := open_int Try.underlying3 (hval 3 3 v3 rfl rfl) h3
  clear hA0 hval0
  refine (ScWb.ScreenWithin_walk a0_0 a0_1 a0_2 a0_3 a0_4 a0_5 a0_6 a0_7 a0_8 a0_9 a0_10 a0_11 a0_12 a0_13 a0_14 a0_15 a1_0 a1_1 a1_2 a1_3 a1_4 a1_5 a1_6 a1_7 a1_8 a1_9 a1_10 a1_11 a1_12 a1_13 a1_14 a1_15 a1_16 a1_17 a1_18 a1_19 a1_20 a1_21 a1_22 a2 a3 W w0_0 w0_1 w0_2 w0_3 w0_4 w0_5 w0_6 w0_7 w0_8 w0_9 w0_10 w0_11 w0_12 w0_13 w0_14 w0_15 w1_0 w1_1 w1_2 w1_3 w1_4 w1_5 w1_6 w1_7 w1_8 w1_9 w1_10 w1_11 w1_12 w1_13 w1_14 w1_15 w1_16 w1_17 w1_18 w1_19 w1_20 w1_21 w1_22 w2 w3).mono fun e W' ⟨he, bel⟩ => ?_
  subst he
  exact ⟨_, rfl, _, _, _, [], _, [], hW', trodAll_mk1 (shut_bool Try.underlying4 _), (trodAll_cons_mk (Below.trod laidOut (by kernel_rfl) (of_decide_eq_true (by kernel_rfl)) k0 bel lt0) (trodAll_cons_mk (Below.trod laidOut (by kernel_rfl) (of_decide_eq_true (by kernel_rfl)) k1 bel lt1) (trodAll_cons_mk (shut_int Try.underlying3 w2) (trodAll_cons_mk (shut_int Try.underlying3 w3) trodAll_mk0)))), rfl, bel.frame _, fun h => by cases h⟩

theorem over : Rows.screenWithinRow.holds Try.pinned (OpenSpec.ofChange Rows.screenWithinSpec) :=
  OpenClaim.holds_of_wide 4 Try.f4 rfl rfl rfl rfl rfl rfl rfl ⟨rfl, rfl, rfl, rfl, rfl⟩ rfl rfl rfl rfl rfl (by kernel_rfl) Try.func4 (by kernel_rfl)
    (of_decide_eq_true (by kernel_rfl)) (by unfold Func.isWrapper; first | (rw [if_pos (by decide +kernel)]; kernel_rfl) | (rw [if_neg (by decide +kernel)]; exact ⟨rfl, rfl⟩))
    (fun os started H enc _ => lifted os started H enc)

theorem proved : Rows.ScreenWithinSaid := over
#print axioms proved
end Go.Proofs.Ytimfjogallcgnaa.screenWithin

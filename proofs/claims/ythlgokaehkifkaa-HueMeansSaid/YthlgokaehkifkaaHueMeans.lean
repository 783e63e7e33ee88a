/-
  HueMeans: whatever the arguments, the law answers true, and nothing that was there has turned. No condition.
-/
import Derived.Test.YthlgokaehkifkaaRows
import Derived.Test.YthlgokaehkifkaaFlat
import Derived.Test.YthlgokaehkifkaaHueG
import Derived.WalkKit
import Derived.ProofKit
import Derived.OpenShut
import Derived.ChangeOld
import Derived.Below
namespace Go.Proofs.Ythlgokaehkifkaa.hueMeans
open Go.ChangeShapes Go.WideShapes Go.ChangeAt Go.RowKit
set_option linter.unusedVariables false
set_option linter.unusedSimpArgs false

theorem own : ownKnob Try.prog.godebug = none := by kernel_rfl
theorem laidOut : laidOutB Try.prog = true := by kernel_rfl

set_option maxRecDepth 100000 in
set_option maxHeartbeats 1000000 in
theorem lifted (os : Os) (started : os.Started) (H : Type) (enc : TypeId × Value → H) :
    ReturnsInHanded {} Try.checked os 7 .any (Rows.hueMeansSpec.pre6 enc Try.prog Try.f7 Rows.hueMeansRow.domain false) (Rows.hueMeansSpec.post enc Try.prog Try.f7 false true false false) := by
  refine returnsInHanded_of_change (C := Try.checked) own started (by kernel_rfl) Try.func7
    (ChangeSpec.witness6 (enc := enc) (C := Try.checked) false ⟨#[], #[.agg #[.int .u8 0, .int .u8 0, .int .u8 0, .int .u8 0, .int .u8 0, .int .u8 0, .int .u8 0, .int .u8 0, .int .u8 0, .int .u8 0, .int .u8 0, .int .u8 0, .int .u8 0, .int .u8 0, .int .u8 0, .int .u8 0], .int .u8 0], []⟩ 8 (by kernel_rfl) (by kernel_rfl) (by kernel_rfl) (by kernel_rfl)) ?_
  intro W base args ds gs before hval0 hW hcnd _
  have hval : ∀ (j : Nat) t v, Try.f7.params[j]? = some t → args[j]? = some v → Value.okWide Try.prog W .any base t v := hval0
  have hW' := hW
  obtain ⟨p, q, hA0, hV, rfl, hfz, hnd⟩ := hW
  have hA : DataW.TrodAll enc Try.prog W 0 (fun _ => true) true Try.f7.params.toList args.toList ds p := hA0
  rw [Try.params7] at hA hval
  obtain ⟨v0, vs0, d0, ds0, p0, q0, hargs, rfl, rfl, h0, r0⟩ := trodAll_cons hA
  obtain ⟨v1, vs1, d1, ds1, p1, q1, rfl, rfl, rfl, h1, r1⟩ := trodAll_cons r0
  obtain ⟨rfl, rfl, rfl⟩ := trodAll_nil r1
  obtain rfl : args = #[v0, v1] := by cases args; simp_all
  obtain ⟨rfl, rfl⟩ := trodVars_none hV
  have k0 := h0
  have lt0 : ∀ x ∈ p0, x.block < W.heap.size := by obtain ⟨m, hm⟩ := k0; exact DataW.trod_lt m _ _ _ hm
  obtain ⟨cs0, rfl, ft0⟩ := Flat.open_flat_array (f := 12) (ks := [some .u8, some .u8, some .u8, some .u8, some .u8, some .u8, some .u8, some .u8, some .u8, some .u8, some .u8, some .u8, some .u8, some .u8, some .u8, some .u8]) Try.underlying37 (by kernel_rfl) (by kernel_rfl) (hval 0 37 v0 rfl rfl) h0
  obtain ⟨a0_0, cs0, rfl, w0_0, ft0⟩ := Flat.fits_int ft0
  obtain ⟨a0_1, cs0, rfl, w0_1, ft0⟩ := Flat.fits_int ft0
  obtain ⟨a0_2, cs0, rfl, w0_2, ft0⟩ := Flat.fits_int ft0
  obtain ⟨a0_3, cs0, rfl, w0_3, ft0⟩ := Flat.fits_int ft0
  obtain ⟨a0_4, cs0, rfl, w0_4, ft0⟩ := Flat.fits_int ft0
  obtain ⟨a0_5, cs0, rfl, w0_5, ft0⟩ := Flat.fits_int ft0
  obtain ⟨a0_6, cs0, rfl, w0_6, ft0⟩ := Flat.fits_int ft0
  obtain ⟨a0_7, cs0, rfl, w0_7, ft0⟩ := Flat.fits_int ft0
  obtain ⟨a0_8, cs0, rfl, w0_8, ft0⟩ := Flat.fits_int ft0
  obtain ⟨a0_9, cs0, rfl, w0_9, ft0⟩ := Flat.fits_int ft0
  obtain ⟨a0_10, cs0, rfl, w0_10, ft0⟩ := Flat.fits_int ft0
  obtain ⟨a0_11, cs0, rfl, w0_11, ft0⟩ := Flat.fits_int ft0
  obtain ⟨a0_12, cs0, rfl, w0_12, ft0⟩ := Flat.fits_int ft0
  obtain ⟨a0_13, cs0, rfl, w0_13, ft0⟩ := Flat.fits_int ft0
  obtain ⟨a0_14, cs0, rfl, w0_14, ft0⟩ := Flat.fits_int ft0
  obtain ⟨a0_15, cs0, rfl, w0_15, ft0⟩ := Flat.fits_int ft0
  obtain rfl := Flat.fits_nil ft0
  obtain ⟨a1, rfl, rfl, rfl, w1⟩ := open_int Try.underlying5 (hval 1 5 v1 rfl rfl) h1
  clear hA0 hval0
  refine (HueG.HueMeans_walk a0_0 a0_1 a0_2 a0_3 a0_4 a0_5 a0_6 a0_7 a0_8 a0_9 a0_10 a0_11 a0_12 a0_13 a0_14 a0_15 a1 W w0_0 w0_1 w0_2 w0_3 w0_4 w0_5 w0_6 w0_7 w0_8 w0_9 w0_10 w0_11 w0_12 w0_13 w0_14 w0_15 w1).mono fun e W' ⟨he, bel⟩ => ?_
  subst he
  exact ⟨_, rfl, _, _, _, [], _, [], hW', trodAll_mk1 (shut_bool Try.underlying4 _), (trodAll_cons_mk (Below.trod laidOut (by kernel_rfl) (of_decide_eq_true (by kernel_rfl)) k0 bel lt0) (trodAll_cons_mk (shut_int Try.underlying5 w1) trodAll_mk0)), rfl, bel.frame _, fun h => by cases h⟩

theorem over : Rows.hueMeansRow.holds Try.pinned (OpenSpec.ofChange Rows.hueMeansSpec) :=
  OpenClaim.holds_of_wide 7 Try.f7 rfl rfl rfl rfl rfl rfl rfl ⟨rfl, rfl, rfl, rfl, rfl⟩ rfl rfl rfl rfl rfl (by kernel_rfl) Try.func7 (by kernel_rfl)
    (of_decide_eq_true (by kernel_rfl)) (by unfold Func.isWrapper; first | (rw [if_pos (by decide +kernel)]; kernel_rfl) | (rw [if_neg (by decide +kernel)]; exact ⟨rfl, rfl⟩))
    (fun os started H enc _ => lifted os started H enc)

theorem proved : Rows.HueMeansSaid := over
#print axioms proved
end Go.Proofs.Ythlgokaehkifkaa.hueMeans

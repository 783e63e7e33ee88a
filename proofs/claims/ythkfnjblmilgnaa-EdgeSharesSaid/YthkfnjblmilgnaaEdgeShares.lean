/-
  EdgeShares: whatever the arguments, the law answers true, and nothing that was there has turned. No condition.
-/
import Derived.Test.YthkfnjblmilgnaaRows
import Derived.Test.YthkfnjblmilgnaaFlat
import Derived.Test.YthkfnjblmilgnaaEdWb
import Derived.WalkKit
import Derived.ProofKit
import Derived.OpenShut
import Derived.ChangeOld
import Derived.Below
namespace Go.Proofs.Ythkfnjblmilgnaa.edgeShares
open Go.ChangeShapes Go.WideShapes Go.ChangeAt Go.RowKit
set_option linter.unusedVariables false
set_option linter.unusedSimpArgs false

theorem own : ownKnob Try.prog.godebug = none := by kernel_rfl
theorem laidOut : laidOutB Try.prog = true := by kernel_rfl

set_option maxRecDepth 100000 in
set_option maxHeartbeats 1000000 in
theorem lifted (os : Os) (started : os.Started) (H : Type) (enc : TypeId × Value → H) :
    ReturnsInHanded {} Try.checked os 4 .any (Rows.edgeSharesSpec.pre6 enc Try.prog Try.f4 Rows.edgeSharesRow.domain false) (Rows.edgeSharesSpec.post enc Try.prog Try.f4 false true false false) := by
  refine returnsInHanded_of_change (C := Try.checked) own started (by kernel_rfl) Try.func4
    (ChangeSpec.witness6 (enc := enc) (C := Try.checked) false ⟨#[], #[.agg #[.int .i64 0, .int .i64 0, .int .i64 0, .int .i64 0, .int .i64 0, .int .i64 0], .agg #[.int .i64 0, .int .i64 0, .int .i64 0, .int .i64 0, .int .i64 0, .int .i64 0], .agg #[.int .i64 0, .int .i64 0, .int .i64 0, .int .i64 0, .int .i64 0, .int .i64 0], .agg #[.int .i64 0, .int .i64 0, .int .i64 0, .int .i64 0, .int .i64 0, .int .i64 0]], []⟩ 8 (by kernel_rfl) (by kernel_rfl) (by kernel_rfl) (by kernel_rfl)) ?_
  intro W base args ds gs before hval0 hW hcnd _
  have hval : ∀ (j : Nat) t v, Try.f4.params[j]? = some t → args[j]? = some v → Value.okWide Try.prog W .any base t v := hval0
  have hW' := hW
  obtain ⟨p, q, hA0, hV, rfl, hfz, hnd⟩ := hW
  have hA : DataW.TrodAll enc Try.prog W 0 (fun _ => true) true Try.f4.params.toList args.toList ds p := hA0
  rw [Try.params4] at hA hval
  obtain ⟨v0, vs0, d0, ds0, p0, q0, hargs, rfl, rfl, h0, r0⟩ := trodAll_cons hA
  obtain ⟨v1, vs1, d1, ds1, p1, q1, rfl, rfl, rfl, h1, r1⟩ := trodAll_cons r0
  obtain ⟨v2, vs2, d2, ds2, p2, q2, rfl, rfl, rfl, h2, r2⟩ := trodAll_cons r1
  obtain ⟨v3, vs3, d3, ds3, p3, q3, rfl, rfl, rfl, h3, r3⟩ := trodAll_cons r2
  obtain ⟨rfl, rfl, rfl⟩ := trodAll_nil r3
  obtain rfl : args = #[v0, v1, v2, v3] := by cases args; simp_all
  obtain ⟨rfl, rfl⟩ := trodVars_none hV
  have k0 := h0
  have lt0 : ∀ x ∈ p0, x.block < W.heap.size := by obtain ⟨m, hm⟩ := k0; exact DataW.trod_lt m _ _ _ hm
  obtain ⟨cs0, rfl, ft0⟩ := Flat.open_flat_struct (f := 12) (ks := [some .i64, some .i64, some .i64, some .i64, some .i64, some .i64]) Try.underlying23 (by kernel_rfl) (by kernel_rfl) (hval 0 23 v0 rfl rfl) h0
  obtain ⟨a0_0, cs0x0, rfl, w0_0, ft0x0⟩ := Flat.fits_int ft0
  obtain ⟨a0_1, cs0x1, rfl, w0_1, ft0x1⟩ := Flat.fits_int ft0x0
  obtain ⟨a0_2, cs0x2, rfl, w0_2, ft0x2⟩ := Flat.fits_int ft0x1
  obtain ⟨a0_3, cs0x3, rfl, w0_3, ft0x3⟩ := Flat.fits_int ft0x2
  obtain ⟨a0_4, cs0x4, rfl, w0_4, ft0x4⟩ := Flat.fits_int ft0x3
  obtain ⟨a0_5, cs0x5, rfl, w0_5, ft0x5⟩ := Flat.fits_int ft0x4
  obtain rfl := Flat.fits_nil ft0x5
  have k1 := h1
  have lt1 : ∀ x ∈ p1, x.block < W.heap.size := by obtain ⟨m, hm⟩ := k1; exact DataW.trod_lt m _ _ _ hm
  obtain ⟨cs1, rfl, ft1⟩ := Flat.open_flat_struct (f := 12) (ks := [some .i64, some .i64, some .i64, some .i64, some .i64, some .i64]) Try.underlying23 (by kernel_rfl) (by kernel_rfl) (hval 1 23 v1 rfl rfl) h1
  obtain ⟨a1_0, cs1x0, rfl, w1_0, ft1x0⟩ := Flat.fits_int ft1
  obtain ⟨a1_1, cs1x1, rfl, w1_1, ft1x1⟩ := Flat.fits_int ft1x0
  obtain ⟨a1_2, cs1x2, rfl, w1_2, ft1x2⟩ := Flat.fits_int ft1x1
  obtain ⟨a1_3, cs1x3, rfl, w1_3, ft1x3⟩ := Flat.fits_int ft1x2
  obtain ⟨a1_4, cs1x4, rfl, w1_4, ft1x4⟩ := Flat.fits_int ft1x3
  obtain ⟨a1_5, cs1x5, rfl, w1_5, ft1x5⟩ := Flat.fits_int ft1x4
  obtain rfl := Flat.fits_nil ft1x5
  have k2 := h2
  have lt2 : ∀ x ∈ p2, x.block < W.heap.size := by obtain ⟨m, hm⟩ := k2; exact DataW.trod_lt m _ _ _ hm
  obtain ⟨cs2, rfl, ft2⟩ := Flat.open_flat_struct (f := 12) (ks := [some .i64, some .i64, some .i64, some .i64, some .i64, some .i64]) Try.underlying23 (by kernel_rfl) (by kernel_rfl) (hval 2 23 v2 rfl rfl) h2
  obtain ⟨a2_0, cs2x0, rfl, w2_0, ft2x0⟩ := Flat.fits_int ft2
  obtain ⟨a2_1, cs2x1, rfl, w2_1, ft2x1⟩ := Flat.fits_int ft2x0
  obtain ⟨a2_2, cs2x2, rfl, w2_2, ft2x2⟩ := Flat.fits_int ft2x1
  obtain ⟨a2_3, cs2x3, rfl, w2_3, ft2x3⟩ := Flat.fits_int ft2x2
  obtain ⟨a2_4, cs2x4, rfl, w2_4, ft2x4⟩ := Flat.fits_int ft2x3
  obtain ⟨a2_5, cs2x5, rfl, w2_5, ft2x5⟩ := Flat.fits_int ft2x4
  obtain rfl := Flat.fits_nil ft2x5
  have k3 := h3
  have lt3 : ∀ x ∈ p3, x.block < W.heap.size := by obtain ⟨m, hm⟩ := k3; exact DataW.trod_lt m _ _ _ hm
  obtain ⟨cs3, rfl, ft3⟩ := Flat.open_flat_struct (f := 12) (ks := [some .i64, some .i64, some .i64, some .i64, some .i64, some .i64]) Try.underlying23 (by kernel_rfl) (by kernel_rfl) (hval 3 23 v3 rfl rfl) h3
  obtain ⟨a3_0, cs3x0, rfl, w3_0, ft3x0⟩ := Flat.fits_int ft3
  obtain ⟨a3_1, cs3x1, rfl, w3_1, ft3x1⟩ := Flat.fits_int ft3x0
  obtain ⟨a3_2, cs3x2, rfl, w3_2, ft3x2⟩ := Flat.fits_int ft3x1
  obtain ⟨a3_3, cs3x3, rfl, w3_3, ft3x3⟩ := Flat.fits_int ft3x2
  obtain ⟨a3_4, cs3x4, rfl, w3_4, ft3x4⟩ := Flat.fits_int ft3x3
  obtain ⟨a3_5, cs3x5, rfl, w3_5, ft3x5⟩ := Flat.fits_int ft3x4
  obtain rfl := Flat.fits_nil ft3x5
  clear hA0 hval0
  refine (EdWb.EdgeShares_walk a0_0 a0_1 a0_2 a0_3 a0_4 a0_5 a1_0 a1_1 a1_2 a1_3 a1_4 a1_5 a2_0 a2_1 a2_2 a2_3 a2_4 a2_5 a3_0 a3_1 a3_2 a3_3 a3_4 a3_5 W w0_0 w0_1 w0_2 w0_3 w0_4 w0_5 w1_0 w1_1 w1_2 w1_3 w1_4 w1_5 w2_0 w2_1 w2_2 w2_3 w2_4 w2_5 w3_0 w3_1 w3_2 w3_3 w3_4 w3_5).mono fun e W' ⟨he, bel⟩ => ?_
  subst he
  exact ⟨_, rfl, _, _, _, [], _, [], hW', trodAll_mk1 (shut_bool Try.underlying4 _), (trodAll_cons_mk (Below.trod laidOut (by kernel_rfl) (of_decide_eq_true (by kernel_rfl)) k0 bel lt0) (trodAll_cons_mk (Below.trod laidOut (by kernel_rfl) (of_decide_eq_true (by kernel_rfl)) k1 bel lt1) (trodAll_cons_mk (Below.trod laidOut (by kernel_rfl) (of_decide_eq_true (by kernel_rfl)) k2 bel lt2) (trodAll_cons_mk (Below.trod laidOut (by kernel_rfl) (of_decide_eq_true (by kernel_rfl)) k3 bel lt3) trodAll_mk0)))), rfl, bel.frame _, fun h => by cases h⟩

theorem over : Rows.edgeSharesRow.holds Try.pinned (OpenSpec.ofChange Rows.edgeSharesSpec) :=
  OpenClaim.holds_of_wide 4 Try.f4 rfl rfl rfl rfl rfl rfl rfl ⟨rfl, rfl, rfl, rfl, rfl⟩ rfl rfl rfl rfl rfl (by kernel_rfl) Try.func4 (by kernel_rfl)
    (of_decide_eq_true (by kernel_rfl)) (by unfold Func.isWrapper; first | (rw [if_pos (by decide +kernel)]; kernel_rfl) | (rw [if_neg (by decide +kernel)]; exact ⟨rfl, rfl⟩))
    (fun os started H enc _ => lifted os started H enc)

theorem proved : Rows.EdgeSharesSaid := over
#print axioms proved
end Go.Proofs.Ythkfnjblmilgnaa.edgeShares

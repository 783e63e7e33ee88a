/-
  EdgeTells: whatever the arguments, the law answers true, and nothing that was there has turned. No condition.
-/
import Derived.Test.YthkfnjblmilgnaaRows
import Derived.Test.YthkfnjblmilgnaaFlat
import Derived.Test.YthkfnjblmilgnaaEdWf
import Derived.WalkKit
import Derived.ProofKit
import Derived.OpenShut
import Derived.ChangeOld
import Derived.Below
namespace Go.Proofs.Ythkfnjblmilgnaa.edgeTells
open Go.ChangeShapes Go.WideShapes Go.ChangeAt Go.RowKit
set_option linter.unusedVariables false
set_option linter.unusedSimpArgs false

theorem own : ownKnob Try.prog.godebug = none := by kernel_rfl
theorem laidOut : laidOutB Try.prog = true := by kernel_rfl

set_option maxRecDepth 100000 in
set_option maxHeartbeats 1000000 in
theorem lifted (os : Os) (started : os.Started) (H : Type) (enc : TypeId × Value → H) :
    ReturnsInHanded {} Try.checked os 3 .any (Rows.edgeTellsSpec.pre6 enc Try.prog Try.f3 Rows.edgeTellsRow.domain false) (Rows.edgeTellsSpec.post enc Try.prog Try.f3 false true false false) := by
  refine returnsInHanded_of_change (C := Try.checked) own started (by kernel_rfl) Try.func3
    (ChangeSpec.witness6 (enc := enc) (C := Try.checked) false ⟨#[], #[.agg #[.int .i64 0, .int .i64 0, .int .i64 0, .int .i64 0, .int .i64 0, .int .i64 0, .int .i64 0, .int .i64 0, .int .i64 0, .int .i64 0, .int .i64 0, .int .i64 0, .int .i64 0, .int .i64 0, .int .i64 0, .int .i64 0, .int .i64 0, .int .i64 0], .int .i64 0, .int .i64 0, .int .i64 0, .int .i64 0, .int .i64 0], []⟩ 8 (by kernel_rfl) (by kernel_rfl) (by kernel_rfl) (by kernel_rfl)) ?_
  intro W base args ds gs before hval0 hW hcnd _
  have hval : ∀ (j : Nat) t v, Try.f3.params[j]? = some t → args[j]? = some v → Value.okWide Try.prog W .any base t v := hval0
  have hW' := hW
  obtain ⟨p, q, hA0, hV, rfl, hfz, hnd⟩ := hW
  have hA : DataW.TrodAll enc Try.prog W 0 (fun _ => true) true Try.f3.params.toList args.toList ds p := hA0
  rw [Try.params3] at hA hval
  obtain ⟨v0, vs0, d0, ds0, p0, q0, hargs, rfl, rfl, h0, r0⟩ := trodAll_cons hA
  obtain ⟨v1, vs1, d1, ds1, p1, q1, rfl, rfl, rfl, h1, r1⟩ := trodAll_cons r0
  obtain ⟨v2, vs2, d2, ds2, p2, q2, rfl, rfl, rfl, h2, r2⟩ := trodAll_cons r1
  obtain ⟨v3, vs3, d3, ds3, p3, q3, rfl, rfl, rfl, h3, r3⟩ := trodAll_cons r2
  obtain ⟨v4, vs4, d4, ds4, p4, q4, rfl, rfl, rfl, h4, r4⟩ := trodAll_cons r3
  obtain ⟨v5, vs5, d5, ds5, p5, q5, rfl, rfl, rfl, h5, r5⟩ := trodAll_cons r4
  obtain ⟨rfl, rfl, rfl⟩ := trodAll_nil r5
  obtain rfl : args = #[v0, v1, v2, v3, v4, v5] := by cases args; simp_all
  obtain ⟨rfl, rfl⟩ := trodVars_none hV
  have k0 := h0
  have lt0 : ∀ x ∈ p0, x.block < W.heap.size := by obtain ⟨m, hm⟩ := k0; exact DataW.trod_lt m _ _ _ hm
  obtain ⟨cs0, rfl, ft0⟩ := Flat.open_flat_array (f := 12) (ks := [some .i64, some .i64, some .i64, some .i64, some .i64, some .i64, some .i64, some .i64, some .i64, some .i64, some .i64, some .i64, some .i64, some .i64, some .i64, some .i64, some .i64, some .i64]) Try.underlying24 (by kernel_rfl) (by kernel_rfl) (hval 0 24 v0 rfl rfl) h0
  obtain ⟨a0_0, cs0x0, rfl, w0_0, ft0x0⟩ := Flat.fits_int ft0
  obtain ⟨a0_1, cs0x1, rfl, w0_1, ft0x1⟩ := Flat.fits_int ft0x0
  obtain ⟨a0_2, cs0x2, rfl, w0_2, ft0x2⟩ := Flat.fits_int ft0x1
  obtain ⟨a0_3, cs0x3, rfl, w0_3, ft0x3⟩ := Flat.fits_int ft0x2
  obtain ⟨a0_4, cs0x4, rfl, w0_4, ft0x4⟩ := Flat.fits_int ft0x3
  obtain ⟨a0_5, cs0x5, rfl, w0_5, ft0x5⟩ := Flat.fits_int ft0x4
  obtain ⟨a0_6, cs0x6, rfl, w0_6, ft0x6⟩ := Flat.fits_int ft0x5
  obtain ⟨a0_7, cs0x7, rfl, w0_7, ft0x7⟩ := Flat.fits_int ft0x6
  obtain ⟨a0_8, cs0x8, rfl, w0_8, ft0x8⟩ := Flat.fits_int ft0x7
  obtain ⟨a0_9, cs0x9, rfl, w0_9, ft0x9⟩ := Flat.fits_int ft0x8
  obtain ⟨a0_10, cs0x10, rfl, w0_10, ft0x10⟩ := Flat.fits_int ft0x9
  obtain ⟨a0_11, cs0x11, rfl, w0_11, ft0x11⟩ := Flat.fits_int ft0x10
  obtain ⟨a0_12, cs0x12, rfl, w0_12, ft0x12⟩ := Flat.fits_int ft0x11
  obtain ⟨a0_13, cs0x13, rfl, w0_13, ft0x13⟩ := Flat.fits_int ft0x12
  obtain ⟨a0_14, cs0x14, rfl, w0_14, ft0x14⟩ := Flat.fits_int ft0x13
  obtain ⟨a0_15, cs0x15, rfl, w0_15, ft0x15⟩ := Flat.fits_int ft0x14
  obtain ⟨a0_16, cs0x16, rfl, w0_16, ft0x16⟩ := Flat.fits_int ft0x15
  obtain ⟨a0_17, cs0x17, rfl, w0_17, ft0x17⟩ := Flat.fits_int ft0x16
  obtain rfl := Flat.fits_nil ft0x17
  obtain ⟨a1, rfl, rfl, rfl, w1⟩ := open_int Try.underlying3 (hval 1 3 v1 rfl rfl) h1
  obtain ⟨a2, rfl, rfl, rfl, w2⟩ := open_int Try.underlying3 (hval 2 3 v2 rfl rfl) h2
  obtain ⟨a3, rfl, rfl, rfl, w3⟩ := open_int Try.underlying3 (hval 3 3 v3 rfl rfl) h3
  obtain ⟨a4, rfl, rfl, rfl, w4⟩ := open_int Try.underlying3 (hval 4 3 v4 rfl rfl) h4
  obtain ⟨a5, rfl, rfl, rfl, w5⟩ := open_int Try.underlying3 (hval 5 3 v5 rfl rfl) h5
  clear hA0 hval0
  refine (EdWf.EdgeTells_walk a0_0 a0_1 a0_2 a0_3 a0_4 a0_5 a0_6 a0_7 a0_8 a0_9 a0_10 a0_11 a0_12 a0_13 a0_14 a0_15 a0_16 a0_17 a1 a2 a3 a4 a5 W w0_0 w0_1 w0_2 w0_3 w0_4 w0_5 w0_6 w0_7 w0_8 w0_9 w0_10 w0_11 w0_12 w0_13 w0_14 w0_15 w0_16 w0_17 w1 w2 w3 w4 w5).mono fun e W' ⟨he, bel⟩ => ?_
  subst he
  exact ⟨_, rfl, _, _, _, [], _, [], hW', trodAll_mk1 (shut_bool Try.underlying4 _), (trodAll_cons_mk (Below.trod laidOut (by kernel_rfl) (of_decide_eq_true (by kernel_rfl)) k0 bel lt0) (trodAll_cons_mk (shut_int Try.underlying3 w1) (trodAll_cons_mk (shut_int Try.underlying3 w2) (trodAll_cons_mk (shut_int Try.underlying3 w3) (trodAll_cons_mk (shut_int Try.underlying3 w4) (trodAll_cons_mk (shut_int Try.underlying3 w5) trodAll_mk0)))))), rfl, bel.frame _, fun h => by cases h⟩

theorem over : Rows.edgeTellsRow.holds Try.pinned (OpenSpec.ofChange Rows.edgeTellsSpec) :=
  OpenClaim.holds_of_wide 3 Try.f3 rfl rfl rfl rfl rfl rfl rfl ⟨rfl, rfl, rfl, rfl, rfl⟩ rfl rfl rfl rfl rfl (by kernel_rfl) Try.func3 (by kernel_rfl)
    (of_decide_eq_true (by kernel_rfl)) (by unfold Func.isWrapper; first | (rw [if_pos (by decide +kernel)]; kernel_rfl) | (rw [if_neg (by decide +kernel)]; exact ⟨rfl, rfl⟩))
    (fun os started H enc _ => lifted os started H enc)

theorem proved : Rows.EdgeTellsSaid := over
#print axioms proved
end Go.Proofs.Ythkfnjblmilgnaa.edgeTells

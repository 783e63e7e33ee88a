/-
  What the document fixes.
-/
import Derived.Test.YtbbkdjpdifkadaaClG
import Derived.Test.YtbbkdjpdifkadaaClI
import Derived.Test.YtbbkdjpdifkadaaPred
namespace Go.Proofs.Ytbbkdjpdifkadaa.ClJ
open Go.RowKit FixA Num Rd Go.Proofs.Ytbbkdjpdifkadaa.Row Mid ClM ClA ClB ClC ClD ClE ClF
open Go.Proofs.Ytbbkdjpdifkadaa.Pred (Is is_stab Stab)
set_option linter.unusedVariables false
set_option linter.unusedSimpArgs false
set_option maxRecDepth 10000
def vA : List Int := [0, 0, 0, 65536, 0, 0]
def vB : List Int := [131072, 0, 0, 65536, 100, 0]
def vC : List Int := [65536, 0, 0, 65536, 50, 0]
def vD : List Int := [0, 65536, 0, 65536, 0, 0]
def vE : List Int := [65536, 32768, 0, 65536, 50, 0]
theorem cut_ab : cutV vA vB 2 = vC := by decide +kernel
theorem poly4 : polyV [vA, vB, vD] = [vA, vC, vE, vD] := by decide +kernel
theorem poly3 : polyV [vA, vD, vC] = [vA, vD, vC] := by decide +kernel
theorem poly2 : polyV [vA, vB] = [] := by decide +kernel
theorem vxA : Vx vA := by constructor <;> decide
theorem vxB : Vx vB := by constructor <;> decide
theorem vxC : Vx vC := by constructor <;> decide
theorem vxD : Vx vD := by constructor <;> decide
theorem vr_abd : VxR [vA, vB, vD] := by
  intro v hv
  simp only [List.mem_cons, List.not_mem_nil, or_false] at hv
  rcases hv with rfl | rfl | rfl
  · exact vxA
  · exact vxB
  · exact vxD
theorem vr_adc : VxR [vA, vD, vC] := by
  intro v hv
  simp only [List.mem_cons, List.not_mem_nil, or_false] at hv
  rcases hv with rfl | rfl | rfl
  · exact vxA
  · exact vxD
  · exact vxC
theorem vr_ab : VxR [vA, vB] := by
  intro v hv
  simp only [List.mem_cons, List.not_mem_nil, or_false] at hv
  rcases hv with rfl | rfl
  · exact vxA
  · exact vxB
theorem ins0 : insV vA 0 = 65280 := by decide
theorem ins2 : insV vB 2 = -65536 := by decide
theorem ins7 : insV vA 7 = 0 := by decide
/-- a slice that reads as this row -/
def VR (n : Nat) (r : ClM.Row) : Value → World → Prop := fun v X => ∃ a c, v = .slice a n c ∧ RowAt X a r
theorem cell_ext {B : Nat} {w w' : World} (h : Pred.Ext B w w') {b o : Nat} {v : Value} (hc : w.cell? ⟨b, o, none⟩ = some v) : w'.cell? ⟨b, o, none⟩ = some v ∧ b < w'.heap.size := by
  unfold World.cell? at hc ⊢
  simp only at hc ⊢
  cases hb : w.heap[b]? with
  | none => rw [hb] at hc; cases hc
  | some ob =>
    rw [hb] at hc
    cases ob with
    | cells c t fr =>
      obtain ⟨fr', h2⟩ := h.2 b c t fr hb
      rw [h2]
      refine ⟨hc, ?_⟩
      rcases Nat.lt_or_ge b w'.heap.size with h3 | h3
      · exact h3
      · rw [Array.getElem?_eq_none h3] at h2; cases h2
    | _ => simp at hc
theorem vr_stab (n : Nat) (r : ClM.Row) : Stab (VR n r) := by
  intro v w w' B ⟨a, c, h1, h2, h3⟩ hb
  refine ⟨a, c, h1, h2, ?_⟩
  rcases h3 with h3 | ⟨b, o, e, hlt, hc⟩
  · exact Or.inl h3
  · by_cases h0 : r = []
    · exact Or.inl h0
    · have hl : 0 < r.length := List.length_pos_iff.2 h0
      exact Or.inr ⟨b, o, e, (cell_ext hb (hc 0 hl 0 (by omega))).2, fun i hi j hj => (cell_ext hb (hc i hi j hj)).1⟩
theorem rowAt_blk {W : World} {g : Nat} {r : ClM.Row} {C : Array Value} {t : TypeId} {fr : Nat × Nat} (h : blk W g = some (.cells C t fr)) (hC : C = (fl r).toArray) (hr : ∀ v ∈ r, v.length = 6) : RowAt W (some ⟨g, 0, none⟩) r := by
  refine ⟨hr, Or.inr ⟨g, 0, rfl, blk_lt h, fun i hi j hj => ?_⟩⟩
  subst hC
  rw [blk_cell h, Nat.zero_add]
  have := fl_at hr i hi j hj
  simpa using this
theorem pc6 (a b c d e f : Value) : Mid.piece #[a, b, c, d, e, f] 0 6 = #[a, b, c, d, e, f] := rfl
theorem pc4 (a b c d e f : Value) : Mid.piece #[a, b, c, d, e, f] 0 4 = #[a, b, c, d] := rfl
attribute [local go_sem] pc6 pc4
attribute [local go_sem ↓] load_vec load_vx store_vx
attribute [local go_sem] one_int run_load_vec run_load_vx run_store_vx rowLoad_eq rowStore_eq midLoad_eq pc_vec pc_vx blk_alloc_at blk_alloc_old blk_drew blk_drewN blk_set_far blk_set_far' blk_grow setRow_alloc_at setRow_alloc_old setRow_drew setRow_drewN
set_option maxHeartbeats 2000000 in
theorem awake_any (w : World) : Calls Try.prog 8 #[] w fun e w' => e = .returned (.bool true) ∧ Below w.heap.size w w' := by
  go_enter Try.func8, Try.ntmps8
  go_wp2_with fail
  refine (cut_any vA vB vxA vxB 2 _).mono ?_
  rintro e w1 ⟨he, hb1⟩
  rw [cut_ab] at he
  subst he
  have hs1 := hb1.size
  simp only [World.size_alloc] at hs1
  have bA1 : blk w1 w.heap.size = some (.cells #[.int .i64 0, .int .i64 0, .int .i64 0, .int .i64 65536, .int .i64 0, .int .i64 0] 28 (0, 0)) := (blk_below hb1 _ (by simp; omega)).trans (blk2_0 _ _ _)
  have bB1 : blk w1 (w.heap.size + 1) = some (.cells #[.int .i64 131072, .int .i64 0, .int .i64 0, .int .i64 65536, .int .i64 100, .int .i64 0] 28 (0, 0)) := (blk_below hb1 _ (by simp)).trans (blk2_1 _ _ _)
  have L1 : Below w.heap.size w w1 := by repeat' (first | (with_reducible exact Below.refl _ _) | (with_reducible refine Rd.below_step ?_ (by assumption)) | (with_reducible refine Rd.below_alloc ?_ _) | (with_reducible refine Rd.below_drewN ?_ _) | (with_reducible refine Below.drew ?_) | (with_reducible refine Below.setCell ?_ ?_ _) | (with_reducible refine Rd.below_setRow ?_ ?_ _) | go_size | (simp only [World.size_alloc]; omega) | omega)
  have lA1 := blk_lt bA1
  have lB1 := blk_lt bB1
  clear hb1
  go_upto_region 4 with (fail)
  refine Rd.name_world ?_
  intro w2 hw
  have bA2 : blk w2 w.heap.size = some (.cells #[.int .i64 0, .int .i64 0, .int .i64 0, .int .i64 65536, .int .i64 0, .int .i64 0] 28 (0, 0)) := by rw [hw]; exact (blk_alloc_old _ _ _ (by simp; omega)).trans ((blk_alloc_old _ _ _ (by omega)).trans bA1)
  have bB2 : blk w2 (w.heap.size + 1) = some (.cells #[.int .i64 131072, .int .i64 0, .int .i64 0, .int .i64 65536, .int .i64 100, .int .i64 0] 28 (0, 0)) := by rw [hw]; exact (blk_alloc_old _ _ _ (by simp; omega)).trans ((blk_alloc_old _ _ _ (by omega)).trans bB1)
  have bC2 : blk w2 w1.heap.size = some (.cells #[.int .i64 65536, .int .i64 0, .int .i64 0, .int .i64 65536, .int .i64 50, .int .i64 0] 28 (0, 0)) := by rw [hw]; exact blk2_0 _ _ _
  have bD2 : blk w2 (w1.heap.size + 1) = some (.cells #[.int .i64 0, .int .i64 65536, .int .i64 0, .int .i64 65536, .int .i64 0, .int .i64 0] 28 (0, 0)) := by rw [hw]; exact blk2_1 _ _ _
  have L2 : Below w.heap.size w w2 := by
    rw [hw]
    repeat' (first | (with_reducible exact Below.refl _ _) | (with_reducible refine Rd.below_step ?_ (by assumption)) | (with_reducible refine Rd.below_alloc ?_ _) | (with_reducible refine Rd.below_drewN ?_ _) | (with_reducible refine Below.drew ?_) | (with_reducible refine Below.setCell ?_ ?_ _) | (with_reducible refine Rd.below_setRow ?_ ?_ _) | go_size | (simp only [World.size_alloc]; omega) | omega)
  have lA2 := blk_lt bA2
  have lB2 := blk_lt bB2
  have lC2 := blk_lt bC2
  have lD2 := blk_lt bD2
  clear hw bA1 bB1 lA1 lB1
  go_wp2_with fail
  refine (polygon_any [vA, vB, vD] _ _ _ (rowAt_blk (blk_alloc_at _ _ _ rfl) rfl (by decide)) vr_abd (by decide)).mono ?_
  rintro e w3 ⟨⟨ad5, c5, he, hr5⟩, hb3⟩
  rw [poly4] at he hr5
  subst he
  have hs3 := hb3.size
  simp only [World.size_alloc] at hs3
  have bA : blk w3 w.heap.size = some (.cells #[.int .i64 0, .int .i64 0, .int .i64 0, .int .i64 65536, .int .i64 0, .int .i64 0] 28 (0, 0)) := (blk_below hb3 _ (by simp; omega)).trans ((blk_alloc_old _ _ _ lA2).trans bA2)
  have bB : blk w3 (w.heap.size + 1) = some (.cells #[.int .i64 131072, .int .i64 0, .int .i64 0, .int .i64 65536, .int .i64 100, .int .i64 0] 28 (0, 0)) := (blk_below hb3 _ (by simp; omega)).trans ((blk_alloc_old _ _ _ lB2).trans bB2)
  have bC : blk w3 w1.heap.size = some (.cells #[.int .i64 65536, .int .i64 0, .int .i64 0, .int .i64 65536, .int .i64 50, .int .i64 0] 28 (0, 0)) := (blk_below hb3 _ (by simp; omega)).trans ((blk_alloc_old _ _ _ lC2).trans bC2)
  have bD : blk w3 (w1.heap.size + 1) = some (.cells #[.int .i64 0, .int .i64 65536, .int .i64 0, .int .i64 65536, .int .i64 0, .int .i64 0] 28 (0, 0)) := (blk_below hb3 _ (by simp; omega)).trans ((blk_alloc_old _ _ _ lD2).trans bD2)
  have L3 : Below w.heap.size w w3 := by repeat' (first | (with_reducible exact Below.refl _ _) | (with_reducible refine Rd.below_step ?_ (by assumption)) | (with_reducible refine Rd.below_alloc ?_ _) | (with_reducible refine Rd.below_drewN ?_ _) | (with_reducible refine Below.drew ?_) | (with_reducible refine Below.setCell ?_ ?_ _) | (with_reducible refine Rd.below_setRow ?_ ?_ _) | go_size | (simp only [World.size_alloc]; omega) | omega)
  have lA := blk_lt bA
  have lB := blk_lt bB
  have lC := blk_lt bC
  have lD := blk_lt bD
  have H5 := Lib.hid hr5
  clear hb3 hr5 bA2 bB2 bC2 bD2
  go_upto_region 5 with (fail)
  refine Pred.region_vals (Pred.Of [
      Is (.pointer (some ⟨w.heap.size, 0, none⟩)),
      Is (.agg #[.int .i64 0, .int .i64 0, .int .i64 0, .int .i64 65536]),
      Is (.int .i64 (65280)),
      Is (.bool true),
      Is (.bool true),
      Is (.pointer (some ⟨(w.heap.size + 1), 0, none⟩)),
      Is (.agg #[.int .i64 131072, .int .i64 0, .int .i64 0, .int .i64 65536]),
      Is (.int .i64 (-65536)),
      Is (.bool true),
      Is (.bool true),
      Is (.bool true),
      Is (.pointer (some ⟨w.heap.size, 0, none⟩)),
      Is (.agg #[.int .i64 0, .int .i64 0, .int .i64 0, .int .i64 65536]),
      Is (.int .i64 (0)),
      Is (.bool true),
      Is (.bool true),
      Is (.bool true),
      Is (.pointer (some ⟨w1.heap.size, 0, none⟩)),
      Is (.pointer (some ⟨w1.heap.size, 0, none⟩)),
      Is (.int .i64 65536),
      Is (.bool true),
      Is (.bool true),
      Is (.bool true),
      Is (.pointer (some ⟨w1.heap.size, 4, none⟩)),
      Is (.int .i64 50),
      Is (.bool true),
      Is (.bool true),
      Is (.bool true),
      Is (.slice ad5 4 c5),
      Is (.int .i64 4),
      Is (.bool true),
      Is (.bool true),
      Is (.bool true),
      Is (.agg #[.int .i64 0, .int .i64 0, .int .i64 0, .int .i64 65536, .int .i64 0, .int .i64 0]),
      Is (.agg #[.int .i64 0, .int .i64 65536, .int .i64 0, .int .i64 65536, .int .i64 0, .int .i64 0]),
      Is (.agg #[.int .i64 65536, .int .i64 0, .int .i64 0, .int .i64 65536, .int .i64 50, .int .i64 0]),
      VR 3 [vA, vD, vC],
      VR 3 [vA, vD, vC],
      Is (.agg #[.int .i64 0, .int .i64 0, .int .i64 0, .int .i64 65536, .int .i64 0, .int .i64 0]),
      Is (.agg #[.int .i64 0, .int .i64 65536, .int .i64 0, .int .i64 65536, .int .i64 0, .int .i64 0]),
      Is (.agg #[.int .i64 65536, .int .i64 0, .int .i64 0, .int .i64 65536, .int .i64 50, .int .i64 0]),
      VR 3 [vA, vD, vC],
      Is (.bool true),
      Is (.bool true),
      Is (.bool true),
      Is (.agg #[.int .i64 0, .int .i64 0, .int .i64 0, .int .i64 65536, .int .i64 0, .int .i64 0]),
      Is (.agg #[.int .i64 131072, .int .i64 0, .int .i64 0, .int .i64 65536, .int .i64 100, .int .i64 0]),
      VR 2 [vA, vB],
      VR 0 [],
      Is (.int .i64 0),
      Is (.bool true),
      Is (.bool true),
      Is (.bool true)]) (by kernel_rfl) (by kernel_rfl) (by kernel_rfl) (Pred.of_stab ?_) ?_ ?_
  · exact ⟨is_stab _, is_stab _, is_stab _, is_stab _, is_stab _, is_stab _, is_stab _, is_stab _, is_stab _, is_stab _, is_stab _, is_stab _, is_stab _, is_stab _, is_stab _, is_stab _, is_stab _, is_stab _, is_stab _, is_stab _, is_stab _, is_stab _, is_stab _, is_stab _, is_stab _, is_stab _, is_stab _, is_stab _, is_stab _, is_stab _, is_stab _, is_stab _, is_stab _, is_stab _, is_stab _, is_stab _, vr_stab _ _, vr_stab _ _, is_stab _, is_stab _, is_stab _, vr_stab _ _, is_stab _, is_stab _, is_stab _, is_stab _, is_stab _, vr_stab _ _, vr_stab _ _, is_stab _, is_stab _, is_stab _, is_stab _, trivial⟩
  · refine ⟨?_, ?_, ?_, ?_, ?_, ?_, ?_, ?_, ?_, ?_, ?_, ?_, ?_, ?_, ?_, ?_, ?_, ?_, ?_, ?_, ?_, ?_, ?_, ?_, ?_, ?_, ?_, ?_, ?_, ?_, ?_, ?_, ?_, ?_, ?_, ?_, ?_, ?_, ?_, ?_, ?_, ?_, ?_, ?_, ?_, ?_, ?_, ?_, ?_, ?_, ?_, ?_, ?_, trivial⟩
    · intro b X hE hd hn hV
      have r1 : b.tmps[1]?.getD undef = .pointer (some ⟨w.heap.size, 0, none⟩) := (hn 1 (by kernel_rfl)).trans rfl
      exact Pred.yields_run (v := .pointer (some ⟨w.heap.size, 0, none⟩)) (Pred.wanted_none rfl) (by go_simp) ⟨Pred.ext_refl _ _, rfl⟩
    · intro b X hE hd hn hV
      have r20 : b.tmps[20]?.getD undef = .pointer (some ⟨w.heap.size, 0, none⟩) := hV 0 _ 20 rfl rfl (Pred.waits_near (by kernel_rfl) (by kernel_rfl))
      have q := (blk_below hE _ lA).trans bA
      exact Pred.yields_run (v := .agg #[.int .i64 0, .int .i64 0, .int .i64 0, .int .i64 65536]) (Pred.wanted_none rfl) (by go_simp) ⟨Pred.ext_refl _ _, rfl⟩
    · intro b X hE hd hn hV
      have r21 : b.tmps[21]?.getD undef = .agg #[.int .i64 0, .int .i64 0, .int .i64 0, .int .i64 65536] := hV 1 _ 21 rfl rfl (Pred.waits_near (by kernel_rfl) (by kernel_rfl))
      refine Pred.yields_call (f := 9) (args := #[.agg #[.int .i64 0, .int .i64 0, .int .i64 0, .int .i64 65536], .int .i64 0]) (Pred.wanted_none rfl) (by go_simp) ?_
      exact (inside_v vxA 0 _).mono fun e w2 ⟨he, hb⟩ => ⟨.int .i64 (65280), he.trans (by rw [ins0]), Pred.ext_below hb hE.size, rfl⟩
    · intro b X hE hd hn hV
      have r22 : b.tmps[22]?.getD undef = .int .i64 (65280) := hV 2 _ 22 rfl rfl (Pred.waits_near (by kernel_rfl) (by kernel_rfl))
      exact Pred.yields_run (v := .bool true) (Pred.wanted_none rfl) (by go_simp) ⟨Pred.ext_refl _ _, rfl⟩
    · intro b X hE hd hn hV
      have r23 : b.tmps[23]?.getD undef = .bool true := hV 3 _ 23 rfl rfl (Pred.waits_near (by kernel_rfl) (by kernel_rfl))
      exact Pred.yields_run (v := .bool true) (Pred.wanted_none rfl) (by go_simp) ⟨Pred.ext_refl _ _, rfl⟩
    · intro b X hE hd hn hV
      have r2 : b.tmps[2]?.getD undef = .pointer (some ⟨(w.heap.size + 1), 0, none⟩) := (hn 2 (by kernel_rfl)).trans rfl
      have r24 : b.tmps[24]?.getD undef = .bool true := hV 4 _ 24 rfl rfl (Pred.waits_near (by kernel_rfl) (by kernel_rfl))
      exact Pred.yields_run (v := .pointer (some ⟨(w.heap.size + 1), 0, none⟩)) ((Pred.wanted_at (g := 4) (d := 24) (f := true) rfl rfl r24).trans rfl) (by go_simp) ⟨Pred.ext_refl _ _, rfl⟩
    · intro b X hE hd hn hV
      have r25 : b.tmps[25]?.getD undef = .pointer (some ⟨(w.heap.size + 1), 0, none⟩) := hV 5 _ 25 rfl rfl (Pred.waits_near (by kernel_rfl) (by kernel_rfl))
      have r24 : b.tmps[24]?.getD undef = .bool true := hV 4 _ 24 rfl rfl (Pred.waits_near (by kernel_rfl) (by kernel_rfl))
      have q := (blk_below hE _ lB).trans bB
      exact Pred.yields_run (v := .agg #[.int .i64 131072, .int .i64 0, .int .i64 0, .int .i64 65536]) ((Pred.wanted_at (g := 4) (d := 24) (f := true) rfl rfl r24).trans rfl) (by go_simp) ⟨Pred.ext_refl _ _, rfl⟩
    · intro b X hE hd hn hV
      have r26 : b.tmps[26]?.getD undef = .agg #[.int .i64 131072, .int .i64 0, .int .i64 0, .int .i64 65536] := hV 6 _ 26 rfl rfl (Pred.waits_near (by kernel_rfl) (by kernel_rfl))
      have r24 : b.tmps[24]?.getD undef = .bool true := hV 4 _ 24 rfl rfl (Pred.waits_near (by kernel_rfl) (by kernel_rfl))
      refine Pred.yields_call (f := 9) (args := #[.agg #[.int .i64 131072, .int .i64 0, .int .i64 0, .int .i64 65536], .int .i64 2]) ((Pred.wanted_at (g := 4) (d := 24) (f := true) rfl rfl r24).trans rfl) (by go_simp) ?_
      exact (inside_v vxB 2 _).mono fun e w2 ⟨he, hb⟩ => ⟨.int .i64 (-65536), he.trans (by rw [ins2]), Pred.ext_below hb hE.size, rfl⟩
    · intro b X hE hd hn hV
      have r27 : b.tmps[27]?.getD undef = .int .i64 (-65536) := hV 7 _ 27 rfl rfl (Pred.waits_near (by kernel_rfl) (by kernel_rfl))
      have r24 : b.tmps[24]?.getD undef = .bool true := hV 4 _ 24 rfl rfl (Pred.waits_near (by kernel_rfl) (by kernel_rfl))
      exact Pred.yields_run (v := .bool true) ((Pred.wanted_at (g := 4) (d := 24) (f := true) rfl rfl r24).trans rfl) (by go_simp) ⟨Pred.ext_refl _ _, rfl⟩
    · intro b X hE hd hn hV
      have r24 : b.tmps[24]?.getD undef = .bool true := hV 4 _ 24 rfl rfl (Pred.waits_near (by kernel_rfl) (by kernel_rfl))
      have r28 : b.tmps[28]?.getD undef = .bool true := hV 8 _ 28 rfl rfl (Pred.waits_near (by kernel_rfl) (by kernel_rfl))
      exact Pred.yields_run (v := .bool true) (Pred.wanted_none rfl) (by go_simp) ⟨Pred.ext_refl _ _, rfl⟩
    · intro b X hE hd hn hV
      have r29 : b.tmps[29]?.getD undef = .bool true := hV 9 _ 29 rfl rfl (Pred.waits_near (by kernel_rfl) (by kernel_rfl))
      exact Pred.yields_run (v := .bool true) (Pred.wanted_none rfl) (by go_simp) ⟨Pred.ext_refl _ _, rfl⟩
    · intro b X hE hd hn hV
      have r1 : b.tmps[1]?.getD undef = .pointer (some ⟨w.heap.size, 0, none⟩) := (hn 1 (by kernel_rfl)).trans rfl
      have r30 : b.tmps[30]?.getD undef = .bool true := hV 10 _ 30 rfl rfl (Pred.waits_near (by kernel_rfl) (by kernel_rfl))
      exact Pred.yields_run (v := .pointer (some ⟨w.heap.size, 0, none⟩)) ((Pred.wanted_at (g := 10) (d := 30) (f := true) rfl rfl r30).trans rfl) (by go_simp) ⟨Pred.ext_refl _ _, rfl⟩
    · intro b X hE hd hn hV
      have r31 : b.tmps[31]?.getD undef = .pointer (some ⟨w.heap.size, 0, none⟩) := hV 11 _ 31 rfl rfl (Pred.waits_near (by kernel_rfl) (by kernel_rfl))
      have r30 : b.tmps[30]?.getD undef = .bool true := hV 10 _ 30 rfl rfl (Pred.waits_near (by kernel_rfl) (by kernel_rfl))
      have q := (blk_below hE _ lA).trans bA
      exact Pred.yields_run (v := .agg #[.int .i64 0, .int .i64 0, .int .i64 0, .int .i64 65536]) ((Pred.wanted_at (g := 10) (d := 30) (f := true) rfl rfl r30).trans rfl) (by go_simp) ⟨Pred.ext_refl _ _, rfl⟩
    · intro b X hE hd hn hV
      have r32 : b.tmps[32]?.getD undef = .agg #[.int .i64 0, .int .i64 0, .int .i64 0, .int .i64 65536] := hV 12 _ 32 rfl rfl (Pred.waits_near (by kernel_rfl) (by kernel_rfl))
      have r30 : b.tmps[30]?.getD undef = .bool true := hV 10 _ 30 rfl rfl (Pred.waits_near (by kernel_rfl) (by kernel_rfl))
      refine Pred.yields_call (f := 9) (args := #[.agg #[.int .i64 0, .int .i64 0, .int .i64 0, .int .i64 65536], .int .i64 7]) ((Pred.wanted_at (g := 10) (d := 30) (f := true) rfl rfl r30).trans rfl) (by go_simp) ?_
      exact (inside_v vxA 7 _).mono fun e w2 ⟨he, hb⟩ => ⟨.int .i64 (0), he.trans (by rw [ins7]), Pred.ext_below hb hE.size, rfl⟩
    · intro b X hE hd hn hV
      have r33 : b.tmps[33]?.getD undef = .int .i64 (0) := hV 13 _ 33 rfl rfl (Pred.waits_near (by kernel_rfl) (by kernel_rfl))
      have r30 : b.tmps[30]?.getD undef = .bool true := hV 10 _ 30 rfl rfl (Pred.waits_near (by kernel_rfl) (by kernel_rfl))
      exact Pred.yields_run (v := .bool true) ((Pred.wanted_at (g := 10) (d := 30) (f := true) rfl rfl r30).trans rfl) (by go_simp) ⟨Pred.ext_refl _ _, rfl⟩
    · intro b X hE hd hn hV
      have r30 : b.tmps[30]?.getD undef = .bool true := hV 10 _ 30 rfl rfl (Pred.waits_near (by kernel_rfl) (by kernel_rfl))
      have r34 : b.tmps[34]?.getD undef = .bool true := hV 14 _ 34 rfl rfl (Pred.waits_near (by kernel_rfl) (by kernel_rfl))
      exact Pred.yields_run (v := .bool true) (Pred.wanted_none rfl) (by go_simp) ⟨Pred.ext_refl _ _, rfl⟩
    · intro b X hE hd hn hV
      have r35 : b.tmps[35]?.getD undef = .bool true := hV 15 _ 35 rfl rfl (Pred.waits_near (by kernel_rfl) (by kernel_rfl))
      exact Pred.yields_run (v := .bool true) (Pred.wanted_none rfl) (by go_simp) ⟨Pred.ext_refl _ _, rfl⟩
    · intro b X hE hd hn hV
      have r3 : b.tmps[3]?.getD undef = .pointer (some ⟨w1.heap.size, 0, none⟩) := (hn 3 (by kernel_rfl)).trans rfl
      have r36 : b.tmps[36]?.getD undef = .bool true := hV 16 _ 36 rfl rfl (Pred.waits_near (by kernel_rfl) (by kernel_rfl))
      exact Pred.yields_run (v := .pointer (some ⟨w1.heap.size, 0, none⟩)) ((Pred.wanted_at (g := 16) (d := 36) (f := true) rfl rfl r36).trans rfl) (by go_simp) ⟨Pred.ext_refl _ _, rfl⟩
    · intro b X hE hd hn hV
      have r37 : b.tmps[37]?.getD undef = .pointer (some ⟨w1.heap.size, 0, none⟩) := hV 17 _ 37 rfl rfl (Pred.waits_near (by kernel_rfl) (by kernel_rfl))
      have r36 : b.tmps[36]?.getD undef = .bool true := hV 16 _ 36 rfl rfl (Pred.waits_near (by kernel_rfl) (by kernel_rfl))
      exact Pred.yields_run (v := .pointer (some ⟨w1.heap.size, 0, none⟩)) ((Pred.wanted_at (g := 16) (d := 36) (f := true) rfl rfl r36).trans rfl) (by go_simp) ⟨Pred.ext_refl _ _, rfl⟩
    · intro b X hE hd hn hV
      have r38 : b.tmps[38]?.getD undef = .pointer (some ⟨w1.heap.size, 0, none⟩) := hV 18 _ 38 rfl rfl (Pred.waits_near (by kernel_rfl) (by kernel_rfl))
      have r36 : b.tmps[36]?.getD undef = .bool true := hV 16 _ 36 rfl rfl (Pred.waits_near (by kernel_rfl) (by kernel_rfl))
      have q := (blk_below hE _ lC).trans bC
      have q2 : X.cell? ⟨w1.heap.size, 0, none⟩ = some (.int .i64 65536) := (blk_cell q 0).trans rfl
      exact Pred.yields_run (v := .int .i64 65536) ((Pred.wanted_at (g := 16) (d := 36) (f := true) rfl rfl r36).trans rfl) (by go_simp) ⟨Pred.ext_refl _ _, rfl⟩
    · intro b X hE hd hn hV
      have r39 : b.tmps[39]?.getD undef = .int .i64 65536 := hV 19 _ 39 rfl rfl (Pred.waits_near (by kernel_rfl) (by kernel_rfl))
      have r36 : b.tmps[36]?.getD undef = .bool true := hV 16 _ 36 rfl rfl (Pred.waits_near (by kernel_rfl) (by kernel_rfl))
      exact Pred.yields_run (v := .bool true) ((Pred.wanted_at (g := 16) (d := 36) (f := true) rfl rfl r36).trans rfl) (by go_simp) ⟨Pred.ext_refl _ _, rfl⟩
    · intro b X hE hd hn hV
      have r36 : b.tmps[36]?.getD undef = .bool true := hV 16 _ 36 rfl rfl (Pred.waits_near (by kernel_rfl) (by kernel_rfl))
      have r40 : b.tmps[40]?.getD undef = .bool true := hV 20 _ 40 rfl rfl (Pred.waits_near (by kernel_rfl) (by kernel_rfl))
      exact Pred.yields_run (v := .bool true) (Pred.wanted_none rfl) (by go_simp) ⟨Pred.ext_refl _ _, rfl⟩
    · intro b X hE hd hn hV
      have r41 : b.tmps[41]?.getD undef = .bool true := hV 21 _ 41 rfl rfl (Pred.waits_near (by kernel_rfl) (by kernel_rfl))
      exact Pred.yields_run (v := .bool true) (Pred.wanted_none rfl) (by go_simp) ⟨Pred.ext_refl _ _, rfl⟩
    · intro b X hE hd hn hV
      have r3 : b.tmps[3]?.getD undef = .pointer (some ⟨w1.heap.size, 0, none⟩) := (hn 3 (by kernel_rfl)).trans rfl
      have r42 : b.tmps[42]?.getD undef = .bool true := hV 22 _ 42 rfl rfl (Pred.waits_near (by kernel_rfl) (by kernel_rfl))
      exact Pred.yields_run (v := .pointer (some ⟨w1.heap.size, 4, none⟩)) ((Pred.wanted_at (g := 22) (d := 42) (f := true) rfl rfl r42).trans rfl) (by go_simp) ⟨Pred.ext_refl _ _, rfl⟩
    · intro b X hE hd hn hV
      have r43 : b.tmps[43]?.getD undef = .pointer (some ⟨w1.heap.size, 4, none⟩) := hV 23 _ 43 rfl rfl (Pred.waits_near (by kernel_rfl) (by kernel_rfl))
      have r42 : b.tmps[42]?.getD undef = .bool true := hV 22 _ 42 rfl rfl (Pred.waits_near (by kernel_rfl) (by kernel_rfl))
      have q := (blk_below hE _ lC).trans bC
      have q2 : X.cell? ⟨w1.heap.size, 4, none⟩ = some (.int .i64 50) := (blk_cell q 4).trans rfl
      exact Pred.yields_run (v := .int .i64 50) ((Pred.wanted_at (g := 22) (d := 42) (f := true) rfl rfl r42).trans rfl) (by go_simp) ⟨Pred.ext_refl _ _, rfl⟩
    · intro b X hE hd hn hV
      have r44 : b.tmps[44]?.getD undef = .int .i64 50 := hV 24 _ 44 rfl rfl (Pred.waits_near (by kernel_rfl) (by kernel_rfl))
      have r42 : b.tmps[42]?.getD undef = .bool true := hV 22 _ 42 rfl rfl (Pred.waits_near (by kernel_rfl) (by kernel_rfl))
      exact Pred.yields_run (v := .bool true) ((Pred.wanted_at (g := 22) (d := 42) (f := true) rfl rfl r42).trans rfl) (by go_simp) ⟨Pred.ext_refl _ _, rfl⟩
    · intro b X hE hd hn hV
      have r42 : b.tmps[42]?.getD undef = .bool true := hV 22 _ 42 rfl rfl (Pred.waits_near (by kernel_rfl) (by kernel_rfl))
      have r45 : b.tmps[45]?.getD undef = .bool true := hV 25 _ 45 rfl rfl (Pred.waits_near (by kernel_rfl) (by kernel_rfl))
      exact Pred.yields_run (v := .bool true) (Pred.wanted_none rfl) (by go_simp) ⟨Pred.ext_refl _ _, rfl⟩
    · intro b X hE hd hn hV
      have r46 : b.tmps[46]?.getD undef = .bool true := hV 26 _ 46 rfl rfl (Pred.waits_near (by kernel_rfl) (by kernel_rfl))
      exact Pred.yields_run (v := .bool true) (Pred.wanted_none rfl) (by go_simp) ⟨Pred.ext_refl _ _, rfl⟩
    · intro b X hE hd hn hV
      have r5 : b.tmps[5]?.getD undef = .slice ad5 4 c5 := (hn 5 (by kernel_rfl)).trans rfl
      have r47 : b.tmps[47]?.getD undef = .bool true := hV 27 _ 47 rfl rfl (Pred.waits_near (by kernel_rfl) (by kernel_rfl))
      exact Pred.yields_run (v := .slice ad5 4 c5) ((Pred.wanted_at (g := 27) (d := 47) (f := true) rfl rfl r47).trans rfl) (by go_simp) ⟨Pred.ext_refl _ _, rfl⟩
    · intro b X hE hd hn hV
      have r48 : b.tmps[48]?.getD undef = .slice ad5 4 c5 := hV 28 _ 48 rfl rfl (Pred.waits_near (by kernel_rfl) (by kernel_rfl))
      have r47 : b.tmps[47]?.getD undef = .bool true := hV 27 _ 47 rfl rfl (Pred.waits_near (by kernel_rfl) (by kernel_rfl))
      exact Pred.yields_run (v := .int .i64 4) ((Pred.wanted_at (g := 27) (d := 47) (f := true) rfl rfl r47).trans rfl) (by go_simp) ⟨Pred.ext_refl _ _, rfl⟩
    · intro b X hE hd hn hV
      have r49 : b.tmps[49]?.getD undef = .int .i64 4 := hV 29 _ 49 rfl rfl (Pred.waits_near (by kernel_rfl) (by kernel_rfl))
      have r47 : b.tmps[47]?.getD undef = .bool true := hV 27 _ 47 rfl rfl (Pred.waits_near (by kernel_rfl) (by kernel_rfl))
      exact Pred.yields_run (v := .bool true) ((Pred.wanted_at (g := 27) (d := 47) (f := true) rfl rfl r47).trans rfl) (by go_simp) ⟨Pred.ext_refl _ _, rfl⟩
    · intro b X hE hd hn hV
      have r47 : b.tmps[47]?.getD undef = .bool true := hV 27 _ 47 rfl rfl (Pred.waits_near (by kernel_rfl) (by kernel_rfl))
      have r50 : b.tmps[50]?.getD undef = .bool true := hV 30 _ 50 rfl rfl (Pred.waits_near (by kernel_rfl) (by kernel_rfl))
      exact Pred.yields_run (v := .bool true) (Pred.wanted_none rfl) (by go_simp) ⟨Pred.ext_refl _ _, rfl⟩
    · intro b X hE hd hn hV
      have r51 : b.tmps[51]?.getD undef = .bool true := hV 31 _ 51 rfl rfl (Pred.waits_near (by kernel_rfl) (by kernel_rfl))
      exact Pred.yields_run (v := .bool true) (Pred.wanted_none rfl) (by go_simp) ⟨Pred.ext_refl _ _, rfl⟩
    · intro b X hE hd hn hV
      have r1 : b.tmps[1]?.getD undef = .pointer (some ⟨w.heap.size, 0, none⟩) := (hn 1 (by kernel_rfl)).trans rfl
      have r52 : b.tmps[52]?.getD undef = .bool true := hV 32 _ 52 rfl rfl (Pred.waits_near (by kernel_rfl) (by kernel_rfl))
      have q := (blk_below hE _ lA).trans bA
      exact Pred.yields_run (v := .agg #[.int .i64 0, .int .i64 0, .int .i64 0, .int .i64 65536, .int .i64 0, .int .i64 0]) ((Pred.wanted_at (g := 32) (d := 52) (f := true) rfl rfl r52).trans rfl) (by go_simp) ⟨Pred.ext_refl _ _, rfl⟩
    · intro b X hE hd hn hV
      have r4 : b.tmps[4]?.getD undef = .pointer (some ⟨(w1.heap.size + 1), 0, none⟩) := (hn 4 (by kernel_rfl)).trans rfl
      have r52 : b.tmps[52]?.getD undef = .bool true := hV 32 _ 52 rfl rfl (Pred.waits_near (by kernel_rfl) (by kernel_rfl))
      have q := (blk_below hE _ lD).trans bD
      exact Pred.yields_run (v := .agg #[.int .i64 0, .int .i64 65536, .int .i64 0, .int .i64 65536, .int .i64 0, .int .i64 0]) ((Pred.wanted_at (g := 32) (d := 52) (f := true) rfl rfl r52).trans rfl) (by go_simp) ⟨Pred.ext_refl _ _, rfl⟩
    · intro b X hE hd hn hV
      have r3 : b.tmps[3]?.getD undef = .pointer (some ⟨w1.heap.size, 0, none⟩) := (hn 3 (by kernel_rfl)).trans rfl
      have r52 : b.tmps[52]?.getD undef = .bool true := hV 32 _ 52 rfl rfl (Pred.waits_near (by kernel_rfl) (by kernel_rfl))
      have q := (blk_below hE _ lC).trans bC
      exact Pred.yields_run (v := .agg #[.int .i64 65536, .int .i64 0, .int .i64 0, .int .i64 65536, .int .i64 50, .int .i64 0]) ((Pred.wanted_at (g := 32) (d := 52) (f := true) rfl rfl r52).trans rfl) (by go_simp) ⟨Pred.ext_refl _ _, rfl⟩
    · intro b X hE hd hn hV
      have r53 : b.tmps[53]?.getD undef = .agg #[.int .i64 0, .int .i64 0, .int .i64 0, .int .i64 65536, .int .i64 0, .int .i64 0] := hV 33 _ 53 rfl rfl (Pred.waits_near (by kernel_rfl) (by kernel_rfl))
      have r54 : b.tmps[54]?.getD undef = .agg #[.int .i64 0, .int .i64 65536, .int .i64 0, .int .i64 65536, .int .i64 0, .int .i64 0] := hV 34 _ 54 rfl rfl (Pred.waits_near (by kernel_rfl) (by kernel_rfl))
      have r55 : b.tmps[55]?.getD undef = .agg #[.int .i64 65536, .int .i64 0, .int .i64 0, .int .i64 65536, .int .i64 50, .int .i64 0] := hV 35 _ 55 rfl rfl (Pred.waits_near (by kernel_rfl) (by kernel_rfl))
      have r52 : b.tmps[52]?.getD undef = .bool true := hV 32 _ 52 rfl rfl (Pred.waits_near (by kernel_rfl) (by kernel_rfl))
      refine Pred.yields_run (v := .slice (some ⟨X.heap.size, 0, none⟩) 3 3) (w' := X.alloc (.cells #[.int .i64 0, .int .i64 0, .int .i64 0, .int .i64 65536, .int .i64 0, .int .i64 0, .int .i64 0, .int .i64 65536, .int .i64 0, .int .i64 65536, .int .i64 0, .int .i64 0, .int .i64 65536, .int .i64 0, .int .i64 0, .int .i64 65536, .int .i64 50, .int .i64 0] 28)) ((Pred.wanted_at (g := 32) (d := 52) (f := true) rfl rfl r52).trans rfl) (by go_simp) ⟨Pred.ext_below ((Below.refl _ _).alloc (Nat.le_refl _) _) hE.size, _, _, rfl, rowAt_blk (blk_alloc_at _ _ _ rfl) rfl (by decide)⟩
    · intro b X hE hd hn hV
      obtain ⟨ga56, ca56, r56, hr56⟩ : VR 3 [vA, vD, vC] (b.tmps[56]?.getD undef) X := hV 36 _ 56 rfl rfl (Pred.waits_near (by kernel_rfl) (by kernel_rfl))
      have r52 : b.tmps[52]?.getD undef = .bool true := hV 32 _ 52 rfl rfl (Pred.waits_near (by kernel_rfl) (by kernel_rfl))
      refine Pred.yields_call (f := 14) (args := #[.slice ga56 3 ca56]) ((Pred.wanted_at (g := 32) (d := 52) (f := true) rfl rfl r52).trans rfl) (by go_simp) ?_
      refine (polygon_any [vA, vD, vC] _ _ _ hr56 vr_adc (by decide)).mono ?_
      rintro e w9 ⟨⟨ad9, c9, he, hr⟩, hb⟩
      rw [poly3] at he hr
      exact ⟨_, he, Pred.ext_below hb hE.size, _, _, rfl, hr⟩
    · intro b X hE hd hn hV
      have r1 : b.tmps[1]?.getD undef = .pointer (some ⟨w.heap.size, 0, none⟩) := (hn 1 (by kernel_rfl)).trans rfl
      have r52 : b.tmps[52]?.getD undef = .bool true := hV 32 _ 52 rfl rfl (Pred.waits_near (by kernel_rfl) (by kernel_rfl))
      have q := (blk_below hE _ lA).trans bA
      exact Pred.yields_run (v := .agg #[.int .i64 0, .int .i64 0, .int .i64 0, .int .i64 65536, .int .i64 0, .int .i64 0]) ((Pred.wanted_at (g := 32) (d := 52) (f := true) rfl rfl r52).trans rfl) (by go_simp) ⟨Pred.ext_refl _ _, rfl⟩
    · intro b X hE hd hn hV
      have r4 : b.tmps[4]?.getD undef = .pointer (some ⟨(w1.heap.size + 1), 0, none⟩) := (hn 4 (by kernel_rfl)).trans rfl
      have r52 : b.tmps[52]?.getD undef = .bool true := hV 32 _ 52 rfl rfl (Pred.waits_near (by kernel_rfl) (by kernel_rfl))
      have q := (blk_below hE _ lD).trans bD
      exact Pred.yields_run (v := .agg #[.int .i64 0, .int .i64 65536, .int .i64 0, .int .i64 65536, .int .i64 0, .int .i64 0]) ((Pred.wanted_at (g := 32) (d := 52) (f := true) rfl rfl r52).trans rfl) (by go_simp) ⟨Pred.ext_refl _ _, rfl⟩
    · intro b X hE hd hn hV
      have r3 : b.tmps[3]?.getD undef = .pointer (some ⟨w1.heap.size, 0, none⟩) := (hn 3 (by kernel_rfl)).trans rfl
      have r52 : b.tmps[52]?.getD undef = .bool true := hV 32 _ 52 rfl rfl (Pred.waits_near (by kernel_rfl) (by kernel_rfl))
      have q := (blk_below hE _ lC).trans bC
      exact Pred.yields_run (v := .agg #[.int .i64 65536, .int .i64 0, .int .i64 0, .int .i64 65536, .int .i64 50, .int .i64 0]) ((Pred.wanted_at (g := 32) (d := 52) (f := true) rfl rfl r52).trans rfl) (by go_simp) ⟨Pred.ext_refl _ _, rfl⟩
    · intro b X hE hd hn hV
      have r58 : b.tmps[58]?.getD undef = .agg #[.int .i64 0, .int .i64 0, .int .i64 0, .int .i64 65536, .int .i64 0, .int .i64 0] := hV 38 _ 58 rfl rfl (Pred.waits_near (by kernel_rfl) (by kernel_rfl))
      have r59 : b.tmps[59]?.getD undef = .agg #[.int .i64 0, .int .i64 65536, .int .i64 0, .int .i64 65536, .int .i64 0, .int .i64 0] := hV 39 _ 59 rfl rfl (Pred.waits_near (by kernel_rfl) (by kernel_rfl))
      have r60 : b.tmps[60]?.getD undef = .agg #[.int .i64 65536, .int .i64 0, .int .i64 0, .int .i64 65536, .int .i64 50, .int .i64 0] := hV 40 _ 60 rfl rfl (Pred.waits_near (by kernel_rfl) (by kernel_rfl))
      have r52 : b.tmps[52]?.getD undef = .bool true := hV 32 _ 52 rfl rfl (Pred.waits_near (by kernel_rfl) (by kernel_rfl))
      refine Pred.yields_run (v := .slice (some ⟨X.heap.size, 0, none⟩) 3 3) (w' := X.alloc (.cells #[.int .i64 0, .int .i64 0, .int .i64 0, .int .i64 65536, .int .i64 0, .int .i64 0, .int .i64 0, .int .i64 65536, .int .i64 0, .int .i64 65536, .int .i64 0, .int .i64 0, .int .i64 65536, .int .i64 0, .int .i64 0, .int .i64 65536, .int .i64 50, .int .i64 0] 28)) ((Pred.wanted_at (g := 32) (d := 52) (f := true) rfl rfl r52).trans rfl) (by go_simp) ⟨Pred.ext_below ((Below.refl _ _).alloc (Nat.le_refl _) _) hE.size, _, _, rfl, rowAt_blk (blk_alloc_at _ _ _ rfl) rfl (by decide)⟩
    · intro b X hE hd hn hV
      obtain ⟨ga57, ca57, r57, hr57⟩ : VR 3 [vA, vD, vC] (b.tmps[57]?.getD undef) X := hV 37 _ 57 rfl rfl (Pred.waits_near (by kernel_rfl) (by kernel_rfl))
      obtain ⟨ga61, ca61, r61, hr61⟩ : VR 3 [vA, vD, vC] (b.tmps[61]?.getD undef) X := hV 41 _ 61 rfl rfl (Pred.waits_near (by kernel_rfl) (by kernel_rfl))
      have r52 : b.tmps[52]?.getD undef = .bool true := hV 32 _ 52 rfl rfl (Pred.waits_near (by kernel_rfl) (by kernel_rfl))
      refine Pred.yields_call (f := 13) (args := #[.slice ga57 3 ca57, .slice ga61 3 ca61]) ((Pred.wanted_at (g := 32) (d := 52) (f := true) rfl rfl r52).trans rfl) (by go_simp) ?_
      exact (same_any [vA, vD, vC] [vA, vD, vC] _ _ _ _ _ hr57 hr61 (by decide) (by decide)).mono fun e w2 ⟨he, hb⟩ => ⟨.bool true, he.trans (by rw [decide_eq_true rfl]), Pred.ext_below hb hE.size, rfl⟩
    · intro b X hE hd hn hV
      have r52 : b.tmps[52]?.getD undef = .bool true := hV 32 _ 52 rfl rfl (Pred.waits_near (by kernel_rfl) (by kernel_rfl))
      have r62 : b.tmps[62]?.getD undef = .bool true := hV 42 _ 62 rfl rfl (Pred.waits_near (by kernel_rfl) (by kernel_rfl))
      exact Pred.yields_run (v := .bool true) (Pred.wanted_none rfl) (by go_simp) ⟨Pred.ext_refl _ _, rfl⟩
    · intro b X hE hd hn hV
      have r63 : b.tmps[63]?.getD undef = .bool true := hV 43 _ 63 rfl rfl (Pred.waits_near (by kernel_rfl) (by kernel_rfl))
      exact Pred.yields_run (v := .bool true) (Pred.wanted_none rfl) (by go_simp) ⟨Pred.ext_refl _ _, rfl⟩
    · intro b X hE hd hn hV
      have r1 : b.tmps[1]?.getD undef = .pointer (some ⟨w.heap.size, 0, none⟩) := (hn 1 (by kernel_rfl)).trans rfl
      have r64 : b.tmps[64]?.getD undef = .bool true := hV 44 _ 64 rfl rfl (Pred.waits_near (by kernel_rfl) (by kernel_rfl))
      have q := (blk_below hE _ lA).trans bA
      exact Pred.yields_run (v := .agg #[.int .i64 0, .int .i64 0, .int .i64 0, .int .i64 65536, .int .i64 0, .int .i64 0]) ((Pred.wanted_at (g := 44) (d := 64) (f := true) rfl rfl r64).trans rfl) (by go_simp) ⟨Pred.ext_refl _ _, rfl⟩
    · intro b X hE hd hn hV
      have r2 : b.tmps[2]?.getD undef = .pointer (some ⟨(w.heap.size + 1), 0, none⟩) := (hn 2 (by kernel_rfl)).trans rfl
      have r64 : b.tmps[64]?.getD undef = .bool true := hV 44 _ 64 rfl rfl (Pred.waits_near (by kernel_rfl) (by kernel_rfl))
      have q := (blk_below hE _ lB).trans bB
      exact Pred.yields_run (v := .agg #[.int .i64 131072, .int .i64 0, .int .i64 0, .int .i64 65536, .int .i64 100, .int .i64 0]) ((Pred.wanted_at (g := 44) (d := 64) (f := true) rfl rfl r64).trans rfl) (by go_simp) ⟨Pred.ext_refl _ _, rfl⟩
    · intro b X hE hd hn hV
      have r65 : b.tmps[65]?.getD undef = .agg #[.int .i64 0, .int .i64 0, .int .i64 0, .int .i64 65536, .int .i64 0, .int .i64 0] := hV 45 _ 65 rfl rfl (Pred.waits_near (by kernel_rfl) (by kernel_rfl))
      have r66 : b.tmps[66]?.getD undef = .agg #[.int .i64 131072, .int .i64 0, .int .i64 0, .int .i64 65536, .int .i64 100, .int .i64 0] := hV 46 _ 66 rfl rfl (Pred.waits_near (by kernel_rfl) (by kernel_rfl))
      have r64 : b.tmps[64]?.getD undef = .bool true := hV 44 _ 64 rfl rfl (Pred.waits_near (by kernel_rfl) (by kernel_rfl))
      refine Pred.yields_run (v := .slice (some ⟨X.heap.size, 0, none⟩) 2 2) (w' := X.alloc (.cells #[.int .i64 0, .int .i64 0, .int .i64 0, .int .i64 65536, .int .i64 0, .int .i64 0, .int .i64 131072, .int .i64 0, .int .i64 0, .int .i64 65536, .int .i64 100, .int .i64 0] 28)) ((Pred.wanted_at (g := 44) (d := 64) (f := true) rfl rfl r64).trans rfl) (by go_simp) ⟨Pred.ext_below ((Below.refl _ _).alloc (Nat.le_refl _) _) hE.size, _, _, rfl, rowAt_blk (blk_alloc_at _ _ _ rfl) rfl (by decide)⟩
    · intro b X hE hd hn hV
      obtain ⟨ga67, ca67, r67, hr67⟩ : VR 2 [vA, vB] (b.tmps[67]?.getD undef) X := hV 47 _ 67 rfl rfl (Pred.waits_near (by kernel_rfl) (by kernel_rfl))
      have r64 : b.tmps[64]?.getD undef = .bool true := hV 44 _ 64 rfl rfl (Pred.waits_near (by kernel_rfl) (by kernel_rfl))
      refine Pred.yields_call (f := 14) (args := #[.slice ga67 2 ca67]) ((Pred.wanted_at (g := 44) (d := 64) (f := true) rfl rfl r64).trans rfl) (by go_simp) ?_
      refine (polygon_any [vA, vB] _ _ _ hr67 vr_ab (by decide)).mono ?_
      rintro e w9 ⟨⟨ad9, c9, he, hr⟩, hb⟩
      rw [poly2] at he hr
      exact ⟨_, he, Pred.ext_below hb hE.size, _, _, rfl, hr⟩
    · intro b X hE hd hn hV
      obtain ⟨ga68, ca68, r68, hr68⟩ : VR 0 [] (b.tmps[68]?.getD undef) X := hV 48 _ 68 rfl rfl (Pred.waits_near (by kernel_rfl) (by kernel_rfl))
      have r64 : b.tmps[64]?.getD undef = .bool true := hV 44 _ 64 rfl rfl (Pred.waits_near (by kernel_rfl) (by kernel_rfl))
      exact Pred.yields_run (v := .int .i64 0) ((Pred.wanted_at (g := 44) (d := 64) (f := true) rfl rfl r64).trans rfl) (by go_simp) ⟨Pred.ext_refl _ _, rfl⟩
    · intro b X hE hd hn hV
      have r69 : b.tmps[69]?.getD undef = .int .i64 0 := hV 49 _ 69 rfl rfl (Pred.waits_near (by kernel_rfl) (by kernel_rfl))
      have r64 : b.tmps[64]?.getD undef = .bool true := hV 44 _ 64 rfl rfl (Pred.waits_near (by kernel_rfl) (by kernel_rfl))
      exact Pred.yields_run (v := .bool true) ((Pred.wanted_at (g := 44) (d := 64) (f := true) rfl rfl r64).trans rfl) (by go_simp) ⟨Pred.ext_refl _ _, rfl⟩
    · intro b X hE hd hn hV
      have r64 : b.tmps[64]?.getD undef = .bool true := hV 44 _ 64 rfl rfl (Pred.waits_near (by kernel_rfl) (by kernel_rfl))
      have r70 : b.tmps[70]?.getD undef = .bool true := hV 50 _ 70 rfl rfl (Pred.waits_near (by kernel_rfl) (by kernel_rfl))
      exact Pred.yields_run (v := .bool true) (Pred.wanted_none rfl) (by go_simp) ⟨Pred.ext_refl _ _, rfl⟩
    · intro b X hE hd hn hV
      have r71 : b.tmps[71]?.getD undef = .bool true := hV 51 _ 71 rfl rfl (Pred.waits_near (by kernel_rfl) (by kernel_rfl))
      exact Pred.yields_run (v := .bool true) (Pred.wanted_none rfl) (by go_simp) ⟨Pred.ext_refl _ _, rfl⟩
  intro v X hE hv
  have e0 : v 0 = .pointer (some ⟨w.heap.size, 0, none⟩) := hv 0 _ 20 rfl rfl
  have e1 : v 1 = .agg #[.int .i64 0, .int .i64 0, .int .i64 0, .int .i64 65536] := hv 1 _ 21 rfl rfl
  have e2 : v 2 = .int .i64 (65280) := hv 2 _ 22 rfl rfl
  have e3 : v 3 = .bool true := hv 3 _ 23 rfl rfl
  have e4 : v 4 = .bool true := hv 4 _ 24 rfl rfl
  have e5 : v 5 = .pointer (some ⟨(w.heap.size + 1), 0, none⟩) := hv 5 _ 25 rfl rfl
  have e6 : v 6 = .agg #[.int .i64 131072, .int .i64 0, .int .i64 0, .int .i64 65536] := hv 6 _ 26 rfl rfl
  have e7 : v 7 = .int .i64 (-65536) := hv 7 _ 27 rfl rfl
  have e8 : v 8 = .bool true := hv 8 _ 28 rfl rfl
  have e9 : v 9 = .bool true := hv 9 _ 29 rfl rfl
  have e10 : v 10 = .bool true := hv 10 _ 30 rfl rfl
  have e11 : v 11 = .pointer (some ⟨w.heap.size, 0, none⟩) := hv 11 _ 31 rfl rfl
  have e12 : v 12 = .agg #[.int .i64 0, .int .i64 0, .int .i64 0, .int .i64 65536] := hv 12 _ 32 rfl rfl
  have e13 : v 13 = .int .i64 (0) := hv 13 _ 33 rfl rfl
  have e14 : v 14 = .bool true := hv 14 _ 34 rfl rfl
  have e15 : v 15 = .bool true := hv 15 _ 35 rfl rfl
  have e16 : v 16 = .bool true := hv 16 _ 36 rfl rfl
  have e17 : v 17 = .pointer (some ⟨w1.heap.size, 0, none⟩) := hv 17 _ 37 rfl rfl
  have e18 : v 18 = .pointer (some ⟨w1.heap.size, 0, none⟩) := hv 18 _ 38 rfl rfl
  have e19 : v 19 = .int .i64 65536 := hv 19 _ 39 rfl rfl
  have e20 : v 20 = .bool true := hv 20 _ 40 rfl rfl
  have e21 : v 21 = .bool true := hv 21 _ 41 rfl rfl
  have e22 : v 22 = .bool true := hv 22 _ 42 rfl rfl
  have e23 : v 23 = .pointer (some ⟨w1.heap.size, 4, none⟩) := hv 23 _ 43 rfl rfl
  have e24 : v 24 = .int .i64 50 := hv 24 _ 44 rfl rfl
  have e25 : v 25 = .bool true := hv 25 _ 45 rfl rfl
  have e26 : v 26 = .bool true := hv 26 _ 46 rfl rfl
  have e27 : v 27 = .bool true := hv 27 _ 47 rfl rfl
  have e28 : v 28 = .slice ad5 4 c5 := hv 28 _ 48 rfl rfl
  have e29 : v 29 = .int .i64 4 := hv 29 _ 49 rfl rfl
  have e30 : v 30 = .bool true := hv 30 _ 50 rfl rfl
  have e31 : v 31 = .bool true := hv 31 _ 51 rfl rfl
  have e32 : v 32 = .bool true := hv 32 _ 52 rfl rfl
  have e33 : v 33 = .agg #[.int .i64 0, .int .i64 0, .int .i64 0, .int .i64 65536, .int .i64 0, .int .i64 0] := hv 33 _ 53 rfl rfl
  have e34 : v 34 = .agg #[.int .i64 0, .int .i64 65536, .int .i64 0, .int .i64 65536, .int .i64 0, .int .i64 0] := hv 34 _ 54 rfl rfl
  have e35 : v 35 = .agg #[.int .i64 65536, .int .i64 0, .int .i64 0, .int .i64 65536, .int .i64 50, .int .i64 0] := hv 35 _ 55 rfl rfl
  obtain ⟨ga36, ca36, e36, hr36⟩ : VR 3 [vA, vD, vC] (v 36) X := hv 36 _ 56 rfl rfl
  obtain ⟨ga37, ca37, e37, hr37⟩ : VR 3 [vA, vD, vC] (v 37) X := hv 37 _ 57 rfl rfl
  have e38 : v 38 = .agg #[.int .i64 0, .int .i64 0, .int .i64 0, .int .i64 65536, .int .i64 0, .int .i64 0] := hv 38 _ 58 rfl rfl
  have e39 : v 39 = .agg #[.int .i64 0, .int .i64 65536, .int .i64 0, .int .i64 65536, .int .i64 0, .int .i64 0] := hv 39 _ 59 rfl rfl
  have e40 : v 40 = .agg #[.int .i64 65536, .int .i64 0, .int .i64 0, .int .i64 65536, .int .i64 50, .int .i64 0] := hv 40 _ 60 rfl rfl
  obtain ⟨ga41, ca41, e41, hr41⟩ : VR 3 [vA, vD, vC] (v 41) X := hv 41 _ 61 rfl rfl
  have e42 : v 42 = .bool true := hv 42 _ 62 rfl rfl
  have e43 : v 43 = .bool true := hv 43 _ 63 rfl rfl
  have e44 : v 44 = .bool true := hv 44 _ 64 rfl rfl
  have e45 : v 45 = .agg #[.int .i64 0, .int .i64 0, .int .i64 0, .int .i64 65536, .int .i64 0, .int .i64 0] := hv 45 _ 65 rfl rfl
  have e46 : v 46 = .agg #[.int .i64 131072, .int .i64 0, .int .i64 0, .int .i64 65536, .int .i64 100, .int .i64 0] := hv 46 _ 66 rfl rfl
  obtain ⟨ga47, ca47, e47, hr47⟩ : VR 2 [vA, vB] (v 47) X := hv 47 _ 67 rfl rfl
  obtain ⟨ga48, ca48, e48, hr48⟩ : VR 0 [] (v 48) X := hv 48 _ 68 rfl rfl
  have e49 : v 49 = .int .i64 0 := hv 49 _ 69 rfl rfl
  have e50 : v 50 = .bool true := hv 50 _ 70 rfl rfl
  have e51 : v 51 = .bool true := hv 51 _ 71 rfl rfl
  have e52 : v 52 = .bool true := hv 52 _ 0 rfl rfl
  simp only [Pred.putsF_cons, Pred.putsF_nil, Nat.zero_add, Nat.reduceAdd, e0, e1, e2, e3, e4, e5, e6, e7, e8, e9, e10, e11, e12, e13, e14, e15, e16, e17, e18, e19, e20, e21, e22, e23, e24, e25, e26, e27, e28, e29, e30, e31, e32, e33, e34, e35, e36, e37, e38, e39, e40, e41, e42, e43, e44, e45, e46, e47, e48, e49, e50, e51, e52, Act.put, List.setIfInBounds_toArray, List.set_cons_zero, List.set_cons_succ]
  clear e0 e1 e2 e3 e4 e5 e6 e7 e8 e9 e10 e11 e12 e13 e14 e15 e16 e17 e18 e19 e20 e21 e22 e23 e24 e25 e26 e27 e28 e29 e30 e31 e32 e33 e34 e35 e36 e37 e38 e39 e40 e41 e42 e43 e44 e45 e46 e47 e48 e49 e50 e51 e52 hv
  go_wp2
  go_ret
  exact ⟨rfl, L3.trans (hE.mono L3.size)⟩
end Go.Proofs.Ytbbkdjpdifkadaa.ClJ

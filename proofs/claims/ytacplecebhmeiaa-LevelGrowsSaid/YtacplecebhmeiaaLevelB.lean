/-
  Which levels are asked for; what the law's own examples answer.
-/
import Derived.Test.YtacplecebhmeiaaLevel
namespace Go.Proofs.Ytacplecebhmeiaa.LevelB
open Go.RowKit Rd Alk Log Level
set_option linter.unusedVariables false
set_option linter.unusedSimpArgs false
set_option maxRecDepth 4000

def twoV (l t depth : Int) (tri : Bool) : List Int := if tri && (t != 0 && decide (l < depth)) then [l, l + 1] else [l]

theorem two_any (l t depth : Int) (tri : Bool) (w : World) (h1 : -9223372036854775808 ≤ l) (h2 : depth ≤ 9223372036854775807) (h3 : l ≤ 9223372036854775807) :
    Calls Try.prog 9 #[.agg #[.int .i64 l, .int .i64 t], .int .i64 depth, .bool tri] w fun e w' => ∃ g, e = .returned (.slice (some ⟨g, 0, none⟩) (twoV l t depth tri).length (twoV l t depth tri).length) ∧
      w.heap.size ≤ g ∧ Reads w' 1 (some ⟨g, 0, none⟩) (twoV l t depth tri).length (i64s (twoV l t depth tri)) ∧ Below w.heap.size w w' := by
  by_cases hc : (tri && (t != 0 && decide (l < depth))) = true
  · have e0 : twoV l t depth tri = [l, l + 1] := by unfold twoV; rw [if_pos hc]
    simp only [Bool.and_eq_true, bne_iff_ne, ne_eq, decide_eq_true_eq] at hc
    obtain ⟨rfl, ht, hl⟩ := hc
    have ht' : (t == 0) = false := by simpa using ht
    rw [e0]
    clear e0
    go_enter Try.func9, Try.ntmps9
    go_wp2
    go_ret
    refine ⟨_, rfl, ?_, ?_, ?_⟩
    · simp
    · have := reads_new (w.alloc (.cells #[.int .i64 l, .int .i64 t] 25)) #[.int .i64 l, .int .i64 (l + 1)] 3 1 2 rfl
      simpa using this
    · repeat' (first | (with_reducible exact Below.refl _ _) | (with_reducible refine Rd.below_step ?_ (by assumption)) | (with_reducible refine Rd.below_alloc ?_ _) | (with_reducible refine Rd.below_drewN ?_ _) | (with_reducible refine Below.drew ?_) | (with_reducible refine Below.setCell ?_ ?_ _) | go_size)
  · have e0 : twoV l t depth tri = [l] := by unfold twoV; rw [if_neg hc]
    have hd : (tri = false) ∨ (tri = true ∧ t = 0) ∨ (tri = true ∧ ¬ t = 0 ∧ ¬ l < depth) := by
      cases tri
      · exact .inl rfl
      · by_cases ht : t = 0
        · exact .inr (.inl ⟨rfl, ht⟩)
        · refine .inr (.inr ⟨rfl, ht, ?_⟩)
          simpa [ht] using hc
    rw [e0]
    clear e0 hc
    rcases hd with rfl | ⟨rfl, rfl⟩ | ⟨rfl, ht, hl⟩
    all_goals
      try have ht' : (t == 0) = false := by simpa using ht
      go_enter Try.func9, Try.ntmps9
      go_wp2
      go_ret
      refine ⟨_, rfl, ?_, ?_, ?_⟩
      · simp
      · first
          | exact (by simpa using reads_new (w.alloc (.cells #[.int .i64 l, .int .i64 t] 25)) #[.int .i64 l] 3 1 1 rfl)
          | exact (by simpa using reads_new (w.alloc (.cells #[.int .i64 l, .int .i64 0] 25)) #[.int .i64 l] 3 1 1 rfl)
      · repeat' (first | (with_reducible exact Below.refl _ _) | (with_reducible refine Rd.below_step ?_ (by assumption)) | (with_reducible refine Rd.below_alloc ?_ _) | (with_reducible refine Rd.below_drewN ?_ _) | (with_reducible refine Below.drew ?_) | (with_reducible refine Below.setCell ?_ ?_ _) | go_size)

theorem awake_any (w : World) :
    Calls Try.prog 7 #[] w fun e w' => e = .returned (.bool true) ∧ Below w.heap.size w w' := by
  have e1 : ofR 3 (topV 196608 0 (-5) 0) = (1, 128) := by decide
  have e2 : ofR 3 (topV 65536 0 0 (-65536)) = (0, 0) := by decide
  have e3 : ofR 1 (topV 0 0 (-589824) 0) = (1, 0) := by decide
  go_enter Try.func7, Try.ntmps7
  go_wp2_with fail
  refine (of_any 3 196608 0 (-5) 0 _ (by decide) (by decide) (by decide) (by decide) (by decide)).mono ?_
  rintro e w1 ⟨rfl, h1⟩
  have s1 := h1.size
  go_wp2_with fail
  refine (of_any 3 65536 0 0 (-65536) _ (by decide) (by decide) (by decide) (by decide) (by decide)).mono ?_
  rintro e w2 ⟨rfl, h2⟩
  have s2 := h2.size
  simp only [World.size_alloc] at s2
  go_wp2_with fail
  refine (of_any 1 0 0 (-589824) 0 _ (by decide) (by decide) (by decide) (by decide) (by decide)).mono ?_
  rintro e w3 ⟨rfl, h3⟩
  have s3 := h3.size
  simp only [World.size_alloc] at s3
  have b1 : Below w.heap.size w w1 := h1
  have b3 : Below w.heap.size w w3 := by repeat' (first | (with_reducible exact Below.refl _ _) | (with_reducible refine Rd.below_step ?_ (by assumption)) | (with_reducible refine Rd.below_alloc ?_ _) | (with_reducible refine Rd.below_drewN ?_ _) | (with_reducible refine Below.drew ?_) | (with_reducible refine Below.setCell ?_ ?_ _) | go_size)
  have n1 : w1.heap.size < w2.heap.size := by omega
  have n2 : w2.heap.size < w3.heap.size := by omega
  have n3 : w1.heap.size < w3.heap.size := by omega
  have pa0 : w2.cell? ⟨w1.heap.size, 0, none⟩ = some (.int .i64 1) := by rw [h2.cell (p := ⟨w1.heap.size, 0, none⟩) (by simp)]; go_cell
  have pa1 : w2.cell? ⟨w1.heap.size, 1, none⟩ = some (.int .i64 128) := by rw [h2.cell (p := ⟨w1.heap.size, 1, none⟩) (by simp)]; go_cell
  have qa0 : w3.cell? ⟨w1.heap.size, 0, none⟩ = some (.int .i64 1) := by rw [h3.cell (p := ⟨w1.heap.size, 0, none⟩) (by simp; omega)]; go_cell
  have qa1 : w3.cell? ⟨w1.heap.size, 1, none⟩ = some (.int .i64 128) := by rw [h3.cell (p := ⟨w1.heap.size, 1, none⟩) (by simp; omega)]; go_cell
  have qb0 : w3.cell? ⟨w2.heap.size, 0, none⟩ = some (.int .i64 0) := by rw [h3.cell (p := ⟨w2.heap.size, 0, none⟩) (by simp)]; go_cell
  have qb1 : w3.cell? ⟨w2.heap.size, 1, none⟩ = some (.int .i64 0) := by rw [h3.cell (p := ⟨w2.heap.size, 1, none⟩) (by simp)]; go_cell
  try rw [e3]
  go_upto_region 4 with (fail)
  refine name_world ?_
  intro W hW
  have bW : Below w.heap.size w W := by rw [hW]; repeat' (first | (with_reducible exact Below.refl _ _) | (with_reducible refine Rd.below_step ?_ (by assumption)) | (with_reducible refine Rd.below_alloc ?_ _) | (with_reducible refine Rd.below_drewN ?_ _) | (with_reducible refine Below.drew ?_) | (with_reducible refine Below.setCell ?_ ?_ _) | go_size)
  have sW : w3.heap.size + 1 = W.heap.size := by rw [hW]; simp
  have ra0 : W.cell? ⟨w1.heap.size, 0, none⟩ = some (.int .i64 1) := by rw [hW]; go_cell
  have ra1 : W.cell? ⟨w1.heap.size, 1, none⟩ = some (.int .i64 128) := by rw [hW]; go_cell
  have rb0 : W.cell? ⟨w2.heap.size, 0, none⟩ = some (.int .i64 0) := by rw [hW]; go_cell
  have rb1 : W.cell? ⟨w2.heap.size, 1, none⟩ = some (.int .i64 0) := by rw [hW]; go_cell
  have rc0 : W.cell? ⟨w3.heap.size, 0, none⟩ = some (.int .i64 1) := by rw [hW]; go_cell
  have rc1 : W.cell? ⟨w3.heap.size, 1, none⟩ = some (.int .i64 0) := by rw [hW]; go_cell
  clear hW qa0 qa1 qb0 qb1 pa0 pa1 e1 e2 e3
  go_wp2_with fail
  have t1 : twoV 1 128 3 true = [1, 2] := by decide
  refine (two_any 1 128 3 true _ (by decide) (by decide) (by decide)).mono ?_
  rw [t1]
  clear t1
  rintro e u1 ⟨g1, rfl, hg1, hr1, hb1⟩
  have k1 := below_step (Below.refl W.heap.size W) hb1
  go_wp2_with fail
  refine (ints_any _ _ _ _ _ _ [1, 2] [1, 2] _ (Reads.below hr1 (below_alloc (Below.refl _ _) _) (Nat.le_refl _)) (reads_new _ #[.int .i64 1, .int .i64 2] _ 1 2 rfl) (by decide) (by decide)).mono ?_
  rintro e v1 ⟨rfl, hc1⟩
  have j1 := below_step (below_alloc k1 _) hc1
  have fa10 : v1.cell? ⟨w1.heap.size, 0, none⟩ = _ := (j1.cell (p := ⟨w1.heap.size, 0, none⟩) (by show w1.heap.size < W.heap.size; omega)).trans ra0
  have fa11 : v1.cell? ⟨w1.heap.size, 1, none⟩ = _ := (j1.cell (p := ⟨w1.heap.size, 1, none⟩) (by show w1.heap.size < W.heap.size; omega)).trans ra1
  have fb10 : v1.cell? ⟨w2.heap.size, 0, none⟩ = _ := (j1.cell (p := ⟨w2.heap.size, 0, none⟩) (by show w2.heap.size < W.heap.size; omega)).trans rb0
  have fb11 : v1.cell? ⟨w2.heap.size, 1, none⟩ = _ := (j1.cell (p := ⟨w2.heap.size, 1, none⟩) (by show w2.heap.size < W.heap.size; omega)).trans rb1
  have fc10 : v1.cell? ⟨w3.heap.size, 0, none⟩ = _ := (j1.cell (p := ⟨w3.heap.size, 0, none⟩) (by show w3.heap.size < W.heap.size; omega)).trans rc0
  have fc11 : v1.cell? ⟨w3.heap.size, 1, none⟩ = _ := (j1.cell (p := ⟨w3.heap.size, 1, none⟩) (by show w3.heap.size < W.heap.size; omega)).trans rc1
  go_wp2_with fail
  have t2 : twoV 1 128 3 false = [1] := by decide
  refine (two_any 1 128 3 false _ (by decide) (by decide) (by decide)).mono ?_
  rw [t2]
  clear t2
  rintro e u2 ⟨g2, rfl, hg2, hr2, hb2⟩
  have k2 := below_step j1 hb2
  go_wp2_with fail
  refine (ints_any _ _ _ _ _ _ [1] [1] _ (Reads.below hr2 (below_alloc (Below.refl _ _) _) (Nat.le_refl _)) (reads_new _ #[.int .i64 1] _ 1 1 rfl) (by decide) (by decide)).mono ?_
  rintro e v2 ⟨rfl, hc2⟩
  have j2 := below_step (below_alloc k2 _) hc2
  have fa20 : v2.cell? ⟨w1.heap.size, 0, none⟩ = _ := (j2.cell (p := ⟨w1.heap.size, 0, none⟩) (by show w1.heap.size < W.heap.size; omega)).trans ra0
  have fa21 : v2.cell? ⟨w1.heap.size, 1, none⟩ = _ := (j2.cell (p := ⟨w1.heap.size, 1, none⟩) (by show w1.heap.size < W.heap.size; omega)).trans ra1
  have fb20 : v2.cell? ⟨w2.heap.size, 0, none⟩ = _ := (j2.cell (p := ⟨w2.heap.size, 0, none⟩) (by show w2.heap.size < W.heap.size; omega)).trans rb0
  have fb21 : v2.cell? ⟨w2.heap.size, 1, none⟩ = _ := (j2.cell (p := ⟨w2.heap.size, 1, none⟩) (by show w2.heap.size < W.heap.size; omega)).trans rb1
  have fc20 : v2.cell? ⟨w3.heap.size, 0, none⟩ = _ := (j2.cell (p := ⟨w3.heap.size, 0, none⟩) (by show w3.heap.size < W.heap.size; omega)).trans rc0
  have fc21 : v2.cell? ⟨w3.heap.size, 1, none⟩ = _ := (j2.cell (p := ⟨w3.heap.size, 1, none⟩) (by show w3.heap.size < W.heap.size; omega)).trans rc1
  go_wp2_with fail
  have t3 : twoV 1 0 1 true = [1] := by decide
  refine (two_any 1 0 1 true _ (by decide) (by decide) (by decide)).mono ?_
  rw [t3]
  clear t3
  rintro e u3 ⟨g3, rfl, hg3, hr3, hb3⟩
  have k3 := below_step j2 hb3
  go_wp2_with fail
  refine (ints_any _ _ _ _ _ _ [1] [1] _ (Reads.below hr3 (below_alloc (Below.refl _ _) _) (Nat.le_refl _)) (reads_new _ #[.int .i64 1] _ 1 1 rfl) (by decide) (by decide)).mono ?_
  rintro e v3 ⟨rfl, hc3⟩
  have j3 := below_step (below_alloc k3 _) hc3
  have fa30 : v3.cell? ⟨w1.heap.size, 0, none⟩ = _ := (j3.cell (p := ⟨w1.heap.size, 0, none⟩) (by show w1.heap.size < W.heap.size; omega)).trans ra0
  have fa31 : v3.cell? ⟨w1.heap.size, 1, none⟩ = _ := (j3.cell (p := ⟨w1.heap.size, 1, none⟩) (by show w1.heap.size < W.heap.size; omega)).trans ra1
  have fb30 : v3.cell? ⟨w2.heap.size, 0, none⟩ = _ := (j3.cell (p := ⟨w2.heap.size, 0, none⟩) (by show w2.heap.size < W.heap.size; omega)).trans rb0
  have fb31 : v3.cell? ⟨w2.heap.size, 1, none⟩ = _ := (j3.cell (p := ⟨w2.heap.size, 1, none⟩) (by show w2.heap.size < W.heap.size; omega)).trans rb1
  have fc30 : v3.cell? ⟨w3.heap.size, 0, none⟩ = _ := (j3.cell (p := ⟨w3.heap.size, 0, none⟩) (by show w3.heap.size < W.heap.size; omega)).trans rc0
  have fc31 : v3.cell? ⟨w3.heap.size, 1, none⟩ = _ := (j3.cell (p := ⟨w3.heap.size, 1, none⟩) (by show w3.heap.size < W.heap.size; omega)).trans rc1
  go_wp2_with fail
  go_ret
  exact ⟨rfl, below_step bW j3⟩
end Go.Proofs.Ytacplecebhmeiaa.LevelB

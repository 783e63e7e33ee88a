/-
  The walk of the law that one level is asked for, or two.
-/
import Derived.Test.YtacplecebhmeiaaLevelC
namespace Go.Proofs.Ytacplecebhmeiaa.LevelD
open Go.RowKit Rd Alk Log Level LevelB
set_option linter.unusedVariables false
set_option linter.unusedSimpArgs false
set_option maxRecDepth 10000

theorem part_bd {r B : Int} (hB : 1 ≤ B) (h1 : B ≤ r) (h2 : r < 2 * B) : 0 ≤ (r - B) * 256 / B ∧ (r - B) * 256 / B ≤ 255 := by
  constructor
  · exact Int.ediv_nonneg (by omega) (by omega)
  · have : (r - B) * 256 / B < 256 := Int.ediv_lt_of_lt_mul (by omega) (by omega)
    omega
theorem ofR_mid {depth r : Int} {K : Nat} (hs : 65536 < r) (hK : log2V (r / 65536) = K) (hk : ¬ depV depth ≤ (K : Int)) : ofR depth r = ((K : Int), (r - 65536 * 2 ^ K) * 256 / (65536 * 2 ^ K)) := by
  unfold ofR; rw [if_neg (by omega), hK, if_neg hk]; simp
theorem ofR_far {depth r : Int} {K : Nat} (hs : 65536 < r) (hK : log2V (r / 65536) = K) (hk : depV depth ≤ (K : Int)) : ofR depth r = (depV depth, 0) := by
  unfold ofR; rw [if_neg (by omega), hK, if_pos hk]
theorem ofR_near {depth r : Int} (hs : r ≤ 65536) : ofR depth r = (0, 0) := by simp [ofR, hs]
theorem depV_bd (d : Int) : 0 ≤ depV d ∧ depV d ≤ 3 := by unfold depV; split <;> omega
theorem topV_bd (a b c d : Int) : 0 ≤ topV a b c d ∧ topV a b c d ≤ 1099511627776 := by
  have := far_bd a; have := far_bd b; have := far_bd c; have := far_bd d
  unfold topV; omega
theorem ofR_bd (depth r : Int) (h0 : 0 ≤ r) (h1 : r ≤ 1099511627776) : 0 ≤ (ofR depth r).1 ∧ (ofR depth r).1 ≤ depV depth ∧ 0 ≤ (ofR depth r).2 ∧ (ofR depth r).2 ≤ 255 ∧ ((ofR depth r).1 = depV depth → (ofR depth r).2 = 0) := by
  have hd := depV_bd depth
  by_cases hs : r ≤ 65536
  · rw [ofR_near hs]; simp; omega
  · obtain ⟨K, hK, K1, p1, p2⟩ := log2_of (r / 65536) (by omega) (by omega)
    by_cases hk : depV depth ≤ (K : Int)
    · rw [ofR_far (by omega) hK hk]; simp; omega
    · rw [ofR_mid (by omega) hK hk]
      have q := part_bd (r := r) (B := 65536 * 2 ^ K) (by have : (0 : Int) < 2 ^ K := Int.pow_pos (by omega)
                                                          omega) (by omega) (by omega)
      exact ⟨by simp, by simp; omega, q.1, q.2, fun h => by simp at h; omega⟩

set_option maxHeartbeats 1000000 in
theorem LevelTwo_walk (a0 : Int) (a1 : Int) (a2 : Int) (a3 : Int) (a4 : Int) (a5 : Bool) (w : World) (w0 : (Lit.int .i64 a0).wf = true) (w1 : (Lit.int .i64 a1).wf = true) (w2 : (Lit.int .i64 a2).wf = true) (w3 : (Lit.int .i64 a3).wf = true) (w4 : (Lit.int .i64 a4).wf = true) :
    Calls Try.prog 5 #[.int .i64 a0, .int .i64 a1, .int .i64 a2, .int .i64 a3, .int .i64 a4, .bool a5] w fun e w' => e = .returned (.bool true) ∧ Below w.heap.size w w' := by
  obtain ⟨k1, k2⟩ := wf_bd w0
  have hN : 0 ≤ a0 % 4 ∧ a0 % 4 ≤ 3 := by omega
  have hdep : depV (a0 % 4) = a0 % 4 := by unfold depV; rw [if_neg (by omega)]
  have ht := topV_bd a1 a2 a3 a4
  have hb := ofR_bd (a0 % 4) (topV a1 a2 a3 a4) ht.1 ht.2
  rw [hdep] at hb
  have CO := Lib.hid (fun W => of_any (a0 % 4) a1 a2 a3 a4 W (wf_mk (by omega) (by omega)) w1 w2 w3 w4)
  have CR := Lib.hid (fun W => round_any a0 4 W k1 k2 (by omega) (by omega))
  clear hdep ht w0 w1 w2 w3 w4 k1 k2
  obtain ⟨⟨L, T⟩, hp⟩ : ∃ p, ofR (a0 % 4) (topV a1 a2 a3 a4) = p := ⟨_, rfl⟩
  rw [hp] at hb CO
  simp only at hb
  obtain ⟨N, hNe⟩ : ∃ N, a0 % 4 = N := ⟨_, rfl⟩
  rw [hNe] at hb CO CR hN
  clear hp hNe
  obtain ⟨b1, b2, b3, b4, b5⟩ := hb
  have CT := Lib.hid (fun W => two_any L T N a5 W (by omega) (by omega) (by omega))
  have hc : (L = N ∧ T = 0) ∨ (L < N ∧ T = 0) ∨ (L < N ∧ 0 < T ∧ a5 = true) ∨ (L < N ∧ 0 < T ∧ a5 = false) := by
    rcases Int.lt_or_eq_of_le b2 with h | h
    · rcases Int.lt_or_eq_of_le b3 with h' | h'
      · cases a5
        · exact .inr (.inr (.inr ⟨h, h', rfl⟩))
        · exact .inr (.inr (.inl ⟨h, h', rfl⟩))
      · exact .inr (.inl ⟨h, h'.symm⟩)
    · exact .inl ⟨h, b5 h⟩
  clear b5
  have hl : (L < N ∧ 0 < T ∧ a5 = true ∧ twoV L T N a5 = [L, L + 1]) ∨ (twoV L T N a5 = [L] ∧ (L = N ∧ T = 0 ∨ L < N ∧ T = 0 ∨ L < N ∧ 0 < T ∧ a5 = false)) := by
    rcases hc with ⟨h1, h2⟩ | ⟨h1, h2⟩ | ⟨h1, h2, h3⟩ | ⟨h1, h2, h3⟩
    · exact .inr ⟨by simp [twoV, h2], .inl ⟨h1, h2⟩⟩
    · exact .inr ⟨by simp [twoV, h2], .inr (.inl ⟨h1, h2⟩)⟩
    · refine .inl ⟨h1, h2, h3, ?_⟩
      have : T ≠ 0 := by omega
      simp [twoV, h3, h1, this]
    · exact .inr ⟨by simp [twoV, h3], .inr (.inr ⟨h1, h2, h3⟩)⟩
  clear hc
  rcases hl with ⟨h1, h2, rfl, e0⟩ | ⟨e0, ⟨rfl, rfl⟩ | ⟨h1, rfl⟩ | ⟨h1, h2, rfl⟩⟩
  · have d3 : decide (T < 0) = false := decide_eq_false (by omega)
    have d4 : decide (255 < T) = false := decide_eq_false (by omega)
    have d5 : (L == N) = false := by simp; omega
    have d6 : decide (0 < T) = true := decide_eq_true (by omega)
    have d1 : decide (L < 0) = false := decide_eq_false (by omega)
    have d2 : decide (N < L) = false := decide_eq_false (by omega)
    go_enter Try.func5, Try.ntmps5
    go_wp2_with fail
    refine (CR.out _).mono ?_
    rintro e w' ⟨rfl, rfl⟩
    go_wp2_with fail
    refine (CO.out _).mono ?_
    rintro e w1 ⟨rfl, h1⟩
    go_wp2_with fail
    refine (CT.out _).mono ?_
    rw [e0]
    rintro e W ⟨g, rfl, hg, hr, h2⟩
    have s1 := h1.size
    have s2 := h2.size
    simp only [World.size_alloc] at s2 hg
    have n1 : w1.heap.size < W.heap.size := by omega
    have fx0 : W.cell? ⟨w1.heap.size, 0, none⟩ = some (.int .i64 L) := by rw [h2.cell (p := ⟨w1.heap.size, 0, none⟩) (by simp)]; go_cell
    have fx1 : W.cell? ⟨w1.heap.size, 1, none⟩ = some (.int .i64 T) := by rw [h2.cell (p := ⟨w1.heap.size, 1, none⟩) (by simp)]; go_cell
    have fl := hr.2.resolve_left (by simp)
    obtain ⟨gb, go, ge, glt, gc⟩ := fl
    obtain ⟨rfl, rfl⟩ : gb = g ∧ go = 0 := by simpa using ge.symm
    have fg0 : W.cell? ⟨gb, 0, none⟩ = some (.int .i64 L) := by simpa using gc 0 (by simp)
    have fg1 : W.cell? ⟨gb, 1, none⟩ = some (.int .i64 (L + 1)) := by simpa using gc 1 (by simp)
    clear ge gc hr
    go_wp2_with fail
    go_quiet (fail)
    go_upto_region 7 with (fail)
    refine name_world ?_
    intro W2 hW2
    have kk : Below W.heap.size W W2 := by rw [hW2]; repeat' (first | (with_reducible exact Below.refl _ _) | (with_reducible refine Rd.below_step ?_ (by assumption)) | (with_reducible refine Rd.below_alloc ?_ _) | (with_reducible refine Rd.below_drewN ?_ _) | (with_reducible refine Below.drew ?_) | (with_reducible refine Below.setCell ?_ ?_ _) | go_size)
    have gx0 := Go.cell_regrown ((kk.cell (p := ⟨w1.heap.size, 0, none⟩) n1).trans fx0)
    have gx1 := Go.cell_regrown ((kk.cell (p := ⟨w1.heap.size, 1, none⟩) n1).trans fx1)
    have gg0 := Go.cell_regrown ((kk.cell (p := ⟨gb, 0, none⟩) glt).trans fg0)
    have gg1 := Go.cell_regrown ((kk.cell (p := ⟨gb, 1, none⟩) glt).trans fg1)
    clear hW2
    refine wp_region_quiet_below (by kernel_rfl) (by kernel_rfl) ?_
    repeat (go_big_quiet_step (exact Calls.regrown_of (awake_any _)))
    refine wpQuiet_nil ?_
    intro _ hw'
    obtain ⟨⟨dq, osq⟩, hw''⟩ := hw'
    subst hw''
    go_wp2
    go_ret
    exact ⟨rfl, below_step (below_step (below_step (below_alloc h1 _) h2) kk) (below_regrown W2 dq osq)⟩
  · have d7 : (L == L) = true := by simp
    have d1 : decide (L < 0) = false := decide_eq_false (by omega)
    have d2 : decide (L < L) = false := decide_eq_false (by omega)
    cases a5
    all_goals
      go_enter Try.func5, Try.ntmps5
      go_wp2_with fail
      refine (CR.out _).mono ?_
      rintro e w' ⟨rfl, rfl⟩
      go_wp2_with fail
      refine (CO.out _).mono ?_
      rintro e w1 ⟨rfl, h1⟩
      go_wp2_with fail
      refine (CT.out _).mono ?_
      rw [e0]
      rintro e W ⟨g, rfl, hg, hr, h2⟩
      have s1 := h1.size
      have s2 := h2.size
      simp only [World.size_alloc] at s2 hg
      have n1 : w1.heap.size < W.heap.size := by omega
      have fx0 : W.cell? ⟨w1.heap.size, 0, none⟩ = some (.int .i64 L) := by rw [h2.cell (p := ⟨w1.heap.size, 0, none⟩) (by simp)]; go_cell
      have fx1 : W.cell? ⟨w1.heap.size, 1, none⟩ = some (.int .i64 0) := by rw [h2.cell (p := ⟨w1.heap.size, 1, none⟩) (by simp)]; go_cell
      have fl := hr.2.resolve_left (by simp)
      obtain ⟨gb, go, ge, glt, gc⟩ := fl
      obtain ⟨rfl, rfl⟩ : gb = g ∧ go = 0 := by simpa using ge.symm
      have fg0 : W.cell? ⟨gb, 0, none⟩ = some (.int .i64 L) := by simpa using gc 0 (by simp)
      clear ge gc hr
      go_wp2_with fail
      go_quiet (fail)
      go_upto_region 7 with (fail)
      refine name_world ?_
      intro W2 hW2
      have kk : Below W.heap.size W W2 := by rw [hW2]; repeat' (first | (with_reducible exact Below.refl _ _) | (with_reducible refine Rd.below_step ?_ (by assumption)) | (with_reducible refine Rd.below_alloc ?_ _) | (with_reducible refine Rd.below_drewN ?_ _) | (with_reducible refine Below.drew ?_) | (with_reducible refine Below.setCell ?_ ?_ _) | go_size)
      have gx0 := Go.cell_regrown ((kk.cell (p := ⟨w1.heap.size, 0, none⟩) n1).trans fx0)
      have gx1 := Go.cell_regrown ((kk.cell (p := ⟨w1.heap.size, 1, none⟩) n1).trans fx1)
      have gg0 := Go.cell_regrown ((kk.cell (p := ⟨gb, 0, none⟩) glt).trans fg0)
      clear hW2
      refine wp_region_quiet_below (by kernel_rfl) (by kernel_rfl) ?_
      repeat (go_big_quiet_step (exact Calls.regrown_of (awake_any _)))
      refine wpQuiet_nil ?_
      intro _ hw'
      obtain ⟨⟨dq, osq⟩, hw''⟩ := hw'
      subst hw''
      go_wp2
      go_ret
      exact ⟨rfl, below_step (below_step (below_step (below_alloc h1 _) h2) kk) (below_regrown W2 dq osq)⟩
  · have d5 : (L == N) = false := by simp; omega
    have d1 : decide (L < 0) = false := decide_eq_false (by omega)
    have d2 : decide (N < L) = false := decide_eq_false (by omega)
    cases a5
    all_goals
      go_enter Try.func5, Try.ntmps5
      go_wp2_with fail
      refine (CR.out _).mono ?_
      rintro e w' ⟨rfl, rfl⟩
      go_wp2_with fail
      refine (CO.out _).mono ?_
      rintro e w1 ⟨rfl, h1⟩
      go_wp2_with fail
      refine (CT.out _).mono ?_
      rw [e0]
      rintro e W ⟨g, rfl, hg, hr, h2⟩
      have s1 := h1.size
      have s2 := h2.size
      simp only [World.size_alloc] at s2 hg
      have n1 : w1.heap.size < W.heap.size := by omega
      have fx0 : W.cell? ⟨w1.heap.size, 0, none⟩ = some (.int .i64 L) := by rw [h2.cell (p := ⟨w1.heap.size, 0, none⟩) (by simp)]; go_cell
      have fx1 : W.cell? ⟨w1.heap.size, 1, none⟩ = some (.int .i64 0) := by rw [h2.cell (p := ⟨w1.heap.size, 1, none⟩) (by simp)]; go_cell
      have fl := hr.2.resolve_left (by simp)
      obtain ⟨gb, go, ge, glt, gc⟩ := fl
      obtain ⟨rfl, rfl⟩ : gb = g ∧ go = 0 := by simpa using ge.symm
      have fg0 : W.cell? ⟨gb, 0, none⟩ = some (.int .i64 L) := by simpa using gc 0 (by simp)
      clear ge gc hr
      go_wp2_with fail
      go_quiet (fail)
      go_upto_region 7 with (fail)
      refine name_world ?_
      intro W2 hW2
      have kk : Below W.heap.size W W2 := by rw [hW2]; repeat' (first | (with_reducible exact Below.refl _ _) | (with_reducible refine Rd.below_step ?_ (by assumption)) | (with_reducible refine Rd.below_alloc ?_ _) | (with_reducible refine Rd.below_drewN ?_ _) | (with_reducible refine Below.drew ?_) | (with_reducible refine Below.setCell ?_ ?_ _) | go_size)
      have gx0 := Go.cell_regrown ((kk.cell (p := ⟨w1.heap.size, 0, none⟩) n1).trans fx0)
      have gx1 := Go.cell_regrown ((kk.cell (p := ⟨w1.heap.size, 1, none⟩) n1).trans fx1)
      have gg0 := Go.cell_regrown ((kk.cell (p := ⟨gb, 0, none⟩) glt).trans fg0)
      clear hW2
      refine wp_region_quiet_below (by kernel_rfl) (by kernel_rfl) ?_
      repeat (go_big_quiet_step (exact Calls.regrown_of (awake_any _)))
      refine wpQuiet_nil ?_
      intro _ hw'
      obtain ⟨⟨dq, osq⟩, hw''⟩ := hw'
      subst hw''
      go_wp2
      go_ret
      exact ⟨rfl, below_step (below_step (below_step (below_alloc h1 _) h2) kk) (below_regrown W2 dq osq)⟩
  · have d3 : decide (T < 0) = false := decide_eq_false (by omega)
    have d4 : decide (255 < T) = false := decide_eq_false (by omega)
    have d5 : (L == N) = false := by simp; omega
    have d6 : decide (0 < T) = true := decide_eq_true (by omega)
    have d1 : decide (L < 0) = false := decide_eq_false (by omega)
    have d2 : decide (N < L) = false := decide_eq_false (by omega)
    go_enter Try.func5, Try.ntmps5
    go_wp2_with fail
    refine (CR.out _).mono ?_
    rintro e w' ⟨rfl, rfl⟩
    go_wp2_with fail
    refine (CO.out _).mono ?_
    rintro e w1 ⟨rfl, h1⟩
    go_wp2_with fail
    refine (CT.out _).mono ?_
    rw [e0]
    rintro e W ⟨g, rfl, hg, hr, h2⟩
    have s1 := h1.size
    have s2 := h2.size
    simp only [World.size_alloc] at s2 hg
    have n1 : w1.heap.size < W.heap.size := by omega
    have fx0 : W.cell? ⟨w1.heap.size, 0, none⟩ = some (.int .i64 L) := by rw [h2.cell (p := ⟨w1.heap.size, 0, none⟩) (by simp)]; go_cell
    have fx1 : W.cell? ⟨w1.heap.size, 1, none⟩ = some (.int .i64 T) := by rw [h2.cell (p := ⟨w1.heap.size, 1, none⟩) (by simp)]; go_cell
    have fl := hr.2.resolve_left (by simp)
    obtain ⟨gb, go, ge, glt, gc⟩ := fl
    obtain ⟨rfl, rfl⟩ : gb = g ∧ go = 0 := by simpa using ge.symm
    have fg0 : W.cell? ⟨gb, 0, none⟩ = some (.int .i64 L) := by simpa using gc 0 (by simp)
    clear ge gc hr
    go_wp2_with fail
    go_quiet (fail)
    go_upto_region 7 with (fail)
    refine name_world ?_
    intro W2 hW2
    have kk : Below W.heap.size W W2 := by rw [hW2]; repeat' (first | (with_reducible exact Below.refl _ _) | (with_reducible refine Rd.below_step ?_ (by assumption)) | (with_reducible refine Rd.below_alloc ?_ _) | (with_reducible refine Rd.below_drewN ?_ _) | (with_reducible refine Below.drew ?_) | (with_reducible refine Below.setCell ?_ ?_ _) | go_size)
    have gx0 := Go.cell_regrown ((kk.cell (p := ⟨w1.heap.size, 0, none⟩) n1).trans fx0)
    have gx1 := Go.cell_regrown ((kk.cell (p := ⟨w1.heap.size, 1, none⟩) n1).trans fx1)
    have gg0 := Go.cell_regrown ((kk.cell (p := ⟨gb, 0, none⟩) glt).trans fg0)
    clear hW2
    refine wp_region_quiet_below (by kernel_rfl) (by kernel_rfl) ?_
    repeat (go_big_quiet_step (exact Calls.regrown_of (awake_any _)))
    refine wpQuiet_nil ?_
    intro _ hw'
    obtain ⟨⟨dq, osq⟩, hw''⟩ := hw'
    subst hw''
    go_wp2
    go_ret
    exact ⟨rfl, below_step (below_step (below_step (below_alloc h1 _) h2) kk) (below_regrown W2 dq osq)⟩

end Go.Proofs.Ytacplecebhmeiaa.LevelD

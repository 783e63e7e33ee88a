/-
  What of a row is inside of a plane.
-/
import Derived.Test.YtimfjogallcgnaaClD
import Derived.BigGuard
namespace Go.Proofs.Ytimfjogallcgnaa.ClE
open Go.RowKit FixA Num Rd Go.Proofs.Ytimfjogallcgnaa.Row Mid ClM ClA ClB ClC ClD
set_option linter.unusedVariables false
set_option linter.unusedSimpArgs false
set_option maxRecDepth 10000
theorem len6 {v : List Int} (h : v.length = 6) : ∃ a b c d e f, v = [a, b, c, d, e, f] := by
  match v, h with
  | [a, b, c, d, e, f], _ => exact ⟨a, b, c, d, e, f, rfl⟩
set_option maxHeartbeats 4000000 in
theorem within_any (row : ClM.Row) (ad : Option Addr) (c : Nat) (k : Int) (w : World) (h : RowAt w ad row) (hv : VxR row) (hm : row.length ≤ 100000) :
    Calls Try.prog 37 #[.slice ad row.length c, .int .i64 k] w fun e w' => (∃ ad' c', e = .returned (.slice ad' (within k row).length c') ∧ RowAt w' ad' (within k row)) ∧ Below w.heap.size w w' := by
  obtain ⟨n, hn⟩ : ∃ n, row.length = n := ⟨_, rfl⟩
  rw [hn]
  rw [hn] at hm
  have HN := Lib.hid hn
  have H := Lib.hid h
  have HV := Lib.hid hv
  clear hn h hv
  go_enter Try.func37, Try.ntmps37
  go_wp2_with fail
  go_loopw [5, 13] (fun v i wr => ∃ m : Nat, m ≤ n ∧ i = .int .i64 m ∧ Hid (wr.ownsRow w.heap.size 25 6 v (withinK k row m).length (fl (withinK k row m))) ∧ Below w.heap.size w wr) (fun _ i _ => n - (intOf i).toNat)
  case atStart => exact ⟨0, by omega, rfl, World.ownsRow_nil _ _ _ _, by repeat' (first | (with_reducible exact Below.refl _ _) | (with_reducible refine Rd.below_step ?_ (by assumption)) | (with_reducible refine Rd.below_alloc ?_ _) | (with_reducible refine Rd.below_drewN ?_ _) | (with_reducible refine Below.drew ?_) | (with_reducible refine Below.setCell ?_ ?_ _) | (with_reducible refine Rd.below_setRow ?_ ?_ _) | go_size | (simp only [World.size_alloc]; omega) | omega)⟩
  case round =>
    obtain ⟨m, hmn, rfl, HO, hb⟩ := hrel
    by_cases hlt : m < n
    · have hlt' : (m : Int) < n := by omega
      obtain ⟨q, hq⟩ : ∃ q, (m + 1) % n = q := ⟨_, rfl⟩
      have hqn : q < n := by rw [← hq]; exact Nat.mod_lt _ (by omega)
      have hqn' : (q : Int) < n := by omega
      have hq1 : ((m : Int) + 1) % (n : Int) = (q : Int) := by exact_mod_cast hq
      have hq2 : ((m : Int) + 1).tmod (n : Int) = (q : Int) := by rw [Int.tmod_eq_emod_of_nonneg (by omega)]; exact hq1
      have hnx : nxt row m = at_ row q := by unfold nxt at_; rw [HN.out, hq]
      obtain ⟨b, o, ea, hb0, hc⟩ : ∃ b o, ad = some ⟨b, o, none⟩ ∧ b < w.heap.size ∧ ∀ i, i < row.length → ∀ j, j < 6 → w.cell? ⟨b, o + i * 6 + j, none⟩ = some (.int .i64 (ClM.g (at_ row i) j)) := by
        rcases H.out.2 with h | h
        · have := HN.out; rw [h] at this; simp at this; omega
        · exact h
      subst ea
      have va := at_vx HV.out (i := m) (by rw [HN.out]; exact hlt)
      have vb := at_vx HV.out (i := q) (by rw [HN.out]; exact hqn)
      have ca : ∀ j, j < 6 → wr.cell? ⟨b, o + m * 6 + j, none⟩ = some (.int .i64 (ClM.g (at_ row m) j)) := fun j hj => (hb.cell (p := ⟨b, o + m * 6 + j, none⟩) hb0).trans (hc m (by rw [HN.out]; exact hlt) j hj)
      have cb : ∀ j, j < 6 → wr.cell? ⟨b, o + q * 6 + j, none⟩ = some (.int .i64 (ClM.g (at_ row q) j)) := fun j hj => (hb.cell (p := ⟨b, o + q * 6 + j, none⟩) hb0).trans (hc q (by rw [HN.out]; exact hqn) j hj)
      have hstep : withinK k row (m + 1) = withinK k row m ++ piece k (at_ row m) (at_ row q) := by rw [withinK_succ, hnx]
      obtain ⟨x0, x1, x2, x3, x4, x5, eA⟩ := len6 va.len
      obtain ⟨y0, y1, y2, y3, y4, y5, eB⟩ := len6 vb.len
      rw [eA] at va ca hstep
      rw [eB] at vb cb hstep
      have HS := Lib.hid hstep
      have VA := Lib.hid va
      have VB := Lib.hid vb
      have a0 : wr.cell? ⟨b, o + m * 6, none⟩ = some (.int .i64 x0) := ca 0 (by omega)
      have b0 : wr.cell? ⟨b, o + q * 6, none⟩ = some (.int .i64 y0) := cb 0 (by omega)
      have a1 : wr.cell? ⟨b, o + m * 6 + 1, none⟩ = some (.int .i64 x1) := ca 1 (by omega)
      have b1 : wr.cell? ⟨b, o + q * 6 + 1, none⟩ = some (.int .i64 y1) := cb 1 (by omega)
      have a2 : wr.cell? ⟨b, o + m * 6 + 2, none⟩ = some (.int .i64 x2) := ca 2 (by omega)
      have b2 : wr.cell? ⟨b, o + q * 6 + 2, none⟩ = some (.int .i64 y2) := cb 2 (by omega)
      have a3 : wr.cell? ⟨b, o + m * 6 + 3, none⟩ = some (.int .i64 x3) := ca 3 (by omega)
      have b3 : wr.cell? ⟨b, o + q * 6 + 3, none⟩ = some (.int .i64 y3) := cb 3 (by omega)
      have a4 : wr.cell? ⟨b, o + m * 6 + 4, none⟩ = some (.int .i64 x4) := ca 4 (by omega)
      have b4 : wr.cell? ⟨b, o + q * 6 + 4, none⟩ = some (.int .i64 y4) := cb 4 (by omega)
      have a5 : wr.cell? ⟨b, o + m * 6 + 5, none⟩ = some (.int .i64 x5) := ca 5 (by omega)
      have b5 : wr.cell? ⟨b, o + q * 6 + 5, none⟩ = some (.int .i64 y5) := cb 5 (by omega)
      have hbw : b < wr.heap.size := Nat.lt_of_lt_of_le hb0 hb.size
      clear hstep va vb eA eB ca cb hc hnx hq
      go_upto_region 6 with (fail)
      refine Rd.name_world ?_
      intro w2 hw
      have bA : blk w2 wr.heap.size = some (.cells (cs .i64 [x0, x1, x2, x3, x4, x5]) 25 (0, 0)) := by rw [hw]; exact blk2_0 _ _ _
      have bB : blk w2 (wr.heap.size + 1) = some (.cells (cs .i64 [y0, y1, y2, y3, y4, y5]) 25 (0, 0)) := by rw [hw]; exact blk2_1 _ _ _
      have HO2 : Hid (w2.ownsRow w.heap.size 25 6 u5 (withinK k row m).length (fl (withinK k row m))) := by rw [hw]; exact (HO.out.alloc _).alloc _
      have L2 : Below w.heap.size w w2 := by
        rw [hw]
        repeat' (first | (with_reducible exact Below.refl _ _) | (with_reducible refine Rd.below_step ?_ (by assumption)) | (with_reducible refine Rd.below_alloc ?_ _) | (with_reducible refine Rd.below_drewN ?_ _) | (with_reducible refine Below.drew ?_) | (with_reducible refine Below.setCell ?_ ?_ _) | (with_reducible refine Rd.below_setRow ?_ ?_ _) | go_size | (simp only [World.size_alloc]; omega) | omega)
      have s2 := blk_lt bB
      have s1 : wr.heap.size < w2.heap.size := by omega
      have OWN := Lib.hid (fun (j : Nat) (e : u5.ownBlock = some j) => (HO.out.lt j e).2)
      clear hw HO a0 b0 a1 b1 a2 b2 a3 b3 a4 b4 a5 b5
      have gA0 := Go.cell_regrown (w := w2) (a := ⟨wr.heap.size, 0, none⟩) (v := .int .i64 x0) (by rw [blk_cell bA]; rfl)
      have gB0 := Go.cell_regrown (w := w2) (a := ⟨wr.heap.size + 1, 0, none⟩) (v := .int .i64 y0) (by rw [blk_cell bB]; rfl)
      have gA1 := Go.cell_regrown (w := w2) (a := ⟨wr.heap.size, 1, none⟩) (v := .int .i64 x1) (by rw [blk_cell bA]; rfl)
      have gB1 := Go.cell_regrown (w := w2) (a := ⟨wr.heap.size + 1, 1, none⟩) (v := .int .i64 y1) (by rw [blk_cell bB]; rfl)
      have gA2 := Go.cell_regrown (w := w2) (a := ⟨wr.heap.size, 2, none⟩) (v := .int .i64 x2) (by rw [blk_cell bA]; rfl)
      have gB2 := Go.cell_regrown (w := w2) (a := ⟨wr.heap.size + 1, 2, none⟩) (v := .int .i64 y2) (by rw [blk_cell bB]; rfl)
      have gA3 := Go.cell_regrown (w := w2) (a := ⟨wr.heap.size, 3, none⟩) (v := .int .i64 x3) (by rw [blk_cell bA]; rfl)
      have gB3 := Go.cell_regrown (w := w2) (a := ⟨wr.heap.size + 1, 3, none⟩) (v := .int .i64 y3) (by rw [blk_cell bB]; rfl)
      have CA : Hid (∀ W : World, Calls Try.prog 36 #[.agg #[.int .i64 x0, .int .i64 x1, .int .i64 x2, .int .i64 x3], .int .i64 k] W fun e w' => e = .returned (.int .i64 (insV [x0, x1, x2, x3, x4, x5] k)) ∧ Below W.heap.size W w') := fun W => inside_v VA.out k W
      have CB : Hid (∀ W : World, Calls Try.prog 36 #[.agg #[.int .i64 y0, .int .i64 y1, .int .i64 y2, .int .i64 y3], .int .i64 k] W fun e w' => e = .returned (.int .i64 (insV [y0, y1, y2, y3, y4, y5] k)) ∧ Below W.heap.size W w') := fun W => inside_v VB.out k W
      (refine wp_region_quiet_below (by kernel_rfl) (by kernel_rfl) ?_; (repeat (go_big_quiet_step ((first | (with_reducible exact Calls.regrown_of (CA.out _)) | (with_reducible exact Calls.regrown_of (CB.out _)))))); refine wpQuiet_nil ?_)
      intro w3 hU
      have KU := Rd.below_of_regrown hU
      clear hU CA CB gA0 gB0 gA1 gB1 gA2 gB2 gA3 gB3
      have hs := KU.size
      have bA3 := (blk_below KU _ s1).trans bA
      have bB3 := (blk_below KU _ s2).trans bB
      have HO3 := Lib.hid (owns_below HO2.out KU)
      have L3 : Below w.heap.size w w3 := by repeat' (first | (with_reducible exact Below.refl _ _) | (with_reducible refine Rd.below_step ?_ (by assumption)) | (with_reducible refine Rd.below_alloc ?_ _) | (with_reducible refine Rd.below_drewN ?_ _) | (with_reducible refine Below.drew ?_) | (with_reducible refine Below.setCell ?_ ?_ _) | (with_reducible refine Rd.below_setRow ?_ ?_ _) | go_size | (simp only [World.size_alloc]; omega) | omega)
      have s3 : wr.heap.size < w3.heap.size := by omega
      have s4 : wr.heap.size + 1 < w3.heap.size := by omega
      clear KU bA bB HO2 L2 s1 s2
      have hwb := hb.size
      have p0 : w3.cell? ⟨wr.heap.size, 0, none⟩ = some (.int .i64 x0) := by rw [blk_cell bA3]; rfl
      have q0 : w3.cell? ⟨wr.heap.size + 1, 0, none⟩ = some (.int .i64 y0) := by rw [blk_cell bB3]; rfl
      have p1 : w3.cell? ⟨wr.heap.size, 1, none⟩ = some (.int .i64 x1) := by rw [blk_cell bA3]; rfl
      have q1 : w3.cell? ⟨wr.heap.size + 1, 1, none⟩ = some (.int .i64 y1) := by rw [blk_cell bB3]; rfl
      have p2 : w3.cell? ⟨wr.heap.size, 2, none⟩ = some (.int .i64 x2) := by rw [blk_cell bA3]; rfl
      have q2 : w3.cell? ⟨wr.heap.size + 1, 2, none⟩ = some (.int .i64 y2) := by rw [blk_cell bB3]; rfl
      have p3 : w3.cell? ⟨wr.heap.size, 3, none⟩ = some (.int .i64 x3) := by rw [blk_cell bA3]; rfl
      have q3 : w3.cell? ⟨wr.heap.size + 1, 3, none⟩ = some (.int .i64 y3) := by rw [blk_cell bB3]; rfl
      have p4 : w3.cell? ⟨wr.heap.size, 4, none⟩ = some (.int .i64 x4) := by rw [blk_cell bA3]; rfl
      have q4 : w3.cell? ⟨wr.heap.size + 1, 4, none⟩ = some (.int .i64 y4) := by rw [blk_cell bB3]; rfl
      have p5 : w3.cell? ⟨wr.heap.size, 5, none⟩ = some (.int .i64 x5) := by rw [blk_cell bA3]; rfl
      have q5 : w3.cell? ⟨wr.heap.size + 1, 5, none⟩ = some (.int .i64 y5) := by rw [blk_cell bB3]; rfl
      have hwl := withinK_len k row m
      by_cases iA : 0 ≤ insV [x0, x1, x2, x3, x4, x5] k
      · have jA : inB k [x0, x1, x2, x3, x4, x5] = true := decide_eq_true iA
        by_cases iB : 0 ≤ insV [y0, y1, y2, y3, y4, y5] k
        · have jB : inB k [y0, y1, y2, y3, y4, y5] = true := decide_eq_true iB
          have hp : ClM.piece k [x0, x1, x2, x3, x4, x5] [y0, y1, y2, y3, y4, y5] = [[x0, x1, x2, x3, x4, x5]] := by unfold ClM.piece; rw [jA, jB]; rfl
          have HP := Lib.hid hp
          clear jA jB hp
          go_upto_region 8 with (fail)
          go_wp2_with (at_builtin; refine app_one rfl (.tmp 37) (.tmp 39) rfl w.heap.size _ _ _ rfl (HO3.out.alloc _) w3.heap.size 1 [x0, x1, x2, x3, x4, x5] rfl rfl (blk_alloc_at _ _ _ rfl) (by first | omega | (simp; omega)) (by simp; omega) ?_; intro v4 w4 ho4 hg4)
          have L4 : Below w.heap.size w w4 := (L3.alloc (by omega) _).grown hg4 (by simp; omega) (fun j hj => (HO3.out.lt j hj).1)
          exact ⟨⟨m + 1, by omega, by go_num, Lib.hid (by rw [HS.out, HP.out]; simpa using ho4), L4⟩, by simp [intOf]; omega⟩
        · have jB : inB k [y0, y1, y2, y3, y4, y5] = false := decide_eq_false iB
          have hp : ClM.piece k [x0, x1, x2, x3, x4, x5] [y0, y1, y2, y3, y4, y5] = [[x0, x1, x2, x3, x4, x5], cutV [x0, x1, x2, x3, x4, x5] [y0, y1, y2, y3, y4, y5] k] := by unfold ClM.piece; rw [jA, jB]; rfl
          have HP := Lib.hid hp
          clear jA jB hp
          go_upto_region 10 with (at_builtin; refine app_one rfl (.tmp 37) (.tmp 39) rfl w.heap.size _ _ _ rfl (HO3.out.alloc _) w3.heap.size 1 [x0, x1, x2, x3, x4, x5] rfl rfl (blk_alloc_at _ _ _ rfl) (by first | omega | (simp; omega)) (by simp; omega) ?_; intro v4 w4 ho4 hg4)
          have L4 : Below w.heap.size w w4 := (L3.alloc (by omega) _).grown hg4 (by simp; omega) (fun j hj => (HO3.out.lt j hj).1)
          have bA4 : blk w4 wr.heap.size = some (.cells (cs .i64 [x0, x1, x2, x3, x4, x5]) 25 (0, 0)) := (hg4.block _ (by simp; omega) (fun e => by have := OWN.out _ e.symm; omega)).trans ((blk_alloc_old _ _ _ s3).trans bA3)
          have bB4 : blk w4 (wr.heap.size + 1) = some (.cells (cs .i64 [y0, y1, y2, y3, y4, y5]) 25 (0, 0)) := (hg4.block _ (by simp; omega) (fun e => by have := OWN.out _ e.symm; omega)).trans ((blk_alloc_old _ _ _ s4).trans bB3)
          have g4 := hg4.size
          simp only [World.size_alloc] at g4
          have HO4 := Lib.hid ho4
          clear hg4 ho4 p0 p1 p2 p3 p4 p5 q0 q1 q2 q3 q4 q5
          have p0 : w4.cell? ⟨wr.heap.size, 0, none⟩ = some (.int .i64 x0) := by rw [blk_cell bA4]; rfl
          have q0 : w4.cell? ⟨wr.heap.size + 1, 0, none⟩ = some (.int .i64 y0) := by rw [blk_cell bB4]; rfl
          have p1 : w4.cell? ⟨wr.heap.size, 1, none⟩ = some (.int .i64 x1) := by rw [blk_cell bA4]; rfl
          have q1 : w4.cell? ⟨wr.heap.size + 1, 1, none⟩ = some (.int .i64 y1) := by rw [blk_cell bB4]; rfl
          have p2 : w4.cell? ⟨wr.heap.size, 2, none⟩ = some (.int .i64 x2) := by rw [blk_cell bA4]; rfl
          have q2 : w4.cell? ⟨wr.heap.size + 1, 2, none⟩ = some (.int .i64 y2) := by rw [blk_cell bB4]; rfl
          have p3 : w4.cell? ⟨wr.heap.size, 3, none⟩ = some (.int .i64 x3) := by rw [blk_cell bA4]; rfl
          have q3 : w4.cell? ⟨wr.heap.size + 1, 3, none⟩ = some (.int .i64 y3) := by rw [blk_cell bB4]; rfl
          have p4 : w4.cell? ⟨wr.heap.size, 4, none⟩ = some (.int .i64 x4) := by rw [blk_cell bA4]; rfl
          have q4 : w4.cell? ⟨wr.heap.size + 1, 4, none⟩ = some (.int .i64 y4) := by rw [blk_cell bB4]; rfl
          have p5 : w4.cell? ⟨wr.heap.size, 5, none⟩ = some (.int .i64 x5) := by rw [blk_cell bA4]; rfl
          have q5 : w4.cell? ⟨wr.heap.size + 1, 5, none⟩ = some (.int .i64 y5) := by rw [blk_cell bB4]; rfl
          have CC : Hid (∀ W : World, Calls Try.prog 40 #[.agg #[.int .i64 x0, .int .i64 x1, .int .i64 x2, .int .i64 x3, .int .i64 x4, .int .i64 x5], .agg #[.int .i64 y0, .int .i64 y1, .int .i64 y2, .int .i64 y3, .int .i64 y4, .int .i64 y5], .int .i64 k] W fun e w' => e = .returned (.agg (cs .i64 (cutV [x0, x1, x2, x3, x4, x5] [y0, y1, y2, y3, y4, y5] k))) ∧ Below W.heap.size W w') := fun W => cut_any [x0, x1, x2, x3, x4, x5] [y0, y1, y2, y3, y4, y5] VA.out VB.out k W
          go_wp2_with fail
          refine (CC.out _).mono ?_
          rintro e w5 ⟨rfl, hb5⟩
          have HO5 := Lib.hid (owns_below HO4.out hb5)
          have hs5 := hb5.size
          have L5 : Below w.heap.size w w5 := by repeat' (first | (with_reducible exact Below.refl _ _) | (with_reducible refine Rd.below_step ?_ (by assumption)) | (with_reducible refine Rd.below_alloc ?_ _) | (with_reducible refine Rd.below_drewN ?_ _) | (with_reducible refine Below.drew ?_) | (with_reducible refine Below.setCell ?_ ?_ _) | (with_reducible refine Rd.below_setRow ?_ ?_ _) | go_size | (simp only [World.size_alloc]; omega) | omega)
          have cl : (cutV [x0, x1, x2, x3, x4, x5] [y0, y1, y2, y3, y4, y5] k).length = 6 := rfl
          clear hb5 CC
          go_wp2_with (at_builtin; refine app_one rfl (.tmp 46) (.tmp 51) rfl w.heap.size _ _ _ rfl (HO5.out.alloc _) w5.heap.size 1 (cutV [x0, x1, x2, x3, x4, x5] [y0, y1, y2, y3, y4, y5] k) rfl rfl (blk_alloc_at _ _ _ rfl) (by first | omega | (simp; omega)) (by simp; omega) ?_; intro v6 w6 ho6 hg6)
          have L6 : Below w.heap.size w w6 := (L5.alloc (by omega) _).grown hg6 (by simp; omega) (fun j hj => (HO5.out.lt j hj).1)
          exact ⟨⟨m + 1, by omega, by go_num, Lib.hid (by rw [HS.out, HP.out]; simpa using ho6), L6⟩, by simp [intOf]; omega⟩
      · have jA : inB k [x0, x1, x2, x3, x4, x5] = false := decide_eq_false iA
        by_cases iB : 0 ≤ insV [y0, y1, y2, y3, y4, y5] k
        · have jB : inB k [y0, y1, y2, y3, y4, y5] = true := decide_eq_true iB
          have hp : ClM.piece k [x0, x1, x2, x3, x4, x5] [y0, y1, y2, y3, y4, y5] = [cutV [y0, y1, y2, y3, y4, y5] [x0, x1, x2, x3, x4, x5] k] := by unfold ClM.piece; rw [jA, jB]; rfl
          have HP := Lib.hid hp
          clear jA jB hp
          have CC : Hid (∀ W : World, Calls Try.prog 40 #[.agg #[.int .i64 y0, .int .i64 y1, .int .i64 y2, .int .i64 y3, .int .i64 y4, .int .i64 y5], .agg #[.int .i64 x0, .int .i64 x1, .int .i64 x2, .int .i64 x3, .int .i64 x4, .int .i64 x5], .int .i64 k] W fun e w' => e = .returned (.agg (cs .i64 (cutV [y0, y1, y2, y3, y4, y5] [x0, x1, x2, x3, x4, x5] k))) ∧ Below W.heap.size W w') := fun W => cut_any [y0, y1, y2, y3, y4, y5] [x0, x1, x2, x3, x4, x5] VB.out VA.out k W
          go_wp2_with fail
          refine (CC.out _).mono ?_
          rintro e w4 ⟨rfl, hb4⟩
          have HO4 := Lib.hid (owns_below HO3.out hb4)
          have hs4 := hb4.size
          have L4 : Below w.heap.size w w4 := by repeat' (first | (with_reducible exact Below.refl _ _) | (with_reducible refine Rd.below_step ?_ (by assumption)) | (with_reducible refine Rd.below_alloc ?_ _) | (with_reducible refine Rd.below_drewN ?_ _) | (with_reducible refine Below.drew ?_) | (with_reducible refine Below.setCell ?_ ?_ _) | (with_reducible refine Rd.below_setRow ?_ ?_ _) | go_size | (simp only [World.size_alloc]; omega) | omega)
          have cl : (cutV [y0, y1, y2, y3, y4, y5] [x0, x1, x2, x3, x4, x5] k).length = 6 := rfl
          clear hb4 CC
          go_wp2_with (at_builtin; refine app_one rfl (.tmp 58) (.tmp 63) rfl w.heap.size _ _ _ rfl (HO4.out.alloc _) w4.heap.size 1 (cutV [y0, y1, y2, y3, y4, y5] [x0, x1, x2, x3, x4, x5] k) rfl rfl (blk_alloc_at _ _ _ rfl) (by first | omega | (simp; omega)) (by simp; omega) ?_; intro v5 w5 ho5 hg5)
          have L5 : Below w.heap.size w w5 := (L4.alloc (by omega) _).grown hg5 (by simp; omega) (fun j hj => (HO4.out.lt j hj).1)
          exact ⟨⟨m + 1, by omega, by go_num, Lib.hid (by rw [HS.out, HP.out]; simpa using ho5), L5⟩, by simp [intOf]; omega⟩
        · have jB : inB k [y0, y1, y2, y3, y4, y5] = false := decide_eq_false iB
          have hp : ClM.piece k [x0, x1, x2, x3, x4, x5] [y0, y1, y2, y3, y4, y5] = [] := by unfold ClM.piece; rw [jA, jB]; rfl
          have HP := Lib.hid hp
          clear jA jB hp
          go_wp2
          exact ⟨⟨m + 1, by omega, by go_num, Lib.hid (by rw [HS.out, HP.out]; simpa using HO3.out), L3⟩, by simp [intOf]; omega⟩
    · obtain rfl : m = n := by omega
      have hw' : withinK k row m = within k row := by rw [← withinK_all, HN.out]
      rw [hw'] at HO
      have h6 : ∀ v ∈ within k row, v.length = 6 := fun v hv => by
        rw [← withinK_all] at hv
        exact (withinK_vx HV.out (Nat.le_refl _) v hv).len
      obtain ⟨a', cap', e5, _⟩ := owns_val HO.out
      subst e5
      have hrow := (rowAt_owns HO.out h6).2
      have HR := Lib.hid hrow
      clear hrow hw' HO h6
      go_wp2
      go_ret
      exact ⟨⟨a', cap', rfl, HR.out⟩, hb⟩
end Go.Proofs.Ytimfjogallcgnaa.ClE

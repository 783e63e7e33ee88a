/-
  Products of matrices: the program's.
-/
import Derived.Test.YtgfdmjicokhheaaVecB
namespace Go.Proofs.Ytgfdmjicokhheaa.VecC
open Go.RowKit FixA Num Rd Go.Proofs.Ytgfdmjicokhheaa.Row VecA VecB
set_option linter.unusedVariables false
set_option linter.unusedSimpArgs false
set_option maxRecDepth 10000
attribute [local go_sem ↓] load_mat load_vec store_mat store_vec
attribute [local go_sem] index_mat index_vec run_load_mat run_load_vec run_store_mat run_store_vec rowLoad_eq rowStore_eq blk_alloc_at blk_alloc_old blk_drew blk_drewN blk_set_far blk_set_far' blk_grow setRow_alloc_at setRow_alloc_old setRow_drew setRow_drewN all_map one_int



/-- what a product's walk keeps: the two factors, the result's place, and what is reckoned so far -/
abbrev Inv (w : World) (ms ns : List Int) (b k : Nat) (wr : World) : Prop :=
  Hid (blk wr w.heap.size = some (.cells (cs .i64 ms) 23 (0, 0)) ∧ blk wr (w.heap.size + 1) = some (.cells (cs .i64 ns) 23 (0, 0)) ∧
    blk wr (w.heap.size + 1 + 1) = some (.cells (cs .i64 (List.replicate 16 0)) 23 (0, 0)) ∧ blk wr b = some (.cells (cs .i64 (prodK ms ns k)) 23 (0, 0)) ∧ Below w.heap.size w wr ∧ b < wr.heap.size)

set_option maxHeartbeats 2000000 in
theorem mul_any (ms ns : List Int) (hm : ms.length = 16) (hn : ns.length = 16) (w : World) (wm : Wf ms) (wn : Wf ns) :
    Calls Try.prog 8 #[.agg (cs .i64 ms), .agg (cs .i64 ns)] w fun e w' => e = .returned (.tuple #[.agg (cs .i64 (mulV ms ns).1), .int .i64 (mulV ms ns).2]) ∧ Below w.heap.size w w' := by
  have WM := Lib.hid wm
  have WN := Lib.hid wn
  clear wm wn
  go_enter Try.func8, Try.ntmps8
  go_wp2_with fail
  refine (may_any ms hm _ WM.out).mono ?_
  rintro e w1 ⟨rfl, hb1⟩
  have s1 := hb1.size
  simp only [World.size_alloc] at s1
  have m1 : blk w1 (w.heap.size) = some (.cells (cs .i64 ms) 23 (0, 0)) := (blk_below hb1 _ (by (try simp only [World.size_alloc]); omega)).trans (by first | exact blk3_0 _ _ _ _ | exact blk3_1 _ _ _ _ | exact blk3_2 _ _ _ _)
  have n1 : blk w1 (w.heap.size + 1) = some (.cells (cs .i64 ns) 23 (0, 0)) := (blk_below hb1 _ (by (try simp only [World.size_alloc]); omega)).trans (by first | exact blk3_0 _ _ _ _ | exact blk3_1 _ _ _ _ | exact blk3_2 _ _ _ _)
  have z1 : blk w1 (w.heap.size + 1 + 1) = some (.cells (cs .i64 (List.replicate 16 0)) 23 (0, 0)) := (blk_below hb1 _ (by (try simp only [World.size_alloc]); omega)).trans (by first | exact blk3_0 _ _ _ _ | exact blk3_1 _ _ _ _ | exact blk3_2 _ _ _ _)
  have L1 : Below w.heap.size w w1 := by repeat' (first | (with_reducible exact Below.refl _ _) | (with_reducible refine Rd.below_step ?_ (by assumption)) | (with_reducible refine Rd.below_alloc ?_ _) | (with_reducible refine Rd.below_drewN ?_ _) | (with_reducible refine Below.drew ?_) | (with_reducible refine Below.setCell ?_ ?_ _) | (with_reducible refine Rd.below_setRow ?_ ?_ _) | go_size | (simp only [World.size_alloc]; omega) | omega)
  clear hb1
  by_cases h : ms.all cellB = true
  case neg =>
    have h' : ms.all cellB = false := by simpa using h
    have EA := Lib.hid (show mulV ms ns = (List.replicate 16 0, 2) by unfold mulV; rw [h']; rfl)
    clear h
    go_wp2
    exact ret_mat2 rfl (w.heap.size + 1 + 1) (List.replicate 16 0) rfl (by simp) (blk_setRow_of z1 _) rfl ⟨by rw [EA.out]; rfl, by repeat' (first | (with_reducible exact Below.refl _ _) | (with_reducible refine Rd.below_step ?_ (by assumption)) | (with_reducible refine Rd.below_alloc ?_ _) | (with_reducible refine Rd.below_drewN ?_ _) | (with_reducible refine Below.drew ?_) | (with_reducible refine Below.setCell ?_ ?_ _) | (with_reducible refine Rd.below_setRow ?_ ?_ _) | go_size | (simp only [World.size_alloc]; omega) | omega)⟩
  go_wp2_with fail
  refine (may_any ns hn _ WN.out).mono ?_
  rintro e w2 ⟨rfl, hb2⟩
  have s2 := hb2.size
  have m2 : blk w2 (w.heap.size) = some (.cells (cs .i64 ms) 23 (0, 0)) := (blk_below hb2 _ (by (try simp only [World.size_alloc]); omega)).trans m1
  have n2 : blk w2 (w.heap.size + 1) = some (.cells (cs .i64 ns) 23 (0, 0)) := (blk_below hb2 _ (by (try simp only [World.size_alloc]); omega)).trans n1
  have z2 : blk w2 (w.heap.size + 1 + 1) = some (.cells (cs .i64 (List.replicate 16 0)) 23 (0, 0)) := (blk_below hb2 _ (by (try simp only [World.size_alloc]); omega)).trans z1
  have L2 : Below w.heap.size w w2 := by repeat' (first | (with_reducible exact Below.refl _ _) | (with_reducible refine Rd.below_step ?_ (by assumption)) | (with_reducible refine Rd.below_alloc ?_ _) | (with_reducible refine Rd.below_drewN ?_ _) | (with_reducible refine Below.drew ?_) | (with_reducible refine Below.setCell ?_ ?_ _) | (with_reducible refine Rd.below_setRow ?_ ?_ _) | go_size | (simp only [World.size_alloc]; omega) | omega)
  clear m1 n1 z1 hb2 L1
  by_cases h2 : ns.all cellB = true
  case neg =>
    have h' : ns.all cellB = false := by simpa using h2
    have EA := Lib.hid (show mulV ms ns = (List.replicate 16 0, 2) by unfold mulV; rw [h']; simp)
    clear h2
    go_wp2
    exact ret_mat2 rfl (w.heap.size + 1 + 1) (List.replicate 16 0) rfl (by simp) (blk_setRow_of z2 _) rfl ⟨by rw [EA.out]; rfl, by repeat' (first | (with_reducible exact Below.refl _ _) | (with_reducible refine Rd.below_step ?_ (by assumption)) | (with_reducible refine Rd.below_alloc ?_ _) | (with_reducible refine Rd.below_drewN ?_ _) | (with_reducible refine Below.drew ?_) | (with_reducible refine Below.setCell ?_ ?_ _) | (with_reducible refine Rd.below_setRow ?_ ?_ _) | go_size | (simp only [World.size_alloc]; omega) | omega)⟩
  have EA := Lib.hid (show mulV ms ns = allowV (prodK ms ns 16) by unfold mulV; rw [h, h2]; simp)
  have I0 : Inv w ms ns w2.heap.size 0 (w2.alloc (.cells (cs .i64 (List.replicate 16 0)) 23)) := ⟨by rw [blk_alloc_old _ _ _ (by omega)]; exact m2, by rw [blk_alloc_old _ _ _ (by omega)]; exact n2, by rw [blk_alloc_old _ _ _ (by omega)]; exact z2, by rw [prodK_0]; exact blk_alloc_at _ _ _ rfl, by repeat' (first | (with_reducible exact Below.refl _ _) | (with_reducible refine Rd.below_step ?_ (by assumption)) | (with_reducible refine Rd.below_alloc ?_ _) | (with_reducible refine Rd.below_drewN ?_ _) | (with_reducible refine Below.drew ?_) | (with_reducible refine Below.setCell ?_ ?_ _) | (with_reducible refine Rd.below_setRow ?_ ?_ _) | go_size | (simp only [World.size_alloc]; omega) | omega), by simp⟩
  have H1 := Lib.hid h
  have H2 := Lib.hid h2
  have hb3 : w.heap.size + 3 ≤ w2.heap.size := by omega
  clear s1 s2 m2 n2 z2
  go_wp2
  clear h h2
  go_loopw [18] (fun i wr => ∃ r : Nat, r ≤ 4 ∧ i = .int .i64 r ∧ Inv w ms ns w2.heap.size (4 * r) wr) (fun i _ => 4 - (intOf i).toNat)
  case atStart => exact ⟨0, by omega, rfl, I0⟩
  case round =>
    obtain ⟨r, hr, rfl, I⟩ := hrel
    by_cases hlt : r < 4
    · have hlt' : (r : Int) < 4 := by omega
      clear I0
      go_wp2
      go_loopw [21] (fun i wr => ∃ c : Nat, c ≤ 4 ∧ i = .int .i64 c ∧ Inv w ms ns w2.heap.size (4 * r + c) wr) (fun i _ => 4 - (intOf i).toNat)
      case atStart => exact ⟨0, by omega, rfl, I⟩
      case round =>
        obtain ⟨c, hc, rfl, I1⟩ := hrel
        by_cases hlc : c < 4
        · have hlc' : (c : Int) < 4 := by omega
          clear I
          obtain ⟨i1, i2, i3, i4, L3, i6⟩ := I1.out
          clear I1
          have k0 : w.heap.size < wr.heap.size := by omega
          have k1 : w.heap.size + 1 < wr.heap.size := by omega
          have p1 : 4 * (r : Int) + c < 16 := by omega
          have q1 : IntKind.i64.wrap (4 * (r : Int)) = 4 * (r : Int) := IntWalk.i64_in _ (by omega)
          have q2 : IntKind.i64.wrap (4 * (r : Int) + c) = 4 * (r : Int) + c := IntWalk.i64_in _ (by omega)
          have q3 : (4 * (r : Int) + c).toNat = 4 * r + c := by omega
          have q4 : 0 ≤ 4 * (r : Int) + c := by omega
          go_wp2
          (refine Reg.below_tail 11 (by kernel_rfl) (by kernel_rfl) ?_; simp only [List.take_succ_cons, List.take_zero, List.drop_succ_cons, List.drop_zero]; (repeat (go_big_quiet_step ((first | (with_reducible exact Calls.regrown_of (columnOf_any ns c _ hn hlc)) | (with_reducible exact Calls.regrown_of (times_any ms r (col ns c) _ hm rfl hlt H1.out (v28_col H2.out c))))))); refine wpQuiet_nil ?_)
          intro U hU
          have KU := Rd.below_of_regrown hU
          clear hU
          have j1 := (blk_below KU _ k0).trans i1
          have j2 := (blk_below KU _ k1).trans i2
          have j3 := (blk_below KU (w.heap.size + 1 + 1) (by omega)).trans i3
          have j4 := (blk_below KU _ i6).trans i4
          have j6 := Nat.lt_of_lt_of_le i6 KU.size
          have L4 : Below w.heap.size w U := by repeat' (first | (with_reducible exact Below.refl _ _) | (with_reducible refine Rd.below_step ?_ (by assumption)) | (with_reducible refine Rd.below_alloc ?_ _) | (with_reducible refine Rd.below_drewN ?_ _) | (with_reducible refine Below.drew ?_) | (with_reducible refine Below.setCell ?_ ?_ _) | (with_reducible refine Rd.below_setRow ?_ ?_ _) | go_size | (simp only [World.size_alloc]; omega) | omega)
          clear i1 i2 i3 i4 i6 KU
          have c0 : U.cell? ⟨w2.heap.size, 4 * r + c, none⟩ = some (.int .i64 ((prodK ms ns (4 * r + c)).getD (4 * r + c) 0)) := by
            rw [blk_cell j4]; exact cs_at (at_of (by rw [prodK_len]; omega))
          have f0 : U.frozen? ⟨w2.heap.size, 4 * r + c, none⟩ = false := blk_frozen j4 _
          go_wp2
          go_roundw
          case rel =>
            refine ⟨c + 1, by omega, by go_num, ?_⟩
            refine ⟨?_, ?_, ?_, ?_, ?_, ?_⟩
            · rw [blk_set_far _ _ _ _ (by show _ < w2.heap.size; omega)]; exact j1
            · rw [blk_set_far _ _ _ _ (by show _ < w2.heap.size; omega)]; exact j2
            · rw [blk_set_far _ _ _ _ (by show _ < w2.heap.size; omega)]; exact j3
            · have e := blk_set U w2.heap.size (4 * r + c) (.int .i64 (ent ms ns (4 * r + c))) _ _ j4
              rw [set_cs, prodK_set _ _ _ (by omega)] at e
              have e1 : (4 * r + c) / 4 = r := by omega
              have e2 : (4 * r + c) % 4 = c := by omega
              rw [show ent ms ns (4 * r + c) = near (dot ms r (col ns c)) 65536 by unfold ent; rw [e1, e2]] at e
              exact e
            · repeat' (first | (with_reducible exact Below.refl _ _) | (with_reducible refine Rd.below_step ?_ (by assumption)) | (with_reducible refine Rd.below_alloc ?_ _) | (with_reducible refine Rd.below_drewN ?_ _) | (with_reducible refine Below.drew ?_) | (with_reducible refine Below.setCell ?_ ?_ _) | (with_reducible refine Rd.below_setRow ?_ ?_ _) | go_size | (simp only [World.size_alloc]; omega) | omega)
            · simp only [World.size_setCell]; exact j6
          case measure => simp [intOf]; omega
        · obtain rfl : c = 4 := by omega
          go_wp2
          go_roundw
          case rel => exact ⟨r + 1, by omega, by go_num, I1⟩
          case measure => simp [intOf]; omega
    · obtain rfl : r = 4 := by omega
      obtain ⟨i1, i2, i3, i4, L3, i6⟩ := I.out
      have WP := Lib.hid (prodK_wf ms ns H1.out H2.out 16)
      have hl := prodK_len ms ns 16
      clear I I0
      go_wp2_with fail
      refine (allowed_any _ hl _ WP.out).mono ?_
      rintro e w4 ⟨rfl, hb4⟩
      have z4 := (blk_below hb4 _ (by omega)).trans i3
      have L4 : Below w.heap.size w w4 := by repeat' (first | (with_reducible exact Below.refl _ _) | (with_reducible refine Rd.below_step ?_ (by assumption)) | (with_reducible refine Rd.below_alloc ?_ _) | (with_reducible refine Rd.below_drewN ?_ _) | (with_reducible refine Below.drew ?_) | (with_reducible refine Below.setCell ?_ ?_ _) | (with_reducible refine Rd.below_setRow ?_ ?_ _) | go_size | (simp only [World.size_alloc]; omega) | omega)
      clear i1 i2 i3 i4 L3
      have hq : (allowV (prodK ms ns 16)).1.length = 16 := by unfold allowV; split <;> simp [hl]
      generalize allowV (prodK ms ns 16) = q at hq EA
      go_wp2_with fail
      exact ret_mat2 rfl (w.heap.size + 1 + 1) q.1 rfl hq (blk_setRow_of z4 _) rfl ⟨by rw [EA.out]; rfl, by repeat' (first | (with_reducible exact Below.refl _ _) | (with_reducible refine Rd.below_step ?_ (by assumption)) | (with_reducible refine Rd.below_alloc ?_ _) | (with_reducible refine Rd.below_drewN ?_ _) | (with_reducible refine Below.drew ?_) | (with_reducible refine Below.setCell ?_ ?_ _) | (with_reducible refine Rd.below_setRow ?_ ?_ _) | go_size | (simp only [World.size_alloc]; omega) | omega)⟩
end Go.Proofs.Ytgfdmjicokhheaa.VecC

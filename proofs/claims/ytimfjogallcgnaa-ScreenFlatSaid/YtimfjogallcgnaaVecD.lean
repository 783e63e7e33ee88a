/-
  What a matrix does to a vector, and the matrices that move and stretch: the program's.
-/
import Derived.Test.YtimfjogallcgnaaVecB
namespace Go.Proofs.Ytimfjogallcgnaa.VecD
open Go.RowKit FixA Num Rd Go.Proofs.Ytimfjogallcgnaa.Row VecA VecB
set_option linter.unusedVariables false
set_option linter.unusedSimpArgs false
set_option maxRecDepth 10000
attribute [local go_sem ↓] load_mat load_vec store_mat store_vec
attribute [local go_sem] index_mat index_vec run_load_mat run_load_vec run_store_mat run_store_vec rowLoad_eq rowStore_eq blk_alloc_at blk_alloc_old blk_drew blk_drewN blk_set_far blk_set_far' blk_grow setRow_alloc_at setRow_alloc_old setRow_drew setRow_drewN all_map one_int




def numB (x : Int) : Bool := decide (-268435456 ≤ x ∧ x ≤ 268435456)
theorem num_yes {a : Int} (h : numB a = true) : -268435456 ≤ a ∧ a ≤ 268435456 := by simpa [numB] using h
theorem num_mk {a : Int} (h1 : -268435456 ≤ a) (h2 : a ≤ 268435456) : numB a = true := by simp [numB]; omega
theorem num_not {a : Int} (h : ¬ (-268435456 ≤ a ∧ a ≤ 268435456)) : numB a = false := by simp [numB]; omega
theorem v28_of {l : List Int} (h : l.all numB = true) : V28 l := fun x hx => num_yes (List.all_eq_true.1 h x hx)
def outF (ms vs : List Int) (i : Nat) : Int := near (dot ms i vs) 65536
def applyV (ms vs : List Int) : List Int × Int := if ms.all cellB && vs.all numB then (fillK 4 (outF ms vs) 4, 0) else (List.replicate 4 0, 2)
theorem applyV_len (ms vs : List Int) : (applyV ms vs).1.length = 4 := by unfold applyV; split <;> simp [fillK_len]

abbrev InvA (w : World) (ms vs : List Int) (b k : Nat) (wr : World) : Prop :=
  Hid (blk wr w.heap.size = some (.cells (cs .i64 ms) 27 (0, 0)) ∧ blk wr (w.heap.size + 1) = some (.cells (cs .i64 vs) 23 (0, 0)) ∧
    blk wr (w.heap.size + 1 + 1) = some (.cells (cs .i64 (List.replicate 4 0)) 23 (0, 0)) ∧ blk wr b = some (.cells (cs .i64 (fillK 4 (outF ms vs) k)) 23 (0, 0)) ∧ Below w.heap.size w wr ∧ b < wr.heap.size)

set_option maxHeartbeats 2000000 in
theorem apply_any (ms vs : List Int) (hm : ms.length = 16) (hv : vs.length = 4) (w : World) (wm : Wf ms) (wv : Wf vs) :
    Calls Try.prog 24 #[.agg (cs .i64 ms), .agg (cs .i64 vs)] w fun e w' => e = .returned (.tuple #[.agg (cs .i64 (applyV ms vs).1), .int .i64 (applyV ms vs).2]) ∧ Below w.heap.size w w' := by
  have WM := Lib.hid wm
  have WV := Lib.hid wv
  clear wm wv
  go_enter Try.func24, Try.ntmps24
  go_wp2_with fail
  refine (may_any ms hm _ WM.out).mono ?_
  rintro e w1 ⟨rfl, hb1⟩
  have s1 := hb1.size
  simp only [World.size_alloc] at s1
  have m1 : blk w1 w.heap.size = some (.cells (cs .i64 ms) 27 (0, 0)) := (blk_below hb1 _ (by (try simp only [World.size_alloc]); omega)).trans (blk3_0 _ _ _ _)
  have n1 : blk w1 (w.heap.size + 1) = some (.cells (cs .i64 vs) 23 (0, 0)) := (blk_below hb1 _ (by (try simp only [World.size_alloc]); omega)).trans (blk3_1 _ _ _ _)
  have z1 : blk w1 (w.heap.size + 1 + 1) = some (.cells (cs .i64 (List.replicate 4 0)) 23 (0, 0)) := (blk_below hb1 _ (by (try simp only [World.size_alloc]); omega)).trans (blk3_2 _ _ _ _)
  have L1 : Below w.heap.size w w1 := by repeat' (first | (with_reducible exact Below.refl _ _) | (with_reducible refine Rd.below_step ?_ (by assumption)) | (with_reducible refine Rd.below_alloc ?_ _) | (with_reducible refine Rd.below_drewN ?_ _) | (with_reducible refine Below.drew ?_) | (with_reducible refine Below.setCell ?_ ?_ _) | (with_reducible refine Rd.below_setRow ?_ ?_ _) | go_size | (simp only [World.size_alloc]; omega) | omega)
  clear hb1
  by_cases h : ms.all cellB = true
  case neg =>
    have h' : ms.all cellB = false := by simpa using h
    have EA := Lib.hid (show applyV ms vs = (List.replicate 4 0, 2) by unfold applyV; rw [h']; rfl)
    clear h
    go_wp2
    exact ret_vec2 rfl (w.heap.size + 1 + 1) (List.replicate 4 0) rfl (by simp) (blk_setRow_of z1 _) rfl ⟨by rw [EA.out]; rfl, by repeat' (first | (with_reducible exact Below.refl _ _) | (with_reducible refine Rd.below_step ?_ (by assumption)) | (with_reducible refine Rd.below_alloc ?_ _) | (with_reducible refine Rd.below_drewN ?_ _) | (with_reducible refine Below.drew ?_) | (with_reducible refine Below.setCell ?_ ?_ _) | (with_reducible refine Rd.below_setRow ?_ ?_ _) | go_size | (simp only [World.size_alloc]; omega) | omega)⟩
  have H1 := Lib.hid h
  go_wp2
  clear h
  go_loop [15] (fun i => ∃ k : Nat, k ≤ 4 ∧ i = .int .i64 k ∧ Hid ((vs.take k).all numB = true)) (fun i => 4 - (intOf i).toNat)
  case atStart => exact ⟨0, by omega, rfl, rfl⟩
  case round =>
    obtain ⟨k, hk, rfl, HT⟩ := hrel
    by_cases hlt : k < 4
    · have hlt' : (k : Int) < 4 := by omega
      by_cases g1 : vs[k] < -268435456
      · have EA := Lib.hid (show applyV ms vs = (List.replicate 4 0, 2) by unfold applyV; rw [all_nop (l := vs) (k := k) (by omega) (num_not (by omega))]; simp)
        go_wp2
        exact ret_vec2 rfl (w.heap.size + 1 + 1) (List.replicate 4 0) rfl (by simp) (blk_setRow_of z1 _) rfl ⟨by rw [EA.out]; rfl, by repeat' (first | (with_reducible exact Below.refl _ _) | (with_reducible refine Rd.below_step ?_ (by assumption)) | (with_reducible refine Rd.below_alloc ?_ _) | (with_reducible refine Rd.below_drewN ?_ _) | (with_reducible refine Below.drew ?_) | (with_reducible refine Below.setCell ?_ ?_ _) | (with_reducible refine Rd.below_setRow ?_ ?_ _) | go_size | (simp only [World.size_alloc]; omega) | omega)⟩
      · by_cases g2 : 268435456 < vs[k]
        · have EA := Lib.hid (show applyV ms vs = (List.replicate 4 0, 2) by unfold applyV; rw [all_nop (l := vs) (k := k) (by omega) (num_not (by omega))]; simp)
          have hd1 : decide (vs[k] < -268435456) = false := by simpa using g1
          go_wp2
          exact ret_vec2 rfl (w.heap.size + 1 + 1) (List.replicate 4 0) rfl (by simp) (blk_setRow_of z1 _) rfl ⟨by rw [EA.out]; rfl, by repeat' (first | (with_reducible exact Below.refl _ _) | (with_reducible refine Rd.below_step ?_ (by assumption)) | (with_reducible refine Rd.below_alloc ?_ _) | (with_reducible refine Rd.below_drewN ?_ _) | (with_reducible refine Below.drew ?_) | (with_reducible refine Below.setCell ?_ ?_ _) | (with_reducible refine Rd.below_setRow ?_ ?_ _) | go_size | (simp only [World.size_alloc]; omega) | omega)⟩
        · have ha := Lib.hid (take_allp HT.out (by omega) (num_mk (by omega) (by omega)))
          have hd1 : decide (vs[k] < -268435456) = false := by simpa using g1
          have hd2 : decide (268435456 < vs[k]) = false := by simpa using g2
          clear g1 g2
          go_wp2
          exact ⟨⟨k + 1, by omega, by go_num, ha⟩, by simp [intOf]; omega⟩
    · obtain rfl : k = 4 := by omega
      have H2 := Lib.hid (show vs.all numB = true by have := HT.out; rwa [List.take_of_length_le (by omega)] at this)
      clear HT
      have EA := Lib.hid (show applyV ms vs = (fillK 4 (outF ms vs) 4, 0) by unfold applyV; rw [H1.out, H2.out]; simp)
      have hb3 : w.heap.size + 3 ≤ w1.heap.size := by omega
      have I0 : InvA w ms vs w1.heap.size 0 (w1.alloc (.cells (cs .i64 (List.replicate 4 0)) 23)) := ⟨by rw [blk_alloc_old _ _ _ (by omega)]; exact m1, by rw [blk_alloc_old _ _ _ (by omega)]; exact n1, by rw [blk_alloc_old _ _ _ (by omega)]; exact z1, by rw [fillK_0]; exact blk_alloc_at _ _ _ rfl, by repeat' (first | (with_reducible exact Below.refl _ _) | (with_reducible refine Rd.below_step ?_ (by assumption)) | (with_reducible refine Rd.below_alloc ?_ _) | (with_reducible refine Rd.below_drewN ?_ _) | (with_reducible refine Below.drew ?_) | (with_reducible refine Below.setCell ?_ ?_ _) | (with_reducible refine Rd.below_setRow ?_ ?_ _) | go_size | (simp only [World.size_alloc]; omega) | omega), by simp⟩
      clear m1 n1 z1 s1
      go_wp2
      go_loopw [26] (fun i wr => ∃ r : Nat, r ≤ 4 ∧ i = .int .i64 r ∧ InvA w ms vs w1.heap.size r wr) (fun i _ => 4 - (intOf i).toNat)
      case atStart => exact ⟨0, by omega, rfl, I0⟩
      case round =>
        obtain ⟨r, hr, rfl, I⟩ := hrel
        by_cases hlr : r < 4
        · have hlr' : (r : Int) < 4 := by omega
          clear I0
          obtain ⟨i1, i2, i3, i4, L3, i6⟩ := I.out
          clear I
          go_wp2_with fail
          refine (times_any ms r vs _ hm hv hlr H1.out (v28_of H2.out)).mono ?_
          rintro e U ⟨rfl, KU⟩
          have j1 := (blk_below KU w.heap.size (by omega)).trans i1
          have j2 := (blk_below KU (w.heap.size + 1) (by omega)).trans i2
          have j3 := (blk_below KU (w.heap.size + 1 + 1) (by omega)).trans i3
          have j4 := (blk_below KU _ i6).trans i4
          have j6 := Nat.lt_of_lt_of_le i6 KU.size
          have L4 : Below w.heap.size w U := by repeat' (first | (with_reducible exact Below.refl _ _) | (with_reducible refine Rd.below_step ?_ (by assumption)) | (with_reducible refine Rd.below_alloc ?_ _) | (with_reducible refine Rd.below_drewN ?_ _) | (with_reducible refine Below.drew ?_) | (with_reducible refine Below.setCell ?_ ?_ _) | (with_reducible refine Rd.below_setRow ?_ ?_ _) | go_size | (simp only [World.size_alloc]; omega) | omega)
          clear i1 i2 i3 i4 i6 KU
          have c0 : U.cell? ⟨w1.heap.size, r, none⟩ = some (.int .i64 ((fillK 4 (outF ms vs) r).getD r 0)) := by
            rw [blk_cell j4]; exact cs_at (at_of (by rw [fillK_len]; omega))
          have f0 : U.frozen? ⟨w1.heap.size, r, none⟩ = false := blk_frozen j4 _
          go_wp2
          go_roundw
          case rel =>
            refine ⟨r + 1, by omega, by go_num, ?_⟩
            refine ⟨?_, ?_, ?_, ?_, ?_, ?_⟩
            · rw [blk_set_far _ _ _ _ (by show _ < w1.heap.size; omega)]; exact j1
            · rw [blk_set_far _ _ _ _ (by show _ < w1.heap.size; omega)]; exact j2
            · rw [blk_set_far _ _ _ _ (by show _ < w1.heap.size; omega)]; exact j3
            · have e := blk_set U w1.heap.size r (.int .i64 (outF ms vs r)) _ _ j4
              rw [set_cs, fillK_set _ _ _ (by omega)] at e
              exact e
            · repeat' (first | (with_reducible exact Below.refl _ _) | (with_reducible refine Rd.below_step ?_ (by assumption)) | (with_reducible refine Rd.below_alloc ?_ _) | (with_reducible refine Rd.below_drewN ?_ _) | (with_reducible refine Below.drew ?_) | (with_reducible refine Below.setCell ?_ ?_ _) | (with_reducible refine Rd.below_setRow ?_ ?_ _) | go_size | (simp only [World.size_alloc]; omega) | omega)
            · simp only [World.size_setCell]; exact j6
          case measure => simp [intOf]; omega
        · obtain rfl : r = 4 := by omega
          obtain ⟨i1, i2, i3, i4, L3, i6⟩ := I.out
          have hq := fillK_len 4 (outF ms vs) 4
          generalize fillK 4 (outF ms vs) 4 = q at hq EA i4
          clear I I0
          go_wp2_with fail
          exact ret_vec2 rfl (w.heap.size + 1 + 1) q rfl hq (blk_setRow_of i3 _) rfl ⟨by rw [EA.out]; rfl, by repeat' (first | (with_reducible exact Below.refl _ _) | (with_reducible refine Rd.below_step ?_ (by assumption)) | (with_reducible refine Rd.below_alloc ?_ _) | (with_reducible refine Rd.below_drewN ?_ _) | (with_reducible refine Below.drew ?_) | (with_reducible refine Below.setCell ?_ ?_ _) | (with_reducible refine Rd.below_setRow ?_ ?_ _) | go_size | (simp only [World.size_alloc]; omega) | omega)⟩

/-! ### The matrices that are made -/
def oneL : List Int := [65536, 0, 0, 0, 0, 65536, 0, 0, 0, 0, 65536, 0, 0, 0, 0, 65536]
def moveL (x y z : Int) : List Int := [65536, 0, 0, x, 0, 65536, 0, y, 0, 0, 65536, z, 0, 0, 0, 65536]
def stretchL (x y z : Int) : List Int := [x, 0, 0, 0, 0, y, 0, 0, 0, 0, z, 0, 0, 0, 0, 65536]
theorem allowV_len {l : List Int} (h : l.length = 16) : (allowV l).1.length = 16 := by unfold allowV; split <;> simp [h]
theorem wf_moveL {x y z : Int} (hx : (Lit.int .i64 x).wf = true) (hy : (Lit.int .i64 y).wf = true) (hz : (Lit.int .i64 z).wf = true) : Wf (moveL x y z) := by
  intro v hv
  simp only [moveL, List.mem_cons, List.not_mem_nil, or_false] at hv
  rcases hv with rfl | rfl | rfl | rfl | rfl | rfl | rfl | rfl | rfl | rfl | rfl | rfl | rfl | rfl | rfl | rfl <;> first | assumption | rfl
theorem wf_stretchL {x y z : Int} (hx : (Lit.int .i64 x).wf = true) (hy : (Lit.int .i64 y).wf = true) (hz : (Lit.int .i64 z).wf = true) : Wf (stretchL x y z) := by
  intro v hv
  simp only [stretchL, List.mem_cons, List.not_mem_nil, or_false] at hv
  rcases hv with rfl | rfl | rfl | rfl | rfl | rfl | rfl | rfl | rfl | rfl | rfl | rfl | rfl | rfl | rfl | rfl <;> first | assumption | rfl

end Go.Proofs.Ytimfjogallcgnaa.VecD

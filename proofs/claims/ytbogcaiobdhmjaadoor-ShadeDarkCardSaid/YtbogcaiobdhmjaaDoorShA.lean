/-
  What the functions of package shade answer.
-/
import Derived.Test.YtbogcaiobdhmjaaDoorHueA
import Derived.Test.YtbogcaiobdhmjaaDoorRow
namespace Go.Proofs.YtbogcaiobdhmjaaDoor.ShA
open Go.RowKit Rd HueA Go.Proofs.YtbogcaiobdhmjaaDoor.Row
set_option linter.unusedVariables false
set_option linter.unusedSimpArgs false
set_option maxRecDepth 100000
theorem store_col (x v : Value) : Instr.storeAt 23 x v = storeRow 23 x v := rfl
theorem run_store_col (g o : Nat) (c : Array Value) (W : World) : (storeRow 23 (.pointer (some ⟨g, o, none⟩)) (.agg c)).run Tryd.prog W = rowStore Tryd.prog 23 4 g o c W := run_storeRow (by kernel_rfl) g o c W
theorem info_col : (Tryd.prog.info? 23).map (·.size) = some 4 := by kernel_rfl
theorem ret_col1 {fn : Func} {R : Ending → World → Prop} {a : Act} {W : World} {p : Tmp} (h : fn.results = #[.cell p 23]) (g : Nat) (c : Array Value) (fr : Nat × Nat) (hp : a.tmps.getD p undef = .pointer (some ⟨g, 0, none⟩)) (hl : c.size = 4)
    (hg : blk W g = some (.cells c 23 fr)) (hd : a.defers = []) (hR : R (.returned (.agg c)) W) : bodyPost Tryd.prog fn R .ret a W :=
  bodyPost_ret (results_row1 h _ _ g _ _ _ _ hp hg Tryd.underlying23 rfl (by rw [info_col]; simp [hl])) hd hR
/-- the table of shaders, cell by cell -/
def tbL : List Bool := [false, false, false, false, false, false, true, false, true, true, false, false, true, true, true, false, true, false, true, true]
def TB (w : World) : Prop := 0 < w.heap.size ∧ ∀ i, i < 20 → w.cell? ⟨0, i, none⟩ = some (.bool (tbL.getD i false))
theorem TB.below {w w' : World} {B : Nat} (h : TB w) (hb : Below B w w') (hB : 0 < B) : TB w' := ⟨Nat.lt_of_lt_of_le h.1 hb.size, fun i hi => (hb.cell (p := ⟨0, i, none⟩) hB).trans (h.2 i hi)⟩
def gotV (c0 c1 c2 c3 : Int) (f : Bool) : Array Value := #[.int .u8 c0, .int .u8 c1, .int .u8 c2, .int .u8 c3, .bool f, .slice none 0 0, .slice none 0 0]
def mayS (n : Int) : Bool := decide (1 ≤ n) && decide (n < 5)
theorem may_any (n : Int) (w : World) : Calls Tryd.prog 6 #[.int .i64 n] w fun e w' => e = .returned (.bool (mayS n)) ∧ w = w' := by
  by_cases h0 : 1 ≤ n
  · by_cases h1 : n < 5
    · have hw : mayS n = true := by simp [mayS, h0, h1]
      go_enter Tryd.func6, Tryd.ntmps6
      go_wp2
      go_ret
      exact ⟨by simp [hw], by trivial⟩
    · have hw : mayS n = false := by simp [mayS, h0, h1]
      go_enter Tryd.func6, Tryd.ntmps6
      go_wp2
      go_ret
      exact ⟨by simp [hw], by trivial⟩
  · have hw : mayS n = false := by simp [mayS, h0]
    go_enter Tryd.func6, Tryd.ntmps6
    go_wp2
    go_ret
    exact ⟨by simp [hw], by trivial⟩
theorem four {n : Int} (h : mayS n = true) : n = 1 ∨ n = 2 ∨ n = 3 ∨ n = 4 := by
  simp only [mayS, Bool.and_eq_true, decide_eq_true_eq] at h
  omega
def asksS (n : Int) : Bool := mayS n && decide (n ≠ 1)
theorem asks_any (n : Int) (w : World) (hT : TB w) : Calls Tryd.prog 7 #[.int .i64 n] w fun e w' => e = .returned (.bool (asksS n)) ∧ w = w' := by
  obtain ⟨h0, hc⟩ := hT
  cases hm : mayS n
  · have ha : asksS n = false := by simp [asksS, hm]
    clear hc
    go_enter Tryd.func7, Tryd.ntmps7
    go_wp2_with (go_at_call 6; refine (may_any _ _).mono ?_; rintro e w1 ⟨rfl, rfl⟩; try simp only [hm])
    go_ret
    exact ⟨by simp [ha], by trivial⟩
  · rcases four hm with rfl | rfl | rfl | rfl
    · have hk : w.cell? ⟨0, 4, none⟩ = some (.bool false) := hc 4 (by omega)
      clear hc
      go_enter Tryd.func7, Tryd.ntmps7
      go_wp2_with (go_at_call 6; refine (may_any _ _).mono ?_; rintro e w1 ⟨rfl, rfl⟩; try simp only [hm])
      go_ret
      exact ⟨by simp [asksS, mayS], by trivial⟩
    · have hk : w.cell? ⟨0, 8, none⟩ = some (.bool true) := hc 8 (by omega)
      clear hc
      go_enter Tryd.func7, Tryd.ntmps7
      go_wp2_with (go_at_call 6; refine (may_any _ _).mono ?_; rintro e w1 ⟨rfl, rfl⟩; try simp only [hm])
      go_ret
      exact ⟨by simp [asksS, mayS], by trivial⟩
    · have hk : w.cell? ⟨0, 12, none⟩ = some (.bool true) := hc 12 (by omega)
      clear hc
      go_enter Tryd.func7, Tryd.ntmps7
      go_wp2_with (go_at_call 6; refine (may_any _ _).mono ?_; rintro e w1 ⟨rfl, rfl⟩; try simp only [hm])
      go_ret
      exact ⟨by simp [asksS, mayS], by trivial⟩
    · have hk : w.cell? ⟨0, 16, none⟩ = some (.bool true) := hc 16 (by omega)
      clear hc
      go_enter Tryd.func7, Tryd.ntmps7
      go_wp2_with (go_at_call 6; refine (may_any _ _).mono ?_; rintro e w1 ⟨rfl, rfl⟩; try simp only [hm])
      go_ret
      exact ⟨by simp [asksS, mayS], by trivial⟩
theorem white_any (w : World) : Calls Tryd.prog 12 #[] w fun e w' => e = .returned (.agg #[.int .u8 255, .int .u8 255, .int .u8 255, .int .u8 255]) ∧ Below w.heap.size w w' := by
  go_enter Tryd.func12, Tryd.ntmps12
  go_wp2
  go_returns
  exact ⟨rfl, by repeat' (first | (with_reducible exact Below.refl _ _) | (with_reducible refine Rd.below_step ?_ (by assumption)) | (with_reducible refine Rd.below_alloc ?_ _) | (with_reducible refine Rd.below_drewN ?_ _) | (with_reducible refine Below.drew ?_) | (with_reducible refine Below.setCell ?_ ?_ _) | (with_reducible refine Rd.below_setRow ?_ ?_ _) | go_size | (simp only [World.size_alloc]; omega) | omega)⟩
def pixK (n a c : Int) (f : Bool) : Int := if n = 1 then a else if n = 2 then c else if n = 3 then timesB c a else if n = 4 then (if f = true then 255 else a) else 0
set_option maxHeartbeats 1000000 in
theorem pixel_1 (a0 a1 a2 a3 c0 c1 c2 c3 : Int) (f : Bool) (w : World) (ha0 : B8 a0) (ha1 : B8 a1) (ha2 : B8 a2) (ha3 : B8 a3) (hc0 : B8 c0) (hc1 : B8 c1) (hc2 : B8 c2) (hc3 : B8 c3) (hT : TB w) :
    Calls Tryd.prog 8 #[.int .i64 1, .agg #[.int .u8 a0, .int .u8 a1, .int .u8 a2, .int .u8 a3], .agg (gotV c0 c1 c2 c3 f)] w fun e w' => e = .returned (.agg #[.int .u8 (a0), .int .u8 (a1), .int .u8 (a2), .int .u8 (a3)]) ∧ Below w.heap.size w w' := by
  unfold gotV
  obtain ⟨h0, hc⟩ := hT
  have k0 : w.cell? ⟨0, 4, none⟩ = some (.bool false) := hc 4 (by omega)
  have k1 : w.cell? ⟨0, 5, none⟩ = some (.bool false) := hc 5 (by omega)
  have k2 : w.cell? ⟨0, 6, none⟩ = some (.bool true) := hc 6 (by omega)
  have k3 : w.cell? ⟨0, 7, none⟩ = some (.bool false) := hc 7 (by omega)
  clear hc
  have hm : mayS 1 = true := by decide
  cases f
  all_goals
    go_enter Tryd.func8, Tryd.ntmps8
    go_wp2_with (go_at_call 6; refine (may_any _ _).mono ?_; rintro e w1 ⟨rfl, rfl⟩; try simp only [hm])
    go_returns
    exact ⟨rfl, by repeat' (first | (with_reducible exact Below.refl _ _) | (with_reducible refine Rd.below_step ?_ (by assumption)) | (with_reducible refine Rd.below_alloc ?_ _) | (with_reducible refine Rd.below_drewN ?_ _) | (with_reducible refine Below.drew ?_) | (with_reducible refine Below.setCell ?_ ?_ _) | (with_reducible refine Rd.below_setRow ?_ ?_ _) | go_size | (simp only [World.size_alloc]; omega) | omega)⟩
set_option maxHeartbeats 1000000 in
theorem pixel_2 (a0 a1 a2 a3 c0 c1 c2 c3 : Int) (f : Bool) (w : World) (ha0 : B8 a0) (ha1 : B8 a1) (ha2 : B8 a2) (ha3 : B8 a3) (hc0 : B8 c0) (hc1 : B8 c1) (hc2 : B8 c2) (hc3 : B8 c3) (hT : TB w) :
    Calls Tryd.prog 8 #[.int .i64 2, .agg #[.int .u8 a0, .int .u8 a1, .int .u8 a2, .int .u8 a3], .agg (gotV c0 c1 c2 c3 f)] w fun e w' => e = .returned (.agg #[.int .u8 (c0), .int .u8 (c1), .int .u8 (c2), .int .u8 (c3)]) ∧ Below w.heap.size w w' := by
  unfold gotV
  obtain ⟨h0, hc⟩ := hT
  have k0 : w.cell? ⟨0, 8, none⟩ = some (.bool true) := hc 8 (by omega)
  have k1 : w.cell? ⟨0, 9, none⟩ = some (.bool true) := hc 9 (by omega)
  have k2 : w.cell? ⟨0, 10, none⟩ = some (.bool false) := hc 10 (by omega)
  have k3 : w.cell? ⟨0, 11, none⟩ = some (.bool false) := hc 11 (by omega)
  clear hc
  have hm : mayS 2 = true := by decide
  cases f
  all_goals
    go_enter Tryd.func8, Tryd.ntmps8
    go_wp2_with (go_at_call 6; refine (may_any _ _).mono ?_; rintro e w1 ⟨rfl, rfl⟩; try simp only [hm])
    go_returns
    exact ⟨rfl, by repeat' (first | (with_reducible exact Below.refl _ _) | (with_reducible refine Rd.below_step ?_ (by assumption)) | (with_reducible refine Rd.below_alloc ?_ _) | (with_reducible refine Rd.below_drewN ?_ _) | (with_reducible refine Below.drew ?_) | (with_reducible refine Below.setCell ?_ ?_ _) | (with_reducible refine Rd.below_setRow ?_ ?_ _) | go_size | (simp only [World.size_alloc]; omega) | omega)⟩
section
attribute [local go_sem ↓] store_col
attribute [local go_sem] run_store_col rowStore_eq setRow_alloc_at setRow_alloc_old setRow_drew setRow_drewN one_int
set_option maxHeartbeats 1000000 in
theorem pixel_3 (a0 a1 a2 a3 c0 c1 c2 c3 : Int) (f : Bool) (w : World) (ha0 : B8 a0) (ha1 : B8 a1) (ha2 : B8 a2) (ha3 : B8 a3) (hc0 : B8 c0) (hc1 : B8 c1) (hc2 : B8 c2) (hc3 : B8 c3) (hT : TB w) :
    Calls Tryd.prog 8 #[.int .i64 3, .agg #[.int .u8 a0, .int .u8 a1, .int .u8 a2, .int .u8 a3], .agg (gotV c0 c1 c2 c3 f)] w fun e w' => e = .returned (.agg #[.int .u8 (timesB c0 a0), .int .u8 (timesB c1 a1), .int .u8 (timesB c2 a2), .int .u8 (timesB c3 a3)]) ∧ Below w.heap.size w w' := by
  unfold gotV
  obtain ⟨h0, hc⟩ := hT
  have k0 : w.cell? ⟨0, 12, none⟩ = some (.bool true) := hc 12 (by omega)
  have k1 : w.cell? ⟨0, 13, none⟩ = some (.bool true) := hc 13 (by omega)
  have k2 : w.cell? ⟨0, 14, none⟩ = some (.bool true) := hc 14 (by omega)
  have k3 : w.cell? ⟨0, 15, none⟩ = some (.bool false) := hc 15 (by omega)
  clear hc
  have hm : mayS 3 = true := by decide
  cases f
  all_goals
    go_enter Tryd.func8, Tryd.ntmps8
    go_wp2_with (go_at_call 6; refine (may_any _ _).mono ?_; rintro e w1 ⟨rfl, rfl⟩; try simp only [hm])
    refine (times_any c0 c1 c2 c3 a0 a1 a2 a3 _ hc0 hc1 hc2 hc3 ha0 ha1 ha2 ha3).mono ?_
    rintro e w2 ⟨rfl, hb⟩
    have s2 := hb.size
    simp only [World.size_alloc] at s2
    have Z0 := (blk_below hb (w.heap.size + 1 + 1) (by simp)).trans ((blk_alloc_old _ _ _ (by simp)).trans (blk3_2 _ _ _ _))
    go_wp2
    exact ret_col1 rfl (w.heap.size + 1 + 1) _ _ rfl rfl (blk_setRow_of Z0 _) rfl ⟨rfl, by repeat' (first | (with_reducible exact Below.refl _ _) | (with_reducible refine Rd.below_step ?_ (by assumption)) | (with_reducible refine Rd.below_alloc ?_ _) | (with_reducible refine Rd.below_drewN ?_ _) | (with_reducible refine Below.drew ?_) | (with_reducible refine Below.setCell ?_ ?_ _) | (with_reducible refine Rd.below_setRow ?_ ?_ _) | go_size | (simp only [World.size_alloc]; omega) | omega)⟩
end
set_option maxHeartbeats 1000000 in
theorem pixel_4f (a0 a1 a2 a3 c0 c1 c2 c3 : Int) (w : World) (ha0 : B8 a0) (ha1 : B8 a1) (ha2 : B8 a2) (ha3 : B8 a3) (hc0 : B8 c0) (hc1 : B8 c1) (hc2 : B8 c2) (hc3 : B8 c3) (hT : TB w) :
    Calls Tryd.prog 8 #[.int .i64 4, .agg #[.int .u8 a0, .int .u8 a1, .int .u8 a2, .int .u8 a3], .agg (gotV c0 c1 c2 c3 false)] w fun e w' => e = .returned (.agg #[.int .u8 (a0), .int .u8 (a1), .int .u8 (a2), .int .u8 (a3)]) ∧ Below w.heap.size w w' := by
  unfold gotV
  obtain ⟨h0, hc⟩ := hT
  have k0 : w.cell? ⟨0, 16, none⟩ = some (.bool true) := hc 16 (by omega)
  have k1 : w.cell? ⟨0, 17, none⟩ = some (.bool false) := hc 17 (by omega)
  have k2 : w.cell? ⟨0, 18, none⟩ = some (.bool true) := hc 18 (by omega)
  have k3 : w.cell? ⟨0, 19, none⟩ = some (.bool true) := hc 19 (by omega)
  clear hc
  have hm : mayS 4 = true := by decide
  go_enter Tryd.func8, Tryd.ntmps8
  go_wp2_with (go_at_call 6; refine (may_any _ _).mono ?_; rintro e w1 ⟨rfl, rfl⟩; try simp only [hm])
  go_returns
  exact ⟨rfl, by repeat' (first | (with_reducible exact Below.refl _ _) | (with_reducible refine Rd.below_step ?_ (by assumption)) | (with_reducible refine Rd.below_alloc ?_ _) | (with_reducible refine Rd.below_drewN ?_ _) | (with_reducible refine Below.drew ?_) | (with_reducible refine Below.setCell ?_ ?_ _) | (with_reducible refine Rd.below_setRow ?_ ?_ _) | go_size | (simp only [World.size_alloc]; omega) | omega)⟩
section
attribute [local go_sem ↓] store_col
attribute [local go_sem] run_store_col rowStore_eq setRow_alloc_at setRow_alloc_old setRow_drew setRow_drewN one_int
set_option maxHeartbeats 1000000 in
theorem pixel_4t (a0 a1 a2 a3 c0 c1 c2 c3 : Int) (w : World) (ha0 : B8 a0) (ha1 : B8 a1) (ha2 : B8 a2) (ha3 : B8 a3) (hc0 : B8 c0) (hc1 : B8 c1) (hc2 : B8 c2) (hc3 : B8 c3) (hT : TB w) :
    Calls Tryd.prog 8 #[.int .i64 4, .agg #[.int .u8 a0, .int .u8 a1, .int .u8 a2, .int .u8 a3], .agg (gotV c0 c1 c2 c3 true)] w fun e w' => e = .returned (.agg #[.int .u8 (255), .int .u8 (255), .int .u8 (255), .int .u8 (255)]) ∧ Below w.heap.size w w' := by
  unfold gotV
  obtain ⟨h0, hc⟩ := hT
  have k0 : w.cell? ⟨0, 16, none⟩ = some (.bool true) := hc 16 (by omega)
  have k1 : w.cell? ⟨0, 17, none⟩ = some (.bool false) := hc 17 (by omega)
  have k2 : w.cell? ⟨0, 18, none⟩ = some (.bool true) := hc 18 (by omega)
  have k3 : w.cell? ⟨0, 19, none⟩ = some (.bool true) := hc 19 (by omega)
  clear hc
  have hm : mayS 4 = true := by decide
  go_enter Tryd.func8, Tryd.ntmps8
  go_wp2_with (go_at_call 6; refine (may_any _ _).mono ?_; rintro e w1 ⟨rfl, rfl⟩; try simp only [hm])
  refine (white_any _).mono ?_
  rintro e w2 ⟨rfl, hb⟩
  have s2 := hb.size
  simp only [World.size_alloc] at s2
  have Z0 := (blk_below hb (w.heap.size + 1 + 1) (by simp)).trans ((blk_alloc_old _ _ _ (by simp)).trans (blk3_2 _ _ _ _))
  go_wp2
  exact ret_col1 rfl (w.heap.size + 1 + 1) _ _ rfl rfl (blk_setRow_of Z0 _) rfl ⟨rfl, by repeat' (first | (with_reducible exact Below.refl _ _) | (with_reducible refine Rd.below_step ?_ (by assumption)) | (with_reducible refine Rd.below_alloc ?_ _) | (with_reducible refine Rd.below_drewN ?_ _) | (with_reducible refine Below.drew ?_) | (with_reducible refine Below.setCell ?_ ?_ _) | (with_reducible refine Rd.below_setRow ?_ ?_ _) | go_size | (simp only [World.size_alloc]; omega) | omega)⟩
end
theorem pixel_no (n : Int) (a0 a1 a2 a3 c0 c1 c2 c3 : Int) (f : Bool) (w : World) (hm : mayS n = false) :
    Calls Tryd.prog 8 #[.int .i64 n, .agg #[.int .u8 a0, .int .u8 a1, .int .u8 a2, .int .u8 a3], .agg (gotV c0 c1 c2 c3 f)] w fun e w' => e = .returned (.agg #[.int .u8 (0), .int .u8 (0), .int .u8 (0), .int .u8 (0)]) ∧ Below w.heap.size w w' := by
  unfold gotV
  go_enter Tryd.func8, Tryd.ntmps8
  go_wp2_with (go_at_call 6; refine (may_any _ _).mono ?_; rintro e w1 ⟨rfl, rfl⟩; try simp only [hm])
  go_returns
  exact ⟨rfl, by repeat' (first | (with_reducible exact Below.refl _ _) | (with_reducible refine Rd.below_step ?_ (by assumption)) | (with_reducible refine Rd.below_alloc ?_ _) | (with_reducible refine Rd.below_drewN ?_ _) | (with_reducible refine Below.drew ?_) | (with_reducible refine Below.setCell ?_ ?_ _) | (with_reducible refine Rd.below_setRow ?_ ?_ _) | go_size | (simp only [World.size_alloc]; omega) | omega)⟩
theorem not_may {n : Int} (h : mayS n = false) : ¬ n = 1 ∧ ¬ n = 2 ∧ ¬ n = 3 ∧ ¬ n = 4 := by
  simp only [mayS, Bool.and_eq_false_iff, decide_eq_false_iff_not] at h
  omega
theorem pixel_any (n : Int) (a0 a1 a2 a3 c0 c1 c2 c3 : Int) (f : Bool) (w : World) (ha0 : B8 a0) (ha1 : B8 a1) (ha2 : B8 a2) (ha3 : B8 a3) (hc0 : B8 c0) (hc1 : B8 c1) (hc2 : B8 c2) (hc3 : B8 c3) (hT : TB w) :
    Calls Tryd.prog 8 #[.int .i64 n, .agg #[.int .u8 a0, .int .u8 a1, .int .u8 a2, .int .u8 a3], .agg (gotV c0 c1 c2 c3 f)] w fun e w' => e = .returned (.agg #[.int .u8 (pixK n a0 c0 f), .int .u8 (pixK n a1 c1 f), .int .u8 (pixK n a2 c2 f), .int .u8 (pixK n a3 c3 f)]) ∧ Below w.heap.size w w' := by
  cases hm : mayS n
  · obtain ⟨n1, n2, n3, n4⟩ := not_may hm
    simp only [pixK, if_neg n1, if_neg n2, if_neg n3, if_neg n4]
    exact pixel_no n a0 a1 a2 a3 c0 c1 c2 c3 f w hm
  · rcases four hm with rfl | rfl | rfl | rfl
    · exact pixel_1 a0 a1 a2 a3 c0 c1 c2 c3 f w ha0 ha1 ha2 ha3 hc0 hc1 hc2 hc3 hT
    · exact pixel_2 a0 a1 a2 a3 c0 c1 c2 c3 f w ha0 ha1 ha2 ha3 hc0 hc1 hc2 hc3 hT
    · exact pixel_3 a0 a1 a2 a3 c0 c1 c2 c3 f w ha0 ha1 ha2 ha3 hc0 hc1 hc2 hc3 hT
    · cases f
      · exact pixel_4f a0 a1 a2 a3 c0 c1 c2 c3 w ha0 ha1 ha2 ha3 hc0 hc1 hc2 hc3 hT
      · exact pixel_4t a0 a1 a2 a3 c0 c1 c2 c3 w ha0 ha1 ha2 ha3 hc0 hc1 hc2 hc3 hT
set_option maxHeartbeats 1000000 in
theorem rpixel_1 (a0 a1 a2 a3 c0 c1 c2 c3 : Int) (f : Bool) (w : World) (ha0 : B8 a0) (ha1 : B8 a1) (ha2 : B8 a2) (ha3 : B8 a3) (hc0 : B8 c0) (hc1 : B8 c1) (hc2 : B8 c2) (hc3 : B8 c3) :
    Calls Tryd.prog 9 #[.int .i64 1, .agg #[.int .u8 a0, .int .u8 a1, .int .u8 a2, .int .u8 a3], .agg (gotV c0 c1 c2 c3 f)] w fun e w' => e = .returned (.agg #[.int .u8 (a0), .int .u8 (a1), .int .u8 (a2), .int .u8 (a3)]) ∧ Below w.heap.size w w' := by
  unfold gotV
  cases f
  all_goals
    go_enter Tryd.func9, Tryd.ntmps9
    go_wp2
    go_returns
    exact ⟨rfl, by repeat' (first | (with_reducible exact Below.refl _ _) | (with_reducible refine Rd.below_step ?_ (by assumption)) | (with_reducible refine Rd.below_alloc ?_ _) | (with_reducible refine Rd.below_drewN ?_ _) | (with_reducible refine Below.drew ?_) | (with_reducible refine Below.setCell ?_ ?_ _) | (with_reducible refine Rd.below_setRow ?_ ?_ _) | go_size | (simp only [World.size_alloc]; omega) | omega)⟩
set_option maxHeartbeats 1000000 in
theorem rpixel_2 (a0 a1 a2 a3 c0 c1 c2 c3 : Int) (f : Bool) (w : World) (ha0 : B8 a0) (ha1 : B8 a1) (ha2 : B8 a2) (ha3 : B8 a3) (hc0 : B8 c0) (hc1 : B8 c1) (hc2 : B8 c2) (hc3 : B8 c3) :
    Calls Tryd.prog 9 #[.int .i64 2, .agg #[.int .u8 a0, .int .u8 a1, .int .u8 a2, .int .u8 a3], .agg (gotV c0 c1 c2 c3 f)] w fun e w' => e = .returned (.agg #[.int .u8 (c0), .int .u8 (c1), .int .u8 (c2), .int .u8 (c3)]) ∧ Below w.heap.size w w' := by
  unfold gotV
  cases f
  all_goals
    go_enter Tryd.func9, Tryd.ntmps9
    go_wp2
    go_returns
    exact ⟨rfl, by repeat' (first | (with_reducible exact Below.refl _ _) | (with_reducible refine Rd.below_step ?_ (by assumption)) | (with_reducible refine Rd.below_alloc ?_ _) | (with_reducible refine Rd.below_drewN ?_ _) | (with_reducible refine Below.drew ?_) | (with_reducible refine Below.setCell ?_ ?_ _) | (with_reducible refine Rd.below_setRow ?_ ?_ _) | go_size | (simp only [World.size_alloc]; omega) | omega)⟩
section
attribute [local go_sem ↓] store_col
attribute [local go_sem] run_store_col rowStore_eq setRow_alloc_at setRow_alloc_old setRow_drew setRow_drewN one_int
set_option maxHeartbeats 1000000 in
theorem rpixel_3 (a0 a1 a2 a3 c0 c1 c2 c3 : Int) (f : Bool) (w : World) (ha0 : B8 a0) (ha1 : B8 a1) (ha2 : B8 a2) (ha3 : B8 a3) (hc0 : B8 c0) (hc1 : B8 c1) (hc2 : B8 c2) (hc3 : B8 c3) :
    Calls Tryd.prog 9 #[.int .i64 3, .agg #[.int .u8 a0, .int .u8 a1, .int .u8 a2, .int .u8 a3], .agg (gotV c0 c1 c2 c3 f)] w fun e w' => e = .returned (.agg #[.int .u8 (timesB c0 a0), .int .u8 (timesB c1 a1), .int .u8 (timesB c2 a2), .int .u8 (timesB c3 a3)]) ∧ Below w.heap.size w w' := by
  unfold gotV
  cases f
  all_goals
    go_enter Tryd.func9, Tryd.ntmps9
    go_wp2_with fail
    refine (rtimes_any c0 c1 c2 c3 a0 a1 a2 a3 _ hc0 hc1 hc2 hc3 ha0 ha1 ha2 ha3).mono ?_
    rintro e w2 ⟨rfl, hb⟩
    have s2 := hb.size
    simp only [World.size_alloc] at s2
    have Z0 := (blk_below hb (w.heap.size + 1 + 1) (by simp)).trans (blk3_2 _ _ _ _)
    go_wp2
    exact ret_col1 rfl (w.heap.size + 1 + 1) _ _ rfl rfl (blk_setRow_of Z0 _) rfl ⟨rfl, by repeat' (first | (with_reducible exact Below.refl _ _) | (with_reducible refine Rd.below_step ?_ (by assumption)) | (with_reducible refine Rd.below_alloc ?_ _) | (with_reducible refine Rd.below_drewN ?_ _) | (with_reducible refine Below.drew ?_) | (with_reducible refine Below.setCell ?_ ?_ _) | (with_reducible refine Rd.below_setRow ?_ ?_ _) | go_size | (simp only [World.size_alloc]; omega) | omega)⟩
end
set_option maxHeartbeats 1000000 in
theorem rpixel_4f (a0 a1 a2 a3 c0 c1 c2 c3 : Int) (w : World) (ha0 : B8 a0) (ha1 : B8 a1) (ha2 : B8 a2) (ha3 : B8 a3) (hc0 : B8 c0) (hc1 : B8 c1) (hc2 : B8 c2) (hc3 : B8 c3) :
    Calls Tryd.prog 9 #[.int .i64 4, .agg #[.int .u8 a0, .int .u8 a1, .int .u8 a2, .int .u8 a3], .agg (gotV c0 c1 c2 c3 false)] w fun e w' => e = .returned (.agg #[.int .u8 (a0), .int .u8 (a1), .int .u8 (a2), .int .u8 (a3)]) ∧ Below w.heap.size w w' := by
  unfold gotV
  go_enter Tryd.func9, Tryd.ntmps9
  go_wp2
  go_returns
  exact ⟨rfl, by repeat' (first | (with_reducible exact Below.refl _ _) | (with_reducible refine Rd.below_step ?_ (by assumption)) | (with_reducible refine Rd.below_alloc ?_ _) | (with_reducible refine Rd.below_drewN ?_ _) | (with_reducible refine Below.drew ?_) | (with_reducible refine Below.setCell ?_ ?_ _) | (with_reducible refine Rd.below_setRow ?_ ?_ _) | go_size | (simp only [World.size_alloc]; omega) | omega)⟩
set_option maxHeartbeats 1000000 in
theorem rpixel_4t (a0 a1 a2 a3 c0 c1 c2 c3 : Int) (w : World) (ha0 : B8 a0) (ha1 : B8 a1) (ha2 : B8 a2) (ha3 : B8 a3) (hc0 : B8 c0) (hc1 : B8 c1) (hc2 : B8 c2) (hc3 : B8 c3) :
    Calls Tryd.prog 9 #[.int .i64 4, .agg #[.int .u8 a0, .int .u8 a1, .int .u8 a2, .int .u8 a3], .agg (gotV c0 c1 c2 c3 true)] w fun e w' => e = .returned (.agg #[.int .u8 (255), .int .u8 (255), .int .u8 (255), .int .u8 (255)]) ∧ Below w.heap.size w w' := by
  unfold gotV
  go_enter Tryd.func9, Tryd.ntmps9
  go_wp2
  go_returns
  exact ⟨rfl, by repeat' (first | (with_reducible exact Below.refl _ _) | (with_reducible refine Rd.below_step ?_ (by assumption)) | (with_reducible refine Rd.below_alloc ?_ _) | (with_reducible refine Rd.below_drewN ?_ _) | (with_reducible refine Below.drew ?_) | (with_reducible refine Below.setCell ?_ ?_ _) | (with_reducible refine Rd.below_setRow ?_ ?_ _) | go_size | (simp only [World.size_alloc]; omega) | omega)⟩
set_option maxHeartbeats 1000000 in
theorem rpixel_no (n : Int) (a0 a1 a2 a3 c0 c1 c2 c3 : Int) (f : Bool) (w : World) (ha0 : B8 a0) (ha1 : B8 a1) (ha2 : B8 a2) (ha3 : B8 a3) (hc0 : B8 c0) (hc1 : B8 c1) (hc2 : B8 c2) (hc3 : B8 c3) (n1 : ¬ n = 1) (n2 : ¬ n = 2) (n3 : ¬ n = 3) (n4 : ¬ n = 4) :
    Calls Tryd.prog 9 #[.int .i64 n, .agg #[.int .u8 a0, .int .u8 a1, .int .u8 a2, .int .u8 a3], .agg (gotV c0 c1 c2 c3 f)] w fun e w' => e = .returned (.agg #[.int .u8 (0), .int .u8 (0), .int .u8 (0), .int .u8 (0)]) ∧ Below w.heap.size w w' := by
  unfold gotV
  cases f
  all_goals
    go_enter Tryd.func9, Tryd.ntmps9
    go_wp2
    go_returns
    exact ⟨rfl, by repeat' (first | (with_reducible exact Below.refl _ _) | (with_reducible refine Rd.below_step ?_ (by assumption)) | (with_reducible refine Rd.below_alloc ?_ _) | (with_reducible refine Rd.below_drewN ?_ _) | (with_reducible refine Below.drew ?_) | (with_reducible refine Below.setCell ?_ ?_ _) | (with_reducible refine Rd.below_setRow ?_ ?_ _) | go_size | (simp only [World.size_alloc]; omega) | omega)⟩
theorem rpixel_any (n : Int) (a0 a1 a2 a3 c0 c1 c2 c3 : Int) (f : Bool) (w : World) (ha0 : B8 a0) (ha1 : B8 a1) (ha2 : B8 a2) (ha3 : B8 a3) (hc0 : B8 c0) (hc1 : B8 c1) (hc2 : B8 c2) (hc3 : B8 c3) :
    Calls Tryd.prog 9 #[.int .i64 n, .agg #[.int .u8 a0, .int .u8 a1, .int .u8 a2, .int .u8 a3], .agg (gotV c0 c1 c2 c3 f)] w fun e w' => e = .returned (.agg #[.int .u8 (pixK n a0 c0 f), .int .u8 (pixK n a1 c1 f), .int .u8 (pixK n a2 c2 f), .int .u8 (pixK n a3 c3 f)]) ∧ Below w.heap.size w w' := by
  cases hm : mayS n
  · obtain ⟨n1, n2, n3, n4⟩ := not_may hm
    simp only [pixK, if_neg n1, if_neg n2, if_neg n3, if_neg n4]
    exact rpixel_no n a0 a1 a2 a3 c0 c1 c2 c3 f w ha0 ha1 ha2 ha3 hc0 hc1 hc2 hc3 n1 n2 n3 n4
  · rcases four hm with rfl | rfl | rfl | rfl
    · exact rpixel_1 a0 a1 a2 a3 c0 c1 c2 c3 f w ha0 ha1 ha2 ha3 hc0 hc1 hc2 hc3
    · exact rpixel_2 a0 a1 a2 a3 c0 c1 c2 c3 f w ha0 ha1 ha2 ha3 hc0 hc1 hc2 hc3
    · exact rpixel_3 a0 a1 a2 a3 c0 c1 c2 c3 f w ha0 ha1 ha2 ha3 hc0 hc1 hc2 hc3
    · cases f
      · exact rpixel_4f a0 a1 a2 a3 c0 c1 c2 c3 w ha0 ha1 ha2 ha3 hc0 hc1 hc2 hc3
      · exact rpixel_4t a0 a1 a2 a3 c0 c1 c2 c3 w ha0 ha1 ha2 ha3 hc0 hc1 hc2 hc3
end Go.Proofs.YtbogcaiobdhmjaaDoor.ShA

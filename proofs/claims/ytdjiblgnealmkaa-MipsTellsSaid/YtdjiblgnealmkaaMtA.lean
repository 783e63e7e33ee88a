/-
  The reference's Build and With refused.
-/
import Derived.Test.YtdjiblgnealmkaaRfU
namespace Go.Proofs.Ytdjiblgnealmkaa.MtA
open Go.RowKit Rd Go.Proofs.Ytdjiblgnealmkaa.Row Mid DkM HueA MpM MpA MpB MpC MpD MpE MpF MpG RfA RfB RfE
open MpU (bd_keep)
set_option linter.unusedVariables false
set_option linter.unusedSimpArgs false
set_option maxRecDepth 10000
variable {b D : Nat} {wr : Bool} {ps : List Px}
attribute [local go_sem ↓] load_tex store_tex
attribute [local go_sem] run_load_tex run_store_tex rowStore_eq rowLoad_eq one_int one_bool blk_alloc_at blk_alloc_old blk_drew blk_drewN blk_grow setRow_alloc_at setRow_alloc_old setRow_drew setRow_drewN
set_option maxHeartbeats 4000000 in
theorem RBuild_no (Dt : Int) (wr : Bool) (ad : Option Addr) (n c : Nat) (w : World) (hM : mayT Dt n = false) :
    Calls Try.prog 13 #[.agg #[.int .i64 Dt, .bool wr, .slice ad n c]] w fun e w' => e = .returned (.pointer none) ∧ Below w.heap.size w w' := by
  have CM := Lib.hid (fun X => RMay_any Dt wr ad n c X)
  rw [hM] at CM
  clear hM
  go_enter Try.func13, Try.ntmps13
  go_wp2_with fail
  refine (CM.out _).mono ?_
  rintro e w1 ⟨rfl, hb1⟩
  go_wp2
  go_ret
  exact ⟨rfl, by repeat' (first | (with_reducible exact Below.refl _ _) | (with_reducible refine Rd.below_step ?_ (by assumption)) | (with_reducible refine Rd.below_alloc ?_ _) | (with_reducible refine Rd.below_drewN ?_ _) | (with_reducible refine Below.drew ?_) | (with_reducible refine Below.setCell ?_ ?_ _) | (with_reducible refine Rd.below_setRow ?_ ?_ _) | go_size | (simp only [World.size_alloc]; omega) | omega)⟩
set_option maxHeartbeats 8000000 in
theorem RWith_no (x y w9 h9 : Int) (a : Option Addr) (m c : Nat) (w : World) (h : Rp w b D (D + 1) wr ps) (hno : withinV (sd D) x w9 = false ∨ withinV (sd D) y h9 = false ∨ (m : Int) ≠ w9 * h9) (hm : m ≤ 1000000)
    (hx : I64 x) (hy : I64 y) (hw : I64 w9) (hh : I64 h9) :
    Calls Try.prog 16 #[.pointer (some ⟨b, 0, none⟩), .int .i64 x, .int .i64 y, .int .i64 w9, .int .i64 h9, .slice a m c] w fun e w' => e = .returned (.pointer none) ∧ Below w.heap.size w w' := by
  have hd := h.d3
  have hs := sd_le hd
  have hs4 := sd_pos D
  have CS := Lib.hid fun X (hX : Rp X b D (D + 1) wr ps) => (szE_in (D := D) (l := 0) (Nat.zero_le D) ▸ RSize_any ((0 : Nat) : Int) X hX : Calls Try.prog _ _ X fun e w' => e = .returned (.int .i64 (sd (D - 0))) ∧ Below X.heap.size X w')
  rw [Nat.sub_zero] at CS
  obtain ⟨n, hn⟩ : ∃ n, sd D = n := ⟨_, rfl⟩
  rw [hn] at CS hs hs4 hno
  obtain ⟨hx1, hx2⟩ := hx
  obtain ⟨hy1, hy2⟩ := hy
  obtain ⟨hw1, hw2⟩ := hw
  obtain ⟨hh1, hh2⟩ := hh
  have hW : ∀ x w9 : Int, withinV n x w9 = decide (0 ≤ x ∧ 1 ≤ w9 ∧ x < n ∧ w9 ≤ n - x) := fun x w9 => by unfold withinV; exact decide_eq_decide.2 (by omega)
  rw [hW, hW] at hno
  clear hn hW
  by_cases k1 : w9 < 1
  · have g1 : decide (w9 < 1) = true := decide_eq_true k1
    clear hno
    go_enter Try.func16, Try.ntmps16
    go_wp2_with fail
    refine (CS.out _ h).mono ?_
    rintro e w1 ⟨rfl, hb1⟩
    go_wp2
    go_ret
    exact ⟨rfl, hb1⟩
  have g1 : decide (w9 < 1) = false := decide_eq_false k1
  by_cases k2 : h9 < 1
  · have g2 : decide (h9 < 1) = true := decide_eq_true k2
    clear hno
    go_enter Try.func16, Try.ntmps16
    go_wp2_with fail
    refine (CS.out _ h).mono ?_
    rintro e w1 ⟨rfl, hb1⟩
    go_wp2
    go_ret
    exact ⟨rfl, hb1⟩
  have g2 : decide (h9 < 1) = false := decide_eq_false k2
  by_cases k3 : x < 0
  · have g3 : decide (x < 0) = true := decide_eq_true k3
    clear hno
    go_enter Try.func16, Try.ntmps16
    go_wp2_with fail
    refine (CS.out _ h).mono ?_
    rintro e w1 ⟨rfl, hb1⟩
    go_wp2
    go_ret
    exact ⟨rfl, hb1⟩
  have g3 : decide (x < 0) = false := decide_eq_false k3
  by_cases k4 : y < 0
  · have g4 : decide (y < 0) = true := decide_eq_true k4
    clear hno
    go_enter Try.func16, Try.ntmps16
    go_wp2_with fail
    refine (CS.out _ h).mono ?_
    rintro e w1 ⟨rfl, hb1⟩
    go_wp2
    go_ret
    exact ⟨rfl, hb1⟩
  have g4 : decide (y < 0) = false := decide_eq_false k4
  by_cases k5 : (n : Int) < x
  · have g5 : decide ((n : Int) < x) = true := decide_eq_true k5
    clear hno
    go_enter Try.func16, Try.ntmps16
    go_wp2_with fail
    refine (CS.out _ h).mono ?_
    rintro e w1 ⟨rfl, hb1⟩
    go_wp2
    go_ret
    exact ⟨rfl, hb1⟩
  have g5 : decide ((n : Int) < x) = false := decide_eq_false k5
  by_cases k6 : (n : Int) < y
  · have g6 : decide ((n : Int) < y) = true := decide_eq_true k6
    clear hno
    go_enter Try.func16, Try.ntmps16
    go_wp2_with fail
    refine (CS.out _ h).mono ?_
    rintro e w1 ⟨rfl, hb1⟩
    go_wp2
    go_ret
    exact ⟨rfl, hb1⟩
  have g6 : decide ((n : Int) < y) = false := decide_eq_false k6
  by_cases k7 : (n : Int) - x < w9
  · have g7 : decide ((n : Int) - x < w9) = true := decide_eq_true k7
    clear hno
    go_enter Try.func16, Try.ntmps16
    go_wp2_with fail
    refine (CS.out _ h).mono ?_
    rintro e w1 ⟨rfl, hb1⟩
    go_wp2
    go_ret
    exact ⟨rfl, hb1⟩
  have g7 : decide ((n : Int) - x < w9) = false := decide_eq_false k7
  by_cases k8 : (n : Int) - y < h9
  · have g8 : decide ((n : Int) - y < h9) = true := decide_eq_true k8
    clear hno
    go_enter Try.func16, Try.ntmps16
    go_wp2_with fail
    refine (CS.out _ h).mono ?_
    rintro e w1 ⟨rfl, hb1⟩
    go_wp2
    go_ret
    exact ⟨rfl, hb1⟩
  have g8 : decide ((n : Int) - y < h9) = false := decide_eq_false k8
  have hne : (m : Int) ≠ w9 * h9 := by
    rcases hno with h | h | h
    · have := of_decide_eq_false h; omega
    · have := of_decide_eq_false h; omega
    · exact h
  obtain ⟨wn, rfl⟩ : ∃ k : Nat, w9 = k := ⟨w9.toNat, by omega⟩
  obtain ⟨hn, rfl⟩ : ∃ k : Nat, h9 = k := ⟨h9.toNat, by omega⟩
  have hq : wn * hn ≤ 32 * 32 := Nat.mul_le_mul (by omega) (by omega)
  obtain ⟨q, hq2⟩ : ∃ q, q = wn * hn := ⟨_, rfl⟩
  have hq3 : (wn : Int) * (hn : Int) = (q : Int) := by rw [hq2]; push_cast; rfl
  rw [hq3] at hne
  rw [← hq2] at hq
  have g9 : ((m : Int) != (q : Int)) = true := by simp; omega
  clear hno hq2
  go_enter Try.func16, Try.ntmps16
  go_wp2_with fail
  refine (CS.out _ h).mono ?_
  rintro e w1 ⟨rfl, hb1⟩
  go_wp2
  all_goals (go_ret; exact ⟨rfl, hb1⟩)
end Go.Proofs.Ytdjiblgnealmkaa.MtA

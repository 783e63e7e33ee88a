/-
  The reference's pyramid in the store; Size, Address, At.
  The reference's MayTex and Build.
  A page's bytes: 36 texels; cut.Page.
  The reference's Cut.
-/
import Derived.Test.YtkklppjimnkibaaMpG
import Derived.Test.YtkklppjimnkibaaPgC
import Derived.Test.YtkklppjimnkibaaPgB
namespace Go.Proofs.Ytkklppjimnkibaa.RfA
open Go.RowKit Rd Go.Proofs.Ytkklppjimnkibaa.Row Mid DkM HueA MpM MpA MpB
set_option linter.unusedVariables false
set_option linter.unusedSimpArgs false
set_option maxRecDepth 10000
/-- the reference's pyramid, its first K levels -/
structure Rp (X : World) (b D K : Nat) (wr : Bool) (ps : List Px) : Prop where
  d3 : D ≤ 3
  len : ps.length = sd D * sd D
  bb : RB ps
  lt : b < X.heap.size
  kD : K ≤ D + 1
  c0 : X.cell? ⟨b, 0, none⟩ = some (.int .i64 D)
  c1 : X.cell? ⟨b, 1, none⟩ = some (.bool wr)
  c2 : ∃ t cap, X.cell? ⟨b, 2, none⟩ = some (.slice (some ⟨t, 0, none⟩) (sd D * sd D) cap) ∧ t < X.heap.size ∧ sd D * sd D ≤ cap ∧ cap ≤ maxLen ∧ Reads X 4 (some ⟨t, 0, none⟩) (sd D * sd D) (cp ps)
  c3 : ∃ g cap, X.cell? ⟨b, 3, none⟩ = some (.slice (some ⟨g, 0, none⟩) K cap) ∧ g < X.heap.size ∧ K ≤ cap ∧ cap ≤ maxLen ∧ Lvs X g D K ps
variable {X Y : World} {b D K : Nat} {wr : Bool} {ps : List Px}
theorem Rp.below (h : Rp X b D K wr ps) (hb : Below X.heap.size X Y) : Rp Y b D K wr ps := by
  obtain ⟨g, cap, h1, h2, h3, h4, h5⟩ := h.c3
  obtain ⟨t, cp', k1, k2, k3, k4, k5⟩ := h.c2
  exact ⟨h.d3, h.len, h.bb, Nat.lt_of_lt_of_le h.lt hb.size, h.kD, by rw [hb.cell (p := ⟨b, 0, none⟩) h.lt]; exact h.c0, by rw [hb.cell (p := ⟨b, 1, none⟩) h.lt]; exact h.c1, ⟨t, cp', by rw [hb.cell (p := ⟨b, 2, none⟩) h.lt]; exact k1, Nat.lt_of_lt_of_le k2 hb.size, k3, k4, k5.below hb (Nat.le_refl _)⟩, g, cap, by rw [hb.cell (p := ⟨b, 3, none⟩) h.lt]; exact h1, Nat.lt_of_lt_of_le h2 hb.size, h3, h4, h5.below h2 hb⟩
/-! Size -/
theorem shl_w {d : Nat} (h : d ≤ 3) : Op.shift .shl .i64 4 .i64 (d : Int) = pure (.int .i64 (sd d)) := shl_sd h
theorem sd_wrap {d : Nat} (h : d ≤ 3) : wrap64 (4 * (2 : Int) ^ d) = (sd d : Int) := by
  rcases (show d = 0 ∨ d = 1 ∨ d = 2 ∨ d = 3 by omega) with rfl | rfl | rfl | rfl <;> first | decide | (rw [wrap64_eq]; decide) | (unfold wrap64; decide)
theorem RSize_any (l : Int) (w : World) (h : Rp w b D K wr ps) : Calls Try.prog 47 #[.pointer (some ⟨b, 0, none⟩), .int .i64 l] w fun e w' => e = .returned (.int .i64 (szE D l)) ∧ Below w.heap.size w w' := by
  have C := Lib.hid fun Z => PgA.rwithin_any l 0 (D : Int) Z
  have c0 := h.c0
  have hlt := h.lt
  have hd := h.d3
  clear h
  by_cases hl : 0 ≤ l ∧ l ≤ D
  · obtain ⟨k, rfl⟩ : ∃ k : Nat, l = k := ⟨l.toNat, by omega⟩
    have CC : Hid (∀ Z, Calls Try.prog 44 #[.int .i64 k, .int .i64 0, .int .i64 D] Z fun e w' => e = .returned (.bool true) ∧ Below Z.heap.size Z w') := Lib.hid fun Z => (decide_eq_true hl ▸ C.out Z)
    obtain ⟨m, hm⟩ : ∃ m : Nat, m = D - k := ⟨_, rfl⟩
    have hm' : (D : Int) - (k : Int) = (m : Int) := by omega
    have hm3 : m ≤ 3 := by omega
    rw [szE_in (by omega), ← hm]
    clear C hl hd hm
    go_enter Try.func47, Try.ntmps47
    go_wp2_with fail
    refine (CC.out _).mono ?_
    rintro e w1 ⟨rfl, hb1⟩
    have c1 := (hb1.cell (p := ⟨b, 0, none⟩) hlt).trans c0
    clear c0 CC
    go_wp2
    go_ret
    refine ⟨Alk.ret_int ?_, by repeat' (first | (with_reducible exact Below.refl _ _) | (with_reducible refine Rd.below_step ?_ (by assumption)) | (with_reducible refine Rd.below_alloc ?_ _) | (with_reducible refine Rd.below_drewN ?_ _) | (with_reducible refine Below.drew ?_) | (with_reducible refine Below.setCell ?_ ?_ _) | (with_reducible refine Rd.below_setRow ?_ ?_ _) | go_size | (simp only [World.size_alloc]; omega) | omega)⟩
    first | exact sd_wrap hm3 | (rw [← sd_wrap hm3]; rfl) | (rcases (show m = 0 ∨ m = 1 ∨ m = 2 ∨ m = 3 by omega) with rfl | rfl | rfl | rfl <;> first | decide | (rw [wrap64_eq]; decide) | (unfold wrap64; decide) | go_num)
  · have CC : Hid (∀ Z, Calls Try.prog 44 #[.int .i64 l, .int .i64 0, .int .i64 D] Z fun e w' => e = .returned (.bool false) ∧ Below Z.heap.size Z w') := Lib.hid fun Z => (decide_eq_false hl ▸ C.out Z)
    have hR : szE D l = 0 := by unfold szE; rw [if_neg hl]
    rw [hR]
    clear C hR hl
    go_enter Try.func47, Try.ntmps47
    go_wp2_with fail
    refine (CC.out _).mono ?_
    rintro e w1 ⟨rfl, hb1⟩
    go_wp2
    go_ret
    exact ⟨rfl, by repeat' (first | (with_reducible exact Below.refl _ _) | (with_reducible refine Rd.below_step ?_ (by assumption)) | (with_reducible refine Rd.below_alloc ?_ _) | (with_reducible refine Rd.below_drewN ?_ _) | (with_reducible refine Below.drew ?_) | (with_reducible refine Below.setCell ?_ ?_ _) | (with_reducible refine Rd.below_setRow ?_ ?_ _) | go_size | (simp only [World.size_alloc]; omega) | omega)⟩
/-! Address -/
theorem addr_any (x : Int) (n : Nat) (wr : Bool) (w : World) (hn1 : 4 ≤ n) (hn2 : n ≤ 32) (hx : I64 x) :
    Calls Try.prog 64 #[.int .i64 x, .int .i64 n, .bool wr] w fun e w' => e = .returned (.int .i64 (along wr n x)) ∧ w = w' := by
  obtain ⟨hx1, hx2⟩ := hx
  cases wr with
  | true =>
    have t1 := Int.tmod_lt_of_pos x (b := n) (by omega)
    have t2 : -n < x.tmod n := by
      have := Int.tmod_lt_of_pos (-x) (b := n) (by omega)
      rw [Int.neg_tmod] at this; omega
    have hn3 : ¬ (n : Int) = 0 := by omega
    have E := tmod_wrap x n (by omega)
    obtain ⟨t, ht⟩ : ∃ t, x.tmod n = t := ⟨_, rfl⟩
    rw [ht] at t1 t2 E
    have hR : along true n x = if t < 0 then t + n else t := by
      unfold along
      rw [if_pos rfl, ← E]
      split
      · rw [Int.emod_eq_of_lt (by omega) (by omega)]
      · rw [Int.add_emod_right, Int.emod_eq_of_lt (by omega) (by omega)]
    rw [hR]
    clear E hR
    by_cases h0 : t < 0
    · rw [if_pos h0]
      go_enter Try.func64, Try.ntmps64
      go_wp2
      go_ret
      exact ⟨rfl, rfl⟩
    · rw [if_neg h0]
      go_enter Try.func64, Try.ntmps64
      go_wp2
      go_ret
      exact ⟨rfl, rfl⟩
  | false =>
    go_enter Try.func64, Try.ntmps64
    go_wp2
    all_goals
      go_ret
      refine ⟨Alk.ret_int ?_, rfl⟩
      unfold along
      rw [if_neg (by decide)]
      repeat' split at *
      all_goals omega
/-! At -/
attribute [local go_sem ↓] load_col store_col alloc_col
attribute [local go_sem] run_alloc_col run_store_col rowStore_eq blk_alloc_at blk_alloc_old blk_drew blk_drewN blk_set_far blk_set_far' blk_grow setRow_alloc_at setRow_alloc_old setRow_drew setRow_drewN Px.c_size Px.c_all c_all4
set_option maxHeartbeats 8000000 in
theorem RAt_any (l x y : Int) (w : World) (h : Rp w b D K wr ps) (hK : 0 ≤ l → l ≤ D → l < K) (hx : I64 x) (hy : I64 y) :
    Calls Try.prog 49 #[.pointer (some ⟨b, 0, none⟩), .int .i64 l, .int .i64 x, .int .i64 y] w fun e w' => e = .returned (atP ps D wr l x y).v ∧ Below w.heap.size w w' := by
  have hblt := h.lt
  by_cases hl : 0 ≤ l ∧ l ≤ D
  · obtain ⟨k, rfl⟩ : ∃ k : Nat, l = k := ⟨l.toNat, by omega⟩
    have hkK : k < K := by have := hK hl.1 hl.2; omega
    have hR : atP ps D wr k x y = at_ (lev ps D k) ((sd (D - k) * along wr (sd (D - k)) y + along wr (sd (D - k)) x).toNat) := by unfold atP; rw [if_pos hl, Int.toNat_natCast]
    have hlD : k ≤ D := by omega
    have hd := h.d3
    obtain ⟨n, hn⟩ : ∃ n, n = sd (D - k) := ⟨_, rfl⟩
    have CS := Lib.hid fun X (hX : Rp X b D K wr ps) => (szE_in hlD ▸ RSize_any (k : Int) X hX : Calls Try.prog _ _ X fun e w' => e = .returned (.int .i64 (sd (D - k))) ∧ Below X.heap.size X w')
    rw [← hn] at CS hR
    have hn0 : 0 < n := by rw [hn]; have := sd_pos (D - k); omega
    obtain ⟨ax, hax⟩ : ∃ ax : Nat, along wr n x = ax := ⟨(along wr n x).toNat, by have := along_bd hn0 wr x; omega⟩
    obtain ⟨ay, hay⟩ : ∃ ay : Nat, along wr n y = ay := ⟨(along wr n y).toNat, by have := along_bd hn0 wr y; omega⟩
    have bx := along_bd hn0 wr x
    have by' := along_bd hn0 wr y
    rw [hax] at bx
    rw [hay] at by'
    rw [hax, hay, show ((n : Int) * ay + ax) = ((n * ay + ax : Nat) : Int) by push_cast; rfl, Int.toNat_natCast] at hR
    rw [hR]
    have hn1 : 4 ≤ n := by rw [hn]; exact sd_pos _
    have hn2 : n ≤ 32 := by rw [hn]; exact sd_le (by omega)
    have hax' : ax < n := by omega
    have hay' : ay < n := by omega
    have hin : n * ay + ax < n * n := by
      have h9 : n * (ay + 1) ≤ n * n := Nat.mul_le_mul_left n (by omega)
      rw [Nat.mul_add] at h9
      omega
    have hsq := sq_le hn2
    obtain ⟨p, hp⟩ : ∃ p, n * ay = p := ⟨_, rfl⟩
    have hp' : (ay : Int) * (n : Int) = (p : Int) := by rw [Int.mul_comm]; exact_mod_cast hp
    have CX := Lib.hid fun X => (hax ▸ addr_any x n wr X hn1 hn2 hx : Calls Try.prog 64 #[.int .i64 x, .int .i64 n, .bool wr] X fun e w' => e = .returned (.int .i64 ax) ∧ X = w')
    have CY := Lib.hid fun X => (hay ▸ addr_any y n wr X hn1 hn2 hy : Calls Try.prog 64 #[.int .i64 y, .int .i64 n, .bool wr] X fun e w' => e = .returned (.int .i64 ay) ∧ X = w')
    rw [hp] at hin ⊢
    have hnH := Lib.hid hn
    clear hR bx by' hl hp hK hax hay hn
    go_enter Try.func49, Try.ntmps49
    go_wp2_with fail
    refine (CS.out _ (h.below (by repeat' (first | (with_reducible exact Below.refl _ _) | (with_reducible refine Rd.below_step ?_ (by assumption)) | (with_reducible refine Rd.below_alloc ?_ _) | (with_reducible refine Rd.below_drewN ?_ _) | (with_reducible refine Below.drew ?_) | (with_reducible refine Below.setCell ?_ ?_ _) | (with_reducible refine Rd.below_setRow ?_ ?_ _) | go_size | (simp only [World.size_alloc]; omega) | omega)))).mono ?_
    rintro e w1 ⟨rfl, hb1⟩
    have hn3 : ¬ (n : Int) = 0 := by omega
    have hP := (h.below (show Below w.heap.size w (w.alloc (.cells Px.z.c 97)) by repeat' (first | (with_reducible exact Below.refl _ _) | (with_reducible refine Rd.below_step ?_ (by assumption)) | (with_reducible refine Rd.below_alloc ?_ _) | (with_reducible refine Rd.below_drewN ?_ _) | (with_reducible refine Below.drew ?_) | (with_reducible refine Below.setCell ?_ ?_ _) | (with_reducible refine Rd.below_setRow ?_ ?_ _) | go_size | (simp only [World.size_alloc]; omega) | omega))).below hb1
    have L1 : Below w.heap.size w w1 := by repeat' (first | (with_reducible exact Below.refl _ _) | (with_reducible refine Rd.below_step ?_ (by assumption)) | (with_reducible refine Rd.below_alloc ?_ _) | (with_reducible refine Rd.below_drewN ?_ _) | (with_reducible refine Below.drew ?_) | (with_reducible refine Below.setCell ?_ ?_ _) | (with_reducible refine Rd.below_setRow ?_ ?_ _) | go_size | (simp only [World.size_alloc]; omega) | omega)
    have hB1 : blk w1 w.heap.size = some (.cells Px.z.c 97 (0, 0)) := (blk_below hb1 _ (by simp)).trans (blk_alloc_at _ _ _ rfl)
    clear hb1 CS h
    go_upto_region 4 with (fail)
    refine Rd.name_world ?_
    intro W hW
    have hPW : Rp W b D K wr ps := by rw [hW]; exact hP.below (by repeat' (first | (with_reducible exact Below.refl _ _) | (with_reducible refine Rd.below_step ?_ (by assumption)) | (with_reducible refine Rd.below_alloc ?_ _) | (with_reducible refine Rd.below_drewN ?_ _) | (with_reducible refine Below.drew ?_) | (with_reducible refine Below.setCell ?_ ?_ _) | (with_reducible refine Rd.below_setRow ?_ ?_ _) | go_size | (simp only [World.size_alloc]; omega) | omega))
    have L0 : Below w.heap.size w W := by rw [hW]; repeat' (first | (with_reducible exact Below.refl _ _) | (with_reducible refine Rd.below_step ?_ (by assumption)) | (with_reducible refine Rd.below_alloc ?_ _) | (with_reducible refine Rd.below_drewN ?_ _) | (with_reducible refine Below.drew ?_) | (with_reducible refine Below.setCell ?_ ?_ _) | (with_reducible refine Rd.below_setRow ?_ ?_ _) | go_size | (simp only [World.size_alloc]; omega) | omega)
    have hB : blk W w.heap.size = some (.cells Px.z.c 97 (0, 0)) := by rw [hW]; first | exact hB1 | (simp only [blk_drew, blk_drewN]; exact hB1)
    clear hW hP L1 hB1
    obtain ⟨g, cap, c3, hg, hc1, hc2, hL⟩ := hPW.c3
    obtain ⟨c, cap', d0, hc, hcc, hcm, hr⟩ := hL k hkK
    rw [← hnH.out] at d0 hr hcc
    rw [Int.toNat_natCast] at d0
    have g1 := Go.cell_regrown hPW.c1
    have g2 := Go.cell_regrown c3
    have g3 := Go.cell_regrown d0
    have g4 := ld_regrown0 hr (i := p + ax) (by rw [lev_len hPW.len, ← hnH.out]; exact hin)
    obtain ⟨q, hq⟩ : ∃ q, n * n = q := ⟨_, rfl⟩
    rw [hq] at hin hsq d0 hr g3 hcc
    have hin' : (p : Int) + ax < (q : Int) := by exact_mod_cast hin
    have hkK' : (k : Int) < (K : Int) := by exact_mod_cast hkK
    have hK4 : K ≤ 4 := by have := hPW.kD; omega
    clear hq hPW c3 d0 hL
    (refine Reg.below_tail 28 (by kernel_rfl) (by kernel_rfl) ?_; simp only [List.take_succ_cons, List.take_zero, List.drop_succ_cons, List.drop_zero]; (repeat (go_big_quiet_step ((first | (refine reg_of_eq (v := .int .i64 (ax : Int)) ?_; with_reducible exact CX.out _) | (refine reg_of_eq (v := .int .i64 (ay : Int)) ?_; with_reducible exact CY.out _))))); refine wpQuiet_nil ?_)
    intro w3 hU
    have KU := Rd.below_of_regrown hU
    have hB3 := (blk_below KU _ (blk_lt hB)).trans hB
    have L3 : Below w.heap.size w w3 := by repeat' (first | (with_reducible exact Below.refl _ _) | (with_reducible refine Rd.below_step ?_ (by assumption)) | (with_reducible refine Rd.below_alloc ?_ _) | (with_reducible refine Rd.below_drewN ?_ _) | (with_reducible refine Below.drew ?_) | (with_reducible refine Below.setCell ?_ ?_ _) | (with_reducible refine Rd.below_setRow ?_ ?_ _) | go_size | (simp only [World.size_alloc]; omega) | omega)
    have s3 := L3.size
    clear hU g1 g2 g3 g4
    go_wp2
    exact ret_px rfl w.heap.size (at_ (lev ps D k) (p + ax)) rfl (blk_setRow_of hB3 _) rfl ⟨rfl, by repeat' (first | (with_reducible exact Below.refl _ _) | (with_reducible refine Rd.below_step ?_ (by assumption)) | (with_reducible refine Rd.below_alloc ?_ _) | (with_reducible refine Rd.below_drewN ?_ _) | (with_reducible refine Below.drew ?_) | (with_reducible refine Below.setCell ?_ ?_ _) | (with_reducible refine Rd.below_setRow ?_ ?_ _) | go_size | (simp only [World.size_alloc]; omega) | omega)⟩
  · have CS := Lib.hid fun X (hX : Rp X b D K wr ps) => ((show szE D l = 0 by unfold szE; rw [if_neg hl]) ▸ RSize_any l X hX : Calls Try.prog _ _ X fun e w' => e = .returned (.int .i64 0) ∧ Below X.heap.size X w')
    have hR : atP ps D wr l x y = Px.z := by unfold atP; rw [if_neg hl]
    rw [hR]
    clear hR hl hK
    go_enter Try.func49, Try.ntmps49
    go_wp2_with fail
    refine (CS.out _ (h.below (by repeat' (first | (with_reducible exact Below.refl _ _) | (with_reducible refine Rd.below_step ?_ (by assumption)) | (with_reducible refine Rd.below_alloc ?_ _) | (with_reducible refine Rd.below_drewN ?_ _) | (with_reducible refine Below.drew ?_) | (with_reducible refine Below.setCell ?_ ?_ _) | (with_reducible refine Rd.below_setRow ?_ ?_ _) | go_size | (simp only [World.size_alloc]; omega) | omega)))).mono ?_
    rintro e w1 ⟨rfl, hb1⟩
    have L1 : Below w.heap.size w w1 := by repeat' (first | (with_reducible exact Below.refl _ _) | (with_reducible refine Rd.below_step ?_ (by assumption)) | (with_reducible refine Rd.below_alloc ?_ _) | (with_reducible refine Rd.below_drewN ?_ _) | (with_reducible refine Below.drew ?_) | (with_reducible refine Below.setCell ?_ ?_ _) | (with_reducible refine Rd.below_setRow ?_ ?_ _) | go_size | (simp only [World.size_alloc]; omega) | omega)
    have hB1 : blk w1 w.heap.size = some (.cells Px.z.c 97 (0, 0)) := (blk_below hb1 _ (by simp)).trans (blk_alloc_at _ _ _ rfl)
    clear hb1 CS h
    go_wp2
    exact ret_px rfl w.heap.size Px.z rfl (by first | exact hB1 | exact blk_setRow_of hB1 _ | simpa using hB1) rfl ⟨rfl, by repeat' (first | (with_reducible exact Below.refl _ _) | (with_reducible refine Rd.below_step ?_ (by assumption)) | (with_reducible refine Rd.below_alloc ?_ _) | (with_reducible refine Rd.below_drewN ?_ _) | (with_reducible refine Below.drew ?_) | (with_reducible refine Below.setCell ?_ ?_ _) | (with_reducible refine Rd.below_setRow ?_ ?_ _) | go_size | (simp only [World.size_alloc]; omega) | omega)⟩
end Go.Proofs.Ytkklppjimnkibaa.RfA

namespace Go.Proofs.Ytkklppjimnkibaa.RfB
open Go.RowKit Rd Go.Proofs.Ytkklppjimnkibaa.Row Mid DkM HueA MpM MpA MpB MpC MpD MpE MpF RfA
open MpU (atP_in atP_nat bd_keep)
set_option linter.unusedVariables false
set_option linter.unusedSimpArgs false
set_option maxRecDepth 10000
theorem within_q (n a m : Int) (w : World) : Calls Try.prog 44 #[.int .i64 n, .int .i64 a, .int .i64 m] w fun e w' => e = .returned (.bool (decide (a ≤ n ∧ n ≤ m))) ∧ w = w' := by
  by_cases h0 : a ≤ n
  · by_cases h1 : n ≤ m
    · have hw : decide (a ≤ n ∧ n ≤ m) = true := decide_eq_true ⟨h0, h1⟩
      rw [hw]
      clear hw
      go_enter Try.func44, Try.ntmps44
      go_wp2
      go_ret
      exact ⟨by simp <;> omega, by trivial⟩
    · have hw : decide (a ≤ n ∧ n ≤ m) = false := decide_eq_false (by omega)
      rw [hw]
      clear hw
      go_enter Try.func44, Try.ntmps44
      go_wp2
      go_ret
      exact ⟨by simp <;> omega, by trivial⟩
  · have hw : decide (a ≤ n ∧ n ≤ m) = false := decide_eq_false (by omega)
    rw [hw]
    clear hw
    go_enter Try.func44, Try.ntmps44
    go_wp2
    go_ret
    exact ⟨by simp <;> omega, by trivial⟩
set_option maxHeartbeats 8000000 in
theorem RMay_any (D : Int) (wr : Bool) (ad : Option Addr) (n c : Nat) (w : World) :
    Calls Try.prog 46 #[.agg #[.int .i64 D, .bool wr, .slice ad n c]] w fun e w' => e = .returned (.bool (mayT D n)) ∧ Below w.heap.size w w' := by
  obtain ⟨R, hR⟩ : ∃ R, mayT D n = R := ⟨_, rfl⟩
  rw [hR]
  have CW := Lib.hid fun X => within_q D 0 3 X
  by_cases h0 : 0 ≤ D ∧ D ≤ 3
  · obtain ⟨d, rfl⟩ : ∃ d : Nat, D = d := ⟨D.toNat, by omega⟩
    have hd3 : d ≤ 3 := by omega
    have CW1 : Hid (∀ X : World, Calls Try.prog 44 #[.int .i64 d, .int .i64 0, .int .i64 3] X fun e w' => e = .returned (.bool true) ∧ X = w') := Lib.hid fun X => (decide_eq_true h0 ▸ CW.out X)
    obtain ⟨s, hs⟩ : ∃ s, sd d = s := ⟨_, rfl⟩
    have hs2 : s ≤ 32 := by rw [← hs]; exact sd_le hd3
    obtain ⟨q, hq⟩ : ∃ q, s * s = q := ⟨_, rfl⟩
    have hq1 : (s : Int) * (s : Int) = (q : Int) := by exact_mod_cast hq
    have hq2 : q ≤ 1024 := by rw [← hq]; exact sq_le hs2
    have hr : R = decide ((n : Int) = q) := by
      rw [← hR]
      unfold mayT
      rw [Int.toNat_natCast, hs, hq]
      exact decide_eq_decide.2 ⟨fun h => by omega, fun h => by omega⟩
    have hsh : wrap64 (4 * (2 : Int) ^ d) = (s : Int) := by rw [← hs]; exact sd_wrap hd3
    have hsh2 := hs ▸ shl_w hd3
    have HR := Lib.hid hr
    clear hR hr hs hq h0 CW
    go_enter Try.func46, Try.ntmps46
    go_upto_region 1 with (fail)
    refine Rd.name_world ?_
    intro W hW
    have L : Below w.heap.size w W := by rw [hW]; repeat' (first | (with_reducible exact Below.refl _ _) | (with_reducible refine Rd.below_step ?_ (by assumption)) | (with_reducible refine Rd.below_alloc ?_ _) | (with_reducible refine Rd.below_drewN ?_ _) | (with_reducible refine Below.drew ?_) | (with_reducible refine Below.setCell ?_ ?_ _) | (with_reducible refine Rd.below_setRow ?_ ?_ _) | go_size | (simp only [World.size_alloc]; omega) | omega)
    have c0 := Go.cell_regrown (w := W) (a := ⟨w.heap.size, 0, none⟩) (v := .int .i64 d) (by rw [hW]; first | (rw [blk_cell (blk_alloc_at _ _ _ rfl)]; rfl) | simp)
    have c2 := Go.cell_regrown (w := W) (a := ⟨w.heap.size, 2, none⟩) (v := .slice ad n c) (by rw [hW]; first | (rw [blk_cell (blk_alloc_at _ _ _ rfl)]; rfl) | simp)
    clear hW
    (refine wp_region_quiet_below (by kernel_rfl) (by kernel_rfl) ?_; (repeat (go_big_quiet_step ((exact reg_of_eq (CW1.out _))))); refine wpQuiet_nil ?_)
    rintro w3 hU
    have KU := Rd.below_of_regrown hU
    go_wp2
    go_ret
    exact ⟨by rw [HR.out]; first | rfl | (simp; done) | (congr 2; exact decide_eq_decide.2 ⟨fun h => by omega, fun h => by omega⟩), by repeat' (first | (with_reducible exact Below.refl _ _) | (with_reducible refine Rd.below_step ?_ (by assumption)) | (with_reducible refine Rd.below_alloc ?_ _) | (with_reducible refine Rd.below_drewN ?_ _) | (with_reducible refine Below.drew ?_) | (with_reducible refine Below.setCell ?_ ?_ _) | (with_reducible refine Rd.below_setRow ?_ ?_ _) | go_size | (simp only [World.size_alloc]; omega) | omega)⟩
  · have hr : R = false := by rw [← hR]; exact decide_eq_false (by omega)
    subst hr
    have CW1 : Hid (∀ X : World, Calls Try.prog 44 #[.int .i64 D, .int .i64 0, .int .i64 3] X fun e w' => e = .returned (.bool false) ∧ X = w') := Lib.hid fun X => (decide_eq_false h0 ▸ CW.out X)
    clear hR CW h0
    go_enter Try.func46, Try.ntmps46
    go_upto_region 1 with (fail)
    refine Rd.name_world ?_
    intro W hW
    have L : Below w.heap.size w W := by rw [hW]; repeat' (first | (with_reducible exact Below.refl _ _) | (with_reducible refine Rd.below_step ?_ (by assumption)) | (with_reducible refine Rd.below_alloc ?_ _) | (with_reducible refine Rd.below_drewN ?_ _) | (with_reducible refine Below.drew ?_) | (with_reducible refine Below.setCell ?_ ?_ _) | (with_reducible refine Rd.below_setRow ?_ ?_ _) | go_size | (simp only [World.size_alloc]; omega) | omega)
    have c0 := Go.cell_regrown (w := W) (a := ⟨w.heap.size, 0, none⟩) (v := .int .i64 D) (by rw [hW]; first | (rw [blk_cell (blk_alloc_at _ _ _ rfl)]; rfl) | simp)
    clear hW
    (refine wp_region_quiet_below (by kernel_rfl) (by kernel_rfl) ?_; (repeat (go_big_quiet_step ((exact reg_of_eq (CW1.out _))))); refine wpQuiet_nil ?_)
    rintro w3 hU
    have KU := Rd.below_of_regrown hU
    go_wp2
    go_ret
    exact ⟨rfl, by repeat' (first | (with_reducible exact Below.refl _ _) | (with_reducible refine Rd.below_step ?_ (by assumption)) | (with_reducible refine Rd.below_alloc ?_ _) | (with_reducible refine Rd.below_drewN ?_ _) | (with_reducible refine Below.drew ?_) | (with_reducible refine Below.setCell ?_ ?_ _) | (with_reducible refine Rd.below_setRow ?_ ?_ _) | go_size | (simp only [World.size_alloc]; omega) | omega)⟩
/-- the reference's pyramid that is being built -/
structure Rbd (X : World) (B b D : Nat) (wr : Bool) (ps : List Px) (K : Nat) (tx v : Value) : Prop where
  lo : B ≤ b
  head : blk X b = some (.cells #[.int .i64 D, .bool wr, tx, v] 95 (0, 0))
  tex : X.ownsRow B 97 4 tx (sd D * sd D) (cp ps)
  row : ∃ hs, X.ownsRow B 60 1 v K hs ∧ LvO X B D K ps hs
variable {X Y : World} {B b D K : Nat} {wr : Bool} {ps : List Px} {tx v : Value}
theorem Rbd.below (h : Rbd X B b D wr ps K tx v) (hb : Below X.heap.size X Y) : Rbd Y B b D wr ps K tx v := by
  obtain ⟨hs, h1, h2⟩ := h.row
  exact ⟨h.lo, (blk_below hb b (blk_lt h.head)).trans h.head, owns_below' h.tex hb, hs, owns_below' h1 hb, LvO.below h2 hb⟩
theorem Rbd.rp (h : Rbd X B b D wr ps K tx v) (hK : 0 < K) (hKD : K ≤ D + 1) (hd : D ≤ 3) (hl : ps.length = sd D * sd D) (hB : RB ps) : Rp X b D K wr ps := by
  have hc : ∀ j, X.cell? ⟨b, j, none⟩ = (#[.int .i64 D, .bool wr, tx, v] : Array Value)[j]? := fun j => by rw [blk_cell h.head]
  have hp : ∀ d, 0 < sd d * sd d := fun d => Nat.mul_pos (by have := sd_pos d; omega) (by have := sd_pos d; omega)
  obtain ⟨t, ct, e1, -, ht, ht1, ht2, -⟩ := owns_pos h.tex (hp D)
  have htr := h.tex
  obtain ⟨hs, h1, h2⟩ := h.row
  obtain ⟨g, cap, e2, -, hg, hc1, hc2, hcg⟩ := owns_pos h1 hK
  subst e1
  subst e2
  refine ⟨hd, hl, hB, blk_lt h.head, hKD, hc 0, hc 1, ⟨t, ct, hc 2, ht, ht1, ht2, Reads.of_owns htr⟩, g, cap, hc 3, hg, hc1, hc2, fun l hl => ?_⟩
  obtain ⟨u, h3, h4⟩ := h2.2 l hl
  obtain ⟨c, cap', e', -, hcl, hq1, hq2, -⟩ := owns_pos h4 (hp (D - l))
  subst e'
  exact ⟨c, cap', by rw [Int.toNat_natCast, hcg l (by omega), h3], hcl, hq1, hq2, Reads.of_owns h4⟩
theorem Rbd.step {X w7 : World} {k : Nat} {u z v7 : Value} {hs : List Value} {o : Obj} (h : Rbd X B b D wr ps (k + 1) tx u) (hBX : B ≤ X.heap.size) (r1 : X.ownsRow B 60 1 u (k + 1) hs) (r2 : LvO X B D (k + 1) ps hs) (hz : X.ownsRow B 97 4 z (sd (D - (k + 1)) * sd (D - (k + 1))) (cp (lev ps D (k + 1))))
    (ho : w7.ownsRow B 60 1 v7 (k + 2) (hs ++ [z])) (hg : (X.alloc o).grownBy w7 u.ownBlock) :
    Rbd (w7.setCell ⟨b, 3, none⟩ v7) B b D wr ps (k + 2) tx v7 ∧ blk w7 b = some (.cells #[.int .i64 D, .bool wr, tx, u] 95 (0, 0)) ∧ Below B X (w7.setCell ⟨b, 3, none⟩ v7) ∧ ∀ (t : Nat) (cur : Array Value), blk X t = some (.cells cur 62 (0, 0)) → blk (w7.setCell ⟨b, 3, none⟩ v7) t = some (.cells cur 62 (0, 0)) := by
  have hA := (Below.refl X.heap.size X).alloc (Nat.le_refl _) o
  have hne : ∀ (k : Nat) (cur : Array Value) (T : TypeId), X.heap[k]? = some (.cells cur T (0, 0)) → T ≠ 60 → w7.heap[k]? = X.heap[k]? := fun k cur T hk hT => by
    have hlt := blk_lt (show blk X k = _ from hk)
    rw [hg.block k (by have := hA.size; omega) (fun e => by
      obtain ⟨cur2, h9⟩ := own_type r1 e.symm
      rw [h9] at hk
      cases hk
      exact hT rfl)]
    exact hA.block k hlt
  have hbl : blk w7 b = some (.cells #[.int .i64 D, .bool wr, tx, u] 95 (0, 0)) := (hne b _ _ h.head (by decide)).trans h.head
  have hst : ∀ (k1 : Nat) (cur : Array Value) (T : TypeId), w7.heap[k1]? = some (.cells cur T (0, 0)) → T ≠ 95 → (w7.setCell ⟨b, 3, none⟩ v7).heap[k1]? = w7.heap[k1]? := fun k1 cur T hk hT => heap_setCell_other _ _ _ _ (fun e => by
    have e9 : k1 = b := e
    rw [e9] at hk
    have h9 : w7.heap[b]? = _ := hbl
    rw [h9] at hk
    cases hk
    exact hT rfl)
  have hk2 : ∀ (k1 : Nat) (cur : Array Value) (T : TypeId), X.heap[k1]? = some (.cells cur T (0, 0)) → T ≠ 60 → T ≠ 95 → (w7.setCell ⟨b, 3, none⟩ v7).heap[k1]? = X.heap[k1]? := fun k1 cur T hk h1 h2 => by
    have h3 := hne k1 cur T hk h1
    rw [hst k1 cur T (h3.trans hk) h2, h3]
  have hco : ∀ {v : Value} {n : Nat} {xs : List Value}, X.ownsRow B 97 4 v n xs → (w7.setCell ⟨b, 3, none⟩ v7).ownsRow B 97 4 v n xs := fun hv => own_keep hv fun k1 h1 => by
    obtain ⟨cur, hc⟩ := own_type hv h1
    exact hk2 k1 cur _ hc (by decide) (by decide)
  refine ⟨⟨h.lo, blk_set w7 b 3 _ _ _ hbl, hco h.tex, hs ++ [z], own_keep ho fun k1 h1 => ?_, by rw [List.length_append, r2.1]; rfl, fun l hl => ?_⟩, hbl, ?_, fun t cur ht => (hk2 t cur _ ht (by decide) (by decide)).trans ht⟩
  · obtain ⟨cur, hc⟩ := own_type ho h1
    exact hst k1 cur _ hc (by decide)
  · by_cases hlk : l < k + 1
    · obtain ⟨u9, h1, h2⟩ := r2.2 l hlk
      exact ⟨u9, by rw [List.getElem?_append_left (by rw [r2.1]; exact hlk)]; exact h1, hco h2⟩
    · obtain rfl : l = k + 1 := by omega
      exact ⟨z, by rw [List.getElem?_append_right (by rw [r2.1]; exact Nat.le_refl _), r2.1, Nat.sub_self]; rfl, hco hz⟩
  · have hlo := h.lo
    exact ((hA.mono hBX).trans (OctA.below_grownBy hg (by have := hA.size; omega) (fun k hk => (r1.lt k hk).1))).trans ⟨rfl, rfl, rfl, by simp, fun k1 h1 => heap_setCell_other _ _ _ _ (by show k1 ≠ b; omega)⟩
attribute [local go_sem ↓] load_tex store_tex load_col store_col alloc_col
attribute [local go_sem] Px.c_size Px.c_all c_all4 fold_px run_alloc_col run_store_col run_load_tex run_store_tex rowStore_eq rowLoad_eq one_int one_bool blk_alloc_at blk_alloc_old blk_drew blk_drewN blk_grow setRow_alloc_at setRow_alloc_old setRow_drew setRow_drewN
set_option maxHeartbeats 8000000 in
theorem RBuild_any (wr : Bool) (ad : Addr) (n c : Nat) (w : World) (hr : Reads w 4 (some ad) n (cp ps)) (hd : D ≤ 3) (hn : n = sd D * sd D) (hB : RB ps) :
    Calls Try.prog 25 #[.agg #[.int .i64 D, .bool wr, .slice (some ad) n c]] w fun e w' => (∃ b, e = .returned (.pointer (some ⟨b, 0, none⟩)) ∧ w.heap.size ≤ b ∧ Rp w' b D (D + 1) wr ps) ∧ Below w.heap.size w w' := by
  have hlen : ps.length = sd D * sd D := by
    have := hr.1
    rw [cp_len] at this
    omega
  have hM : mayT (D : Int) n = true := decide_eq_true (by rw [Int.toNat_natCast]; omega)
  have CM := Lib.hid (fun X => RMay_any (D : Int) wr (some ad) n c X)
  rw [hM] at CM
  have hn9 : n ≤ 1024 := by rw [hn]; exact sq_le (sd_le hd)
  have hn0 : 0 < n := by rw [hn]; exact Nat.mul_pos (by have := sd_pos D; omega) (by have := sd_pos D; omega)
  have HN := Lib.hid hn
  have HLEN := Lib.hid hlen
  obtain ⟨i0, hi, hz0, hz1, hz2⟩ := info_parts info_colz
  clear hM hn hlen
  go_enter Try.func25, Try.ntmps25
  go_wp2_with fail
  refine (CM.out _).mono ?_
  rintro e w1 ⟨rfl, hb1⟩
  have hs1 := hb1.size
  simp only [World.size_alloc] at hs1
  have cz : blk w1 w.heap.size = some (.cells #[.int .i64 D, .bool wr, .slice (some ad) n c] 62 (0, 0)) := (blk_below hb1 _ (by simp)).trans (blk_alloc_at _ _ _ rfl)
  have L1 : Below w.heap.size w w1 := by repeat' (first | (with_reducible exact Below.refl _ _) | (with_reducible refine Rd.below_step ?_ (by assumption)) | (with_reducible refine Rd.below_alloc ?_ _) | (with_reducible refine Rd.below_drewN ?_ _) | (with_reducible refine Below.drew ?_) | (with_reducible refine Below.setCell ?_ ?_ _) | (with_reducible refine Rd.below_setRow ?_ ?_ _) | go_size | (simp only [World.size_alloc]; omega) | omega)
  have hR1 := hr.below L1 (Nat.le_refl _)
  have hmade := World.ownsRow_made w1 (e := 97) (size := 4) (base := w1.heap.size) #[] 0 (Nat.le_refl _) (by decide) rfl
  have hBm : Below w1.heap.size w1 (w1.alloc (.cells #[] 97)) := (Below.refl _ _).alloc (Nat.le_refl _) _
  have RA := hR1.below hBm (Nat.le_refl _)
  have hlw := blk_lt cz
  have z2 : w1.cell? ⟨w.heap.size, 2, none⟩ = some (.slice (some ad) n c) := by rw [blk_cell cz]; first | done | rfl
  clear hb1 hr CM hR1 hs1
  go_upto_region 4 with (at_builtin; refine App.wpList_append_reads _ rfl (.tmp 13) (.tmp 15) 60 rfl w1.heap.size 97 i0 _ 4 4 Try.underlying60 hi hz0 hz1 hz2 rfl (by decide) _ _ _ rfl hmade (some ad) n c (cp ps) rfl RA (cp_ones _) (by unfold maxLen; omega) (by omega) (by simp) ?_; intro v3 w3 hown3 hgrow3; rw [Nat.zero_add] at hown3; obtain ⟨g3, c3, rfl, hg3, hl3, hc3, hm3, -⟩ := owns_pos hown3 hn0; have L3 : Below w1.heap.size w1 w3 := hBm.grown hgrow3 (by simp) (fun j hj => (hmade.lt j hj).1); have cz3 := bd_keep cz L3; have f3 := blk_frozen cz3 2; have d3 : w3.cell? ⟨w.heap.size, 2, none⟩ = some (.slice (some ad) n c) := (by rw [blk_cell cz3]; first | done | rfl); clear hgrow3)
  refine Rd.name_world ?_
  intro W4 hW4
  have hT4 : blk W4 w.heap.size = some (.cells #[.int .i64 D, .bool wr, .slice (some ⟨g3, 0, none⟩) n c3] 62 (0, 0)) := by rw [hW4]; exact blk_set w3 _ 2 _ _ _ cz3
  have hown4 : W4.ownsRow w.heap.size 97 4 (.slice (some ⟨g3, 0, none⟩) n c3) n (cp ps) := by
    rw [hW4]
    refine own_keep (owns_mono (by simpa using hown3) (by omega)) fun k hk => heap_setCell_other _ _ _ _ ?_
    cases hk
    show g3 ≠ w.heap.size
    omega
  have L4 : Below w.heap.size w W4 := by
    rw [hW4]
    exact (L1.trans (L3.mono L1.size)).trans ⟨rfl, rfl, rfl, by simp, fun k1 h1 => heap_setCell_other _ _ _ _ (by show k1 ≠ w.heap.size; omega)⟩
  have h0 := blk_lt hT4
  have t2 : W4.cell? ⟨w.heap.size, 2, none⟩ = some (.slice (some ⟨g3, 0, none⟩) n c3) := by rw [blk_cell hT4]; first | done | rfl
  have t0 : W4.cell? ⟨w.heap.size, 0, none⟩ = some (.int .i64 D) := by rw [blk_cell hT4]; first | done | rfl
  clear hW4 hown3 cz3 L3 L1 cz RA hBm hmade z2 f3 d3 hlw hg3 hl3
  go_upto_region 6 with (fail)
  refine Rd.name_world ?_
  intro W5 hW5
  have B5 : Below W4.heap.size W4 W5 := by rw [hW5]; repeat' (first | (with_reducible exact Below.refl _ _) | (with_reducible refine Rd.below_step ?_ (by assumption)) | (with_reducible refine Rd.below_alloc ?_ _) | (with_reducible refine Rd.below_drewN ?_ _) | (with_reducible refine Below.drew ?_) | (with_reducible refine Below.setCell ?_ ?_ _) | (with_reducible refine Rd.below_setRow ?_ ?_ _) | go_size | (simp only [World.size_alloc]; omega) | omega)
  have hT5 := bd_keep hT4 B5
  obtain ⟨b, hb⟩ : ∃ b, W4.heap.size + 1 = b := ⟨_, rfl⟩
  have hlb : blk W5 W4.heap.size = some (.cells #[.slice (some ⟨g3, 0, none⟩) n c3] 60 (0, 0)) := by
    rw [hW5]
    exact (blk_below ((Below.refl _ _).alloc (Nat.le_refl _) _) _ (by simp)).trans (blk_alloc_at _ _ _ rfl)
  have hbb : blk W5 b = some (.cells #[.int .i64 D, .bool wr, .slice (some ⟨g3, 0, none⟩) n c3, .slice (some ⟨W4.heap.size, 0, none⟩) 1 1] 95 (0, 0)) := by
    rw [hW5]
    exact blk_alloc_at _ _ _ (by simpa using hb.symm)
  have own5 := owns_below' hown4 B5
  have HB5 : Hid (∃ u, Rbd W5 w.heap.size b D wr ps 1 (.slice (some ⟨g3, 0, none⟩) n c3) u) := Lib.hid ⟨_, by omega, hbb, by rw [← HN.out]; exact own5, [.slice (some ⟨g3, 0, none⟩) n c3], ⟨rfl, .inr ⟨_, 1, _, rfl, by omega, hlb, Nat.le_refl _, by decide, rfl, rfl⟩⟩, rfl, fun l hl => ⟨_, by (obtain rfl : l = 0 := by omega); rfl, by (obtain rfl : l = 0 := by omega); rw [Nat.sub_zero, ← HN.out]; exact own5⟩⟩
  have L5 : Below w.heap.size w W5 := L4.trans (B5.mono L4.size)
  obtain ⟨V, hV⟩ : ∃ V : Value, V = .slice (some ⟨g3, 0, none⟩) n c3 := ⟨_, rfl⟩
  simp only [Nat.reduceAdd, hb]
  rw [← hV] at HB5 hT5
  clear hW5 hT4 hown4 t0 t2 hlb hbb own5 B5 L4 hm3 hc3
  go_loopw [4] (fun q X => ∃ k : Nat, k ≤ D ∧ q = .int .i64 ((k : Int) + 1) ∧ Hid (∃ u, Rbd X w.heap.size b D wr ps (k + 1) V u) ∧ blk X w.heap.size = some (.cells #[.int .i64 D, .bool wr, V] 62 (0, 0)) ∧ Hid (Below w.heap.size w X)) (fun q _ => D + 1 - (intOf q).toNat)
  case atStart => exact ⟨0, by omega, by go_num, HB5, hT5, Lib.hid L5⟩
  case round =>
    obtain ⟨k, hk, rfl, HB, hT, HL⟩ := hrel
    rename World => Y
    clear HB5 hT5 L5
    have y0 : Y.cell? ⟨w.heap.size, 0, none⟩ = some (.int .i64 D) := by rw [blk_cell hT]; first | done | rfl
    by_cases hlt : k < D
    · have hlt' : (k : Int) + 1 ≤ (D : Int) := by omega
      obtain ⟨u, hbk⟩ := HB.out
      have hRp : Rp Y b D (k + 1) wr ps := hbk.rp (by omega) (by omega) hd HLEN.out hB
      have HK := Lib.hid hbk
      obtain ⟨m, hm⟩ : ∃ m, m = sd (D - (k + 1)) := ⟨_, rfl⟩
      have hm2 : sd (D - k) = 2 * m := by rw [hm, ← sd_succ]; congr 1; omega
      have hm3 : m ≤ 16 := by have := sd_le (show D - k ≤ 3 by omega); omega
      have hm4 : 4 ≤ m := by rw [hm]; exact sd_pos _
      obtain ⟨r, hnx⟩ : ∃ r, r = half (lev ps D k) m := ⟨_, rfl⟩
      have hrl : r.length = m * m := by rw [hnx, half_len]
      obtain ⟨Q, hQ⟩ : ∃ Q, m * m = Q := ⟨_, rfl⟩
      have hQ' : (m : Int) * (m : Int) = (Q : Int) := by exact_mod_cast hQ
      have hQ1 : Q ≤ 256 := by rw [← hQ]; exact Nat.mul_le_mul hm3 hm3
      have CS : Hid (∀ X, Rp X b D (k + 1) wr ps → Calls Try.prog 47 #[.pointer (some ⟨b, 0, none⟩), .int .i64 ((k : Int) + 1)] X fun e w' => e = .returned (.int .i64 m) ∧ Below X.heap.size X w') := Lib.hid fun X hX => by
        have h := RSize_any ((k + 1 : Nat) : Int) X hX
        rw [szE_in (by omega), ← hm] at h
        exact h
      have HH : Hid (∀ i, i < Q → ∃ (xi yi : Nat) (p0 p1 p2 p3 : Px), (i : Int).tmod (m : Int) = xi ∧ (i : Int).tdiv (m : Int) = yi ∧ xi < m ∧ yi < m ∧ p0.B ∧ p1.B ∧ p2.B ∧ p3.B ∧ r.take (i + 1) = r.take i ++ [mean p0 p1 p2 p3]
          ∧ (∀ X, Rp X b D (k + 1) wr ps → Calls Try.prog 49 #[.pointer (some ⟨b, 0, none⟩), .int .i64 k, .int .i64 (2 * (xi : Int)), .int .i64 (2 * (yi : Int))] X fun e w' => e = .returned p0.v ∧ Below X.heap.size X w')
          ∧ (∀ X, Rp X b D (k + 1) wr ps → Calls Try.prog 49 #[.pointer (some ⟨b, 0, none⟩), .int .i64 k, .int .i64 (2 * (xi : Int) + 1), .int .i64 (2 * (yi : Int))] X fun e w' => e = .returned p1.v ∧ Below X.heap.size X w')
          ∧ (∀ X, Rp X b D (k + 1) wr ps → Calls Try.prog 49 #[.pointer (some ⟨b, 0, none⟩), .int .i64 k, .int .i64 (2 * (xi : Int)), .int .i64 (2 * (yi : Int) + 1)] X fun e w' => e = .returned p2.v ∧ Below X.heap.size X w')
          ∧ (∀ X, Rp X b D (k + 1) wr ps → Calls Try.prog 49 #[.pointer (some ⟨b, 0, none⟩), .int .i64 k, .int .i64 (2 * (xi : Int) + 1), .int .i64 (2 * (yi : Int) + 1)] X fun e w' => e = .returned p3.v ∧ Below X.heap.size X w')) := Lib.hid fun i hi => by
        have e1 : i = m * (i / m) + i % m := (Nat.div_add_mod i m).symm
        have q1 : (i : Int).tmod (m : Int) = ((i % m : Nat) : Int) := by rw [Int.tmod_eq_emod_of_nonneg (by omega)]; rfl
        have q2 : (i : Int).tdiv (m : Int) = ((i / m : Nat) : Int) := by rw [Int.tdiv_eq_ediv_of_nonneg (by omega)]; rfl
        have hx : i % m < m := Nat.mod_lt _ (by omega)
        have hy : i / m < m := Nat.div_lt_of_lt_mul (by omega)
        have h5 := half_take (lev ps D k) hx hy
        rw [← e1, ← hnx] at h5
        obtain ⟨xi, hxi⟩ : ∃ xi, i % m = xi := ⟨_, rfl⟩
        obtain ⟨yi, hyi⟩ : ∃ yi, i / m = yi := ⟨_, rfl⟩
        rw [hxi] at q1 hx h5
        rw [hyi] at q2 hy h5
        clear hxi hyi e1
        have hC : ∀ (x y : Int) (X : World), Rp X b D (k + 1) wr ps → 0 ≤ x → x ≤ 32 → 0 ≤ y → y ≤ 32 → Calls Try.prog 49 #[.pointer (some ⟨b, 0, none⟩), .int .i64 k, .int .i64 x, .int .i64 y] X fun e w' => e = .returned (atP ps D wr k x y).v ∧ Below X.heap.size X w' :=
          fun x y X hX h1 h2 h3 h4 => RAt_any (k : Int) x y X hX (fun _ _ => by omega) ⟨by omega, by omega⟩ ⟨by omega, by omega⟩
        refine ⟨xi, yi, _, _, _, _, q1, q2, hx, hy, ?_, ?_, ?_, ?_, ?_, fun X hX => hC _ _ X hX (by omega) (by omega) (by omega) (by omega), fun X hX => hC _ _ X hX (by omega) (by omega) (by omega) (by omega), fun X hX => hC _ _ X hX (by omega) (by omega) (by omega) (by omega), fun X hX => hC _ _ X hX (by omega) (by omega) (by omega) (by omega)⟩
        · exact atP_B hB _ _ _ _ _
        · exact atP_B hB _ _ _ _ _
        · exact atP_B hB _ _ _ _ _
        · exact atP_B hB _ _ _ _ _
        · rw [h5]
          have hA : ∀ x y : Nat, x < 2 * m → y < 2 * m → atP ps D wr k (x : Int) (y : Int) = at_ (lev ps D k) (2 * m * y + x) := fun x y h1 h2 => by
            rw [atP_nat (by omega) (by rw [hm2]; exact h1) (by rw [hm2]; exact h2), hm2]
          have f1 := hA (2 * xi) (2 * yi) (by omega) (by omega)
          have f2 := hA (2 * xi + 1) (2 * yi) (by omega) (by omega)
          have f3 := hA (2 * xi) (2 * yi + 1) (by omega) (by omega)
          have f4 := hA (2 * xi + 1) (2 * yi + 1) (by omega) (by omega)
          push_cast at f1 f2 f3 f4
          rw [f1, f2, f3, f4, Nat.mul_add (2 * m) (2 * yi) 1]
          have g1 : 2 * m * (2 * yi) + (2 * xi + 1) = 2 * m * (2 * yi) + 2 * xi + 1 := by omega
          have g2 : 2 * m * (2 * yi) + 2 * m * 1 + 2 * xi = 2 * m * (2 * yi) + 2 * xi + 2 * m := by omega
          have g3 : 2 * m * (2 * yi) + 2 * m * 1 + (2 * xi + 1) = 2 * m * (2 * yi) + 2 * xi + 2 * m + 1 := by omega
          rw [g1, g2, g3]
      have HM := Lib.hid hm
      have HNX := Lib.hid hnx
      have HRL := Lib.hid hrl
      have HQ := Lib.hid hQ
      have hYs := HL.out.size
      have hm0 : ¬ (m : Int) = 0 := by omega
      clear hm hm2 hnx hrl hQ hbk HB
      go_wp2_with fail
      refine (CS.out _ hRp).mono ?_
      rintro e Y1 ⟨rfl, hb1⟩
      go_upto_region 11 with (fail)
      go_loopw [6, 7] (fun v q X => ∃ i : Nat, i ≤ Q ∧ q = .int .i64 i ∧ Hid (X.ownsRow Y1.heap.size 97 4 v i (cp (r.take i))) ∧ Below Y1.heap.size Y1 X) (fun _ q _ => Q - (intOf q).toNat)
      case atStart => exact ⟨0, by omega, rfl, Lib.hid (World.ownsRow_nil _ _ _ _), Below.refl _ _⟩
      case round =>
        obtain ⟨i, hi, rfl, HO, hbz⟩ := hrel
        rename World => Z
        by_cases hiQ : i < Q
        · have hiQ' : (i : Int) < (Q : Int) := by omega
          obtain ⟨xi, yi, p0, p1, p2, p3, e1, e2, hx, hy, B0, B1, B2, B3, ht, C0, C1, C2, C3⟩ := HH.out i hiQ
          have HC0 := Lib.hid C0
          have HC1 := Lib.hid C1
          have HC2 := Lib.hid C2
          have HC3 := Lib.hid C3
          have HT := Lib.hid ht
          have HBp := Lib.hid (And.intro B0 (And.intro B1 (And.intro B2 B3)))
          have i1 := IntWalk.i64_in (2 * (xi : Int)) (by omega)
          have i2 := IntWalk.i64_in (2 * (yi : Int)) (by omega)
          have i3 := IntWalk.i64_in (xi : Int) (by omega)
          have i4 := IntWalk.i64_in (yi : Int) (by omega)
          have hRZ : Hid (∀ d, Rp (Z.drewN d) b D (k + 1) wr ps) := Lib.hid fun d => hRp.below (hb1.trans ((Rd.below_drewN hbz d).mono hb1.size))
          clear C0 C1 C2 C3 ht B0 B1 B2 B3
          go_wp2
          go_quiet (fail)
          go_wp2_with fail
          refine (HC0.out _ (hRZ.out _)).mono ?_
          rintro e z1 ⟨rfl, hz1⟩
          have R1 := (hRZ.out nq).below hz1
          have S1 : Below Z.heap.size Z z1 := (Rd.below_drewN (Below.refl Z.heap.size Z) nq).trans hz1
          clear hz1 hRZ
          go_wp2_with fail
          refine (HC1.out _ R1).mono ?_
          rintro e z2 ⟨rfl, hz2⟩
          have R2 := R1.below hz2
          have S2 : Below Z.heap.size Z z2 := S1.trans (hz2.mono S1.size)
          clear hz2 R1 S1
          go_wp2_with fail
          refine (HC2.out _ R2).mono ?_
          rintro e z3 ⟨rfl, hz3⟩
          have R3 := R2.below hz3
          have S3 : Below Z.heap.size Z z3 := S2.trans (hz3.mono S2.size)
          clear hz3 R2 S2
          go_wp2_with fail
          refine (HC3.out _ R3).mono ?_
          rintro e z4 ⟨rfl, hz4⟩
          have S4 : Below Z.heap.size Z z4 := S3.trans (hz4.mono S3.size)
          clear hz4 R3 S3
          go_wp2_with fail
          refine (rmean_px _ HBp.out.1 HBp.out.2.1 HBp.out.2.2.1 HBp.out.2.2.2).mono ?_
          rintro e z5 ⟨rfl, hz5⟩
          have S5 : Below Z.heap.size Z z5 := S4.trans (hz5.mono S4.size)
          have hO5 := owns_below' HO.out S5
          have hs5 := S5.size
          have hsz := hbz.size
          have hB5 := (Below.refl z5.heap.size z5).alloc (Nat.le_refl _) (.cells (mean p0 p1 p2 p3).c 97)
          have U5 : Below Y1.heap.size Y1 (z5.alloc (.cells (mean p0 p1 p2 p3).c 97)) := (hbz.trans (S5.mono hsz)).trans (hB5.mono (by omega))
          clear hz5 S4 HO HC0 HC1 HC2 HC3 HBp S5
          go_wp2_with (at_builtin; refine app_px rfl (.tmp 48) (.tmp 78) rfl Y1.heap.size _ _ _ rfl (owns_below' hO5 hB5) z5.heap.size 1 (mean p0 p1 p2 p3) rfl (blk_alloc_at _ _ _ rfl) (by omega) (by simp; omega) ?_; intro v6 w6 ho6 hg6)
          have U6 : Below Y1.heap.size Y1 w6 := U5.grown hg6 (by simp; omega) (fun j hj => (hO5.lt j hj).1)
          exact ⟨⟨i + 1, by omega, by go_num, Lib.hid (by rw [HT.out]; exact ho6), U6⟩, by simp [intOf]; omega⟩
        · obtain rfl : i = Q := by omega
          have hO := HO.out
          rw [List.take_of_length_le (by rw [HRL.out, HQ.out]; exact Nat.le_refl _)] at hO
          obtain ⟨a6, c6, rfl, -, -⟩ := owns_val hO
          have hYZ : Below Y.heap.size Y Z := hb1.trans (hbz.mono hb1.size)
          have hrb := HK.out.below hYZ
          have hTZ := bd_keep hT hYZ
          have LZ : Below w.heap.size w Z := HL.out.trans (hYZ.mono HL.out.size)
          obtain ⟨hs, r1, r2⟩ := hrb.row
          obtain ⟨g, cap, rfl, -, -, -, -, -⟩ := owns_pos r1 (by omega)
          have hsz := LZ.size
          have hz : Z.ownsRow w.heap.size 97 4 (.slice a6 i c6) (sd (D - (k + 1)) * sd (D - (k + 1))) (cp (lev ps D (k + 1))) := by
            have e1 : lev ps D (k + 1) = r := by rw [HNX.out, HM.out]; rfl
            rw [e1, ← HM.out, HQ.out]
            exact owns_mono hO (by have := hb1.size; have := HL.out.size; omega)
          have z3 : Z.cell? ⟨b, 3, none⟩ = some (.slice (some ⟨g, 0, none⟩) (k + 1) cap) := by rw [blk_cell hrb.head]; first | done | rfl
          obtain ⟨j0, hj, hj0, hj1, hj2⟩ := info_parts info_sl
          have hB6 := (Below.refl Z.heap.size Z).alloc (Nat.le_refl _) (.cells #[.slice a6 i c6] 60)
          have hR6 : Reads (Z.alloc (.cells #[.slice a6 i c6] 60)) 1 (some ⟨Z.heap.size, 0, none⟩) 1 [.slice a6 i c6] := Rd.reads_new Z #[.slice a6 i c6] 60 1 1 rfl
          have HRB := Lib.hid hrb
          have HR2 := Lib.hid r2
          have HZ := Lib.hid hz
          have HTZ := Lib.hid hTZ
          have HLZ := Lib.hid LZ
          clear hO HO hYZ hrb r2 hz hTZ LZ HK hT HL hRp CS HH
          go_wp2_with (at_builtin; refine App.wpList_append_reads _ rfl (.tmp 84) (.tmp 86) 93 rfl w.heap.size 60 j0 _ 1 24 Try.underlying93 hj hj0 hj1 hj2 rfl (by decide) _ _ _ rfl (owns_below' r1 hB6) (some ⟨Z.heap.size, 0, none⟩) 1 1 [.slice a6 i c6] rfl hR6 (by intro u hu; simp at hu; subst hu; rfl) (by unfold maxLen; omega) (by omega) (by simp; omega) ?_; intro v7 w7 ho7 hg7; obtain ⟨a7, c7, hv7, -, -⟩ := owns_val ho7; subst hv7; have HST := Lib.hid (Rbd.step HRB.out hsz r1 HR2.out HZ.out ho7 hg7); have f7 := blk_frozen HST.out.2.1 3; have y7 : w7.cell? ⟨b, 3, none⟩ = some (.slice (some ⟨g, 0, none⟩) (k + 1) cap) := (by rw [blk_cell HST.out.2.1]; first | done | rfl))
          obtain ⟨s1, s2, s3, s4⟩ := HST.out
          exact ⟨⟨k + 1, by omega, by go_num, Lib.hid ⟨_, s1⟩, s4 _ _ HTZ.out, Lib.hid (HLZ.out.trans s3)⟩, by simp [intOf]; omega⟩
    · obtain rfl : k = D := by omega
      have hlt' : ¬ (k : Int) + 1 ≤ (k : Int) := by omega
      obtain ⟨u, hbk⟩ := HB.out
      have LF := HL.out
      go_wp2
      go_ret
      exact ⟨⟨b, rfl, hbk.lo, hbk.rp (by omega) (by omega) hd HLEN.out hB⟩, LF⟩
end Go.Proofs.Ytkklppjimnkibaa.RfB

namespace Go.Proofs.Ytkklppjimnkibaa.CtA
open Go.RowKit Rd Go.Proofs.Ytkklppjimnkibaa.Row Mid DkM HueA MpM MpA MpB MpC MpD MpE MpF MpG
open MpU (atP_in atP_nat)
set_option linter.unusedVariables false
set_option linter.unusedSimpArgs false
set_option maxRecDepth 10000
variable {b D : Nat} {wr : Bool} {ts : List Px}
/-- a row's bytes -/
def fb (ps : List Px) : List Int := ps.flatMap fun p => [p.r, p.g, p.b, p.a]
theorem cp_fb : ∀ ps : List Px, cp ps = (fb ps).map (Value.int .u8)
  | [] => rfl
  | p :: ps => by
    rw [show p :: ps = [p] ++ ps from rfl, cp_app, cp_fb ps, cp_one]
    simp [fb, Px.l]
theorem fb_len : ∀ ps : List Px, (fb ps).length = 4 * ps.length
  | [] => rfl
  | p :: ps => by simp only [fb, List.flatMap_cons, List.length_append, List.length_cons, List.length_nil]; have := fb_len ps; unfold fb at this; omega
theorem fb_bd {ps : List Px} (h : RB ps) : ∀ z ∈ fb ps, 0 ≤ z ∧ z ≤ 255 := by
  intro z hz
  obtain ⟨p, hp, hz⟩ := List.mem_flatMap.1 hz
  obtain ⟨h1, h2, h3, h4⟩ := h p hp
  simp at hz
  rcases hz with rfl | rfl | rfl | rfl <;> assumption
/-- a page's texels, with its border -/
def pageP (ts : List Px) (D : Nat) (wr : Bool) (L X Y : Int) : List Px := (List.range 36).map fun i => atP ts D wr L (4 * X + (((i % 6 : Nat) : Int) - 1)) (4 * Y + (((i / 6 : Nat) : Int) - 1))
theorem pageP_len (L X Y : Int) : (pageP ts D wr L X Y).length = 36 := by simp [pageP]
theorem pageP_B (h : RB ts) (L X Y : Int) : RB (pageP ts D wr L X Y) := by
  intro p hp
  obtain ⟨i, _, rfl⟩ := List.mem_map.1 hp
  exact atP_B h _ _ _ _ _
theorem pageP_take {L X Y : Int} {i j : Nat} (hi : i < 6) (hj : j < 6) : (pageP ts D wr L X Y).take (6 * j + i + 1) = (pageP ts D wr L X Y).take (6 * j + i) ++ [atP ts D wr L (4 * X + ((i : Int) - 1)) (4 * Y + ((j : Int) - 1))] := by
  have hl : 6 * j + i < (pageP ts D wr L X Y).length := by rw [pageP_len]; omega
  have e : (pageP ts D wr L X Y)[6 * j + i]'hl = atP ts D wr L (4 * X + ((i : Int) - 1)) (4 * Y + ((j : Int) - 1)) := by
    simp only [pageP, List.getElem_map, List.getElem_range]
    rw [show (6 * j + i) % 6 = i by omega, show (6 * j + i) / 6 = j by omega]
  rw [← e, List.take_append_getElem hl]
attribute [local go_sem ↓] load_col store_col alloc_col PgA.load_pg PgA.store_pg
attribute [local go_sem] PgA.pc3 PgA.run_load_pg PgA.run_store_pg midLoad_eq rowLoad_eq run_alloc_col run_store_col rowStore_eq blk_alloc_at blk_alloc_old blk_drew blk_drewN blk_grow Px.c_size Px.c_all c_all4 fold_px one_int
end Go.Proofs.Ytkklppjimnkibaa.CtA

namespace Go.Proofs.Ytkklppjimnkibaa.RfC
open Go.RowKit Rd Go.Proofs.Ytkklppjimnkibaa.Row Mid DkM HueA MpM MpA MpB MpC MpD MpE MpF RfA RfB CtA
open MpU (atP_in atP_nat bd_keep)
set_option linter.unusedVariables false
set_option linter.unusedSimpArgs false
set_option maxRecDepth 10000
variable {b D : Nat} {wr : Bool} {ts : List Px}
attribute [local go_sem ↓] load_col store_col alloc_col PgA.load_pg PgA.store_pg
attribute [local go_sem] PgA.pc3 PgA.run_load_pg PgA.run_store_pg midLoad_eq rowLoad_eq run_alloc_col run_store_col rowStore_eq blk_alloc_at blk_alloc_old blk_drew blk_drewN blk_grow Px.c_size Px.c_all c_all4 fold_px one_int
set_option maxHeartbeats 8000000 in
theorem RCut_no (L P Q : Int) (w : World) (h : Rp w b D (D + 1) wr ts) (hv : PgM.validB D L P Q = false) :
    Calls Try.prog 27 #[.pointer (some ⟨b, 0, none⟩), PgA.pg L P Q] w fun e w' => e = .returned (.slice none 0 0) ∧ Below w.heap.size w w' := by
  have CV := Lib.hid fun Z => (hv ▸ PgB.rvalid_any (D : Int) L P Q Z : Calls Try.prog 40 #[.int .i64 D, PgA.pg L P Q] Z fun e w' => e = .returned (.bool false) ∧ Below Z.heap.size Z w')
  have hblt := h.lt
  clear hv
  go_enter Try.func27, Try.ntmps27
  go_upto_region 1 with (fail)
  refine Rd.name_world ?_
  intro W hW
  have L0 : Below w.heap.size w W := by rw [hW]; repeat' (first | (with_reducible exact Below.refl _ _) | (with_reducible refine Rd.below_step ?_ (by assumption)) | (with_reducible refine Rd.below_alloc ?_ _) | (with_reducible refine Rd.below_drewN ?_ _) | (with_reducible refine Below.drew ?_) | (with_reducible refine Below.setCell ?_ ?_ _) | (with_reducible refine Rd.below_setRow ?_ ?_ _) | go_size | (simp only [World.size_alloc]; omega) | omega)
  have bP : blk W w.heap.size = some (.cells #[.int .i64 L, .int .i64 P, .int .i64 Q] 35 (0, 0)) := by rw [hW]; exact blk_alloc_at _ _ _ rfl
  have hPW := h.below L0
  have lP := blk_lt bP
  have lB := hPW.lt
  have c0 := hPW.c0
  clear hW
  refine PredT.region_of (W := W) (W.heap.size) (Nat.le_refl _) [] [
      fun _ => True] [
      PredT.At 0 (.pointer (some ⟨b, 0, none⟩)),
      PredT.At 0 (.bool false),
      PredT.At 0 (.bool false),
      PredT.At 0 (.pointer (some ⟨b, 0, none⟩)),
      PredT.At 0 (.pointer (some ⟨b, 0, none⟩)),
      PredT.At 0 (.pointer (some ⟨b, 0, none⟩)),
      PredT.At 0 (.pointer (some ⟨b, 0, none⟩)),
      PredT.At 0 (.int .i64 D),
      PredT.At 0 (PgA.pg L P Q),
      PredT.At 0 (.bool false),
      PredT.At 0 (.bool true),
      PredT.At 0 (.bool true)] (by kernel_rfl) (by kernel_rfl) (by kernel_rfl) (by decide) (by decide) ?_ ?_ ?_ ?_ ?_ ?_
  · exact ⟨PredT.at_stab _ _ _ _, PredT.at_stab _ _ _ _, PredT.at_stab _ _ _ _, PredT.at_stab _ _ _ _, PredT.at_stab _ _ _ _, PredT.at_stab _ _ _ _, PredT.at_stab _ _ _ _, PredT.at_stab _ _ _ _, PredT.at_stab _ _ _ _, PredT.at_stab _ _ _ _, PredT.at_stab _ _ _ _, PredT.at_stab _ _ _ _, trivial⟩
  · intro q hq
    rcases List.mem_cons.1 hq with rfl | hq
    · exact fun _ _ h _ => trivial
    cases hq
  · exact trivial
  · refine ⟨.inr ?_, .inr ?_, .inr ?_, .inr ?_, .inr ?_, .inr ?_, .inr ?_, .inr ?_, .inr ?_, .inr ?_, .inr ?_, .inr ?_, trivial⟩
    · intro b9 X ph hE hd hn hS hV hI hF
      have r0 : b9.tmps[0]?.getD undef = .pointer (some ⟨b, 0, none⟩) := (hn 0 (by kernel_rfl)).trans rfl
      exact Pred.yields_run (v := .pointer (some ⟨b, 0, none⟩)) (Pred.wanted_none rfl) (by go_simp) ⟨Below.refl _ _, rfl, Nat.zero_le _⟩
    · intro b9 X ph hE hd hn hS hV hI hF
      obtain ⟨r8, j8⟩ : PredT.At 0 (.pointer (some ⟨b, 0, none⟩)) (b9.tmps[8]?.getD undef) X ph := hV 0 _ 8 rfl rfl (Pred.waits_near (by kernel_rfl) (by kernel_rfl))
      exact Pred.yields_run (v := .bool false) (Pred.wanted_none rfl) (by go_simp) ⟨Below.refl _ _, rfl, Nat.zero_le _⟩
    · intro b9 X ph hE hd hn hS hV hI hF
      obtain ⟨r9, j9⟩ : PredT.At 0 (.bool false) (b9.tmps[9]?.getD undef) X ph := hV 1 _ 9 rfl rfl (Pred.waits_near (by kernel_rfl) (by kernel_rfl))
      exact Pred.yields_run (v := .bool false) (Pred.wanted_none rfl) (by go_simp) ⟨Below.refl _ _, rfl, Nat.zero_le _⟩
    · intro b9 X ph hE hd hn hS hV hI hF
      have r0 : b9.tmps[0]?.getD undef = .pointer (some ⟨b, 0, none⟩) := (hn 0 (by kernel_rfl)).trans rfl
      obtain ⟨r10, j10⟩ : PredT.At 0 (.bool false) (b9.tmps[10]?.getD undef) X ph := hV 2 _ 10 rfl rfl (Pred.waits_near (by kernel_rfl) (by kernel_rfl))
      exact Pred.yields_run (v := .pointer (some ⟨b, 0, none⟩)) ((Pred.wanted_at (g := 2) (d := 10) (f := false) rfl rfl r10).trans rfl) (by go_simp) ⟨Below.refl _ _, rfl, Nat.zero_le _⟩
    · intro b9 X ph hE hd hn hS hV hI hF
      obtain ⟨r11, j11⟩ : PredT.At 0 (.pointer (some ⟨b, 0, none⟩)) (b9.tmps[11]?.getD undef) X ph := hV 3 _ 11 rfl rfl (Pred.waits_near (by kernel_rfl) (by kernel_rfl))
      obtain ⟨r10, j10⟩ : PredT.At 0 (.bool false) (b9.tmps[10]?.getD undef) X ph := hV 2 _ 10 rfl rfl (Pred.waits_near (by kernel_rfl) (by kernel_rfl))
      exact Pred.yields_run (v := .pointer (some ⟨b, 0, none⟩)) ((Pred.wanted_at (g := 2) (d := 10) (f := false) rfl rfl r10).trans rfl) (by go_simp) ⟨Below.refl _ _, rfl, Nat.zero_le _⟩
    · intro b9 X ph hE hd hn hS hV hI hF
      obtain ⟨r12, j12⟩ : PredT.At 0 (.pointer (some ⟨b, 0, none⟩)) (b9.tmps[12]?.getD undef) X ph := hV 4 _ 12 rfl rfl (Pred.waits_near (by kernel_rfl) (by kernel_rfl))
      obtain ⟨r10, j10⟩ : PredT.At 0 (.bool false) (b9.tmps[10]?.getD undef) X ph := hV 2 _ 10 rfl rfl (Pred.waits_near (by kernel_rfl) (by kernel_rfl))
      exact Pred.yields_run (v := .pointer (some ⟨b, 0, none⟩)) ((Pred.wanted_at (g := 2) (d := 10) (f := false) rfl rfl r10).trans rfl) (by go_simp) ⟨Below.refl _ _, rfl, Nat.zero_le _⟩
    · intro b9 X ph hE hd hn hS hV hI hF
      obtain ⟨r13, j13⟩ : PredT.At 0 (.pointer (some ⟨b, 0, none⟩)) (b9.tmps[13]?.getD undef) X ph := hV 5 _ 13 rfl rfl (Pred.waits_near (by kernel_rfl) (by kernel_rfl))
      obtain ⟨r10, j10⟩ : PredT.At 0 (.bool false) (b9.tmps[10]?.getD undef) X ph := hV 2 _ 10 rfl rfl (Pred.waits_near (by kernel_rfl) (by kernel_rfl))
      exact Pred.yields_run (v := .pointer (some ⟨b, 0, none⟩)) ((Pred.wanted_at (g := 2) (d := 10) (f := false) rfl rfl r10).trans rfl) (by go_simp) ⟨Below.refl _ _, rfl, Nat.zero_le _⟩
    · intro b9 X ph hE hd hn hS hV hI hF
      obtain ⟨r14, j14⟩ : PredT.At 0 (.pointer (some ⟨b, 0, none⟩)) (b9.tmps[14]?.getD undef) X ph := hV 6 _ 14 rfl rfl (Pred.waits_near (by kernel_rfl) (by kernel_rfl))
      obtain ⟨r10, j10⟩ : PredT.At 0 (.bool false) (b9.tmps[10]?.getD undef) X ph := hV 2 _ 10 rfl rfl (Pred.waits_near (by kernel_rfl) (by kernel_rfl))
      have z9 := (hE.cell (p := ⟨b, 0, none⟩) lB).trans c0
      exact Pred.yields_run (v := .int .i64 D) ((Pred.wanted_at (g := 2) (d := 10) (f := false) rfl rfl r10).trans rfl) (by go_simp) ⟨Below.refl _ _, rfl, Nat.zero_le _⟩
    · intro b9 X ph hE hd hn hS hV hI hF
      have r3 : b9.tmps[3]?.getD undef = .pointer (some ⟨w.heap.size, 0, none⟩) := (hn 3 (by kernel_rfl)).trans rfl
      obtain ⟨r10, j10⟩ : PredT.At 0 (.bool false) (b9.tmps[10]?.getD undef) X ph := hV 2 _ 10 rfl rfl (Pred.waits_near (by kernel_rfl) (by kernel_rfl))
      have hbP := (blk_below hE _ lP).trans bP
      exact Pred.yields_run (v := PgA.pg L P Q) ((Pred.wanted_at (g := 2) (d := 10) (f := false) rfl rfl r10).trans rfl) (by go_simp) ⟨Below.refl _ _, rfl, Nat.zero_le _⟩
    · intro b9 X ph hE hd hn hS hV hI hF
      obtain ⟨r15, j15⟩ : PredT.At 0 (.int .i64 D) (b9.tmps[15]?.getD undef) X ph := hV 7 _ 15 rfl rfl (Pred.waits_near (by kernel_rfl) (by kernel_rfl))
      obtain ⟨r16, j16⟩ : PredT.At 0 (PgA.pg L P Q) (b9.tmps[16]?.getD undef) X ph := hV 8 _ 16 rfl rfl (Pred.waits_near (by kernel_rfl) (by kernel_rfl))
      obtain ⟨r10, j10⟩ : PredT.At 0 (.bool false) (b9.tmps[10]?.getD undef) X ph := hV 2 _ 10 rfl rfl (Pred.waits_near (by kernel_rfl) (by kernel_rfl))
      refine Pred.yields_call (f := 40) (args := #[.int .i64 D, PgA.pg L P Q]) ((Pred.wanted_at (g := 2) (d := 10) (f := false) rfl rfl r10).trans rfl) (by go_simp) ?_
      refine (CV.out X).mono ?_
      rintro e w9 ⟨rfl, hb⟩
      exact ⟨_, rfl, hb, rfl, Nat.zero_le _⟩
    · intro b9 X ph hE hd hn hS hV hI hF
      obtain ⟨r17, j17⟩ : PredT.At 0 (.bool false) (b9.tmps[17]?.getD undef) X ph := hV 9 _ 17 rfl rfl (Pred.waits_near (by kernel_rfl) (by kernel_rfl))
      obtain ⟨r10, j10⟩ : PredT.At 0 (.bool false) (b9.tmps[10]?.getD undef) X ph := hV 2 _ 10 rfl rfl (Pred.waits_near (by kernel_rfl) (by kernel_rfl))
      exact Pred.yields_run (v := .bool true) ((Pred.wanted_at (g := 2) (d := 10) (f := false) rfl rfl r10).trans rfl) (by go_simp) ⟨Below.refl _ _, rfl, Nat.zero_le _⟩
    · intro b9 X ph hE hd hn hS hV hI hF
      obtain ⟨r10, j10⟩ : PredT.At 0 (.bool false) (b9.tmps[10]?.getD undef) X ph := hV 2 _ 10 rfl rfl (Pred.waits_near (by kernel_rfl) (by kernel_rfl))
      obtain ⟨r18, j18⟩ : PredT.At 0 (.bool true) (b9.tmps[18]?.getD undef) X ph := hV 10 _ 18 rfl rfl (Pred.waits_near (by kernel_rfl) (by kernel_rfl))
      exact Pred.yields_run (v := .bool true) (Pred.wanted_none rfl) (by go_simp) ⟨Below.refl _ _, rfl, Nat.zero_le _⟩
  · trivial
  intro v X hE hS hv
  replace hS : (fun _ => True) X := hS
  have e0 : v 0 = .pointer (some ⟨b, 0, none⟩) := (hv 0 _ 8 rfl rfl).1
  have e1 : v 1 = .bool false := (hv 1 _ 9 rfl rfl).1
  have e2 : v 2 = .bool false := (hv 2 _ 10 rfl rfl).1
  have e3 : v 3 = .pointer (some ⟨b, 0, none⟩) := (hv 3 _ 11 rfl rfl).1
  have e4 : v 4 = .pointer (some ⟨b, 0, none⟩) := (hv 4 _ 12 rfl rfl).1
  have e5 : v 5 = .pointer (some ⟨b, 0, none⟩) := (hv 5 _ 13 rfl rfl).1
  have e6 : v 6 = .pointer (some ⟨b, 0, none⟩) := (hv 6 _ 14 rfl rfl).1
  have e7 : v 7 = .int .i64 D := (hv 7 _ 15 rfl rfl).1
  have e8 : v 8 = PgA.pg L P Q := (hv 8 _ 16 rfl rfl).1
  have e9 : v 9 = .bool false := (hv 9 _ 17 rfl rfl).1
  have e10 : v 10 = .bool true := (hv 10 _ 18 rfl rfl).1
  have e11 : v 11 = .bool true := (hv 11 _ 19 rfl rfl).1
  simp only [Pred.putsF_cons, Pred.putsF_nil, Nat.zero_add, Nat.reduceAdd, e0, e1, e2, e3, e4, e5, e6, e7, e8, e9, e10, e11, Act.put, List.setIfInBounds_toArray, List.set_cons_zero, List.set_cons_succ]
  clear e0 e1 e2 e3 e4 e5 e6 e7 e8 e9 e10 e11 hv
  have L1 : Below w.heap.size w X := L0.trans (hE.mono L0.size)
  clear hE hS hPW bP L0 h CV c0
  go_wp2_with fail
  go_ret
  exact ⟨rfl, L1⟩
set_option maxHeartbeats 8000000 in
theorem RCut_any (L P Q : Int) (w : World) (h : Rp w b D (D + 1) wr ts) (hv : PgM.validB D L P Q = true) :
    Calls Try.prog 27 #[.pointer (some ⟨b, 0, none⟩), PgA.pg L P Q] w fun e w' => (∃ v, e = .returned v ∧ w'.ownsRow w.heap.size 5 1 v 144 ((fb (pageP ts D wr L P Q)).map (Value.int .u8))) ∧ Below w.heap.size w w' := by
  have CV := Lib.hid fun Z => (hv ▸ PgB.rvalid_any (D : Int) L P Q Z : Calls Try.prog 40 #[.int .i64 D, PgA.pg L P Q] Z fun e w' => e = .returned (.bool true) ∧ Below Z.heap.size Z w')
  have hblt := h.lt
  obtain ⟨⟨v1, v2⟩, ⟨v3, v4⟩, ⟨v5, v6⟩, v7, v8⟩ := PgM.valid_yes hv
  have hsd := (PgM.sd_bd v3 v4 v2).2
  clear hv
  go_enter Try.func27, Try.ntmps27
  go_upto_region 1 with (fail)
  refine Rd.name_world ?_
  intro W hW
  have L0 : Below w.heap.size w W := by rw [hW]; repeat' (first | (with_reducible exact Below.refl _ _) | (with_reducible refine Rd.below_step ?_ (by assumption)) | (with_reducible refine Rd.below_alloc ?_ _) | (with_reducible refine Rd.below_drewN ?_ _) | (with_reducible refine Below.drew ?_) | (with_reducible refine Below.setCell ?_ ?_ _) | (with_reducible refine Rd.below_setRow ?_ ?_ _) | go_size | (simp only [World.size_alloc]; omega) | omega)
  have bP : blk W w.heap.size = some (.cells #[.int .i64 L, .int .i64 P, .int .i64 Q] 35 (0, 0)) := by rw [hW]; exact blk_alloc_at _ _ _ rfl
  have hPW := h.below L0
  have lP := blk_lt bP
  have lB := hPW.lt
  have c0 := hPW.c0
  clear hW
  refine PredT.region_of (W := W) (W.heap.size) (Nat.le_refl _) [] [
      fun _ => True] [
      PredT.At 0 (.pointer (some ⟨b, 0, none⟩)),
      PredT.At 0 (.bool false),
      PredT.At 0 (.bool false),
      PredT.At 0 (.pointer (some ⟨b, 0, none⟩)),
      PredT.At 0 (.pointer (some ⟨b, 0, none⟩)),
      PredT.At 0 (.pointer (some ⟨b, 0, none⟩)),
      PredT.At 0 (.pointer (some ⟨b, 0, none⟩)),
      PredT.At 0 (.int .i64 D),
      PredT.At 0 (PgA.pg L P Q),
      PredT.At 0 (.bool true),
      PredT.At 0 (.bool false),
      PredT.At 0 (.bool false)] (by kernel_rfl) (by kernel_rfl) (by kernel_rfl) (by decide) (by decide) ?_ ?_ ?_ ?_ ?_ ?_
  · exact ⟨PredT.at_stab _ _ _ _, PredT.at_stab _ _ _ _, PredT.at_stab _ _ _ _, PredT.at_stab _ _ _ _, PredT.at_stab _ _ _ _, PredT.at_stab _ _ _ _, PredT.at_stab _ _ _ _, PredT.at_stab _ _ _ _, PredT.at_stab _ _ _ _, PredT.at_stab _ _ _ _, PredT.at_stab _ _ _ _, PredT.at_stab _ _ _ _, trivial⟩
  · intro q hq
    rcases List.mem_cons.1 hq with rfl | hq
    · exact fun _ _ h _ => trivial
    cases hq
  · exact trivial
  · refine ⟨.inr ?_, .inr ?_, .inr ?_, .inr ?_, .inr ?_, .inr ?_, .inr ?_, .inr ?_, .inr ?_, .inr ?_, .inr ?_, .inr ?_, trivial⟩
    · intro b9 X ph hE hd hn hS hV hI hF
      have r0 : b9.tmps[0]?.getD undef = .pointer (some ⟨b, 0, none⟩) := (hn 0 (by kernel_rfl)).trans rfl
      exact Pred.yields_run (v := .pointer (some ⟨b, 0, none⟩)) (Pred.wanted_none rfl) (by go_simp) ⟨Below.refl _ _, rfl, Nat.zero_le _⟩
    · intro b9 X ph hE hd hn hS hV hI hF
      obtain ⟨r8, j8⟩ : PredT.At 0 (.pointer (some ⟨b, 0, none⟩)) (b9.tmps[8]?.getD undef) X ph := hV 0 _ 8 rfl rfl (Pred.waits_near (by kernel_rfl) (by kernel_rfl))
      exact Pred.yields_run (v := .bool false) (Pred.wanted_none rfl) (by go_simp) ⟨Below.refl _ _, rfl, Nat.zero_le _⟩
    · intro b9 X ph hE hd hn hS hV hI hF
      obtain ⟨r9, j9⟩ : PredT.At 0 (.bool false) (b9.tmps[9]?.getD undef) X ph := hV 1 _ 9 rfl rfl (Pred.waits_near (by kernel_rfl) (by kernel_rfl))
      exact Pred.yields_run (v := .bool false) (Pred.wanted_none rfl) (by go_simp) ⟨Below.refl _ _, rfl, Nat.zero_le _⟩
    · intro b9 X ph hE hd hn hS hV hI hF
      have r0 : b9.tmps[0]?.getD undef = .pointer (some ⟨b, 0, none⟩) := (hn 0 (by kernel_rfl)).trans rfl
      obtain ⟨r10, j10⟩ : PredT.At 0 (.bool false) (b9.tmps[10]?.getD undef) X ph := hV 2 _ 10 rfl rfl (Pred.waits_near (by kernel_rfl) (by kernel_rfl))
      exact Pred.yields_run (v := .pointer (some ⟨b, 0, none⟩)) ((Pred.wanted_at (g := 2) (d := 10) (f := false) rfl rfl r10).trans rfl) (by go_simp) ⟨Below.refl _ _, rfl, Nat.zero_le _⟩
    · intro b9 X ph hE hd hn hS hV hI hF
      obtain ⟨r11, j11⟩ : PredT.At 0 (.pointer (some ⟨b, 0, none⟩)) (b9.tmps[11]?.getD undef) X ph := hV 3 _ 11 rfl rfl (Pred.waits_near (by kernel_rfl) (by kernel_rfl))
      obtain ⟨r10, j10⟩ : PredT.At 0 (.bool false) (b9.tmps[10]?.getD undef) X ph := hV 2 _ 10 rfl rfl (Pred.waits_near (by kernel_rfl) (by kernel_rfl))
      exact Pred.yields_run (v := .pointer (some ⟨b, 0, none⟩)) ((Pred.wanted_at (g := 2) (d := 10) (f := false) rfl rfl r10).trans rfl) (by go_simp) ⟨Below.refl _ _, rfl, Nat.zero_le _⟩
    · intro b9 X ph hE hd hn hS hV hI hF
      obtain ⟨r12, j12⟩ : PredT.At 0 (.pointer (some ⟨b, 0, none⟩)) (b9.tmps[12]?.getD undef) X ph := hV 4 _ 12 rfl rfl (Pred.waits_near (by kernel_rfl) (by kernel_rfl))
      obtain ⟨r10, j10⟩ : PredT.At 0 (.bool false) (b9.tmps[10]?.getD undef) X ph := hV 2 _ 10 rfl rfl (Pred.waits_near (by kernel_rfl) (by kernel_rfl))
      exact Pred.yields_run (v := .pointer (some ⟨b, 0, none⟩)) ((Pred.wanted_at (g := 2) (d := 10) (f := false) rfl rfl r10).trans rfl) (by go_simp) ⟨Below.refl _ _, rfl, Nat.zero_le _⟩
    · intro b9 X ph hE hd hn hS hV hI hF
      obtain ⟨r13, j13⟩ : PredT.At 0 (.pointer (some ⟨b, 0, none⟩)) (b9.tmps[13]?.getD undef) X ph := hV 5 _ 13 rfl rfl (Pred.waits_near (by kernel_rfl) (by kernel_rfl))
      obtain ⟨r10, j10⟩ : PredT.At 0 (.bool false) (b9.tmps[10]?.getD undef) X ph := hV 2 _ 10 rfl rfl (Pred.waits_near (by kernel_rfl) (by kernel_rfl))
      exact Pred.yields_run (v := .pointer (some ⟨b, 0, none⟩)) ((Pred.wanted_at (g := 2) (d := 10) (f := false) rfl rfl r10).trans rfl) (by go_simp) ⟨Below.refl _ _, rfl, Nat.zero_le _⟩
    · intro b9 X ph hE hd hn hS hV hI hF
      obtain ⟨r14, j14⟩ : PredT.At 0 (.pointer (some ⟨b, 0, none⟩)) (b9.tmps[14]?.getD undef) X ph := hV 6 _ 14 rfl rfl (Pred.waits_near (by kernel_rfl) (by kernel_rfl))
      obtain ⟨r10, j10⟩ : PredT.At 0 (.bool false) (b9.tmps[10]?.getD undef) X ph := hV 2 _ 10 rfl rfl (Pred.waits_near (by kernel_rfl) (by kernel_rfl))
      have z9 := (hE.cell (p := ⟨b, 0, none⟩) lB).trans c0
      exact Pred.yields_run (v := .int .i64 D) ((Pred.wanted_at (g := 2) (d := 10) (f := false) rfl rfl r10).trans rfl) (by go_simp) ⟨Below.refl _ _, rfl, Nat.zero_le _⟩
    · intro b9 X ph hE hd hn hS hV hI hF
      have r3 : b9.tmps[3]?.getD undef = .pointer (some ⟨w.heap.size, 0, none⟩) := (hn 3 (by kernel_rfl)).trans rfl
      obtain ⟨r10, j10⟩ : PredT.At 0 (.bool false) (b9.tmps[10]?.getD undef) X ph := hV 2 _ 10 rfl rfl (Pred.waits_near (by kernel_rfl) (by kernel_rfl))
      have hbP := (blk_below hE _ lP).trans bP
      exact Pred.yields_run (v := PgA.pg L P Q) ((Pred.wanted_at (g := 2) (d := 10) (f := false) rfl rfl r10).trans rfl) (by go_simp) ⟨Below.refl _ _, rfl, Nat.zero_le _⟩
    · intro b9 X ph hE hd hn hS hV hI hF
      obtain ⟨r15, j15⟩ : PredT.At 0 (.int .i64 D) (b9.tmps[15]?.getD undef) X ph := hV 7 _ 15 rfl rfl (Pred.waits_near (by kernel_rfl) (by kernel_rfl))
      obtain ⟨r16, j16⟩ : PredT.At 0 (PgA.pg L P Q) (b9.tmps[16]?.getD undef) X ph := hV 8 _ 16 rfl rfl (Pred.waits_near (by kernel_rfl) (by kernel_rfl))
      obtain ⟨r10, j10⟩ : PredT.At 0 (.bool false) (b9.tmps[10]?.getD undef) X ph := hV 2 _ 10 rfl rfl (Pred.waits_near (by kernel_rfl) (by kernel_rfl))
      refine Pred.yields_call (f := 40) (args := #[.int .i64 D, PgA.pg L P Q]) ((Pred.wanted_at (g := 2) (d := 10) (f := false) rfl rfl r10).trans rfl) (by go_simp) ?_
      refine (CV.out X).mono ?_
      rintro e w9 ⟨rfl, hb⟩
      exact ⟨_, rfl, hb, rfl, Nat.zero_le _⟩
    · intro b9 X ph hE hd hn hS hV hI hF
      obtain ⟨r17, j17⟩ : PredT.At 0 (.bool true) (b9.tmps[17]?.getD undef) X ph := hV 9 _ 17 rfl rfl (Pred.waits_near (by kernel_rfl) (by kernel_rfl))
      obtain ⟨r10, j10⟩ : PredT.At 0 (.bool false) (b9.tmps[10]?.getD undef) X ph := hV 2 _ 10 rfl rfl (Pred.waits_near (by kernel_rfl) (by kernel_rfl))
      exact Pred.yields_run (v := .bool false) ((Pred.wanted_at (g := 2) (d := 10) (f := false) rfl rfl r10).trans rfl) (by go_simp) ⟨Below.refl _ _, rfl, Nat.zero_le _⟩
    · intro b9 X ph hE hd hn hS hV hI hF
      obtain ⟨r10, j10⟩ : PredT.At 0 (.bool false) (b9.tmps[10]?.getD undef) X ph := hV 2 _ 10 rfl rfl (Pred.waits_near (by kernel_rfl) (by kernel_rfl))
      obtain ⟨r18, j18⟩ : PredT.At 0 (.bool false) (b9.tmps[18]?.getD undef) X ph := hV 10 _ 18 rfl rfl (Pred.waits_near (by kernel_rfl) (by kernel_rfl))
      exact Pred.yields_run (v := .bool false) (Pred.wanted_none rfl) (by go_simp) ⟨Below.refl _ _, rfl, Nat.zero_le _⟩
  · trivial
  intro v X hE hS hv
  replace hS : (fun _ => True) X := hS
  have e0 : v 0 = .pointer (some ⟨b, 0, none⟩) := (hv 0 _ 8 rfl rfl).1
  have e1 : v 1 = .bool false := (hv 1 _ 9 rfl rfl).1
  have e2 : v 2 = .bool false := (hv 2 _ 10 rfl rfl).1
  have e3 : v 3 = .pointer (some ⟨b, 0, none⟩) := (hv 3 _ 11 rfl rfl).1
  have e4 : v 4 = .pointer (some ⟨b, 0, none⟩) := (hv 4 _ 12 rfl rfl).1
  have e5 : v 5 = .pointer (some ⟨b, 0, none⟩) := (hv 5 _ 13 rfl rfl).1
  have e6 : v 6 = .pointer (some ⟨b, 0, none⟩) := (hv 6 _ 14 rfl rfl).1
  have e7 : v 7 = .int .i64 D := (hv 7 _ 15 rfl rfl).1
  have e8 : v 8 = PgA.pg L P Q := (hv 8 _ 16 rfl rfl).1
  have e9 : v 9 = .bool true := (hv 9 _ 17 rfl rfl).1
  have e10 : v 10 = .bool false := (hv 10 _ 18 rfl rfl).1
  have e11 : v 11 = .bool false := (hv 11 _ 19 rfl rfl).1
  simp only [Pred.putsF_cons, Pred.putsF_nil, Nat.zero_add, Nat.reduceAdd, e0, e1, e2, e3, e4, e5, e6, e7, e8, e9, e10, e11, Act.put, List.setIfInBounds_toArray, List.set_cons_zero, List.set_cons_succ]
  clear e0 e1 e2 e3 e4 e5 e6 e7 e8 e9 e10 e11 hv
  have bP1 := (blk_below hE _ lP).trans bP
  have hP1 := hPW.below hE
  have L1 : Below w.heap.size w X := L0.trans (hE.mono L0.size)
  have lP1 := blk_lt bP1
  rename World => Z1
  clear hE hS hPW bP L0 h CV c0
  go_wp2_with fail
  go_loopw [5, 6] (fun v i Z => ∃ (j : Nat), j ≤ 6 ∧ i = .int .i64 ((j : Int) - 1) ∧ Hid (Z.ownsRow Z1.heap.size 97 4 v (6 * j) (cp ((pageP ts D wr L P Q).take (6 * j)))) ∧ Hid (Below Z1.heap.size Z1 Z)) (fun _ i _ => (5 - intOf i).toNat)
  case atStart => exact ⟨0, by omega, rfl, Lib.hid (by simpa [cp, fl] using World.ownsRow_nil _ _ _ _), Lib.hid (Below.refl _ _)⟩
  case round =>
    obtain ⟨j, hj, rfl, HO, HL⟩ := hrel
    rename World => Z2
    by_cases hlt : j < 6
    · have hlt' : (j : Int) - 1 ≤ 4 := by omega
      go_wp2_with fail
      go_loopw [5, 7] (fun v i Z => ∃ (k : Nat), k ≤ 6 ∧ i = .int .i64 ((k : Int) - 1) ∧ Hid (Z.ownsRow Z1.heap.size 97 4 v (6 * j + k) (cp ((pageP ts D wr L P Q).take (6 * j + k)))) ∧ Hid (Below Z1.heap.size Z1 Z)) (fun _ i _ => (5 - intOf i).toNat)
      case atStart => exact ⟨0, by omega, rfl, HO, HL⟩
      case round =>
        obtain ⟨k, hk, rfl, HO2, HL2⟩ := hrel
        rename World => Z3
        clear HO HL
        by_cases hlt2 : k < 6
        · have hlt2' : (k : Int) - 1 ≤ 4 := by omega
          have bP3 := (blk_below HL2.out _ lP1).trans bP1
          have hP3 := hP1.below HL2.out
          have c0 : Z3.cell? ⟨w.heap.size, 0, none⟩ = some (.int .i64 L) := by rw [blk_cell bP3]; first | done | rfl
          have c1 : Z3.cell? ⟨w.heap.size, 1, none⟩ = some (.int .i64 P) := by rw [blk_cell bP3]; first | done | rfl
          have c2 : Z3.cell? ⟨w.heap.size, 2, none⟩ = some (.int .i64 Q) := by rw [blk_cell bP3]; first | done | rfl
          obtain ⟨p, hp⟩ : ∃ p, atP ts D wr L (4 * P + ((k : Int) - 1)) (4 * Q + ((j : Int) - 1)) = p := ⟨_, rfl⟩
          have HT : Hid ((pageP ts D wr L P Q).take (6 * j + k + 1) = (pageP ts D wr L P Q).take (6 * j + k) ++ [p]) := Lib.hid (by rw [← hp]; exact pageP_take hlt2 hlt)
          have CA : Hid (Calls Try.prog 49 #[.pointer (some ⟨b, 0, none⟩), .int .i64 L, .int .i64 (4 * P + ((k : Int) - 1)), .int .i64 (4 * Q + ((j : Int) - 1))] Z3 fun e w' => e = .returned p.v ∧ Below Z3.heap.size Z3 w') := Lib.hid (by
            rw [← hp]
            exact RAt_any L _ _ Z3 hP3 (fun _ _ => by omega) ⟨by omega, by omega⟩ ⟨by omega, by omega⟩)
          have hZs := HL2.out.size
          clear hp hP3 bP3
          go_wp2_with fail
          refine CA.out.mono ?_
          rintro e Z4 ⟨rfl, hb4⟩
          have HO4 := Lib.hid (owns_below' HO2.out hb4)
          have L4 : Below Z1.heap.size Z1 Z4 := HL2.out.trans (hb4.mono hZs)
          have s4 := L4.size
          clear HO2 hb4 c0 c1 c2 CA
          go_wp2_with (at_builtin; refine app_px rfl (.tmp 28) (.tmp 43) rfl Z1.heap.size _ _ _ rfl (HO4.out.alloc _) Z4.heap.size 1 p rfl (blk_alloc_at _ _ _ rfl) (by omega) (by simp; omega) ?_; intro v5 Z5 ho5 hg5)
          have L5 : Below Z1.heap.size Z1 Z5 := (L4.alloc s4 _).grown hg5 (by simp; omega) (fun j hj => (HO4.out.lt j hj).1)
          first
            | exact ⟨⟨k + 1, by omega, by go_num, Lib.hid (by rw [show 6 * j + (k + 1) = 6 * j + k + 1 by omega, HT.out]; exact ho5), Lib.hid L5⟩, by simp [intOf]; omega⟩
            | (go_roundw
               case rel => exact ⟨k + 1, by omega, congrArg (Value.int .i64) (by omega), Lib.hid (by rw [show 6 * j + (k + 1) = 6 * j + k + 1 by omega, HT.out]; exact ho5), Lib.hid L5⟩
               case measure => simp [intOf]; omega)
        · obtain rfl : k = 6 := by omega
          have hlt2' : ¬ ((6 : Nat) : Int) - 1 ≤ 4 := by omega
          go_wp2_with fail
          first
            | exact ⟨⟨j + 1, by omega, by go_num, by rw [Nat.mul_add, Nat.mul_one]; exact HO2, HL2⟩, by simp [intOf]; omega⟩
            | (go_roundw
               case rel => exact ⟨j + 1, by omega, congrArg (Value.int .i64) (by omega), by rw [Nat.mul_add, Nat.mul_one]; exact HO2, HL2⟩
               case measure => simp [intOf]; omega)
    · obtain rfl : j = 6 := by omega
      have hlt' : ¬ ((6 : Nat) : Int) - 1 ≤ 4 := by omega
      have ho := HO.out
      rw [List.take_of_length_le (by rw [pageP_len]; omega)] at ho
      obtain ⟨a9, c9, hv9, _⟩ := owns_val ho
      subst hv9
      have hRd := Reads.of_owns ho
      rw [cp_fb] at hRd
      have CB := Lib.hid (HueB.rbytes_any a9 36 c9 _ Z2 hRd (by omega))
      have sZ := HL.out.size
      clear HO ho hRd
      go_wp2_with fail
      refine CB.out.mono ?_
      rintro e Z6 ⟨v6, rfl, ho6, hb6⟩
      go_wp2_with fail
      go_ret
      exact ⟨⟨_, rfl, owns_mono ho6 (by have := L1.size; omega)⟩, (L1.trans (HL.out.mono L1.size)).trans (hb6.mono (by have := L1.size; omega))⟩
end Go.Proofs.Ytkklppjimnkibaa.RfC

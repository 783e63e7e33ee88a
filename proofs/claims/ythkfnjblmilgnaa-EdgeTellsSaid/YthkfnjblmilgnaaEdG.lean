/-
  May spots be; what the document fixes.
-/
import Derived.Test.YthkfnjblmilgnaaEdE
import Derived.Test.YthkfnjblmilgnaaPredS
namespace Go.Proofs.Ythkfnjblmilgnaa.EdG
open Go.RowKit FixA Num Rd Go.Proofs.Ythkfnjblmilgnaa.Row Mid EdM EdA EdB EdF EdE
open Go.Proofs.Ythkfnjblmilgnaa.Pred (Is is_stab Stab)
set_option linter.unusedVariables false
set_option linter.unusedSimpArgs false
set_option maxRecDepth 10000
theorem cell_ext {B : Nat} {w w' : World} (h : Pred.Ext B w w') {b o : Nat} {v : Value} (hc : w.cell? ⟨b, o, none⟩ = some v) : w'.cell? ⟨b, o, none⟩ = some v ∧ b < w'.heap.size := by
  unfold World.cell? at hc ⊢
  simp only at hc ⊢
  cases hb : w.heap[b]? with
  | none => rw [hb] at hc; cases hc
  | some ob =>
    rw [hb] at hc
    cases ob with
    | cells c t fr =>
      obtain ⟨fr', h2⟩ := h.2 b c t fr hb
      rw [h2]
      refine ⟨hc, ?_⟩
      rcases Nat.lt_or_ge b w'.heap.size with h3 | h3
      · exact h3
      · rw [Array.getElem?_eq_none h3] at h2; cases h2
    | _ => simp at hc
theorem hit_ext {B : Nat} {w w' : World} {a : Option Addr} {r : HRow} (hb : Pred.Ext B w w') (h : HitAt w a r) : HitAt w' a r := by
  obtain ⟨h2, h3⟩ := h
  refine ⟨h2, ?_⟩
  rcases h3 with h3 | ⟨b, o, e, hlt, hc⟩
  · exact Or.inl h3
  · by_cases h0 : r = []
    · exact Or.inl h0
    · have hl : 0 < r.length := List.length_pos_iff.2 h0
      exact Or.inr ⟨b, o, e, (cell_ext hb (hc 0 hl 0 (by omega))).2, fun i hi j hj => (cell_ext hb (hc i hi j hj)).1⟩
/-- a slice that reads as these pixels -/
def SH (n : Nat) (r : HRow) : Value → World → Prop := fun v X => ∃ a c, v = .slice a n c ∧ HitAt X a r
theorem sh_stab (n : Nat) (r : HRow) : Stab (SH n r) := by
  intro v w w' B ⟨a, c, h1, h2⟩ hb
  exact ⟨a, c, h1, hit_ext hb h2⟩
def smB (x y : Int) : Bool := decide (0 ≤ x ∧ x ≤ 16384 ∧ 0 ≤ y ∧ y ≤ 16384)
def smK (t : List Int) : Nat → Bool
  | 0 => smB (g t 0) (g t 1)
  | 1 => smB (g t 6) (g t 7)
  | _ => smB (g t 12) (g t 13)
def smallB (t : List Int) : Bool := smK t 0 && (smK t 1 && smK t 2)
theorem small_tri {t : List Int} (hl : t.length = 18) (h : smallB t = true) : Tri t := by
  unfold smallB at h
  simp only [Bool.and_eq_true] at h
  exact ⟨hl, of_decide_eq_true (p := _ ∧ _) h.1, of_decide_eq_true (p := _ ∧ _) h.2.1, of_decide_eq_true (p := _ ∧ _) h.2.2⟩
theorem small_no {t : List Int} {k : Nat} (hk : k < 3) (h : smK t k = false) : smallB t = false := by
  unfold smallB
  have : k = 0 ∨ k = 1 ∨ k = 2 := by omega
  rcases this with rfl | rfl | rfl <;> rw [h] <;> simp
theorem small_yes {t : List Int} (h : ∀ j, j < 3 → smK t j = true) : smallB t = true := by
  unfold smallB
  rw [h 0 (by omega), h 1 (by omega), h 2 (by omega)]; rfl
theorem s_step {t : List Int} {k : Nat} (h : ∀ j, j < k → smK t j = true) (h2 : smK t k = true) : ∀ j, j < k + 1 → smK t j = true := by
  intro j hj
  by_cases e : j = k
  · subst e; exact h2
  · exact h j (by omega)
attribute [local go_sem ↓] load_tri store_tri load_w3 store_w3 load_spot store_spot load_hit store_hit
attribute [local go_sem] one_int run_load_spot run_load_tri run_load_w3 run_load_hit run_store_tri run_store_w3 run_store_spot run_store_hit rowLoad_eq rowStore_eq midLoad_eq ext0 ext1 ext2 blk_alloc_at blk_alloc_old blk_drew blk_drewN blk_set_far blk_set_far' blk_grow setRow_alloc_at setRow_alloc_old setRow_drew setRow_drewN all_map
set_option maxHeartbeats 2000000 in
theorem small_any (t : List Int) (hl : t.length = 18) (w : World) :
    Calls Try.prog 8 #[.agg (cs .i64 t)] w fun e w' => e = .returned (.bool (smallB t)) ∧ Below w.heap.size w w' := by
  go_enter Try.func8, Try.ntmps8
  go_upto_region 2 with (fail)
  refine Rd.name_world ?_
  intro w1 hw
  have b1 : blk w1 w.heap.size = some (.cells (cs .i64 t) 24 (0, 0)) := by rw [hw]; exact blk_alloc_at _ _ _ rfl
  have L1 : Below w.heap.size w w1 := by
    rw [hw]
    repeat' (first | (with_reducible exact Below.refl _ _) | (with_reducible refine Rd.below_step ?_ (by assumption)) | (with_reducible refine Rd.below_alloc ?_ _) | (with_reducible refine Rd.below_drewN ?_ _) | (with_reducible refine Below.drew ?_) | (with_reducible refine Below.setCell ?_ ?_ _) | (with_reducible refine Rd.below_setRow ?_ ?_ _) | go_size | (simp only [World.size_alloc]; omega) | omega)
  clear hw
  go_loop [3] (fun i => ∃ k : Nat, k ≤ 3 ∧ i = .int .i64 k ∧ Hid (∀ j, j < k → smK t j = true)) (fun i => 3 - (intOf i).toNat)
  case atStart => exact ⟨0, by omega, rfl, Lib.hid fun j hj => absurd hj (by omega)⟩
  case round =>
    obtain ⟨k, hk, rfl, HF⟩ := hrel
    by_cases hlt : k < 3
    · have e3 : k = 0 ∨ k = 1 ∨ k = 2 := by omega
      rcases e3 with rfl | rfl | rfl
      · have cx : w1.cell? ⟨w.heap.size, 0, none⟩ = some (.int .i64 (g t 0)) := by rw [blk_cell b1]; exact cs_at (at_of (by omega))
        have cy : w1.cell? ⟨w.heap.size, 1, none⟩ = some (.int .i64 (g t 1)) := by rw [blk_cell b1]; exact cs_at (at_of (by omega))
        have FK : smK t 0 = smB (g t 0) (g t 1) := rfl
        obtain ⟨x, ex⟩ : ∃ x, g t 0 = x := ⟨_, rfl⟩
        obtain ⟨y, ey⟩ : ∃ y, g t 1 = y := ⟨_, rfl⟩
        rw [ex] at cx
        rw [ey] at cy
        rw [ex, ey] at FK
        clear ex ey
        by_cases h0 : x < 0
        · have d0 : decide (x < 0) = true := decide_eq_true h0
          have FN := Lib.hid (small_no (k := 0) (by omega) (FK.trans (decide_eq_false (by omega))))
          clear FK h0
          go_wp2
          go_ret
          exact ⟨Num.ret_bool FN.out.symm, L1⟩
        have d0 : decide (x < 0) = false := decide_eq_false h0
        by_cases h1 : 16384 < x
        · have d1 : decide (16384 < x) = true := decide_eq_true h1
          have FN := Lib.hid (small_no (k := 0) (by omega) (FK.trans (decide_eq_false (by omega))))
          clear FK h1
          go_wp2
          go_ret
          exact ⟨Num.ret_bool FN.out.symm, L1⟩
        have d1 : decide (16384 < x) = false := decide_eq_false h1
        by_cases h2 : y < 0
        · have d2 : decide (y < 0) = true := decide_eq_true h2
          have FN := Lib.hid (small_no (k := 0) (by omega) (FK.trans (decide_eq_false (by omega))))
          clear FK h2
          go_wp2
          go_ret
          exact ⟨Num.ret_bool FN.out.symm, L1⟩
        have d2 : decide (y < 0) = false := decide_eq_false h2
        by_cases h3 : 16384 < y
        · have d3 : decide (16384 < y) = true := decide_eq_true h3
          have FN := Lib.hid (small_no (k := 0) (by omega) (FK.trans (decide_eq_false (by omega))))
          clear FK h3
          go_wp2
          go_ret
          exact ⟨Num.ret_bool FN.out.symm, L1⟩
        have d3 : decide (16384 < y) = false := decide_eq_false h3
        have FY := Lib.hid (s_step HF.out (FK.trans (decide_eq_true (by omega))))
        clear FK h0 h1 h2 h3
        go_wp2
        exact ⟨⟨1, by omega, by go_num, FY⟩, by simp [intOf]⟩
      · have cx : w1.cell? ⟨w.heap.size, 6, none⟩ = some (.int .i64 (g t 6)) := by rw [blk_cell b1]; exact cs_at (at_of (by omega))
        have cy : w1.cell? ⟨w.heap.size, 7, none⟩ = some (.int .i64 (g t 7)) := by rw [blk_cell b1]; exact cs_at (at_of (by omega))
        have FK : smK t 1 = smB (g t 6) (g t 7) := rfl
        obtain ⟨x, ex⟩ : ∃ x, g t 6 = x := ⟨_, rfl⟩
        obtain ⟨y, ey⟩ : ∃ y, g t 7 = y := ⟨_, rfl⟩
        rw [ex] at cx
        rw [ey] at cy
        rw [ex, ey] at FK
        clear ex ey
        by_cases h0 : x < 0
        · have d0 : decide (x < 0) = true := decide_eq_true h0
          have FN := Lib.hid (small_no (k := 1) (by omega) (FK.trans (decide_eq_false (by omega))))
          clear FK h0
          go_wp2
          go_ret
          exact ⟨Num.ret_bool FN.out.symm, L1⟩
        have d0 : decide (x < 0) = false := decide_eq_false h0
        by_cases h1 : 16384 < x
        · have d1 : decide (16384 < x) = true := decide_eq_true h1
          have FN := Lib.hid (small_no (k := 1) (by omega) (FK.trans (decide_eq_false (by omega))))
          clear FK h1
          go_wp2
          go_ret
          exact ⟨Num.ret_bool FN.out.symm, L1⟩
        have d1 : decide (16384 < x) = false := decide_eq_false h1
        by_cases h2 : y < 0
        · have d2 : decide (y < 0) = true := decide_eq_true h2
          have FN := Lib.hid (small_no (k := 1) (by omega) (FK.trans (decide_eq_false (by omega))))
          clear FK h2
          go_wp2
          go_ret
          exact ⟨Num.ret_bool FN.out.symm, L1⟩
        have d2 : decide (y < 0) = false := decide_eq_false h2
        by_cases h3 : 16384 < y
        · have d3 : decide (16384 < y) = true := decide_eq_true h3
          have FN := Lib.hid (small_no (k := 1) (by omega) (FK.trans (decide_eq_false (by omega))))
          clear FK h3
          go_wp2
          go_ret
          exact ⟨Num.ret_bool FN.out.symm, L1⟩
        have d3 : decide (16384 < y) = false := decide_eq_false h3
        have FY := Lib.hid (s_step HF.out (FK.trans (decide_eq_true (by omega))))
        clear FK h0 h1 h2 h3
        go_wp2
        exact ⟨⟨2, by omega, by go_num, FY⟩, by simp [intOf]⟩
      · have cx : w1.cell? ⟨w.heap.size, 12, none⟩ = some (.int .i64 (g t 12)) := by rw [blk_cell b1]; exact cs_at (at_of (by omega))
        have cy : w1.cell? ⟨w.heap.size, 13, none⟩ = some (.int .i64 (g t 13)) := by rw [blk_cell b1]; exact cs_at (at_of (by omega))
        have FK : smK t 2 = smB (g t 12) (g t 13) := rfl
        obtain ⟨x, ex⟩ : ∃ x, g t 12 = x := ⟨_, rfl⟩
        obtain ⟨y, ey⟩ : ∃ y, g t 13 = y := ⟨_, rfl⟩
        rw [ex] at cx
        rw [ey] at cy
        rw [ex, ey] at FK
        clear ex ey
        by_cases h0 : x < 0
        · have d0 : decide (x < 0) = true := decide_eq_true h0
          have FN := Lib.hid (small_no (k := 2) (by omega) (FK.trans (decide_eq_false (by omega))))
          clear FK h0
          go_wp2
          go_ret
          exact ⟨Num.ret_bool FN.out.symm, L1⟩
        have d0 : decide (x < 0) = false := decide_eq_false h0
        by_cases h1 : 16384 < x
        · have d1 : decide (16384 < x) = true := decide_eq_true h1
          have FN := Lib.hid (small_no (k := 2) (by omega) (FK.trans (decide_eq_false (by omega))))
          clear FK h1
          go_wp2
          go_ret
          exact ⟨Num.ret_bool FN.out.symm, L1⟩
        have d1 : decide (16384 < x) = false := decide_eq_false h1
        by_cases h2 : y < 0
        · have d2 : decide (y < 0) = true := decide_eq_true h2
          have FN := Lib.hid (small_no (k := 2) (by omega) (FK.trans (decide_eq_false (by omega))))
          clear FK h2
          go_wp2
          go_ret
          exact ⟨Num.ret_bool FN.out.symm, L1⟩
        have d2 : decide (y < 0) = false := decide_eq_false h2
        by_cases h3 : 16384 < y
        · have d3 : decide (16384 < y) = true := decide_eq_true h3
          have FN := Lib.hid (small_no (k := 2) (by omega) (FK.trans (decide_eq_false (by omega))))
          clear FK h3
          go_wp2
          go_ret
          exact ⟨Num.ret_bool FN.out.symm, L1⟩
        have d3 : decide (16384 < y) = false := decide_eq_false h3
        have FY := Lib.hid (s_step HF.out (FK.trans (decide_eq_true (by omega))))
        clear FK h0 h1 h2 h3
        go_wp2
        exact ⟨⟨3, by omega, by go_num, FY⟩, by simp [intOf]⟩
    · obtain rfl : k = 3 := by omega
      have FY := Lib.hid (small_yes HF.out)
      go_wp2
      go_ret
      exact ⟨Num.ret_bool FY.out.symm, L1⟩
/-! What the document fixes -/
theorem pc6 (a b c d e f : Value) : piece #[a, b, c, d, e, f] 0 6 = #[a, b, c, d, e, f] := rfl
attribute [local go_sem] pc6
attribute [local go_sem ↓] eq_tri
theorem blk4_0 (w : World) (A B C D : Obj) : blk ((((w.alloc A).alloc B).alloc C).alloc D) w.heap.size = some A := by rw [blk_alloc_old _ _ _ (by simp; omega)]; exact blk3_0 w A B C
theorem blk4_1 (w : World) (A B C D : Obj) : blk ((((w.alloc A).alloc B).alloc C).alloc D) (w.heap.size + 1) = some B := by rw [blk_alloc_old _ _ _ (by simp)]; exact blk3_1 w A B C
theorem blk4_2 (w : World) (A B C D : Obj) : blk ((((w.alloc A).alloc B).alloc C).alloc D) (w.heap.size + 2) = some C := by rw [blk_alloc_old _ _ _ (by simp)]; exact blk3_2 w A B C
theorem blk4_3 (w : World) (A B C D : Obj) : blk ((((w.alloc A).alloc B).alloc C).alloc D) (w.heap.size + 3) = some D := blk_alloc_at _ _ _ (by simp)
def pA : List Int := [0, 0, 0, 0, 0, 0]
def pB : List Int := [256, 0, 0, 0, 0, 0]
def pC : List Int := [256, 256, 0, 0, 0, 0]
def pD : List Int := [0, 256, 0, 0, 0, 0]
theorem tri_of (a b c : List Int) (h : smallB (a ++ b ++ c) = true) (hl : (a ++ b ++ c).length = 18) : Tri (a ++ b ++ c) := small_tri hl h
theorem all_abc (w : World) : Calls Try.prog 18 #[.agg (cs .i64 (pA ++ pB ++ pC)), .int .i64 1, .int .i64 1, .int .i64 (-1)] w fun e w' => (∃ a c, e = .returned (.slice a (cutV (pA ++ pB ++ pC) 1 1 (-1)).length c) ∧ HitAt w' a (cutV (pA ++ pB ++ pC) 1 1 (-1))) ∧ Below w.heap.size w w' := lall_any _ (tri_of _ _ _ (by decide +kernel) rfl) _ _ _ w
theorem all_acd (w : World) : Calls Try.prog 18 #[.agg (cs .i64 (pA ++ pC ++ pD)), .int .i64 1, .int .i64 1, .int .i64 (-1)] w fun e w' => (∃ a c, e = .returned (.slice a (cutV (pA ++ pC ++ pD) 1 1 (-1)).length c) ∧ HitAt w' a (cutV (pA ++ pC ++ pD) 1 1 (-1))) ∧ Below w.heap.size w w' := lall_any _ (tri_of _ _ _ (by decide +kernel) rfl) _ _ _ w
theorem len_abc : (cutV (pA ++ pB ++ pC) 1 1 (-1)).length + (cutV (pA ++ pC ++ pD) 1 1 (-1)).length = 1 := by decide +kernel
theorem tu1 (w : World) : Calls Try.prog 10 #[.agg #[.int .i64 0, .int .i64 0, .int .i64 0, .int .i64 0, .int .i64 0, .int .i64 0, .int .i64 0, .int .i64 256, .int .i64 0, .int .i64 0, .int .i64 0, .int .i64 0, .int .i64 256, .int .i64 256, .int .i64 0, .int .i64 0, .int .i64 0, .int .i64 0]] w fun e w' => e = .returned (.tuple #[.agg #[.int .i64 0, .int .i64 0, .int .i64 0, .int .i64 0, .int .i64 0, .int .i64 0, .int .i64 256, .int .i64 256, .int .i64 0, .int .i64 0, .int .i64 0, .int .i64 0, .int .i64 0, .int .i64 256, .int .i64 0, .int .i64 0, .int .i64 0, .int .i64 0], .bool true]) ∧ Below w.heap.size w w' := by
  have := turned_any (pA ++ pD ++ pC) (tri_of _ _ _ (by decide +kernel) rfl) w
  rw [show turnedV (pA ++ pD ++ pC) = pA ++ pC ++ pD by decide +kernel, show turnedB (pA ++ pD ++ pC) = true by decide +kernel] at this
  exact this
theorem tu2 (w : World) : Calls Try.prog 10 #[.agg #[.int .i64 0, .int .i64 0, .int .i64 0, .int .i64 0, .int .i64 0, .int .i64 0, .int .i64 0, .int .i64 0, .int .i64 0, .int .i64 0, .int .i64 0, .int .i64 0, .int .i64 256, .int .i64 256, .int .i64 0, .int .i64 0, .int .i64 0, .int .i64 0]] w fun e w' => e = .returned (.tuple #[.agg #[.int .i64 0, .int .i64 0, .int .i64 0, .int .i64 0, .int .i64 0, .int .i64 0, .int .i64 0, .int .i64 0, .int .i64 0, .int .i64 0, .int .i64 0, .int .i64 0, .int .i64 0, .int .i64 0, .int .i64 0, .int .i64 0, .int .i64 0, .int .i64 0], .bool false]) ∧ Below w.heap.size w w' := by
  have := turned_any (pA ++ pA ++ pC) (tri_of _ _ _ (by decide +kernel) rfl) w
  rw [show turnedV (pA ++ pA ++ pC) = zeroL by decide +kernel, show turnedB (pA ++ pA ++ pC) = false by decide +kernel] at this
  exact this
theorem ar1 (w : World) : Calls Try.prog 14 #[.agg #[.int .i64 0, .int .i64 0, .int .i64 0, .int .i64 0, .int .i64 0, .int .i64 0, .int .i64 256, .int .i64 0, .int .i64 0, .int .i64 0, .int .i64 0, .int .i64 0, .int .i64 256, .int .i64 256, .int .i64 0, .int .i64 0, .int .i64 0, .int .i64 0]] w fun e w' => e = .returned (.int .i64 65536) ∧ Below w.heap.size w w' := by
  have := area_any (pA ++ pB ++ pC) (tri_of _ _ _ (by decide +kernel) rfl) w
  rw [show area (pA ++ pB ++ pC) = 65536 by decide +kernel] at this
  exact this
theorem sd1 (w : World) : Calls Try.prog 16 #[.agg #[.int .i64 0, .int .i64 0, .int .i64 0, .int .i64 0, .int .i64 0, .int .i64 0], .agg #[.int .i64 256, .int .i64 0, .int .i64 0, .int .i64 0, .int .i64 0, .int .i64 0], .int .i64 5, .int .i64 3] w fun e w' => e = .returned (.int .i64 768) ∧ Below w.heap.size w w' := by
  have := side_any pA pB ⟨rfl, by decide, by decide, by decide, by decide⟩ ⟨rfl, by decide, by decide, by decide, by decide⟩ 5 3 (by decide) (by decide) w
  rw [show sd (g pA 0) (g pA 1) (g pB 0) (g pB 1) 5 3 = 768 by decide +kernel] at this
  exact this
theorem eq1 : eqL [0, 0, 0, 0, 0, 0, 256, 256, 0, 0, 0, 0, 0, 256, 0, 0, 0, 0] [0, 0, 0, 0, 0, 0, 256, 256, 0, 0, 0, 0, 0, 256, 0, 0, 0, 0] = true := by decide +kernel
set_option maxHeartbeats 4000000 in
theorem awake_any (w : World) : Calls Try.prog 9 #[] w fun e w' => e = .returned (.bool true) ∧ Below w.heap.size w w' := by
  go_enter Try.func9, Try.ntmps9
  go_upto_region 2 with (fail)
  refine Rd.name_world ?_
  intro w1 hw
  have bA : blk w1 w.heap.size = some (.cells #[.int .i64 0, .int .i64 0, .int .i64 0, .int .i64 0, .int .i64 0, .int .i64 0] 23 (0, 0)) := by rw [hw]; exact blk4_0 _ _ _ _ _
  have bB : blk w1 (w.heap.size + 1) = some (.cells #[.int .i64 256, .int .i64 0, .int .i64 0, .int .i64 0, .int .i64 0, .int .i64 0] 23 (0, 0)) := by rw [hw]; exact blk4_1 _ _ _ _ _
  have bC : blk w1 (w.heap.size + 2) = some (.cells #[.int .i64 256, .int .i64 256, .int .i64 0, .int .i64 0, .int .i64 0, .int .i64 0] 23 (0, 0)) := by rw [hw]; exact blk4_2 _ _ _ _ _
  have bD : blk w1 (w.heap.size + 3) = some (.cells #[.int .i64 0, .int .i64 256, .int .i64 0, .int .i64 0, .int .i64 0, .int .i64 0] 23 (0, 0)) := by rw [hw]; exact blk4_3 _ _ _ _ _
  have L1 : Below w.heap.size w w1 := by
    rw [hw]
    repeat' (first | (with_reducible exact Below.refl _ _) | (with_reducible refine Rd.below_step ?_ (by assumption)) | (with_reducible refine Rd.below_alloc ?_ _) | (with_reducible refine Rd.below_drewN ?_ _) | (with_reducible refine Below.drew ?_) | (with_reducible refine Below.setCell ?_ ?_ _) | (with_reducible refine Rd.below_setRow ?_ ?_ _) | go_size | (simp only [World.size_alloc]; omega) | omega)
  clear hw
  have lA := blk_lt bA
  have lB := blk_lt bB
  have lC := blk_lt bC
  have lD := blk_lt bD
  refine Pred.region_vals (Pred.Of [
      Is (.agg #[.int .i64 0, .int .i64 0, .int .i64 0, .int .i64 0, .int .i64 0, .int .i64 0]),
      Is (.agg #[.int .i64 256, .int .i64 0, .int .i64 0, .int .i64 0, .int .i64 0, .int .i64 0]),
      Is (.agg #[.int .i64 256, .int .i64 256, .int .i64 0, .int .i64 0, .int .i64 0, .int .i64 0]),
      Is (.agg #[.int .i64 0, .int .i64 0, .int .i64 0, .int .i64 0, .int .i64 0, .int .i64 0, .int .i64 256, .int .i64 0, .int .i64 0, .int .i64 0, .int .i64 0, .int .i64 0, .int .i64 256, .int .i64 256, .int .i64 0, .int .i64 0, .int .i64 0, .int .i64 0]),
      SH ((cutV (pA ++ pB ++ pC) 1 1 (-1)).length) ((cutV (pA ++ pB ++ pC) 1 1 (-1))),
      Is (.agg #[.int .i64 0, .int .i64 0, .int .i64 0, .int .i64 0, .int .i64 0, .int .i64 0]),
      Is (.agg #[.int .i64 256, .int .i64 256, .int .i64 0, .int .i64 0, .int .i64 0, .int .i64 0]),
      Is (.agg #[.int .i64 0, .int .i64 256, .int .i64 0, .int .i64 0, .int .i64 0, .int .i64 0]),
      Is (.agg #[.int .i64 0, .int .i64 0, .int .i64 0, .int .i64 0, .int .i64 0, .int .i64 0, .int .i64 256, .int .i64 256, .int .i64 0, .int .i64 0, .int .i64 0, .int .i64 0, .int .i64 0, .int .i64 256, .int .i64 0, .int .i64 0, .int .i64 0, .int .i64 0]),
      SH ((cutV (pA ++ pC ++ pD) 1 1 (-1)).length) ((cutV (pA ++ pC ++ pD) 1 1 (-1))),
      SH ((cutV (pA ++ pB ++ pC) 1 1 (-1)).length) ((cutV (pA ++ pB ++ pC) 1 1 (-1))),
      SH ((cutV (pA ++ pC ++ pD) 1 1 (-1)).length) ((cutV (pA ++ pC ++ pD) 1 1 (-1)))]) (by kernel_rfl) (by kernel_rfl) (by kernel_rfl) (Pred.of_stab ?_) ?_ ?_
  · exact ⟨is_stab _, is_stab _, is_stab _, is_stab _, sh_stab _ _, is_stab _, is_stab _, is_stab _, is_stab _, sh_stab _ _, sh_stab _ _, sh_stab _ _, trivial⟩
  · refine ⟨?_, ?_, ?_, ?_, ?_, ?_, ?_, ?_, ?_, ?_, ?_, ?_, trivial⟩
    · intro b X hE hd hn hV
      have r1 : b.tmps[1]?.getD undef = .pointer (some ⟨w.heap.size, 0, none⟩) := (hn 1 (by kernel_rfl)).trans rfl
      have q := (blk_below hE _ lA).trans bA
      exact Pred.yields_run (v := .agg #[.int .i64 0, .int .i64 0, .int .i64 0, .int .i64 0, .int .i64 0, .int .i64 0]) (Pred.wanted_none rfl) (by go_simp) ⟨Pred.ext_refl _ _, rfl⟩
    · intro b X hE hd hn hV
      have r2 : b.tmps[2]?.getD undef = .pointer (some ⟨w.heap.size + 1, 0, none⟩) := (hn 2 (by kernel_rfl)).trans rfl
      have q := (blk_below hE _ lB).trans bB
      exact Pred.yields_run (v := .agg #[.int .i64 256, .int .i64 0, .int .i64 0, .int .i64 0, .int .i64 0, .int .i64 0]) (Pred.wanted_none rfl) (by go_simp) ⟨Pred.ext_refl _ _, rfl⟩
    · intro b X hE hd hn hV
      have r3 : b.tmps[3]?.getD undef = .pointer (some ⟨w.heap.size + 2, 0, none⟩) := (hn 3 (by kernel_rfl)).trans rfl
      have q := (blk_below hE _ lC).trans bC
      exact Pred.yields_run (v := .agg #[.int .i64 256, .int .i64 256, .int .i64 0, .int .i64 0, .int .i64 0, .int .i64 0]) (Pred.wanted_none rfl) (by go_simp) ⟨Pred.ext_refl _ _, rfl⟩
    · intro b X hE hd hn hV
      have r15 : b.tmps[15]?.getD undef = .agg #[.int .i64 0, .int .i64 0, .int .i64 0, .int .i64 0, .int .i64 0, .int .i64 0] := hV 0 _ 15 rfl rfl (Pred.waits_near (by kernel_rfl) (by kernel_rfl))
      have r16 : b.tmps[16]?.getD undef = .agg #[.int .i64 256, .int .i64 0, .int .i64 0, .int .i64 0, .int .i64 0, .int .i64 0] := hV 1 _ 16 rfl rfl (Pred.waits_near (by kernel_rfl) (by kernel_rfl))
      have r17 : b.tmps[17]?.getD undef = .agg #[.int .i64 256, .int .i64 256, .int .i64 0, .int .i64 0, .int .i64 0, .int .i64 0] := hV 2 _ 17 rfl rfl (Pred.waits_near (by kernel_rfl) (by kernel_rfl))
      exact Pred.yields_run (v := .agg #[.int .i64 0, .int .i64 0, .int .i64 0, .int .i64 0, .int .i64 0, .int .i64 0, .int .i64 256, .int .i64 0, .int .i64 0, .int .i64 0, .int .i64 0, .int .i64 0, .int .i64 256, .int .i64 256, .int .i64 0, .int .i64 0, .int .i64 0, .int .i64 0]) (Pred.wanted_none rfl) (by go_simp) ⟨Pred.ext_refl _ _, rfl⟩
    · intro b X hE hd hn hV
      have r18 : b.tmps[18]?.getD undef = .agg #[.int .i64 0, .int .i64 0, .int .i64 0, .int .i64 0, .int .i64 0, .int .i64 0, .int .i64 256, .int .i64 0, .int .i64 0, .int .i64 0, .int .i64 0, .int .i64 0, .int .i64 256, .int .i64 256, .int .i64 0, .int .i64 0, .int .i64 0, .int .i64 0] := hV 3 _ 18 rfl rfl (Pred.waits_near (by kernel_rfl) (by kernel_rfl))
      refine Pred.yields_call (f := 18) (args := #[.agg #[.int .i64 0, .int .i64 0, .int .i64 0, .int .i64 0, .int .i64 0, .int .i64 0, .int .i64 256, .int .i64 0, .int .i64 0, .int .i64 0, .int .i64 0, .int .i64 0, .int .i64 256, .int .i64 256, .int .i64 0, .int .i64 0, .int .i64 0, .int .i64 0], .int .i64 1, .int .i64 1, .int .i64 (-1)]) (Pred.wanted_none rfl) (by go_simp) ?_
      exact (all_abc _).mono fun e w2 ⟨⟨a, c, he, ha⟩, hb⟩ => ⟨_, he, Pred.ext_below hb hE.size, a, c, rfl, ha⟩
    · intro b X hE hd hn hV
      have r1 : b.tmps[1]?.getD undef = .pointer (some ⟨w.heap.size, 0, none⟩) := (hn 1 (by kernel_rfl)).trans rfl
      have q := (blk_below hE _ lA).trans bA
      exact Pred.yields_run (v := .agg #[.int .i64 0, .int .i64 0, .int .i64 0, .int .i64 0, .int .i64 0, .int .i64 0]) (Pred.wanted_none rfl) (by go_simp) ⟨Pred.ext_refl _ _, rfl⟩
    · intro b X hE hd hn hV
      have r3 : b.tmps[3]?.getD undef = .pointer (some ⟨w.heap.size + 2, 0, none⟩) := (hn 3 (by kernel_rfl)).trans rfl
      have q := (blk_below hE _ lC).trans bC
      exact Pred.yields_run (v := .agg #[.int .i64 256, .int .i64 256, .int .i64 0, .int .i64 0, .int .i64 0, .int .i64 0]) (Pred.wanted_none rfl) (by go_simp) ⟨Pred.ext_refl _ _, rfl⟩
    · intro b X hE hd hn hV
      have r4 : b.tmps[4]?.getD undef = .pointer (some ⟨w.heap.size + 3, 0, none⟩) := (hn 4 (by kernel_rfl)).trans rfl
      have q := (blk_below hE _ lD).trans bD
      exact Pred.yields_run (v := .agg #[.int .i64 0, .int .i64 256, .int .i64 0, .int .i64 0, .int .i64 0, .int .i64 0]) (Pred.wanted_none rfl) (by go_simp) ⟨Pred.ext_refl _ _, rfl⟩
    · intro b X hE hd hn hV
      have r20 : b.tmps[20]?.getD undef = .agg #[.int .i64 0, .int .i64 0, .int .i64 0, .int .i64 0, .int .i64 0, .int .i64 0] := hV 5 _ 20 rfl rfl (Pred.waits_near (by kernel_rfl) (by kernel_rfl))
      have r21 : b.tmps[21]?.getD undef = .agg #[.int .i64 256, .int .i64 256, .int .i64 0, .int .i64 0, .int .i64 0, .int .i64 0] := hV 6 _ 21 rfl rfl (Pred.waits_near (by kernel_rfl) (by kernel_rfl))
      have r22 : b.tmps[22]?.getD undef = .agg #[.int .i64 0, .int .i64 256, .int .i64 0, .int .i64 0, .int .i64 0, .int .i64 0] := hV 7 _ 22 rfl rfl (Pred.waits_near (by kernel_rfl) (by kernel_rfl))
      exact Pred.yields_run (v := .agg #[.int .i64 0, .int .i64 0, .int .i64 0, .int .i64 0, .int .i64 0, .int .i64 0, .int .i64 256, .int .i64 256, .int .i64 0, .int .i64 0, .int .i64 0, .int .i64 0, .int .i64 0, .int .i64 256, .int .i64 0, .int .i64 0, .int .i64 0, .int .i64 0]) (Pred.wanted_none rfl) (by go_simp) ⟨Pred.ext_refl _ _, rfl⟩
    · intro b X hE hd hn hV
      have r23 : b.tmps[23]?.getD undef = .agg #[.int .i64 0, .int .i64 0, .int .i64 0, .int .i64 0, .int .i64 0, .int .i64 0, .int .i64 256, .int .i64 256, .int .i64 0, .int .i64 0, .int .i64 0, .int .i64 0, .int .i64 0, .int .i64 256, .int .i64 0, .int .i64 0, .int .i64 0, .int .i64 0] := hV 8 _ 23 rfl rfl (Pred.waits_near (by kernel_rfl) (by kernel_rfl))
      refine Pred.yields_call (f := 18) (args := #[.agg #[.int .i64 0, .int .i64 0, .int .i64 0, .int .i64 0, .int .i64 0, .int .i64 0, .int .i64 256, .int .i64 256, .int .i64 0, .int .i64 0, .int .i64 0, .int .i64 0, .int .i64 0, .int .i64 256, .int .i64 0, .int .i64 0, .int .i64 0, .int .i64 0], .int .i64 1, .int .i64 1, .int .i64 (-1)]) (Pred.wanted_none rfl) (by go_simp) ?_
      exact (all_acd _).mono fun e w2 ⟨⟨a, c, he, ha⟩, hb⟩ => ⟨_, he, Pred.ext_below hb hE.size, a, c, rfl, ha⟩
    · intro b X hE hd hn hV
      obtain ⟨ga19, ca19, r19, hr19⟩ : SH ((cutV (pA ++ pB ++ pC) 1 1 (-1)).length) ((cutV (pA ++ pB ++ pC) 1 1 (-1))) (b.tmps[19]?.getD undef) X := hV 4 _ 19 rfl rfl (Pred.waits_near (by kernel_rfl) (by kernel_rfl))
      exact Pred.yields_run (v := .slice ga19 (cutV (pA ++ pB ++ pC) 1 1 (-1)).length ca19) (Pred.wanted_none rfl) (by go_simp) ⟨Pred.ext_refl _ _, _, _, rfl, hr19⟩
    · intro b X hE hd hn hV
      obtain ⟨ga24, ca24, r24, hr24⟩ : SH ((cutV (pA ++ pC ++ pD) 1 1 (-1)).length) ((cutV (pA ++ pC ++ pD) 1 1 (-1))) (b.tmps[24]?.getD undef) X := hV 9 _ 24 rfl rfl (Pred.waits_near (by kernel_rfl) (by kernel_rfl))
      exact Pred.yields_run (v := .slice ga24 (cutV (pA ++ pC ++ pD) 1 1 (-1)).length ca24) (Pred.wanted_none rfl) (by go_simp) ⟨Pred.ext_refl _ _, _, _, rfl, hr24⟩
  intro v w2 hE hv
  have e0 : v 0 = .agg #[.int .i64 0, .int .i64 0, .int .i64 0, .int .i64 0, .int .i64 0, .int .i64 0] := hv 0 _ 15 rfl rfl
  have e1 : v 1 = .agg #[.int .i64 256, .int .i64 0, .int .i64 0, .int .i64 0, .int .i64 0, .int .i64 0] := hv 1 _ 16 rfl rfl
  have e2 : v 2 = .agg #[.int .i64 256, .int .i64 256, .int .i64 0, .int .i64 0, .int .i64 0, .int .i64 0] := hv 2 _ 17 rfl rfl
  have e3 : v 3 = .agg #[.int .i64 0, .int .i64 0, .int .i64 0, .int .i64 0, .int .i64 0, .int .i64 0, .int .i64 256, .int .i64 0, .int .i64 0, .int .i64 0, .int .i64 0, .int .i64 0, .int .i64 256, .int .i64 256, .int .i64 0, .int .i64 0, .int .i64 0, .int .i64 0] := hv 3 _ 18 rfl rfl
  obtain ⟨ga4, ca4, e4, hr4⟩ : SH ((cutV (pA ++ pB ++ pC) 1 1 (-1)).length) ((cutV (pA ++ pB ++ pC) 1 1 (-1))) (v 4) w2 := hv 4 _ 19 rfl rfl
  have e5 : v 5 = .agg #[.int .i64 0, .int .i64 0, .int .i64 0, .int .i64 0, .int .i64 0, .int .i64 0] := hv 5 _ 20 rfl rfl
  have e6 : v 6 = .agg #[.int .i64 256, .int .i64 256, .int .i64 0, .int .i64 0, .int .i64 0, .int .i64 0] := hv 6 _ 21 rfl rfl
  have e7 : v 7 = .agg #[.int .i64 0, .int .i64 256, .int .i64 0, .int .i64 0, .int .i64 0, .int .i64 0] := hv 7 _ 22 rfl rfl
  have e8 : v 8 = .agg #[.int .i64 0, .int .i64 0, .int .i64 0, .int .i64 0, .int .i64 0, .int .i64 0, .int .i64 256, .int .i64 256, .int .i64 0, .int .i64 0, .int .i64 0, .int .i64 0, .int .i64 0, .int .i64 256, .int .i64 0, .int .i64 0, .int .i64 0, .int .i64 0] := hv 8 _ 23 rfl rfl
  obtain ⟨ga9, ca9, e9, hr9⟩ : SH ((cutV (pA ++ pC ++ pD) 1 1 (-1)).length) ((cutV (pA ++ pC ++ pD) 1 1 (-1))) (v 9) w2 := hv 9 _ 24 rfl rfl
  obtain ⟨ga10, ca10, e10, hr10⟩ : SH ((cutV (pA ++ pB ++ pC) 1 1 (-1)).length) ((cutV (pA ++ pB ++ pC) 1 1 (-1))) (v 10) w2 := hv 10 _ 5 rfl rfl
  obtain ⟨ga11, ca11, e11, hr11⟩ : SH ((cutV (pA ++ pC ++ pD) 1 1 (-1)).length) ((cutV (pA ++ pC ++ pD) 1 1 (-1))) (v 11) w2 := hv 11 _ 6 rfl rfl
  simp only [Pred.putsF_cons, Pred.putsF_nil, Nat.zero_add, Nat.reduceAdd, e0, e1, e2, e3, e4, e5, e6, e7, e8, e9, e10, e11, Act.put, List.setIfInBounds_toArray, List.set_cons_zero, List.set_cons_succ]
  clear e0 e1 e2 e3 e4 e5 e6 e7 e8 e9 e10 e11 hv
  replace bA := (blk_below hE _ lA).trans bA
  replace bB := (blk_below hE _ lB).trans bB
  replace bC := (blk_below hE _ lC).trans bC
  replace bD := (blk_below hE _ lD).trans bD
  have L2 : Below w.heap.size w w2 := L1.trans (hE.mono L1.size)
  have HL := len_abc
  obtain ⟨n1, e1⟩ : ∃ n, (cutV (pA ++ pB ++ pC) 1 1 (-1)).length = n := ⟨_, rfl⟩
  obtain ⟨n2, e2⟩ : ∃ n, (cutV (pA ++ pC ++ pD) 1 1 (-1)).length = n := ⟨_, rfl⟩
  rw [e1, e2] at HL ⊢
  have hlen : ((n1 : Int) + (n2 : Int) == 1) = true := by simp; omega
  have hl1 : n1 ≤ 1 := by omega
  have hl2 : n2 ≤ 1 := by omega
  clear HL hE L1 lA lB lC lD e1 e2
  go_wp2_with fail
  refine (tu1 _).mono ?_
  rintro e w3 ⟨rfl, hb⟩
  replace bA := (blk_below hb _ (blk_lt bA)).trans bA
  replace bB := (blk_below hb _ (blk_lt bB)).trans bB
  replace bC := (blk_below hb _ (blk_lt bC)).trans bC
  replace bD := (blk_below hb _ (blk_lt bD)).trans bD
  have L3 : Below w.heap.size w w3 := L2.trans (hb.mono L2.size)
  clear hb L2
  go_upto_region 4 with (fail)
  refine Rd.name_world ?_
  intro w4 hw
  have hb : Below w3.heap.size w3 w4 := by
    rw [hw]
    repeat' (first | (with_reducible exact Below.refl _ _) | (with_reducible refine Rd.below_step ?_ (by assumption)) | (with_reducible refine Rd.below_alloc ?_ _) | (with_reducible refine Rd.below_drewN ?_ _) | (with_reducible refine Below.drew ?_) | (with_reducible refine Below.setCell ?_ ?_ _) | (with_reducible refine Rd.below_setRow ?_ ?_ _) | go_size | (simp only [World.size_alloc]; omega) | omega)
  replace bA := (blk_below hb _ (blk_lt bA)).trans bA
  replace bB := (blk_below hb _ (blk_lt bB)).trans bB
  replace bC := (blk_below hb _ (blk_lt bC)).trans bC
  replace bD := (blk_below hb _ (blk_lt bD)).trans bD
  have b4 : blk w4 w3.heap.size = some (.cells #[.int .i64 0, .int .i64 0, .int .i64 0, .int .i64 0, .int .i64 0, .int .i64 0, .int .i64 256, .int .i64 256, .int .i64 0, .int .i64 0, .int .i64 0, .int .i64 0, .int .i64 0, .int .i64 256, .int .i64 0, .int .i64 0, .int .i64 0, .int .i64 0] 24 (0, 0)) := by rw [hw]; exact blk_alloc_at _ _ _ rfl
  have L4 : Below w.heap.size w w4 := L3.trans (hb.mono L3.size)
  obtain ⟨p7, hp7⟩ : ∃ p, w3.heap.size = p := ⟨_, rfl⟩
  rw [hp7] at b4 ⊢
  clear hw hb L3 hp7
  go_wp2_with fail
  refine (tu2 _).mono ?_
  rintro e w5 ⟨rfl, hb⟩
  replace bA := (blk_below hb _ (blk_lt bA)).trans bA
  replace bB := (blk_below hb _ (blk_lt bB)).trans bB
  replace bC := (blk_below hb _ (blk_lt bC)).trans bC
  replace bD := (blk_below hb _ (blk_lt bD)).trans bD
  replace b4 := (blk_below hb _ (blk_lt b4)).trans b4
  have L5 : Below w.heap.size w w5 := L4.trans (hb.mono L4.size)
  clear hb L4
  go_upto_region 5 with (fail)
  refine Rd.name_world ?_
  intro w6 hw
  have hb : Below w5.heap.size w5 w6 := by
    rw [hw]
    repeat' (first | (with_reducible exact Below.refl _ _) | (with_reducible refine Rd.below_step ?_ (by assumption)) | (with_reducible refine Rd.below_alloc ?_ _) | (with_reducible refine Rd.below_drewN ?_ _) | (with_reducible refine Below.drew ?_) | (with_reducible refine Below.setCell ?_ ?_ _) | (with_reducible refine Rd.below_setRow ?_ ?_ _) | go_size | (simp only [World.size_alloc]; omega) | omega)
  replace bA := (blk_below hb _ (blk_lt bA)).trans bA
  replace bB := (blk_below hb _ (blk_lt bB)).trans bB
  replace bC := (blk_below hb _ (blk_lt bC)).trans bC
  replace bD := (blk_below hb _ (blk_lt bD)).trans bD
  replace b4 := (blk_below hb _ (blk_lt b4)).trans b4
  have L6 : Below w.heap.size w w6 := L5.trans (hb.mono L5.size)
  obtain ⟨p9, hp9⟩ : ∃ p, w5.heap.size = p := ⟨_, rfl⟩
  rw [hp9]
  clear hw hb L5 hp9
  have hq := eq1
  go_wp2_with fail
  refine (ar1 _).mono ?_
  rintro e w7 ⟨rfl, hb⟩
  replace bA := (blk_below hb _ (blk_lt bA)).trans bA
  replace bB := (blk_below hb _ (blk_lt bB)).trans bB
  replace bC := (blk_below hb _ (blk_lt bC)).trans bC
  replace bD := (blk_below hb _ (blk_lt bD)).trans bD
  have L7 : Below w.heap.size w w7 := L6.trans (hb.mono L6.size)
  clear hb L6 b4
  go_wp2_with fail
  refine (sd1 _).mono ?_
  rintro e w8 ⟨rfl, hb⟩
  have L8 : Below w.heap.size w w8 := L7.trans (hb.mono L7.size)
  clear hb L7
  go_wp2
  go_ret
  exact ⟨rfl, L8⟩
end Go.Proofs.Ythkfnjblmilgnaa.EdG

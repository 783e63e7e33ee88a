/-
  What a reader of bits does.
-/
import Derived.Test.YtminaamfelcajaaBitC
import Derived.Test.YtminaamfelcajaaOctA
namespace Go.Proofs.Ytminaamfelcajaa.BitD
open Go.RowKit Rd Go.Proofs.Ytminaamfelcajaa.Row OctA BitA BitB BitC
set_option linter.unusedVariables false
set_option linter.unusedSimpArgs false
set_option maxRecDepth 100000
def bitAt (zs : List Int) (j : Nat) : Nat := (zs.getD (j / 8) 0).toNat / 2 ^ (7 - j % 8) % 2
def getV (zs : List Int) (a : Nat) : Nat → Nat
  | 0 => 0
  | k + 1 => getV zs a k * 2 + bitAt zs (a + k)
theorem bitAt_le (zs : List Int) (j : Nat) : bitAt zs j ≤ 1 := by unfold bitAt; omega
theorem getV_lt (zs : List Int) (a k : Nat) : getV zs a k < 2 ^ k := by
  induction k with
  | zero => simp [getV]
  | succ k ih =>
    have := bitAt_le zs (a + k)
    rw [Nat.pow_succ]
    unfold getV
    omega
theorem left_any (q : Nat) (v : Value) (zs : List Int) (a : Nat) (w : World) (hR : RSt w q v zs a) (ha : a ≤ 8 * zs.length) (hl : zs.length ≤ 1000000) :
    Calls Try.prog 38 #[.pointer (some ⟨q, 0, none⟩)] w fun e w' => e = .returned (.int .i64 ((8 * zs.length : Int) - a)) ∧ Below w.heap.size w w' := by
  have lp := blk_lt hR.blk
  have c0 := blk_cell hR.blk 0
  have c1 := blk_cell hR.blk 1
  simp only [List.getElem?_toArray, List.getElem?_cons_zero, List.getElem?_cons_succ] at c0 c1
  obtain ⟨a2, c2, rfl, h21, h22⟩ := owns_val hR.row
  clear hR
  go_enter Try.func38, Try.ntmps38
  go_upto_region 3 with (fail)
  (refine Reg.quiet_tail 11 (by kernel_rfl) (by kernel_rfl) ?_; simp only [List.take_succ_cons, List.take_zero, List.drop_succ_cons, List.drop_zero]; (repeat go_big_quiet_step (fail)); refine wpQuiet_nil ?_)
  go_wp2
  go_ret
  refine ⟨?_, by repeat' (first | (with_reducible exact Below.refl _ _) | (with_reducible refine Rd.below_step ?_ (by assumption)) | (with_reducible refine Rd.below_alloc ?_ _) | (with_reducible refine Rd.below_drewN ?_ _) | (with_reducible refine Below.drew ?_) | (with_reducible refine Below.setCell ?_ ?_ _) | (with_reducible refine Rd.below_setRow ?_ ?_ _) | go_size | (simp only [World.size_alloc]; omega) | omega)⟩
  first | rfl | (congr 2; omega)
theorem left_nil (w : World) :
    Calls Try.prog 38 #[.pointer none] w fun e w' => e = .returned (.int .i64 0) ∧ Below w.heap.size w w' := by
  go_enter Try.func38, Try.ntmps38
  go_wp2
  go_ret
  exact ⟨rfl, Below.refl _ _⟩
theorem u8_and1 (a : Nat) (h : a < 256) : bits .and .u8 (a : Int) 1 = ((a % 2 : Nat) : Int) := by
  have := u8_and_nat a 1 h (by omega)
  rw [Nat.and_one_is_mod] at this
  exact this
set_option maxHeartbeats 2000000 in
theorem bit_any (q : Nat) (v : Value) (zs : List Int) (a j : Nat) (w : World) (hR : RSt w q v zs a) (hz : ∀ z ∈ zs, 0 ≤ z ∧ z ≤ 255) (hj : j < 8 * zs.length) (hl : zs.length ≤ 1000000) :
    Calls Try.prog 39 #[.pointer (some ⟨q, 0, none⟩), .int .i64 j] w fun e w' => e = .returned (.int .i64 (bitAt zs j : Nat)) ∧ Below w.heap.size w w' := by
  have lp := blk_lt hR.blk
  have c0 := blk_cell hR.blk 0
  simp only [List.getElem?_toArray, List.getElem?_cons_zero, List.getElem?_cons_succ] at c0
  obtain ⟨g, c2, rfl, h20, h21, h22, h23, hc⟩ := owns_pos hR.row (by omega)
  have hz8 : 0 ≤ zs.getD (j / 8) 0 ∧ zs.getD (j / 8) 0 ≤ 255 := by
    have h1 := hz _ (List.getElem_mem (show j / 8 < zs.length by omega))
    rw [List.getD_eq_getElem?_getD, List.getElem?_eq_getElem (show j / 8 < zs.length by omega), Option.getD_some]
    exact h1
  have hcz : w.cell? ⟨g, j / 8, none⟩ = some (.int .u8 (zs.getD (j / 8) 0)) := by
    rw [hc _ (by omega)]
    simp [u8s, List.getD, show j / 8 < zs.length by omega]
  have HE := Lib.hid (show bitAt zs j = (zs.getD (j / 8) 0).toNat / 2 ^ (7 - j % 8) % 2 from rfl)
  obtain ⟨z, hzz⟩ : ∃ z, z = zs.getD (j / 8) 0 := ⟨_, rfl⟩
  rw [← hzz] at hcz hz8 HE
  obtain ⟨zn, rfl⟩ := Int.eq_ofNat_of_zero_le hz8.1
  obtain ⟨i, hi⟩ : ∃ i, i = j / 8 := ⟨_, rfl⟩
  obtain ⟨r, hr⟩ : ∃ r, r = 7 - j % 8 := ⟨_, rfl⟩
  rw [← hi] at hcz
  rw [← hr] at HE
  have hi' : (j : Int) / 8 = (i : Int) := by omega
  have hr' : (7 : Int) - (j : Int) % 8 = (r : Int) := by omega
  have hil : (i : Int) < (zs.length : Int) := by omega
  have hx : bits .and .u8 ((zn : Int) / 2 ^ r) 1 = ((zn / 2 ^ r % 2 : Nat) : Int) := by
    rw [show (zn : Int) / 2 ^ r = ((zn / 2 ^ r : Nat) : Int) by simp]
    refine u8_and1 _ ?_
    have := Nat.div_le_self zn (2 ^ r)
    omega
  have HI := Lib.hid hi
  have HR := Lib.hid hr
  have HJ := Lib.hid hj
  clear hc hR hzz hi hr hj hz
  go_enter Try.func39, Try.ntmps39
  go_wp2
  go_ret
  refine ⟨?_, by repeat' (first | (with_reducible exact Below.refl _ _) | (with_reducible refine Rd.below_step ?_ (by assumption)) | (with_reducible refine Rd.below_alloc ?_ _) | (with_reducible refine Rd.below_drewN ?_ _) | (with_reducible refine Below.drew ?_) | (with_reducible refine Below.setCell ?_ ?_ _) | (with_reducible refine Rd.below_setRow ?_ ?_ _) | go_size | (simp only [World.size_alloc]; omega) | omega)⟩
  rw [HE.out, Int.toNat_natCast]
  simp
theorem i64_or_bit (a b : Nat) (ha : a < 36028797018963968) (hb : b ≤ 1) : bits .or .i64 ((a : Int) * 2) (b : Int) = ((a * 2 + b : Nat) : Int) := by
  have e : ((a : Int) * 2) = ((a * 2 : Nat) : Int) := by omega
  have hor : a * 2 ||| b = a * 2 + b := by
    have := Nat.shiftLeft_add_eq_or_of_lt (i := 1) (show b < 2 ^ 1 by omega) a
    rw [Nat.shiftLeft_eq] at this
    exact this.symm
  have o64 : ∀ x : Nat, x < 9223372036854775808 → (BitVec.ofInt 64 (x : Int)).toNat = x := fun x hx => by
    rw [BitVec.ofInt_natCast, BitVec.toNat_ofNat]; exact Nat.mod_eq_of_lt (by omega)
  rw [e]
  show IntKind.i64.wrap ((BitVec.ofInt 64 ((a * 2 : Nat) : Int) ||| BitVec.ofInt 64 (b : Int)).toNat : Int) = _
  rw [BitVec.toNat_or, o64 _ (by omega), o64 _ (by omega), hor]
  have hlt : ((a * 2 + b : Nat) : Int) < 9223372036854775808 := by omega
  have h0 : (0 : Int) ≤ ((a * 2 + b : Nat) : Int) := by omega
  generalize ((a * 2 + b : Nat) : Int) = x at hlt h0 ⊢
  simp only [IntKind.wrap, IntKind.bits, IntKind.signed, Bool.true_and]
  rw [if_neg (by simp; omega)]
  simp
  omega
/-- nothing turns but one block -/
abbrev FrQ (w w' : World) (q : Nat) : Prop := Fr w w' q (.slice none 0 0) (.slice none 0 0)
theorem FrQ.of_below {w w' : World} {q : Nat} (h : Below w.heap.size w w') : FrQ w w' q := ⟨h.os, h.tape, h.output, h.size, fun k hk _ _ => h.block k hk, .inl rfl⟩
theorem _root_.Go.Proofs.Ytminaamfelcajaa.BitC.RSt.below {w w' : World} {q a : Nat} {v : Value} {zs : List Int} (h : RSt w q v zs a) (hb : Below w.heap.size w w') : RSt w' q v zs a :=
  ⟨(hb.block q (blk_lt h.blk)).trans h.blk, keep_own h.row fun k hk => hb.block k (h.row.lt k hk).2, h.far⟩
theorem _root_.Go.Proofs.Ytminaamfelcajaa.BitC.RSt.step {w : World} {q a : Nat} {v : Value} {zs : List Int} (h : RSt w q v zs a) : RSt (w.setCell ⟨q, 1, none⟩ (.int .i64 (a + 1))) q v zs (a + 1) ∧ FrQ w (w.setCell ⟨q, 1, none⟩ (.int .i64 (a + 1))) q := by
  refine ⟨⟨blk_set _ q 1 _ _ _ h.blk, keep_own h.row fun k hk => ?_, h.far⟩, ⟨rfl, rfl, rfl, by simp, fun k hk hkq _ => ?_, .inl rfl⟩⟩
  · exact heap_setCell_other _ _ _ _ (by show k ≠ q; intro e; subst e; exact h.far hk)
  · exact heap_setCell_other _ _ _ _ (by show k ≠ q; exact hkq)
set_option maxHeartbeats 2000000 in
theorem get_ok (q : Nat) (v : Value) (zs : List Int) (a n : Nat) (w : World) (hR : RSt w q v zs a) (hz : ∀ z ∈ zs, 0 ≤ z ∧ z ≤ 255) (hn : n ≤ 32) (ha : a + n ≤ 8 * zs.length) (hl : zs.length ≤ 1000000) :
    Calls Try.prog 24 #[.pointer (some ⟨q, 0, none⟩), .int .i64 n] w fun e w' => e = .returned (.tuple #[.int .i64 (getV zs a n : Nat), .int .i64 0]) ∧ RSt w' q v zs (a + n) ∧ FrQ w w' q := by
  have hleft := left_any q v zs a w hR (by omega) hl
  have hg : ¬ ((8 * zs.length : Int) - a) < n := by omega
  have H0 := Lib.hid hR
  clear hR
  go_enter Try.func24, Try.ntmps24
  go_wp2_with (first | (go_at_call 38; refine hleft.mono ?_; rintro e w1 ⟨rfl, hb1⟩) | fail)
  clear hg hleft
  go_loopw [6, 22] (fun c i wr => ∃ k : Nat, k ≤ n ∧ i = .int .i64 k ∧ c = .int .i64 (getV zs a k : Nat) ∧ Hid (RSt wr q v zs (a + k)) ∧ Hid (FrQ w wr q)) (fun _ i _ => n - (intOf i).toNat)
  case atStart => exact ⟨0, Nat.zero_le _, rfl, rfl, H0.out.below hb1, FrQ.of_below hb1⟩
  case round =>
    obtain ⟨k, hk, rfl, rfl, H1, H2⟩ := hrel
    by_cases hlt : k < n
    · have hbit := bit_any q v zs (a + k) (a + k) wr H1.out hz (by omega) hl
      have c1 := blk_cell H1.out.blk 1
      simp only [List.getElem?_toArray, List.getElem?_cons_zero, List.getElem?_cons_succ] at c1
      have lp := blk_lt H1.out.blk
      have hV := getV_lt zs a k
      have hpw : 2 ^ k ≤ 4294967296 := Nat.le_trans (Nat.pow_le_pow_right (by decide) (show k ≤ 32 by omega)) (by decide)
      have HE := Lib.hid (show getV zs a (k + 1) = getV zs a k * 2 + bitAt zs (a + k) from rfl)
      have hb1 := bitAt_le zs (a + k)
      generalize bitAt zs (a + k) = b at hbit HE hb1
      generalize getV zs a k = u at hV HE
      have hu : u < 4294967296 := by omega
      have hor := i64_or_bit u b (by omega) hb1
      clear hV hpw
      go_wp2_with (go_at_call 39; refine hbit.mono ?_; rintro e w3 ⟨rfl, hb3⟩; have R3 := H1.out.below hb3; have d1 := blk_cell R3.blk 1; have f1 := blk_frozen R3.blk 1; have l3 := blk_lt R3.blk; simp only [List.getElem?_toArray, List.getElem?_cons_zero, List.getElem?_cons_succ] at d1; have R3H := Lib.hid R3; clear R3)
      have hT := R3H.out.step
      go_roundw
      case rel => exact ⟨k + 1, by omega, by go_num, by rw [HE.out]; simp, hT.1, (H2.out.trans (FrQ.of_below hb3)).trans hT.2⟩
      case measure => simp [intOf]; omega
    · obtain rfl : k = n := by omega
      go_wp2
      go_ret2
      exact ⟨rfl, H1.out, H2.out⟩
theorem get_arg (p : Option Addr) (n : Int) (w : World) (hn : n < 0 ∨ 32 < n) :
    Calls Try.prog 24 #[.pointer p, .int .i64 n] w fun e w' => e = .returned (.tuple #[.int .i64 0, .int .i64 1]) ∧ Below w.heap.size w w' := by
  by_cases h : n < 0
  · go_enter Try.func24, Try.ntmps24
    go_wp2
    go_ret2
    exact ⟨rfl, Below.refl _ _⟩
  · have h2 : 32 < n := by omega
    go_enter Try.func24, Try.ntmps24
    go_wp2
    go_ret2
    exact ⟨rfl, Below.refl _ _⟩
theorem get_nil (n : Int) (w : World) (hn : 0 ≤ n) (hn2 : n ≤ 32) :
    Calls Try.prog 24 #[.pointer none, .int .i64 n] w fun e w' => e = .returned (.tuple #[.int .i64 0, .int .i64 3]) ∧ Below w.heap.size w w' := by
  go_enter Try.func24, Try.ntmps24
  go_wp2
  go_ret2
  exact ⟨rfl, Below.refl _ _⟩
theorem get_short (q : Nat) (v : Value) (zs : List Int) (a : Nat) (n : Int) (w : World) (hR : RSt w q v zs a) (hn : 0 ≤ n) (hn2 : n ≤ 32) (ha0 : a ≤ 8 * zs.length) (ha : (8 * zs.length : Int) - a < n) (hl : zs.length ≤ 1000000) :
    Calls Try.prog 24 #[.pointer (some ⟨q, 0, none⟩), .int .i64 n] w fun e w' => e = .returned (.tuple #[.int .i64 0, .int .i64 3]) ∧ Below w.heap.size w w' := by
  have hleft := left_any q v zs a w hR ha0 hl
  go_enter Try.func24, Try.ntmps24
  go_wp2_with (go_at_call 38; refine hleft.mono ?_; rintro e w1 ⟨rfl, hb1⟩)
  go_ret2
  exact ⟨rfl, hb1⟩
/-- is nothing but noughts left? -/
def Noughts (zs : List Int) (a : Nat) : Prop := 8 * zs.length < a + 8 ∧ ∀ j, j < 8 * zs.length → a ≤ j → bitAt zs j = 0
theorem rest_nil (w : World) :
    Calls Try.prog 27 #[.pointer none] w fun e w' => e = .returned (.int .i64 3) ∧ Below w.heap.size w w' := by
  go_enter Try.func27, Try.ntmps27
  go_wp2
  go_ret
  exact ⟨rfl, Below.refl _ _⟩
set_option maxHeartbeats 2000000 in
theorem rest_any (q : Nat) (v : Value) (zs : List Int) (a : Nat) (w : World) (hR : RSt w q v zs a) (hz : ∀ z ∈ zs, 0 ≤ z ∧ z ≤ 255) (ha : a ≤ 8 * zs.length) (hl : zs.length ≤ 1000000) :
    Calls Try.prog 27 #[.pointer (some ⟨q, 0, none⟩)] w fun e w' => (∃ r : Int, e = .returned (.int .i64 r) ∧ (Noughts zs a ∧ r = 0 ∨ ¬ Noughts zs a ∧ r = 3)) ∧ Below w.heap.size w w' := by
  have hleft := left_any q v zs a w hR ha hl
  by_cases h8 : 8 * zs.length < a + 8
  · have hg : ¬ (8 : Int) ≤ (8 * zs.length : Int) - a := by omega
    have H0 := Lib.hid hR
    have c1 := blk_cell hR.blk 1
    simp only [List.getElem?_toArray, List.getElem?_cons_zero, List.getElem?_cons_succ] at c1
    have lp := blk_lt hR.blk
    clear hR
    go_enter Try.func27, Try.ntmps27
    go_wp2_with (first | (go_at_call 38; refine hleft.mono ?_; rintro e w1 ⟨rfl, hb1⟩; have R1 := H0.out.below hb1; have d1 := blk_cell R1.blk 1; have l1 := blk_lt R1.blk; simp only [List.getElem?_toArray, List.getElem?_cons_zero, List.getElem?_cons_succ] at d1; have R1H := Lib.hid R1; clear R1) | fail)
    clear hg hleft
    go_loopw [3] (fun i wr => ∃ k : Nat, a ≤ k ∧ k ≤ 8 * zs.length ∧ i = .int .i64 k ∧ Hid (∀ j, j < k → a ≤ j → bitAt zs j = 0) ∧ Below w.heap.size w wr) (fun i _ => 8 * zs.length - (intOf i).toNat)
    case atStart => exact ⟨a, Nat.le_refl _, ha, rfl, fun j h1 h2 => absurd h1 (by omega), hb1⟩
    case round =>
      obtain ⟨k, hk0, hk, rfl, H1, H2⟩ := hrel
      have RR := H0.out.below H2
      have e0 := blk_cell RR.blk 0
      have lr := blk_lt RR.blk
      simp only [List.getElem?_toArray, List.getElem?_cons_zero, List.getElem?_cons_succ] at e0
      obtain ⟨a2, c2, rfl, h21, h22⟩ := owns_val RR.row
      by_cases hlt : k < 8 * zs.length
      · have hlt' : (k : Int) < 8 * (zs.length : Int) := by omega
        have hbit := bit_any q _ zs a k wr RR hz hlt hl
        have hb1 := bitAt_le zs k
        by_cases hb : bitAt zs k = 1
        · rw [hb] at hbit
          clear RR
          go_wp2_with (go_at_call 39; refine hbit.mono ?_; rintro e w3 ⟨rfl, hb3⟩)
          go_ret
          exact ⟨⟨3, rfl, .inr ⟨fun h => by have := h.2 k hlt hk0; omega, rfl⟩⟩, H2.trans (hb3.mono H2.size)⟩
        · have hb0 : bitAt zs k = 0 := by omega
          rw [hb0] at hbit
          clear RR
          go_wp2_with (go_at_call 39; refine hbit.mono ?_; rintro e w3 ⟨rfl, hb3⟩)
          go_roundw
          case rel =>
            refine ⟨k + 1, by omega, by omega, by go_num, ?_, H2.trans (hb3.mono H2.size)⟩
            intro j h1 h2
            rcases Nat.lt_or_ge j k with h | h
            · exact H1.out j h h2
            · obtain rfl : j = k := by omega
              exact hb0
          case measure => simp [intOf]; omega
      · obtain rfl : k = 8 * zs.length := by omega
        have hlt' : ¬ ((8 * zs.length : Nat) : Int) < 8 * (zs.length : Int) := by omega
        clear RR
        go_wp2
        go_ret
        exact ⟨⟨0, rfl, .inl ⟨⟨h8, H1.out⟩, rfl⟩⟩, H2⟩
  · have hg : (8 : Int) ≤ (8 * zs.length : Int) - a := by omega
    clear hR
    go_enter Try.func27, Try.ntmps27
    go_wp2_with (go_at_call 38; refine hleft.mono ?_; rintro e w1 ⟨rfl, hb1⟩)
    go_ret
    exact ⟨⟨3, rfl, .inr ⟨fun h => h8 h.1, rfl⟩⟩, hb1⟩
end Go.Proofs.Ytminaamfelcajaa.BitD

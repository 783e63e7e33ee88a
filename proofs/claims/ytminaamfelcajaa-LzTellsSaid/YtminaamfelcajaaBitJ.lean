/-
  The reference's reader.
-/
import Derived.Test.YtminaamfelcajaaBitI
namespace Go.Proofs.Ytminaamfelcajaa.BitJ
open Go.RowKit Rd Go.Proofs.Ytminaamfelcajaa.Row OctA BitA BitB BitC BitD BitE BitH
set_option linter.unusedVariables false
set_option linter.unusedSimpArgs false
set_option maxRecDepth 100000
/-- the reference's reader: its block, and the bytes -/
structure SSt (w : World) (q : Nat) (a : Option Addr) (cap : Nat) (zs : List Int) (at_ : Nat) : Prop where
  blk : blk w q = some (.cells #[.slice a zs.length cap, .int .i64 at_] 60 (0, 0))
  row : Reads w 1 a zs.length (u8s zs)
  far : ∀ b o, a = some ⟨b, o, none⟩ → zs.length ≠ 0 → b ≠ q
theorem Reads.keep {w w' : World} {a : Option Addr} {n : Nat} {zs : List Int} (h : Reads w 1 a n (u8s zs)) (hs : w.heap.size ≤ w'.heap.size) (hk : ∀ b o, a = some ⟨b, o, none⟩ → n ≠ 0 → b < w.heap.size → w'.heap[b]? = w.heap[b]?) : Reads w' 1 a n (u8s zs) := by
  refine ⟨h.1, ?_⟩
  by_cases h0 : n = 0
  · exact .inl h0
  rcases h.2 with h2 | ⟨b, off, rfl, hb, hc⟩
  · exact .inl h2
  · refine .inr ⟨b, off, rfl, Nat.lt_of_lt_of_le hb hs, fun i hi => ?_⟩
    rw [← hc i hi]
    unfold World.cell?
    simp only [hk b off rfl h0 hb]
theorem SSt.below {w w' : World} {q at_ : Nat} {a : Option Addr} {cap : Nat} {zs : List Int} (h : SSt w q a cap zs at_) (hb : Below w.heap.size w w') : SSt w' q a cap zs at_ :=
  ⟨(hb.block q (blk_lt h.blk)).trans h.blk, h.row.below hb (Nat.le_refl _), h.far⟩
theorem SSt.step {w : World} {q at_ : Nat} {a : Option Addr} {cap : Nat} {zs : List Int} (h : SSt w q a cap zs at_) : SSt (w.setCell ⟨q, 1, none⟩ (.int .i64 (at_ + 1))) q a cap zs (at_ + 1) ∧ FrQ w (w.setCell ⟨q, 1, none⟩ (.int .i64 (at_ + 1))) q := by
  refine ⟨⟨blk_set _ q 1 _ _ _ h.blk, Reads.keep h.row (by simp) fun b o e h0 _ => ?_, h.far⟩, ⟨rfl, rfl, rfl, by simp, fun k hk hkq _ => ?_, .inl rfl⟩⟩
  · exact heap_setCell_other _ _ _ _ (by show b ≠ q; exact h.far b o e h0)
  · exact heap_setCell_other _ _ _ _ (by show k ≠ q; exact hkq)
theorem SSt.far_of {w w' : World} {q q2 at_ : Nat} {a : Option Addr} {cap : Nat} {zs : List Int} (h : SSt w q a cap zs at_) (hf : FrQ w w' q2) (hq : q ≠ q2) (hr : ∀ b o, a = some ⟨b, o, none⟩ → zs.length ≠ 0 → b ≠ q2) : SSt w' q a cap zs at_ :=
  ⟨(hf.block _ (blk_lt h.blk) hq (by simp [Value.ownBlock])).trans h.blk, Reads.keep h.row hf.size fun b o e h0 hb => hf.block b hb (hr b o e h0) (by simp [Value.ownBlock]), h.far⟩
theorem RSt_far {w w' : World} {q q2 at_ : Nat} {v : Value} {zs : List Int} (h : RSt w q v zs at_) (hf : FrQ w w' q2) (hq : q ≠ q2) (hr : v.ownBlock ≠ some q2) : RSt w' q v zs at_ :=
  ⟨(hf.block _ (blk_lt h.blk) hq (by simp [Value.ownBlock])).trans h.blk, keep_own h.row fun k hk => hf.block k (h.row.lt k hk).2 (fun e => hr (by rw [hk, e])) (by simp [Value.ownBlock]), h.far⟩
theorem rleft_any (q : Nat) (a : Option Addr) (cap : Nat) (zs : List Int) (at_ : Nat) (w : World) (hR : SSt w q a cap zs at_) (ha : at_ ≤ 8 * zs.length) (hl : zs.length ≤ 1000000) :
    Calls Try.prog 40 #[.pointer (some ⟨q, 0, none⟩)] w fun e w' => e = .returned (.int .i64 ((8 * zs.length : Int) - at_)) ∧ Below w.heap.size w w' := by
  have lp := blk_lt hR.blk
  have c0 := blk_cell hR.blk 0
  have c1 := blk_cell hR.blk 1
  simp only [List.getElem?_toArray, List.getElem?_cons_zero, List.getElem?_cons_succ] at c0 c1
  clear hR
  go_enter Try.func40, Try.ntmps40
  go_upto_region 1 with (fail)
  (refine Reg.quiet_tail 11 (by kernel_rfl) (by kernel_rfl) ?_; simp only [List.take_succ_cons, List.take_zero, List.drop_succ_cons, List.drop_zero]; (repeat go_big_quiet_step (fail)); refine wpQuiet_nil ?_)
  go_wp2
  go_ret
  refine ⟨?_, by repeat' (first | (with_reducible exact Below.refl _ _) | (with_reducible refine Rd.below_step ?_ (by assumption)) | (with_reducible refine Rd.below_alloc ?_ _) | (with_reducible refine Rd.below_drewN ?_ _) | (with_reducible refine Below.drew ?_) | (with_reducible refine Below.setCell ?_ ?_ _) | (with_reducible refine Rd.below_setRow ?_ ?_ _) | go_size | (simp only [World.size_alloc]; omega) | omega)⟩
  first | rfl | (congr 2; omega)
/-- the byte that a bit is in -/
theorem SSt.byte {w : World} {q at_ : Nat} {a : Option Addr} {cap : Nat} {zs : List Int} (h : SSt w q a cap zs at_) {j : Nat} (hj : j < 8 * zs.length) :
    ∃ b o, a = some ⟨b, o, none⟩ ∧ b < w.heap.size ∧ w.cell? ⟨b, o + j / 8, none⟩ = some (.int .u8 (zs.getD (j / 8) 0)) := by
  rcases h.row.2 with h0 | ⟨b, o, rfl, hb, hc⟩
  · omega
  · refine ⟨b, o, rfl, hb, ?_⟩
    rw [hc _ (by simp; omega)]
    simp [u8s, List.getD, show j / 8 < zs.length by omega]
theorem byte_b8 {zs : List Int} (hz : ∀ z ∈ zs, 0 ≤ z ∧ z ≤ 255) {j : Nat} (hj : j < 8 * zs.length) : 0 ≤ zs.getD (j / 8) 0 ∧ zs.getD (j / 8) 0 ≤ 255 := by
  have h1 := hz _ (List.getElem_mem (show j / 8 < zs.length by omega))
  rw [List.getD_eq_getElem?_getD, List.getElem?_eq_getElem (show j / 8 < zs.length by omega), Option.getD_some]
  exact h1
theorem bit_val (zn r : Nat) (h : zn ≤ 255) : bits .and .u8 ((zn : Int) / 2 ^ r) 1 = ((zn / 2 ^ r % 2 : Nat) : Int) := by
  rw [show (zn : Int) / 2 ^ r = ((zn / 2 ^ r : Nat) : Int) by simp]
  refine u8_and1 _ ?_
  have := Nat.div_le_self zn (2 ^ r)
  omega
set_option maxHeartbeats 2000000 in
theorem rget_ok (q : Nat) (a : Option Addr) (cap : Nat) (zs : List Int) (at_ n : Nat) (w : World) (hR : SSt w q a cap zs at_) (hz : ∀ z ∈ zs, 0 ≤ z ∧ z ≤ 255) (hn : n ≤ 32) (ha : at_ + n ≤ 8 * zs.length) (hl : zs.length ≤ 1000000) :
    Calls Try.prog 28 #[.pointer (some ⟨q, 0, none⟩), .int .i64 n] w fun e w' => e = .returned (.tuple #[.int .i64 (getV zs at_ n : Nat), .int .i64 0]) ∧ SSt w' q a cap zs (at_ + n) ∧ FrQ w w' q := by
  have hleft := rleft_any q a cap zs at_ w hR (by omega) hl
  have hg : ¬ ((8 * zs.length : Int) - at_) < n := by omega
  have H0 := Lib.hid hR
  clear hR
  go_enter Try.func28, Try.ntmps28
  go_wp2_with (first | (go_at_call 40; refine hleft.mono ?_; rintro e w1 ⟨rfl, hb1⟩) | fail)
  clear hg hleft
  go_loopw [6, 7] (fun c i wr => ∃ k : Nat, k ≤ n ∧ i = .int .i64 k ∧ c = .int .i64 (getV zs at_ k : Nat) ∧ Hid (SSt wr q a cap zs (at_ + k)) ∧ Hid (FrQ w wr q)) (fun _ i _ => n - (intOf i).toNat)
  case atStart => exact ⟨0, Nat.zero_le _, rfl, rfl, H0.out.below hb1, FrQ.of_below hb1⟩
  case round =>
    obtain ⟨k, hk, rfl, rfl, H1, H2⟩ := hrel
    by_cases hlt : k < n
    · have hj : at_ + k < 8 * zs.length := by omega
      obtain ⟨g, o, rfl, hgl, hcz⟩ := H1.out.byte hj
      have hz8 := byte_b8 hz hj
      have c0 := blk_cell H1.out.blk 0
      have c1 := blk_cell H1.out.blk 1
      have f1 := blk_frozen H1.out.blk 1
      simp only [List.getElem?_toArray, List.getElem?_cons_zero, List.getElem?_cons_succ] at c0 c1
      have lp := blk_lt H1.out.blk
      have hV := getV_lt zs at_ k
      have hpw : 2 ^ k ≤ 4294967296 := Nat.le_trans (Nat.pow_le_pow_right (by decide) (show k ≤ 32 by omega)) (by decide)
      have HE := Lib.hid (show getV zs at_ (k + 1) = getV zs at_ k * 2 + bitAt zs (at_ + k) from rfl)
      have HB := Lib.hid (show bitAt zs (at_ + k) = (zs.getD ((at_ + k) / 8) 0).toNat / 2 ^ (7 - (at_ + k) % 8) % 2 from rfl)
      obtain ⟨z, hzz⟩ : ∃ z, z = zs.getD ((at_ + k) / 8) 0 := ⟨_, rfl⟩
      rw [← hzz] at hcz hz8 HB
      obtain ⟨zn, rfl⟩ := Int.eq_ofNat_of_zero_le hz8.1
      obtain ⟨i, hi⟩ : ∃ i, i = (at_ + k) / 8 := ⟨_, rfl⟩
      obtain ⟨r, hr⟩ : ∃ r, r = 7 - (at_ + k) % 8 := ⟨_, rfl⟩
      rw [← hi] at hcz
      rw [← hr, show (zn : Int).toNat = zn by omega] at HB
      obtain ⟨at2, ha2⟩ : ∃ at2, at2 = at_ + k := ⟨_, rfl⟩
      rw [← ha2] at c1 hi hr hj HB HE
      have hT := H1.out.step
      rw [← ha2] at hT
      have HTT := Lib.hid hT
      have hi' : (at2 : Int) / 8 = (i : Int) := by omega
      have hr' : (7 : Int) - (at2 : Int) % 8 = (r : Int) := by omega
      have hil : (i : Int) < (zs.length : Int) := by omega
      have hx := bit_val zn r (by omega)
      have hb1 := bitAt_le zs at2
      rw [HB.out] at hb1
      generalize getV zs at_ k = u at hV HE
      have hu : u < 4294967296 := by omega
      have hor : bits .or .i64 ((u : Int) * 2) ((zn : Int) / 2 ^ r % 2) = ((u * 2 + zn / 2 ^ r % 2 : Nat) : Int) := by
        rw [show (zn : Int) / 2 ^ r % 2 = ((zn / 2 ^ r % 2 : Nat) : Int) by simp]
        exact i64_or_bit u (zn / 2 ^ r % 2) (by omega) hb1
      have HA := Lib.hid ha2
      have HI := Lib.hid hi
      have HR := Lib.hid hr
      have HJ := Lib.hid hj
      have hat : (at2 : Int) ≤ 8000000 := by omega
      have hat0 : (0 : Int) ≤ at2 := by omega
      clear hV hpw hT hzz hi hr hj ha2
      go_upto_region 9 with (fail)
      (refine Reg.quiet_tail 23 (by kernel_rfl) (by kernel_rfl) ?_; simp only [List.take_succ_cons, List.take_zero, List.drop_succ_cons, List.drop_zero]; (repeat go_big_quiet_step (fail)); refine wpQuiet_nil ?_)
      go_wp2
      go_roundw
      case rel =>
        have h1 := HTT.out.1
        have h2 := HTT.out.2
        refine ⟨k + 1, by omega, by go_num, by rw [HE.out, HB.out]; simp, ?_, ?_⟩
        · rw [← Nat.add_assoc, ← HA.out]; exact ⟨h1.blk, h1.row, h1.far⟩
        · exact H2.out.trans ⟨h2.os, h2.tape, h2.output, h2.size, h2.block, h2.row⟩
      case measure => simp [intOf]; omega
    · obtain rfl : k = n := by omega
      go_wp2
      go_ret2
      exact ⟨rfl, H1.out, H2.out⟩
theorem rget_arg (p : Option Addr) (n : Int) (w : World) (hn : n < 0 ∨ 32 < n) :
    Calls Try.prog 28 #[.pointer p, .int .i64 n] w fun e w' => e = .returned (.tuple #[.int .i64 0, .int .i64 1]) ∧ Below w.heap.size w w' := by
  by_cases h : n < 0
  · go_enter Try.func28, Try.ntmps28
    go_wp2
    go_ret2
    exact ⟨rfl, Below.refl _ _⟩
  · have h2 : 32 < n := by omega
    go_enter Try.func28, Try.ntmps28
    go_wp2
    go_ret2
    exact ⟨rfl, Below.refl _ _⟩
theorem rget_short (q : Nat) (a : Option Addr) (cap : Nat) (zs : List Int) (at_ : Nat) (n : Int) (w : World) (hR : SSt w q a cap zs at_) (hn : 0 ≤ n) (hn2 : n ≤ 32) (ha0 : at_ ≤ 8 * zs.length) (ha : (8 * zs.length : Int) - at_ < n) (hl : zs.length ≤ 1000000) :
    Calls Try.prog 28 #[.pointer (some ⟨q, 0, none⟩), .int .i64 n] w fun e w' => e = .returned (.tuple #[.int .i64 0, .int .i64 3]) ∧ Below w.heap.size w w' := by
  have hleft := rleft_any q a cap zs at_ w hR ha0 hl
  clear hR
  go_enter Try.func28, Try.ntmps28
  go_wp2_with (go_at_call 40; refine hleft.mono ?_; rintro e w1 ⟨rfl, hb1⟩)
  go_ret2
  exact ⟨rfl, hb1⟩
set_option maxHeartbeats 2000000 in
theorem rrest_any (q : Nat) (a : Option Addr) (cap : Nat) (zs : List Int) (at_ : Nat) (w : World) (hR : SSt w q a cap zs at_) (hz : ∀ z ∈ zs, 0 ≤ z ∧ z ≤ 255) (ha : at_ ≤ 8 * zs.length) (hl : zs.length ≤ 1000000) :
    Calls Try.prog 29 #[.pointer (some ⟨q, 0, none⟩)] w fun e w' => (∃ r : Int, e = .returned (.int .i64 r) ∧ (Noughts zs at_ ∧ r = 0 ∨ ¬ Noughts zs at_ ∧ r = 3)) ∧ Below w.heap.size w w' := by
  have hleft := rleft_any q a cap zs at_ w hR ha hl
  by_cases h8 : 8 * zs.length < at_ + 8
  · have hg : ¬ (8 : Int) ≤ (8 * zs.length : Int) - at_ := by omega
    have H0 := Lib.hid hR
    clear hR
    go_enter Try.func29, Try.ntmps29
    go_wp2_with (first | (go_at_call 40; refine hleft.mono ?_; rintro e w1 ⟨rfl, hb1⟩; have R1 := H0.out.below hb1; have d1 := blk_cell R1.blk 1; have l1 := blk_lt R1.blk; simp only [List.getElem?_toArray, List.getElem?_cons_zero, List.getElem?_cons_succ] at d1; have R1H := Lib.hid R1; clear R1) | fail)
    clear hg hleft
    go_loopw [4] (fun i wr => ∃ k : Nat, at_ ≤ k ∧ k ≤ 8 * zs.length ∧ i = .int .i64 k ∧ Hid (∀ j, j < k → at_ ≤ j → bitAt zs j = 0) ∧ Below w.heap.size w wr) (fun i _ => 8 * zs.length - (intOf i).toNat)
    case atStart => exact ⟨at_, Nat.le_refl _, ha, rfl, fun j h1 h2 => absurd h1 (by omega), hb1⟩
    case round =>
      obtain ⟨k, hk0, hk, rfl, H1, H2⟩ := hrel
      have RR := H0.out.below H2
      have e0 := blk_cell RR.blk 0
      have lr := blk_lt RR.blk
      simp only [List.getElem?_toArray, List.getElem?_cons_zero, List.getElem?_cons_succ] at e0
      by_cases hlt : k < 8 * zs.length
      · have hlt' : (k : Int) < 8 * (zs.length : Int) := by omega
        obtain ⟨g, o, rfl, hgl, hcz⟩ := RR.byte hlt
        have hz8 := byte_b8 hz hlt
        have HB := Lib.hid (show bitAt zs k = (zs.getD (k / 8) 0).toNat / 2 ^ (7 - k % 8) % 2 from rfl)
        obtain ⟨z, hzz⟩ : ∃ z, z = zs.getD (k / 8) 0 := ⟨_, rfl⟩
        rw [← hzz] at hcz hz8 HB
        obtain ⟨zn, rfl⟩ := Int.eq_ofNat_of_zero_le hz8.1
        obtain ⟨i, hi⟩ : ∃ i, i = k / 8 := ⟨_, rfl⟩
        obtain ⟨r, hr⟩ : ∃ r, r = 7 - k % 8 := ⟨_, rfl⟩
        rw [← hi] at hcz
        rw [← hr, show (zn : Int).toNat = zn by omega] at HB
        have hi' : (k : Int) / 8 = (i : Int) := by omega
        have hr' : (7 : Int) - (k : Int) % 8 = (r : Int) := by omega
        have hil : (i : Int) < (zs.length : Int) := by omega
        have hx := bit_val zn r (by omega)
        have hb1 := bitAt_le zs k
        have HI := Lib.hid hi
        have HR := Lib.hid hr
        clear hzz hi hr RR
        by_cases hb : bitAt zs k = 1
        · have hb2 : (zn : Int) / 2 ^ r % 2 = 1 := by
            have h1 := HB.out
            rw [hb] at h1
            rw [show (zn : Int) / 2 ^ r % 2 = ((zn / 2 ^ r % 2 : Nat) : Int) by simp, ← h1]
            rfl
          go_wp2
          go_ret
          exact ⟨⟨3, rfl, .inr ⟨fun h => by have := h.2 k hlt hk0; omega, rfl⟩⟩, H2⟩
        · have hb0 : bitAt zs k = 0 := by omega
          have hb2 : (zn : Int) / 2 ^ r % 2 = 0 := by
            have h1 := HB.out
            rw [hb0] at h1
            rw [show (zn : Int) / 2 ^ r % 2 = ((zn / 2 ^ r % 2 : Nat) : Int) by simp, ← h1]
            rfl
          go_wp2
          go_roundw
          case rel =>
            refine ⟨k + 1, by omega, by omega, by go_num, ?_, H2⟩
            intro j h1 h2
            rcases Nat.lt_or_ge j k with h | h
            · exact H1.out j h h2
            · obtain rfl : j = k := by omega
              exact hb0
          case measure => simp [intOf]; omega
      · obtain rfl : k = 8 * zs.length := by omega
        have hlt' : ¬ ((8 * zs.length : Nat) : Int) < 8 * (zs.length : Int) := by omega
        clear RR
        go_wp2
        go_ret
        exact ⟨⟨0, rfl, .inl ⟨⟨h8, H1.out⟩, rfl⟩⟩, H2⟩
  · have hg : (8 : Int) ≤ (8 * zs.length : Int) - at_ := by omega
    clear hR
    go_enter Try.func29, Try.ntmps29
    go_wp2_with (go_at_call 40; refine hleft.mono ?_; rintro e w1 ⟨rfl, hb1⟩)
    go_ret
    exact ⟨⟨3, rfl, .inr ⟨fun h => h8 h.1, rfl⟩⟩, hb1⟩
end Go.Proofs.Ytminaamfelcajaa.BitJ

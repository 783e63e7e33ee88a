/-
  The reference's bits: what Put refuses, and Bytes.
-/
import Derived.Test.YtminaamfelcajaaBitH
import Derived.Test.YtminaamfelcajaaMk
namespace Go.Proofs.Ytminaamfelcajaa.BitI
open Go.RowKit Rd Go.Proofs.Ytminaamfelcajaa.Row OctA BitA BitB BitC BitD BitE BitH
set_option linter.unusedVariables false
set_option linter.unusedSimpArgs false
set_option maxRecDepth 100000
set_option maxHeartbeats 2000000 in
theorem rput_bad (pt : Option Addr) (x n : Int) (w : World) (hb : n < 0 ∨ 32 < n ∨ x < 0 ∨ (2 : Int) ^ n.toNat ≤ x) :
    Calls Try.prog 20 #[.pointer pt, .int .i64 x, .int .i64 n] w fun e w' => e = .returned (.int .i64 1) ∧ Below w.heap.size w w' := by
  by_cases h1 : n < 0
  · go_enter Try.func20, Try.ntmps20
    go_wp2
    go_ret
    exact ⟨rfl, Below.refl _ _⟩
  by_cases h2 : 32 < n
  · go_enter Try.func20, Try.ntmps20
    go_wp2
    go_ret
    exact ⟨rfl, Below.refl _ _⟩
  by_cases h3 : x < 0
  · go_enter Try.func20, Try.ntmps20
    go_wp2
    go_ret
    exact ⟨rfl, Below.refl _ _⟩
  obtain ⟨m, rfl⟩ := Int.eq_ofNat_of_zero_le (show 0 ≤ n by omega)
  have hx : (2 : Int) ^ m ≤ x := by rcases hb with h | h | h | h <;> first | omega | simpa using h
  have hp0 : (0 : Int) < 2 ^ m := by
    have h := Int.ofNat_lt.2 (Nat.two_pow_pos m)
    rw [Int.natCast_pow] at h
    exact h
  have hq : ¬ x / 2 ^ m = 0 := by
    intro h
    have := Int.le_ediv_of_mul_le hp0 (show 1 * 2 ^ m ≤ x by omega)
    omega
  clear hb
  go_enter Try.func20, Try.ntmps20
  go_wp2
  go_ret
  exact ⟨rfl, Below.refl _ _⟩
def part (l : List Nat) (k : Nat) : List Int := (List.range ((l.length + 7) / 8)).map (fun i => (byteAt (l.take k) i : Int))
theorem part_length (l : List Nat) (k : Nat) : (part l k).length = (l.length + 7) / 8 := by simp [part]
theorem part_all (l : List Nat) : part l l.length = pack l := by unfold part pack; rw [List.take_length]
theorem part_zero (l : List Nat) : part l 0 = List.replicate ((l.length + 7) / 8) 0 := by
  unfold part
  rw [List.take_zero]
  refine List.ext_getElem (by simp) fun i h1 h2 => ?_
  simp [byteAt]
theorem part_b8 {l : List Nat} (h : Bits l) (k : Nat) : ∀ z ∈ part l k, 0 ≤ z ∧ z ≤ 255 := by
  intro z hz
  unfold part at hz
  obtain ⟨i, -, rfl⟩ := List.mem_map.1 hz
  have := byteAt_le (h.take k) i
  omega
theorem part_getD {l : List Nat} {k i : Nat} (h : i < (l.length + 7) / 8) : (part l k).getD i 0 = (byteAt (l.take k) i : Int) := by
  unfold part
  simp [List.getD, h]
theorem part_step {l : List Nat} (h : Bits l) {k : Nat} (hk : k < l.length) : part l (k + 1) = (part l k).set (k / 8) (orB ((part l k).getD (k / 8) 0).toNat (l.getD k 0) k : Nat) := by
  have hl : (l.take k).length = k := by rw [List.length_take]; omega
  have hg : l.getD k 0 = l[k] := by simp [List.getD, hk]
  have ht : l.take (k + 1) = l.take k ++ [l.getD k 0] := by rw [List.take_add_one, List.getElem?_eq_getElem hk, hg]; rfl
  have hb := getD_bit h k
  have hp := byte_push (h.take k) hb
  rw [hl] at hp
  rw [part_getD (by omega), Int.toNat_natCast, hp]
  unfold part
  refine List.ext_getElem (by simp) fun i h1 h2 => ?_
  simp only [List.getElem_set, List.getElem_map, List.getElem_range]
  split
  · rename_i e; rw [ht, e]
  · rename_i e; rw [ht, byte_push_else (by rw [hl]; exact Ne.symm e)]
set_option maxHeartbeats 2000000 in
theorem rbytes_any (p : Nat) (v : Value) (l : List Nat) (w : World) (hW : RB w p v l) (hn : l.length ≤ 100000) :
    Calls Try.prog 22 #[.pointer (some ⟨p, 0, none⟩)] w fun e w' => ∃ v', e = .returned v' ∧ w'.ownsRow w.heap.size 5 1 v' (pack l).length (u8s (pack l)) ∧ Below w.heap.size w w' := by
  have lp := blk_lt hW.1.1
  have c0 := blk_cell hW.1.1 0
  simp only [List.getElem?_toArray, List.getElem?_cons_zero, List.getElem?_cons_succ] at c0
  obtain ⟨a0, cap0, rfl, h1, h2⟩ := owns_val hW.1.2
  have H0 := Lib.hid hW
  clear hW
  obtain ⟨N, hN⟩ : ∃ N, N = (l.length + 7) / 8 := ⟨_, rfl⟩
  have hN' : ((l.length : Int) + 7) / 8 = (N : Int) := by omega
  have hNb : N ≤ 20000 := by omega
  have HN := Lib.hid hN
  clear hN
  have hmk := Mk.run_make_u8 N (by omega) w
  have hown : (w.alloc (.cells (cs .u8 (List.replicate N 0)) 5)).ownsRow w.heap.size 5 1 (.slice (some ⟨w.heap.size, 0, none⟩) N N) N (u8s (part l 0)) := by
    rw [part_zero, ← HN.out]
    refine ⟨by simp, .inr ⟨w.heap.size, N, _, rfl, Nat.le_refl _, heap_alloc_new w _, Nat.le_refl _, by unfold maxLen; omega, by simp [cs], ?_⟩⟩
    simp [cs, u8s]
  go_enter Try.func22, Try.ntmps22
  go_wp2_with fail
  clear hmk c0
  go_loopw [4] (fun i wr => ∃ k : Nat, k ≤ l.length ∧ i = .int .i64 k ∧ Hid (wr.ownsRow w.heap.size 5 1 (.slice (some ⟨w.heap.size, 0, none⟩) N N) N (u8s (part l k))) ∧ Below w.heap.size w wr) (fun i _ => l.length - (intOf i).toNat)
  case atStart => exact ⟨0, Nat.zero_le _, rfl, hown, by repeat' (first | (with_reducible exact Below.refl _ _) | (with_reducible refine Rd.below_step ?_ (by assumption)) | (with_reducible refine Rd.below_alloc ?_ _) | (with_reducible refine Rd.below_drewN ?_ _) | (with_reducible refine Below.drew ?_) | (with_reducible refine Below.setCell ?_ ?_ _) | (with_reducible refine Rd.below_setRow ?_ ?_ _) | go_size | (simp only [World.size_alloc]; omega) | omega)⟩
  case round =>
    obtain ⟨k, hk, rfl, HO, hb⟩ := hrel
    have HB := RB.below H0.out hb
    have lw := blk_lt HB.1.1
    have c0 := blk_cell HB.1.1 0
    simp only [List.getElem?_toArray, List.getElem?_cons_zero, List.getElem?_cons_succ] at c0
    by_cases hlt : k < l.length
    · have hlt' : (k : Int) < (l.length : Int) := by omega
      have hNo := HN.out
      have hq8 : k / 8 < N := by omega
      have hP := part_b8 HB.2 k
      have hpl := part_length l k
      have hz8 : 0 ≤ (part l k).getD (k / 8) 0 ∧ (part l k).getD (k / 8) 0 ≤ 255 := by
        have h1 := hP _ (List.getElem_mem (show k / 8 < (part l k).length by omega))
        rw [List.getD_eq_getElem?_getD, List.getElem?_eq_getElem (show k / 8 < (part l k).length by omega), Option.getD_some]
        exact h1
      have hcz : wr.cell? ⟨w.heap.size, k / 8, none⟩ = some (.int .u8 ((part l k).getD (k / 8) 0)) := by
        obtain ⟨g', cap', e, h1, h2, h3, h4, h5⟩ := owns_pos HO.out (by omega)
        cases e
        rw [h5 _ (by omega)]
        simp [u8s, List.getD, show k / 8 < (part l k).length by omega]
      have hfr : wr.frozen? ⟨w.heap.size, k / 8, none⟩ = false := by
        rcases HO.out.2 with ⟨h1, h2⟩ | ⟨g', cap', cur, e, h1, h2, -⟩
        · cases h1
        · cases e; exact blk_frozen h2 _
      have hlw : w.heap.size < wr.heap.size := by
        rcases HO.out.2 with ⟨h1, h2⟩ | ⟨g', cap', cur, e, h1, h2, -⟩
        · cases h1
        · cases e; exact blk_lt h2
      obtain ⟨g0, capg, eg, hg1, hg2, hg3, hg4, hcb⟩ := owns_pos HB.1.2 (by omega)
      have hcb2 : wr.cell? ⟨g0, k, none⟩ = some (.int .u8 (l.getD k 0 : Nat)) := by
        rw [hcb _ (by omega)]
        simp [u8s, bl, List.getD, hlt]
      have hb1 := getD_bit HB.2 k
      have hst := Lib.hid (part_step HB.2 hlt)
      cases eg
      obtain ⟨bt, hbt⟩ : ∃ bt, bt = l.getD k 0 := ⟨_, rfl⟩
      obtain ⟨z, hzz⟩ : ∃ z, z = (part l k).getD (k / 8) 0 := ⟨_, rfl⟩
      rw [← hbt] at hcb2 hb1 hst
      rw [← hzz] at hcz hz8 hst
      obtain ⟨zn, rfl⟩ := Int.eq_ofNat_of_zero_le hz8.1
      obtain ⟨q, hq⟩ : ∃ q, q = k / 8 := ⟨_, rfl⟩
      obtain ⟨r, hr⟩ : ∃ r, r = 7 - k % 8 := ⟨_, rfl⟩
      rw [← hq] at hcz hfr hq8 hst
      have hq' : (k : Int) / 8 = (q : Int) := by omega
      have hr' : (7 : Int) - (k : Int) % 8 = (r : Int) := by omega
      have hql : (q : Int) < (N : Int) := by omega
      have hr7 : r ≤ 7 := by omega
      have hpw : bt * 2 ^ r < 256 := by
        have : 2 ^ r ≤ 2 ^ 7 := Nat.pow_le_pow_right (by decide) hr7
        have h3 : bt * 2 ^ r ≤ 1 * 2 ^ 7 := Nat.mul_le_mul hb1 this
        omega
      have hx : bits .or .u8 (zn : Int) ((bt : Int) * 2 ^ r % 256) = (orB zn bt k : Nat) := by
        have h0 := u8_or_nat zn (bt * 2 ^ r) (by omega) hpw
        have h4 : (bt : Int) * 2 ^ r % 256 = ((bt * 2 ^ r : Nat) : Int) := by
          rw [Int.emod_eq_of_lt (by rw [show (bt : Int) * 2 ^ r = ((bt * 2 ^ r : Nat) : Int) by simp]; omega) (by rw [show (bt : Int) * 2 ^ r = ((bt * 2 ^ r : Nat) : Int) by simp]; omega)]
          simp
        rw [h4]
        unfold orB
        rw [← hr]
        simpa using h0
      have HQ := Lib.hid hq
      have HR := Lib.hid hr
      have HP := Lib.hid hpl
      have HX := Lib.hid hx
      clear hbt hzz hq hr hP hpl HB hcb hx hpw hNo hg1 hg3 hg4
      go_wp2
      (refine Reg.quiet_tail 21 (by kernel_rfl) (by kernel_rfl) ?_; simp only [List.take_succ_cons, List.take_zero, List.drop_succ_cons, List.drop_zero]; (repeat go_big_quiet_step (fail)); refine wpQuiet_nil ?_)
      go_wp2
      rw [HX.out]
      go_roundw
      case rel =>
        refine ⟨k + 1, by omega, by go_num, ?_, by repeat' (first | (with_reducible exact Below.refl _ _) | (with_reducible refine Rd.below_step ?_ (by assumption)) | (with_reducible refine Rd.below_alloc ?_ _) | (with_reducible refine Rd.below_drewN ?_ _) | (with_reducible refine Below.drew ?_) | (with_reducible refine Below.setCell ?_ ?_ _) | (with_reducible refine Rd.below_setRow ?_ ?_ _) | go_size | (simp only [World.size_alloc]; omega) | omega)⟩
        have h9 := set_own (x := (orB zn bt k : Nat)) HO.out hq8
        rw [show (zn : Int).toNat = zn by omega] at hst
        rw [hst.out]
        exact h9
      case measure => simp [intOf]; omega
    · obtain rfl : k = l.length := by omega
      have h3 := HO.out
      rw [part_all] at h3
      clear HB
      go_wp2
      go_ret
      refine ⟨_, rfl, ?_, hb⟩
      rw [pack_length, ← HN.out]
      exact h3
end Go.Proofs.Ytminaamfelcajaa.BitI

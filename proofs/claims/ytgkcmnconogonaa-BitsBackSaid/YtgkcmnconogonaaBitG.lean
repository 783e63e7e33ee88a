/-
  The law of package bits: what was put is got.
-/
import Derived.Test.YtgkcmnconogonaaBitE
import Derived.Test.YtgkcmnconogonaaInts
import Derived.Test.YtgkcmnconogonaaAlike
import Derived.BigQuiet
namespace Go.Proofs.Ytgkcmnconogonaa.BitG
open Go.RowKit Rd Go.Proofs.Ytgkcmnconogonaa.Row OctA BitA BitB BitC BitD BitE Alk
set_option linter.unusedVariables false
set_option linter.unusedSimpArgs false
set_option maxRecDepth 100000
/-- a number's size, and the number -/
def szOf (zs : List Int) (i : Nat) : Nat := (zs.getD (2 * i + 1) 0 % 33).toNat
def valOf (zs : List Int) (i : Nat) : Nat := (zs.getD (2 * i) 0 % 2 ^ szOf zs i).toNat
def allL (zs : List Int) (k : Nat) : List Nat := (List.range k).flatMap (fun i => putL (valOf zs i) (szOf zs i))
theorem szOf_le (zs : List Int) (i : Nat) : szOf zs i ≤ 32 := by unfold szOf; omega
theorem two_pow_cast (n : Nat) : ((2 ^ n : Nat) : Int) = 2 ^ n := by simp
theorem valOf_cast (zs : List Int) (i : Nat) : ((valOf zs i : Nat) : Int) = zs.getD (2 * i) 0 % 2 ^ szOf zs i := by
  have hp : (0 : Int) < 2 ^ szOf zs i := by rw [← two_pow_cast]; exact Int.ofNat_lt.2 (Nat.two_pow_pos _)
  unfold valOf
  exact Int.toNat_of_nonneg (Int.emod_nonneg _ (by omega))
theorem valOf_lt (zs : List Int) (i : Nat) : valOf zs i < 2 ^ szOf zs i := by
  have hp : (0 : Int) < 2 ^ szOf zs i := by rw [← two_pow_cast]; exact Int.ofNat_lt.2 (Nat.two_pow_pos _)
  have h := Int.emod_lt_of_pos (zs.getD (2 * i) 0) hp
  rw [← valOf_cast, ← two_pow_cast] at h
  exact Int.ofNat_lt.1 h
theorem allL_succ (zs : List Int) (k : Nat) : allL zs (k + 1) = allL zs k ++ putL (valOf zs k) (szOf zs k) := by
  unfold allL
  rw [List.range_succ, List.flatMap_append]
  simp
theorem allL_len (zs : List Int) (k : Nat) : (allL zs k).length ≤ 32 * k := by
  induction k with
  | zero => simp [allL]
  | succ k ih =>
    have := szOf_le zs k
    rw [allL_succ, List.length_append, putL_length]
    omega
theorem allL_bits (zs : List Int) (k : Nat) : Bits (allL zs k) := by
  intro b hb
  unfold allL at hb
  obtain ⟨i, -, h⟩ := List.mem_flatMap.1 hb
  exact putL_bits _ _ b h
theorem getD_app {l m : List Nat} {i : Nat} (h : i < l.length) : (l ++ m).getD i 0 = l.getD i 0 := by
  simp only [List.getD_eq_getElem?_getD]
  rw [List.getElem?_append_left h]
theorem getD_app2 {l m : List Nat} {i : Nat} : (l ++ m).getD (l.length + i) 0 = m.getD i 0 := by
  simp only [List.getD_eq_getElem?_getD]
  rw [List.getElem?_append_right (by omega), Nat.add_sub_cancel_left]
theorem allL_at (zs : List Int) (m n j : Nat) (h : m ≤ n) (hj : j < (allL zs m).length) : (allL zs n).getD j 0 = (allL zs m).getD j 0 := by
  induction n with
  | zero =>
    obtain rfl : m = 0 := by omega
    rfl
  | succ n ih =>
    by_cases e : m = n + 1
    · subst e; rfl
    · have h1 := ih (by omega)
      rw [← h1, allL_succ]
      refine getD_app ?_
      have : ∀ d, (allL zs m).length ≤ (allL zs (m + d)).length := by
        intro d
        induction d with
        | zero => exact Nat.le_refl _
        | succ d ih2 =>
          rw [show m + (d + 1) = m + d + 1 by omega, allL_succ, List.length_append]
          omega
      have h3 := this (n - m)
      rw [show m + (n - m) = n by omega] at h3
      omega
theorem allL_mono (zs : List Int) (m d : Nat) : (allL zs m).length ≤ (allL zs (m + d)).length := by
  induction d with
  | zero => exact Nat.le_refl _
  | succ d ih =>
    rw [show m + (d + 1) = m + d + 1 by omega, allL_succ, List.length_append]
    omega
theorem bit_split (a j : Nat) (h : j < 8) (z : Nat) : True := trivial
theorem bitAt_pack {l : List Nat} (hl : Bits l) (j : Nat) (hj : j < 8 * (pack l).length) : bitAt (pack l) j = l.getD j 0 := by
  rw [pack_length] at hj
  have h1 : (pack l).getD (j / 8) 0 = byteAt l (j / 8) := by
    unfold pack
    simp [List.getD, show j / 8 < (l.length + 7) / 8 by omega]
  unfold bitAt
  rw [h1, Int.toNat_natCast]
  obtain ⟨i, hi⟩ : ∃ i, i = j / 8 := ⟨_, rfl⟩
  obtain ⟨r, hr⟩ : ∃ r, r = j % 8 := ⟨_, rfl⟩
  rw [← hi, ← hr, show j = 8 * i + r by omega]
  have hr8 : r < 8 := by omega
  have b0 := getD_bit hl (8 * i)
  have b1 := getD_bit hl (8 * i + 1)
  have b2 := getD_bit hl (8 * i + 2)
  have b3 := getD_bit hl (8 * i + 3)
  have b4 := getD_bit hl (8 * i + 4)
  have b5 := getD_bit hl (8 * i + 5)
  have b6 := getD_bit hl (8 * i + 6)
  have b7 := getD_bit hl (8 * i + 7)
  unfold byteAt
  rcases (show r = 0 ∨ r = 1 ∨ r = 2 ∨ r = 3 ∨ r = 4 ∨ r = 5 ∨ r = 6 ∨ r = 7 by omega) with rfl | rfl | rfl | rfl | rfl | rfl | rfl | rfl <;> simp only [Nat.add_zero, Nat.sub_zero, Nat.reduceSub, Nat.reducePow] <;> omega
theorem getV_put {zs : List Int} {a x n : Nat} (hx : x < 2 ^ n) (h : ∀ j, j < n → bitAt zs (a + j) = x / 2 ^ (n - 1 - j) % 2) (k : Nat) (hk : k ≤ n) : getV zs a k = x / 2 ^ (n - k) := by
  induction k with
  | zero => rw [Nat.sub_zero, Nat.div_eq_of_lt hx]; rfl
  | succ k ih =>
    unfold getV
    rw [ih (by omega), h k (by omega), show n - k = (n - (k + 1)) + 1 by omega, Nat.pow_succ, ← Nat.div_div_eq_div_mul, show n - 1 - k = n - (k + 1) by omega]
    omega
theorem putL_at {x n j : Nat} (h : j < n) : (putL x n).getD j 0 = x / 2 ^ (n - 1 - j) % 2 := by
  simp [putL, List.getD, h]
/-- what is got is what was put -/
theorem got (zs : List Int) (k n : Nat) (h : k < n) : getV (pack (allL zs n)) (allL zs k).length (szOf zs k) = valOf zs k := by
  have hm := allL_mono zs (k + 1) (n - (k + 1))
  rw [show k + 1 + (n - (k + 1)) = n by omega] at hm
  have hs := allL_succ zs k
  have hlen : (allL zs (k + 1)).length = (allL zs k).length + szOf zs k := by rw [hs, List.length_append, putL_length]
  have hp := pack_length (allL zs n)
  rw [getV_put (valOf_lt zs k) (fun j hj => ?_) _ (Nat.le_refl _), Nat.sub_self, Nat.pow_zero, Nat.div_one]
  rw [bitAt_pack (allL_bits zs n) _ (by omega), allL_at zs (k + 1) n _ (by omega) (by omega), hs, getD_app2, putL_at hj]
theorem fits_all (zs : List Int) (k n : Nat) (h : k < n) : (allL zs k).length + szOf zs k ≤ 8 * (pack (allL zs n)).length := by
  have hm := allL_mono zs (k + 1) (n - (k + 1))
  rw [show k + 1 + (n - (k + 1)) = n by omega] at hm
  have hs := allL_succ zs k
  have hlen : (allL zs (k + 1)).length = (allL zs k).length + szOf zs k := by rw [hs, List.length_append, putL_length]
  have hp := pack_length (allL zs n)
  omega
theorem noughts {l : List Nat} (hl : Bits l) : Noughts (pack l) l.length := by
  have hp := pack_length l
  refine ⟨by omega, fun j hj ha => ?_⟩
  rw [bitAt_pack hl j hj, getD_out ha]
theorem pow_le (n : Nat) (h : n ≤ 32) : (2 : Int) ^ n ≤ 4294967296 ∧ (1 : Int) ≤ 2 ^ n := by
  have : 2 ^ n ≤ 4294967296 := Nat.le_trans (Nat.pow_le_pow_right (by decide) h) (by decide)
  have h1 := Int.ofNat_le.2 this
  have h2 := Int.ofNat_lt.2 (Nat.two_pow_pos n)
  rw [two_pow_cast] at h1 h2
  exact ⟨h1, by omega⟩
set_option maxHeartbeats 4000000 in
theorem BitsBack_walk (a0 : Option Addr) (len0 cap0 : Nat) (x0 : List (List Value)) (w : World) (w0 : Flat.IsRows [some .i64, some .i64] w a0 len0 cap0 x0) :
    Calls Try.prog 4 #[.slice a0 len0 cap0] w fun e w' => e = .returned (.bool true) ∧ Below w.heap.size w w' := by
  obtain ⟨zs, hzl, hz, hR, hlc, hcm, -⟩ := Ints.rows_row (s := 2) (by omega) w0
  clear w0
  by_cases hbig : 80 < len0
  · have hbig2 : (80 : Int) < (len0 : Int) := by omega
    clear hzl
    go_enter Try.func4, Try.ntmps4
    go_wp2_with (go_at_call 6; refine (awake_any _).mono ?_; rintro e w3 ⟨rfl, hb⟩)
    go_ret
    exact ⟨rfl, hb⟩
  have hsm : ¬ (80 : Int) < (len0 : Int) := by omega
  have HZ := Lib.hid hz
  have HRD := Lib.hid hR
  have HZL := Lib.hid hzl
  clear hz hR hzl
  go_enter Try.func4, Try.ntmps4
  go_wp2_with fail
  go_loopw [4, 5] (fun c i wr => ∃ k : Nat, k ≤ len0 ∧ i = .int .i64 k ∧ c = .int .i64 ((allL zs k).length : Nat) ∧ ∃ v, Hid (Wr wr w.heap.size v (allL zs k)) ∧ Below w.heap.size w wr) (fun _ i _ => len0 - (intOf i).toNat)
  case atStart => exact ⟨0, Nat.zero_le _, rfl, rfl, _, wr_new w, by repeat' (first | (with_reducible exact Below.refl _ _) | (with_reducible refine Rd.below_step ?_ (by assumption)) | (with_reducible refine Rd.below_alloc ?_ _) | (with_reducible refine Rd.below_drewN ?_ _) | (with_reducible refine Below.drew ?_) | (with_reducible refine Below.setCell ?_ ?_ _) | (with_reducible refine Rd.below_setRow ?_ ?_ _) | go_size | (simp only [World.size_alloc]; omega) | omega)⟩
  case round =>
    obtain ⟨k, hk, rfl, rfl, v, HT, hb⟩ := hrel
    by_cases hlt : k < len0
    · have hlt' : (k : Int) < (len0 : Int) := by omega
      have hzl := HZL.out
      obtain ⟨ab, ao, rfl, hab, hac⟩ := Ints.cell_of HRD.out (k := 2 * k) (by omega) (by omega)
      have cx : w.cell? ⟨ab, ao + k * 2, none⟩ = some (.int .i64 (zs.getD (2 * k) 0)) := by rw [show ao + k * 2 = ao + 2 * k by omega]; exact hac _ (by omega)
      have cy : w.cell? ⟨ab, ao + k * 2 + 1, none⟩ = some (.int .i64 (zs.getD (2 * k + 1) 0)) := by rw [show ao + k * 2 + 1 = ao + (2 * k + 1) by omega]; exact hac _ (by omega)
      clear hac hzl
      have dx := (hb.cell (p := ⟨ab, ao + k * 2, none⟩) hab).trans cx
      have dy := (hb.cell (p := ⟨ab, ao + k * 2 + 1, none⟩) hab).trans cy
      have ix := Ints.getD_in HZ.out (2 * k)
      have iy := Ints.getD_in HZ.out (2 * k + 1)
      have hn32 := szOf_le zs k
      have HS := allL_succ zs k
      have hll := allL_len zs k
      have hvl := valOf_lt zs k
      have hyn : zs.getD (2 * k + 1) 0 % 33 = ((szOf zs k : Nat) : Int) := by unfold szOf; omega
      have hxn := (valOf_cast zs k).symm
      obtain ⟨x, hx⟩ : ∃ x, x = zs.getD (2 * k) 0 := ⟨_, rfl⟩
      obtain ⟨y, hy⟩ : ∃ y, y = zs.getD (2 * k + 1) 0 := ⟨_, rfl⟩
      rw [← hx] at dx ix hxn
      rw [← hy] at dy iy hyn
      obtain ⟨n, hn⟩ : ∃ n, n = szOf zs k := ⟨_, rfl⟩
      obtain ⟨u, hu⟩ : ∃ u, u = valOf zs k := ⟨_, rfl⟩
      rw [← hn] at hn32 HS hvl hyn hxn
      rw [← hu] at HS hvl hxn
      obtain ⟨ll, hl0⟩ : ∃ ll, ll = allL zs k := ⟨_, rfl⟩
      rw [← hl0] at HT HS hll
      have hlen := congrArg List.length HS
      rw [List.length_append, putL_length] at hlen
      have HSH := Lib.hid HS
      have HLEN := Lib.hid hlen
      clear HS hn hu hx hy cx cy hlen
      have hpw := pow_le n hn32
      have hll2 : ll.length ≤ 2560 := by omega
      rw [← hl0]
      clear hl0 hll
      go_wp2_with fail
      refine (round_any y 33 _ iy.1 iy.2 (by decide) (by decide)).mono ?_
      rintro e wq ⟨rfl, rfl⟩
      rw [hyn]
      go_upto_region 9 with (fail)
      have gx := Go.cell_regrown dx
      (refine Reg.below_tail 10 (by kernel_rfl) (by kernel_rfl) ?_; simp only [List.take_succ_cons, List.take_zero, List.drop_succ_cons, List.drop_zero]; (repeat (go_big_quiet_step ((exact Calls.regrown_of ((round_any x (2 ^ n) _ ix.1 ix.2 hpw.2 (by omega)).mono fun e w' ⟨he, hw⟩ => ⟨he.trans (by rw [hxn]), by rw [← hw]; exact Below.refl _ _⟩))))); refine wpQuiet_nil ?_)
      intro U hU
      have KU := Rd.below_of_regrown hU
      clear hU gx
      have WU := Wr.below HT.out KU
      have LU : Below w.heap.size w U := hb.trans (KU.mono hb.size)
      have hc := put_ok w.heap.size v ll u n U WU hn32 hvl (by omega)
      go_wp2_with (go_at_call 7; refine hc.mono ?_; rintro e w3 ⟨v3, rfl, W3, F3⟩)
      have L3 : Below w.heap.size w w3 := LU.trans (FrW.below F3 WU (Nat.le_refl _))
      go_roundw
      case rel => exact ⟨k + 1, by omega, by go_num, by rw [HLEN.out]; go_num, v3, by rw [HSH.out]; exact W3, L3⟩
      case measure => simp [intOf]; omega
    · obtain rfl : k = len0 := by omega
      have hll := allL_len zs k
      have hbits := allL_bits zs k
      have hpk := pack_length (allL zs k)
      have WW := HT.out
      have HPK := Lib.hid hpk
      have HLL := Lib.hid hll
      clear hpk hll HT
      go_wp2_with fail
      refine (bytes_any _ _ _ _ WW (by have := HLL.out; omega)).mono ?_
      rintro e w1 ⟨v1, rfl, H1, b1⟩
      have W1 := Wr.below WW b1
      have L1 : Below w.heap.size w w1 := hb.trans (b1.mono hb.size)
      obtain ⟨a1, c1, rfl, h11, h12⟩ := owns_val H1
      have R1 := Reads.of_owns H1
      clear WW hb H1 b1
      go_wp2_with fail
      refine (read_any _ _ _ _ _ R1 (by have := HLL.out; have := HPK.out; omega)).mono ?_
      rintro e w2 ⟨q, v2, rfl, hq, R2, hr2, b2⟩
      have W2 := Wr.below W1 b2
      have L2 : Below w.heap.size w w2 := L1.trans (b2.mono L1.size)
      have hqw : w.heap.size ≤ q := Nat.le_trans L1.size hq
      clear W1 R1 b2 hq L1
      have hll2 : ((allL zs k).length : Int) ≤ 2560 := by have := HLL.out; omega
      have hp8 : (((pack (allL zs k)).length : Nat) : Int) = (((allL zs k).length : Nat) + 7) / 8 := by have := HPK.out; omega
      go_wp2_with fail
      refine (len_any _ _ _ _ W2).mono ?_
      rintro e w3 ⟨rfl, b3⟩
      have L3 : Below w.heap.size w w3 := L2.trans (b3.mono L2.size)
      have R3 := Lib.hid (R2.below b3)
      have hq3 : q < w3.heap.size := blk_lt R3.out.blk
      clear W2 R2 b3 L2
      go_wp2_with fail
      go_loopw [9] (fun i wr => ∃ j : Nat, j ≤ k ∧ i = .int .i64 j ∧ Hid (RSt wr q v2 (pack (allL zs k)) (allL zs j).length) ∧ Below w.heap.size w wr) (fun i _ => k - (intOf i).toNat)
      case atStart => exact ⟨0, Nat.zero_le _, rfl, R3, L3⟩
      case round =>
        obtain ⟨j, hj, rfl, HR, hb⟩ := hrel
        by_cases hlt : j < k
        · have hlt' : (j : Int) < (k : Int) := by omega
          have hzl := HZL.out
          obtain ⟨ab, ao, rfl, hab, hac⟩ := Ints.cell_of HRD.out (k := 2 * j) (by omega) (by omega)
          have cx : w.cell? ⟨ab, ao + j * 2, none⟩ = some (.int .i64 (zs.getD (2 * j) 0)) := by rw [show ao + j * 2 = ao + 2 * j by omega]; exact hac _ (by omega)
          have cy : w.cell? ⟨ab, ao + j * 2 + 1, none⟩ = some (.int .i64 (zs.getD (2 * j + 1) 0)) := by rw [show ao + j * 2 + 1 = ao + (2 * j + 1) by omega]; exact hac _ (by omega)
          clear hac hzl
          have dy := (hb.cell (p := ⟨ab, ao + j * 2 + 1, none⟩) hab).trans cy
          have ix := Ints.getD_in HZ.out (2 * j)
          have iy := Ints.getD_in HZ.out (2 * j + 1)
          have hn32 := szOf_le zs j
          have HS := allL_succ zs j
          have hfit := fits_all zs j k hlt
          have hgot := got zs j k hlt
          have hyn : zs.getD (2 * j + 1) 0 % 33 = ((szOf zs j : Nat) : Int) := by unfold szOf; omega
          have hxn := (valOf_cast zs j).symm
          have hgt := get_ok q v2 (pack (allL zs k)) (allL zs j).length (szOf zs j)
          rw [hgot] at hgt
          have hpb := pack_b8 hbits
          have hpl : (pack (allL zs k)).length ≤ 1000000 := by have := HPK.out; have := HLL.out; omega
          have hlen := congrArg List.length HS
          rw [List.length_append, putL_length] at hlen
          have HLEN := Lib.hid hlen
          obtain ⟨x, hx⟩ : ∃ x, x = zs.getD (2 * j) 0 := ⟨_, rfl⟩
          obtain ⟨y, hy⟩ : ∃ y, y = zs.getD (2 * j + 1) 0 := ⟨_, rfl⟩
          rw [← hx] at cx ix hxn
          rw [← hy] at dy iy hyn
          obtain ⟨n, hn⟩ : ∃ n, n = szOf zs j := ⟨_, rfl⟩
          obtain ⟨u, hu⟩ : ∃ u, u = valOf zs j := ⟨_, rfl⟩
          rw [← hn] at hn32 hyn hxn hfit hgt HLEN
          rw [← hu] at hxn hgt
          clear HS hn hu hx hy cy hlen hgot
          have hpw := pow_le n hn32
          go_wp2_with fail
          refine (round_any y 33 _ iy.1 iy.2 (by decide) (by decide)).mono ?_
          rintro e wq ⟨rfl, rfl⟩
          rw [hyn]
          have hgc := hgt wr HR.out hpb hn32 hfit hpl
          clear hgt hfit
          go_wp2_with fail
          refine hgc.mono ?_
          rintro e w4 ⟨rfl, R4, F4⟩
          have hqr : q < wr.heap.size := blk_lt HR.out.blk
          have L4 : Below w.heap.size w w4 := hb.trans (FrQ.below F4 hqw (Nat.le_of_lt hqr))
          have R4H := Lib.hid R4
          clear R4 F4 hgc
          go_upto_region 21 with (fail)
          refine Rd.name_world ?_
          intro W hW
          rw [← hW] at L4 R4H
          clear hW
          have gx := Go.cell_regrown ((L4.cell (p := ⟨ab, ao + j * 2, none⟩) hab).trans cx)
          refine wp_region_quiet_below (by kernel_rfl) (by kernel_rfl) ?_
          repeat (go_big_quiet_step ((exact Calls.regrown_of ((round_any x (2 ^ n) _ ix.1 ix.2 hpw.2 (by omega)).mono fun e w' ⟨he, hw⟩ => ⟨he.trans (by rw [hxn]), by rw [← hw]; exact Below.refl _ _⟩))))
          refine wpQuiet_nil ?_
          intro U hU
          have KU := Rd.below_of_regrown hU
          have R5 := R4H.out.below KU
          have L5 : Below w.heap.size w U := L4.trans (KU.mono L4.size)
          clear hU KU R4H gx
          go_wp2
          go_roundw
          case rel => exact ⟨j + 1, by omega, by go_num, by rw [HLEN.out]; exact R5, L5⟩
          case measure => simp [intOf]; omega
        · obtain rfl : j = k := by omega
          have hno := noughts hbits
          have hpb := pack_b8 hbits
          have hpl : (pack (allL zs j)).length ≤ 1000000 := by have := HPK.out; have := HLL.out; omega
          go_wp2_with fail
          refine (rest_any q v2 _ _ _ HR.out hpb (by have := HPK.out; omega) hpl).mono ?_
          rintro e w4 ⟨⟨r, rfl, hr⟩, b4⟩
          have hr0 : r = 0 := by
            rcases hr with ⟨-, h⟩ | ⟨h, -⟩
            · exact h
            · exact absurd hno h
          subst hr0
          have R4 := HR.out.below b4
          have L4 : Below w.heap.size w w4 := hb.trans (b4.mono hb.size)
          have hlf : (8 * ((pack (allL zs j)).length : Int) - ((allL zs j).length : Nat)) < 8 := by have := HPK.out; omega
          clear hr b4
          go_wp2_with fail
          refine (left_any q v2 _ _ _ R4 (by have := HPK.out; omega) hpl).mono ?_
          rintro e w5 ⟨rfl, b5⟩
          have L5 : Below w.heap.size w w5 := L4.trans (b5.mono L4.size)
          go_wp2_with fail
          refine (awake_any _).mono ?_
          rintro e w6 ⟨rfl, b6⟩
          have L6 : Below w.heap.size w w6 := L5.trans (b6.mono L5.size)
          go_wp2
          go_ret
          exact ⟨rfl, L6⟩
end Go.Proofs.Ytgkcmnconogonaa.BitG

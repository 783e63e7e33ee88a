/-
  The law of package bits: each call tells what the document says.
-/
import Derived.Test.YtgkcmnconogonaaBitJ
import Derived.Test.YtgkcmnconogonaaRds
import Derived.Test.YtgkcmnconogonaaInts
namespace Go.Proofs.Ytgkcmnconogonaa.BitK
open Go.RowKit Rd Go.Proofs.Ytgkcmnconogonaa.Row OctA BitA BitB BitC BitD BitE BitH BitI BitJ
open Go.Proofs.Ytgkcmnconogonaa.Pred (Is is_stab Stab)
open Go.Proofs.Ytgkcmnconogonaa.Rds (Rds rds_stab reads_ext)
set_option linter.unusedVariables false
set_option linter.unusedSimpArgs false
set_option maxRecDepth 100000
def okP (x n : Int) : Prop := 0 ≤ n ∧ n ≤ 32 ∧ 0 ≤ x ∧ x < (2 : Int) ^ n.toNat
instance (x n : Int) : Decidable (okP x n) := by unfold okP; infer_instance
def addL (x n : Int) : List Nat := if okP x n then putL x.toNat n.toNat else []
def codeP (x n : Int) : Int := if okP x n then 0 else 1
theorem addL_len (x n : Int) : (addL x n).length ≤ 32 := by
  unfold addL
  split
  · rename_i h; rw [putL_length]; have := h.1; have := h.2.1; omega
  · simp
theorem okP_nat {x n : Int} (h : okP x n) : ∃ a m : Nat, x = a ∧ n = m ∧ m ≤ 32 ∧ a < 2 ^ m ∧ addL x n = putL a m ∧ codeP x n = 0 := by
  obtain ⟨a, rfl⟩ := Int.eq_ofNat_of_zero_le h.2.2.1
  obtain ⟨m, rfl⟩ := Int.eq_ofNat_of_zero_le h.1
  have h2 := h.2.2.2
  rw [Int.toNat_natCast] at h2
  refine ⟨a, m, rfl, rfl, by have := h.2.1; omega, ?_, ?_, ?_⟩
  · have : ((2 ^ m : Nat) : Int) = 2 ^ m := by simp
    rw [← this] at h2
    exact Int.ofNat_lt.1 h2
  · unfold addL; rw [if_pos h]; simp
  · unfold codeP; rw [if_pos h]
theorem okP_not {x n : Int} (h : ¬ okP x n) : (n < 0 ∨ 32 < n ∨ x < 0 ∨ (2 : Int) ^ n.toNat ≤ x) ∧ addL x n = [] ∧ codeP x n = 1 := by
  refine ⟨?_, ?_, ?_⟩
  · unfold okP at h
    omega
  · unfold addL; rw [if_neg h]
  · unfold codeP; rw [if_neg h]
theorem put_any (p : Nat) (v : Value) (l : List Nat) (x n : Int) (w : World) (hW : Wr w p v l) (hl : l.length ≤ 90000) :
    Calls Try.prog 7 #[.pointer (some ⟨p, 0, none⟩), .int .i64 x, .int .i64 n] w fun e w' => ∃ v', e = .returned (.int .i64 (codeP x n)) ∧ Wr w' p v' (l ++ addL x n) ∧ Fr w w' p v v' := by
  by_cases h : okP x n
  · obtain ⟨a, m, rfl, rfl, hm, ha, e1, e2⟩ := okP_nat h
    rw [e1, e2]
    exact put_ok p v l a m w hW hm ha hl
  · obtain ⟨hb, e1, e2⟩ := okP_not h
    rw [e1, e2, List.append_nil]
    exact (put_bad _ x n w hb).mono fun e w' ⟨he, hbl⟩ => ⟨v, he, Wr.below hW hbl, Fr.of_below hbl⟩
theorem rput_any (p : Nat) (v : Value) (l : List Nat) (x n : Int) (w : World) (hW : RB w p v l) (hl : l.length ≤ 90000) :
    Calls Try.prog 8 #[.pointer (some ⟨p, 0, none⟩), .int .i64 x, .int .i64 n] w fun e w' => ∃ v', e = .returned (.int .i64 (codeP x n)) ∧ RB w' p v' (l ++ addL x n) ∧ Fr w w' p v v' := by
  by_cases h : okP x n
  · obtain ⟨a, m, rfl, rfl, hm, ha, e1, e2⟩ := okP_nat h
    rw [e1, e2]
    exact rput_ok p v l a m w hW hm ha hl
  · obtain ⟨hb, e1, e2⟩ := okP_not h
    rw [e1, e2, List.append_nil]
    exact (rput_bad _ x n w hb).mono fun e w' ⟨he, hbl⟩ => ⟨v, he, RB.below hW hbl, Fr.of_below hbl⟩
def gotV (zs : List Int) (a : Nat) (n : Int) : Int := if n < 0 ∨ 32 < n then 0 else if 8 * (zs.length : Int) - a < n then 0 else (getV zs a n.toNat : Nat)
def gotE (zs : List Int) (a : Nat) (n : Int) : Int := if n < 0 ∨ 32 < n then 1 else if 8 * (zs.length : Int) - a < n then 3 else 0
def gotA (zs : List Int) (a : Nat) (n : Int) : Nat := if n < 0 ∨ 32 < n then a else if 8 * (zs.length : Int) - a < n then a else a + n.toNat
theorem gotA_le {zs : List Int} {a : Nat} (n : Int) (h : a ≤ 8 * zs.length) : gotA zs a n ≤ 8 * zs.length := by
  unfold gotA
  split
  · exact h
  · split
    · exact h
    · omega
theorem get_any (q : Nat) (v : Value) (zs : List Int) (a : Nat) (n : Int) (w : World) (hR : RSt w q v zs a) (hz : ∀ z ∈ zs, 0 ≤ z ∧ z ≤ 255) (ha : a ≤ 8 * zs.length) (hl : zs.length ≤ 1000000) :
    Calls Try.prog 13 #[.pointer (some ⟨q, 0, none⟩), .int .i64 n] w fun e w' => e = .returned (.tuple #[.int .i64 (gotV zs a n), .int .i64 (gotE zs a n)]) ∧ RSt w' q v zs (gotA zs a n) ∧ FrQ w w' q := by
  unfold gotV gotE gotA
  by_cases h1 : n < 0 ∨ 32 < n
  · simp only [if_pos h1]
    exact (get_arg _ n w h1).mono fun e w' ⟨he, hb⟩ => ⟨he, hR.below hb, FrQ.of_below hb⟩
  · simp only [if_neg h1]
    by_cases h2 : 8 * (zs.length : Int) - a < n
    · simp only [if_pos h2]
      exact (get_short q v zs a n w hR (by omega) (by omega) ha h2 hl).mono fun e w' ⟨he, hb⟩ => ⟨he, hR.below hb, FrQ.of_below hb⟩
    · simp only [if_neg h2]
      obtain ⟨m, rfl⟩ := Int.eq_ofNat_of_zero_le (show 0 ≤ n by omega)
      simp only [Int.toNat_natCast]
      exact get_ok q v zs a m w hR hz (by omega) (by omega) hl
theorem rget_any (q : Nat) (b : Option Addr) (cap : Nat) (zs : List Int) (a : Nat) (n : Int) (w : World) (hR : SSt w q b cap zs a) (hz : ∀ z ∈ zs, 0 ≤ z ∧ z ≤ 255) (ha : a ≤ 8 * zs.length) (hl : zs.length ≤ 1000000) :
    Calls Try.prog 14 #[.pointer (some ⟨q, 0, none⟩), .int .i64 n] w fun e w' => e = .returned (.tuple #[.int .i64 (gotV zs a n), .int .i64 (gotE zs a n)]) ∧ SSt w' q b cap zs (gotA zs a n) ∧ FrQ w w' q := by
  unfold gotV gotE gotA
  by_cases h1 : n < 0 ∨ 32 < n
  · simp only [if_pos h1]
    exact (rget_arg _ n w h1).mono fun e w' ⟨he, hb⟩ => ⟨he, hR.below hb, FrQ.of_below hb⟩
  · simp only [if_neg h1]
    by_cases h2 : 8 * (zs.length : Int) - a < n
    · simp only [if_pos h2]
      exact (rget_short q b cap zs a n w hR (by omega) (by omega) ha h2 hl).mono fun e w' ⟨he, hb⟩ => ⟨he, hR.below hb, FrQ.of_below hb⟩
    · simp only [if_neg h2]
      obtain ⟨m, rfl⟩ := Int.eq_ofNat_of_zero_le (show 0 ≤ n by omega)
      simp only [Int.toNat_natCast]
      exact rget_ok q b cap zs a m w hR hz (by omega) (by omega) hl
/-- a writer and the reference's beside each other -/
structure TwoR (w : World) (p1 : Nat) (v1 : Value) (l1 : List Nat) (p2 : Nat) (v2 : Value) (l2 : List Nat) : Prop where
  a : Wr w p1 v1 l1
  b : RB w p2 v2 l2
  ne : p1 ≠ p2
  a2 : v1.ownBlock ≠ some p2
  b1 : v2.ownBlock ≠ some p1
  ab : ∀ k, v1.ownBlock = some k → v2.ownBlock ≠ some k
theorem TwoR.left {w w' : World} {p1 p2 : Nat} {v1 v2 v1' : Value} {l1 l2 l1' : List Nat} (h : TwoR w p1 v1 l1 p2 v2 l2) (hW : Wr w' p1 v1' l1') (hF : Fr w w' p1 v1 v1') : TwoR w' p1 v1' l1' p2 v2 l2 := by
  refine ⟨hW, RB.keep h.b (hF.block _ (RB.lt h.b) h.ne.symm (fun e => h.a2 e.symm)) (fun k hk => hF.block k (RB.own h.b k hk).2 (fun e => h.b1 (by rw [hk, e])) (fun e => h.ab k e.symm hk)), h.ne, ?_, h.b1, ?_⟩
  · rcases hF.row with e | ⟨g, e, hg⟩
    · rw [e]; exact h.a2
    · rw [e]; intro e2; cases e2; have := RB.lt h.b; omega
  · intro k hk hk2
    rcases hF.row with e | ⟨g, e, hg⟩
    · rw [e] at hk; exact h.ab k hk hk2
    · rw [e] at hk; cases hk; have := (RB.own h.b _ hk2).2; omega
theorem TwoR.right {w w' : World} {p1 p2 : Nat} {v1 v2 v2' : Value} {l1 l2 l2' : List Nat} (h : TwoR w p1 v1 l1 p2 v2 l2) (hW : RB w' p2 v2' l2') (hF : Fr w w' p2 v2 v2') : TwoR w' p1 v1 l1 p2 v2' l2' := by
  refine ⟨Wr.keep h.a (hF.block _ (Wr.lt h.a) h.ne (fun e => h.b1 e.symm)) (fun k hk => hF.block k (Wr.own h.a k hk).2 (fun e => h.a2 (by rw [hk, e])) (fun e => h.ab k hk e.symm)), hW, h.ne, h.a2, ?_, ?_⟩
  · rcases hF.row with e | ⟨g, e, hg⟩
    · rw [e]; exact h.b1
    · rw [e]; intro e2; cases e2; have := Wr.lt h.a; omega
  · intro k hk hk2
    rcases hF.row with e | ⟨g, e, hg⟩
    · rw [e] at hk2; exact h.ab k hk hk2
    · rw [e] at hk2; cases hk2; have := (Wr.own h.a _ hk).2; omega
theorem TwoR.below {w w' : World} {p1 p2 : Nat} {v1 v2 : Value} {l1 l2 : List Nat} (h : TwoR w p1 v1 l1 p2 v2 l2) (hb : Below w.heap.size w w') : TwoR w' p1 v1 l1 p2 v2 l2 :=
  ⟨Wr.below h.a hb, RB.below h.b hb, h.ne, h.a2, h.b1, h.ab⟩
theorem twoR_new (w : World) : TwoR ((w.alloc (.cells #[.slice none 0 0, .int .i64 0] 28)).alloc (.cells #[.slice none 0 0] 31)) w.heap.size (.slice none 0 0) [] (w.heap.size + 1) (.slice none 0 0) [] := by
  have h2 := rb_new (w.alloc (.cells #[.slice none 0 0, .int .i64 0] 28))
  rw [World.size_alloc] at h2
  exact ⟨Wr.below (wr_new w) ((Below.refl _ _).alloc (Nat.le_refl _) _), h2, by omega, by simp [Value.ownBlock], by simp [Value.ownBlock], fun k hk => by simp [Value.ownBlock] at hk⟩
def putsL (zs : List Int) : Nat → List Nat
  | 0 => []
  | k + 1 => putsL zs k ++ addL (zs.getD (2 * k) 0) (zs.getD (2 * k + 1) 0)
theorem putsL_len (zs : List Int) (k : Nat) : (putsL zs k).length ≤ 32 * k := by
  induction k with
  | zero => simp [putsL]
  | succ k ih =>
    have := addL_len (zs.getD (2 * k) 0) (zs.getD (2 * k + 1) 0)
    unfold putsL
    rw [List.length_append]
    omega
set_option maxHeartbeats 8000000 in
theorem BitsTells_walk (a0 : Option Addr) (len0 cap0 : Nat) (x0 : List (List Value)) (a1 : Option Addr) (len1 cap1 : Nat) (x1 : List (List Value)) (a2 : Option Addr) (len2 cap2 : Nat) (x2 : List (List Value)) (w : World) (w0 : Flat.IsRows [some .i64, some .i64] w a0 len0 cap0 x0) (w1 : Flat.IsRows [some .u8] w a1 len1 cap1 x1) (w2 : Flat.IsRows [some .i64] w a2 len2 cap2 x2) :
    Calls Try.prog 3 #[.slice a0 len0 cap0, .slice a1 len1 cap1, .slice a2 len2 cap2] w fun e w' => e = .returned (.bool true) ∧ Below w.heap.size w w' := by
  obtain ⟨zs, hzl, hz, hR, hlc, hcm, -⟩ := Ints.rows_row (s := 2) (by omega) w0
  obtain ⟨bs, hbl, hbz, hB, hlc1, hcm1, -⟩ := Bytes.rows_bytes w1
  obtain ⟨gs, hgl, hgz, hG, hlc2, hcm2, -⟩ := Ints.rows_row (s := 1) (by omega) w2
  clear w0 w1 w2
  subst hbl
  by_cases hbig0 : 60 < len0
  · have hbig : (60 : Int) < (len0 : Int) := by omega
    clear hzl hgl
    go_enter Try.func3, Try.ntmps3
    go_wp2_with (go_at_call 6; refine (awake_any _).mono ?_; rintro e w3 ⟨rfl, hb⟩)
    go_ret
    exact ⟨rfl, hb⟩
  have hs0 : ¬ (60 : Int) < (len0 : Int) := by omega
  by_cases hbig1 : 100 < bs.length
  · have hbig : (100 : Int) < (bs.length : Int) := by omega
    clear hzl hgl
    go_enter Try.func3, Try.ntmps3
    go_wp2_with (go_at_call 6; refine (awake_any _).mono ?_; rintro e w3 ⟨rfl, hb⟩)
    go_ret
    exact ⟨rfl, hb⟩
  have hs1 : ¬ (100 : Int) < (bs.length : Int) := by omega
  by_cases hbig2 : 60 < len2
  · have hbig : (60 : Int) < (len2 : Int) := by omega
    clear hzl hgl
    go_enter Try.func3, Try.ntmps3
    go_wp2_with (go_at_call 6; refine (awake_any _).mono ?_; rintro e w3 ⟨rfl, hb⟩)
    go_ret
    exact ⟨rfl, hb⟩
  have hs2 : ¬ (60 : Int) < (len2 : Int) := by omega
  have HZ := Lib.hid hz
  have HRD := Lib.hid hR
  have HZL := Lib.hid hzl
  have HBZ := Lib.hid hbz
  have HB := Lib.hid hB
  have HGZ := Lib.hid hgz
  have HG := Lib.hid hG
  have HGL := Lib.hid hgl
  clear hz hR hzl hbz hB hgz hG hgl
  go_enter Try.func3, Try.ntmps3
  go_wp2_with fail
  go_loopw [9] (fun i wr => ∃ k : Nat, k ≤ len0 ∧ i = .int .i64 k ∧ Hid (∃ v1 v2, TwoR wr w.heap.size v1 (putsL zs k) (w.heap.size + 1) v2 (putsL zs k)) ∧ Below w.heap.size w wr) (fun i _ => len0 - (intOf i).toNat)
  case atStart => exact ⟨0, Nat.zero_le _, rfl, ⟨_, _, twoR_new w⟩, by repeat' (first | (with_reducible exact Below.refl _ _) | (with_reducible refine Rd.below_step ?_ (by assumption)) | (with_reducible refine Rd.below_alloc ?_ _) | (with_reducible refine Rd.below_drewN ?_ _) | (with_reducible refine Below.drew ?_) | (with_reducible refine Below.setCell ?_ ?_ _) | (with_reducible refine Rd.below_setRow ?_ ?_ _) | go_size | (simp only [World.size_alloc]; omega) | omega)⟩
  case round =>
    obtain ⟨k, hk, rfl, HT, hb⟩ := hrel
    by_cases hlt : k < len0
    · have hlt' : (k : Int) < (len0 : Int) := by omega
      have hzl := HZL.out
      obtain ⟨ab, ao, rfl, hab, hac⟩ := Ints.cell_of HRD.out (k := 2 * k) (by omega) (by omega)
      have cx : w.cell? ⟨ab, ao + k * 2, none⟩ = some (.int .i64 (zs.getD (2 * k) 0)) := by rw [show ao + k * 2 = ao + 2 * k by omega]; exact hac _ (by omega)
      have cy : w.cell? ⟨ab, ao + k * 2 + 1, none⟩ = some (.int .i64 (zs.getD (2 * k + 1) 0)) := by rw [show ao + k * 2 + 1 = ao + (2 * k + 1) by omega]; exact hac _ (by omega)
      clear hac hzl
      have HE := Lib.hid (show putsL zs (k + 1) = putsL zs k ++ addL (zs.getD (2 * k) 0) (zs.getD (2 * k + 1) 0) from rfl)
      have hll := putsL_len zs k
      have hla := addL_len (zs.getD (2 * k) 0) (zs.getD (2 * k + 1) 0)
      generalize zs.getD (2 * k) 0 = x at cx HE hla
      generalize zs.getD (2 * k + 1) 0 = y at cy HE hla
      have hll2 : (putsL zs k).length ≤ 90000 := by omega
      have hll3 : (putsL zs k ++ addL x y).length ≤ 100000 := by rw [List.length_append]; omega
      obtain ⟨l, hl⟩ : ∃ l, l = putsL zs k := ⟨_, rfl⟩
      rw [← hl] at HT HE hll2 hll3
      obtain ⟨l2, hl2⟩ : ∃ l2, l2 = l ++ addL x y := ⟨_, rfl⟩
      rw [← hl2] at HE hll3
      have HL2 := Lib.hid hl2
      clear hl hl2 hll hla
      go_upto_region 7 with (fail)
      refine Rd.name_world ?_
      intro W hW
      rw [← hW] at HT hb
      have hp1 : w.heap.size < W.heap.size := by obtain ⟨v1, v2, T⟩ := HT.out; exact Wr.lt T.a
      have hp2 : w.heap.size + 1 < W.heap.size := by obtain ⟨v1, v2, T⟩ := HT.out; exact RB.lt T.b
      have hwW := hb.size
      have dx := (hb.cell (p := ⟨ab, ao + k * 2, none⟩) hab).trans cx
      have dy := (hb.cell (p := ⟨ab, ao + k * 2 + 1, none⟩) hab).trans cy
      clear hW cx cy
      refine PredT.region_of (W := W) (w.heap.size) hwW [11, 23] [
          fun y => ∃ v1 v2, TwoR y w.heap.size v1 l (w.heap.size + 1) v2 l,
          fun y => ∃ v1 v2, TwoR y w.heap.size v1 l2 (w.heap.size + 1) v2 l,
          fun y => ∃ v1 v2, TwoR y w.heap.size v1 l2 (w.heap.size + 1) v2 l2] [
          PredT.At 0 (.pointer (some ⟨w.heap.size, 0, none⟩)),
          PredT.At 0 (.slice (some ⟨ab, ao, none⟩) len0 cap0),
          PredT.At 0 (.int .i64 k),
          PredT.At 0 (.pointer (some ⟨ab, ao + k * 2, none⟩)),
          PredT.At 0 (.pointer (some ⟨ab, ao + k * 2, none⟩)),
          PredT.At 0 (.int .i64 x),
          PredT.At 0 (.slice (some ⟨ab, ao, none⟩) len0 cap0),
          PredT.At 0 (.int .i64 k),
          PredT.At 0 (.pointer (some ⟨ab, ao + k * 2, none⟩)),
          PredT.At 0 (.pointer (some ⟨ab, ao + k * 2 + 1, none⟩)),
          PredT.At 0 (.int .i64 y),
          PredT.At 1 (.int .i64 (codeP x y)),
          PredT.At 0 (.pointer (some ⟨w.heap.size + 1, 0, none⟩)),
          PredT.At 0 (.slice (some ⟨ab, ao, none⟩) len0 cap0),
          PredT.At 0 (.int .i64 k),
          PredT.At 0 (.pointer (some ⟨ab, ao + k * 2, none⟩)),
          PredT.At 0 (.pointer (some ⟨ab, ao + k * 2, none⟩)),
          PredT.At 0 (.int .i64 x),
          PredT.At 0 (.slice (some ⟨ab, ao, none⟩) len0 cap0),
          PredT.At 0 (.int .i64 k),
          PredT.At 0 (.pointer (some ⟨ab, ao + k * 2, none⟩)),
          PredT.At 0 (.pointer (some ⟨ab, ao + k * 2 + 1, none⟩)),
          PredT.At 0 (.int .i64 y),
          PredT.At 2 (.int .i64 (codeP x y)),
          PredT.At 2 (.bool false),
          PredT.At 2 (.bool false),
          PredT.At 2 (.pointer (some ⟨w.heap.size, 0, none⟩)),
          PredT.At 2 (.int .i64 (l2.length : Nat)),
          PredT.At 2 (.pointer (some ⟨w.heap.size + 1, 0, none⟩)),
          PredT.At 2 (.pointer (some ⟨w.heap.size + 1, 0, none⟩)),
          PredT.At 2 (.pointer (some ⟨w.heap.size + 1, 0, none⟩)),
          PredT.Len 2 (l2.length),
          PredT.At 2 (.int .i64 (l2.length : Nat)),
          PredT.At 2 (.bool false),
          PredT.At 2 (.bool false)] (by kernel_rfl) (by kernel_rfl) (by kernel_rfl) (by decide) (by decide) ?_ ?_ ?_ ?_ ?_ ?_
      · exact ⟨PredT.at_stab _ _ _ _, PredT.at_stab _ _ _ _, PredT.at_stab _ _ _ _, PredT.at_stab _ _ _ _, PredT.at_stab _ _ _ _, PredT.at_stab _ _ _ _, PredT.at_stab _ _ _ _, PredT.at_stab _ _ _ _, PredT.at_stab _ _ _ _, PredT.at_stab _ _ _ _, PredT.at_stab _ _ _ _, PredT.at_stab _ _ _ _, PredT.at_stab _ _ _ _, PredT.at_stab _ _ _ _, PredT.at_stab _ _ _ _, PredT.at_stab _ _ _ _, PredT.at_stab _ _ _ _, PredT.at_stab _ _ _ _, PredT.at_stab _ _ _ _, PredT.at_stab _ _ _ _, PredT.at_stab _ _ _ _, PredT.at_stab _ _ _ _, PredT.at_stab _ _ _ _, PredT.at_stab _ _ _ _, PredT.at_stab _ _ _ _, PredT.at_stab _ _ _ _, PredT.at_stab _ _ _ _, PredT.at_stab _ _ _ _, PredT.at_stab _ _ _ _, PredT.at_stab _ _ _ _, PredT.at_stab _ _ _ _, PredT.len_stab _ _ _ _, PredT.at_stab _ _ _ _, PredT.at_stab _ _ _ _, PredT.at_stab _ _ _ _, trivial⟩
      · intro q hq
        rcases List.mem_cons.1 hq with rfl | hq
        · exact fun y y' ⟨v1, v2, T⟩ hb => ⟨v1, v2, T.below hb⟩
        rcases List.mem_cons.1 hq with rfl | hq
        · exact fun y y' ⟨v1, v2, T⟩ hb => ⟨v1, v2, T.below hb⟩
        rcases List.mem_cons.1 hq with rfl | hq
        · exact fun y y' ⟨v1, v2, T⟩ hb => ⟨v1, v2, T.below hb⟩
        cases hq
      · exact HT.out
      · refine ⟨.inr ?_, .inr ?_, .inr ?_, .inr ?_, .inr ?_, .inr ?_, .inr ?_, .inr ?_, .inr ?_, .inr ?_, .inr ?_, .inl rfl, .inr ?_, .inr ?_, .inr ?_, .inr ?_, .inr ?_, .inr ?_, .inr ?_, .inr ?_, .inr ?_, .inr ?_, .inr ?_, .inl rfl, .inr ?_, .inr ?_, .inr ?_, .inr ?_, .inr ?_, .inr ?_, .inr ?_, .inr ?_, .inr ?_, .inr ?_, .inr ?_, trivial⟩
        · intro b X p hE hd hn hS hV hI hF
          have r7 : b.tmps[7]?.getD undef = .pointer (some ⟨w.heap.size, 0, none⟩) := (hn 7 (by kernel_rfl)).trans rfl
          exact Pred.yields_run (v := .pointer (some ⟨w.heap.size, 0, none⟩)) (Pred.wanted_none rfl) (by go_simp) ⟨Below.refl _ _, rfl, Nat.zero_le _⟩
        · intro b X p hE hd hn hS hV hI hF
          have r0 : b.tmps[0]?.getD undef = .slice (some ⟨ab, ao, none⟩) len0 cap0 := (hn 0 (by kernel_rfl)).trans rfl
          exact Pred.yields_run (v := .slice (some ⟨ab, ao, none⟩) len0 cap0) (Pred.wanted_none rfl) (by go_simp) ⟨Below.refl _ _, rfl, Nat.zero_le _⟩
        · intro b X p hE hd hn hS hV hI hF
          have r9 : b.tmps[9]?.getD undef = .int .i64 k := (hn 9 (by kernel_rfl)).trans rfl
          exact Pred.yields_run (v := .int .i64 k) (Pred.wanted_none rfl) (by go_simp) ⟨Below.refl _ _, rfl, Nat.zero_le _⟩
        · intro b X p hE hd hn hS hV hI hF
          obtain ⟨r42, j42⟩ : PredT.At 0 (.slice (some ⟨ab, ao, none⟩) len0 cap0) (b.tmps[42]?.getD undef) X p := hV 1 _ 42 rfl rfl (Pred.waits_near (by kernel_rfl) (by kernel_rfl))
          obtain ⟨r43, j43⟩ : PredT.At 0 (.int .i64 k) (b.tmps[43]?.getD undef) X p := hV 2 _ 43 rfl rfl (Pred.waits_near (by kernel_rfl) (by kernel_rfl))
          exact Pred.yields_run (v := .pointer (some ⟨ab, ao + k * 2, none⟩)) (Pred.wanted_none rfl) (by go_simp) ⟨Below.refl _ _, rfl, Nat.zero_le _⟩
        · intro b X p hE hd hn hS hV hI hF
          obtain ⟨r44, j44⟩ : PredT.At 0 (.pointer (some ⟨ab, ao + k * 2, none⟩)) (b.tmps[44]?.getD undef) X p := hV 3 _ 44 rfl rfl (Pred.waits_near (by kernel_rfl) (by kernel_rfl))
          exact Pred.yields_run (v := .pointer (some ⟨ab, ao + k * 2, none⟩)) (Pred.wanted_none rfl) (by go_simp) ⟨Below.refl _ _, rfl, Nat.zero_le _⟩
        · intro b X p hE hd hn hS hV hI hF
          obtain ⟨r45, j45⟩ : PredT.At 0 (.pointer (some ⟨ab, ao + k * 2, none⟩)) (b.tmps[45]?.getD undef) X p := hV 4 _ 45 rfl rfl (Pred.waits_near (by kernel_rfl) (by kernel_rfl))
          have cz := (hE.cell (p := ⟨ab, ao + k * 2, none⟩) hab).trans dx
          exact Pred.yields_run (v := .int .i64 x) (Pred.wanted_none rfl) (by go_simp) ⟨Below.refl _ _, rfl, Nat.zero_le _⟩
        · intro b X p hE hd hn hS hV hI hF
          have r0 : b.tmps[0]?.getD undef = .slice (some ⟨ab, ao, none⟩) len0 cap0 := (hn 0 (by kernel_rfl)).trans rfl
          exact Pred.yields_run (v := .slice (some ⟨ab, ao, none⟩) len0 cap0) (Pred.wanted_none rfl) (by go_simp) ⟨Below.refl _ _, rfl, Nat.zero_le _⟩
        · intro b X p hE hd hn hS hV hI hF
          have r9 : b.tmps[9]?.getD undef = .int .i64 k := (hn 9 (by kernel_rfl)).trans rfl
          exact Pred.yields_run (v := .int .i64 k) (Pred.wanted_none rfl) (by go_simp) ⟨Below.refl _ _, rfl, Nat.zero_le _⟩
        · intro b X p hE hd hn hS hV hI hF
          obtain ⟨r47, j47⟩ : PredT.At 0 (.slice (some ⟨ab, ao, none⟩) len0 cap0) (b.tmps[47]?.getD undef) X p := hV 6 _ 47 rfl rfl (Pred.waits_near (by kernel_rfl) (by kernel_rfl))
          obtain ⟨r48, j48⟩ : PredT.At 0 (.int .i64 k) (b.tmps[48]?.getD undef) X p := hV 7 _ 48 rfl rfl (Pred.waits_near (by kernel_rfl) (by kernel_rfl))
          exact Pred.yields_run (v := .pointer (some ⟨ab, ao + k * 2, none⟩)) (Pred.wanted_none rfl) (by go_simp) ⟨Below.refl _ _, rfl, Nat.zero_le _⟩
        · intro b X p hE hd hn hS hV hI hF
          obtain ⟨r49, j49⟩ : PredT.At 0 (.pointer (some ⟨ab, ao + k * 2, none⟩)) (b.tmps[49]?.getD undef) X p := hV 8 _ 49 rfl rfl (Pred.waits_near (by kernel_rfl) (by kernel_rfl))
          exact Pred.yields_run (v := .pointer (some ⟨ab, ao + k * 2 + 1, none⟩)) (Pred.wanted_none rfl) (by go_simp) ⟨Below.refl _ _, rfl, Nat.zero_le _⟩
        · intro b X p hE hd hn hS hV hI hF
          obtain ⟨r50, j50⟩ : PredT.At 0 (.pointer (some ⟨ab, ao + k * 2 + 1, none⟩)) (b.tmps[50]?.getD undef) X p := hV 9 _ 50 rfl rfl (Pred.waits_near (by kernel_rfl) (by kernel_rfl))
          have cz := (hE.cell (p := ⟨ab, ao + k * 2 + 1, none⟩) hab).trans dy
          exact Pred.yields_run (v := .int .i64 y) (Pred.wanted_none rfl) (by go_simp) ⟨Below.refl _ _, rfl, Nat.zero_le _⟩
        · intro b X p hE hd hn hS hV hI hF
          have r8 : b.tmps[8]?.getD undef = .pointer (some ⟨w.heap.size + 1, 0, none⟩) := (hn 8 (by kernel_rfl)).trans rfl
          exact Pred.yields_run (v := .pointer (some ⟨w.heap.size + 1, 0, none⟩)) (Pred.wanted_none rfl) (by go_simp) ⟨Below.refl _ _, rfl, Nat.zero_le _⟩
        · intro b X p hE hd hn hS hV hI hF
          have r0 : b.tmps[0]?.getD undef = .slice (some ⟨ab, ao, none⟩) len0 cap0 := (hn 0 (by kernel_rfl)).trans rfl
          exact Pred.yields_run (v := .slice (some ⟨ab, ao, none⟩) len0 cap0) (Pred.wanted_none rfl) (by go_simp) ⟨Below.refl _ _, rfl, Nat.zero_le _⟩
        · intro b X p hE hd hn hS hV hI hF
          have r9 : b.tmps[9]?.getD undef = .int .i64 k := (hn 9 (by kernel_rfl)).trans rfl
          exact Pred.yields_run (v := .int .i64 k) (Pred.wanted_none rfl) (by go_simp) ⟨Below.refl _ _, rfl, Nat.zero_le _⟩
        · intro b X p hE hd hn hS hV hI hF
          obtain ⟨r54, j54⟩ : PredT.At 0 (.slice (some ⟨ab, ao, none⟩) len0 cap0) (b.tmps[54]?.getD undef) X p := hV 13 _ 54 rfl rfl (Pred.waits_near (by kernel_rfl) (by kernel_rfl))
          obtain ⟨r55, j55⟩ : PredT.At 0 (.int .i64 k) (b.tmps[55]?.getD undef) X p := hV 14 _ 55 rfl rfl (Pred.waits_near (by kernel_rfl) (by kernel_rfl))
          exact Pred.yields_run (v := .pointer (some ⟨ab, ao + k * 2, none⟩)) (Pred.wanted_none rfl) (by go_simp) ⟨Below.refl _ _, rfl, Nat.zero_le _⟩
        · intro b X p hE hd hn hS hV hI hF
          obtain ⟨r56, j56⟩ : PredT.At 0 (.pointer (some ⟨ab, ao + k * 2, none⟩)) (b.tmps[56]?.getD undef) X p := hV 15 _ 56 rfl rfl (Pred.waits_near (by kernel_rfl) (by kernel_rfl))
          exact Pred.yields_run (v := .pointer (some ⟨ab, ao + k * 2, none⟩)) (Pred.wanted_none rfl) (by go_simp) ⟨Below.refl _ _, rfl, Nat.zero_le _⟩
        · intro b X p hE hd hn hS hV hI hF
          obtain ⟨r57, j57⟩ : PredT.At 0 (.pointer (some ⟨ab, ao + k * 2, none⟩)) (b.tmps[57]?.getD undef) X p := hV 16 _ 57 rfl rfl (Pred.waits_near (by kernel_rfl) (by kernel_rfl))
          have cz := (hE.cell (p := ⟨ab, ao + k * 2, none⟩) hab).trans dx
          exact Pred.yields_run (v := .int .i64 x) (Pred.wanted_none rfl) (by go_simp) ⟨Below.refl _ _, rfl, Nat.zero_le _⟩
        · intro b X p hE hd hn hS hV hI hF
          have r0 : b.tmps[0]?.getD undef = .slice (some ⟨ab, ao, none⟩) len0 cap0 := (hn 0 (by kernel_rfl)).trans rfl
          exact Pred.yields_run (v := .slice (some ⟨ab, ao, none⟩) len0 cap0) (Pred.wanted_none rfl) (by go_simp) ⟨Below.refl _ _, rfl, Nat.zero_le _⟩
        · intro b X p hE hd hn hS hV hI hF
          have r9 : b.tmps[9]?.getD undef = .int .i64 k := (hn 9 (by kernel_rfl)).trans rfl
          exact Pred.yields_run (v := .int .i64 k) (Pred.wanted_none rfl) (by go_simp) ⟨Below.refl _ _, rfl, Nat.zero_le _⟩
        · intro b X p hE hd hn hS hV hI hF
          obtain ⟨r59, j59⟩ : PredT.At 0 (.slice (some ⟨ab, ao, none⟩) len0 cap0) (b.tmps[59]?.getD undef) X p := hV 18 _ 59 rfl rfl (Pred.waits_near (by kernel_rfl) (by kernel_rfl))
          obtain ⟨r60, j60⟩ : PredT.At 0 (.int .i64 k) (b.tmps[60]?.getD undef) X p := hV 19 _ 60 rfl rfl (Pred.waits_near (by kernel_rfl) (by kernel_rfl))
          exact Pred.yields_run (v := .pointer (some ⟨ab, ao + k * 2, none⟩)) (Pred.wanted_none rfl) (by go_simp) ⟨Below.refl _ _, rfl, Nat.zero_le _⟩
        · intro b X p hE hd hn hS hV hI hF
          obtain ⟨r61, j61⟩ : PredT.At 0 (.pointer (some ⟨ab, ao + k * 2, none⟩)) (b.tmps[61]?.getD undef) X p := hV 20 _ 61 rfl rfl (Pred.waits_near (by kernel_rfl) (by kernel_rfl))
          exact Pred.yields_run (v := .pointer (some ⟨ab, ao + k * 2 + 1, none⟩)) (Pred.wanted_none rfl) (by go_simp) ⟨Below.refl _ _, rfl, Nat.zero_le _⟩
        · intro b X p hE hd hn hS hV hI hF
          obtain ⟨r62, j62⟩ : PredT.At 0 (.pointer (some ⟨ab, ao + k * 2 + 1, none⟩)) (b.tmps[62]?.getD undef) X p := hV 21 _ 62 rfl rfl (Pred.waits_near (by kernel_rfl) (by kernel_rfl))
          have cz := (hE.cell (p := ⟨ab, ao + k * 2 + 1, none⟩) hab).trans dy
          exact Pred.yields_run (v := .int .i64 y) (Pred.wanted_none rfl) (by go_simp) ⟨Below.refl _ _, rfl, Nat.zero_le _⟩
        · intro b X p hE hd hn hS hV hI hF
          obtain ⟨r52, j52⟩ : PredT.At 1 (.int .i64 (codeP x y)) (b.tmps[52]?.getD undef) X p := hV 11 _ 52 rfl rfl (Pred.waits_near (by kernel_rfl) (by kernel_rfl))
          obtain ⟨r64, j64⟩ : PredT.At 2 (.int .i64 (codeP x y)) (b.tmps[64]?.getD undef) X p := hV 23 _ 64 rfl rfl (Pred.waits_near (by kernel_rfl) (by kernel_rfl))
          exact Pred.yields_run (v := .bool false) (Pred.wanted_none rfl) (by go_simp) ⟨Below.refl _ _, rfl, (by omega)⟩
        · intro b X p hE hd hn hS hV hI hF
          obtain ⟨r65, j65⟩ : PredT.At 2 (.bool false) (b.tmps[65]?.getD undef) X p := hV 24 _ 65 rfl rfl (Pred.waits_near (by kernel_rfl) (by kernel_rfl))
          exact Pred.yields_run (v := .bool false) (Pred.wanted_none rfl) (by go_simp) ⟨Below.refl _ _, rfl, (by omega)⟩
        · intro b X p hE hd hn hS hV hI hF
          have r7 : b.tmps[7]?.getD undef = .pointer (some ⟨w.heap.size, 0, none⟩) := (hn 7 (by kernel_rfl)).trans rfl
          obtain ⟨r66, j66⟩ : PredT.At 2 (.bool false) (b.tmps[66]?.getD undef) X p := hV 25 _ 66 rfl rfl (Pred.waits_near (by kernel_rfl) (by kernel_rfl))
          exact Pred.yields_run (v := .pointer (some ⟨w.heap.size, 0, none⟩)) ((Pred.wanted_at (g := 25) (d := 66) (f := false) rfl rfl r66).trans rfl) (by go_simp) ⟨Below.refl _ _, rfl, (by omega)⟩
        · intro b X p hE hd hn hS hV hI hF
          obtain ⟨r67, j67⟩ : PredT.At 2 (.pointer (some ⟨w.heap.size, 0, none⟩)) (b.tmps[67]?.getD undef) X p := hV 26 _ 67 rfl rfl (Pred.waits_near (by kernel_rfl) (by kernel_rfl))
          obtain ⟨r66, j66⟩ : PredT.At 2 (.bool false) (b.tmps[66]?.getD undef) X p := hV 25 _ 66 rfl rfl (Pred.waits_near (by kernel_rfl) (by kernel_rfl))
          have hp3 : p < 3 := PredT.sel_le hS
          obtain rfl : p = 2 := by omega
          obtain ⟨v1, v2, T⟩ := hS
          refine Pred.yields_call (f := 9) (args := #[.pointer (some ⟨w.heap.size, 0, none⟩)]) ((Pred.wanted_at (g := 25) (d := 66) (f := false) rfl rfl r66).trans rfl) (by go_simp) ?_
          exact (len_any _ _ _ _ T.a).mono fun e w9 ⟨he, hb9⟩ => ⟨_, he, hb9, rfl, Nat.le_refl _⟩
        · intro b X p hE hd hn hS hV hI hF
          have r8 : b.tmps[8]?.getD undef = .pointer (some ⟨w.heap.size + 1, 0, none⟩) := (hn 8 (by kernel_rfl)).trans rfl
          obtain ⟨r66, j66⟩ : PredT.At 2 (.bool false) (b.tmps[66]?.getD undef) X p := hV 25 _ 66 rfl rfl (Pred.waits_near (by kernel_rfl) (by kernel_rfl))
          exact Pred.yields_run (v := .pointer (some ⟨w.heap.size + 1, 0, none⟩)) ((Pred.wanted_at (g := 25) (d := 66) (f := false) rfl rfl r66).trans rfl) (by go_simp) ⟨Below.refl _ _, rfl, (by omega)⟩
        · intro b X p hE hd hn hS hV hI hF
          obtain ⟨r69, j69⟩ : PredT.At 2 (.pointer (some ⟨w.heap.size + 1, 0, none⟩)) (b.tmps[69]?.getD undef) X p := hV 28 _ 69 rfl rfl (Pred.waits_near (by kernel_rfl) (by kernel_rfl))
          obtain ⟨r66, j66⟩ : PredT.At 2 (.bool false) (b.tmps[66]?.getD undef) X p := hV 25 _ 66 rfl rfl (Pred.waits_near (by kernel_rfl) (by kernel_rfl))
          have hpx : w.heap.size + 1 < X.heap.size := Nat.lt_of_lt_of_le hp2 hE.size
          exact Pred.yields_run (v := .pointer (some ⟨w.heap.size + 1, 0, none⟩)) ((Pred.wanted_at (g := 25) (d := 66) (f := false) rfl rfl r66).trans rfl) (by go_simp) ⟨Below.refl _ _, rfl, by omega⟩
        · intro b X p hE hd hn hS hV hI hF
          obtain ⟨r70, j70⟩ : PredT.At 2 (.pointer (some ⟨w.heap.size + 1, 0, none⟩)) (b.tmps[70]?.getD undef) X p := hV 29 _ 70 rfl rfl (Pred.waits_near (by kernel_rfl) (by kernel_rfl))
          obtain ⟨r66, j66⟩ : PredT.At 2 (.bool false) (b.tmps[66]?.getD undef) X p := hV 25 _ 66 rfl rfl (Pred.waits_near (by kernel_rfl) (by kernel_rfl))
          have hpx : w.heap.size + 1 < X.heap.size := Nat.lt_of_lt_of_le hp2 hE.size
          exact Pred.yields_run (v := .pointer (some ⟨w.heap.size + 1, 0, none⟩)) ((Pred.wanted_at (g := 25) (d := 66) (f := false) rfl rfl r66).trans rfl) (by go_simp) ⟨Below.refl _ _, rfl, by omega⟩
        · intro b X p hE hd hn hS hV hI hF
          obtain ⟨r71, j71⟩ : PredT.At 2 (.pointer (some ⟨w.heap.size + 1, 0, none⟩)) (b.tmps[71]?.getD undef) X p := hV 30 _ 71 rfl rfl (Pred.waits_near (by kernel_rfl) (by kernel_rfl))
          obtain ⟨r66, j66⟩ : PredT.At 2 (.bool false) (b.tmps[66]?.getD undef) X p := hV 25 _ 66 rfl rfl (Pred.waits_near (by kernel_rfl) (by kernel_rfl))
          have hp3 : p < 3 := PredT.sel_le hS
          obtain rfl : p = 2 := by omega
          obtain ⟨v1, v2, T⟩ := hS
          have cz := blk_cell T.b.1.1 0
          have lz := RB.lt T.b
          simp only [List.getElem?_toArray, List.getElem?_cons_zero] at cz
          obtain ⟨az, cz2, rfl, -, -⟩ := owns_val T.b.1.2
          exact Pred.yields_run (v := .slice az l2.length cz2) ((Pred.wanted_at (g := 25) (d := 66) (f := false) rfl rfl r66).trans rfl) (by go_simp) ⟨Below.refl _ _, ⟨_, _, rfl⟩, Nat.le_refl _⟩
        · intro b X p hE hd hn hS hV hI hF
          obtain ⟨⟨a72, c72, r72⟩, j72⟩ : PredT.Len 2 (l2.length) (b.tmps[72]?.getD undef) X p := hV 31 _ 72 rfl rfl (Pred.waits_near (by kernel_rfl) (by kernel_rfl))
          obtain ⟨r66, j66⟩ : PredT.At 2 (.bool false) (b.tmps[66]?.getD undef) X p := hV 25 _ 66 rfl rfl (Pred.waits_near (by kernel_rfl) (by kernel_rfl))
          exact Pred.yields_run (v := .int .i64 (l2.length : Nat)) ((Pred.wanted_at (g := 25) (d := 66) (f := false) rfl rfl r66).trans rfl) (by go_simp) ⟨Below.refl _ _, rfl, (by omega)⟩
        · intro b X p hE hd hn hS hV hI hF
          obtain ⟨r68, j68⟩ : PredT.At 2 (.int .i64 (l2.length : Nat)) (b.tmps[68]?.getD undef) X p := hV 27 _ 68 rfl rfl (Pred.waits_near (by kernel_rfl) (by kernel_rfl))
          obtain ⟨r73, j73⟩ : PredT.At 2 (.int .i64 (l2.length : Nat)) (b.tmps[73]?.getD undef) X p := hV 32 _ 73 rfl rfl (Pred.waits_near (by kernel_rfl) (by kernel_rfl))
          obtain ⟨r66, j66⟩ : PredT.At 2 (.bool false) (b.tmps[66]?.getD undef) X p := hV 25 _ 66 rfl rfl (Pred.waits_near (by kernel_rfl) (by kernel_rfl))
          exact Pred.yields_run (v := .bool false) ((Pred.wanted_at (g := 25) (d := 66) (f := false) rfl rfl r66).trans rfl) (by go_simp) ⟨Below.refl _ _, rfl, (by omega)⟩
        · intro b X p hE hd hn hS hV hI hF
          obtain ⟨r66, j66⟩ : PredT.At 2 (.bool false) (b.tmps[66]?.getD undef) X p := hV 25 _ 66 rfl rfl (Pred.waits_near (by kernel_rfl) (by kernel_rfl))
          obtain ⟨r74, j74⟩ : PredT.At 2 (.bool false) (b.tmps[74]?.getD undef) X p := hV 33 _ 74 rfl rfl (Pred.waits_near (by kernel_rfl) (by kernel_rfl))
          exact Pred.yields_run (v := .bool false) (Pred.wanted_none rfl) (by go_simp) ⟨Below.refl _ _, rfl, (by omega)⟩
      · refine ⟨?_, ?_, trivial⟩
        · refine ⟨_, rfl, fun k hk => (by cases hk), fun b X hE hd hn hS hV hI => ?_⟩
          obtain ⟨r41, j41⟩ : PredT.At 0 (.pointer (some ⟨w.heap.size, 0, none⟩)) (b.tmps[41]?.getD undef) X 0 := hV 0 _ 41 rfl rfl (Pred.waits_near (by kernel_rfl) (by kernel_rfl))
          obtain ⟨r46, j46⟩ : PredT.At 0 (.int .i64 x) (b.tmps[46]?.getD undef) X 0 := hV 5 _ 46 rfl rfl (Pred.waits_near (by kernel_rfl) (by kernel_rfl))
          obtain ⟨r51, j51⟩ : PredT.At 0 (.int .i64 y) (b.tmps[51]?.getD undef) X 0 := hV 10 _ 51 rfl rfl (Pred.waits_near (by kernel_rfl) (by kernel_rfl))
          replace hS : (fun y => ∃ v1 v2, TwoR y w.heap.size v1 l (w.heap.size + 1) v2 l) X := hS
          obtain ⟨v1, v2, T⟩ := hS
          refine Pred.yields_call (f := 7) (args := #[.pointer (some ⟨w.heap.size, 0, none⟩), .int .i64 x, .int .i64 y]) (Pred.wanted_none rfl) (by go_simp) ?_
          refine (put_any w.heap.size v1 l x y X T.a hll2).mono ?_
          rintro e w9 ⟨v9, rfl, W9, F9⟩
          exact ⟨_, rfl, FrW.below F9 T.a (Nat.le_refl _), ⟨v9, v2, T.left (by rw [HL2.out]; exact W9) F9⟩, rfl, Nat.le_refl _⟩
        · refine ⟨_, rfl, fun k hk => (by cases hk; exact Pred.waits_near (by kernel_rfl) (by kernel_rfl)), fun b X hE hd hn hS hV hI => ?_⟩
          obtain ⟨r53, j53⟩ : PredT.At 0 (.pointer (some ⟨w.heap.size + 1, 0, none⟩)) (b.tmps[53]?.getD undef) X 1 := hV 12 _ 53 rfl rfl (Pred.waits_near (by kernel_rfl) (by kernel_rfl))
          obtain ⟨r58, j58⟩ : PredT.At 0 (.int .i64 x) (b.tmps[58]?.getD undef) X 1 := hV 17 _ 58 rfl rfl (Pred.waits_near (by kernel_rfl) (by kernel_rfl))
          obtain ⟨r63, j63⟩ : PredT.At 0 (.int .i64 y) (b.tmps[63]?.getD undef) X 1 := hV 22 _ 63 rfl rfl (Pred.waits_near (by kernel_rfl) (by kernel_rfl))
          replace hS : (fun y => ∃ v1 v2, TwoR y w.heap.size v1 l2 (w.heap.size + 1) v2 l) X := hS
          obtain ⟨v1, v2, T⟩ := hS
          refine Pred.yields_call (f := 8) (args := #[.pointer (some ⟨w.heap.size + 1, 0, none⟩), .int .i64 x, .int .i64 y]) (Pred.wanted_none rfl) (by go_simp) ?_
          refine (rput_any (w.heap.size + 1) v2 l x y X T.b hll2).mono ?_
          rintro e w9 ⟨v9, rfl, W9, F9⟩
          exact ⟨_, rfl, FrB.below F9 T.b (by omega), ⟨v1, v9, T.right (by rw [HL2.out]; exact W9) F9⟩, rfl, Nat.le_refl _⟩
      intro v X hE hS hv
      replace hS : (fun y => ∃ v1 v2, TwoR y w.heap.size v1 l2 (w.heap.size + 1) v2 l2) X := hS
      have e0 : v 0 = .pointer (some ⟨w.heap.size, 0, none⟩) := (hv 0 _ 41 rfl rfl).1
      have e1 : v 1 = .slice (some ⟨ab, ao, none⟩) len0 cap0 := (hv 1 _ 42 rfl rfl).1
      have e2 : v 2 = .int .i64 k := (hv 2 _ 43 rfl rfl).1
      have e3 : v 3 = .pointer (some ⟨ab, ao + k * 2, none⟩) := (hv 3 _ 44 rfl rfl).1
      have e4 : v 4 = .pointer (some ⟨ab, ao + k * 2, none⟩) := (hv 4 _ 45 rfl rfl).1
      have e5 : v 5 = .int .i64 x := (hv 5 _ 46 rfl rfl).1
      have e6 : v 6 = .slice (some ⟨ab, ao, none⟩) len0 cap0 := (hv 6 _ 47 rfl rfl).1
      have e7 : v 7 = .int .i64 k := (hv 7 _ 48 rfl rfl).1
      have e8 : v 8 = .pointer (some ⟨ab, ao + k * 2, none⟩) := (hv 8 _ 49 rfl rfl).1
      have e9 : v 9 = .pointer (some ⟨ab, ao + k * 2 + 1, none⟩) := (hv 9 _ 50 rfl rfl).1
      have e10 : v 10 = .int .i64 y := (hv 10 _ 51 rfl rfl).1
      have e11 : v 11 = .int .i64 (codeP x y) := (hv 11 _ 52 rfl rfl).1
      have e12 : v 12 = .pointer (some ⟨w.heap.size + 1, 0, none⟩) := (hv 12 _ 53 rfl rfl).1
      have e13 : v 13 = .slice (some ⟨ab, ao, none⟩) len0 cap0 := (hv 13 _ 54 rfl rfl).1
      have e14 : v 14 = .int .i64 k := (hv 14 _ 55 rfl rfl).1
      have e15 : v 15 = .pointer (some ⟨ab, ao + k * 2, none⟩) := (hv 15 _ 56 rfl rfl).1
      have e16 : v 16 = .pointer (some ⟨ab, ao + k * 2, none⟩) := (hv 16 _ 57 rfl rfl).1
      have e17 : v 17 = .int .i64 x := (hv 17 _ 58 rfl rfl).1
      have e18 : v 18 = .slice (some ⟨ab, ao, none⟩) len0 cap0 := (hv 18 _ 59 rfl rfl).1
      have e19 : v 19 = .int .i64 k := (hv 19 _ 60 rfl rfl).1
      have e20 : v 20 = .pointer (some ⟨ab, ao + k * 2, none⟩) := (hv 20 _ 61 rfl rfl).1
      have e21 : v 21 = .pointer (some ⟨ab, ao + k * 2 + 1, none⟩) := (hv 21 _ 62 rfl rfl).1
      have e22 : v 22 = .int .i64 y := (hv 22 _ 63 rfl rfl).1
      have e23 : v 23 = .int .i64 (codeP x y) := (hv 23 _ 64 rfl rfl).1
      have e24 : v 24 = .bool false := (hv 24 _ 65 rfl rfl).1
      have e25 : v 25 = .bool false := (hv 25 _ 66 rfl rfl).1
      have e26 : v 26 = .pointer (some ⟨w.heap.size, 0, none⟩) := (hv 26 _ 67 rfl rfl).1
      have e27 : v 27 = .int .i64 (l2.length : Nat) := (hv 27 _ 68 rfl rfl).1
      have e28 : v 28 = .pointer (some ⟨w.heap.size + 1, 0, none⟩) := (hv 28 _ 69 rfl rfl).1
      have e29 : v 29 = .pointer (some ⟨w.heap.size + 1, 0, none⟩) := (hv 29 _ 70 rfl rfl).1
      have e30 : v 30 = .pointer (some ⟨w.heap.size + 1, 0, none⟩) := (hv 30 _ 71 rfl rfl).1
      obtain ⟨⟨aa31, cc31, e31⟩, -⟩ : PredT.Len 2 (l2.length) (v 31) X _ := hv 31 _ 72 rfl rfl
      have e32 : v 32 = .int .i64 (l2.length : Nat) := (hv 32 _ 73 rfl rfl).1
      have e33 : v 33 = .bool false := (hv 33 _ 74 rfl rfl).1
      have e34 : v 34 = .bool false := (hv 34 _ 75 rfl rfl).1
      simp only [Pred.putsF_cons, Pred.putsF_nil, Nat.zero_add, Nat.reduceAdd, e0, e1, e2, e3, e4, e5, e6, e7, e8, e9, e10, e11, e12, e13, e14, e15, e16, e17, e18, e19, e20, e21, e22, e23, e24, e25, e26, e27, e28, e29, e30, e31, e32, e33, e34, Act.put, List.setIfInBounds_toArray, List.set_cons_zero, List.set_cons_succ]
      clear e0 e1 e2 e3 e4 e5 e6 e7 e8 e9 e10 e11 e12 e13 e14 e15 e16 e17 e18 e19 e20 e21 e22 e23 e24 e25 e26 e27 e28 e29 e30 e31 e32 e33 e34 hv
      have LX : Below w.heap.size w X := hb.trans hE
      go_wp2
      go_roundw
      case rel => exact ⟨k + 1, by omega, by go_num, by rw [HE.out]; exact hS, LX⟩
      case measure => simp [intOf]; omega
    · obtain rfl : k = len0 := by omega
      have hll := putsL_len zs k
      have HBb := HB.out.below hb (Nat.le_refl _)
      go_wp2_with fail
      refine (read_any a1 bs.length cap1 bs _ HBb (by omega)).mono ?_
      rintro e w2 ⟨q, v3, rfl, hq, R2, hv3, b2⟩
      have L2 : Below w.heap.size w w2 := hb.trans (b2.mono hb.size)
      have hqs : q < w2.heap.size := blk_lt R2.blk
      have hqw : w.heap.size ≤ q := Nat.le_trans hb.size hq
      have H2 := Lib.hid (show ∃ v1 v2, TwoR w2 w.heap.size v1 (putsL zs k) (w.heap.size + 1) v2 (putsL zs k) by obtain ⟨v1, v2, T⟩ := HT.out; exact ⟨v1, v2, T.below b2⟩)
      have H3 := Lib.hid R2
      have hv5 : ∀ u : Unit, v3.ownBlock ≠ some w2.heap.size := fun _ e => by have := (R2.row.lt _ e).2; omega
      have hbs2 : ∀ b o, a1 = some ⟨b, o, none⟩ → bs.length ≠ 0 → b < w.heap.size := by
        intro b o e hn
        rcases HB.out.2 with h | ⟨b2, o2, e2, h2, -⟩
        · exact absurd h hn
        · rw [e] at e2; cases e2; exact h2
      clear HBb b2 HT hb hq R2
      go_upto_region 10 with (fail)
      refine Rd.name_world ?_
      intro W hW
      have hB2 : Below w2.heap.size w2 W := by rw [hW]; repeat' (first | (with_reducible exact Below.refl _ _) | (with_reducible refine Rd.below_step ?_ (by assumption)) | (with_reducible refine Rd.below_alloc ?_ _) | (with_reducible refine Rd.below_drewN ?_ _) | (with_reducible refine Below.drew ?_) | (with_reducible refine Below.setCell ?_ ?_ _) | (with_reducible refine Rd.below_setRow ?_ ?_ _) | go_size | (simp only [World.size_alloc]; omega) | omega)
      have hSb : blk W w2.heap.size = some (.cells #[.slice a1 bs.length cap1, .int .i64 0] 41 (0, 0)) := by rw [hW]; exact blk_alloc_at _ _ _ rfl
      have LW : Below w.heap.size w W := L2.trans (hB2.mono L2.size)
      have R2 := H3.out.below hB2
      have hpk := putsL_len zs k
      have T2 : ∃ v1 v2, TwoR W w.heap.size v1 (putsL zs k) (w.heap.size + 1) v2 (putsL zs k) := by obtain ⟨v1, v2, T⟩ := H2.out; exact ⟨v1, v2, T.below hB2⟩
      obtain ⟨v1, v2, T2⟩ := T2
      have hb8 := pack_b8 T2.a.2
      clear hW H2 H3 hB2
      obtain ⟨ll, hllq⟩ : ∃ ll, ll = putsL zs k := ⟨_, rfl⟩
      rw [← hllq] at T2 hpk hb8
      have hll5 : ll.length ≤ 100000 := by omega
      clear hllq hpk
      refine Pred.region_vals (Pred.Of [
          Is (.pointer (some ⟨q, 0, none⟩)),
          Is (.bool false),
          Is (.bool false),
          Is (.pointer (some ⟨w.heap.size, 0, none⟩)),
          Rds (pack ll),
          Is (.string (bytesOf (pack ll))),
          Is (.pointer (some ⟨w.heap.size + 1, 0, none⟩)),
          Rds (pack ll),
          Is (.string (bytesOf (pack ll))),
          Is (.bool false),
          Is (.bool false)]) (by kernel_rfl) (by kernel_rfl) (by kernel_rfl) (Pred.of_stab ?_) ?_ ?_
      · exact ⟨is_stab _, is_stab _, is_stab _, is_stab _, rds_stab _, is_stab _, is_stab _, rds_stab _, is_stab _, is_stab _, is_stab _, trivial⟩
      · refine ⟨?_, ?_, ?_, ?_, ?_, ?_, ?_, ?_, ?_, ?_, ?_, trivial⟩
        · intro b X hE hd hn hV
          have r10 : b.tmps[10]?.getD undef = .pointer (some ⟨q, 0, none⟩) := (hn 10 (by kernel_rfl)).trans rfl
          exact Pred.yields_run (v := .pointer (some ⟨q, 0, none⟩)) (Pred.wanted_none rfl) (by go_simp) ⟨Pred.ext_refl _ _, rfl⟩
        · intro b X hE hd hn hV
          have r81 : b.tmps[81]?.getD undef = .pointer (some ⟨q, 0, none⟩) := hV 0 _ 81 rfl rfl (Pred.waits_near (by kernel_rfl) (by kernel_rfl))
          exact Pred.yields_run (v := .bool false) (Pred.wanted_none rfl) (by go_simp) ⟨Pred.ext_refl _ _, rfl⟩
        · intro b X hE hd hn hV
          have r82 : b.tmps[82]?.getD undef = .bool false := hV 1 _ 82 rfl rfl (Pred.waits_near (by kernel_rfl) (by kernel_rfl))
          exact Pred.yields_run (v := .bool false) (Pred.wanted_none rfl) (by go_simp) ⟨Pred.ext_refl _ _, rfl⟩
        · intro b X hE hd hn hV
          have r7 : b.tmps[7]?.getD undef = .pointer (some ⟨w.heap.size, 0, none⟩) := (hn 7 (by kernel_rfl)).trans rfl
          have r83 : b.tmps[83]?.getD undef = .bool false := hV 2 _ 83 rfl rfl (Pred.waits_near (by kernel_rfl) (by kernel_rfl))
          exact Pred.yields_run (v := .pointer (some ⟨w.heap.size, 0, none⟩)) ((Pred.wanted_at (g := 2) (d := 83) (f := false) rfl rfl r83).trans rfl) (by go_simp) ⟨Pred.ext_refl _ _, rfl⟩
        · intro b X hE hd hn hV
          have r84 : b.tmps[84]?.getD undef = .pointer (some ⟨w.heap.size, 0, none⟩) := hV 3 _ 84 rfl rfl (Pred.waits_near (by kernel_rfl) (by kernel_rfl))
          have r83 : b.tmps[83]?.getD undef = .bool false := hV 2 _ 83 rfl rfl (Pred.waits_near (by kernel_rfl) (by kernel_rfl))
          refine Pred.yields_call (f := 11) (args := #[.pointer (some ⟨w.heap.size, 0, none⟩)]) ((Pred.wanted_at (g := 2) (d := 83) (f := false) rfl rfl r83).trans rfl) (by go_simp) ?_
          refine (bytes_any _ _ _ _ (Wr.below T2.a hE) hll5).mono ?_
          rintro e w9 ⟨v, he, hown, hb⟩
          obtain ⟨av, cv, rfl, h1, h2⟩ := owns_val hown
          exact ⟨_, he, Pred.ext_below hb hE.size, _, _, _, rfl, Reads.of_owns hown⟩
        · intro b X hE hd hn hV
          obtain ⟨ga85, n85, c85, r85, hr85⟩ : Rds (pack ll) (b.tmps[85]?.getD undef) X := hV 4 _ 85 rfl rfl (Pred.waits_near (by kernel_rfl) (by kernel_rfl))
          have r83 : b.tmps[83]?.getD undef = .bool false := hV 2 _ 83 rfl rfl (Pred.waits_near (by kernel_rfl) (by kernel_rfl))
          have hc := conv_reads (P := Try.prog) (src := 23) (dst := 9) (cap := c85) Try.underlying23 Try.underlying5 Try.underlying9 hr85 hb8
          exact Pred.yields_run (v := .string (bytesOf (pack ll))) ((Pred.wanted_at (g := 2) (d := 83) (f := false) rfl rfl r83).trans rfl) (by go_simp) ⟨Pred.ext_refl _ _, rfl⟩
        · intro b X hE hd hn hV
          have r8 : b.tmps[8]?.getD undef = .pointer (some ⟨w.heap.size + 1, 0, none⟩) := (hn 8 (by kernel_rfl)).trans rfl
          have r83 : b.tmps[83]?.getD undef = .bool false := hV 2 _ 83 rfl rfl (Pred.waits_near (by kernel_rfl) (by kernel_rfl))
          exact Pred.yields_run (v := .pointer (some ⟨w.heap.size + 1, 0, none⟩)) ((Pred.wanted_at (g := 2) (d := 83) (f := false) rfl rfl r83).trans rfl) (by go_simp) ⟨Pred.ext_refl _ _, rfl⟩
        · intro b X hE hd hn hV
          have r87 : b.tmps[87]?.getD undef = .pointer (some ⟨w.heap.size + 1, 0, none⟩) := hV 6 _ 87 rfl rfl (Pred.waits_near (by kernel_rfl) (by kernel_rfl))
          have r83 : b.tmps[83]?.getD undef = .bool false := hV 2 _ 83 rfl rfl (Pred.waits_near (by kernel_rfl) (by kernel_rfl))
          refine Pred.yields_call (f := 12) (args := #[.pointer (some ⟨w.heap.size + 1, 0, none⟩)]) ((Pred.wanted_at (g := 2) (d := 83) (f := false) rfl rfl r83).trans rfl) (by go_simp) ?_
          refine (rbytes_any _ _ _ _ (RB.below T2.b hE) hll5).mono ?_
          rintro e w9 ⟨v, he, hown, hb⟩
          obtain ⟨av, cv, rfl, h1, h2⟩ := owns_val hown
          exact ⟨_, he, Pred.ext_below hb hE.size, _, _, _, rfl, Reads.of_owns hown⟩
        · intro b X hE hd hn hV
          obtain ⟨ga88, n88, c88, r88, hr88⟩ : Rds (pack ll) (b.tmps[88]?.getD undef) X := hV 7 _ 88 rfl rfl (Pred.waits_near (by kernel_rfl) (by kernel_rfl))
          have r83 : b.tmps[83]?.getD undef = .bool false := hV 2 _ 83 rfl rfl (Pred.waits_near (by kernel_rfl) (by kernel_rfl))
          have hc := conv_reads (P := Try.prog) (src := 23) (dst := 9) (cap := c88) Try.underlying23 Try.underlying5 Try.underlying9 hr88 hb8
          exact Pred.yields_run (v := .string (bytesOf (pack ll))) ((Pred.wanted_at (g := 2) (d := 83) (f := false) rfl rfl r83).trans rfl) (by go_simp) ⟨Pred.ext_refl _ _, rfl⟩
        · intro b X hE hd hn hV
          have r86 : b.tmps[86]?.getD undef = .string (bytesOf (pack ll)) := hV 5 _ 86 rfl rfl (Pred.waits_near (by kernel_rfl) (by kernel_rfl))
          have r89 : b.tmps[89]?.getD undef = .string (bytesOf (pack ll)) := hV 8 _ 89 rfl rfl (Pred.waits_near (by kernel_rfl) (by kernel_rfl))
          have r83 : b.tmps[83]?.getD undef = .bool false := hV 2 _ 83 rfl rfl (Pred.waits_near (by kernel_rfl) (by kernel_rfl))
          exact Pred.yields_run (v := .bool false) ((Pred.wanted_at (g := 2) (d := 83) (f := false) rfl rfl r83).trans rfl) (by go_simp) ⟨Pred.ext_refl _ _, rfl⟩
        · intro b X hE hd hn hV
          have r83 : b.tmps[83]?.getD undef = .bool false := hV 2 _ 83 rfl rfl (Pred.waits_near (by kernel_rfl) (by kernel_rfl))
          have r90 : b.tmps[90]?.getD undef = .bool false := hV 9 _ 90 rfl rfl (Pred.waits_near (by kernel_rfl) (by kernel_rfl))
          exact Pred.yields_run (v := .bool false) (Pred.wanted_none rfl) (by go_simp) ⟨Pred.ext_refl _ _, rfl⟩
      intro v X hE hv
      have e0 : v 0 = .pointer (some ⟨q, 0, none⟩) := hv 0 _ 81 rfl rfl
      have e1 : v 1 = .bool false := hv 1 _ 82 rfl rfl
      have e2 : v 2 = .bool false := hv 2 _ 83 rfl rfl
      have e3 : v 3 = .pointer (some ⟨w.heap.size, 0, none⟩) := hv 3 _ 84 rfl rfl
      obtain ⟨ga4, n4, c4, e4, hr4⟩ : Rds (pack ll) (v 4) X := hv 4 _ 85 rfl rfl
      have e5 : v 5 = .string (bytesOf (pack ll)) := hv 5 _ 86 rfl rfl
      have e6 : v 6 = .pointer (some ⟨w.heap.size + 1, 0, none⟩) := hv 6 _ 87 rfl rfl
      obtain ⟨ga7, n7, c7, e7, hr7⟩ : Rds (pack ll) (v 7) X := hv 7 _ 88 rfl rfl
      have e8 : v 8 = .string (bytesOf (pack ll)) := hv 8 _ 89 rfl rfl
      have e9 : v 9 = .bool false := hv 9 _ 90 rfl rfl
      have e10 : v 10 = .bool false := hv 10 _ 91 rfl rfl
      simp only [Pred.putsF_cons, Pred.putsF_nil, Nat.zero_add, Nat.reduceAdd, e0, e1, e2, e3, e4, e5, e6, e7, e8, e9, e10, Act.put, List.setIfInBounds_toArray, List.set_cons_zero, List.set_cons_succ]
      clear e0 e1 e2 e3 e4 e5 e6 e7 e8 e9 e10 hv
      have R3 := Lib.hid (R2.below hE)
      have hWs : w2.heap.size < W.heap.size := blk_lt hSb
      have S3 : SSt X w2.heap.size a1 cap1 bs 0 := by
        refine ⟨(hE.block _ hWs).trans hSb, HB.out.below (LW.trans (hE.mono LW.size)) (Nat.le_refl _), ?_⟩
        intro b o e h0 hbq
        have := hbs2 b o e h0
        have := L2.size
        omega
      have L3 : Below w.heap.size w X := LW.trans (hE.mono LW.size)
      have S3H := Lib.hid S3
      have hqX : q < X.heap.size := blk_lt R3.out.blk
      have hsX : w2.heap.size < X.heap.size := blk_lt S3.blk
      have hw2 := L2.size
      have hv4 : v3.ownBlock ≠ some w2.heap.size := hv5 ()
      clear T2 R2 hb8 hll5 hr4 hr7 hE hSb LW S3
      go_wp2_with fail
      go_loopw [12] (fun i wr => ∃ j : Nat, j ≤ len2 ∧ i = .int .i64 j ∧ ∃ t : Nat, t ≤ 8 * bs.length ∧ Hid (RSt wr q v3 bs t) ∧ Hid (SSt wr w2.heap.size a1 cap1 bs t) ∧ Below w.heap.size w wr) (fun i _ => len2 - (intOf i).toNat)
      case atStart => exact ⟨0, Nat.zero_le _, rfl, 0, Nat.zero_le _, R3, S3H, L3⟩
      case round =>
        obtain ⟨j, hj, rfl, t, ht, HR, HS, hb⟩ := hrel
        have hqr : q < wr.heap.size := blk_lt HR.out.blk
        have hsr : w2.heap.size < wr.heap.size := blk_lt HS.out.blk
        by_cases hlt : j < len2
        · have hlt' : (j : Int) < (len2 : Int) := by omega
          have hgl := HGL.out
          obtain ⟨ag, go, rfl, hag, hac⟩ := Ints.cell_of HG.out (k := j) (by omega) (by omega)
          have cg := hac j (by omega)
          have dg := (hb.cell (p := ⟨ag, go + j, none⟩) hag).trans cg
          clear hac hgl
          generalize gs.getD j 0 = n at cg dg
          have hfar : ∀ b o, a1 = some ⟨b, o, none⟩ → bs.length ≠ 0 → b ≠ q := fun b o e h0 => by have := hbs2 b o e h0; omega
          go_wp2_with fail
          refine (get_any q v3 bs t n wr HR.out HBZ.out ht (by omega)).mono ?_
          rintro e w4 ⟨rfl, R4, F4⟩
          have L4 : Below w.heap.size w w4 := hb.trans (FrQ.below F4 hqw (Nat.le_of_lt hqr))
          have S4 := HS.out.far_of F4 (by omega) hfar
          have hs4 := F4.size
          have dg4 := (L4.cell (p := ⟨ag, go + j, none⟩) hag).trans cg
          clear HR HS F4 dg
          go_wp2_with fail
          refine (rget_any w2.heap.size a1 cap1 bs t n w4 S4 HBZ.out ht (by omega)).mono ?_
          rintro e w5 ⟨rfl, S5, F5⟩
          have L5 : Below w.heap.size w w5 := L4.trans (FrQ.below F5 hw2 (by omega))
          have R5 := RSt_far R4 F5 (by omega) hv4
          have hs5 := F5.size
          have ht5 := gotA_le n ht
          clear R4 S4 F5 dg4
          generalize gotA bs t n = t2 at R5 S5 ht5
          generalize gotV bs t n = gv
          generalize gotE bs t n = ge
          go_wp2_with fail
          refine (left_any q v3 bs t2 _ R5 ht5 (by omega)).mono ?_
          rintro e w6 ⟨rfl, b6⟩
          have R6 := R5.below b6
          have S6 := S5.below b6
          have L6 : Below w.heap.size w w6 := L5.trans (b6.mono L5.size)
          clear R5 S5 b6
          go_wp2_with fail
          refine (rleft_any _ a1 cap1 bs t2 _ S6 ht5 (by omega)).mono ?_
          rintro e w7 ⟨rfl, b7⟩
          have R7 := R6.below b7
          have S7 := S6.below b7
          have L7 : Below w.heap.size w w7 := L6.trans (b7.mono L6.size)
          clear R6 S6 b7
          go_wp2_with fail
          refine (rest_any q v3 bs t2 _ R7 HBZ.out ht5 (by omega)).mono ?_
          rintro e w8 ⟨⟨r8, rfl, hr8⟩, b8⟩
          have R8 := R7.below b8
          have S8 := S7.below b8
          have L8 : Below w.heap.size w w8 := L7.trans (b8.mono L7.size)
          clear R7 S7 b8
          go_wp2_with fail
          refine (rrest_any _ a1 cap1 bs t2 _ S8 HBZ.out ht5 (by omega)).mono ?_
          rintro e w9 ⟨⟨r9, rfl, hr9⟩, b9⟩
          have R9 := R8.below b9
          have S9 := S8.below b9
          have L9 : Below w.heap.size w w9 := L8.trans (b9.mono L8.size)
          have hrr : r9 = r8 := by
            rcases hr8 with ⟨h1, h2⟩ | ⟨h1, h2⟩
            · rcases hr9 with ⟨h3, h4⟩ | ⟨h3, h4⟩
              · rw [h2, h4]
              · exact absurd h1 h3
            · rcases hr9 with ⟨h3, h4⟩ | ⟨h3, h4⟩
              · exact absurd h3 h1
              · rw [h2, h4]
          subst hrr
          clear R8 S8 b9 hr8 hr9
          go_wp2
          go_roundw
          case rel => exact ⟨j + 1, by omega, by go_num, t2, ht5, R9, S9, L9⟩
          case measure => simp [intOf]; omega
        · obtain rfl : j = len2 := by omega
          go_wp2_with fail
          refine (awake_any _).mono ?_
          rintro e w4 ⟨rfl, b4⟩
          have L4 : Below w.heap.size w w4 := hb.trans (b4.mono hb.size)
          go_wp2
          go_ret
          exact ⟨rfl, L4⟩
end Go.Proofs.Ytgkcmnconogonaa.BitK

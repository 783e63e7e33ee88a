/-
  The walk of PageOrder.
-/
import Derived.Test.YtnigilommckmlaaPgH
import Derived.Test.YtnigilommckmlaaAlike
namespace Go.Proofs.Ytnigilommckmlaa.PgI
open Go.RowKit Go.Shelf Rd Go.Proofs.Ytnigilommckmlaa.Row Mid PgM PgA PgB PgC PgD PgE PgF PgG PgH
open Go.Proofs.Ytnigilommckmlaa.Pred (Is is_stab Stab)
set_option linter.unusedVariables false
set_option linter.unusedSimpArgs false
set_option maxRecDepth 10000
def keyL (n : Int) (v : List Int) : Int := keyV n (PgM.g v 0) (PgM.g v 1) (PgM.g v 2)
theorem keys0 : ∀ i, i < 1 → keyL 0 (at_ (allV 0) i) = (i : Int) := by decide +kernel
theorem keys1 : ∀ i, i < 5 → keyL 1 (at_ (allV 1) i) = (i : Int) := by decide +kernel
theorem keys2 : ∀ i, i < 21 → keyL 2 (at_ (allV 2) i) = (i : Int) := by decide +kernel
theorem keys3 : ∀ i, i < 85 → keyL 3 (at_ (allV 3) i) = (i : Int) := by decide +kernel
theorem n4 {n : Nat} (h : n ≤ 3) : n = 0 ∨ n = 1 ∨ n = 2 ∨ n = 3 := by omega
theorem len0 : (allV 0).length = 1 := by decide +kernel
theorem len1 : (allV 1).length = 5 := by decide +kernel
theorem len2 : (allV 2).length = 21 := by decide +kernel
theorem len3' : (allV 3).length = 85 := by decide +kernel
theorem keys (n i : Nat) (hn : n ≤ 3) (hi : i < (allV n).length) : keyL n (at_ (allV n) i) = (i : Int) := by
  rcases n4 hn with rfl | rfl | rfl | rfl
  · exact keys0 i (Nat.lt_of_lt_of_eq hi len0)
  · exact keys1 i (Nat.lt_of_lt_of_eq hi len1)
  · exact keys2 i (Nat.lt_of_lt_of_eq hi len2)
  · exact keys3 i (Nat.lt_of_lt_of_eq hi len3')
theorem page_key {n i : Nat} (hn : n ≤ 3) (hi : i < (allV n).length) : ∃ x0 x1 x2, at_ (allV n) i = [x0, x1, x2] ∧ keyV n x0 x1 x2 = (i : Int) := by
  obtain ⟨x0, x1, x2, e⟩ := len3 (three_all n (at_ (allV n) i) (by rw [at_eq hi]; exact List.getElem_mem _))
  have := keys n i hn hi
  rw [e] at this
  exact ⟨x0, x1, x2, e, this⟩
theorem key_valid {d L X Y : Int} {i : Nat} (h : keyV d L X Y = (i : Int)) : validB d L X Y = true := by
  cases hv : validB d L X Y with
  | true => rfl
  | false => rw [keyV_no hv] at h; omega
theorem key_front {d L X Y : Int} (h : validB d L X Y = true) : frontV d L ≤ keyV d L X Y ∧ keyV d L X Y < frontV d L + sd d L * sd d L := by
  rw [keyV_yes h]
  obtain ⟨⟨h1, h2⟩, ⟨h3, h4⟩, ⟨h5, h6⟩, ⟨h7, h8⟩⟩ := valid_yes h
  obtain ⟨s, es⟩ : ∃ s, sd d L = s := ⟨_, rfl⟩
  have b := sd_bd h3 h4 h2
  rw [es] at h6 h8 b ⊢
  have hs : s = 1 ∨ s = 2 ∨ s = 3 ∨ s = 4 ∨ s = 5 ∨ s = 6 ∨ s = 7 ∨ s = 8 := by omega
  rcases hs with rfl | rfl | rfl | rfl | rfl | rfl | rfl | rfl <;> omega
theorem front_mono {d l : Int} {j : Nat} : ∀ (m : Nat), 0 ≤ l → l + m + 1 ≤ d → d ≤ 3 → frontV d (l + m + 1) + sd d (l + m + 1) * sd d (l + m + 1) ≤ frontV d l := by
  intro m
  induction m with
  | zero =>
    intro h0 h1 h2
    have := front_step (d := d) (l := l + 1) (by omega) (by omega) h2
    rw [show l + 1 - 1 = l by omega] at this
    rw [show l + ((0 : Nat) : Int) + 1 = l + 1 by omega]
    omega
  | succ m ih =>
    intro h0 h1 h2
    have h3 := ih h0 (by omega) h2
    have := front_step (d := d) (l := l + m + 1 + 1) (by omega) (by omega) h2
    rw [show l + m + 1 + 1 - 1 = l + m + 1 by omega] at this
    have hb : 0 ≤ sd d (l + m + 1) * sd d (l + m + 1) := by
      have b := sd_bd (d := d) (l := l + m + 1) (by omega) (by omega) h2
      exact Int.mul_nonneg (by omega) (by omega)
    rw [show l + ((m + 1 : Nat) : Int) + 1 = l + m + 1 + 1 by omega]
    omega
theorem order_L {d L X Y L' X' Y' : Int} {i k : Nat} (h : keyV d L X Y = (i : Int)) (h' : keyV d L' X' Y' = (k : Int)) (hl : L < L') : k < i := by
  have v := key_valid h
  have v' := key_valid h'
  have f := key_front v
  have f' := key_front v'
  obtain ⟨⟨h1, h2⟩, ⟨h3, h4⟩, _, _⟩ := valid_yes v
  obtain ⟨_, ⟨h5, h6⟩, _, _⟩ := valid_yes v'
  obtain ⟨m, hm⟩ : ∃ m : Nat, L' = L + m + 1 := ⟨(L' - L - 1).toNat, by omega⟩
  have := front_mono (j := 0) (d := d) (l := L) m h3 (by omega) h2
  rw [← hm] at this
  omega
theorem cmp_is (a b : Int) : (cmpV a b == -1) = decide (a < b) ∧ (cmpV a b == 0) = (a == b) ∧ (b < a → cmpV a b = 1) := by
  unfold cmpV
  by_cases h1 : a < b
  · rw [if_pos h1]
    refine ⟨by simp [h1], ?_, fun h => by omega⟩
    have : ¬ a = b := by omega
    simp [this]
  · by_cases h2 : b < a
    · rw [if_neg h1, if_pos h2]
      refine ⟨by simp [h1], ?_, fun _ => rfl⟩
      have : ¬ a = b := by omega
      simp [this]
    · rw [if_neg h1, if_neg h2]
      have : a = b := by omega
      exact ⟨by simp [h1], by simp [this], fun h => by omega⟩
theorem cut_all (d : Int) : cutV d (-1) = allV d := by
  unfold cutV cutB
  rw [if_neg (by simp)]
def CX3 (w : World) (b o i : Nat) (x0 x1 x2 : Int) : Prop := w.cell? ⟨b, o + i * 3, none⟩ = some (.int .i64 x0) ∧ w.cell? ⟨b, o + i * 3 + 1, none⟩ = some (.int .i64 x1) ∧ w.cell? ⟨b, o + i * 3 + 2, none⟩ = some (.int .i64 x2)
theorem cx_below {B : Nat} {w w' : World} {b o i : Nat} {x0 x1 x2 : Int} (hE : Below B w w') (hb : b < B) (h : CX3 w b o i x0 x1 x2) : CX3 w' b o i x0 x1 x2 :=
  ⟨(hE.cell (p := ⟨b, o + i * 3, none⟩) hb).trans h.1, (hE.cell (p := ⟨b, o + i * 3 + 1, none⟩) hb).trans h.2.1, (hE.cell (p := ⟨b, o + i * 3 + 2, none⟩) hb).trans h.2.2⟩
theorem wf_bd {a : Int} (h : (Lit.int .i64 a).wf = true) : -9223372036854775808 ≤ a ∧ a ≤ 9223372036854775807 := by
  simp [Lit.wf, IntKind.min, IntKind.max, IntKind.signed, IntKind.bits] at h
  omega
def sum4 (j : Nat) : Int := (((4 ^ j - 1) / 3 : Nat) : Int)
theorem sum_all (n : Nat) (hn : n ≤ 3) : sum4 (n + 1) = ((allV n).length : Int) := by
  rcases n4 hn with rfl | rfl | rfl | rfl <;> decide +kernel
attribute [local go_sem ↓] store_pg eq_pg3
attribute [local go_sem] one_int pc3 run_store_pg rowStore_eq blk_alloc_at blk_alloc_old blk_drew blk_drewN blk_set_far blk_set_far' blk_grow setRow_alloc_at setRow_alloc_old setRow_drew setRow_drewN
set_option maxHeartbeats 8000000 in
theorem order_gen (d a0 b0 : Int) (w : World) (hd1 : -9223372036854775808 ≤ d) (hd2 : d ≤ 9223372036854775807) (ha1 : -9223372036854775808 ≤ a0) (ha2 : a0 ≤ 9223372036854775807) (hb1 : -9223372036854775808 ≤ b0) (hb2 : b0 ≤ 9223372036854775807) :
    Calls Try.prog 5 #[.int .i64 d, .int .i64 a0, .int .i64 b0] w fun e w' => e = .returned (.bool true) ∧ Below w.heap.size w w' := by
  go_enter Try.func5, Try.ntmps5
  go_wp2_with fail
  refine (Alk.round_any d 4 _ hd1 hd2 (by omega) (by omega)).mono ?_
  rintro e w1 ⟨rfl, rfl⟩
  obtain ⟨n, en⟩ : ∃ n : Nat, d % 4 = n := ⟨(d % 4).toNat, by omega⟩
  have hn : n ≤ 3 := by omega
  rw [en]
  clear en
  go_wp2_with fail
  refine (lall_any n (-1) _).mono ?_
  rintro e w2 ⟨⟨ad, cp, rfl, hP⟩, hb2'⟩
  rw [cut_all] at hP ⊢
  have hcount := all_len (n : Int)
  have hsm := all_small (n : Int)
  have hS4 := Lib.hid (sum_all n hn)
  obtain ⟨N, hN⟩ : ∃ N, (allV (n : Int)).length = N := ⟨_, rfl⟩
  rw [hN] at hcount hsm hS4 ⊢
  have HN := Lib.hid hN
  have hpos : 1 ≤ N := by
    rw [← hN]
    rcases n4 hn with rfl | rfl | rfl | rfl <;> decide +kernel
  obtain ⟨ga, o, ea, hb0, hc⟩ : ∃ ga o, ad = some ⟨ga, o, none⟩ ∧ ga < w2.heap.size ∧ ∀ i, i < (allV (n : Int)).length → ∀ j, j < 3 → w2.cell? ⟨ga, o + i * 3 + j, none⟩ = some (.int .i64 (PgM.g (at_ (allV (n : Int)) i) j)) := by
    rcases hP.2 with h | h
    · rw [h] at hN; simp at hN; omega
    · exact h
  subst ea
  have HC := Lib.hid hc
  have L2 : Below w.heap.size w w2 := hb2'
  have CN : Hid (∀ X : World, Calls Try.prog 16 #[.int .i64 n] X fun e w' => e = .returned (.int .i64 N) ∧ Below X.heap.size X w') := fun X => by
    have := count_any n X
    rw [← hcount] at this
    exact this
  clear hb2' hP hc hN hcount
  go_wp2_with fail
  refine (CN.out _).mono ?_
  rintro e w3 ⟨rfl, hb3⟩
  have hC3 := Lib.hid (fun i (hi : i < N) j (hj : j < 3) => (hb3.cell (p := ⟨ga, o + i * 3 + j, none⟩) hb0).trans (HC.out i (by rw [HN.out]; exact hi) j hj))
  have L3 : Below w.heap.size w w3 := by repeat' (first | (with_reducible exact Below.refl _ _) | (with_reducible refine Rd.below_step ?_ (by assumption)) | (with_reducible refine Rd.below_alloc ?_ _) | (with_reducible refine Rd.below_drewN ?_ _) | (with_reducible refine Below.drew ?_) | (with_reducible refine Below.setCell ?_ ?_ _) | (with_reducible refine Rd.below_setRow ?_ ?_ _) | go_size | (simp only [World.size_alloc]; omega) | omega)
  have hb03 : ga < w3.heap.size := Nat.lt_of_lt_of_le hb0 hb3.size
  clear hb3 HC CN hb0 L2
  go_wp2_with fail
  refine (Alk.round_any a0 N _ ha1 ha2 (by omega) (by omega)).mono ?_
  rintro e w4 ⟨rfl, rfl⟩
  obtain ⟨i, ei⟩ : ∃ i : Nat, a0 % N = i := ⟨(a0 % N).toNat, by have := Int.emod_nonneg a0 (b := (N : Int)) (by omega); omega⟩
  have hi : i < N := by have := Int.emod_lt_of_pos a0 (b := (N : Int)) (by omega); omega
  rw [ei]
  clear ei
  go_wp2_with fail
  refine (Alk.round_any b0 N _ hb1 hb2 (by omega) (by omega)).mono ?_
  rintro e w4 ⟨rfl, rfl⟩
  obtain ⟨k, ek⟩ : ∃ k : Nat, b0 % N = k := ⟨(b0 % N).toNat, by have := Int.emod_nonneg b0 (b := (N : Int)) (by omega); omega⟩
  have hk : k < N := by have := Int.emod_lt_of_pos b0 (b := (N : Int)) (by omega); omega
  rw [ek]
  clear ek
  obtain ⟨x0, x1, x2, eX, kX⟩ := page_key hn (show i < (allV (n : Int)).length by rw [HN.out]; exact hi)
  obtain ⟨y0, y1, y2, eY, kY⟩ := page_key hn (show k < (allV (n : Int)).length by rw [HN.out]; exact hk)
  have L4 : CX3 w3 ga o i x0 x1 x2 ∧ CX3 w3 ga o k y0 y1 y2 := by
    have hx := fun j hj => hC3.out i hi j hj
    have hy := fun j hj => hC3.out k hk j hj
    rw [eX] at hx
    rw [eY] at hy
    exact ⟨⟨hx 0 (by omega), hx 1 (by omega), hx 2 (by omega)⟩, hy 0 (by omega), hy 1 (by omega), hy 2 (by omega)⟩
  have hci := cmp_is (i : Int) (k : Int)
  have hLk := Lib.hid (fun h => order_L kX kY (h : x0 < y0))
  obtain ⟨c, ec⟩ : ∃ c, cmpV (i : Int) (k : Int) = c := ⟨_, rfl⟩
  have CC : Hid (∀ X : World, Calls Try.prog 12 #[.int .i64 n, .agg #[.int .i64 x0, .int .i64 x1, .int .i64 x2], .agg #[.int .i64 y0, .int .i64 y1, .int .i64 y2]] X fun e w' => e = .returned (.int .i64 c) ∧ Below X.heap.size X w') := fun X => by
    have := cmp_any n x0 x1 x2 y0 y1 y2 X
    rw [kX, kY, ec] at this
    exact this
  have CK : Hid (∀ X : World, Calls Try.prog 15 #[.int .i64 n, .agg #[.int .i64 x0, .int .i64 x1, .int .i64 x2]] X fun e w' => e = .returned (.int .i64 i) ∧ Below X.heap.size X w') := fun X => by
    have := key_any n x0 x1 x2 X
    rw [kX] at this
    exact this
  have CA : Hid (∀ X : World, Calls Try.prog 7 #[.int .i64 n, .int .i64 i] X fun e w' => e = .returned (.tuple #[.agg #[.int .i64 x0, .int .i64 x1, .int .i64 x2], .bool true]) ∧ Below X.heap.size X w') := fun X => by
    have := at_any n i X
    have hr : 0 ≤ (i : Int) ∧ (i : Int) < countV n := by rw [← all_len, HN.out]; omega
    rw [show atV (n : Int) i = [x0, x1, x2] by unfold atV; rw [if_pos hr]; exact eX, show atB (n : Int) i = true from decide_eq_true hr] at this
    exact this
  rw [ec] at hci
  obtain ⟨B1, e1⟩ : ∃ q, decide ((i : Int) < k) = q := ⟨_, rfl⟩
  obtain ⟨B2, e2⟩ : ∃ q, ((i : Int) == (k : Int)) = q := ⟨_, rfl⟩
  rw [e1, e2] at hci
  obtain ⟨e3, e4, e5⟩ := hci
  have E5 := Lib.hid e5
  have CX := Lib.hid L4.1
  have CY := Lib.hid L4.2
  have hbb := hb03
  replace e1 : decide (i < k) = B1 := by rw [← e1]; simp
  clear eX eY kX kY ec e5 L4 hb03
  go_upto_region 6 with (fail)
  refine Pred.region_vals (Pred.Of [
      Is (.int .i64 (n : Int)),
      Is (.slice (some ⟨ga, o, none⟩) N cp),
      Is (.int .i64 (i : Int)),
      Is (.pointer (some ⟨ga, o + i * 3, none⟩)),
      Is (.agg #[.int .i64 x0, .int .i64 x1, .int .i64 x2]),
      Is (.slice (some ⟨ga, o, none⟩) N cp),
      Is (.int .i64 (k : Int)),
      Is (.pointer (some ⟨ga, o + k * 3, none⟩)),
      Is (.agg #[.int .i64 y0, .int .i64 y1, .int .i64 y2]),
      Is (.int .i64 c),
      Is (.int .i64 c)]) (by kernel_rfl) (by kernel_rfl) (by kernel_rfl) (Pred.of_stab ?_) ?_ ?_
  · exact ⟨is_stab _, is_stab _, is_stab _, is_stab _, is_stab _, is_stab _, is_stab _, is_stab _, is_stab _, is_stab _, is_stab _, trivial⟩
  · refine ⟨?_, ?_, ?_, ?_, ?_, ?_, ?_, ?_, ?_, ?_, ?_, trivial⟩
    · intro b X hE hd hn hV
      have r7 : b.tmps[7]?.getD undef = .int .i64 (n : Int) := (hn 7 (by kernel_rfl)).trans rfl
      exact Pred.yields_run (v := .int .i64 (n : Int)) (Pred.wanted_none rfl) (by go_simp) ⟨Pred.ext_refl _ _, rfl⟩
    · intro b X hE hd hn hV
      have r8 : b.tmps[8]?.getD undef = .slice (some ⟨ga, o, none⟩) N cp := (hn 8 (by kernel_rfl)).trans rfl
      exact Pred.yields_run (v := .slice (some ⟨ga, o, none⟩) N cp) (Pred.wanted_none rfl) (by go_simp) ⟨Pred.ext_refl _ _, rfl⟩
    · intro b X hE hd hn hV
      have r9 : b.tmps[9]?.getD undef = .int .i64 (i : Int) := (hn 9 (by kernel_rfl)).trans rfl
      exact Pred.yields_run (v := .int .i64 (i : Int)) (Pred.wanted_none rfl) (by go_simp) ⟨Pred.ext_refl _ _, rfl⟩
    · intro b X hE hd hn hV
      have r39 : b.tmps[39]?.getD undef = .slice (some ⟨ga, o, none⟩) N cp := hV 1 _ 39 rfl rfl (Pred.waits_near (by kernel_rfl) (by kernel_rfl))
      have r40 : b.tmps[40]?.getD undef = .int .i64 (i : Int) := hV 2 _ 40 rfl rfl (Pred.waits_near (by kernel_rfl) (by kernel_rfl))
      exact Pred.yields_run (v := .pointer (some ⟨ga, o + i * 3, none⟩)) (Pred.wanted_none rfl) (by go_simp) ⟨Pred.ext_refl _ _, rfl⟩
    · intro b X hE hd hn hV
      have r41 : b.tmps[41]?.getD undef = .pointer (some ⟨ga, o + i * 3, none⟩) := hV 3 _ 41 rfl rfl (Pred.waits_near (by kernel_rfl) (by kernel_rfl))
      obtain ⟨z0, z1, z2⟩ := cx_below hE hbb CX.out
      exact Pred.yields_run (v := .agg #[.int .i64 x0, .int .i64 x1, .int .i64 x2]) (Pred.wanted_none rfl) (by go_simp) ⟨Pred.ext_refl _ _, rfl⟩
    · intro b X hE hd hn hV
      have r8 : b.tmps[8]?.getD undef = .slice (some ⟨ga, o, none⟩) N cp := (hn 8 (by kernel_rfl)).trans rfl
      exact Pred.yields_run (v := .slice (some ⟨ga, o, none⟩) N cp) (Pred.wanted_none rfl) (by go_simp) ⟨Pred.ext_refl _ _, rfl⟩
    · intro b X hE hd hn hV
      have r10 : b.tmps[10]?.getD undef = .int .i64 (k : Int) := (hn 10 (by kernel_rfl)).trans rfl
      exact Pred.yields_run (v := .int .i64 (k : Int)) (Pred.wanted_none rfl) (by go_simp) ⟨Pred.ext_refl _ _, rfl⟩
    · intro b X hE hd hn hV
      have r43 : b.tmps[43]?.getD undef = .slice (some ⟨ga, o, none⟩) N cp := hV 5 _ 43 rfl rfl (Pred.waits_near (by kernel_rfl) (by kernel_rfl))
      have r44 : b.tmps[44]?.getD undef = .int .i64 (k : Int) := hV 6 _ 44 rfl rfl (Pred.waits_near (by kernel_rfl) (by kernel_rfl))
      exact Pred.yields_run (v := .pointer (some ⟨ga, o + k * 3, none⟩)) (Pred.wanted_none rfl) (by go_simp) ⟨Pred.ext_refl _ _, rfl⟩
    · intro b X hE hd hn hV
      have r45 : b.tmps[45]?.getD undef = .pointer (some ⟨ga, o + k * 3, none⟩) := hV 7 _ 45 rfl rfl (Pred.waits_near (by kernel_rfl) (by kernel_rfl))
      obtain ⟨z0, z1, z2⟩ := cx_below hE hbb CY.out
      exact Pred.yields_run (v := .agg #[.int .i64 y0, .int .i64 y1, .int .i64 y2]) (Pred.wanted_none rfl) (by go_simp) ⟨Pred.ext_refl _ _, rfl⟩
    · intro b X hE hd hn hV
      have r38 : b.tmps[38]?.getD undef = .int .i64 (n : Int) := hV 0 _ 38 rfl rfl (Pred.waits_near (by kernel_rfl) (by kernel_rfl))
      have r42 : b.tmps[42]?.getD undef = .agg #[.int .i64 x0, .int .i64 x1, .int .i64 x2] := hV 4 _ 42 rfl rfl (Pred.waits_near (by kernel_rfl) (by kernel_rfl))
      have r46 : b.tmps[46]?.getD undef = .agg #[.int .i64 y0, .int .i64 y1, .int .i64 y2] := hV 8 _ 46 rfl rfl (Pred.waits_near (by kernel_rfl) (by kernel_rfl))
      refine Pred.yields_call (f := 12) (args := #[.int .i64 n, .agg #[.int .i64 x0, .int .i64 x1, .int .i64 x2], .agg #[.int .i64 y0, .int .i64 y1, .int .i64 y2]]) (Pred.wanted_none rfl) (by go_simp) ?_
      exact (CC.out _).mono fun e w2 ⟨he, hb⟩ => ⟨_, he, Pred.ext_below hb hE.size, rfl⟩
    · intro b X hE hd hn hV
      have r47 : b.tmps[47]?.getD undef = .int .i64 c := hV 9 _ 47 rfl rfl (Pred.waits_near (by kernel_rfl) (by kernel_rfl))
      exact Pred.yields_run (v := .int .i64 c) (Pred.wanted_none rfl) (by go_simp) ⟨Pred.ext_refl _ _, rfl⟩
  intro v w5 hE hv
  have e0 : v 0 = .int .i64 (n : Int) := hv 0 _ 38 rfl rfl
  have e1 : v 1 = .slice (some ⟨ga, o, none⟩) N cp := hv 1 _ 39 rfl rfl
  have e2 : v 2 = .int .i64 (i : Int) := hv 2 _ 40 rfl rfl
  have e3 : v 3 = .pointer (some ⟨ga, o + i * 3, none⟩) := hv 3 _ 41 rfl rfl
  have e4 : v 4 = .agg #[.int .i64 x0, .int .i64 x1, .int .i64 x2] := hv 4 _ 42 rfl rfl
  have e5 : v 5 = .slice (some ⟨ga, o, none⟩) N cp := hv 5 _ 43 rfl rfl
  have e6 : v 6 = .int .i64 (k : Int) := hv 6 _ 44 rfl rfl
  have e7 : v 7 = .pointer (some ⟨ga, o + k * 3, none⟩) := hv 7 _ 45 rfl rfl
  have e8 : v 8 = .agg #[.int .i64 y0, .int .i64 y1, .int .i64 y2] := hv 8 _ 46 rfl rfl
  have e9 : v 9 = .int .i64 c := hv 9 _ 47 rfl rfl
  have e10 : v 10 = .int .i64 c := hv 10 _ 11 rfl rfl
  simp only [Pred.putsF_cons, Pred.putsF_nil, Nat.zero_add, Nat.reduceAdd, e0, e1, e2, e3, e4, e5, e6, e7, e8, e9, e10, Act.put, List.setIfInBounds_toArray, List.set_cons_zero, List.set_cons_succ]
  clear e0 e1 e2 e3 e4 e5 e6 e7 e8 e9 e10 hv
  have L5 : Below w.heap.size w w5 := by repeat' (first | (with_reducible exact Below.refl _ _) | (with_reducible refine Rd.below_step ?_ (by assumption)) | (with_reducible refine Rd.below_alloc ?_ _) | (with_reducible refine Rd.below_drewN ?_ _) | (with_reducible refine Below.drew ?_) | (with_reducible refine Below.setCell ?_ ?_ _) | (with_reducible refine Rd.below_setRow ?_ ?_ _) | go_size | (simp only [World.size_alloc]; omega) | omega)
  replace CX := Lib.hid (cx_below hE hbb CX.out)
  replace CY := Lib.hid (cx_below hE hbb CY.out)
  replace hbb : ga < w5.heap.size := Nat.lt_of_lt_of_le hbb hE.size
  clear hE L3 CC hC3
  go_upto_region 7 with (fail)
  obtain ⟨q, hq⟩ : ∃ q, decide (x0 < y0) = q := ⟨_, rfl⟩
  cases q
  case true =>
    have hc1 := E5.out (by have := hLk.out (of_decide_eq_true hq); omega)
    have d86 : (c != 1) = false := by rw [hc1]; rfl
    have d87 : (c == 1) = true := by rw [hc1]; rfl
    have d62 : (B1 != B1) = false := by simp
    have d70 : (B2 != B2) = false := by simp
    clear hc1
    refine Pred.region_vals (Pred.Of [
        Is (.int .i64 (n : Int)),
        Is (.slice (some ⟨ga, o, none⟩) N cp),
        Is (.int .i64 (i : Int)),
        Is (.pointer (some ⟨ga, o + i * 3, none⟩)),
        Is (.agg #[.int .i64 x0, .int .i64 x1, .int .i64 x2]),
        Is (.int .i64 i),
        Is (.int .i64 (i : Int)),
        Is (.bool false),
        Is (.bool false),
        Is (.int .i64 (i : Int)),
        Is (.int .i64 (k : Int)),
        Is (.bool B1),
        Is (.int .i64 c),
        Is (.bool B1),
        Is (.bool false),
        Is (.bool false),
        Is (.bool false),
        Is (.int .i64 (i : Int)),
        Is (.int .i64 (k : Int)),
        Is (.bool B2),
        Is (.int .i64 c),
        Is (.bool B2),
        Is (.bool false),
        Is (.bool false),
        Is (.bool false),
        Is (.slice (some ⟨ga, o, none⟩) N cp),
        Is (.int .i64 (i : Int)),
        Is (.pointer (some ⟨ga, o + i * 3, none⟩)),
        Is (.pointer (some ⟨ga, o + i * 3, none⟩)),
        Is (.int .i64 x0),
        Is (.slice (some ⟨ga, o, none⟩) N cp),
        Is (.int .i64 (k : Int)),
        Is (.pointer (some ⟨ga, o + k * 3, none⟩)),
        Is (.pointer (some ⟨ga, o + k * 3, none⟩)),
        Is (.int .i64 y0),
        Is (.bool true),
        Is (.bool true),
        Is (.int .i64 c),
        Is (.bool false),
        Is (.bool false),
        Is (.bool false)]) (by kernel_rfl) (by kernel_rfl) (by kernel_rfl) (Pred.of_stab ?_) ?_ ?_
    · exact ⟨is_stab _, is_stab _, is_stab _, is_stab _, is_stab _, is_stab _, is_stab _, is_stab _, is_stab _, is_stab _, is_stab _, is_stab _, is_stab _, is_stab _, is_stab _, is_stab _, is_stab _, is_stab _, is_stab _, is_stab _, is_stab _, is_stab _, is_stab _, is_stab _, is_stab _, is_stab _, is_stab _, is_stab _, is_stab _, is_stab _, is_stab _, is_stab _, is_stab _, is_stab _, is_stab _, is_stab _, is_stab _, is_stab _, is_stab _, is_stab _, is_stab _, trivial⟩
    · refine ⟨?_, ?_, ?_, ?_, ?_, ?_, ?_, ?_, ?_, ?_, ?_, ?_, ?_, ?_, ?_, ?_, ?_, ?_, ?_, ?_, ?_, ?_, ?_, ?_, ?_, ?_, ?_, ?_, ?_, ?_, ?_, ?_, ?_, ?_, ?_, ?_, ?_, ?_, ?_, ?_, ?_, trivial⟩
      · intro b X hE hd hn hV
        have r7 : b.tmps[7]?.getD undef = .int .i64 (n : Int) := (hn 7 (by kernel_rfl)).trans rfl
        exact Pred.yields_run (v := .int .i64 (n : Int)) (Pred.wanted_none rfl) (by go_simp) ⟨Pred.ext_refl _ _, rfl⟩
      · intro b X hE hd hn hV
        have r8 : b.tmps[8]?.getD undef = .slice (some ⟨ga, o, none⟩) N cp := (hn 8 (by kernel_rfl)).trans rfl
        exact Pred.yields_run (v := .slice (some ⟨ga, o, none⟩) N cp) (Pred.wanted_none rfl) (by go_simp) ⟨Pred.ext_refl _ _, rfl⟩
      · intro b X hE hd hn hV
        have r9 : b.tmps[9]?.getD undef = .int .i64 (i : Int) := (hn 9 (by kernel_rfl)).trans rfl
        exact Pred.yields_run (v := .int .i64 (i : Int)) (Pred.wanted_none rfl) (by go_simp) ⟨Pred.ext_refl _ _, rfl⟩
      · intro b X hE hd hn hV
        have r49 : b.tmps[49]?.getD undef = .slice (some ⟨ga, o, none⟩) N cp := hV 1 _ 49 rfl rfl (Pred.waits_near (by kernel_rfl) (by kernel_rfl))
        have r50 : b.tmps[50]?.getD undef = .int .i64 (i : Int) := hV 2 _ 50 rfl rfl (Pred.waits_near (by kernel_rfl) (by kernel_rfl))
        exact Pred.yields_run (v := .pointer (some ⟨ga, o + i * 3, none⟩)) (Pred.wanted_none rfl) (by go_simp) ⟨Pred.ext_refl _ _, rfl⟩
      · intro b X hE hd hn hV
        have r51 : b.tmps[51]?.getD undef = .pointer (some ⟨ga, o + i * 3, none⟩) := hV 3 _ 51 rfl rfl (Pred.waits_near (by kernel_rfl) (by kernel_rfl))
        obtain ⟨z0, z1, z2⟩ := cx_below hE hbb CX.out
        exact Pred.yields_run (v := .agg #[.int .i64 x0, .int .i64 x1, .int .i64 x2]) (Pred.wanted_none rfl) (by go_simp) ⟨Pred.ext_refl _ _, rfl⟩
      · intro b X hE hd hn hV
        have r48 : b.tmps[48]?.getD undef = .int .i64 (n : Int) := hV 0 _ 48 rfl rfl (Pred.waits_near (by kernel_rfl) (by kernel_rfl))
        have r52 : b.tmps[52]?.getD undef = .agg #[.int .i64 x0, .int .i64 x1, .int .i64 x2] := hV 4 _ 52 rfl rfl (Pred.waits_near (by kernel_rfl) (by kernel_rfl))
        refine Pred.yields_call (f := 15) (args := #[.int .i64 n, .agg #[.int .i64 x0, .int .i64 x1, .int .i64 x2]]) (Pred.wanted_none rfl) (by go_simp) ?_
        exact (CK.out _).mono fun e w2 ⟨he, hb⟩ => ⟨_, he, Pred.ext_below hb hE.size, rfl⟩
      · intro b X hE hd hn hV
        have r9 : b.tmps[9]?.getD undef = .int .i64 (i : Int) := (hn 9 (by kernel_rfl)).trans rfl
        exact Pred.yields_run (v := .int .i64 (i : Int)) (Pred.wanted_none rfl) (by go_simp) ⟨Pred.ext_refl _ _, rfl⟩
      · intro b X hE hd hn hV
        have r53 : b.tmps[53]?.getD undef = .int .i64 i := hV 5 _ 53 rfl rfl (Pred.waits_near (by kernel_rfl) (by kernel_rfl))
        have r54 : b.tmps[54]?.getD undef = .int .i64 (i : Int) := hV 6 _ 54 rfl rfl (Pred.waits_near (by kernel_rfl) (by kernel_rfl))
        exact Pred.yields_run (v := .bool false) (Pred.wanted_none rfl) (by go_simp) ⟨Pred.ext_refl _ _, rfl⟩
      · intro b X hE hd hn hV
        have r55 : b.tmps[55]?.getD undef = .bool false := hV 7 _ 55 rfl rfl (Pred.waits_near (by kernel_rfl) (by kernel_rfl))
        exact Pred.yields_run (v := .bool false) (Pred.wanted_none rfl) (by go_simp) ⟨Pred.ext_refl _ _, rfl⟩
      · intro b X hE hd hn hV
        have r9 : b.tmps[9]?.getD undef = .int .i64 (i : Int) := (hn 9 (by kernel_rfl)).trans rfl
        have r56 : b.tmps[56]?.getD undef = .bool false := hV 8 _ 56 rfl rfl (Pred.waits_near (by kernel_rfl) (by kernel_rfl))
        exact Pred.yields_run (v := .int .i64 (i : Int)) ((Pred.wanted_at (g := 8) (d := 56) (f := false) rfl rfl r56).trans rfl) (by go_simp) ⟨Pred.ext_refl _ _, rfl⟩
      · intro b X hE hd hn hV
        have r10 : b.tmps[10]?.getD undef = .int .i64 (k : Int) := (hn 10 (by kernel_rfl)).trans rfl
        have r56 : b.tmps[56]?.getD undef = .bool false := hV 8 _ 56 rfl rfl (Pred.waits_near (by kernel_rfl) (by kernel_rfl))
        exact Pred.yields_run (v := .int .i64 (k : Int)) ((Pred.wanted_at (g := 8) (d := 56) (f := false) rfl rfl r56).trans rfl) (by go_simp) ⟨Pred.ext_refl _ _, rfl⟩
      · intro b X hE hd hn hV
        have r57 : b.tmps[57]?.getD undef = .int .i64 (i : Int) := hV 9 _ 57 rfl rfl (Pred.waits_near (by kernel_rfl) (by kernel_rfl))
        have r58 : b.tmps[58]?.getD undef = .int .i64 (k : Int) := hV 10 _ 58 rfl rfl (Pred.waits_near (by kernel_rfl) (by kernel_rfl))
        have r56 : b.tmps[56]?.getD undef = .bool false := hV 8 _ 56 rfl rfl (Pred.waits_near (by kernel_rfl) (by kernel_rfl))
        exact Pred.yields_run (v := .bool B1) ((Pred.wanted_at (g := 8) (d := 56) (f := false) rfl rfl r56).trans rfl) (by go_simp) ⟨Pred.ext_refl _ _, rfl⟩
      · intro b X hE hd hn hV
        have r11 : b.tmps[11]?.getD undef = .int .i64 c := (hn 11 (by kernel_rfl)).trans rfl
        have r56 : b.tmps[56]?.getD undef = .bool false := hV 8 _ 56 rfl rfl (Pred.waits_near (by kernel_rfl) (by kernel_rfl))
        exact Pred.yields_run (v := .int .i64 c) ((Pred.wanted_at (g := 8) (d := 56) (f := false) rfl rfl r56).trans rfl) (by go_simp) ⟨Pred.ext_refl _ _, rfl⟩
      · intro b X hE hd hn hV
        have r60 : b.tmps[60]?.getD undef = .int .i64 c := hV 12 _ 60 rfl rfl (Pred.waits_near (by kernel_rfl) (by kernel_rfl))
        have r56 : b.tmps[56]?.getD undef = .bool false := hV 8 _ 56 rfl rfl (Pred.waits_near (by kernel_rfl) (by kernel_rfl))
        exact Pred.yields_run (v := .bool B1) ((Pred.wanted_at (g := 8) (d := 56) (f := false) rfl rfl r56).trans rfl) (by go_simp) ⟨Pred.ext_refl _ _, rfl⟩
      · intro b X hE hd hn hV
        have r59 : b.tmps[59]?.getD undef = .bool B1 := hV 11 _ 59 rfl rfl (Pred.waits_near (by kernel_rfl) (by kernel_rfl))
        have r61 : b.tmps[61]?.getD undef = .bool B1 := hV 13 _ 61 rfl rfl (Pred.waits_near (by kernel_rfl) (by kernel_rfl))
        have r56 : b.tmps[56]?.getD undef = .bool false := hV 8 _ 56 rfl rfl (Pred.waits_near (by kernel_rfl) (by kernel_rfl))
        exact Pred.yields_run (v := .bool false) ((Pred.wanted_at (g := 8) (d := 56) (f := false) rfl rfl r56).trans rfl) (by go_simp) ⟨Pred.ext_refl _ _, rfl⟩
      · intro b X hE hd hn hV
        have r56 : b.tmps[56]?.getD undef = .bool false := hV 8 _ 56 rfl rfl (Pred.waits_near (by kernel_rfl) (by kernel_rfl))
        have r62 : b.tmps[62]?.getD undef = .bool false := hV 14 _ 62 rfl rfl (Pred.waits_near (by kernel_rfl) (by kernel_rfl))
        exact Pred.yields_run (v := .bool false) (Pred.wanted_none rfl) (by go_simp) ⟨Pred.ext_refl _ _, rfl⟩
      · intro b X hE hd hn hV
        have r63 : b.tmps[63]?.getD undef = .bool false := hV 15 _ 63 rfl rfl (Pred.waits_near (by kernel_rfl) (by kernel_rfl))
        exact Pred.yields_run (v := .bool false) (Pred.wanted_none rfl) (by go_simp) ⟨Pred.ext_refl _ _, rfl⟩
      · intro b X hE hd hn hV
        have r9 : b.tmps[9]?.getD undef = .int .i64 (i : Int) := (hn 9 (by kernel_rfl)).trans rfl
        have r64 : b.tmps[64]?.getD undef = .bool false := hV 16 _ 64 rfl rfl (Pred.waits_near (by kernel_rfl) (by kernel_rfl))
        exact Pred.yields_run (v := .int .i64 (i : Int)) ((Pred.wanted_at (g := 16) (d := 64) (f := false) rfl rfl r64).trans rfl) (by go_simp) ⟨Pred.ext_refl _ _, rfl⟩
      · intro b X hE hd hn hV
        have r10 : b.tmps[10]?.getD undef = .int .i64 (k : Int) := (hn 10 (by kernel_rfl)).trans rfl
        have r64 : b.tmps[64]?.getD undef = .bool false := hV 16 _ 64 rfl rfl (Pred.waits_near (by kernel_rfl) (by kernel_rfl))
        exact Pred.yields_run (v := .int .i64 (k : Int)) ((Pred.wanted_at (g := 16) (d := 64) (f := false) rfl rfl r64).trans rfl) (by go_simp) ⟨Pred.ext_refl _ _, rfl⟩
      · intro b X hE hd hn hV
        have r65 : b.tmps[65]?.getD undef = .int .i64 (i : Int) := hV 17 _ 65 rfl rfl (Pred.waits_near (by kernel_rfl) (by kernel_rfl))
        have r66 : b.tmps[66]?.getD undef = .int .i64 (k : Int) := hV 18 _ 66 rfl rfl (Pred.waits_near (by kernel_rfl) (by kernel_rfl))
        have r64 : b.tmps[64]?.getD undef = .bool false := hV 16 _ 64 rfl rfl (Pred.waits_near (by kernel_rfl) (by kernel_rfl))
        exact Pred.yields_run (v := .bool B2) ((Pred.wanted_at (g := 16) (d := 64) (f := false) rfl rfl r64).trans rfl) (by go_simp) ⟨Pred.ext_refl _ _, rfl⟩
      · intro b X hE hd hn hV
        have r11 : b.tmps[11]?.getD undef = .int .i64 c := (hn 11 (by kernel_rfl)).trans rfl
        have r64 : b.tmps[64]?.getD undef = .bool false := hV 16 _ 64 rfl rfl (Pred.waits_near (by kernel_rfl) (by kernel_rfl))
        exact Pred.yields_run (v := .int .i64 c) ((Pred.wanted_at (g := 16) (d := 64) (f := false) rfl rfl r64).trans rfl) (by go_simp) ⟨Pred.ext_refl _ _, rfl⟩
      · intro b X hE hd hn hV
        have r68 : b.tmps[68]?.getD undef = .int .i64 c := hV 20 _ 68 rfl rfl (Pred.waits_near (by kernel_rfl) (by kernel_rfl))
        have r64 : b.tmps[64]?.getD undef = .bool false := hV 16 _ 64 rfl rfl (Pred.waits_near (by kernel_rfl) (by kernel_rfl))
        exact Pred.yields_run (v := .bool B2) ((Pred.wanted_at (g := 16) (d := 64) (f := false) rfl rfl r64).trans rfl) (by go_simp) ⟨Pred.ext_refl _ _, rfl⟩
      · intro b X hE hd hn hV
        have r67 : b.tmps[67]?.getD undef = .bool B2 := hV 19 _ 67 rfl rfl (Pred.waits_near (by kernel_rfl) (by kernel_rfl))
        have r69 : b.tmps[69]?.getD undef = .bool B2 := hV 21 _ 69 rfl rfl (Pred.waits_near (by kernel_rfl) (by kernel_rfl))
        have r64 : b.tmps[64]?.getD undef = .bool false := hV 16 _ 64 rfl rfl (Pred.waits_near (by kernel_rfl) (by kernel_rfl))
        exact Pred.yields_run (v := .bool false) ((Pred.wanted_at (g := 16) (d := 64) (f := false) rfl rfl r64).trans rfl) (by go_simp) ⟨Pred.ext_refl _ _, rfl⟩
      · intro b X hE hd hn hV
        have r64 : b.tmps[64]?.getD undef = .bool false := hV 16 _ 64 rfl rfl (Pred.waits_near (by kernel_rfl) (by kernel_rfl))
        have r70 : b.tmps[70]?.getD undef = .bool false := hV 22 _ 70 rfl rfl (Pred.waits_near (by kernel_rfl) (by kernel_rfl))
        exact Pred.yields_run (v := .bool false) (Pred.wanted_none rfl) (by go_simp) ⟨Pred.ext_refl _ _, rfl⟩
      · intro b X hE hd hn hV
        have r71 : b.tmps[71]?.getD undef = .bool false := hV 23 _ 71 rfl rfl (Pred.waits_near (by kernel_rfl) (by kernel_rfl))
        exact Pred.yields_run (v := .bool false) (Pred.wanted_none rfl) (by go_simp) ⟨Pred.ext_refl _ _, rfl⟩
      · intro b X hE hd hn hV
        have r8 : b.tmps[8]?.getD undef = .slice (some ⟨ga, o, none⟩) N cp := (hn 8 (by kernel_rfl)).trans rfl
        have r72 : b.tmps[72]?.getD undef = .bool false := hV 24 _ 72 rfl rfl (Pred.waits_near (by kernel_rfl) (by kernel_rfl))
        exact Pred.yields_run (v := .slice (some ⟨ga, o, none⟩) N cp) ((Pred.wanted_at (g := 24) (d := 72) (f := false) rfl rfl r72).trans rfl) (by go_simp) ⟨Pred.ext_refl _ _, rfl⟩
      · intro b X hE hd hn hV
        have r9 : b.tmps[9]?.getD undef = .int .i64 (i : Int) := (hn 9 (by kernel_rfl)).trans rfl
        have r72 : b.tmps[72]?.getD undef = .bool false := hV 24 _ 72 rfl rfl (Pred.waits_near (by kernel_rfl) (by kernel_rfl))
        exact Pred.yields_run (v := .int .i64 (i : Int)) ((Pred.wanted_at (g := 24) (d := 72) (f := false) rfl rfl r72).trans rfl) (by go_simp) ⟨Pred.ext_refl _ _, rfl⟩
      · intro b X hE hd hn hV
        have r73 : b.tmps[73]?.getD undef = .slice (some ⟨ga, o, none⟩) N cp := hV 25 _ 73 rfl rfl (Pred.waits_near (by kernel_rfl) (by kernel_rfl))
        have r74 : b.tmps[74]?.getD undef = .int .i64 (i : Int) := hV 26 _ 74 rfl rfl (Pred.waits_near (by kernel_rfl) (by kernel_rfl))
        have r72 : b.tmps[72]?.getD undef = .bool false := hV 24 _ 72 rfl rfl (Pred.waits_near (by kernel_rfl) (by kernel_rfl))
        exact Pred.yields_run (v := .pointer (some ⟨ga, o + i * 3, none⟩)) ((Pred.wanted_at (g := 24) (d := 72) (f := false) rfl rfl r72).trans rfl) (by go_simp) ⟨Pred.ext_refl _ _, rfl⟩
      · intro b X hE hd hn hV
        have r75 : b.tmps[75]?.getD undef = .pointer (some ⟨ga, o + i * 3, none⟩) := hV 27 _ 75 rfl rfl (Pred.waits_near (by kernel_rfl) (by kernel_rfl))
        have r72 : b.tmps[72]?.getD undef = .bool false := hV 24 _ 72 rfl rfl (Pred.waits_near (by kernel_rfl) (by kernel_rfl))
        exact Pred.yields_run (v := .pointer (some ⟨ga, o + i * 3, none⟩)) ((Pred.wanted_at (g := 24) (d := 72) (f := false) rfl rfl r72).trans rfl) (by go_simp) ⟨Pred.ext_refl _ _, rfl⟩
      · intro b X hE hd hn hV
        have r76 : b.tmps[76]?.getD undef = .pointer (some ⟨ga, o + i * 3, none⟩) := hV 28 _ 76 rfl rfl (Pred.waits_near (by kernel_rfl) (by kernel_rfl))
        have r72 : b.tmps[72]?.getD undef = .bool false := hV 24 _ 72 rfl rfl (Pred.waits_near (by kernel_rfl) (by kernel_rfl))
        obtain ⟨z0, z1, z2⟩ := cx_below hE hbb CX.out
        exact Pred.yields_run (v := .int .i64 x0) ((Pred.wanted_at (g := 24) (d := 72) (f := false) rfl rfl r72).trans rfl) (by go_simp) ⟨Pred.ext_refl _ _, rfl⟩
      · intro b X hE hd hn hV
        have r8 : b.tmps[8]?.getD undef = .slice (some ⟨ga, o, none⟩) N cp := (hn 8 (by kernel_rfl)).trans rfl
        have r72 : b.tmps[72]?.getD undef = .bool false := hV 24 _ 72 rfl rfl (Pred.waits_near (by kernel_rfl) (by kernel_rfl))
        exact Pred.yields_run (v := .slice (some ⟨ga, o, none⟩) N cp) ((Pred.wanted_at (g := 24) (d := 72) (f := false) rfl rfl r72).trans rfl) (by go_simp) ⟨Pred.ext_refl _ _, rfl⟩
      · intro b X hE hd hn hV
        have r10 : b.tmps[10]?.getD undef = .int .i64 (k : Int) := (hn 10 (by kernel_rfl)).trans rfl
        have r72 : b.tmps[72]?.getD undef = .bool false := hV 24 _ 72 rfl rfl (Pred.waits_near (by kernel_rfl) (by kernel_rfl))
        exact Pred.yields_run (v := .int .i64 (k : Int)) ((Pred.wanted_at (g := 24) (d := 72) (f := false) rfl rfl r72).trans rfl) (by go_simp) ⟨Pred.ext_refl _ _, rfl⟩
      · intro b X hE hd hn hV
        have r78 : b.tmps[78]?.getD undef = .slice (some ⟨ga, o, none⟩) N cp := hV 30 _ 78 rfl rfl (Pred.waits_near (by kernel_rfl) (by kernel_rfl))
        have r79 : b.tmps[79]?.getD undef = .int .i64 (k : Int) := hV 31 _ 79 rfl rfl (Pred.waits_near (by kernel_rfl) (by kernel_rfl))
        have r72 : b.tmps[72]?.getD undef = .bool false := hV 24 _ 72 rfl rfl (Pred.waits_near (by kernel_rfl) (by kernel_rfl))
        exact Pred.yields_run (v := .pointer (some ⟨ga, o + k * 3, none⟩)) ((Pred.wanted_at (g := 24) (d := 72) (f := false) rfl rfl r72).trans rfl) (by go_simp) ⟨Pred.ext_refl _ _, rfl⟩
      · intro b X hE hd hn hV
        have r80 : b.tmps[80]?.getD undef = .pointer (some ⟨ga, o + k * 3, none⟩) := hV 32 _ 80 rfl rfl (Pred.waits_near (by kernel_rfl) (by kernel_rfl))
        have r72 : b.tmps[72]?.getD undef = .bool false := hV 24 _ 72 rfl rfl (Pred.waits_near (by kernel_rfl) (by kernel_rfl))
        exact Pred.yields_run (v := .pointer (some ⟨ga, o + k * 3, none⟩)) ((Pred.wanted_at (g := 24) (d := 72) (f := false) rfl rfl r72).trans rfl) (by go_simp) ⟨Pred.ext_refl _ _, rfl⟩
      · intro b X hE hd hn hV
        have r81 : b.tmps[81]?.getD undef = .pointer (some ⟨ga, o + k * 3, none⟩) := hV 33 _ 81 rfl rfl (Pred.waits_near (by kernel_rfl) (by kernel_rfl))
        have r72 : b.tmps[72]?.getD undef = .bool false := hV 24 _ 72 rfl rfl (Pred.waits_near (by kernel_rfl) (by kernel_rfl))
        obtain ⟨z0, z1, z2⟩ := cx_below hE hbb CY.out
        exact Pred.yields_run (v := .int .i64 y0) ((Pred.wanted_at (g := 24) (d := 72) (f := false) rfl rfl r72).trans rfl) (by go_simp) ⟨Pred.ext_refl _ _, rfl⟩
      · intro b X hE hd hn hV
        have r77 : b.tmps[77]?.getD undef = .int .i64 x0 := hV 29 _ 77 rfl rfl (Pred.waits_near (by kernel_rfl) (by kernel_rfl))
        have r82 : b.tmps[82]?.getD undef = .int .i64 y0 := hV 34 _ 82 rfl rfl (Pred.waits_near (by kernel_rfl) (by kernel_rfl))
        have r72 : b.tmps[72]?.getD undef = .bool false := hV 24 _ 72 rfl rfl (Pred.waits_near (by kernel_rfl) (by kernel_rfl))
        exact Pred.yields_run (v := .bool true) ((Pred.wanted_at (g := 24) (d := 72) (f := false) rfl rfl r72).trans rfl) (by go_simp) ⟨Pred.ext_refl _ _, rfl⟩
      · intro b X hE hd hn hV
        have r83 : b.tmps[83]?.getD undef = .bool true := hV 35 _ 83 rfl rfl (Pred.waits_near (by kernel_rfl) (by kernel_rfl))
        have r72 : b.tmps[72]?.getD undef = .bool false := hV 24 _ 72 rfl rfl (Pred.waits_near (by kernel_rfl) (by kernel_rfl))
        exact Pred.yields_run (v := .bool true) ((Pred.wanted_at (g := 24) (d := 72) (f := false) rfl rfl r72).trans rfl) (by go_simp) ⟨Pred.ext_refl _ _, rfl⟩
      · intro b X hE hd hn hV
        have r11 : b.tmps[11]?.getD undef = .int .i64 c := (hn 11 (by kernel_rfl)).trans rfl
        have r84 : b.tmps[84]?.getD undef = .bool true := hV 36 _ 84 rfl rfl (Pred.waits_near (by kernel_rfl) (by kernel_rfl))
        exact Pred.yields_run (v := .int .i64 c) ((Pred.wanted_at (g := 36) (d := 84) (f := true) rfl rfl r84).trans rfl) (by go_simp) ⟨Pred.ext_refl _ _, rfl⟩
      · intro b X hE hd hn hV
        have r85 : b.tmps[85]?.getD undef = .int .i64 c := hV 37 _ 85 rfl rfl (Pred.waits_near (by kernel_rfl) (by kernel_rfl))
        have r84 : b.tmps[84]?.getD undef = .bool true := hV 36 _ 84 rfl rfl (Pred.waits_near (by kernel_rfl) (by kernel_rfl))
        exact Pred.yields_run (v := .bool false) ((Pred.wanted_at (g := 36) (d := 84) (f := true) rfl rfl r84).trans rfl) (by go_simp) ⟨Pred.ext_refl _ _, rfl⟩
      · intro b X hE hd hn hV
        have r84 : b.tmps[84]?.getD undef = .bool true := hV 36 _ 84 rfl rfl (Pred.waits_near (by kernel_rfl) (by kernel_rfl))
        have r86 : b.tmps[86]?.getD undef = .bool false := hV 38 _ 86 rfl rfl (Pred.waits_near (by kernel_rfl) (by kernel_rfl))
        have r72 : b.tmps[72]?.getD undef = .bool false := hV 24 _ 72 rfl rfl (Pred.waits_near (by kernel_rfl) (by kernel_rfl))
        exact Pred.yields_run (v := .bool false) ((Pred.wanted_at (g := 24) (d := 72) (f := false) rfl rfl r72).trans rfl) (by go_simp) ⟨Pred.ext_refl _ _, rfl⟩
      · intro b X hE hd hn hV
        have r72 : b.tmps[72]?.getD undef = .bool false := hV 24 _ 72 rfl rfl (Pred.waits_near (by kernel_rfl) (by kernel_rfl))
        have r87 : b.tmps[87]?.getD undef = .bool false := hV 39 _ 87 rfl rfl (Pred.waits_near (by kernel_rfl) (by kernel_rfl))
        exact Pred.yields_run (v := .bool false) (Pred.wanted_none rfl) (by go_simp) ⟨Pred.ext_refl _ _, rfl⟩
    intro v w6 hE hv
    have e0 : v 0 = .int .i64 (n : Int) := hv 0 _ 48 rfl rfl
    have e1 : v 1 = .slice (some ⟨ga, o, none⟩) N cp := hv 1 _ 49 rfl rfl
    have e2 : v 2 = .int .i64 (i : Int) := hv 2 _ 50 rfl rfl
    have e3 : v 3 = .pointer (some ⟨ga, o + i * 3, none⟩) := hv 3 _ 51 rfl rfl
    have e4 : v 4 = .agg #[.int .i64 x0, .int .i64 x1, .int .i64 x2] := hv 4 _ 52 rfl rfl
    have e5 : v 5 = .int .i64 i := hv 5 _ 53 rfl rfl
    have e6 : v 6 = .int .i64 (i : Int) := hv 6 _ 54 rfl rfl
    have e7 : v 7 = .bool false := hv 7 _ 55 rfl rfl
    have e8 : v 8 = .bool false := hv 8 _ 56 rfl rfl
    have e9 : v 9 = .int .i64 (i : Int) := hv 9 _ 57 rfl rfl
    have e10 : v 10 = .int .i64 (k : Int) := hv 10 _ 58 rfl rfl
    have e11 : v 11 = .bool B1 := hv 11 _ 59 rfl rfl
    have e12 : v 12 = .int .i64 c := hv 12 _ 60 rfl rfl
    have e13 : v 13 = .bool B1 := hv 13 _ 61 rfl rfl
    have e14 : v 14 = .bool false := hv 14 _ 62 rfl rfl
    have e15 : v 15 = .bool false := hv 15 _ 63 rfl rfl
    have e16 : v 16 = .bool false := hv 16 _ 64 rfl rfl
    have e17 : v 17 = .int .i64 (i : Int) := hv 17 _ 65 rfl rfl
    have e18 : v 18 = .int .i64 (k : Int) := hv 18 _ 66 rfl rfl
    have e19 : v 19 = .bool B2 := hv 19 _ 67 rfl rfl
    have e20 : v 20 = .int .i64 c := hv 20 _ 68 rfl rfl
    have e21 : v 21 = .bool B2 := hv 21 _ 69 rfl rfl
    have e22 : v 22 = .bool false := hv 22 _ 70 rfl rfl
    have e23 : v 23 = .bool false := hv 23 _ 71 rfl rfl
    have e24 : v 24 = .bool false := hv 24 _ 72 rfl rfl
    have e25 : v 25 = .slice (some ⟨ga, o, none⟩) N cp := hv 25 _ 73 rfl rfl
    have e26 : v 26 = .int .i64 (i : Int) := hv 26 _ 74 rfl rfl
    have e27 : v 27 = .pointer (some ⟨ga, o + i * 3, none⟩) := hv 27 _ 75 rfl rfl
    have e28 : v 28 = .pointer (some ⟨ga, o + i * 3, none⟩) := hv 28 _ 76 rfl rfl
    have e29 : v 29 = .int .i64 x0 := hv 29 _ 77 rfl rfl
    have e30 : v 30 = .slice (some ⟨ga, o, none⟩) N cp := hv 30 _ 78 rfl rfl
    have e31 : v 31 = .int .i64 (k : Int) := hv 31 _ 79 rfl rfl
    have e32 : v 32 = .pointer (some ⟨ga, o + k * 3, none⟩) := hv 32 _ 80 rfl rfl
    have e33 : v 33 = .pointer (some ⟨ga, o + k * 3, none⟩) := hv 33 _ 81 rfl rfl
    have e34 : v 34 = .int .i64 y0 := hv 34 _ 82 rfl rfl
    have e35 : v 35 = .bool true := hv 35 _ 83 rfl rfl
    have e36 : v 36 = .bool true := hv 36 _ 84 rfl rfl
    have e37 : v 37 = .int .i64 c := hv 37 _ 85 rfl rfl
    have e38 : v 38 = .bool false := hv 38 _ 86 rfl rfl
    have e39 : v 39 = .bool false := hv 39 _ 87 rfl rfl
    have e40 : v 40 = .bool false := hv 40 _ 88 rfl rfl
    simp only [Pred.putsF_cons, Pred.putsF_nil, Nat.zero_add, Nat.reduceAdd, e0, e1, e2, e3, e4, e5, e6, e7, e8, e9, e10, e11, e12, e13, e14, e15, e16, e17, e18, e19, e20, e21, e22, e23, e24, e25, e26, e27, e28, e29, e30, e31, e32, e33, e34, e35, e36, e37, e38, e39, e40, Act.put, List.setIfInBounds_toArray, List.set_cons_zero, List.set_cons_succ]
    clear e0 e1 e2 e3 e4 e5 e6 e7 e8 e9 e10 e11 e12 e13 e14 e15 e16 e17 e18 e19 e20 e21 e22 e23 e24 e25 e26 e27 e28 e29 e30 e31 e32 e33 e34 e35 e36 e37 e38 e39 e40 hv
    have L6 : Below w.heap.size w w6 := by repeat' (first | (with_reducible exact Below.refl _ _) | (with_reducible refine Rd.below_step ?_ (by assumption)) | (with_reducible refine Rd.below_alloc ?_ _) | (with_reducible refine Rd.below_drewN ?_ _) | (with_reducible refine Below.drew ?_) | (with_reducible refine Below.setCell ?_ ?_ _) | (with_reducible refine Rd.below_setRow ?_ ?_ _) | go_size | (simp only [World.size_alloc]; omega) | omega)
    replace CX := Lib.hid (cx_below hE hbb CX.out)
    replace hbb : ga < w6.heap.size := Nat.lt_of_lt_of_le hbb hE.size
    clear hE L5 CK CY e1 e2 e3 e4 hq d62 d70
    go_wp2_with fail
    go_loopw [12, 13] (fun s j X => ∃ t : Nat, t ≤ n + 1 ∧ s = .int .i64 (sum4 t) ∧ j = .int .i64 t ∧ Below w6.heap.size w6 X) (fun _ j _ => n + 1 - (intOf j).toNat)
    case atStart => exact ⟨0, by omega, rfl, rfl, Below.refl _ _⟩
    case round =>
      obtain ⟨t, ht, rfl, rfl, hbt⟩ := hrel
      rename World => X
      by_cases htn : t ≤ n
      · have htn' : (t : Int) ≤ n := by omega
        have S0 : sum4 0 = 0 := rfl
        have S1 : sum4 1 = 1 := rfl
        have S2 : sum4 2 = 5 := rfl
        have S3 : sum4 3 = 21 := rfl
        have S4 : sum4 4 = 85 := rfl
        rcases n4 (show t ≤ 3 by omega) with rfl | rfl | rfl | rfl
        · go_wp2
          go_roundw
          case rel => exact ⟨1, by omega, congrArg (Value.int .i64) S1.symm, rfl, hbt⟩
          case measure => (simp [intOf]; try omega)
        · go_wp2
          go_roundw
          case rel => exact ⟨2, by omega, congrArg (Value.int .i64) S2.symm, rfl, hbt⟩
          case measure => (simp [intOf]; try omega)
        · go_wp2
          go_roundw
          case rel => exact ⟨3, by omega, congrArg (Value.int .i64) S3.symm, rfl, hbt⟩
          case measure => (simp [intOf]; try omega)
        · go_wp2
          go_roundw
          case rel => exact ⟨4, by omega, congrArg (Value.int .i64) S4.symm, rfl, hbt⟩
          case measure => (simp [intOf]; try omega)
      · obtain rfl : t = n + 1 := by omega
        have hnn : ¬ ((n + 1 : Nat) : Int) ≤ (n : Int) := by omega
        rw [hS4.out]
        go_wp2_with fail
        refine (CA.out _).mono ?_
        rintro e w7 ⟨rfl, hb7⟩
        have L7 : Below w.heap.size w w7 := (L6.trans (hbt.mono L6.size)).trans (hb7.mono (Nat.le_trans L6.size hbt.size))
        have hE7 : Below w6.heap.size w6 w7 := hbt.trans (hb7.mono hbt.size)
        replace CX := Lib.hid (cx_below hE7 hbb CX.out)
        replace hbb : ga < w7.heap.size := Nat.lt_of_lt_of_le hbb hE7.size
        clear hE7 hb7 hbt L6 CA
        go_upto_region 15 with (fail)
        refine Rd.name_world ?_
        intro w8 hw
        have bP : blk w8 w7.heap.size = some (.cells #[.int .i64 x0, .int .i64 x1, .int .i64 x2] 23 (0, 0)) := by rw [hw]; exact blk_alloc_at _ _ _ rfl
        have L8 : Below w.heap.size w w8 := by
          rw [hw]
          repeat' (first | (with_reducible exact Below.refl _ _) | (with_reducible refine Rd.below_step ?_ (by assumption)) | (with_reducible refine Rd.below_alloc ?_ _) | (with_reducible refine Rd.below_drewN ?_ _) | (with_reducible refine Below.drew ?_) | (with_reducible refine Below.setCell ?_ ?_ _) | (with_reducible refine Rd.below_setRow ?_ ?_ _) | go_size | (simp only [World.size_alloc]; omega) | omega)
        have hE8 : Below w7.heap.size w7 w8 := by
          rw [hw]
          repeat' (first | (with_reducible exact Below.refl _ _) | (with_reducible refine Rd.below_step ?_ (by assumption)) | (with_reducible refine Rd.below_alloc ?_ _) | (with_reducible refine Rd.below_drewN ?_ _) | (with_reducible refine Below.drew ?_) | (with_reducible refine Below.setCell ?_ ?_ _) | (with_reducible refine Rd.below_setRow ?_ ?_ _) | go_size | (simp only [World.size_alloc]; omega) | omega)
        obtain ⟨pb, hpb⟩ : ∃ p, w7.heap.size = p := ⟨_, rfl⟩
        replace CX := Lib.hid (cx_below hE8 hbb CX.out)
        replace hbb : ga < w8.heap.size := Nat.lt_of_lt_of_le hbb hE8.size
        rw [hpb] at bP ⊢
        have lP := blk_lt bP
        have d0 : eqL [x0, x1, x2] [x0, x1, x2] = true := decide_eq_true rfl
        clear hw hE8 hpb L7
        refine Pred.region_vals (Pred.Of [
            Is (.int .i64 N),
            Is (.slice (some ⟨ga, o, none⟩) N cp),
            Is (.int .i64 N),
            Is (.bool true),
            Is (.bool true),
            Is (.bool true),
            Is (.bool true),
            Is (.bool true),
            Is (.agg #[.int .i64 x0, .int .i64 x1, .int .i64 x2]),
            Is (.slice (some ⟨ga, o, none⟩) N cp),
            Is (.int .i64 (i : Int)),
            Is (.pointer (some ⟨ga, o + i * 3, none⟩)),
            Is (.agg #[.int .i64 x0, .int .i64 x1, .int .i64 x2]),
            Is (.bool true),
            Is (.bool true),
            Is (.bool true),
            Is (.bool true),
            Is (.bool true),
            Is (.bool true)]) (by kernel_rfl) (by kernel_rfl) (by kernel_rfl) (Pred.of_stab ?_) ?_ ?_
        · exact ⟨is_stab _, is_stab _, is_stab _, is_stab _, is_stab _, is_stab _, is_stab _, is_stab _, is_stab _, is_stab _, is_stab _, is_stab _, is_stab _, is_stab _, is_stab _, is_stab _, is_stab _, is_stab _, is_stab _, trivial⟩
        · refine ⟨?_, ?_, ?_, ?_, ?_, ?_, ?_, ?_, ?_, ?_, ?_, ?_, ?_, ?_, ?_, ?_, ?_, ?_, ?_, trivial⟩
          · intro b X hE hd hn hV
            have r12 : b.tmps[12]?.getD undef = .int .i64 N := (hn 12 (by kernel_rfl)).trans rfl
            exact Pred.yields_run (v := .int .i64 N) (Pred.wanted_none rfl) (by go_simp) ⟨Pred.ext_refl _ _, rfl⟩
          · intro b X hE hd hn hV
            have r8 : b.tmps[8]?.getD undef = .slice (some ⟨ga, o, none⟩) N cp := (hn 8 (by kernel_rfl)).trans rfl
            exact Pred.yields_run (v := .slice (some ⟨ga, o, none⟩) N cp) (Pred.wanted_none rfl) (by go_simp) ⟨Pred.ext_refl _ _, rfl⟩
          · intro b X hE hd hn hV
            have r106 : b.tmps[106]?.getD undef = .slice (some ⟨ga, o, none⟩) N cp := hV 1 _ 106 rfl rfl (Pred.waits_near (by kernel_rfl) (by kernel_rfl))
            exact Pred.yields_run (v := .int .i64 N) (Pred.wanted_none rfl) (by go_simp) ⟨Pred.ext_refl _ _, rfl⟩
          · intro b X hE hd hn hV
            have r105 : b.tmps[105]?.getD undef = .int .i64 N := hV 0 _ 105 rfl rfl (Pred.waits_near (by kernel_rfl) (by kernel_rfl))
            have r107 : b.tmps[107]?.getD undef = .int .i64 N := hV 2 _ 107 rfl rfl (Pred.waits_near (by kernel_rfl) (by kernel_rfl))
            exact Pred.yields_run (v := .bool true) (Pred.wanted_none rfl) (by go_simp) ⟨Pred.ext_refl _ _, rfl⟩
          · intro b X hE hd hn hV
            have r108 : b.tmps[108]?.getD undef = .bool true := hV 3 _ 108 rfl rfl (Pred.waits_near (by kernel_rfl) (by kernel_rfl))
            exact Pred.yields_run (v := .bool true) (Pred.wanted_none rfl) (by go_simp) ⟨Pred.ext_refl _ _, rfl⟩
          · intro b X hE hd hn hV
            have r15 : b.tmps[15]?.getD undef = .bool true := (hn 15 (by kernel_rfl)).trans rfl
            have r109 : b.tmps[109]?.getD undef = .bool true := hV 4 _ 109 rfl rfl (Pred.waits_near (by kernel_rfl) (by kernel_rfl))
            exact Pred.yields_run (v := .bool true) ((Pred.wanted_at (g := 4) (d := 109) (f := true) rfl rfl r109).trans rfl) (by go_simp) ⟨Pred.ext_refl _ _, rfl⟩
          · intro b X hE hd hn hV
            have r109 : b.tmps[109]?.getD undef = .bool true := hV 4 _ 109 rfl rfl (Pred.waits_near (by kernel_rfl) (by kernel_rfl))
            have r110 : b.tmps[110]?.getD undef = .bool true := hV 5 _ 110 rfl rfl (Pred.waits_near (by kernel_rfl) (by kernel_rfl))
            exact Pred.yields_run (v := .bool true) (Pred.wanted_none rfl) (by go_simp) ⟨Pred.ext_refl _ _, rfl⟩
          · intro b X hE hd hn hV
            have r111 : b.tmps[111]?.getD undef = .bool true := hV 6 _ 111 rfl rfl (Pred.waits_near (by kernel_rfl) (by kernel_rfl))
            exact Pred.yields_run (v := .bool true) (Pred.wanted_none rfl) (by go_simp) ⟨Pred.ext_refl _ _, rfl⟩
          · intro b X hE hd hn hV
            have r14 : b.tmps[14]?.getD undef = .pointer (some ⟨pb, 0, none⟩) := (hn 14 (by kernel_rfl)).trans rfl
            have r112 : b.tmps[112]?.getD undef = .bool true := hV 7 _ 112 rfl rfl (Pred.waits_near (by kernel_rfl) (by kernel_rfl))
            have q := (blk_below hE _ lP).trans bP
            have z0 : X.cell? ⟨pb, 0, none⟩ = some (.int .i64 x0) := by rw [blk_cell q]; rfl
            have z1 : X.cell? ⟨pb, 1, none⟩ = some (.int .i64 x1) := by rw [blk_cell q]; rfl
            have z2 : X.cell? ⟨pb, 2, none⟩ = some (.int .i64 x2) := by rw [blk_cell q]; rfl
            exact Pred.yields_run (v := .agg #[.int .i64 x0, .int .i64 x1, .int .i64 x2]) ((Pred.wanted_at (g := 7) (d := 112) (f := true) rfl rfl r112).trans rfl) (by go_simp) ⟨Pred.ext_refl _ _, rfl⟩
          · intro b X hE hd hn hV
            have r8 : b.tmps[8]?.getD undef = .slice (some ⟨ga, o, none⟩) N cp := (hn 8 (by kernel_rfl)).trans rfl
            have r112 : b.tmps[112]?.getD undef = .bool true := hV 7 _ 112 rfl rfl (Pred.waits_near (by kernel_rfl) (by kernel_rfl))
            exact Pred.yields_run (v := .slice (some ⟨ga, o, none⟩) N cp) ((Pred.wanted_at (g := 7) (d := 112) (f := true) rfl rfl r112).trans rfl) (by go_simp) ⟨Pred.ext_refl _ _, rfl⟩
          · intro b X hE hd hn hV
            have r9 : b.tmps[9]?.getD undef = .int .i64 (i : Int) := (hn 9 (by kernel_rfl)).trans rfl
            have r112 : b.tmps[112]?.getD undef = .bool true := hV 7 _ 112 rfl rfl (Pred.waits_near (by kernel_rfl) (by kernel_rfl))
            exact Pred.yields_run (v := .int .i64 (i : Int)) ((Pred.wanted_at (g := 7) (d := 112) (f := true) rfl rfl r112).trans rfl) (by go_simp) ⟨Pred.ext_refl _ _, rfl⟩
          · intro b X hE hd hn hV
            have r114 : b.tmps[114]?.getD undef = .slice (some ⟨ga, o, none⟩) N cp := hV 9 _ 114 rfl rfl (Pred.waits_near (by kernel_rfl) (by kernel_rfl))
            have r115 : b.tmps[115]?.getD undef = .int .i64 (i : Int) := hV 10 _ 115 rfl rfl (Pred.waits_near (by kernel_rfl) (by kernel_rfl))
            have r112 : b.tmps[112]?.getD undef = .bool true := hV 7 _ 112 rfl rfl (Pred.waits_near (by kernel_rfl) (by kernel_rfl))
            exact Pred.yields_run (v := .pointer (some ⟨ga, o + i * 3, none⟩)) ((Pred.wanted_at (g := 7) (d := 112) (f := true) rfl rfl r112).trans rfl) (by go_simp) ⟨Pred.ext_refl _ _, rfl⟩
          · intro b X hE hd hn hV
            have r116 : b.tmps[116]?.getD undef = .pointer (some ⟨ga, o + i * 3, none⟩) := hV 11 _ 116 rfl rfl (Pred.waits_near (by kernel_rfl) (by kernel_rfl))
            have r112 : b.tmps[112]?.getD undef = .bool true := hV 7 _ 112 rfl rfl (Pred.waits_near (by kernel_rfl) (by kernel_rfl))
            obtain ⟨z0, z1, z2⟩ := cx_below hE hbb CX.out
            exact Pred.yields_run (v := .agg #[.int .i64 x0, .int .i64 x1, .int .i64 x2]) ((Pred.wanted_at (g := 7) (d := 112) (f := true) rfl rfl r112).trans rfl) (by go_simp) ⟨Pred.ext_refl _ _, rfl⟩
          · intro b X hE hd hn hV
            have r113 : b.tmps[113]?.getD undef = .agg #[.int .i64 x0, .int .i64 x1, .int .i64 x2] := hV 8 _ 113 rfl rfl (Pred.waits_near (by kernel_rfl) (by kernel_rfl))
            have r117 : b.tmps[117]?.getD undef = .agg #[.int .i64 x0, .int .i64 x1, .int .i64 x2] := hV 12 _ 117 rfl rfl (Pred.waits_near (by kernel_rfl) (by kernel_rfl))
            have r112 : b.tmps[112]?.getD undef = .bool true := hV 7 _ 112 rfl rfl (Pred.waits_near (by kernel_rfl) (by kernel_rfl))
            exact Pred.yields_run (v := .bool true) ((Pred.wanted_at (g := 7) (d := 112) (f := true) rfl rfl r112).trans rfl) (by go_simp) ⟨Pred.ext_refl _ _, rfl⟩
          · intro b X hE hd hn hV
            have r112 : b.tmps[112]?.getD undef = .bool true := hV 7 _ 112 rfl rfl (Pred.waits_near (by kernel_rfl) (by kernel_rfl))
            have r118 : b.tmps[118]?.getD undef = .bool true := hV 13 _ 118 rfl rfl (Pred.waits_near (by kernel_rfl) (by kernel_rfl))
            exact Pred.yields_run (v := .bool true) (Pred.wanted_none rfl) (by go_simp) ⟨Pred.ext_refl _ _, rfl⟩
          · intro b X hE hd hn hV
            have r119 : b.tmps[119]?.getD undef = .bool true := hV 14 _ 119 rfl rfl (Pred.waits_near (by kernel_rfl) (by kernel_rfl))
            exact Pred.yields_run (v := .bool true) (Pred.wanted_none rfl) (by go_simp) ⟨Pred.ext_refl _ _, rfl⟩
          · intro b X hE hd hn hV
            have r120 : b.tmps[120]?.getD undef = .bool true := hV 15 _ 120 rfl rfl (Pred.waits_near (by kernel_rfl) (by kernel_rfl))
            refine Pred.yields_call (f := 21) (args := #[]) ((Pred.wanted_at (g := 15) (d := 120) (f := true) rfl rfl r120).trans rfl) (by go_simp) ?_
            exact (awake_any _).mono fun e w2 ⟨he, hb⟩ => ⟨_, he, Pred.ext_below hb hE.size, rfl⟩
          · intro b X hE hd hn hV
            have r120 : b.tmps[120]?.getD undef = .bool true := hV 15 _ 120 rfl rfl (Pred.waits_near (by kernel_rfl) (by kernel_rfl))
            have r121 : b.tmps[121]?.getD undef = .bool true := hV 16 _ 121 rfl rfl (Pred.waits_near (by kernel_rfl) (by kernel_rfl))
            exact Pred.yields_run (v := .bool true) (Pred.wanted_none rfl) (by go_simp) ⟨Pred.ext_refl _ _, rfl⟩
          · intro b X hE hd hn hV
            have r122 : b.tmps[122]?.getD undef = .bool true := hV 17 _ 122 rfl rfl (Pred.waits_near (by kernel_rfl) (by kernel_rfl))
            exact Pred.yields_run (v := .bool true) (Pred.wanted_none rfl) (by go_simp) ⟨Pred.ext_refl _ _, rfl⟩
        intro v w9 hE hv
        have e0 : v 0 = .int .i64 N := hv 0 _ 105 rfl rfl
        have e1 : v 1 = .slice (some ⟨ga, o, none⟩) N cp := hv 1 _ 106 rfl rfl
        have e2 : v 2 = .int .i64 N := hv 2 _ 107 rfl rfl
        have e3 : v 3 = .bool true := hv 3 _ 108 rfl rfl
        have e4 : v 4 = .bool true := hv 4 _ 109 rfl rfl
        have e5 : v 5 = .bool true := hv 5 _ 110 rfl rfl
        have e6 : v 6 = .bool true := hv 6 _ 111 rfl rfl
        have e7 : v 7 = .bool true := hv 7 _ 112 rfl rfl
        have e8 : v 8 = .agg #[.int .i64 x0, .int .i64 x1, .int .i64 x2] := hv 8 _ 113 rfl rfl
        have e9 : v 9 = .slice (some ⟨ga, o, none⟩) N cp := hv 9 _ 114 rfl rfl
        have e10 : v 10 = .int .i64 (i : Int) := hv 10 _ 115 rfl rfl
        have e11 : v 11 = .pointer (some ⟨ga, o + i * 3, none⟩) := hv 11 _ 116 rfl rfl
        have e12 : v 12 = .agg #[.int .i64 x0, .int .i64 x1, .int .i64 x2] := hv 12 _ 117 rfl rfl
        have e13 : v 13 = .bool true := hv 13 _ 118 rfl rfl
        have e14 : v 14 = .bool true := hv 14 _ 119 rfl rfl
        have e15 : v 15 = .bool true := hv 15 _ 120 rfl rfl
        have e16 : v 16 = .bool true := hv 16 _ 121 rfl rfl
        have e17 : v 17 = .bool true := hv 17 _ 122 rfl rfl
        have e18 : v 18 = .bool true := hv 18 _ 6 rfl rfl
        simp only [Pred.putsF_cons, Pred.putsF_nil, Nat.zero_add, Nat.reduceAdd, e0, e1, e2, e3, e4, e5, e6, e7, e8, e9, e10, e11, e12, e13, e14, e15, e16, e17, e18, Act.put, List.setIfInBounds_toArray, List.set_cons_zero, List.set_cons_succ]
        clear e0 e1 e2 e3 e4 e5 e6 e7 e8 e9 e10 e11 e12 e13 e14 e15 e16 e17 e18 hv
        have L9 : Below w.heap.size w w9 := by repeat' (first | (with_reducible exact Below.refl _ _) | (with_reducible refine Rd.below_step ?_ (by assumption)) | (with_reducible refine Rd.below_alloc ?_ _) | (with_reducible refine Rd.below_drewN ?_ _) | (with_reducible refine Below.drew ?_) | (with_reducible refine Below.setCell ?_ ?_ _) | (with_reducible refine Rd.below_setRow ?_ ?_ _) | go_size | (simp only [World.size_alloc]; omega) | omega)
        clear hE
        go_wp2
        go_ret
        exact ⟨rfl, L9⟩
  case false =>
    have d62 : (B1 != B1) = false := by simp
    have d70 : (B2 != B2) = false := by simp
    refine Pred.region_vals (Pred.Of [
        Is (.int .i64 (n : Int)),
        Is (.slice (some ⟨ga, o, none⟩) N cp),
        Is (.int .i64 (i : Int)),
        Is (.pointer (some ⟨ga, o + i * 3, none⟩)),
        Is (.agg #[.int .i64 x0, .int .i64 x1, .int .i64 x2]),
        Is (.int .i64 i),
        Is (.int .i64 (i : Int)),
        Is (.bool false),
        Is (.bool false),
        Is (.int .i64 (i : Int)),
        Is (.int .i64 (k : Int)),
        Is (.bool B1),
        Is (.int .i64 c),
        Is (.bool B1),
        Is (.bool false),
        Is (.bool false),
        Is (.bool false),
        Is (.int .i64 (i : Int)),
        Is (.int .i64 (k : Int)),
        Is (.bool B2),
        Is (.int .i64 c),
        Is (.bool B2),
        Is (.bool false),
        Is (.bool false),
        Is (.bool false),
        Is (.slice (some ⟨ga, o, none⟩) N cp),
        Is (.int .i64 (i : Int)),
        Is (.pointer (some ⟨ga, o + i * 3, none⟩)),
        Is (.pointer (some ⟨ga, o + i * 3, none⟩)),
        Is (.int .i64 x0),
        Is (.slice (some ⟨ga, o, none⟩) N cp),
        Is (.int .i64 (k : Int)),
        Is (.pointer (some ⟨ga, o + k * 3, none⟩)),
        Is (.pointer (some ⟨ga, o + k * 3, none⟩)),
        Is (.int .i64 y0),
        Is (.bool false),
        Is (.bool false),
        Is (undef),
        Is (undef),
        Is (.bool false),
        Is (.bool false)]) (by kernel_rfl) (by kernel_rfl) (by kernel_rfl) (Pred.of_stab ?_) ?_ ?_
    · exact ⟨is_stab _, is_stab _, is_stab _, is_stab _, is_stab _, is_stab _, is_stab _, is_stab _, is_stab _, is_stab _, is_stab _, is_stab _, is_stab _, is_stab _, is_stab _, is_stab _, is_stab _, is_stab _, is_stab _, is_stab _, is_stab _, is_stab _, is_stab _, is_stab _, is_stab _, is_stab _, is_stab _, is_stab _, is_stab _, is_stab _, is_stab _, is_stab _, is_stab _, is_stab _, is_stab _, is_stab _, is_stab _, is_stab _, is_stab _, is_stab _, is_stab _, trivial⟩
    · refine ⟨?_, ?_, ?_, ?_, ?_, ?_, ?_, ?_, ?_, ?_, ?_, ?_, ?_, ?_, ?_, ?_, ?_, ?_, ?_, ?_, ?_, ?_, ?_, ?_, ?_, ?_, ?_, ?_, ?_, ?_, ?_, ?_, ?_, ?_, ?_, ?_, ?_, ?_, ?_, ?_, ?_, trivial⟩
      · intro b X hE hd hn hV
        have r7 : b.tmps[7]?.getD undef = .int .i64 (n : Int) := (hn 7 (by kernel_rfl)).trans rfl
        exact Pred.yields_run (v := .int .i64 (n : Int)) (Pred.wanted_none rfl) (by go_simp) ⟨Pred.ext_refl _ _, rfl⟩
      · intro b X hE hd hn hV
        have r8 : b.tmps[8]?.getD undef = .slice (some ⟨ga, o, none⟩) N cp := (hn 8 (by kernel_rfl)).trans rfl
        exact Pred.yields_run (v := .slice (some ⟨ga, o, none⟩) N cp) (Pred.wanted_none rfl) (by go_simp) ⟨Pred.ext_refl _ _, rfl⟩
      · intro b X hE hd hn hV
        have r9 : b.tmps[9]?.getD undef = .int .i64 (i : Int) := (hn 9 (by kernel_rfl)).trans rfl
        exact Pred.yields_run (v := .int .i64 (i : Int)) (Pred.wanted_none rfl) (by go_simp) ⟨Pred.ext_refl _ _, rfl⟩
      · intro b X hE hd hn hV
        have r49 : b.tmps[49]?.getD undef = .slice (some ⟨ga, o, none⟩) N cp := hV 1 _ 49 rfl rfl (Pred.waits_near (by kernel_rfl) (by kernel_rfl))
        have r50 : b.tmps[50]?.getD undef = .int .i64 (i : Int) := hV 2 _ 50 rfl rfl (Pred.waits_near (by kernel_rfl) (by kernel_rfl))
        exact Pred.yields_run (v := .pointer (some ⟨ga, o + i * 3, none⟩)) (Pred.wanted_none rfl) (by go_simp) ⟨Pred.ext_refl _ _, rfl⟩
      · intro b X hE hd hn hV
        have r51 : b.tmps[51]?.getD undef = .pointer (some ⟨ga, o + i * 3, none⟩) := hV 3 _ 51 rfl rfl (Pred.waits_near (by kernel_rfl) (by kernel_rfl))
        obtain ⟨z0, z1, z2⟩ := cx_below hE hbb CX.out
        exact Pred.yields_run (v := .agg #[.int .i64 x0, .int .i64 x1, .int .i64 x2]) (Pred.wanted_none rfl) (by go_simp) ⟨Pred.ext_refl _ _, rfl⟩
      · intro b X hE hd hn hV
        have r48 : b.tmps[48]?.getD undef = .int .i64 (n : Int) := hV 0 _ 48 rfl rfl (Pred.waits_near (by kernel_rfl) (by kernel_rfl))
        have r52 : b.tmps[52]?.getD undef = .agg #[.int .i64 x0, .int .i64 x1, .int .i64 x2] := hV 4 _ 52 rfl rfl (Pred.waits_near (by kernel_rfl) (by kernel_rfl))
        refine Pred.yields_call (f := 15) (args := #[.int .i64 n, .agg #[.int .i64 x0, .int .i64 x1, .int .i64 x2]]) (Pred.wanted_none rfl) (by go_simp) ?_
        exact (CK.out _).mono fun e w2 ⟨he, hb⟩ => ⟨_, he, Pred.ext_below hb hE.size, rfl⟩
      · intro b X hE hd hn hV
        have r9 : b.tmps[9]?.getD undef = .int .i64 (i : Int) := (hn 9 (by kernel_rfl)).trans rfl
        exact Pred.yields_run (v := .int .i64 (i : Int)) (Pred.wanted_none rfl) (by go_simp) ⟨Pred.ext_refl _ _, rfl⟩
      · intro b X hE hd hn hV
        have r53 : b.tmps[53]?.getD undef = .int .i64 i := hV 5 _ 53 rfl rfl (Pred.waits_near (by kernel_rfl) (by kernel_rfl))
        have r54 : b.tmps[54]?.getD undef = .int .i64 (i : Int) := hV 6 _ 54 rfl rfl (Pred.waits_near (by kernel_rfl) (by kernel_rfl))
        exact Pred.yields_run (v := .bool false) (Pred.wanted_none rfl) (by go_simp) ⟨Pred.ext_refl _ _, rfl⟩
      · intro b X hE hd hn hV
        have r55 : b.tmps[55]?.getD undef = .bool false := hV 7 _ 55 rfl rfl (Pred.waits_near (by kernel_rfl) (by kernel_rfl))
        exact Pred.yields_run (v := .bool false) (Pred.wanted_none rfl) (by go_simp) ⟨Pred.ext_refl _ _, rfl⟩
      · intro b X hE hd hn hV
        have r9 : b.tmps[9]?.getD undef = .int .i64 (i : Int) := (hn 9 (by kernel_rfl)).trans rfl
        have r56 : b.tmps[56]?.getD undef = .bool false := hV 8 _ 56 rfl rfl (Pred.waits_near (by kernel_rfl) (by kernel_rfl))
        exact Pred.yields_run (v := .int .i64 (i : Int)) ((Pred.wanted_at (g := 8) (d := 56) (f := false) rfl rfl r56).trans rfl) (by go_simp) ⟨Pred.ext_refl _ _, rfl⟩
      · intro b X hE hd hn hV
        have r10 : b.tmps[10]?.getD undef = .int .i64 (k : Int) := (hn 10 (by kernel_rfl)).trans rfl
        have r56 : b.tmps[56]?.getD undef = .bool false := hV 8 _ 56 rfl rfl (Pred.waits_near (by kernel_rfl) (by kernel_rfl))
        exact Pred.yields_run (v := .int .i64 (k : Int)) ((Pred.wanted_at (g := 8) (d := 56) (f := false) rfl rfl r56).trans rfl) (by go_simp) ⟨Pred.ext_refl _ _, rfl⟩
      · intro b X hE hd hn hV
        have r57 : b.tmps[57]?.getD undef = .int .i64 (i : Int) := hV 9 _ 57 rfl rfl (Pred.waits_near (by kernel_rfl) (by kernel_rfl))
        have r58 : b.tmps[58]?.getD undef = .int .i64 (k : Int) := hV 10 _ 58 rfl rfl (Pred.waits_near (by kernel_rfl) (by kernel_rfl))
        have r56 : b.tmps[56]?.getD undef = .bool false := hV 8 _ 56 rfl rfl (Pred.waits_near (by kernel_rfl) (by kernel_rfl))
        exact Pred.yields_run (v := .bool B1) ((Pred.wanted_at (g := 8) (d := 56) (f := false) rfl rfl r56).trans rfl) (by go_simp) ⟨Pred.ext_refl _ _, rfl⟩
      · intro b X hE hd hn hV
        have r11 : b.tmps[11]?.getD undef = .int .i64 c := (hn 11 (by kernel_rfl)).trans rfl
        have r56 : b.tmps[56]?.getD undef = .bool false := hV 8 _ 56 rfl rfl (Pred.waits_near (by kernel_rfl) (by kernel_rfl))
        exact Pred.yields_run (v := .int .i64 c) ((Pred.wanted_at (g := 8) (d := 56) (f := false) rfl rfl r56).trans rfl) (by go_simp) ⟨Pred.ext_refl _ _, rfl⟩
      · intro b X hE hd hn hV
        have r60 : b.tmps[60]?.getD undef = .int .i64 c := hV 12 _ 60 rfl rfl (Pred.waits_near (by kernel_rfl) (by kernel_rfl))
        have r56 : b.tmps[56]?.getD undef = .bool false := hV 8 _ 56 rfl rfl (Pred.waits_near (by kernel_rfl) (by kernel_rfl))
        exact Pred.yields_run (v := .bool B1) ((Pred.wanted_at (g := 8) (d := 56) (f := false) rfl rfl r56).trans rfl) (by go_simp) ⟨Pred.ext_refl _ _, rfl⟩
      · intro b X hE hd hn hV
        have r59 : b.tmps[59]?.getD undef = .bool B1 := hV 11 _ 59 rfl rfl (Pred.waits_near (by kernel_rfl) (by kernel_rfl))
        have r61 : b.tmps[61]?.getD undef = .bool B1 := hV 13 _ 61 rfl rfl (Pred.waits_near (by kernel_rfl) (by kernel_rfl))
        have r56 : b.tmps[56]?.getD undef = .bool false := hV 8 _ 56 rfl rfl (Pred.waits_near (by kernel_rfl) (by kernel_rfl))
        exact Pred.yields_run (v := .bool false) ((Pred.wanted_at (g := 8) (d := 56) (f := false) rfl rfl r56).trans rfl) (by go_simp) ⟨Pred.ext_refl _ _, rfl⟩
      · intro b X hE hd hn hV
        have r56 : b.tmps[56]?.getD undef = .bool false := hV 8 _ 56 rfl rfl (Pred.waits_near (by kernel_rfl) (by kernel_rfl))
        have r62 : b.tmps[62]?.getD undef = .bool false := hV 14 _ 62 rfl rfl (Pred.waits_near (by kernel_rfl) (by kernel_rfl))
        exact Pred.yields_run (v := .bool false) (Pred.wanted_none rfl) (by go_simp) ⟨Pred.ext_refl _ _, rfl⟩
      · intro b X hE hd hn hV
        have r63 : b.tmps[63]?.getD undef = .bool false := hV 15 _ 63 rfl rfl (Pred.waits_near (by kernel_rfl) (by kernel_rfl))
        exact Pred.yields_run (v := .bool false) (Pred.wanted_none rfl) (by go_simp) ⟨Pred.ext_refl _ _, rfl⟩
      · intro b X hE hd hn hV
        have r9 : b.tmps[9]?.getD undef = .int .i64 (i : Int) := (hn 9 (by kernel_rfl)).trans rfl
        have r64 : b.tmps[64]?.getD undef = .bool false := hV 16 _ 64 rfl rfl (Pred.waits_near (by kernel_rfl) (by kernel_rfl))
        exact Pred.yields_run (v := .int .i64 (i : Int)) ((Pred.wanted_at (g := 16) (d := 64) (f := false) rfl rfl r64).trans rfl) (by go_simp) ⟨Pred.ext_refl _ _, rfl⟩
      · intro b X hE hd hn hV
        have r10 : b.tmps[10]?.getD undef = .int .i64 (k : Int) := (hn 10 (by kernel_rfl)).trans rfl
        have r64 : b.tmps[64]?.getD undef = .bool false := hV 16 _ 64 rfl rfl (Pred.waits_near (by kernel_rfl) (by kernel_rfl))
        exact Pred.yields_run (v := .int .i64 (k : Int)) ((Pred.wanted_at (g := 16) (d := 64) (f := false) rfl rfl r64).trans rfl) (by go_simp) ⟨Pred.ext_refl _ _, rfl⟩
      · intro b X hE hd hn hV
        have r65 : b.tmps[65]?.getD undef = .int .i64 (i : Int) := hV 17 _ 65 rfl rfl (Pred.waits_near (by kernel_rfl) (by kernel_rfl))
        have r66 : b.tmps[66]?.getD undef = .int .i64 (k : Int) := hV 18 _ 66 rfl rfl (Pred.waits_near (by kernel_rfl) (by kernel_rfl))
        have r64 : b.tmps[64]?.getD undef = .bool false := hV 16 _ 64 rfl rfl (Pred.waits_near (by kernel_rfl) (by kernel_rfl))
        exact Pred.yields_run (v := .bool B2) ((Pred.wanted_at (g := 16) (d := 64) (f := false) rfl rfl r64).trans rfl) (by go_simp) ⟨Pred.ext_refl _ _, rfl⟩
      · intro b X hE hd hn hV
        have r11 : b.tmps[11]?.getD undef = .int .i64 c := (hn 11 (by kernel_rfl)).trans rfl
        have r64 : b.tmps[64]?.getD undef = .bool false := hV 16 _ 64 rfl rfl (Pred.waits_near (by kernel_rfl) (by kernel_rfl))
        exact Pred.yields_run (v := .int .i64 c) ((Pred.wanted_at (g := 16) (d := 64) (f := false) rfl rfl r64).trans rfl) (by go_simp) ⟨Pred.ext_refl _ _, rfl⟩
      · intro b X hE hd hn hV
        have r68 : b.tmps[68]?.getD undef = .int .i64 c := hV 20 _ 68 rfl rfl (Pred.waits_near (by kernel_rfl) (by kernel_rfl))
        have r64 : b.tmps[64]?.getD undef = .bool false := hV 16 _ 64 rfl rfl (Pred.waits_near (by kernel_rfl) (by kernel_rfl))
        exact Pred.yields_run (v := .bool B2) ((Pred.wanted_at (g := 16) (d := 64) (f := false) rfl rfl r64).trans rfl) (by go_simp) ⟨Pred.ext_refl _ _, rfl⟩
      · intro b X hE hd hn hV
        have r67 : b.tmps[67]?.getD undef = .bool B2 := hV 19 _ 67 rfl rfl (Pred.waits_near (by kernel_rfl) (by kernel_rfl))
        have r69 : b.tmps[69]?.getD undef = .bool B2 := hV 21 _ 69 rfl rfl (Pred.waits_near (by kernel_rfl) (by kernel_rfl))
        have r64 : b.tmps[64]?.getD undef = .bool false := hV 16 _ 64 rfl rfl (Pred.waits_near (by kernel_rfl) (by kernel_rfl))
        exact Pred.yields_run (v := .bool false) ((Pred.wanted_at (g := 16) (d := 64) (f := false) rfl rfl r64).trans rfl) (by go_simp) ⟨Pred.ext_refl _ _, rfl⟩
      · intro b X hE hd hn hV
        have r64 : b.tmps[64]?.getD undef = .bool false := hV 16 _ 64 rfl rfl (Pred.waits_near (by kernel_rfl) (by kernel_rfl))
        have r70 : b.tmps[70]?.getD undef = .bool false := hV 22 _ 70 rfl rfl (Pred.waits_near (by kernel_rfl) (by kernel_rfl))
        exact Pred.yields_run (v := .bool false) (Pred.wanted_none rfl) (by go_simp) ⟨Pred.ext_refl _ _, rfl⟩
      · intro b X hE hd hn hV
        have r71 : b.tmps[71]?.getD undef = .bool false := hV 23 _ 71 rfl rfl (Pred.waits_near (by kernel_rfl) (by kernel_rfl))
        exact Pred.yields_run (v := .bool false) (Pred.wanted_none rfl) (by go_simp) ⟨Pred.ext_refl _ _, rfl⟩
      · intro b X hE hd hn hV
        have r8 : b.tmps[8]?.getD undef = .slice (some ⟨ga, o, none⟩) N cp := (hn 8 (by kernel_rfl)).trans rfl
        have r72 : b.tmps[72]?.getD undef = .bool false := hV 24 _ 72 rfl rfl (Pred.waits_near (by kernel_rfl) (by kernel_rfl))
        exact Pred.yields_run (v := .slice (some ⟨ga, o, none⟩) N cp) ((Pred.wanted_at (g := 24) (d := 72) (f := false) rfl rfl r72).trans rfl) (by go_simp) ⟨Pred.ext_refl _ _, rfl⟩
      · intro b X hE hd hn hV
        have r9 : b.tmps[9]?.getD undef = .int .i64 (i : Int) := (hn 9 (by kernel_rfl)).trans rfl
        have r72 : b.tmps[72]?.getD undef = .bool false := hV 24 _ 72 rfl rfl (Pred.waits_near (by kernel_rfl) (by kernel_rfl))
        exact Pred.yields_run (v := .int .i64 (i : Int)) ((Pred.wanted_at (g := 24) (d := 72) (f := false) rfl rfl r72).trans rfl) (by go_simp) ⟨Pred.ext_refl _ _, rfl⟩
      · intro b X hE hd hn hV
        have r73 : b.tmps[73]?.getD undef = .slice (some ⟨ga, o, none⟩) N cp := hV 25 _ 73 rfl rfl (Pred.waits_near (by kernel_rfl) (by kernel_rfl))
        have r74 : b.tmps[74]?.getD undef = .int .i64 (i : Int) := hV 26 _ 74 rfl rfl (Pred.waits_near (by kernel_rfl) (by kernel_rfl))
        have r72 : b.tmps[72]?.getD undef = .bool false := hV 24 _ 72 rfl rfl (Pred.waits_near (by kernel_rfl) (by kernel_rfl))
        exact Pred.yields_run (v := .pointer (some ⟨ga, o + i * 3, none⟩)) ((Pred.wanted_at (g := 24) (d := 72) (f := false) rfl rfl r72).trans rfl) (by go_simp) ⟨Pred.ext_refl _ _, rfl⟩
      · intro b X hE hd hn hV
        have r75 : b.tmps[75]?.getD undef = .pointer (some ⟨ga, o + i * 3, none⟩) := hV 27 _ 75 rfl rfl (Pred.waits_near (by kernel_rfl) (by kernel_rfl))
        have r72 : b.tmps[72]?.getD undef = .bool false := hV 24 _ 72 rfl rfl (Pred.waits_near (by kernel_rfl) (by kernel_rfl))
        exact Pred.yields_run (v := .pointer (some ⟨ga, o + i * 3, none⟩)) ((Pred.wanted_at (g := 24) (d := 72) (f := false) rfl rfl r72).trans rfl) (by go_simp) ⟨Pred.ext_refl _ _, rfl⟩
      · intro b X hE hd hn hV
        have r76 : b.tmps[76]?.getD undef = .pointer (some ⟨ga, o + i * 3, none⟩) := hV 28 _ 76 rfl rfl (Pred.waits_near (by kernel_rfl) (by kernel_rfl))
        have r72 : b.tmps[72]?.getD undef = .bool false := hV 24 _ 72 rfl rfl (Pred.waits_near (by kernel_rfl) (by kernel_rfl))
        obtain ⟨z0, z1, z2⟩ := cx_below hE hbb CX.out
        exact Pred.yields_run (v := .int .i64 x0) ((Pred.wanted_at (g := 24) (d := 72) (f := false) rfl rfl r72).trans rfl) (by go_simp) ⟨Pred.ext_refl _ _, rfl⟩
      · intro b X hE hd hn hV
        have r8 : b.tmps[8]?.getD undef = .slice (some ⟨ga, o, none⟩) N cp := (hn 8 (by kernel_rfl)).trans rfl
        have r72 : b.tmps[72]?.getD undef = .bool false := hV 24 _ 72 rfl rfl (Pred.waits_near (by kernel_rfl) (by kernel_rfl))
        exact Pred.yields_run (v := .slice (some ⟨ga, o, none⟩) N cp) ((Pred.wanted_at (g := 24) (d := 72) (f := false) rfl rfl r72).trans rfl) (by go_simp) ⟨Pred.ext_refl _ _, rfl⟩
      · intro b X hE hd hn hV
        have r10 : b.tmps[10]?.getD undef = .int .i64 (k : Int) := (hn 10 (by kernel_rfl)).trans rfl
        have r72 : b.tmps[72]?.getD undef = .bool false := hV 24 _ 72 rfl rfl (Pred.waits_near (by kernel_rfl) (by kernel_rfl))
        exact Pred.yields_run (v := .int .i64 (k : Int)) ((Pred.wanted_at (g := 24) (d := 72) (f := false) rfl rfl r72).trans rfl) (by go_simp) ⟨Pred.ext_refl _ _, rfl⟩
      · intro b X hE hd hn hV
        have r78 : b.tmps[78]?.getD undef = .slice (some ⟨ga, o, none⟩) N cp := hV 30 _ 78 rfl rfl (Pred.waits_near (by kernel_rfl) (by kernel_rfl))
        have r79 : b.tmps[79]?.getD undef = .int .i64 (k : Int) := hV 31 _ 79 rfl rfl (Pred.waits_near (by kernel_rfl) (by kernel_rfl))
        have r72 : b.tmps[72]?.getD undef = .bool false := hV 24 _ 72 rfl rfl (Pred.waits_near (by kernel_rfl) (by kernel_rfl))
        exact Pred.yields_run (v := .pointer (some ⟨ga, o + k * 3, none⟩)) ((Pred.wanted_at (g := 24) (d := 72) (f := false) rfl rfl r72).trans rfl) (by go_simp) ⟨Pred.ext_refl _ _, rfl⟩
      · intro b X hE hd hn hV
        have r80 : b.tmps[80]?.getD undef = .pointer (some ⟨ga, o + k * 3, none⟩) := hV 32 _ 80 rfl rfl (Pred.waits_near (by kernel_rfl) (by kernel_rfl))
        have r72 : b.tmps[72]?.getD undef = .bool false := hV 24 _ 72 rfl rfl (Pred.waits_near (by kernel_rfl) (by kernel_rfl))
        exact Pred.yields_run (v := .pointer (some ⟨ga, o + k * 3, none⟩)) ((Pred.wanted_at (g := 24) (d := 72) (f := false) rfl rfl r72).trans rfl) (by go_simp) ⟨Pred.ext_refl _ _, rfl⟩
      · intro b X hE hd hn hV
        have r81 : b.tmps[81]?.getD undef = .pointer (some ⟨ga, o + k * 3, none⟩) := hV 33 _ 81 rfl rfl (Pred.waits_near (by kernel_rfl) (by kernel_rfl))
        have r72 : b.tmps[72]?.getD undef = .bool false := hV 24 _ 72 rfl rfl (Pred.waits_near (by kernel_rfl) (by kernel_rfl))
        obtain ⟨z0, z1, z2⟩ := cx_below hE hbb CY.out
        exact Pred.yields_run (v := .int .i64 y0) ((Pred.wanted_at (g := 24) (d := 72) (f := false) rfl rfl r72).trans rfl) (by go_simp) ⟨Pred.ext_refl _ _, rfl⟩
      · intro b X hE hd hn hV
        have r77 : b.tmps[77]?.getD undef = .int .i64 x0 := hV 29 _ 77 rfl rfl (Pred.waits_near (by kernel_rfl) (by kernel_rfl))
        have r82 : b.tmps[82]?.getD undef = .int .i64 y0 := hV 34 _ 82 rfl rfl (Pred.waits_near (by kernel_rfl) (by kernel_rfl))
        have r72 : b.tmps[72]?.getD undef = .bool false := hV 24 _ 72 rfl rfl (Pred.waits_near (by kernel_rfl) (by kernel_rfl))
        exact Pred.yields_run (v := .bool false) ((Pred.wanted_at (g := 24) (d := 72) (f := false) rfl rfl r72).trans rfl) (by go_simp) ⟨Pred.ext_refl _ _, rfl⟩
      · intro b X hE hd hn hV
        have r83 : b.tmps[83]?.getD undef = .bool false := hV 35 _ 83 rfl rfl (Pred.waits_near (by kernel_rfl) (by kernel_rfl))
        have r72 : b.tmps[72]?.getD undef = .bool false := hV 24 _ 72 rfl rfl (Pred.waits_near (by kernel_rfl) (by kernel_rfl))
        exact Pred.yields_run (v := .bool false) ((Pred.wanted_at (g := 24) (d := 72) (f := false) rfl rfl r72).trans rfl) (by go_simp) ⟨Pred.ext_refl _ _, rfl⟩
      · intro b X hE hd hn hV
        have r84 : b.tmps[84]?.getD undef = .bool false := hV 36 _ 84 rfl rfl (Pred.waits_near (by kernel_rfl) (by kernel_rfl))
        exact Pred.yields_not ((Pred.wanted_at (g := 36) (d := 84) (f := true) rfl rfl r84).trans rfl) ⟨Pred.ext_refl _ _, rfl⟩
      · intro b X hE hd hn hV
        have r84 : b.tmps[84]?.getD undef = .bool false := hV 36 _ 84 rfl rfl (Pred.waits_near (by kernel_rfl) (by kernel_rfl))
        exact Pred.yields_not ((Pred.wanted_at (g := 36) (d := 84) (f := true) rfl rfl r84).trans rfl) ⟨Pred.ext_refl _ _, rfl⟩
      · intro b X hE hd hn hV
        have r84 : b.tmps[84]?.getD undef = .bool false := hV 36 _ 84 rfl rfl (Pred.waits_near (by kernel_rfl) (by kernel_rfl))
        have r86 : b.tmps[86]?.getD undef = undef := hV 38 _ 86 rfl rfl (Pred.waits_near (by kernel_rfl) (by kernel_rfl))
        have r72 : b.tmps[72]?.getD undef = .bool false := hV 24 _ 72 rfl rfl (Pred.waits_near (by kernel_rfl) (by kernel_rfl))
        exact Pred.yields_run (v := .bool false) ((Pred.wanted_at (g := 24) (d := 72) (f := false) rfl rfl r72).trans rfl) (by go_simp) ⟨Pred.ext_refl _ _, rfl⟩
      · intro b X hE hd hn hV
        have r72 : b.tmps[72]?.getD undef = .bool false := hV 24 _ 72 rfl rfl (Pred.waits_near (by kernel_rfl) (by kernel_rfl))
        have r87 : b.tmps[87]?.getD undef = .bool false := hV 39 _ 87 rfl rfl (Pred.waits_near (by kernel_rfl) (by kernel_rfl))
        exact Pred.yields_run (v := .bool false) (Pred.wanted_none rfl) (by go_simp) ⟨Pred.ext_refl _ _, rfl⟩
    intro v w6 hE hv
    have e0 : v 0 = .int .i64 (n : Int) := hv 0 _ 48 rfl rfl
    have e1 : v 1 = .slice (some ⟨ga, o, none⟩) N cp := hv 1 _ 49 rfl rfl
    have e2 : v 2 = .int .i64 (i : Int) := hv 2 _ 50 rfl rfl
    have e3 : v 3 = .pointer (some ⟨ga, o + i * 3, none⟩) := hv 3 _ 51 rfl rfl
    have e4 : v 4 = .agg #[.int .i64 x0, .int .i64 x1, .int .i64 x2] := hv 4 _ 52 rfl rfl
    have e5 : v 5 = .int .i64 i := hv 5 _ 53 rfl rfl
    have e6 : v 6 = .int .i64 (i : Int) := hv 6 _ 54 rfl rfl
    have e7 : v 7 = .bool false := hv 7 _ 55 rfl rfl
    have e8 : v 8 = .bool false := hv 8 _ 56 rfl rfl
    have e9 : v 9 = .int .i64 (i : Int) := hv 9 _ 57 rfl rfl
    have e10 : v 10 = .int .i64 (k : Int) := hv 10 _ 58 rfl rfl
    have e11 : v 11 = .bool B1 := hv 11 _ 59 rfl rfl
    have e12 : v 12 = .int .i64 c := hv 12 _ 60 rfl rfl
    have e13 : v 13 = .bool B1 := hv 13 _ 61 rfl rfl
    have e14 : v 14 = .bool false := hv 14 _ 62 rfl rfl
    have e15 : v 15 = .bool false := hv 15 _ 63 rfl rfl
    have e16 : v 16 = .bool false := hv 16 _ 64 rfl rfl
    have e17 : v 17 = .int .i64 (i : Int) := hv 17 _ 65 rfl rfl
    have e18 : v 18 = .int .i64 (k : Int) := hv 18 _ 66 rfl rfl
    have e19 : v 19 = .bool B2 := hv 19 _ 67 rfl rfl
    have e20 : v 20 = .int .i64 c := hv 20 _ 68 rfl rfl
    have e21 : v 21 = .bool B2 := hv 21 _ 69 rfl rfl
    have e22 : v 22 = .bool false := hv 22 _ 70 rfl rfl
    have e23 : v 23 = .bool false := hv 23 _ 71 rfl rfl
    have e24 : v 24 = .bool false := hv 24 _ 72 rfl rfl
    have e25 : v 25 = .slice (some ⟨ga, o, none⟩) N cp := hv 25 _ 73 rfl rfl
    have e26 : v 26 = .int .i64 (i : Int) := hv 26 _ 74 rfl rfl
    have e27 : v 27 = .pointer (some ⟨ga, o + i * 3, none⟩) := hv 27 _ 75 rfl rfl
    have e28 : v 28 = .pointer (some ⟨ga, o + i * 3, none⟩) := hv 28 _ 76 rfl rfl
    have e29 : v 29 = .int .i64 x0 := hv 29 _ 77 rfl rfl
    have e30 : v 30 = .slice (some ⟨ga, o, none⟩) N cp := hv 30 _ 78 rfl rfl
    have e31 : v 31 = .int .i64 (k : Int) := hv 31 _ 79 rfl rfl
    have e32 : v 32 = .pointer (some ⟨ga, o + k * 3, none⟩) := hv 32 _ 80 rfl rfl
    have e33 : v 33 = .pointer (some ⟨ga, o + k * 3, none⟩) := hv 33 _ 81 rfl rfl
    have e34 : v 34 = .int .i64 y0 := hv 34 _ 82 rfl rfl
    have e35 : v 35 = .bool false := hv 35 _ 83 rfl rfl
    have e36 : v 36 = .bool false := hv 36 _ 84 rfl rfl
    have e37 : v 37 = undef := hv 37 _ 85 rfl rfl
    have e38 : v 38 = undef := hv 38 _ 86 rfl rfl
    have e39 : v 39 = .bool false := hv 39 _ 87 rfl rfl
    have e40 : v 40 = .bool false := hv 40 _ 88 rfl rfl
    simp only [Pred.putsF_cons, Pred.putsF_nil, Nat.zero_add, Nat.reduceAdd, e0, e1, e2, e3, e4, e5, e6, e7, e8, e9, e10, e11, e12, e13, e14, e15, e16, e17, e18, e19, e20, e21, e22, e23, e24, e25, e26, e27, e28, e29, e30, e31, e32, e33, e34, e35, e36, e37, e38, e39, e40, Act.put, List.setIfInBounds_toArray, List.set_cons_zero, List.set_cons_succ]
    clear e0 e1 e2 e3 e4 e5 e6 e7 e8 e9 e10 e11 e12 e13 e14 e15 e16 e17 e18 e19 e20 e21 e22 e23 e24 e25 e26 e27 e28 e29 e30 e31 e32 e33 e34 e35 e36 e37 e38 e39 e40 hv
    have L6 : Below w.heap.size w w6 := by repeat' (first | (with_reducible exact Below.refl _ _) | (with_reducible refine Rd.below_step ?_ (by assumption)) | (with_reducible refine Rd.below_alloc ?_ _) | (with_reducible refine Rd.below_drewN ?_ _) | (with_reducible refine Below.drew ?_) | (with_reducible refine Below.setCell ?_ ?_ _) | (with_reducible refine Rd.below_setRow ?_ ?_ _) | go_size | (simp only [World.size_alloc]; omega) | omega)
    replace CX := Lib.hid (cx_below hE hbb CX.out)
    replace hbb : ga < w6.heap.size := Nat.lt_of_lt_of_le hbb hE.size
    clear hE L5 CK CY e1 e2 e3 e4 hq d62 d70
    go_wp2_with fail
    go_loopw [12, 13] (fun s j X => ∃ t : Nat, t ≤ n + 1 ∧ s = .int .i64 (sum4 t) ∧ j = .int .i64 t ∧ Below w6.heap.size w6 X) (fun _ j _ => n + 1 - (intOf j).toNat)
    case atStart => exact ⟨0, by omega, rfl, rfl, Below.refl _ _⟩
    case round =>
      obtain ⟨t, ht, rfl, rfl, hbt⟩ := hrel
      rename World => X
      by_cases htn : t ≤ n
      · have htn' : (t : Int) ≤ n := by omega
        have S0 : sum4 0 = 0 := rfl
        have S1 : sum4 1 = 1 := rfl
        have S2 : sum4 2 = 5 := rfl
        have S3 : sum4 3 = 21 := rfl
        have S4 : sum4 4 = 85 := rfl
        rcases n4 (show t ≤ 3 by omega) with rfl | rfl | rfl | rfl
        · go_wp2
          go_roundw
          case rel => exact ⟨1, by omega, congrArg (Value.int .i64) S1.symm, rfl, hbt⟩
          case measure => (simp [intOf]; try omega)
        · go_wp2
          go_roundw
          case rel => exact ⟨2, by omega, congrArg (Value.int .i64) S2.symm, rfl, hbt⟩
          case measure => (simp [intOf]; try omega)
        · go_wp2
          go_roundw
          case rel => exact ⟨3, by omega, congrArg (Value.int .i64) S3.symm, rfl, hbt⟩
          case measure => (simp [intOf]; try omega)
        · go_wp2
          go_roundw
          case rel => exact ⟨4, by omega, congrArg (Value.int .i64) S4.symm, rfl, hbt⟩
          case measure => (simp [intOf]; try omega)
      · obtain rfl : t = n + 1 := by omega
        have hnn : ¬ ((n + 1 : Nat) : Int) ≤ (n : Int) := by omega
        rw [hS4.out]
        go_wp2_with fail
        refine (CA.out _).mono ?_
        rintro e w7 ⟨rfl, hb7⟩
        have L7 : Below w.heap.size w w7 := (L6.trans (hbt.mono L6.size)).trans (hb7.mono (Nat.le_trans L6.size hbt.size))
        have hE7 : Below w6.heap.size w6 w7 := hbt.trans (hb7.mono hbt.size)
        replace CX := Lib.hid (cx_below hE7 hbb CX.out)
        replace hbb : ga < w7.heap.size := Nat.lt_of_lt_of_le hbb hE7.size
        clear hE7 hb7 hbt L6 CA
        go_upto_region 15 with (fail)
        refine Rd.name_world ?_
        intro w8 hw
        have bP : blk w8 w7.heap.size = some (.cells #[.int .i64 x0, .int .i64 x1, .int .i64 x2] 23 (0, 0)) := by rw [hw]; exact blk_alloc_at _ _ _ rfl
        have L8 : Below w.heap.size w w8 := by
          rw [hw]
          repeat' (first | (with_reducible exact Below.refl _ _) | (with_reducible refine Rd.below_step ?_ (by assumption)) | (with_reducible refine Rd.below_alloc ?_ _) | (with_reducible refine Rd.below_drewN ?_ _) | (with_reducible refine Below.drew ?_) | (with_reducible refine Below.setCell ?_ ?_ _) | (with_reducible refine Rd.below_setRow ?_ ?_ _) | go_size | (simp only [World.size_alloc]; omega) | omega)
        have hE8 : Below w7.heap.size w7 w8 := by
          rw [hw]
          repeat' (first | (with_reducible exact Below.refl _ _) | (with_reducible refine Rd.below_step ?_ (by assumption)) | (with_reducible refine Rd.below_alloc ?_ _) | (with_reducible refine Rd.below_drewN ?_ _) | (with_reducible refine Below.drew ?_) | (with_reducible refine Below.setCell ?_ ?_ _) | (with_reducible refine Rd.below_setRow ?_ ?_ _) | go_size | (simp only [World.size_alloc]; omega) | omega)
        obtain ⟨pb, hpb⟩ : ∃ p, w7.heap.size = p := ⟨_, rfl⟩
        replace CX := Lib.hid (cx_below hE8 hbb CX.out)
        replace hbb : ga < w8.heap.size := Nat.lt_of_lt_of_le hbb hE8.size
        rw [hpb] at bP ⊢
        have lP := blk_lt bP
        have d0 : eqL [x0, x1, x2] [x0, x1, x2] = true := decide_eq_true rfl
        clear hw hE8 hpb L7
        refine Pred.region_vals (Pred.Of [
            Is (.int .i64 N),
            Is (.slice (some ⟨ga, o, none⟩) N cp),
            Is (.int .i64 N),
            Is (.bool true),
            Is (.bool true),
            Is (.bool true),
            Is (.bool true),
            Is (.bool true),
            Is (.agg #[.int .i64 x0, .int .i64 x1, .int .i64 x2]),
            Is (.slice (some ⟨ga, o, none⟩) N cp),
            Is (.int .i64 (i : Int)),
            Is (.pointer (some ⟨ga, o + i * 3, none⟩)),
            Is (.agg #[.int .i64 x0, .int .i64 x1, .int .i64 x2]),
            Is (.bool true),
            Is (.bool true),
            Is (.bool true),
            Is (.bool true),
            Is (.bool true),
            Is (.bool true)]) (by kernel_rfl) (by kernel_rfl) (by kernel_rfl) (Pred.of_stab ?_) ?_ ?_
        · exact ⟨is_stab _, is_stab _, is_stab _, is_stab _, is_stab _, is_stab _, is_stab _, is_stab _, is_stab _, is_stab _, is_stab _, is_stab _, is_stab _, is_stab _, is_stab _, is_stab _, is_stab _, is_stab _, is_stab _, trivial⟩
        · refine ⟨?_, ?_, ?_, ?_, ?_, ?_, ?_, ?_, ?_, ?_, ?_, ?_, ?_, ?_, ?_, ?_, ?_, ?_, ?_, trivial⟩
          · intro b X hE hd hn hV
            have r12 : b.tmps[12]?.getD undef = .int .i64 N := (hn 12 (by kernel_rfl)).trans rfl
            exact Pred.yields_run (v := .int .i64 N) (Pred.wanted_none rfl) (by go_simp) ⟨Pred.ext_refl _ _, rfl⟩
          · intro b X hE hd hn hV
            have r8 : b.tmps[8]?.getD undef = .slice (some ⟨ga, o, none⟩) N cp := (hn 8 (by kernel_rfl)).trans rfl
            exact Pred.yields_run (v := .slice (some ⟨ga, o, none⟩) N cp) (Pred.wanted_none rfl) (by go_simp) ⟨Pred.ext_refl _ _, rfl⟩
          · intro b X hE hd hn hV
            have r106 : b.tmps[106]?.getD undef = .slice (some ⟨ga, o, none⟩) N cp := hV 1 _ 106 rfl rfl (Pred.waits_near (by kernel_rfl) (by kernel_rfl))
            exact Pred.yields_run (v := .int .i64 N) (Pred.wanted_none rfl) (by go_simp) ⟨Pred.ext_refl _ _, rfl⟩
          · intro b X hE hd hn hV
            have r105 : b.tmps[105]?.getD undef = .int .i64 N := hV 0 _ 105 rfl rfl (Pred.waits_near (by kernel_rfl) (by kernel_rfl))
            have r107 : b.tmps[107]?.getD undef = .int .i64 N := hV 2 _ 107 rfl rfl (Pred.waits_near (by kernel_rfl) (by kernel_rfl))
            exact Pred.yields_run (v := .bool true) (Pred.wanted_none rfl) (by go_simp) ⟨Pred.ext_refl _ _, rfl⟩
          · intro b X hE hd hn hV
            have r108 : b.tmps[108]?.getD undef = .bool true := hV 3 _ 108 rfl rfl (Pred.waits_near (by kernel_rfl) (by kernel_rfl))
            exact Pred.yields_run (v := .bool true) (Pred.wanted_none rfl) (by go_simp) ⟨Pred.ext_refl _ _, rfl⟩
          · intro b X hE hd hn hV
            have r15 : b.tmps[15]?.getD undef = .bool true := (hn 15 (by kernel_rfl)).trans rfl
            have r109 : b.tmps[109]?.getD undef = .bool true := hV 4 _ 109 rfl rfl (Pred.waits_near (by kernel_rfl) (by kernel_rfl))
            exact Pred.yields_run (v := .bool true) ((Pred.wanted_at (g := 4) (d := 109) (f := true) rfl rfl r109).trans rfl) (by go_simp) ⟨Pred.ext_refl _ _, rfl⟩
          · intro b X hE hd hn hV
            have r109 : b.tmps[109]?.getD undef = .bool true := hV 4 _ 109 rfl rfl (Pred.waits_near (by kernel_rfl) (by kernel_rfl))
            have r110 : b.tmps[110]?.getD undef = .bool true := hV 5 _ 110 rfl rfl (Pred.waits_near (by kernel_rfl) (by kernel_rfl))
            exact Pred.yields_run (v := .bool true) (Pred.wanted_none rfl) (by go_simp) ⟨Pred.ext_refl _ _, rfl⟩
          · intro b X hE hd hn hV
            have r111 : b.tmps[111]?.getD undef = .bool true := hV 6 _ 111 rfl rfl (Pred.waits_near (by kernel_rfl) (by kernel_rfl))
            exact Pred.yields_run (v := .bool true) (Pred.wanted_none rfl) (by go_simp) ⟨Pred.ext_refl _ _, rfl⟩
          · intro b X hE hd hn hV
            have r14 : b.tmps[14]?.getD undef = .pointer (some ⟨pb, 0, none⟩) := (hn 14 (by kernel_rfl)).trans rfl
            have r112 : b.tmps[112]?.getD undef = .bool true := hV 7 _ 112 rfl rfl (Pred.waits_near (by kernel_rfl) (by kernel_rfl))
            have q := (blk_below hE _ lP).trans bP
            have z0 : X.cell? ⟨pb, 0, none⟩ = some (.int .i64 x0) := by rw [blk_cell q]; rfl
            have z1 : X.cell? ⟨pb, 1, none⟩ = some (.int .i64 x1) := by rw [blk_cell q]; rfl
            have z2 : X.cell? ⟨pb, 2, none⟩ = some (.int .i64 x2) := by rw [blk_cell q]; rfl
            exact Pred.yields_run (v := .agg #[.int .i64 x0, .int .i64 x1, .int .i64 x2]) ((Pred.wanted_at (g := 7) (d := 112) (f := true) rfl rfl r112).trans rfl) (by go_simp) ⟨Pred.ext_refl _ _, rfl⟩
          · intro b X hE hd hn hV
            have r8 : b.tmps[8]?.getD undef = .slice (some ⟨ga, o, none⟩) N cp := (hn 8 (by kernel_rfl)).trans rfl
            have r112 : b.tmps[112]?.getD undef = .bool true := hV 7 _ 112 rfl rfl (Pred.waits_near (by kernel_rfl) (by kernel_rfl))
            exact Pred.yields_run (v := .slice (some ⟨ga, o, none⟩) N cp) ((Pred.wanted_at (g := 7) (d := 112) (f := true) rfl rfl r112).trans rfl) (by go_simp) ⟨Pred.ext_refl _ _, rfl⟩
          · intro b X hE hd hn hV
            have r9 : b.tmps[9]?.getD undef = .int .i64 (i : Int) := (hn 9 (by kernel_rfl)).trans rfl
            have r112 : b.tmps[112]?.getD undef = .bool true := hV 7 _ 112 rfl rfl (Pred.waits_near (by kernel_rfl) (by kernel_rfl))
            exact Pred.yields_run (v := .int .i64 (i : Int)) ((Pred.wanted_at (g := 7) (d := 112) (f := true) rfl rfl r112).trans rfl) (by go_simp) ⟨Pred.ext_refl _ _, rfl⟩
          · intro b X hE hd hn hV
            have r114 : b.tmps[114]?.getD undef = .slice (some ⟨ga, o, none⟩) N cp := hV 9 _ 114 rfl rfl (Pred.waits_near (by kernel_rfl) (by kernel_rfl))
            have r115 : b.tmps[115]?.getD undef = .int .i64 (i : Int) := hV 10 _ 115 rfl rfl (Pred.waits_near (by kernel_rfl) (by kernel_rfl))
            have r112 : b.tmps[112]?.getD undef = .bool true := hV 7 _ 112 rfl rfl (Pred.waits_near (by kernel_rfl) (by kernel_rfl))
            exact Pred.yields_run (v := .pointer (some ⟨ga, o + i * 3, none⟩)) ((Pred.wanted_at (g := 7) (d := 112) (f := true) rfl rfl r112).trans rfl) (by go_simp) ⟨Pred.ext_refl _ _, rfl⟩
          · intro b X hE hd hn hV
            have r116 : b.tmps[116]?.getD undef = .pointer (some ⟨ga, o + i * 3, none⟩) := hV 11 _ 116 rfl rfl (Pred.waits_near (by kernel_rfl) (by kernel_rfl))
            have r112 : b.tmps[112]?.getD undef = .bool true := hV 7 _ 112 rfl rfl (Pred.waits_near (by kernel_rfl) (by kernel_rfl))
            obtain ⟨z0, z1, z2⟩ := cx_below hE hbb CX.out
            exact Pred.yields_run (v := .agg #[.int .i64 x0, .int .i64 x1, .int .i64 x2]) ((Pred.wanted_at (g := 7) (d := 112) (f := true) rfl rfl r112).trans rfl) (by go_simp) ⟨Pred.ext_refl _ _, rfl⟩
          · intro b X hE hd hn hV
            have r113 : b.tmps[113]?.getD undef = .agg #[.int .i64 x0, .int .i64 x1, .int .i64 x2] := hV 8 _ 113 rfl rfl (Pred.waits_near (by kernel_rfl) (by kernel_rfl))
            have r117 : b.tmps[117]?.getD undef = .agg #[.int .i64 x0, .int .i64 x1, .int .i64 x2] := hV 12 _ 117 rfl rfl (Pred.waits_near (by kernel_rfl) (by kernel_rfl))
            have r112 : b.tmps[112]?.getD undef = .bool true := hV 7 _ 112 rfl rfl (Pred.waits_near (by kernel_rfl) (by kernel_rfl))
            exact Pred.yields_run (v := .bool true) ((Pred.wanted_at (g := 7) (d := 112) (f := true) rfl rfl r112).trans rfl) (by go_simp) ⟨Pred.ext_refl _ _, rfl⟩
          · intro b X hE hd hn hV
            have r112 : b.tmps[112]?.getD undef = .bool true := hV 7 _ 112 rfl rfl (Pred.waits_near (by kernel_rfl) (by kernel_rfl))
            have r118 : b.tmps[118]?.getD undef = .bool true := hV 13 _ 118 rfl rfl (Pred.waits_near (by kernel_rfl) (by kernel_rfl))
            exact Pred.yields_run (v := .bool true) (Pred.wanted_none rfl) (by go_simp) ⟨Pred.ext_refl _ _, rfl⟩
          · intro b X hE hd hn hV
            have r119 : b.tmps[119]?.getD undef = .bool true := hV 14 _ 119 rfl rfl (Pred.waits_near (by kernel_rfl) (by kernel_rfl))
            exact Pred.yields_run (v := .bool true) (Pred.wanted_none rfl) (by go_simp) ⟨Pred.ext_refl _ _, rfl⟩
          · intro b X hE hd hn hV
            have r120 : b.tmps[120]?.getD undef = .bool true := hV 15 _ 120 rfl rfl (Pred.waits_near (by kernel_rfl) (by kernel_rfl))
            refine Pred.yields_call (f := 21) (args := #[]) ((Pred.wanted_at (g := 15) (d := 120) (f := true) rfl rfl r120).trans rfl) (by go_simp) ?_
            exact (awake_any _).mono fun e w2 ⟨he, hb⟩ => ⟨_, he, Pred.ext_below hb hE.size, rfl⟩
          · intro b X hE hd hn hV
            have r120 : b.tmps[120]?.getD undef = .bool true := hV 15 _ 120 rfl rfl (Pred.waits_near (by kernel_rfl) (by kernel_rfl))
            have r121 : b.tmps[121]?.getD undef = .bool true := hV 16 _ 121 rfl rfl (Pred.waits_near (by kernel_rfl) (by kernel_rfl))
            exact Pred.yields_run (v := .bool true) (Pred.wanted_none rfl) (by go_simp) ⟨Pred.ext_refl _ _, rfl⟩
          · intro b X hE hd hn hV
            have r122 : b.tmps[122]?.getD undef = .bool true := hV 17 _ 122 rfl rfl (Pred.waits_near (by kernel_rfl) (by kernel_rfl))
            exact Pred.yields_run (v := .bool true) (Pred.wanted_none rfl) (by go_simp) ⟨Pred.ext_refl _ _, rfl⟩
        intro v w9 hE hv
        have e0 : v 0 = .int .i64 N := hv 0 _ 105 rfl rfl
        have e1 : v 1 = .slice (some ⟨ga, o, none⟩) N cp := hv 1 _ 106 rfl rfl
        have e2 : v 2 = .int .i64 N := hv 2 _ 107 rfl rfl
        have e3 : v 3 = .bool true := hv 3 _ 108 rfl rfl
        have e4 : v 4 = .bool true := hv 4 _ 109 rfl rfl
        have e5 : v 5 = .bool true := hv 5 _ 110 rfl rfl
        have e6 : v 6 = .bool true := hv 6 _ 111 rfl rfl
        have e7 : v 7 = .bool true := hv 7 _ 112 rfl rfl
        have e8 : v 8 = .agg #[.int .i64 x0, .int .i64 x1, .int .i64 x2] := hv 8 _ 113 rfl rfl
        have e9 : v 9 = .slice (some ⟨ga, o, none⟩) N cp := hv 9 _ 114 rfl rfl
        have e10 : v 10 = .int .i64 (i : Int) := hv 10 _ 115 rfl rfl
        have e11 : v 11 = .pointer (some ⟨ga, o + i * 3, none⟩) := hv 11 _ 116 rfl rfl
        have e12 : v 12 = .agg #[.int .i64 x0, .int .i64 x1, .int .i64 x2] := hv 12 _ 117 rfl rfl
        have e13 : v 13 = .bool true := hv 13 _ 118 rfl rfl
        have e14 : v 14 = .bool true := hv 14 _ 119 rfl rfl
        have e15 : v 15 = .bool true := hv 15 _ 120 rfl rfl
        have e16 : v 16 = .bool true := hv 16 _ 121 rfl rfl
        have e17 : v 17 = .bool true := hv 17 _ 122 rfl rfl
        have e18 : v 18 = .bool true := hv 18 _ 6 rfl rfl
        simp only [Pred.putsF_cons, Pred.putsF_nil, Nat.zero_add, Nat.reduceAdd, e0, e1, e2, e3, e4, e5, e6, e7, e8, e9, e10, e11, e12, e13, e14, e15, e16, e17, e18, Act.put, List.setIfInBounds_toArray, List.set_cons_zero, List.set_cons_succ]
        clear e0 e1 e2 e3 e4 e5 e6 e7 e8 e9 e10 e11 e12 e13 e14 e15 e16 e17 e18 hv
        have L9 : Below w.heap.size w w9 := by repeat' (first | (with_reducible exact Below.refl _ _) | (with_reducible refine Rd.below_step ?_ (by assumption)) | (with_reducible refine Rd.below_alloc ?_ _) | (with_reducible refine Rd.below_drewN ?_ _) | (with_reducible refine Below.drew ?_) | (with_reducible refine Below.setCell ?_ ?_ _) | (with_reducible refine Rd.below_setRow ?_ ?_ _) | go_size | (simp only [World.size_alloc]; omega) | omega)
        clear hE
        go_wp2
        go_ret
        exact ⟨rfl, L9⟩
end Go.Proofs.Ytnigilommckmlaa.PgI

/-
  What repeats itself is packed short (LzShort).
-/
import Derived.Test.YtminaamfelcajaaLzE
namespace Go.Proofs.Ytminaamfelcajaa.LzF
open Go.RowKit Rd Go.Proofs.Ytminaamfelcajaa.Row OctA MaM MaA BitB BitD LzM LzA LzB LzC LzD
open MaD (own_bel own_mono)
set_option linter.unusedVariables false
set_option linter.unusedSimpArgs false
set_option maxRecDepth 10000
/-! a row of one byte -/
theorem rep_at {n i : Nat} {v : Int} (h : i < n) : (List.replicate n v).getD i 0 = v := by simp [List.getD, h]
theorem rep_best {n a : Nat} {v : Int} (h1 : 1 ≤ a) (h2 : a + 3 ≤ n) : bst (List.replicate n v) a = (1, min 258 (n - a)) := by
  have hm : most (List.replicate n v) a = min 258 (n - a) := by unfold most; rw [List.length_replicate]
  have hr : runL (List.replicate n v) a 1 = min 258 (n - a) := by
    rw [← hm]
    refine run_is (Nat.le_refl _) (fun i hi => ?_) (.inl rfl)
    rw [hm] at hi
    rw [rep_at (by omega), rep_at (by omega)]
  have hd : ds (mat (List.replicate n v) a) 1 = [1] := by
    rw [ds_succ, if_pos (by unfold mat; rw [decide_eq_true_iff, hr]; omega)]
    rfl
  have hb : best (List.replicate n v) a [1] = (1, min 258 (n - a)) := by
    show try1 _ _ (0, 0) 1 = _
    unfold try1
    rw [hr, if_pos (by show 0 < _; omega)]
  have hp : [1] <+: all (List.replicate n v) a := by rw [← hd]; exact ds_pre (by omega)
  unfold bst
  rw [best_full hp (by rw [hb, hm]), hb]
theorem rep_none {n a : Nat} {v : Int} (h : a = 0 ∨ n < a + 3) : bst (List.replicate n v) a = (0, 0) := by
  have : all (List.replicate n v) a = [] := by
    rcases h with rfl | h
    · rfl
    · exact all_short (by rw [List.length_replicate]; omega)
  unfold bst
  rw [this]
  rfl
theorem rep_step {n a f : Nat} {v : Int} (h1 : 1 ≤ a) (h2 : a + 3 ≤ n) : (packF (List.replicate n v) (f + 1) a).length = 21 + (packF (List.replicate n v) f (a + min 258 (n - a))).length := by
  have hb := rep_best (v := v) h1 h2
  have h0 : ¬ (bst (List.replicate n v) a).2 = 0 := by rw [hb]; show ¬ min 258 (n - a) = 0; omega
  have hs : (stepB (List.replicate n v) a).length = 21 := by
    unfold stepB
    rw [if_neg h0, List.length_append, List.length_append, putL_length, putL_length, putL_length]
  have hn : nextA (List.replicate n v) a = a + min 258 (n - a) := by
    unfold nextA
    rw [if_neg h0, hb]
  show (if a < (List.replicate n v).length then _ else _ : List Nat).length = _
  rw [if_pos (by rw [List.length_replicate]; omega), List.length_append, hs, hn]
theorem rep_one {n a f : Nat} {v : Int} (h : a = 0 ∨ n < a + 3) (ha : a < n) : (packF (List.replicate n v) (f + 1) a).length = 9 + (packF (List.replicate n v) f (a + 1)).length := by
  have hb := rep_none (v := v) h
  have h0 : (bst (List.replicate n v) a).2 = 0 := by rw [hb]
  have hs : (stepB (List.replicate n v) a).length = 9 := by
    unfold stepB
    rw [if_pos h0, List.length_append, putL_length, putL_length]
  have hn : nextA (List.replicate n v) a = a + 1 := by
    unfold nextA
    rw [if_pos h0]
  show (if a < (List.replicate n v).length then _ else _ : List Nat).length = _
  rw [if_pos (by rw [List.length_replicate]; omega), List.length_append, hs, hn]
theorem rep_tail {n : Nat} {v : Int} : ∀ (f a : Nat), 1 ≤ a → n < a + 3 → n - a ≤ f → (packF (List.replicate n v) f a).length = 9 * (n - a)
  | 0, a, h1, h2, h3 => by rw [show n - a = 0 by omega]; rfl
  | f + 1, a, h1, h2, h3 => by
    by_cases h : a < n
    · rw [rep_one (.inr h2) h, rep_tail f (a + 1) (by omega) (by omega) (by omega)]
      omega
    · rw [packF_end (by rw [List.length_replicate]; omega)]
      show 0 = _
      omega
theorem rep_start {n : Nat} {v : Int} (h : 1 ≤ n) : (packB (List.replicate n v)).length = 25 + (packF (List.replicate n v) (n - 1) 1).length := by
  unfold packB
  rw [List.length_append, putL_length, List.length_replicate]
  obtain ⟨m, rfl⟩ : ∃ m, n = m + 1 := ⟨n - 1, by omega⟩
  rw [rep_one (.inl rfl) (by omega)]
  show 16 + (9 + (packF (List.replicate (m + 1) v) m 1).length) = 25 + (packF (List.replicate (m + 1) v) m 1).length
  omega
theorem run_make_u8 (n : Nat) (hn : n ≤ 100000) (w : World) :
    (Instr.makeSlice 22 (.int .i64 (n : Int)) (.int .i64 (n : Int))).run Try.prog w = .ok (.slice (some ⟨w.heap.size, 0, none⟩) n n) (w.alloc (.cells (us (List.replicate n 0)).toArray 5)) := by
  obtain ⟨i, hi, hz, hs, hb⟩ := info_parts BitA.info_u8
  have hr := run_make (P := Try.prog) w 22 5 i (.int .u8 0) Try.underlying22 hi hz .i64 .i64 (n : Int) (n : Int) (by omega) (by omega) (by rw [hb]; omega) (by omega)
  simp only [Int.toNat_natCast, hs, Nat.mul_one] at hr
  rw [hr]
  congr 2
  congr 1
  apply Array.ext
  · simp [size_madeCells, us]
  · intro j h1 h2
    simp [madeCells, Value.cells, us]
    rw [Nat.mod_one]
    rfl
attribute [local go_sem ↓] run_make_u8
theorem rep_fill (n : Nat) (v : Int) : fillK n (fun _ => v) n = List.replicate n v := by
  rw [fillK_all]
  apply List.ext_getElem
  · simp
  · intro i h1 h2
    simp
set_option maxHeartbeats 8000000 in
theorem short_gen (v n : Int) (w : World) (hv1 : 0 ≤ v) (hv2 : v ≤ 255) :
    Calls Try.prog 6 #[.int .u8 v, .int .i64 n] w fun e w' => e = .returned (.bool true) ∧ Below w.heap.size w w' := by
  have HBX : Hid (Below w.heap.size w w) := Lib.hid (Below.refl _ _)
  by_cases hn0 : n < 1
  · have d0 : decide (n < 1) = true := decide_eq_true hn0
    go_enter Try.func6, Try.ntmps6
    go_wp2_with fail
    refine (awake_any _).mono ?_
    rintro e w2 ⟨rfl, hb2⟩
    have HB9 := Lib.hid (HBX.out.trans (hb2.mono HBX.out.size))
    clear hb2 HBX
    go_wp2
    go_ret
    exact ⟨rfl, HB9.out⟩
  have d0 : decide (n < 1) = false := decide_eq_false hn0
  by_cases h3000 : 3000 < n
  · have d3 : decide (3000 < n) = true := decide_eq_true h3000
    go_enter Try.func6, Try.ntmps6
    go_wp2_with fail
    refine (awake_any _).mono ?_
    rintro e w2 ⟨rfl, hb2⟩
    have HB9 := Lib.hid (HBX.out.trans (hb2.mono HBX.out.size))
    clear hb2 HBX
    go_wp2
    go_ret
    exact ⟨rfl, HB9.out⟩
  obtain ⟨N, rfl⟩ : ∃ N : Nat, n = N := ⟨n.toNat, by omega⟩
  have d3 : decide ((3000 : Int) < (N : Int)) = false := decide_eq_false h3000
  have d32 : decide (3000 < N) = false := decide_eq_false (by omega)
  have hN : N ≤ 3000 := by omega
  have hN1 : 1 ≤ N := by omega
  have hN5 : N ≤ 100000 := by omega
  have HV := Lib.hid (And.intro hv1 hv2)
  clear HBX hn0 h3000
  go_enter Try.func6, Try.ntmps6
  go_upto_region 4 with (fail)
  refine Rd.name_world ?_
  intro W hW
  have HB0 : Hid (Below w.heap.size w W) := Lib.hid (by rw [hW]; exact (Below.refl _ _).alloc (Nat.le_refl _) _)
  have HT0 : Hid (blk W w.heap.size = some (.cells (us (fillK N (fun _ => v) 0)).toArray 5 (0, 0))) := Lib.hid (by
    rw [hW, fillK_0]
    refine (blk_alloc_at _ _ _ rfl).trans ?_
    try rfl
    try simp [us])
  obtain ⟨g, hg⟩ : ∃ g, w.heap.size = g := ⟨_, rfl⟩
  have HG := Lib.hid hg
  rw [hg] at HT0 ⊢
  clear hW hg
  go_wp2_with fail
  go_loopw [6] (fun i X => ∃ k : Nat, k ≤ N ∧ i = .int .i64 k ∧ Hid (blk X g = some (.cells (us (fillK N (fun _ => v) k)).toArray 5 (0, 0))) ∧ Hid (Below w.heap.size w X)) (fun i _ => N - (intOf i).toNat)
  case atStart => exact ⟨0, by omega, rfl, HT0, HB0⟩
  case round =>
    clear HT0 HB0
    obtain ⟨k, hk9, rfl, HT, HB⟩ := hrel
    rename World => X
    by_cases hlt : k < N
    · have hlt' : (k : Int) < (N : Int) := by omega
      have ck : X.cell? ⟨g, k, none⟩ = some (.int .u8 ((fillK N (fun _ => v) k).getD k 0)) := by
        rw [blk_cell HT.out]
        simp [us, List.getD, fillK_len, hlt]
      have fk := blk_frozen HT.out k
      have HST := Lib.hid (fillK_set N (fun _ => v) k hlt)
      have HB1 : Hid (Below w.heap.size w (X.setCell ⟨g, k, none⟩ (.int .u8 v))) := Lib.hid (Below.setCell HB.out (by rw [HG.out]; exact Nat.le_refl _) _)
      go_wp2
      exact ⟨⟨k + 1, by omega, by go_num, Lib.hid (by
        refine (blk_set X g k (.int .u8 v) _ _ HT.out).trans ?_
        rw [← HST.out]
        simp [us, List.map_set]), HB1⟩, by simp [intOf]; omega⟩
    · obtain rfl : k = N := by omega
      rename Nat => N
      have HL := Lib.hid (List.length_replicate (n := N) (a := v))
      have HT1 : Hid (blk X g = some (.cells (us (List.replicate N v)).toArray 5 (0, 0))) := Lib.hid (by rw [← rep_fill]; exact HT.out)
      have HRD : Hid (Reads X 1 (some ⟨g, 0, none⟩) N (us (List.replicate N v))) := Lib.hid ⟨by simp [us], .inr ⟨g, 0, rfl, blk_lt HT1.out, fun i hi => by rw [Nat.zero_add, blk_cell HT1.out, List.getElem?_toArray]⟩⟩
      have HBY : Hid (By (List.replicate N v)) := Lib.hid (fun z hz => by rw [List.eq_of_mem_replicate hz]; exact HV.out)
      obtain ⟨l, hl⟩ : ∃ l, List.replicate N v = l := ⟨_, rfl⟩
      have HLL := Lib.hid hl
      obtain ⟨T, hT⟩ : ∃ T, (packB l).length = T := ⟨_, rfl⟩
      have HTT := Lib.hid hT
      have hT9 : T ≤ 30000 := by have := packB_len l; have h2 := HL.out; rw [hl] at h2; omega
      have HS0 : Hid (25 + (packF l (N - 1) 1).length = T) := Lib.hid (by rw [← hT, ← hl]; exact (rep_start hN1).symm)
      rw [hl] at HL HRD HBY
      obtain ⟨n1, hn1⟩ : ∃ n1 : Nat, (N : Int) - 1 = n1 := ⟨N - 1, by omega⟩
      clear HT HT1 hl hT
      go_wp2_with fail
      go_loopw [7, 8] (fun a b Y => ∃ (p q f : Nat), 1 ≤ p ∧ p ≤ N ∧ a = .int .i64 ((N - p : Nat) : Int) ∧ b = .int .i64 q ∧ N - p ≤ f ∧ Hid (q + (packF l f p).length = T) ∧ X = Y) (fun a _ _ => (intOf a).toNat)
      case atStart => exact ⟨1, 25, N - 1, by omega, hN1, by rw [show ((N - 1 : Nat) : Int) = n1 by omega], rfl, by omega, HS0, rfl⟩
      case round =>
        obtain ⟨p, q, f, hp1, hp2, rfl, rfl, hf, HQ, rfl⟩ := hrel
        obtain ⟨left, hle⟩ : ∃ left, N - p = left := ⟨_, rfl⟩
        have HLE := Lib.hid hle
        rw [hle] at hf ⊢
        have hq9 : q ≤ 30000 := by have := HQ.out; omega
        have hle9 : left ≤ 3000 := by omega
        by_cases h3 : 3 ≤ left
        · have h3' : (3 : Int) ≤ (left : Int) := by omega
          obtain ⟨f', rfl⟩ : ∃ f', f = f' + 1 := ⟨f - 1, by omega⟩
          have HQ2 : Hid (q + 21 + (packF l f' (p + min 258 left)).length = T) := Lib.hid (by
            have h9 := HQ.out
            rw [← HLL.out, rep_step hp1 (by have := HLE.out; omega), HLE.out, HLL.out] at h9
            omega)
          by_cases h258 : 258 < left
          · have h258' : (258 : Int) < (left : Int) := by omega
            rw [show min 258 left = 258 by omega] at HQ2
            obtain ⟨u, hu⟩ : ∃ u : Nat, (left : Int) - 258 = u := ⟨left - 258, by omega⟩
            have hu2 : u < left := by omega
            have HU : Hid (N - (p + 258) = u ∧ p + 258 ≤ N) := Lib.hid (by have := HLE.out; omega)
            clear hle
            go_wp2
            exact ⟨⟨p + 258, q + 21, f', by omega, HU.out.2, by rw [HU.out.1], by go_num, by have := HU.out.1; omega, HQ2, trivial⟩, by simp [intOf]; omega⟩
          · have h258' : ¬ (258 : Int) < (left : Int) := by omega
            rw [show min 258 left = left by omega] at HQ2
            have HU : Hid (N - (p + left) = 0 ∧ p + left ≤ N) := Lib.hid (by have := HLE.out; omega)
            have hss : (left : Int) - (left : Int) = 0 := by omega
            clear hle
            go_wp2
            exact ⟨⟨p + left, q + 21, f', by omega, HU.out.2, by rw [HU.out.1]; rfl, by go_num, by have := HU.out.1; omega, HQ2, trivial⟩, by simp [intOf]; omega⟩
        · have h3' : ¬ (3 : Int) ≤ (left : Int) := by omega
          have HQ3 : Hid (q + 9 * left = T) := Lib.hid (by
            have h9 := HQ.out
            rw [← HLL.out, rep_tail f p hp1 (by have := HLE.out; omega) (by have := HLE.out; omega), HLE.out] at h9
            exact h9)
          have hqt : (q : Int) + 9 * (left : Int) = T := by have := HQ3.out; omega
          have CP := pack_any (some ⟨g, 0, none⟩) N l X (by rw [HL.out]; exact HRD.out) HBY.out (by rw [HL.out]; omega)
          rw [HL.out] at CP
          have HCP := Lib.hid CP
          clear CP hle
          go_wp2_with fail
          refine HCP.out.mono ?_
          rintro e W2 ⟨⟨v2, rfl, ho2⟩, hb2⟩
          obtain ⟨a2, c2, rfl, -, -⟩ := owns_val ho2
          obtain ⟨P, hP⟩ : ∃ P, (pack (packB l)).length = P := ⟨_, rfl⟩
          have hPT : P = (T + 7) / 8 := by rw [← hP, pack_length, HTT.out]
          have HRP := Lib.hid (Reads.of_owns ho2)
          rw [hP] at HRP ⊢
          have HR2 := Lib.hid (HRD.out.below hb2 (Nat.le_refl _))
          have HB2 := Lib.hid (HB.out.trans (hb2.mono HB.out.size))
          have hP9 : P ≤ 100000 := by omega
          obtain ⟨t7, ht7⟩ : ∃ t7 : Nat, (T : Int) + 7 = t7 := ⟨T + 7, by omega⟩
          have htd : (t7 : Int).tdiv 8 = (P : Int) := by rw [Int.tdiv_eq_ediv_of_nonneg (by omega)]; omega
          have htd2 : (t7 : Int) / 8 = (P : Int) := by omega
          clear ho2 hP hb2 HCP HRD HB hPT
          go_wp2_with fail
          refine (unpack_any a2 P c2 _ W2 HRP.out (pack_b8 (packB_bits _)) hP9).mono ?_
          rintro e W3 ⟨hu, hb3⟩
          have hun := unL_pack (l := l) HBY.out (by rw [HL.out]; omega)
          rcases hu with ⟨b', v3, hb', rfl, ho3⟩ | ⟨hb', -⟩
          rotate_left
          · rw [hun] at hb'; cases hb'
          rw [hun] at hb'
          cases hb'
          obtain ⟨a3, c3, rfl, -, -⟩ := owns_val ho3
          have HOU := Lib.hid ho3
          rw [HL.out] at HOU ⊢
          have HBX := Lib.hid (HB2.out.trans (hb3.mono HB2.out.size))
          have s1 : (convert 22 9 (.slice a3 N c3)).run Try.prog W3 = .ok (.string (bytesOf l)) W3 := by
            have h9 := str_own (l := l) (a := a3) (c := c3) (W := W3) (B := W2.heap.size) (by rw [HL.out]; exact HOU.out) HBY.out
            rw [HL.out] at h9
            exact h9
          have s2 : (convert 22 9 (.slice (some ⟨g, 0, none⟩) N N)).run Try.prog W3 = .ok (.string (bytesOf l)) W3 := Rd.conv_reads Try.underlying22 Try.underlying5 Try.underlying9 (HR2.out.below hb3 (Nat.le_refl _)) HBY.out
          have e1 : ((P : Int) == (P : Int)) = true := by simp
          clear ho3 hb3 hun HB2 HRP HOU HR2
          go_wp2_with fail
          refine (awake_any _).mono ?_
          rintro e w2 ⟨rfl, hb2⟩
          have HB9 := Lib.hid (HBX.out.trans (hb2.mono HBX.out.size))
          clear hb2 HBX
          go_wp2
          go_ret
          exact ⟨rfl, HB9.out⟩
end Go.Proofs.Ytminaamfelcajaa.LzF

/-
  Whatever is packed is unpacked as it was (LzBack).
-/
import Derived.Test.YtminaamfelcajaaLzD
import Derived.Test.YtminaamfelcajaaBytes
import Derived.BigGuard
namespace Go.Proofs.Ytminaamfelcajaa.LzE
open Go.RowKit Rd Go.Proofs.Ytminaamfelcajaa.Row OctA MaA BitB BitD LzM LzA LzB LzC LzD LzR
open MaD (own_bel own_mono)
set_option linter.unusedVariables false
set_option linter.unusedSimpArgs false
set_option maxRecDepth 10000
theorem packB_two (l : List Int) : 2 ≤ (pack (packB l)).length ∧ (pack (packB l)).length ≤ (9 * l.length + 23) / 8 := by
  have h1 := packB_len l
  have h2 : 16 ≤ (packB l).length := by unfold packB; rw [List.length_append, putL_length]; omega
  rw [pack_length]
  omega
set_option maxHeartbeats 8000000 in
theorem back_gen (ai : Option Addr) (len cap : Nat) (zs : List Int) (n : Int) (ni : Option Addr) (nl nc : Nat) (ns : List Int) (w : World) (hzl : zs.length = len) (hR : Reads w 1 ai len (i64s zs)) (hnl : ns.length = nl) (hN : Reads w 1 ni nl (us ns)) (hnb : By ns) :
    Calls Try.prog 4 #[.slice ai len cap, .int .i64 n, .slice ni nl nc] w fun e w' => e = .returned (.bool true) ∧ Below w.heap.size w w' := by
  have HBX : Hid (Below w.heap.size w w) := Lib.hid (Below.refl _ _)
  have HNS := Lib.hid (And.intro hnl hN)
  have HNB := Lib.hid hnb
  clear hnl hN hnb
  by_cases h20 : 20 < len
  · have d20 : decide (20 < len) = true := decide_eq_true h20
    have d20i : decide ((20 : Int) < (len : Int)) = true := decide_eq_true (by omega)
    clear hR
    go_enter Try.func4, Try.ntmps4
    go_wp2_with fail
    refine (awake_any _).mono ?_
    rintro e w2 ⟨rfl, hb2⟩
    have HB9 := Lib.hid (HBX.out.trans (hb2.mono HBX.out.size))
    clear hb2 HBX
    go_wp2
    go_ret
    exact ⟨rfl, HB9.out⟩
  have d20 : decide (20 < len) = false := decide_eq_false h20
  have d20i : decide ((20 : Int) < (len : Int)) = false := decide_eq_false (by omega)
  by_cases hn0 : n < 0
  · have d0 : decide (n < 0) = true := decide_eq_true hn0
    clear hR
    go_enter Try.func4, Try.ntmps4
    go_wp2_with fail
    refine (awake_any _).mono ?_
    rintro e w2 ⟨rfl, hb2⟩
    have HB9 := Lib.hid (HBX.out.trans (hb2.mono HBX.out.size))
    clear hb2 HBX
    go_wp2
    go_ret
    exact ⟨rfl, HB9.out⟩
  have d0 : decide (n < 0) = false := decide_eq_false hn0
  by_cases h3000 : 3000 < n
  · have d3 : decide (3000 < n) = true := decide_eq_true h3000
    clear hR
    go_enter Try.func4, Try.ntmps4
    go_wp2_with fail
    refine (awake_any _).mono ?_
    rintro e w2 ⟨rfl, hb2⟩
    have HB9 := Lib.hid (HBX.out.trans (hb2.mono HBX.out.size))
    clear hb2 HBX
    go_wp2
    go_ret
    exact ⟨rfl, HB9.out⟩
  obtain ⟨N, rfl⟩ : ∃ N : Nat, n = N := ⟨n.toNat, by omega⟩
  have d3 : decide ((3000 : Int) < (N : Int)) = false := decide_eq_false h3000
  have d32 : decide (3000 < N) = false := decide_eq_false (by omega)
  by_cases h300 : 300 < nl
  · have d4 : decide (300 < nl) = true := decide_eq_true h300
    have d4i : decide ((300 : Int) < (nl : Int)) = true := decide_eq_true (by omega)
    clear hR
    go_enter Try.func4, Try.ntmps4
    go_wp2_with fail
    refine (awake_any _).mono ?_
    rintro e w2 ⟨rfl, hb2⟩
    have HB9 := Lib.hid (HBX.out.trans (hb2.mono HBX.out.size))
    clear hb2 HBX
    go_wp2
    go_ret
    exact ⟨rfl, HB9.out⟩
  have d4 : decide (300 < nl) = false := decide_eq_false h300
  have d4i : decide ((300 : Int) < (nl : Int)) = false := decide_eq_false (by omega)
  have HRW := Lib.hid (row_any ai len cap zs N w hzl hR (by omega) (by omega))
  have hN : N ≤ 3000 := by omega
  have hnl3 : nl ≤ 300 := by omega
  clear hR hzl h20 hn0 h3000 HBX h300
  go_enter Try.func4, Try.ntmps4
  go_wp2_with fail
  refine HRW.out.mono ?_
  rintro e W0 ⟨⟨l, v, rfl, hby, hlN, hown⟩, hb0⟩
  obtain ⟨ra, rc, rfl, -, -⟩ := owns_val hown
  obtain ⟨L, hL⟩ : ∃ L, l.length = L := ⟨_, rfl⟩
  have HL := Lib.hid hL
  have hL7 : L ≤ 3000 := by omega
  have HB0 := Lib.hid hb0
  have HO0 := Lib.hid hown
  rw [hL] at HO0 ⊢
  have HBY : Hid (By (l ++ ns)) := Lib.hid (fun z hz => (List.mem_append.1 hz).elim (hby z) (HNB.out z))
  have HNR := Lib.hid (HNS.out.2.below hb0 (Nat.le_refl _))
  have hsz := hb0.size
  obtain ⟨i0, hi, hz0, hz1, hz2⟩ := info_parts BitA.info_u8
  have HI := Lib.hid (And.intro hi (And.intro hz0 (And.intro hz1 hz2)))
  clear hby hlN hown hb0 HRW hL hi hz0 hz1 hz2
  go_wp2_with (at_builtin; refine App.wpList_append_reads _ rfl (.tmp 31) (.tmp 32) 22 rfl w.heap.size 5 i0 (.int .u8 0) 1 1 Try.underlying22 HI.out.1 HI.out.2.1 HI.out.2.2.1 HI.out.2.2.2 rfl (by decide) (.slice ra L rc) L (us l) rfl HO0.out ni nl nc (us ns) rfl HNR.out (MaD.one_u8 ns) (by unfold maxLen; omega) (by omega) hsz ?_; intro v1 W1 ho1 hg1; obtain ⟨a1, c1, rfl, -, -⟩ := owns_val ho1; have HO1 := Lib.hid ho1; have HG1 := Lib.hid hg1; clear ho1 hg1)
  rw [show us l ++ us ns = us (l ++ ns) from (List.map_append ..).symm] at HO1
  have hlen : (l ++ ns).length = L + nl := by rw [List.length_append, HL.out, HNS.out.1]
  have HB1 : Hid (Below w.heap.size w W1) := Lib.hid (HB0.out.grown HG1.out (by omega) (fun j hj => (HO0.out.lt j hj).1))
  obtain ⟨b, hb⟩ : ∃ b, l ++ ns = b := ⟨_, rfl⟩
  rw [hb] at HO1 HBY hlen
  obtain ⟨K, hK⟩ : ∃ K, L + nl = K := ⟨_, rfl⟩
  rw [hK] at HO1 hlen ⊢
  have hK4 : K ≤ 3300 := by omega
  have HLB := Lib.hid hlen
  have HRB := Lib.hid (Reads.of_owns HO1.out)
  have HPK := pack_any a1 c1 b W1 (by rw [hlen]; exact HRB.out) HBY.out (by omega)
  rw [hlen] at HPK
  have HPK2 := Lib.hid HPK
  clear HPK hb hK hlen HB0 HO0 HG1 HNR HI HNS HL
  go_wp2_with fail
  refine HPK2.out.mono ?_
  rintro e W2 ⟨⟨v2, rfl, ho2⟩, hb2⟩
  obtain ⟨a2, c2, rfl, -, -⟩ := owns_val ho2
  obtain ⟨P, hP⟩ : ∃ P, (pack (packB b)).length = P := ⟨_, rfl⟩
  have HTW := packB_two b
  rw [hP, HLB.out] at HTW
  have hP2 : 2 ≤ P := HTW.1
  have hP3 : P ≤ (9 * K + 23) / 8 := HTW.2
  have HRP := Lib.hid (Reads.of_owns ho2)
  rw [hP] at HRP ⊢
  have HO2 := Lib.hid (own_bel HO1.out hb2)
  have HB2 := Lib.hid (HB1.out.trans (hb2.mono HB1.out.size))
  have hP9 : P ≤ 100000 := by omega
  clear ho2 hP hb2 HPK2 HTW HO1 HB1 HRB
  go_wp2_with fail
  refine (unpack_any a2 P c2 _ W2 HRP.out (pack_b8 (packB_bits _)) hP9).mono ?_
  rintro e W3 ⟨hu, hb3⟩
  have hun := unL_pack (l := b) HBY.out (by rw [HLB.out]; omega)
  rcases hu with ⟨b', v3, hb', rfl, ho3⟩ | ⟨hb', -⟩
  rotate_left
  · rw [hun] at hb'; cases hb'
  rw [hun] at hb'
  cases hb'
  obtain ⟨a3, c3, rfl, -, -⟩ := owns_val ho3
  have HO3 := Lib.hid (own_bel HO2.out hb3)
  have HOU := Lib.hid ho3
  rw [HLB.out] at HOU ⊢
  have HBX := Lib.hid (HB2.out.trans (hb3.mono HB2.out.size))
  have s1 : (convert 22 9 (.slice a3 K c3)).run Try.prog W3 = .ok (.string (bytesOf b)) W3 := by
    have h9 := str_own (l := b) (a := a3) (c := c3) (W := W3) (B := W2.heap.size) (by rw [HLB.out]; exact HOU.out) HBY.out
    rw [HLB.out] at h9
    exact h9
  have s2 : (convert 22 9 (.slice a1 K c1)).run Try.prog W3 = .ok (.string (bytesOf b)) W3 := by
    have h9 := str_own (l := b) (a := a1) (c := c1) (W := W3) (B := w.heap.size) (by rw [HLB.out]; exact HO3.out) HBY.out
    rw [HLB.out] at h9
    exact h9
  have hPi : (P : Int) ≤ (((9 * K + 23) / 8 : Nat) : Int) := by omega
  obtain ⟨M, hM⟩ : ∃ M, (9 * K + 23) / 8 = M := ⟨_, rfl⟩
  rw [hM] at hPi
  have HMO := Lib.hid (most_ok K W3 (by omega))
  rw [hM] at HMO
  have q1 : decide ((P : Int) ≤ (M : Int)) = true := decide_eq_true hPi
  have q1' : decide (P ≤ M) = true := decide_eq_true (by omega)
  have q2 : decide ((2 : Int) ≤ (P : Int)) = true := decide_eq_true (by omega)
  have q2' : decide (2 ≤ P) = true := decide_eq_true hP2
  clear ho3 hb3 hun hP3 HO2 HB2 HRP HOU HO3 hM hPi
  go_wp2_with fail
  refine HMO.out.mono ?_
  rintro e _ ⟨rfl, rfl⟩
  go_wp2_with fail
  refine (awake_any _).mono ?_
  rintro e w2 ⟨rfl, hb2⟩
  have HB9 := Lib.hid (HBX.out.trans (hb2.mono HBX.out.size))
  clear hb2 HBX
  go_wp2
  go_ret
  exact ⟨rfl, HB9.out⟩
end Go.Proofs.Ytminaamfelcajaa.LzE

/-
  Of any bytes what they are packed, and unpacked (LzTells).
-/
import Derived.Test.YtminaamfelcajaaLzJ
import Derived.Test.YtminaamfelcajaaLzD
import Derived.Test.YtminaamfelcajaaLzN
import Derived.Test.YtminaamfelcajaaBytes
import Derived.BigGuard
namespace Go.Proofs.Ytminaamfelcajaa.LzK
open Go.RowKit Rd Go.Proofs.Ytminaamfelcajaa.Row OctA MaA BitB BitD LzM LzA LzC LzD LzI LzJ
open MaD (own_bel own_mono)
set_option linter.unusedVariables false
set_option linter.unusedSimpArgs false
set_option maxRecDepth 10000
def mostV (n : Int) : Int := if 0 ≤ n ∧ n ≤ 65535 then (9 * n + 23) / 8 else 0
theorem most_any (n : Int) (w : World) : Calls Try.prog 12 #[.int .i64 n] w fun e w' => e = .returned (.int .i64 (mostV n)) ∧ w' = w := by
  by_cases h0 : n < 0
  · rw [show mostV n = 0 from if_neg (by omega)]
    exact most_lo n w h0
  · by_cases h1 : 65535 < n
    · rw [show mostV n = 0 from if_neg (by omega)]
      have d0 : decide (n < 0) = false := decide_eq_false h0
      have d1 : decide (65535 < n) = true := decide_eq_true h1
      go_enter Try.func12, Try.ntmps12
      go_wp2
      go_ret
      exact ⟨rfl, rfl⟩
    · obtain ⟨m, rfl⟩ : ∃ m : Nat, n = m := ⟨n.toNat, by omega⟩
      rw [show mostV (m : Int) = (((9 * m + 23) / 8 : Nat) : Int) by unfold mostV; rw [if_pos (by omega)]; omega]
      exact most_ok m w (by omega)
theorem rmost_any (n : Int) (w : World) : Calls Try.prog 13 #[.int .i64 n] w fun e w' => e = .returned (.int .i64 (mostV n)) ∧ w' = w := by
  by_cases h0 : n < 0
  · rw [show mostV n = 0 from if_neg (by omega)]
    have d0 : decide (n < 0) = true := decide_eq_true h0
    go_enter Try.func13, Try.ntmps13
    go_wp2
    go_ret
    exact ⟨rfl, rfl⟩
  · have d0 : decide (n < 0) = false := decide_eq_false h0
    by_cases h1 : 65535 < n
    · rw [show mostV n = 0 from if_neg (by omega)]
      have d1 : decide (65535 < n) = true := decide_eq_true h1
      go_enter Try.func13, Try.ntmps13
      go_wp2
      go_ret
      exact ⟨rfl, rfl⟩
    · have d1 : decide (65535 < n) = false := decide_eq_false h1
      obtain ⟨m, rfl⟩ : ∃ m : Nat, n = m := ⟨n.toNat, by omega⟩
      obtain ⟨s, hs⟩ : ∃ s : Nat, 9 * (m : Int) = s := ⟨9 * m, by omega⟩
      obtain ⟨t, ht⟩ : ∃ t : Nat, (s : Int) + 7 = t := ⟨s + 7, by omega⟩
      obtain ⟨q, hq⟩ : ∃ q : Nat, (t : Int) / 8 = q := ⟨t / 8, by omega⟩
      have hq2 : (t : Int).tdiv 8 = q := by rw [Int.tdiv_eq_ediv_of_nonneg (by omega)]; exact hq
      obtain ⟨z, hz⟩ : ∃ z : Nat, 2 + (q : Int) = z := ⟨2 + q, by omega⟩
      have HQ : Hid (mostV (m : Int) = z) := Lib.hid (by unfold mostV; rw [if_pos (by omega)]; omega)
      have ht1 : t ≤ 600000 := by omega
      have hz1 : z ≤ 600000 := by omega
      have hm9 : m ≤ 65535 := by omega
      have hs9 : s ≤ 600000 := by omega
      have d2 : decide (65535 < m) = false := decide_eq_false (by omega)
      clear h0 h1
      go_enter Try.func13, Try.ntmps13
      go_wp2
      go_ret
      exact ⟨by rw [HQ.out]; rfl, rfl⟩
/-! what is unpacked is bytes -/
theorem again_by {b : List Int} {d : Nat} (hb : By b) : ∀ k, By (again b d k)
  | 0 => hb
  | k + 1 => fun z hz => by
    have ih := again_by hb (d := d) k
    unfold again at hz
    rcases List.mem_append.1 hz with h | h
    · exact ih z h
    · rw [List.mem_singleton] at h
      subst h
      exact ih.at_ _
theorem tok_by {zs : List Int} {count a a' : Nat} {b b' : List Int} (hb : By b) (h : LzM.tok zs count a b = some (a', b')) : By b' := by
  unfold LzM.tok at h
  cases h1 : getN zs a 1 with
  | none => rw [h1] at h; cases h
  | some r =>
    obtain ⟨kd, a1⟩ := r
    rw [h1] at h
    simp only at h
    split at h
    · cases h2 : getN zs a1 12 with
      | none => rw [h2] at h; cases h
      | some r =>
        obtain ⟨d, a2⟩ := r
        rw [h2] at h
        simp only at h
        cases h3 : getN zs a2 8 with
        | none => rw [h3] at h; cases h
        | some r =>
          obtain ⟨n, a3⟩ := r
          rw [h3] at h
          simp only at h
          split at h
          · cases h
          · cases h
            exact again_by hb _
    · cases h2 : getN zs a1 8 with
      | none => rw [h2] at h; cases h
      | some r =>
        obtain ⟨c, a2⟩ := r
        rw [h2] at h
        have g2 := getN_le h2
        cases h
        intro z hz
        rcases List.mem_append.1 hz with h | h
        · exact hb z h
        · rw [List.mem_singleton] at h
          subst h
          have := g2.2.2.2
          omega
theorem unF_by {zs : List Int} {count a' : Nat} {b' : List Int} : ∀ (f a : Nat) (b : List Int), By b → unF zs count f a b = some (a', b') → By b'
  | 0, a, b, hb, h => by
    have h' : (some (a, b) : Option (Nat × List Int)) = some (a', b') := h
    cases h'
    exact hb
  | f + 1, a, b, hb, h => by
    have h' : (if b.length < count then (match LzM.tok zs count a b with | none => none | some (a', b') => unF zs count f a' b') else some (a, b)) = some (a', b') := h
    by_cases hl : b.length < count
    · rw [if_pos hl] at h'
      cases h4 : LzM.tok zs count a b with
      | none => rw [h4] at h'; cases h'
      | some q =>
        obtain ⟨a2, b2⟩ := q
        rw [h4] at h'
        exact unF_by f a2 b2 (tok_by hb h4) h'
    · rw [if_neg hl] at h'
      cases h'
      exact hb
theorem unL_by {zs u : List Int} (hz : By zs) (h : unL zs = some u) : By u := by
  obtain ⟨count, a, a', g1, g2, -⟩ := LzN.unL_parts h
  exact unF_by _ _ _ (fun z hz => by cases hz) g2
theorem str_nil (W : World) : (convert 22 9 (.slice none 0 0)).run Try.prog W = .ok (.string (bytesOf [])) W :=
  Rd.conv_reads (zs := []) Try.underlying22 Try.underlying5 Try.underlying9 ⟨rfl, .inl rfl⟩ (fun z hz => by cases hz)
set_option maxHeartbeats 8000000 in
theorem tells_gen (ai : Option Addr) (len cap : Nat) (b : List Int) (pi : Option Addr) (pl pc : Nat) (zs : List Int) (n : Int) (w : World) (hbl : b.length = len) (hbR : Reads w 1 ai len (us b)) (hbb : By b) (hpl : zs.length = pl) (hpR : Reads w 1 pi pl (us zs)) (hpb : By zs) :
    Calls Try.prog 3 #[.slice ai len cap, .slice pi pl pc, .int .i64 n] w fun e w' => e = .returned (.bool true) ∧ Below w.heap.size w w' := by
  have HBX : Hid (Below w.heap.size w w) := Lib.hid (Below.refl _ _)
  have HBB := Lib.hid hbb
  have HPB := Lib.hid hpb
  have HBL := Lib.hid hbl
  have HBR := Lib.hid hbR
  have HPR := Lib.hid hpR
  clear hbb hpb hbl hbR hpR hpl
  by_cases h5 : 500 < len
  · have d5 : decide (500 < len) = true := decide_eq_true h5
    have d5i : decide ((500 : Int) < (len : Int)) = true := decide_eq_true (by omega)
    go_enter Try.func3, Try.ntmps3
    go_wp2_with fail
    refine (awake_any _).mono ?_
    rintro e w2 ⟨rfl, hb2⟩
    have HB9 := Lib.hid (HBX.out.trans (hb2.mono HBX.out.size))
    clear hb2 HBX
    go_wp2
    go_ret
    exact ⟨rfl, HB9.out⟩
  have d5 : decide (500 < len) = false := decide_eq_false h5
  have d5i : decide ((500 : Int) < (len : Int)) = false := decide_eq_false (by omega)
  by_cases h3 : 300 < pl
  · have d3 : decide (300 < pl) = true := decide_eq_true h3
    have d3i : decide ((300 : Int) < (pl : Int)) = true := decide_eq_true (by omega)
    go_enter Try.func3, Try.ntmps3
    go_wp2_with fail
    refine (awake_any _).mono ?_
    rintro e w2 ⟨rfl, hb2⟩
    have HB9 := Lib.hid (HBX.out.trans (hb2.mono HBX.out.size))
    clear hb2 HBX
    go_wp2
    go_ret
    exact ⟨rfl, HB9.out⟩
  have d3 : decide (300 < pl) = false := decide_eq_false h3
  have d3i : decide ((300 : Int) < (pl : Int)) = false := decide_eq_false (by omega)
  have hl5 : len ≤ 500 := by omega
  have hp3 : pl ≤ 300 := by omega
  have HPK : Hid (∀ Z, Below w.heap.size w Z → (Calls Try.prog 8 #[.slice ai len cap] Z fun e w' => (∃ v, e = .returned (.tuple #[v, .int .i64 0]) ∧ w'.ownsRow Z.heap.size 5 1 v (pack (packB b)).length (u8s (pack (packB b)))) ∧ Below Z.heap.size Z w') ∧ (Calls Try.prog 9 #[.slice ai len cap] Z fun e w' => (∃ v, e = .returned (.tuple #[v, .int .i64 0]) ∧ w'.ownsRow Z.heap.size 5 1 v (pack (packB b)).length (u8s (pack (packB b)))) ∧ Below Z.heap.size Z w')) := Lib.hid (fun Z hZ => by
    have h1 := pack_any ai cap b Z (by rw [HBL.out]; exact HBR.out.below hZ (Nat.le_refl _)) HBB.out (by rw [HBL.out]; omega)
    have h2 := rpack_any ai cap b Z (by rw [HBL.out]; exact HBR.out.below hZ (Nat.le_refl _)) HBB.out (by rw [HBL.out]; omega)
    rw [HBL.out] at h1 h2
    exact ⟨h1, h2⟩)
  have HBY : Hid (By (pack (packB b))) := Lib.hid (pack_b8 (packB_bits b))
  obtain ⟨pk, hpk⟩ : ∃ pk, pack (packB b) = pk := ⟨_, rfl⟩
  rw [hpk] at HPK HBY
  obtain ⟨P, hP⟩ : ∃ P, pk.length = P := ⟨_, rfl⟩
  have HPL := Lib.hid hP
  rw [hP] at HPK
  clear HBX h5 h3 hpk hP HBR
  go_enter Try.func3, Try.ntmps3
  go_wp2_with fail
  refine (HPK.out _ (Below.refl _ _)).1.mono ?_
  rintro e W1 ⟨⟨v1, rfl, ho1⟩, hb1⟩
  obtain ⟨a1, c1, rfl, -, -⟩ := owns_val ho1
  have HO1 := Lib.hid ho1
  have HB1 := Lib.hid hb1
  clear ho1 hb1
  go_wp2_with fail
  refine (HPK.out _ HB1.out).2.mono ?_
  rintro e W2 ⟨⟨v2, rfl, ho2⟩, hb2⟩
  obtain ⟨a2, c2, rfl, -, -⟩ := owns_val ho2
  have HO2 := Lib.hid ho2
  have HO1b := Lib.hid (own_bel HO1.out hb2)
  have HB2 := Lib.hid (HB1.out.trans (hb2.mono HB1.out.size))
  clear ho2 hb2 HO1 HB1 HPK
  go_wp2_with fail
  refine (unpack_any pi pl pc zs W2 (HPR.out.below HB2.out (Nat.le_refl _)) HPB.out (by omega)).mono ?_
  rintro e W3 ⟨hu3, hb3⟩
  have HB3 := Lib.hid (HB2.out.trans (hb3.mono HB2.out.size))
  have HO1c := Lib.hid (own_bel HO1b.out hb3)
  have HO2c := Lib.hid (own_bel HO2.out hb3)
  clear hb3 HB2 HO1b HO2
  have HRU := Lib.hid (runpack_any pi pl pc zs W3 (HPR.out.below HB3.out (Nat.le_refl _)) HPB.out (by omega))
  have SX : Hid (∀ Z, Below W3.heap.size W3 Z → (convert 22 9 (.slice a1 P c1)).run Try.prog Z = .ok (.string (bytesOf pk)) Z ∧ (convert 22 9 (.slice a2 P c2)).run Try.prog Z = .ok (.string (bytesOf pk)) Z) := Lib.hid (fun Z hZ => by
    have h1 := str_own (l := pk) (a := a1) (c := c1) (W := Z) (B := w.heap.size) (by rw [HPL.out]; exact own_bel HO1c.out hZ) HBY.out
    have h2 := str_own (l := pk) (a := a2) (c := c2) (W := Z) (B := W1.heap.size) (by rw [HPL.out]; exact own_bel HO2c.out hZ) HBY.out
    rw [HPL.out] at h1 h2
    exact ⟨h1, h2⟩)
  rcases hu3 with ⟨r, v3, hr3, rfl, ho3⟩ | ⟨hr3, rfl⟩
  · obtain ⟨a3, c3, rfl, -, -⟩ := owns_val ho3
    have HO3 := Lib.hid ho3
    have HR3 := Lib.hid hr3
    have HRB := Lib.hid (unL_by HPB.out hr3)
    obtain ⟨K, hK⟩ : ∃ K, r.length = K := ⟨_, rfl⟩
    have HK := Lib.hid hK
    rw [hK]
    clear ho3 hr3 hK HO1c HO2c
    go_wp2_with fail
    refine HRU.out.mono ?_
    rintro e W4 ⟨hu4, hb4⟩
    rcases hu4 with ⟨r', v4, hr4, rfl, ho4⟩ | ⟨hr4, -⟩
    rotate_left
    · rw [HR3.out] at hr4; cases hr4
    rw [HR3.out] at hr4
    cases hr4
    obtain ⟨a4, c4, rfl, -, -⟩ := owns_val ho4
    have HBX := Lib.hid (HB3.out.trans (hb4.mono HB3.out.size))
    obtain ⟨s1, s2⟩ := SX.out W4 hb4
    have s3 : (convert 22 9 (.slice a3 K c3)).run Try.prog W4 = .ok (.string (bytesOf r)) W4 := by
      have h9 := str_own (l := r) (a := a3) (c := c3) (W := W4) (B := W2.heap.size) (own_bel HO3.out hb4) HRB.out
      rw [HK.out] at h9
      exact h9
    have s4 : (convert 22 9 (.slice a4 K c4)).run Try.prog W4 = .ok (.string (bytesOf r)) W4 := by
      have h9 := str_own (l := r) (a := a4) (c := c4) (W := W4) (B := W3.heap.size) ho4 HRB.out
      rw [HK.out] at h9
      exact h9
    rw [HK.out]
    clear ho4 hb4 HB3 HRU SX HO3 HR3
    go_wp2_with fail
    refine (most_any n _).mono ?_
    rintro e _ ⟨rfl, rfl⟩
    go_wp2_with fail
    refine (rmost_any n _).mono ?_
    rintro e _ ⟨rfl, rfl⟩
    generalize mostV n = mv
    have e1 : (mv == mv) = true := by simp
    go_wp2_with fail
    refine (awake_any _).mono ?_
    rintro e w2 ⟨rfl, hb2⟩
    have HB9 := Lib.hid (HBX.out.trans (hb2.mono HBX.out.size))
    clear hb2 HBX
    go_wp2
    go_ret
    exact ⟨rfl, HB9.out⟩
  · have HR3 := Lib.hid hr3
    clear hr3 HO1c HO2c
    go_wp2_with fail
    refine HRU.out.mono ?_
    rintro e W4 ⟨hu4, hb4⟩
    rcases hu4 with ⟨r', v4, hr4, -, -⟩ | ⟨-, rfl⟩
    · rw [HR3.out] at hr4; cases hr4
    have HBX := Lib.hid (HB3.out.trans (hb4.mono HB3.out.size))
    obtain ⟨s1, s2⟩ := SX.out W4 hb4
    have s3 := str_nil W4
    clear hb4 HB3 HRU SX HR3
    go_wp2_with fail
    refine (most_any n _).mono ?_
    rintro e _ ⟨rfl, rfl⟩
    go_wp2_with fail
    refine (rmost_any n _).mono ?_
    rintro e _ ⟨rfl, rfl⟩
    generalize mostV n = mv
    have e1 : (mv == mv) = true := by simp
    go_wp2_with fail
    refine (awake_any _).mono ?_
    rintro e w2 ⟨rfl, hb2⟩
    have HB9 := Lib.hid (HBX.out.trans (hb2.mono HBX.out.size))
    clear hb2 HBX
    go_wp2
    go_ret
    exact ⟨rfl, HB9.out⟩
end Go.Proofs.Ytminaamfelcajaa.LzK

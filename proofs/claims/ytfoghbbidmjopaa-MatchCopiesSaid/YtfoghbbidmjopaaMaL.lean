/-
  What is copied from the best match is what stands there (MatchCopies).
-/
import Derived.Test.YtfoghbbidmjopaaMaM2
import Derived.Test.YtfoghbbidmjopaaInts
import Derived.BigQuiet
import Derived.Lib.QuietBelow
import Derived.BigGuard
namespace Go.Proofs.Ytfoghbbidmjopaa.MaL
open Go.RowKit Go.Shelf Rd Go.Proofs.Ytfoghbbidmjopaa.Row MaM MaA MaB MaC MaD MaE MaF MaG MaI MaJ MaK MaM2
open Pred (Is is_stab)
set_option linter.unusedVariables false
set_option linter.unusedSimpArgs false
set_option maxRecDepth 10000
theorem all_rise {l : List Int} {k i : Nat} (hi : i + 1 < (all l k).length) : (all l k).getD i 0 < (all l k).getD (i + 1) 0 := by
  unfold all at hi ⊢
  have h := List.pairwise_iff_getElem.1 (ds_rise (M := mat l k) (min 4096 k)) i (i + 1) (Nat.lt_of_succ_lt hi) hi (Nat.lt_succ_self _)
  simpa [List.getD, show i < (ds (mat l k) (min 4096 k)).length by omega, hi] using h
/-- met among the first i -/
def met (L : List Nat) (d i : Nat) : Bool := (L.take i).any (· == d)
theorem met_zero (L : List Nat) (d : Nat) : met L d 0 = false := rfl
theorem met_succ {L : List Nat} {d i : Nat} (hi : i < L.length) : met L d (i + 1) = (met L d i || (L.getD i 0 == d)) := by
  unfold met
  rw [List.take_add_one, List.any_append, List.getElem?_eq_getElem hi]
  simp [List.getD, hi]
theorem met_all {L : List Nat} {d : Nat} (h : d ∈ L) : met L d L.length = true := by
  unfold met
  rw [List.take_length, List.any_eq_true]
  exact ⟨d, h, by simp⟩
theorem cell_nat {X : World} {a : Option Addr} {n : Nat} {r : List Nat} (h : Reads X 1 a n (MaH.iv r)) (hn : r.length = n) (h0 : n ≠ 0) : ∃ p o, a = some ⟨p, o, none⟩ ∧ p < X.heap.size ∧ ∀ i, i < n → X.cell? ⟨p, o + i, none⟩ = some (.int .i64 ((r.getD i 0 : Nat) : Int)) := by
  rcases h.2 with h1 | ⟨p, o, h1, h2, h3⟩
  · exact absurd h1 h0
  · refine ⟨p, o, h1, h2, fun i hi => ?_⟩
    rw [h3 i (by simp [MaH.iv]; omega)]
    simp [MaH.iv, List.getD, show i < r.length by omega]
set_option maxHeartbeats 8000000 in
theorem copies_gen (ai : Option Addr) (len cap : Nat) (zs : List Int) (n a : Int) (w : World) (ha1 : -9223372036854775808 ≤ a) (ha2 : a ≤ 9223372036854775807) (hzl : zs.length = len) (hz : ∀ z ∈ zs, Ints.In64 z) (hR : Reads w 1 ai len (Ints.i64s zs)) :
    Calls Try.prog 3 #[.slice ai len cap, .int .i64 n, .int .i64 a] w fun e w' => e = .returned (.bool true) ∧ Below w.heap.size w w' := by
  have HBX : Hid (Below w.heap.size w w) := Lib.hid (Below.refl _ _)
  have HA := Lib.hid (And.intro ha1 ha2)
  clear ha1 ha2 hz
  by_cases h20 : 20 < len
  · have d20 : decide (20 < len) = true := decide_eq_true h20
    have d20i : decide ((20 : Int) < (len : Int)) = true := decide_eq_true (by omega)
    clear hR
    go_enter Try.func3, Try.ntmps3
    go_wp2_with fail
    refine (awake_any _).mono ?_
    rintro e w2 ⟨rfl, hb2⟩
    have HB9 := Lib.hid (HBX.out.trans (hb2.mono HBX.out.size))
    clear hb2 HBX
    go_wp2
    go_ret
    exact ⟨rfl, HB9.out⟩
  have d20 : decide (20 < len) = false := decide_eq_false h20
  have d20i : decide ((20 : Int) < (len : Int)) = false := decide_eq_false (by omega)
  by_cases hn0 : n < 0
  · have d0 : decide (n < 0) = true := decide_eq_true hn0
    clear hR
    go_enter Try.func3, Try.ntmps3
    go_wp2_with fail
    refine (awake_any _).mono ?_
    rintro e w2 ⟨rfl, hb2⟩
    have HB9 := Lib.hid (HBX.out.trans (hb2.mono HBX.out.size))
    clear hb2 HBX
    go_wp2
    go_ret
    exact ⟨rfl, HB9.out⟩
  have d0 : decide (n < 0) = false := decide_eq_false hn0
  by_cases h700 : 700 < n
  · have d7 : decide (700 < n) = true := decide_eq_true h700
    clear hR
    go_enter Try.func3, Try.ntmps3
    go_wp2_with fail
    refine (awake_any _).mono ?_
    rintro e w2 ⟨rfl, hb2⟩
    have HB9 := Lib.hid (HBX.out.trans (hb2.mono HBX.out.size))
    clear hb2 HBX
    go_wp2
    go_ret
    exact ⟨rfl, HB9.out⟩
  obtain ⟨N, rfl⟩ : ∃ N : Nat, n = N := ⟨n.toNat, by omega⟩
  have d7 : decide ((700 : Int) < (N : Int)) = false := decide_eq_false h700
  have d72 : decide (700 < N) = false := decide_eq_false (by omega)
  have HRW := Lib.hid (row_any ai len cap zs N w hzl hR (by omega) (by omega))
  have hN : N ≤ 700 := by omega
  clear hR hzl h20 hn0 h700 HBX
  go_enter Try.func3, Try.ntmps3
  go_wp2_with fail
  refine HRW.out.mono ?_
  rintro e W0 ⟨⟨l, v, rfl, hby, hlN, hown⟩, hb0⟩
  obtain ⟨ra, rc, rfl, -, -⟩ := owns_val hown
  obtain ⟨L, hL⟩ : ∃ L, l.length = L := ⟨_, rfl⟩
  have HL := Lib.hid hL
  have hL7 : L ≤ 700 := by omega
  have HR0 := Lib.hid (Reads.of_owns hown)
  have HB0 := Lib.hid hb0
  have CN := new_any ra rc l W0 HR0.out hby (by omega)
  rw [hL] at CN HR0 ⊢
  have HCN := Lib.hid CN
  clear CN hby hlN hown hb0 HRW hL
  go_wp2_with fail
  refine HCN.out.mono ?_
  rintro e W1 ⟨f, ba, cb, g, rfl, hst⟩
  have HF1 := Lib.hid (MaF.St.fx hst)
  have HB1 := Lib.hid (HB0.out.trans (hst.below.mono HB0.out.size))
  have HR1 := Lib.hid (HR0.out.below hst.below (Nat.le_refl _))
  obtain ⟨p, hp⟩ : ∃ p : Nat, a % ((L : Int) + 1) = p := ⟨(a % ((L : Int) + 1)).toNat, by have := Int.emod_nonneg a (show (L : Int) + 1 ≠ 0 by omega); omega⟩
  have hpm : p ≤ L := by have := Int.emod_lt_of_pos a (show 0 < (L : Int) + 1 by omega); omega
  have HP := Lib.hid hp
  clear hst HCN hp HR0 HB0
  go_wp2_with fail
  refine (Alk.round_any a ((L : Int) + 1) _ HA.out.1 HA.out.2 (by omega) (by omega)).mono ?_
  rintro e _ ⟨rfl, rfl⟩
  rw [HP.out]
  go_wp2_with fail
  refine (at_le HF1.out p (by rw [HL.out]; exact hpm) (by rw [HL.out]; omega)).mono ?_
  rintro e W2 ⟨rfl, hb⟩
  have HF2 := Lib.hid (HF1.out.bel hb)
  have HB2 := Lib.hid (HB1.out.trans (hb.mono HB1.out.size))
  have HR2 := Lib.hid (HR1.out.below hb (Nat.le_refl _))
  clear hb HF1 HB1 HR1 HP HA
  obtain ⟨A, hA⟩ : ∃ A, all l p = A := ⟨_, rfl⟩
  have HAL := Lib.hid hA
  obtain ⟨r, hr⟩ : ∃ r, best l p (all l p) = r := ⟨_, rfl⟩
  obtain ⟨d, m⟩ := r
  rw [hr]
  have HBS := Lib.hid hr
  clear hr hA
  go_wp2_with fail
  refine (lall_le HF2.out p (by rw [HL.out]; exact hpm) (by rw [HL.out]; omega)).mono ?_
  rintro e W3 ⟨⟨aa, ca, rfl, hra, -⟩, hb⟩
  rw [HAL.out] at hra ⊢
  have HR3 := Lib.hid (HR2.out.below hb (Nat.le_refl _))
  have HBX := Lib.hid (HB2.out.trans (hb.mono HB2.out.size))
  have HRA := Lib.hid hra
  obtain ⟨K, hK⟩ : ∃ K, A.length = K := ⟨_, rfl⟩
  have HK := Lib.hid hK
  rw [hK] at HRA ⊢
  have hK4 : K ≤ 4096 := by rw [← hK, ← HAL.out]; exact Nat.le_trans (ds_len _) (by omega)
  clear hb hra HF2 HB2 HR2 hK
  by_cases hm0 : m = 0
  · obtain ⟨e1, e2⟩ := best_none (l := l) (k := p) (L := all l p) (fun x hx => (all_mat hx).2.2.2) (by rw [HBS.out]; exact hm0)
    obtain rfl : d = 0 := by rw [HBS.out] at e2; exact congrArg (·.1) e2
    subst hm0
    obtain rfl : K = 0 := by rw [← HK.out, ← HAL.out, e1]; rfl
    clear e1 e2 HR3 HRA
    go_wp2_with fail
    refine (awake_any _).mono ?_
    rintro e w2 ⟨rfl, hb2⟩
    have HB9 := Lib.hid (HBX.out.trans (hb2.mono HBX.out.size))
    clear hb2 HBX
    go_wp2
    go_ret
    exact ⟨rfl, HB9.out⟩
  obtain ⟨d', m', e0, hdm, hd1, hdp, hm3, hm258, hpml, heq, hend⟩ := best_is (l := l) (k := p) (by rw [HBS.out]; exact hm0)
  rw [HBS.out] at e0
  injection e0 with e1 e2
  subst e1 e2
  rw [HL.out] at hpml hend
  rw [HAL.out] at hdm
  have HDM := Lib.hid hdm
  have HEQ := Lib.hid heq
  have HEND := Lib.hid hend
  have q1 : decide ((d : Int) < 1) = false := decide_eq_false (by omega)
  have q2 : decide ((p : Int) < (d : Int)) = false := decide_eq_false (by omega)
  have q2' : decide (p < d) = false := decide_eq_false (by omega)
  have q3 : decide ((m : Int) < 3) = false := decide_eq_false (by omega)
  have q4 : decide ((258 : Int) < (m : Int)) = false := decide_eq_false (by omega)
  have q5 : ((m : Int) == 0) = false := beq_eq_false_iff_ne.2 (by omega)
  obtain ⟨pm, hpm2⟩ : ∃ pm : Nat, (p : Int) + (m : Int) = pm := ⟨p + m, by omega⟩
  have hpmn : p + m = pm := by omega
  have q6 : decide ((L : Int) < (pm : Int)) = false := decide_eq_false (by omega)
  have q6' : decide (L < pm) = false := decide_eq_false (by omega)
  have hL0 : L ≠ 0 := by omega
  obtain ⟨pb, po, rfl, hpb, hcc⟩ := cell_u8 HR3.out HL.out hL0
  have HCC := Lib.hid hcc
  have hKn : K ≠ 0 := by
    intro e
    have h9 := HK.out
    rw [e] at h9
    have h8 := HDM.out
    rw [List.eq_nil_of_length_eq_zero h9] at h8
    cases h8
  obtain ⟨qb, qo, rfl, hqb, hqc⟩ := cell_nat HRA.out HK.out hKn
  have HQC := Lib.hid hqc
  have hm64 : m ≤ 1000 := by omega
  clear heq hend hdm hcc hqc HR3 HRA hm0
  go_wp2_with fail
  go_loopw [13] (fun i X => ∃ j : Nat, j ≤ m ∧ i = .int .i64 j ∧ Hid (Below W3.heap.size W3 X)) (fun i _ => m - (intOf i).toNat)
  case atStart => exact ⟨0, by omega, rfl, Lib.hid (Below.refl _ _)⟩
  case round =>
    obtain ⟨j, hj9, rfl, HB⟩ := hrel
    rename World => X
    by_cases hlt : j < m
    · have hlt' : (j : Int) < (m : Int) := by omega
      obtain ⟨s, hs⟩ : ∃ s : Nat, (p : Int) + (j : Int) = s := ⟨p + j, by omega⟩
      obtain ⟨u, hu⟩ : ∃ u : Nat, (s : Int) - (d : Int) = u := ⟨s - d, by omega⟩
      have hsL : s < L := by omega
      have huL : u < L := by omega
      have hsL' : (s : Int) < (L : Int) := by omega
      have huL' : (u : Int) < (L : Int) := by omega
      have e9 := HEQ.out j hlt
      rw [show p + j = s by omega, show s - d = u by omega] at e9
      have k1 : X.cell? ⟨pb, po + s, none⟩ = some (.int .u8 (l.getD s 0)) := (HB.out.cell (p := ⟨pb, _, none⟩) hpb).trans (HCC.out s hsL)
      have k2 : X.cell? ⟨pb, po + u, none⟩ = some (.int .u8 (l.getD u 0)) := (HB.out.cell (p := ⟨pb, _, none⟩) hpb).trans (HCC.out u huL)
      rw [← e9] at k2
      obtain ⟨x, hx⟩ : ∃ x, l.getD s 0 = x := ⟨_, rfl⟩
      rw [hx] at k1 k2
      have e1 : (x == x) = true := by simp
      clear e9 hx q1 q2 q2' q3 q4 q5 q6 q6' hpm2 d20 d20i d0 d7 d72
      go_wp2_with (go_quiet (fail))
      exact ⟨⟨j + 1, by omega, by go_num, Lib.hid (below_drewN HB.out _)⟩, by simp [intOf]; omega⟩
    · have ejm : m = j := by omega
      subst ejm
      go_wp2_with fail
      go_loopw [14, 15] (fun v i X => ∃ j : Nat, j ≤ K ∧ i = .int .i64 j ∧ v = .bool (met A d j) ∧ Hid (Below W3.heap.size W3 X)) (fun _ i _ => K - (intOf i).toNat)
      case atStart => exact ⟨0, by omega, rfl, rfl, HB⟩
      case round =>
        clear HB
        obtain ⟨j, hj9, rfl, rfl, HB⟩ := hrel
        rename World => X
        by_cases hlt : j < K
        · have hlt' : (j : Int) < (K : Int) := by omega
          have HMS := Lib.hid (met_succ (L := A) (d := d) (i := j) (by rw [HK.out]; exact hlt))
          have k1 : X.cell? ⟨qb, qo + j, none⟩ = some (.int .i64 ((A.getD j 0 : Nat) : Int)) := (HB.out.cell (p := ⟨qb, _, none⟩) hqb).trans (HQC.out j hlt)
          obtain ⟨x, hx⟩ : ∃ x, A.getD j 0 = x := ⟨_, rfl⟩
          have HX := Lib.hid hx
          rw [hx] at k1 HMS
          obtain ⟨b, hb⟩ : ∃ b, met A d j = b := ⟨_, rfl⟩
          rw [hb] at HMS ⊢
          have HMJ := Lib.hid hb
          clear hx hb q1 q2 q2' q3 q4 q5 q6 q6' hpm2 d20 d20i d0 d7 d72
          by_cases hj0 : j = 0
          · subst hj0
            have hbf : b = false := HMJ.out.symm
            subst hbf
            rw [Nat.add_zero] at k1
            clear HMJ
            by_cases hxd : x = d
            · have e1 : ((x : Int) == (d : Int)) = true := beq_iff_eq.2 (by omega)
              have HE := Lib.hid hxd
              clear hxd
              go_wp2_with (go_quiet (fail))
              exact ⟨⟨1, by omega, by go_num, by rw [HMS.out, HE.out]; simp, Lib.hid (below_drewN HB.out _)⟩, by simp [intOf]; omega⟩
            · have e1 : ((x : Int) == (d : Int)) = false := beq_eq_false_iff_ne.2 (by omega)
              have HE := Lib.hid hxd
              clear hxd
              go_wp2_with (go_quiet (fail))
              exact ⟨⟨1, by omega, by go_num, by rw [HMS.out]; simp [HE.out], Lib.hid (below_drewN HB.out _)⟩, by simp [intOf]; omega⟩
          · obtain ⟨u, hu⟩ : ∃ u : Nat, (j : Int) - 1 = u := ⟨j - 1, by omega⟩
            have hju : j = u + 1 := by omega
            have k2 : X.cell? ⟨qb, qo + u, none⟩ = some (.int .i64 ((A.getD u 0 : Nat) : Int)) := (HB.out.cell (p := ⟨qb, _, none⟩) hqb).trans (HQC.out u (by omega))
            obtain ⟨y, hy⟩ : ∃ y, A.getD u 0 = y := ⟨_, rfl⟩
            have hxy : y < x := by
              have h9 := all_rise (l := l) (k := p) (i := u) (by rw [HAL.out, HK.out]; omega)
              rw [HAL.out, hy, ← hju, HX.out] at h9
              exact h9
            rw [hy] at k2
            have c1 : decide ((x : Int) ≤ (y : Int)) = false := decide_eq_false (by omega)
            have c2 : decide (x ≤ y) = false := decide_eq_false (by omega)
            have c3 : decide ((0 : Int) < (j : Int)) = true := decide_eq_true (by omega)
            have c4 : decide (0 < j) = true := decide_eq_true (by omega)
            have hu3 : (u : Int) < (K : Int) := by omega
            clear hy hju hxy
            cases b with
            | true =>
              go_wp2_with (go_quiet (fail))
              exact ⟨⟨j + 1, by omega, by go_num, by rw [HMS.out]; rfl, Lib.hid (below_drewN HB.out _)⟩, by simp [intOf]; omega⟩
            | false =>
              by_cases hxd : x = d
              · have e1 : ((x : Int) == (d : Int)) = true := beq_iff_eq.2 (by omega)
                have HE := Lib.hid hxd
                clear hxd
                go_wp2_with (go_quiet (fail))
                exact ⟨⟨j + 1, by omega, by go_num, by rw [HMS.out, HE.out]; simp, Lib.hid (below_drewN HB.out _)⟩, by simp [intOf]; omega⟩
              · have e1 : ((x : Int) == (d : Int)) = false := beq_eq_false_iff_ne.2 (by omega)
                have HE := Lib.hid hxd
                clear hxd
                go_wp2_with (go_quiet (fail))
                exact ⟨⟨j + 1, by omega, by go_num, by rw [HMS.out]; simp [HE.out], Lib.hid (below_drewN HB.out _)⟩, by simp [intOf]; omega⟩
        · have ejK : j = K := by omega
          rw [ejK, show met A d K = true by rw [← HK.out]; exact met_all HDM.out]
          have HB4 := Lib.hid (HBX.out.trans (HB.out.mono HBX.out.size))
          clear hlt ejK
          have hlt9 : ¬ (K : Int) < (K : Int) := by omega
          have wL : IntKind.i64.wrap (L : Int) = (L : Int) := by rw [IntKind.wrap_i64]; omega
          have wpm : IntKind.i64.wrap (pm : Int) = (pm : Int) := by rw [IntKind.wrap_i64]; omega
          by_cases h258 : m = 258
          · subst h258
            clear q1 q2 q2' q3 q4 q5 d20 d20i d0 d7 d72
            go_upto_region 26 with (fail)
            refine Pred.region_vals (Pred.Of [
                Is (.bool true),
                Is (.bool true),
                Is (.int .i64 258),
                Is (.bool true),
                Is (.bool true),
                Is (undef),
                Is (undef),
                Is (undef),
                Is (undef),
                Is (undef),
                Is (undef),
                Is (.bool true),
                Is (.bool true),
                Is (undef),
                Is (undef),
                Is (undef),
                Is (undef),
                Is (undef),
                Is (undef),
                Is (undef),
                Is (undef),
                Is (undef),
                Is (undef),
                Is (undef),
                Is (undef),
                Is (undef),
                Is (undef),
                Is (undef),
                Is (.bool true),
                Is (.bool true),
                Is (.bool true),
                Is (.bool true),
                Is (.bool true),
                Is (.bool true)]) (by kernel_rfl) (by kernel_rfl) (by kernel_rfl) (Pred.of_stab ?_) ?_ ?_
            · exact ⟨is_stab _, is_stab _, is_stab _, is_stab _, is_stab _, is_stab _, is_stab _, is_stab _, is_stab _, is_stab _, is_stab _, is_stab _, is_stab _, is_stab _, is_stab _, is_stab _, is_stab _, is_stab _, is_stab _, is_stab _, is_stab _, is_stab _, is_stab _, is_stab _, is_stab _, is_stab _, is_stab _, is_stab _, is_stab _, is_stab _, is_stab _, is_stab _, is_stab _, is_stab _, trivial⟩
            · refine ⟨?_, ?_, ?_, ?_, ?_, ?_, ?_, ?_, ?_, ?_, ?_, ?_, ?_, ?_, ?_, ?_, ?_, ?_, ?_, ?_, ?_, ?_, ?_, ?_, ?_, ?_, ?_, ?_, ?_, ?_, ?_, ?_, ?_, ?_, trivial⟩
              · intro b9 X9 hE hd hn hV
                have r14 : b9.tmps[14]?.getD undef = .bool true := (hn 14 (by kernel_rfl)).trans rfl
                exact Pred.yields_run (v := .bool true) (Pred.wanted_none rfl) (by go_simp) ⟨Pred.ext_refl _ _, rfl⟩
              · intro b9 X9 hE hd hn hV
                have r133 : b9.tmps[133]?.getD undef = .bool true := hV 0 _ 133 rfl rfl (Pred.waits_near (by kernel_rfl) (by kernel_rfl))
                exact Pred.yields_run (v := .bool true) (Pred.wanted_none rfl) (by go_simp) ⟨Pred.ext_refl _ _, rfl⟩
              · intro b9 X9 hE hd hn hV
                have r11 : b9.tmps[11]?.getD undef = .int .i64 258 := (hn 11 (by kernel_rfl)).trans rfl
                have r134 : b9.tmps[134]?.getD undef = .bool true := hV 1 _ 134 rfl rfl (Pred.waits_near (by kernel_rfl) (by kernel_rfl))
                exact Pred.yields_run (v := .int .i64 258) ((Pred.wanted_at (g := 1) (d := 134) (f := true) rfl rfl r134).trans rfl) (by go_simp) ⟨Pred.ext_refl _ _, rfl⟩
              · intro b9 X9 hE hd hn hV
                have r135 : b9.tmps[135]?.getD undef = .int .i64 258 := hV 2 _ 135 rfl rfl (Pred.waits_near (by kernel_rfl) (by kernel_rfl))
                have r134 : b9.tmps[134]?.getD undef = .bool true := hV 1 _ 134 rfl rfl (Pred.waits_near (by kernel_rfl) (by kernel_rfl))
                exact Pred.yields_run (v := .bool true) ((Pred.wanted_at (g := 1) (d := 134) (f := true) rfl rfl r134).trans rfl) (by go_simp) ⟨Pred.ext_refl _ _, rfl⟩
              · intro b9 X9 hE hd hn hV
                have r136 : b9.tmps[136]?.getD undef = .bool true := hV 3 _ 136 rfl rfl (Pred.waits_near (by kernel_rfl) (by kernel_rfl))
                have r134 : b9.tmps[134]?.getD undef = .bool true := hV 1 _ 134 rfl rfl (Pred.waits_near (by kernel_rfl) (by kernel_rfl))
                exact Pred.yields_run (v := .bool true) ((Pred.wanted_at (g := 1) (d := 134) (f := true) rfl rfl r134).trans rfl) (by go_simp) ⟨Pred.ext_refl _ _, rfl⟩
              · intro b9 X9 hE hd hn hV
                have r137 : b9.tmps[137]?.getD undef = .bool true := hV 4 _ 137 rfl rfl (Pred.waits_near (by kernel_rfl) (by kernel_rfl))
                exact Pred.yields_not ((Pred.wanted_at (g := 4) (d := 137) (f := false) rfl rfl r137).trans rfl) ⟨Pred.ext_refl _ _, rfl⟩
              · intro b9 X9 hE hd hn hV
                have r137 : b9.tmps[137]?.getD undef = .bool true := hV 4 _ 137 rfl rfl (Pred.waits_near (by kernel_rfl) (by kernel_rfl))
                exact Pred.yields_not ((Pred.wanted_at (g := 4) (d := 137) (f := false) rfl rfl r137).trans rfl) ⟨Pred.ext_refl _ _, rfl⟩
              · intro b9 X9 hE hd hn hV
                have r137 : b9.tmps[137]?.getD undef = .bool true := hV 4 _ 137 rfl rfl (Pred.waits_near (by kernel_rfl) (by kernel_rfl))
                exact Pred.yields_not ((Pred.wanted_at (g := 4) (d := 137) (f := false) rfl rfl r137).trans rfl) ⟨Pred.ext_refl _ _, rfl⟩
              · intro b9 X9 hE hd hn hV
                have r137 : b9.tmps[137]?.getD undef = .bool true := hV 4 _ 137 rfl rfl (Pred.waits_near (by kernel_rfl) (by kernel_rfl))
                exact Pred.yields_not ((Pred.wanted_at (g := 4) (d := 137) (f := false) rfl rfl r137).trans rfl) ⟨Pred.ext_refl _ _, rfl⟩
              · intro b9 X9 hE hd hn hV
                have r137 : b9.tmps[137]?.getD undef = .bool true := hV 4 _ 137 rfl rfl (Pred.waits_near (by kernel_rfl) (by kernel_rfl))
                exact Pred.yields_not ((Pred.wanted_at (g := 4) (d := 137) (f := false) rfl rfl r137).trans rfl) ⟨Pred.ext_refl _ _, rfl⟩
              · intro b9 X9 hE hd hn hV
                have r137 : b9.tmps[137]?.getD undef = .bool true := hV 4 _ 137 rfl rfl (Pred.waits_near (by kernel_rfl) (by kernel_rfl))
                exact Pred.yields_not ((Pred.wanted_at (g := 4) (d := 137) (f := false) rfl rfl r137).trans rfl) ⟨Pred.ext_refl _ _, rfl⟩
              · intro b9 X9 hE hd hn hV
                have r137 : b9.tmps[137]?.getD undef = .bool true := hV 4 _ 137 rfl rfl (Pred.waits_near (by kernel_rfl) (by kernel_rfl))
                have r143 : b9.tmps[143]?.getD undef = undef := hV 10 _ 143 rfl rfl (Pred.waits_near (by kernel_rfl) (by kernel_rfl))
                have r134 : b9.tmps[134]?.getD undef = .bool true := hV 1 _ 134 rfl rfl (Pred.waits_near (by kernel_rfl) (by kernel_rfl))
                exact Pred.yields_run (v := .bool true) ((Pred.wanted_at (g := 1) (d := 134) (f := true) rfl rfl r134).trans rfl) (by go_simp) ⟨Pred.ext_refl _ _, rfl⟩
              · intro b9 X9 hE hd hn hV
                have r144 : b9.tmps[144]?.getD undef = .bool true := hV 11 _ 144 rfl rfl (Pred.waits_near (by kernel_rfl) (by kernel_rfl))
                have r134 : b9.tmps[134]?.getD undef = .bool true := hV 1 _ 134 rfl rfl (Pred.waits_near (by kernel_rfl) (by kernel_rfl))
                exact Pred.yields_run (v := .bool true) ((Pred.wanted_at (g := 1) (d := 134) (f := true) rfl rfl r134).trans rfl) (by go_simp) ⟨Pred.ext_refl _ _, rfl⟩
              · intro b9 X9 hE hd hn hV
                have r145 : b9.tmps[145]?.getD undef = .bool true := hV 12 _ 145 rfl rfl (Pred.waits_near (by kernel_rfl) (by kernel_rfl))
                exact Pred.yields_not ((Pred.wanted_at (g := 12) (d := 145) (f := false) rfl rfl r145).trans rfl) ⟨Pred.ext_refl _ _, rfl⟩
              · intro b9 X9 hE hd hn hV
                have r145 : b9.tmps[145]?.getD undef = .bool true := hV 12 _ 145 rfl rfl (Pred.waits_near (by kernel_rfl) (by kernel_rfl))
                exact Pred.yields_not ((Pred.wanted_at (g := 12) (d := 145) (f := false) rfl rfl r145).trans rfl) ⟨Pred.ext_refl _ _, rfl⟩
              · intro b9 X9 hE hd hn hV
                have r145 : b9.tmps[145]?.getD undef = .bool true := hV 12 _ 145 rfl rfl (Pred.waits_near (by kernel_rfl) (by kernel_rfl))
                exact Pred.yields_not ((Pred.wanted_at (g := 12) (d := 145) (f := false) rfl rfl r145).trans rfl) ⟨Pred.ext_refl _ _, rfl⟩
              · intro b9 X9 hE hd hn hV
                have r145 : b9.tmps[145]?.getD undef = .bool true := hV 12 _ 145 rfl rfl (Pred.waits_near (by kernel_rfl) (by kernel_rfl))
                exact Pred.yields_not ((Pred.wanted_at (g := 12) (d := 145) (f := false) rfl rfl r145).trans rfl) ⟨Pred.ext_refl _ _, rfl⟩
              · intro b9 X9 hE hd hn hV
                have r145 : b9.tmps[145]?.getD undef = .bool true := hV 12 _ 145 rfl rfl (Pred.waits_near (by kernel_rfl) (by kernel_rfl))
                exact Pred.yields_not ((Pred.wanted_at (g := 12) (d := 145) (f := false) rfl rfl r145).trans rfl) ⟨Pred.ext_refl _ _, rfl⟩
              · intro b9 X9 hE hd hn hV
                have r145 : b9.tmps[145]?.getD undef = .bool true := hV 12 _ 145 rfl rfl (Pred.waits_near (by kernel_rfl) (by kernel_rfl))
                exact Pred.yields_not ((Pred.wanted_at (g := 12) (d := 145) (f := false) rfl rfl r145).trans rfl) ⟨Pred.ext_refl _ _, rfl⟩
              · intro b9 X9 hE hd hn hV
                have r145 : b9.tmps[145]?.getD undef = .bool true := hV 12 _ 145 rfl rfl (Pred.waits_near (by kernel_rfl) (by kernel_rfl))
                exact Pred.yields_not ((Pred.wanted_at (g := 12) (d := 145) (f := false) rfl rfl r145).trans rfl) ⟨Pred.ext_refl _ _, rfl⟩
              · intro b9 X9 hE hd hn hV
                have r145 : b9.tmps[145]?.getD undef = .bool true := hV 12 _ 145 rfl rfl (Pred.waits_near (by kernel_rfl) (by kernel_rfl))
                exact Pred.yields_not ((Pred.wanted_at (g := 12) (d := 145) (f := false) rfl rfl r145).trans rfl) ⟨Pred.ext_refl _ _, rfl⟩
              · intro b9 X9 hE hd hn hV
                have r145 : b9.tmps[145]?.getD undef = .bool true := hV 12 _ 145 rfl rfl (Pred.waits_near (by kernel_rfl) (by kernel_rfl))
                exact Pred.yields_not ((Pred.wanted_at (g := 12) (d := 145) (f := false) rfl rfl r145).trans rfl) ⟨Pred.ext_refl _ _, rfl⟩
              · intro b9 X9 hE hd hn hV
                have r145 : b9.tmps[145]?.getD undef = .bool true := hV 12 _ 145 rfl rfl (Pred.waits_near (by kernel_rfl) (by kernel_rfl))
                exact Pred.yields_not ((Pred.wanted_at (g := 12) (d := 145) (f := false) rfl rfl r145).trans rfl) ⟨Pred.ext_refl _ _, rfl⟩
              · intro b9 X9 hE hd hn hV
                have r145 : b9.tmps[145]?.getD undef = .bool true := hV 12 _ 145 rfl rfl (Pred.waits_near (by kernel_rfl) (by kernel_rfl))
                exact Pred.yields_not ((Pred.wanted_at (g := 12) (d := 145) (f := false) rfl rfl r145).trans rfl) ⟨Pred.ext_refl _ _, rfl⟩
              · intro b9 X9 hE hd hn hV
                have r145 : b9.tmps[145]?.getD undef = .bool true := hV 12 _ 145 rfl rfl (Pred.waits_near (by kernel_rfl) (by kernel_rfl))
                exact Pred.yields_not ((Pred.wanted_at (g := 12) (d := 145) (f := false) rfl rfl r145).trans rfl) ⟨Pred.ext_refl _ _, rfl⟩
              · intro b9 X9 hE hd hn hV
                have r145 : b9.tmps[145]?.getD undef = .bool true := hV 12 _ 145 rfl rfl (Pred.waits_near (by kernel_rfl) (by kernel_rfl))
                exact Pred.yields_not ((Pred.wanted_at (g := 12) (d := 145) (f := false) rfl rfl r145).trans rfl) ⟨Pred.ext_refl _ _, rfl⟩
              · intro b9 X9 hE hd hn hV
                have r145 : b9.tmps[145]?.getD undef = .bool true := hV 12 _ 145 rfl rfl (Pred.waits_near (by kernel_rfl) (by kernel_rfl))
                exact Pred.yields_not ((Pred.wanted_at (g := 12) (d := 145) (f := false) rfl rfl r145).trans rfl) ⟨Pred.ext_refl _ _, rfl⟩
              · intro b9 X9 hE hd hn hV
                have r145 : b9.tmps[145]?.getD undef = .bool true := hV 12 _ 145 rfl rfl (Pred.waits_near (by kernel_rfl) (by kernel_rfl))
                exact Pred.yields_not ((Pred.wanted_at (g := 12) (d := 145) (f := false) rfl rfl r145).trans rfl) ⟨Pred.ext_refl _ _, rfl⟩
              · intro b9 X9 hE hd hn hV
                have r145 : b9.tmps[145]?.getD undef = .bool true := hV 12 _ 145 rfl rfl (Pred.waits_near (by kernel_rfl) (by kernel_rfl))
                have r160 : b9.tmps[160]?.getD undef = undef := hV 27 _ 160 rfl rfl (Pred.waits_near (by kernel_rfl) (by kernel_rfl))
                have r134 : b9.tmps[134]?.getD undef = .bool true := hV 1 _ 134 rfl rfl (Pred.waits_near (by kernel_rfl) (by kernel_rfl))
                exact Pred.yields_run (v := .bool true) ((Pred.wanted_at (g := 1) (d := 134) (f := true) rfl rfl r134).trans rfl) (by go_simp) ⟨Pred.ext_refl _ _, rfl⟩
              · intro b9 X9 hE hd hn hV
                have r134 : b9.tmps[134]?.getD undef = .bool true := hV 1 _ 134 rfl rfl (Pred.waits_near (by kernel_rfl) (by kernel_rfl))
                have r161 : b9.tmps[161]?.getD undef = .bool true := hV 28 _ 161 rfl rfl (Pred.waits_near (by kernel_rfl) (by kernel_rfl))
                exact Pred.yields_run (v := .bool true) (Pred.wanted_none rfl) (by go_simp) ⟨Pred.ext_refl _ _, rfl⟩
              · intro b9 X9 hE hd hn hV
                have r162 : b9.tmps[162]?.getD undef = .bool true := hV 29 _ 162 rfl rfl (Pred.waits_near (by kernel_rfl) (by kernel_rfl))
                exact Pred.yields_run (v := .bool true) (Pred.wanted_none rfl) (by go_simp) ⟨Pred.ext_refl _ _, rfl⟩
              · intro b9 X9 hE hd hn hV
                have r163 : b9.tmps[163]?.getD undef = .bool true := hV 30 _ 163 rfl rfl (Pred.waits_near (by kernel_rfl) (by kernel_rfl))
                refine Pred.yields_call (f := 5) (args := #[]) ((Pred.wanted_at (g := 30) (d := 163) (f := true) rfl rfl r163).trans rfl) (by go_simp) ?_
                exact (awake_any _).mono fun e w2 ⟨he, hw⟩ => ⟨_, he, Pred.ext_below hw hE.size, rfl⟩
              · intro b9 X9 hE hd hn hV
                have r163 : b9.tmps[163]?.getD undef = .bool true := hV 30 _ 163 rfl rfl (Pred.waits_near (by kernel_rfl) (by kernel_rfl))
                have r164 : b9.tmps[164]?.getD undef = .bool true := hV 31 _ 164 rfl rfl (Pred.waits_near (by kernel_rfl) (by kernel_rfl))
                exact Pred.yields_run (v := .bool true) (Pred.wanted_none rfl) (by go_simp) ⟨Pred.ext_refl _ _, rfl⟩
              · intro b9 X9 hE hd hn hV
                have r165 : b9.tmps[165]?.getD undef = .bool true := hV 32 _ 165 rfl rfl (Pred.waits_near (by kernel_rfl) (by kernel_rfl))
                exact Pred.yields_run (v := .bool true) (Pred.wanted_none rfl) (by go_simp) ⟨Pred.ext_refl _ _, rfl⟩
            intro v X9 hE hv
            have e0 : v 0 = .bool true := hv 0 _ 133 rfl rfl
            have e1 : v 1 = .bool true := hv 1 _ 134 rfl rfl
            have e2 : v 2 = .int .i64 258 := hv 2 _ 135 rfl rfl
            have e3 : v 3 = .bool true := hv 3 _ 136 rfl rfl
            have e4 : v 4 = .bool true := hv 4 _ 137 rfl rfl
            have e5 : v 5 = undef := hv 5 _ 138 rfl rfl
            have e6 : v 6 = undef := hv 6 _ 139 rfl rfl
            have e7 : v 7 = undef := hv 7 _ 140 rfl rfl
            have e8 : v 8 = undef := hv 8 _ 141 rfl rfl
            have e9 : v 9 = undef := hv 9 _ 142 rfl rfl
            have e10 : v 10 = undef := hv 10 _ 143 rfl rfl
            have e11 : v 11 = .bool true := hv 11 _ 144 rfl rfl
            have e12 : v 12 = .bool true := hv 12 _ 145 rfl rfl
            have e13 : v 13 = undef := hv 13 _ 146 rfl rfl
            have e14 : v 14 = undef := hv 14 _ 147 rfl rfl
            have e15 : v 15 = undef := hv 15 _ 148 rfl rfl
            have e16 : v 16 = undef := hv 16 _ 149 rfl rfl
            have e17 : v 17 = undef := hv 17 _ 150 rfl rfl
            have e18 : v 18 = undef := hv 18 _ 151 rfl rfl
            have e19 : v 19 = undef := hv 19 _ 152 rfl rfl
            have e20 : v 20 = undef := hv 20 _ 153 rfl rfl
            have e21 : v 21 = undef := hv 21 _ 154 rfl rfl
            have e22 : v 22 = undef := hv 22 _ 155 rfl rfl
            have e23 : v 23 = undef := hv 23 _ 156 rfl rfl
            have e24 : v 24 = undef := hv 24 _ 157 rfl rfl
            have e25 : v 25 = undef := hv 25 _ 158 rfl rfl
            have e26 : v 26 = undef := hv 26 _ 159 rfl rfl
            have e27 : v 27 = undef := hv 27 _ 160 rfl rfl
            have e28 : v 28 = .bool true := hv 28 _ 161 rfl rfl
            have e29 : v 29 = .bool true := hv 29 _ 162 rfl rfl
            have e30 : v 30 = .bool true := hv 30 _ 163 rfl rfl
            have e31 : v 31 = .bool true := hv 31 _ 164 rfl rfl
            have e32 : v 32 = .bool true := hv 32 _ 165 rfl rfl
            have e33 : v 33 = .bool true := hv 33 _ 6 rfl rfl
            simp only [Pred.putsF_cons, Pred.putsF_nil, Nat.zero_add, Nat.reduceAdd, e0, e1, e2, e3, e4, e5, e6, e7, e8, e9, e10, e11, e12, e13, e14, e15, e16, e17, e18, e19, e20, e21, e22, e23, e24, e25, e26, e27, e28, e29, e30, e31, e32, e33, Act.put, List.setIfInBounds_toArray, List.set_cons_zero, List.set_cons_succ]
            clear e0 e1 e2 e3 e4 e5 e6 e7 e8 e9 e10 e11 e12 e13 e14 e15 e16 e17 e18 e19 e20 e21 e22 e23 e24 e25 e26 e27 e28 e29 e30 e31 e32 e33 hv
            have HB5 := Lib.hid (HB4.out.trans (hE.mono HB4.out.size))
            clear hE HB4 HB HBX 
            go_wp2
            go_ret
            exact ⟨rfl, HB5.out⟩
          · have e258 : ((m : Int) == 258) = false := beq_eq_false_iff_ne.2 (by omega)
            by_cases hpL : pm = L
            · have eL : ((pm : Int) == (L : Int)) = true := beq_iff_eq.2 (by omega)
              clear q1 q2 q2' q3 q4 q5 d20 d20i d0 d7 d72
              go_upto_region 26 with (fail)
              refine Pred.region_vals (Pred.Of [
                  Is (.bool true),
                  Is (.bool true),
                  Is (.int .i64 (m : Int)),
                  Is (.bool false),
                  Is (.bool false),
                  Is (.int .i64 (p : Int)),
                  Is (.int .i64 (m : Int)),
                  Is (.int .i64 (pm : Int)),
                  Is (.slice (some ⟨pb, po, none⟩) L rc),
                  Is (.int .i64 (L : Int)),
                  Is (.bool true),
                  Is (.bool true),
                  Is (.bool true),
                  Is (undef),
                  Is (undef),
                  Is (undef),
                  Is (undef),
                  Is (undef),
                  Is (undef),
                  Is (undef),
                  Is (undef),
                  Is (undef),
                  Is (undef),
                  Is (undef),
                  Is (undef),
                  Is (undef),
                  Is (undef),
                  Is (undef),
                  Is (.bool true),
                  Is (.bool true),
                  Is (.bool true),
                  Is (.bool true),
                  Is (.bool true),
                  Is (.bool true)]) (by kernel_rfl) (by kernel_rfl) (by kernel_rfl) (Pred.of_stab ?_) ?_ ?_
              · exact ⟨is_stab _, is_stab _, is_stab _, is_stab _, is_stab _, is_stab _, is_stab _, is_stab _, is_stab _, is_stab _, is_stab _, is_stab _, is_stab _, is_stab _, is_stab _, is_stab _, is_stab _, is_stab _, is_stab _, is_stab _, is_stab _, is_stab _, is_stab _, is_stab _, is_stab _, is_stab _, is_stab _, is_stab _, is_stab _, is_stab _, is_stab _, is_stab _, is_stab _, is_stab _, trivial⟩
              · refine ⟨?_, ?_, ?_, ?_, ?_, ?_, ?_, ?_, ?_, ?_, ?_, ?_, ?_, ?_, ?_, ?_, ?_, ?_, ?_, ?_, ?_, ?_, ?_, ?_, ?_, ?_, ?_, ?_, ?_, ?_, ?_, ?_, ?_, ?_, trivial⟩
                · intro b9 X9 hE hd hn hV
                  have r14 : b9.tmps[14]?.getD undef = .bool true := (hn 14 (by kernel_rfl)).trans rfl
                  exact Pred.yields_run (v := .bool true) (Pred.wanted_none rfl) (by go_simp) ⟨Pred.ext_refl _ _, rfl⟩
                · intro b9 X9 hE hd hn hV
                  have r133 : b9.tmps[133]?.getD undef = .bool true := hV 0 _ 133 rfl rfl (Pred.waits_near (by kernel_rfl) (by kernel_rfl))
                  exact Pred.yields_run (v := .bool true) (Pred.wanted_none rfl) (by go_simp) ⟨Pred.ext_refl _ _, rfl⟩
                · intro b9 X9 hE hd hn hV
                  have r11 : b9.tmps[11]?.getD undef = .int .i64 (m : Int) := (hn 11 (by kernel_rfl)).trans rfl
                  have r134 : b9.tmps[134]?.getD undef = .bool true := hV 1 _ 134 rfl rfl (Pred.waits_near (by kernel_rfl) (by kernel_rfl))
                  exact Pred.yields_run (v := .int .i64 (m : Int)) ((Pred.wanted_at (g := 1) (d := 134) (f := true) rfl rfl r134).trans rfl) (by go_simp) ⟨Pred.ext_refl _ _, rfl⟩
                · intro b9 X9 hE hd hn hV
                  have r135 : b9.tmps[135]?.getD undef = .int .i64 (m : Int) := hV 2 _ 135 rfl rfl (Pred.waits_near (by kernel_rfl) (by kernel_rfl))
                  have r134 : b9.tmps[134]?.getD undef = .bool true := hV 1 _ 134 rfl rfl (Pred.waits_near (by kernel_rfl) (by kernel_rfl))
                  exact Pred.yields_run (v := .bool false) ((Pred.wanted_at (g := 1) (d := 134) (f := true) rfl rfl r134).trans rfl) (by go_simp) ⟨Pred.ext_refl _ _, rfl⟩
                · intro b9 X9 hE hd hn hV
                  have r136 : b9.tmps[136]?.getD undef = .bool false := hV 3 _ 136 rfl rfl (Pred.waits_near (by kernel_rfl) (by kernel_rfl))
                  have r134 : b9.tmps[134]?.getD undef = .bool true := hV 1 _ 134 rfl rfl (Pred.waits_near (by kernel_rfl) (by kernel_rfl))
                  exact Pred.yields_run (v := .bool false) ((Pred.wanted_at (g := 1) (d := 134) (f := true) rfl rfl r134).trans rfl) (by go_simp) ⟨Pred.ext_refl _ _, rfl⟩
                · intro b9 X9 hE hd hn hV
                  have r9 : b9.tmps[9]?.getD undef = .int .i64 (p : Int) := (hn 9 (by kernel_rfl)).trans rfl
                  have r137 : b9.tmps[137]?.getD undef = .bool false := hV 4 _ 137 rfl rfl (Pred.waits_near (by kernel_rfl) (by kernel_rfl))
                  exact Pred.yields_run (v := .int .i64 (p : Int)) ((Pred.wanted_at (g := 4) (d := 137) (f := false) rfl rfl r137).trans rfl) (by go_simp) ⟨Pred.ext_refl _ _, rfl⟩
                · intro b9 X9 hE hd hn hV
                  have r11 : b9.tmps[11]?.getD undef = .int .i64 (m : Int) := (hn 11 (by kernel_rfl)).trans rfl
                  have r137 : b9.tmps[137]?.getD undef = .bool false := hV 4 _ 137 rfl rfl (Pred.waits_near (by kernel_rfl) (by kernel_rfl))
                  exact Pred.yields_run (v := .int .i64 (m : Int)) ((Pred.wanted_at (g := 4) (d := 137) (f := false) rfl rfl r137).trans rfl) (by go_simp) ⟨Pred.ext_refl _ _, rfl⟩
                · intro b9 X9 hE hd hn hV
                  have r138 : b9.tmps[138]?.getD undef = .int .i64 (p : Int) := hV 5 _ 138 rfl rfl (Pred.waits_near (by kernel_rfl) (by kernel_rfl))
                  have r139 : b9.tmps[139]?.getD undef = .int .i64 (m : Int) := hV 6 _ 139 rfl rfl (Pred.waits_near (by kernel_rfl) (by kernel_rfl))
                  have r137 : b9.tmps[137]?.getD undef = .bool false := hV 4 _ 137 rfl rfl (Pred.waits_near (by kernel_rfl) (by kernel_rfl))
                  exact Pred.yields_run (v := .int .i64 (pm : Int)) ((Pred.wanted_at (g := 4) (d := 137) (f := false) rfl rfl r137).trans rfl) (by go_simp) ⟨Pred.ext_refl _ _, rfl⟩
                · intro b9 X9 hE hd hn hV
                  have r7 : b9.tmps[7]?.getD undef = .slice (some ⟨pb, po, none⟩) L rc := (hn 7 (by kernel_rfl)).trans rfl
                  have r137 : b9.tmps[137]?.getD undef = .bool false := hV 4 _ 137 rfl rfl (Pred.waits_near (by kernel_rfl) (by kernel_rfl))
                  exact Pred.yields_run (v := .slice (some ⟨pb, po, none⟩) L rc) ((Pred.wanted_at (g := 4) (d := 137) (f := false) rfl rfl r137).trans rfl) (by go_simp) ⟨Pred.ext_refl _ _, rfl⟩
                · intro b9 X9 hE hd hn hV
                  have r141 : b9.tmps[141]?.getD undef = .slice (some ⟨pb, po, none⟩) L rc := hV 8 _ 141 rfl rfl (Pred.waits_near (by kernel_rfl) (by kernel_rfl))
                  have r137 : b9.tmps[137]?.getD undef = .bool false := hV 4 _ 137 rfl rfl (Pred.waits_near (by kernel_rfl) (by kernel_rfl))
                  exact Pred.yields_run (v := .int .i64 (L : Int)) ((Pred.wanted_at (g := 4) (d := 137) (f := false) rfl rfl r137).trans rfl) (by go_simp) ⟨Pred.ext_refl _ _, rfl⟩
                · intro b9 X9 hE hd hn hV
                  have r140 : b9.tmps[140]?.getD undef = .int .i64 (pm : Int) := hV 7 _ 140 rfl rfl (Pred.waits_near (by kernel_rfl) (by kernel_rfl))
                  have r142 : b9.tmps[142]?.getD undef = .int .i64 (L : Int) := hV 9 _ 142 rfl rfl (Pred.waits_near (by kernel_rfl) (by kernel_rfl))
                  have r137 : b9.tmps[137]?.getD undef = .bool false := hV 4 _ 137 rfl rfl (Pred.waits_near (by kernel_rfl) (by kernel_rfl))
                  exact Pred.yields_run (v := .bool true) ((Pred.wanted_at (g := 4) (d := 137) (f := false) rfl rfl r137).trans rfl) (by go_simp) ⟨Pred.ext_refl _ _, rfl⟩
                · intro b9 X9 hE hd hn hV
                  have r137 : b9.tmps[137]?.getD undef = .bool false := hV 4 _ 137 rfl rfl (Pred.waits_near (by kernel_rfl) (by kernel_rfl))
                  have r143 : b9.tmps[143]?.getD undef = .bool true := hV 10 _ 143 rfl rfl (Pred.waits_near (by kernel_rfl) (by kernel_rfl))
                  have r134 : b9.tmps[134]?.getD undef = .bool true := hV 1 _ 134 rfl rfl (Pred.waits_near (by kernel_rfl) (by kernel_rfl))
                  exact Pred.yields_run (v := .bool true) ((Pred.wanted_at (g := 1) (d := 134) (f := true) rfl rfl r134).trans rfl) (by go_simp) ⟨Pred.ext_refl _ _, rfl⟩
                · intro b9 X9 hE hd hn hV
                  have r144 : b9.tmps[144]?.getD undef = .bool true := hV 11 _ 144 rfl rfl (Pred.waits_near (by kernel_rfl) (by kernel_rfl))
                  have r134 : b9.tmps[134]?.getD undef = .bool true := hV 1 _ 134 rfl rfl (Pred.waits_near (by kernel_rfl) (by kernel_rfl))
                  exact Pred.yields_run (v := .bool true) ((Pred.wanted_at (g := 1) (d := 134) (f := true) rfl rfl r134).trans rfl) (by go_simp) ⟨Pred.ext_refl _ _, rfl⟩
                · intro b9 X9 hE hd hn hV
                  have r145 : b9.tmps[145]?.getD undef = .bool true := hV 12 _ 145 rfl rfl (Pred.waits_near (by kernel_rfl) (by kernel_rfl))
                  exact Pred.yields_not ((Pred.wanted_at (g := 12) (d := 145) (f := false) rfl rfl r145).trans rfl) ⟨Pred.ext_refl _ _, rfl⟩
                · intro b9 X9 hE hd hn hV
                  have r145 : b9.tmps[145]?.getD undef = .bool true := hV 12 _ 145 rfl rfl (Pred.waits_near (by kernel_rfl) (by kernel_rfl))
                  exact Pred.yields_not ((Pred.wanted_at (g := 12) (d := 145) (f := false) rfl rfl r145).trans rfl) ⟨Pred.ext_refl _ _, rfl⟩
                · intro b9 X9 hE hd hn hV
                  have r145 : b9.tmps[145]?.getD undef = .bool true := hV 12 _ 145 rfl rfl (Pred.waits_near (by kernel_rfl) (by kernel_rfl))
                  exact Pred.yields_not ((Pred.wanted_at (g := 12) (d := 145) (f := false) rfl rfl r145).trans rfl) ⟨Pred.ext_refl _ _, rfl⟩
                · intro b9 X9 hE hd hn hV
                  have r145 : b9.tmps[145]?.getD undef = .bool true := hV 12 _ 145 rfl rfl (Pred.waits_near (by kernel_rfl) (by kernel_rfl))
                  exact Pred.yields_not ((Pred.wanted_at (g := 12) (d := 145) (f := false) rfl rfl r145).trans rfl) ⟨Pred.ext_refl _ _, rfl⟩
                · intro b9 X9 hE hd hn hV
                  have r145 : b9.tmps[145]?.getD undef = .bool true := hV 12 _ 145 rfl rfl (Pred.waits_near (by kernel_rfl) (by kernel_rfl))
                  exact Pred.yields_not ((Pred.wanted_at (g := 12) (d := 145) (f := false) rfl rfl r145).trans rfl) ⟨Pred.ext_refl _ _, rfl⟩
                · intro b9 X9 hE hd hn hV
                  have r145 : b9.tmps[145]?.getD undef = .bool true := hV 12 _ 145 rfl rfl (Pred.waits_near (by kernel_rfl) (by kernel_rfl))
                  exact Pred.yields_not ((Pred.wanted_at (g := 12) (d := 145) (f := false) rfl rfl r145).trans rfl) ⟨Pred.ext_refl _ _, rfl⟩
                · intro b9 X9 hE hd hn hV
                  have r145 : b9.tmps[145]?.getD undef = .bool true := hV 12 _ 145 rfl rfl (Pred.waits_near (by kernel_rfl) (by kernel_rfl))
                  exact Pred.yields_not ((Pred.wanted_at (g := 12) (d := 145) (f := false) rfl rfl r145).trans rfl) ⟨Pred.ext_refl _ _, rfl⟩
                · intro b9 X9 hE hd hn hV
                  have r145 : b9.tmps[145]?.getD undef = .bool true := hV 12 _ 145 rfl rfl (Pred.waits_near (by kernel_rfl) (by kernel_rfl))
                  exact Pred.yields_not ((Pred.wanted_at (g := 12) (d := 145) (f := false) rfl rfl r145).trans rfl) ⟨Pred.ext_refl _ _, rfl⟩
                · intro b9 X9 hE hd hn hV
                  have r145 : b9.tmps[145]?.getD undef = .bool true := hV 12 _ 145 rfl rfl (Pred.waits_near (by kernel_rfl) (by kernel_rfl))
                  exact Pred.yields_not ((Pred.wanted_at (g := 12) (d := 145) (f := false) rfl rfl r145).trans rfl) ⟨Pred.ext_refl _ _, rfl⟩
                · intro b9 X9 hE hd hn hV
                  have r145 : b9.tmps[145]?.getD undef = .bool true := hV 12 _ 145 rfl rfl (Pred.waits_near (by kernel_rfl) (by kernel_rfl))
                  exact Pred.yields_not ((Pred.wanted_at (g := 12) (d := 145) (f := false) rfl rfl r145).trans rfl) ⟨Pred.ext_refl _ _, rfl⟩
                · intro b9 X9 hE hd hn hV
                  have r145 : b9.tmps[145]?.getD undef = .bool true := hV 12 _ 145 rfl rfl (Pred.waits_near (by kernel_rfl) (by kernel_rfl))
                  exact Pred.yields_not ((Pred.wanted_at (g := 12) (d := 145) (f := false) rfl rfl r145).trans rfl) ⟨Pred.ext_refl _ _, rfl⟩
                · intro b9 X9 hE hd hn hV
                  have r145 : b9.tmps[145]?.getD undef = .bool true := hV 12 _ 145 rfl rfl (Pred.waits_near (by kernel_rfl) (by kernel_rfl))
                  exact Pred.yields_not ((Pred.wanted_at (g := 12) (d := 145) (f := false) rfl rfl r145).trans rfl) ⟨Pred.ext_refl _ _, rfl⟩
                · intro b9 X9 hE hd hn hV
                  have r145 : b9.tmps[145]?.getD undef = .bool true := hV 12 _ 145 rfl rfl (Pred.waits_near (by kernel_rfl) (by kernel_rfl))
                  exact Pred.yields_not ((Pred.wanted_at (g := 12) (d := 145) (f := false) rfl rfl r145).trans rfl) ⟨Pred.ext_refl _ _, rfl⟩
                · intro b9 X9 hE hd hn hV
                  have r145 : b9.tmps[145]?.getD undef = .bool true := hV 12 _ 145 rfl rfl (Pred.waits_near (by kernel_rfl) (by kernel_rfl))
                  exact Pred.yields_not ((Pred.wanted_at (g := 12) (d := 145) (f := false) rfl rfl r145).trans rfl) ⟨Pred.ext_refl _ _, rfl⟩
                · intro b9 X9 hE hd hn hV
                  have r145 : b9.tmps[145]?.getD undef = .bool true := hV 12 _ 145 rfl rfl (Pred.waits_near (by kernel_rfl) (by kernel_rfl))
                  exact Pred.yields_not ((Pred.wanted_at (g := 12) (d := 145) (f := false) rfl rfl r145).trans rfl) ⟨Pred.ext_refl _ _, rfl⟩
                · intro b9 X9 hE hd hn hV
                  have r145 : b9.tmps[145]?.getD undef = .bool true := hV 12 _ 145 rfl rfl (Pred.waits_near (by kernel_rfl) (by kernel_rfl))
                  have r160 : b9.tmps[160]?.getD undef = undef := hV 27 _ 160 rfl rfl (Pred.waits_near (by kernel_rfl) (by kernel_rfl))
                  have r134 : b9.tmps[134]?.getD undef = .bool true := hV 1 _ 134 rfl rfl (Pred.waits_near (by kernel_rfl) (by kernel_rfl))
                  exact Pred.yields_run (v := .bool true) ((Pred.wanted_at (g := 1) (d := 134) (f := true) rfl rfl r134).trans rfl) (by go_simp) ⟨Pred.ext_refl _ _, rfl⟩
                · intro b9 X9 hE hd hn hV
                  have r134 : b9.tmps[134]?.getD undef = .bool true := hV 1 _ 134 rfl rfl (Pred.waits_near (by kernel_rfl) (by kernel_rfl))
                  have r161 : b9.tmps[161]?.getD undef = .bool true := hV 28 _ 161 rfl rfl (Pred.waits_near (by kernel_rfl) (by kernel_rfl))
                  exact Pred.yields_run (v := .bool true) (Pred.wanted_none rfl) (by go_simp) ⟨Pred.ext_refl _ _, rfl⟩
                · intro b9 X9 hE hd hn hV
                  have r162 : b9.tmps[162]?.getD undef = .bool true := hV 29 _ 162 rfl rfl (Pred.waits_near (by kernel_rfl) (by kernel_rfl))
                  exact Pred.yields_run (v := .bool true) (Pred.wanted_none rfl) (by go_simp) ⟨Pred.ext_refl _ _, rfl⟩
                · intro b9 X9 hE hd hn hV
                  have r163 : b9.tmps[163]?.getD undef = .bool true := hV 30 _ 163 rfl rfl (Pred.waits_near (by kernel_rfl) (by kernel_rfl))
                  refine Pred.yields_call (f := 5) (args := #[]) ((Pred.wanted_at (g := 30) (d := 163) (f := true) rfl rfl r163).trans rfl) (by go_simp) ?_
                  exact (awake_any _).mono fun e w2 ⟨he, hw⟩ => ⟨_, he, Pred.ext_below hw hE.size, rfl⟩
                · intro b9 X9 hE hd hn hV
                  have r163 : b9.tmps[163]?.getD undef = .bool true := hV 30 _ 163 rfl rfl (Pred.waits_near (by kernel_rfl) (by kernel_rfl))
                  have r164 : b9.tmps[164]?.getD undef = .bool true := hV 31 _ 164 rfl rfl (Pred.waits_near (by kernel_rfl) (by kernel_rfl))
                  exact Pred.yields_run (v := .bool true) (Pred.wanted_none rfl) (by go_simp) ⟨Pred.ext_refl _ _, rfl⟩
                · intro b9 X9 hE hd hn hV
                  have r165 : b9.tmps[165]?.getD undef = .bool true := hV 32 _ 165 rfl rfl (Pred.waits_near (by kernel_rfl) (by kernel_rfl))
                  exact Pred.yields_run (v := .bool true) (Pred.wanted_none rfl) (by go_simp) ⟨Pred.ext_refl _ _, rfl⟩
              intro v X9 hE hv
              have e0 : v 0 = .bool true := hv 0 _ 133 rfl rfl
              have e1 : v 1 = .bool true := hv 1 _ 134 rfl rfl
              have e2 : v 2 = .int .i64 (m : Int) := hv 2 _ 135 rfl rfl
              have e3 : v 3 = .bool false := hv 3 _ 136 rfl rfl
              have e4 : v 4 = .bool false := hv 4 _ 137 rfl rfl
              have e5 : v 5 = .int .i64 (p : Int) := hv 5 _ 138 rfl rfl
              have e6 : v 6 = .int .i64 (m : Int) := hv 6 _ 139 rfl rfl
              have e7 : v 7 = .int .i64 (pm : Int) := hv 7 _ 140 rfl rfl
              have e8 : v 8 = .slice (some ⟨pb, po, none⟩) L rc := hv 8 _ 141 rfl rfl
              have e9 : v 9 = .int .i64 (L : Int) := hv 9 _ 142 rfl rfl
              have e10 : v 10 = .bool true := hv 10 _ 143 rfl rfl
              have e11 : v 11 = .bool true := hv 11 _ 144 rfl rfl
              have e12 : v 12 = .bool true := hv 12 _ 145 rfl rfl
              have e13 : v 13 = undef := hv 13 _ 146 rfl rfl
              have e14 : v 14 = undef := hv 14 _ 147 rfl rfl
              have e15 : v 15 = undef := hv 15 _ 148 rfl rfl
              have e16 : v 16 = undef := hv 16 _ 149 rfl rfl
              have e17 : v 17 = undef := hv 17 _ 150 rfl rfl
              have e18 : v 18 = undef := hv 18 _ 151 rfl rfl
              have e19 : v 19 = undef := hv 19 _ 152 rfl rfl
              have e20 : v 20 = undef := hv 20 _ 153 rfl rfl
              have e21 : v 21 = undef := hv 21 _ 154 rfl rfl
              have e22 : v 22 = undef := hv 22 _ 155 rfl rfl
              have e23 : v 23 = undef := hv 23 _ 156 rfl rfl
              have e24 : v 24 = undef := hv 24 _ 157 rfl rfl
              have e25 : v 25 = undef := hv 25 _ 158 rfl rfl
              have e26 : v 26 = undef := hv 26 _ 159 rfl rfl
              have e27 : v 27 = undef := hv 27 _ 160 rfl rfl
              have e28 : v 28 = .bool true := hv 28 _ 161 rfl rfl
              have e29 : v 29 = .bool true := hv 29 _ 162 rfl rfl
              have e30 : v 30 = .bool true := hv 30 _ 163 rfl rfl
              have e31 : v 31 = .bool true := hv 31 _ 164 rfl rfl
              have e32 : v 32 = .bool true := hv 32 _ 165 rfl rfl
              have e33 : v 33 = .bool true := hv 33 _ 6 rfl rfl
              simp only [Pred.putsF_cons, Pred.putsF_nil, Nat.zero_add, Nat.reduceAdd, e0, e1, e2, e3, e4, e5, e6, e7, e8, e9, e10, e11, e12, e13, e14, e15, e16, e17, e18, e19, e20, e21, e22, e23, e24, e25, e26, e27, e28, e29, e30, e31, e32, e33, Act.put, List.setIfInBounds_toArray, List.set_cons_zero, List.set_cons_succ]
              clear e0 e1 e2 e3 e4 e5 e6 e7 e8 e9 e10 e11 e12 e13 e14 e15 e16 e17 e18 e19 e20 e21 e22 e23 e24 e25 e26 e27 e28 e29 e30 e31 e32 e33 hv
              have HB5 := Lib.hid (HB4.out.trans (hE.mono HB4.out.size))
              clear hE HB4 HB HBX 
              go_wp2
              go_ret
              exact ⟨rfl, HB5.out⟩
            · have eL : ((pm : Int) == (L : Int)) = false := beq_eq_false_iff_ne.2 (by omega)
              obtain ⟨u, hu⟩ : ∃ u : Nat, (pm : Int) - (d : Int) = u := ⟨pm - d, by omega⟩
              have wu : IntKind.i64.wrap (u : Int) = (u : Int) := by rw [IntKind.wrap_i64]; omega
              have hne : l.getD pm 0 ≠ l.getD u 0 := by
                rcases HEND.out with h | h | h
                · exact absurd h h258
                · omega
                · rw [hpmn, show pm - d = u by omega] at h; exact h
              obtain ⟨x, hx⟩ : ∃ x, l.getD pm 0 = x := ⟨_, rfl⟩
              obtain ⟨y, hy⟩ : ∃ y, l.getD u 0 = y := ⟨_, rfl⟩
              have HCE : Hid (∀ Z : World, Below X.heap.size X Z → Z.cell? ⟨pb, po + pm, none⟩ = some (.int .u8 x) ∧ Z.cell? ⟨pb, po + u, none⟩ = some (.int .u8 y)) := Lib.hid (fun Z hZ => by
                have h1 := HB.out.trans (hZ.mono HB.out.size)
                exact ⟨hx ▸ (h1.cell (p := ⟨pb, _, none⟩) hpb).trans (HCC.out pm (by omega)), hy ▸ (h1.cell (p := ⟨pb, _, none⟩) hpb).trans (HCC.out u (by omega))⟩)
              have exy : (x == y) = false := beq_eq_false_iff_ne.2 (by rw [← hx, ← hy]; exact hne)
              have exn : ¬ x = y := by rw [← hx, ← hy]; exact hne
              have hpmL : (pm : Int) < (L : Int) := by omega
              have huL : (u : Int) < (L : Int) := by omega
              clear q1 q2 q2' q3 q4 q5 d20 d20i d0 d7 d72 hx hy hne
              go_upto_region 26 with (fail)
              refine Pred.region_vals (Pred.Of [
                  Is (.bool true),
                  Is (.bool true),
                  Is (.int .i64 (m : Int)),
                  Is (.bool false),
                  Is (.bool false),
                  Is (.int .i64 (p : Int)),
                  Is (.int .i64 (m : Int)),
                  Is (.int .i64 (pm : Int)),
                  Is (.slice (some ⟨pb, po, none⟩) L rc),
                  Is (.int .i64 (L : Int)),
                  Is (.bool false),
                  Is (.bool false),
                  Is (.bool false),
                  Is (.slice (some ⟨pb, po, none⟩) L rc),
                  Is (.int .i64 (p : Int)),
                  Is (.int .i64 (m : Int)),
                  Is (.int .i64 (pm : Int)),
                  Is (.pointer (some ⟨pb, po + pm, none⟩)),
                  Is (.int .u8 x),
                  Is (.slice (some ⟨pb, po, none⟩) L rc),
                  Is (.int .i64 (p : Int)),
                  Is (.int .i64 (m : Int)),
                  Is (.int .i64 (pm : Int)),
                  Is (.int .i64 (d : Int)),
                  Is (.int .i64 (u : Int)),
                  Is (.pointer (some ⟨pb, po + u, none⟩)),
                  Is (.int .u8 y),
                  Is (.bool true),
                  Is (.bool true),
                  Is (.bool true),
                  Is (.bool true),
                  Is (.bool true),
                  Is (.bool true),
                  Is (.bool true)]) (by kernel_rfl) (by kernel_rfl) (by kernel_rfl) (Pred.of_stab ?_) ?_ ?_
              · exact ⟨is_stab _, is_stab _, is_stab _, is_stab _, is_stab _, is_stab _, is_stab _, is_stab _, is_stab _, is_stab _, is_stab _, is_stab _, is_stab _, is_stab _, is_stab _, is_stab _, is_stab _, is_stab _, is_stab _, is_stab _, is_stab _, is_stab _, is_stab _, is_stab _, is_stab _, is_stab _, is_stab _, is_stab _, is_stab _, is_stab _, is_stab _, is_stab _, is_stab _, is_stab _, trivial⟩
              · refine ⟨?_, ?_, ?_, ?_, ?_, ?_, ?_, ?_, ?_, ?_, ?_, ?_, ?_, ?_, ?_, ?_, ?_, ?_, ?_, ?_, ?_, ?_, ?_, ?_, ?_, ?_, ?_, ?_, ?_, ?_, ?_, ?_, ?_, ?_, trivial⟩
                · intro b9 X9 hE hd hn hV
                  have r14 : b9.tmps[14]?.getD undef = .bool true := (hn 14 (by kernel_rfl)).trans rfl
                  exact Pred.yields_run (v := .bool true) (Pred.wanted_none rfl) (by go_simp) ⟨Pred.ext_refl _ _, rfl⟩
                · intro b9 X9 hE hd hn hV
                  have r133 : b9.tmps[133]?.getD undef = .bool true := hV 0 _ 133 rfl rfl (Pred.waits_near (by kernel_rfl) (by kernel_rfl))
                  exact Pred.yields_run (v := .bool true) (Pred.wanted_none rfl) (by go_simp) ⟨Pred.ext_refl _ _, rfl⟩
                · intro b9 X9 hE hd hn hV
                  have r11 : b9.tmps[11]?.getD undef = .int .i64 (m : Int) := (hn 11 (by kernel_rfl)).trans rfl
                  have r134 : b9.tmps[134]?.getD undef = .bool true := hV 1 _ 134 rfl rfl (Pred.waits_near (by kernel_rfl) (by kernel_rfl))
                  exact Pred.yields_run (v := .int .i64 (m : Int)) ((Pred.wanted_at (g := 1) (d := 134) (f := true) rfl rfl r134).trans rfl) (by go_simp) ⟨Pred.ext_refl _ _, rfl⟩
                · intro b9 X9 hE hd hn hV
                  have r135 : b9.tmps[135]?.getD undef = .int .i64 (m : Int) := hV 2 _ 135 rfl rfl (Pred.waits_near (by kernel_rfl) (by kernel_rfl))
                  have r134 : b9.tmps[134]?.getD undef = .bool true := hV 1 _ 134 rfl rfl (Pred.waits_near (by kernel_rfl) (by kernel_rfl))
                  exact Pred.yields_run (v := .bool false) ((Pred.wanted_at (g := 1) (d := 134) (f := true) rfl rfl r134).trans rfl) (by go_simp) ⟨Pred.ext_refl _ _, rfl⟩
                · intro b9 X9 hE hd hn hV
                  have r136 : b9.tmps[136]?.getD undef = .bool false := hV 3 _ 136 rfl rfl (Pred.waits_near (by kernel_rfl) (by kernel_rfl))
                  have r134 : b9.tmps[134]?.getD undef = .bool true := hV 1 _ 134 rfl rfl (Pred.waits_near (by kernel_rfl) (by kernel_rfl))
                  exact Pred.yields_run (v := .bool false) ((Pred.wanted_at (g := 1) (d := 134) (f := true) rfl rfl r134).trans rfl) (by go_simp) ⟨Pred.ext_refl _ _, rfl⟩
                · intro b9 X9 hE hd hn hV
                  have r9 : b9.tmps[9]?.getD undef = .int .i64 (p : Int) := (hn 9 (by kernel_rfl)).trans rfl
                  have r137 : b9.tmps[137]?.getD undef = .bool false := hV 4 _ 137 rfl rfl (Pred.waits_near (by kernel_rfl) (by kernel_rfl))
                  exact Pred.yields_run (v := .int .i64 (p : Int)) ((Pred.wanted_at (g := 4) (d := 137) (f := false) rfl rfl r137).trans rfl) (by go_simp) ⟨Pred.ext_refl _ _, rfl⟩
                · intro b9 X9 hE hd hn hV
                  have r11 : b9.tmps[11]?.getD undef = .int .i64 (m : Int) := (hn 11 (by kernel_rfl)).trans rfl
                  have r137 : b9.tmps[137]?.getD undef = .bool false := hV 4 _ 137 rfl rfl (Pred.waits_near (by kernel_rfl) (by kernel_rfl))
                  exact Pred.yields_run (v := .int .i64 (m : Int)) ((Pred.wanted_at (g := 4) (d := 137) (f := false) rfl rfl r137).trans rfl) (by go_simp) ⟨Pred.ext_refl _ _, rfl⟩
                · intro b9 X9 hE hd hn hV
                  have r138 : b9.tmps[138]?.getD undef = .int .i64 (p : Int) := hV 5 _ 138 rfl rfl (Pred.waits_near (by kernel_rfl) (by kernel_rfl))
                  have r139 : b9.tmps[139]?.getD undef = .int .i64 (m : Int) := hV 6 _ 139 rfl rfl (Pred.waits_near (by kernel_rfl) (by kernel_rfl))
                  have r137 : b9.tmps[137]?.getD undef = .bool false := hV 4 _ 137 rfl rfl (Pred.waits_near (by kernel_rfl) (by kernel_rfl))
                  exact Pred.yields_run (v := .int .i64 (pm : Int)) ((Pred.wanted_at (g := 4) (d := 137) (f := false) rfl rfl r137).trans rfl) (by go_simp) ⟨Pred.ext_refl _ _, rfl⟩
                · intro b9 X9 hE hd hn hV
                  have r7 : b9.tmps[7]?.getD undef = .slice (some ⟨pb, po, none⟩) L rc := (hn 7 (by kernel_rfl)).trans rfl
                  have r137 : b9.tmps[137]?.getD undef = .bool false := hV 4 _ 137 rfl rfl (Pred.waits_near (by kernel_rfl) (by kernel_rfl))
                  exact Pred.yields_run (v := .slice (some ⟨pb, po, none⟩) L rc) ((Pred.wanted_at (g := 4) (d := 137) (f := false) rfl rfl r137).trans rfl) (by go_simp) ⟨Pred.ext_refl _ _, rfl⟩
                · intro b9 X9 hE hd hn hV
                  have r141 : b9.tmps[141]?.getD undef = .slice (some ⟨pb, po, none⟩) L rc := hV 8 _ 141 rfl rfl (Pred.waits_near (by kernel_rfl) (by kernel_rfl))
                  have r137 : b9.tmps[137]?.getD undef = .bool false := hV 4 _ 137 rfl rfl (Pred.waits_near (by kernel_rfl) (by kernel_rfl))
                  exact Pred.yields_run (v := .int .i64 (L : Int)) ((Pred.wanted_at (g := 4) (d := 137) (f := false) rfl rfl r137).trans rfl) (by go_simp) ⟨Pred.ext_refl _ _, rfl⟩
                · intro b9 X9 hE hd hn hV
                  have r140 : b9.tmps[140]?.getD undef = .int .i64 (pm : Int) := hV 7 _ 140 rfl rfl (Pred.waits_near (by kernel_rfl) (by kernel_rfl))
                  have r142 : b9.tmps[142]?.getD undef = .int .i64 (L : Int) := hV 9 _ 142 rfl rfl (Pred.waits_near (by kernel_rfl) (by kernel_rfl))
                  have r137 : b9.tmps[137]?.getD undef = .bool false := hV 4 _ 137 rfl rfl (Pred.waits_near (by kernel_rfl) (by kernel_rfl))
                  exact Pred.yields_run (v := .bool false) ((Pred.wanted_at (g := 4) (d := 137) (f := false) rfl rfl r137).trans rfl) (by go_simp) ⟨Pred.ext_refl _ _, rfl⟩
                · intro b9 X9 hE hd hn hV
                  have r137 : b9.tmps[137]?.getD undef = .bool false := hV 4 _ 137 rfl rfl (Pred.waits_near (by kernel_rfl) (by kernel_rfl))
                  have r143 : b9.tmps[143]?.getD undef = .bool false := hV 10 _ 143 rfl rfl (Pred.waits_near (by kernel_rfl) (by kernel_rfl))
                  have r134 : b9.tmps[134]?.getD undef = .bool true := hV 1 _ 134 rfl rfl (Pred.waits_near (by kernel_rfl) (by kernel_rfl))
                  exact Pred.yields_run (v := .bool false) ((Pred.wanted_at (g := 1) (d := 134) (f := true) rfl rfl r134).trans rfl) (by go_simp) ⟨Pred.ext_refl _ _, rfl⟩
                · intro b9 X9 hE hd hn hV
                  have r144 : b9.tmps[144]?.getD undef = .bool false := hV 11 _ 144 rfl rfl (Pred.waits_near (by kernel_rfl) (by kernel_rfl))
                  have r134 : b9.tmps[134]?.getD undef = .bool true := hV 1 _ 134 rfl rfl (Pred.waits_near (by kernel_rfl) (by kernel_rfl))
                  exact Pred.yields_run (v := .bool false) ((Pred.wanted_at (g := 1) (d := 134) (f := true) rfl rfl r134).trans rfl) (by go_simp) ⟨Pred.ext_refl _ _, rfl⟩
                · intro b9 X9 hE hd hn hV
                  have r7 : b9.tmps[7]?.getD undef = .slice (some ⟨pb, po, none⟩) L rc := (hn 7 (by kernel_rfl)).trans rfl
                  have r145 : b9.tmps[145]?.getD undef = .bool false := hV 12 _ 145 rfl rfl (Pred.waits_near (by kernel_rfl) (by kernel_rfl))
                  exact Pred.yields_run (v := .slice (some ⟨pb, po, none⟩) L rc) ((Pred.wanted_at (g := 12) (d := 145) (f := false) rfl rfl r145).trans rfl) (by go_simp) ⟨Pred.ext_refl _ _, rfl⟩
                · intro b9 X9 hE hd hn hV
                  have r9 : b9.tmps[9]?.getD undef = .int .i64 (p : Int) := (hn 9 (by kernel_rfl)).trans rfl
                  have r145 : b9.tmps[145]?.getD undef = .bool false := hV 12 _ 145 rfl rfl (Pred.waits_near (by kernel_rfl) (by kernel_rfl))
                  exact Pred.yields_run (v := .int .i64 (p : Int)) ((Pred.wanted_at (g := 12) (d := 145) (f := false) rfl rfl r145).trans rfl) (by go_simp) ⟨Pred.ext_refl _ _, rfl⟩
                · intro b9 X9 hE hd hn hV
                  have r11 : b9.tmps[11]?.getD undef = .int .i64 (m : Int) := (hn 11 (by kernel_rfl)).trans rfl
                  have r145 : b9.tmps[145]?.getD undef = .bool false := hV 12 _ 145 rfl rfl (Pred.waits_near (by kernel_rfl) (by kernel_rfl))
                  exact Pred.yields_run (v := .int .i64 (m : Int)) ((Pred.wanted_at (g := 12) (d := 145) (f := false) rfl rfl r145).trans rfl) (by go_simp) ⟨Pred.ext_refl _ _, rfl⟩
                · intro b9 X9 hE hd hn hV
                  have r147 : b9.tmps[147]?.getD undef = .int .i64 (p : Int) := hV 14 _ 147 rfl rfl (Pred.waits_near (by kernel_rfl) (by kernel_rfl))
                  have r148 : b9.tmps[148]?.getD undef = .int .i64 (m : Int) := hV 15 _ 148 rfl rfl (Pred.waits_near (by kernel_rfl) (by kernel_rfl))
                  have r145 : b9.tmps[145]?.getD undef = .bool false := hV 12 _ 145 rfl rfl (Pred.waits_near (by kernel_rfl) (by kernel_rfl))
                  exact Pred.yields_run (v := .int .i64 (pm : Int)) ((Pred.wanted_at (g := 12) (d := 145) (f := false) rfl rfl r145).trans rfl) (by go_simp) ⟨Pred.ext_refl _ _, rfl⟩
                · intro b9 X9 hE hd hn hV
                  have r146 : b9.tmps[146]?.getD undef = .slice (some ⟨pb, po, none⟩) L rc := hV 13 _ 146 rfl rfl (Pred.waits_near (by kernel_rfl) (by kernel_rfl))
                  have r149 : b9.tmps[149]?.getD undef = .int .i64 (pm : Int) := hV 16 _ 149 rfl rfl (Pred.waits_near (by kernel_rfl) (by kernel_rfl))
                  have r145 : b9.tmps[145]?.getD undef = .bool false := hV 12 _ 145 rfl rfl (Pred.waits_near (by kernel_rfl) (by kernel_rfl))
                  exact Pred.yields_run (v := .pointer (some ⟨pb, po + pm, none⟩)) ((Pred.wanted_at (g := 12) (d := 145) (f := false) rfl rfl r145).trans rfl) (by go_simp) ⟨Pred.ext_refl _ _, rfl⟩
                · intro b9 X9 hE hd hn hV
                  have r150 : b9.tmps[150]?.getD undef = .pointer (some ⟨pb, po + pm, none⟩) := hV 17 _ 150 rfl rfl (Pred.waits_near (by kernel_rfl) (by kernel_rfl))
                  have r145 : b9.tmps[145]?.getD undef = .bool false := hV 12 _ 145 rfl rfl (Pred.waits_near (by kernel_rfl) (by kernel_rfl))
                  have cz := (HCE.out _ hE).1
                  exact Pred.yields_run (v := .int .u8 x) ((Pred.wanted_at (g := 12) (d := 145) (f := false) rfl rfl r145).trans rfl) (by go_simp) ⟨Pred.ext_refl _ _, rfl⟩
                · intro b9 X9 hE hd hn hV
                  have r7 : b9.tmps[7]?.getD undef = .slice (some ⟨pb, po, none⟩) L rc := (hn 7 (by kernel_rfl)).trans rfl
                  have r145 : b9.tmps[145]?.getD undef = .bool false := hV 12 _ 145 rfl rfl (Pred.waits_near (by kernel_rfl) (by kernel_rfl))
                  exact Pred.yields_run (v := .slice (some ⟨pb, po, none⟩) L rc) ((Pred.wanted_at (g := 12) (d := 145) (f := false) rfl rfl r145).trans rfl) (by go_simp) ⟨Pred.ext_refl _ _, rfl⟩
                · intro b9 X9 hE hd hn hV
                  have r9 : b9.tmps[9]?.getD undef = .int .i64 (p : Int) := (hn 9 (by kernel_rfl)).trans rfl
                  have r145 : b9.tmps[145]?.getD undef = .bool false := hV 12 _ 145 rfl rfl (Pred.waits_near (by kernel_rfl) (by kernel_rfl))
                  exact Pred.yields_run (v := .int .i64 (p : Int)) ((Pred.wanted_at (g := 12) (d := 145) (f := false) rfl rfl r145).trans rfl) (by go_simp) ⟨Pred.ext_refl _ _, rfl⟩
                · intro b9 X9 hE hd hn hV
                  have r11 : b9.tmps[11]?.getD undef = .int .i64 (m : Int) := (hn 11 (by kernel_rfl)).trans rfl
                  have r145 : b9.tmps[145]?.getD undef = .bool false := hV 12 _ 145 rfl rfl (Pred.waits_near (by kernel_rfl) (by kernel_rfl))
                  exact Pred.yields_run (v := .int .i64 (m : Int)) ((Pred.wanted_at (g := 12) (d := 145) (f := false) rfl rfl r145).trans rfl) (by go_simp) ⟨Pred.ext_refl _ _, rfl⟩
                · intro b9 X9 hE hd hn hV
                  have r153 : b9.tmps[153]?.getD undef = .int .i64 (p : Int) := hV 20 _ 153 rfl rfl (Pred.waits_near (by kernel_rfl) (by kernel_rfl))
                  have r154 : b9.tmps[154]?.getD undef = .int .i64 (m : Int) := hV 21 _ 154 rfl rfl (Pred.waits_near (by kernel_rfl) (by kernel_rfl))
                  have r145 : b9.tmps[145]?.getD undef = .bool false := hV 12 _ 145 rfl rfl (Pred.waits_near (by kernel_rfl) (by kernel_rfl))
                  exact Pred.yields_run (v := .int .i64 (pm : Int)) ((Pred.wanted_at (g := 12) (d := 145) (f := false) rfl rfl r145).trans rfl) (by go_simp) ⟨Pred.ext_refl _ _, rfl⟩
                · intro b9 X9 hE hd hn hV
                  have r10 : b9.tmps[10]?.getD undef = .int .i64 (d : Int) := (hn 10 (by kernel_rfl)).trans rfl
                  have r145 : b9.tmps[145]?.getD undef = .bool false := hV 12 _ 145 rfl rfl (Pred.waits_near (by kernel_rfl) (by kernel_rfl))
                  exact Pred.yields_run (v := .int .i64 (d : Int)) ((Pred.wanted_at (g := 12) (d := 145) (f := false) rfl rfl r145).trans rfl) (by go_simp) ⟨Pred.ext_refl _ _, rfl⟩
                · intro b9 X9 hE hd hn hV
                  have r155 : b9.tmps[155]?.getD undef = .int .i64 (pm : Int) := hV 22 _ 155 rfl rfl (Pred.waits_near (by kernel_rfl) (by kernel_rfl))
                  have r156 : b9.tmps[156]?.getD undef = .int .i64 (d : Int) := hV 23 _ 156 rfl rfl (Pred.waits_near (by kernel_rfl) (by kernel_rfl))
                  have r145 : b9.tmps[145]?.getD undef = .bool false := hV 12 _ 145 rfl rfl (Pred.waits_near (by kernel_rfl) (by kernel_rfl))
                  exact Pred.yields_run (v := .int .i64 (u : Int)) ((Pred.wanted_at (g := 12) (d := 145) (f := false) rfl rfl r145).trans rfl) (by go_simp) ⟨Pred.ext_refl _ _, rfl⟩
                · intro b9 X9 hE hd hn hV
                  have r152 : b9.tmps[152]?.getD undef = .slice (some ⟨pb, po, none⟩) L rc := hV 19 _ 152 rfl rfl (Pred.waits_near (by kernel_rfl) (by kernel_rfl))
                  have r157 : b9.tmps[157]?.getD undef = .int .i64 (u : Int) := hV 24 _ 157 rfl rfl (Pred.waits_near (by kernel_rfl) (by kernel_rfl))
                  have r145 : b9.tmps[145]?.getD undef = .bool false := hV 12 _ 145 rfl rfl (Pred.waits_near (by kernel_rfl) (by kernel_rfl))
                  exact Pred.yields_run (v := .pointer (some ⟨pb, po + u, none⟩)) ((Pred.wanted_at (g := 12) (d := 145) (f := false) rfl rfl r145).trans rfl) (by go_simp) ⟨Pred.ext_refl _ _, rfl⟩
                · intro b9 X9 hE hd hn hV
                  have r158 : b9.tmps[158]?.getD undef = .pointer (some ⟨pb, po + u, none⟩) := hV 25 _ 158 rfl rfl (Pred.waits_near (by kernel_rfl) (by kernel_rfl))
                  have r145 : b9.tmps[145]?.getD undef = .bool false := hV 12 _ 145 rfl rfl (Pred.waits_near (by kernel_rfl) (by kernel_rfl))
                  have cz := (HCE.out _ hE).2
                  exact Pred.yields_run (v := .int .u8 y) ((Pred.wanted_at (g := 12) (d := 145) (f := false) rfl rfl r145).trans rfl) (by go_simp) ⟨Pred.ext_refl _ _, rfl⟩
                · intro b9 X9 hE hd hn hV
                  have r151 : b9.tmps[151]?.getD undef = .int .u8 x := hV 18 _ 151 rfl rfl (Pred.waits_near (by kernel_rfl) (by kernel_rfl))
                  have r159 : b9.tmps[159]?.getD undef = .int .u8 y := hV 26 _ 159 rfl rfl (Pred.waits_near (by kernel_rfl) (by kernel_rfl))
                  have r145 : b9.tmps[145]?.getD undef = .bool false := hV 12 _ 145 rfl rfl (Pred.waits_near (by kernel_rfl) (by kernel_rfl))
                  exact Pred.yields_run (v := .bool true) ((Pred.wanted_at (g := 12) (d := 145) (f := false) rfl rfl r145).trans rfl) (by go_simp) ⟨Pred.ext_refl _ _, rfl⟩
                · intro b9 X9 hE hd hn hV
                  have r145 : b9.tmps[145]?.getD undef = .bool false := hV 12 _ 145 rfl rfl (Pred.waits_near (by kernel_rfl) (by kernel_rfl))
                  have r160 : b9.tmps[160]?.getD undef = .bool true := hV 27 _ 160 rfl rfl (Pred.waits_near (by kernel_rfl) (by kernel_rfl))
                  have r134 : b9.tmps[134]?.getD undef = .bool true := hV 1 _ 134 rfl rfl (Pred.waits_near (by kernel_rfl) (by kernel_rfl))
                  exact Pred.yields_run (v := .bool true) ((Pred.wanted_at (g := 1) (d := 134) (f := true) rfl rfl r134).trans rfl) (by go_simp) ⟨Pred.ext_refl _ _, rfl⟩
                · intro b9 X9 hE hd hn hV
                  have r134 : b9.tmps[134]?.getD undef = .bool true := hV 1 _ 134 rfl rfl (Pred.waits_near (by kernel_rfl) (by kernel_rfl))
                  have r161 : b9.tmps[161]?.getD undef = .bool true := hV 28 _ 161 rfl rfl (Pred.waits_near (by kernel_rfl) (by kernel_rfl))
                  exact Pred.yields_run (v := .bool true) (Pred.wanted_none rfl) (by go_simp) ⟨Pred.ext_refl _ _, rfl⟩
                · intro b9 X9 hE hd hn hV
                  have r162 : b9.tmps[162]?.getD undef = .bool true := hV 29 _ 162 rfl rfl (Pred.waits_near (by kernel_rfl) (by kernel_rfl))
                  exact Pred.yields_run (v := .bool true) (Pred.wanted_none rfl) (by go_simp) ⟨Pred.ext_refl _ _, rfl⟩
                · intro b9 X9 hE hd hn hV
                  have r163 : b9.tmps[163]?.getD undef = .bool true := hV 30 _ 163 rfl rfl (Pred.waits_near (by kernel_rfl) (by kernel_rfl))
                  refine Pred.yields_call (f := 5) (args := #[]) ((Pred.wanted_at (g := 30) (d := 163) (f := true) rfl rfl r163).trans rfl) (by go_simp) ?_
                  exact (awake_any _).mono fun e w2 ⟨he, hw⟩ => ⟨_, he, Pred.ext_below hw hE.size, rfl⟩
                · intro b9 X9 hE hd hn hV
                  have r163 : b9.tmps[163]?.getD undef = .bool true := hV 30 _ 163 rfl rfl (Pred.waits_near (by kernel_rfl) (by kernel_rfl))
                  have r164 : b9.tmps[164]?.getD undef = .bool true := hV 31 _ 164 rfl rfl (Pred.waits_near (by kernel_rfl) (by kernel_rfl))
                  exact Pred.yields_run (v := .bool true) (Pred.wanted_none rfl) (by go_simp) ⟨Pred.ext_refl _ _, rfl⟩
                · intro b9 X9 hE hd hn hV
                  have r165 : b9.tmps[165]?.getD undef = .bool true := hV 32 _ 165 rfl rfl (Pred.waits_near (by kernel_rfl) (by kernel_rfl))
                  exact Pred.yields_run (v := .bool true) (Pred.wanted_none rfl) (by go_simp) ⟨Pred.ext_refl _ _, rfl⟩
              intro v X9 hE hv
              have e0 : v 0 = .bool true := hv 0 _ 133 rfl rfl
              have e1 : v 1 = .bool true := hv 1 _ 134 rfl rfl
              have e2 : v 2 = .int .i64 (m : Int) := hv 2 _ 135 rfl rfl
              have e3 : v 3 = .bool false := hv 3 _ 136 rfl rfl
              have e4 : v 4 = .bool false := hv 4 _ 137 rfl rfl
              have e5 : v 5 = .int .i64 (p : Int) := hv 5 _ 138 rfl rfl
              have e6 : v 6 = .int .i64 (m : Int) := hv 6 _ 139 rfl rfl
              have e7 : v 7 = .int .i64 (pm : Int) := hv 7 _ 140 rfl rfl
              have e8 : v 8 = .slice (some ⟨pb, po, none⟩) L rc := hv 8 _ 141 rfl rfl
              have e9 : v 9 = .int .i64 (L : Int) := hv 9 _ 142 rfl rfl
              have e10 : v 10 = .bool false := hv 10 _ 143 rfl rfl
              have e11 : v 11 = .bool false := hv 11 _ 144 rfl rfl
              have e12 : v 12 = .bool false := hv 12 _ 145 rfl rfl
              have e13 : v 13 = .slice (some ⟨pb, po, none⟩) L rc := hv 13 _ 146 rfl rfl
              have e14 : v 14 = .int .i64 (p : Int) := hv 14 _ 147 rfl rfl
              have e15 : v 15 = .int .i64 (m : Int) := hv 15 _ 148 rfl rfl
              have e16 : v 16 = .int .i64 (pm : Int) := hv 16 _ 149 rfl rfl
              have e17 : v 17 = .pointer (some ⟨pb, po + pm, none⟩) := hv 17 _ 150 rfl rfl
              have e18 : v 18 = .int .u8 x := hv 18 _ 151 rfl rfl
              have e19 : v 19 = .slice (some ⟨pb, po, none⟩) L rc := hv 19 _ 152 rfl rfl
              have e20 : v 20 = .int .i64 (p : Int) := hv 20 _ 153 rfl rfl
              have e21 : v 21 = .int .i64 (m : Int) := hv 21 _ 154 rfl rfl
              have e22 : v 22 = .int .i64 (pm : Int) := hv 22 _ 155 rfl rfl
              have e23 : v 23 = .int .i64 (d : Int) := hv 23 _ 156 rfl rfl
              have e24 : v 24 = .int .i64 (u : Int) := hv 24 _ 157 rfl rfl
              have e25 : v 25 = .pointer (some ⟨pb, po + u, none⟩) := hv 25 _ 158 rfl rfl
              have e26 : v 26 = .int .u8 y := hv 26 _ 159 rfl rfl
              have e27 : v 27 = .bool true := hv 27 _ 160 rfl rfl
              have e28 : v 28 = .bool true := hv 28 _ 161 rfl rfl
              have e29 : v 29 = .bool true := hv 29 _ 162 rfl rfl
              have e30 : v 30 = .bool true := hv 30 _ 163 rfl rfl
              have e31 : v 31 = .bool true := hv 31 _ 164 rfl rfl
              have e32 : v 32 = .bool true := hv 32 _ 165 rfl rfl
              have e33 : v 33 = .bool true := hv 33 _ 6 rfl rfl
              simp only [Pred.putsF_cons, Pred.putsF_nil, Nat.zero_add, Nat.reduceAdd, e0, e1, e2, e3, e4, e5, e6, e7, e8, e9, e10, e11, e12, e13, e14, e15, e16, e17, e18, e19, e20, e21, e22, e23, e24, e25, e26, e27, e28, e29, e30, e31, e32, e33, Act.put, List.setIfInBounds_toArray, List.set_cons_zero, List.set_cons_succ]
              clear e0 e1 e2 e3 e4 e5 e6 e7 e8 e9 e10 e11 e12 e13 e14 e15 e16 e17 e18 e19 e20 e21 e22 e23 e24 e25 e26 e27 e28 e29 e30 e31 e32 e33 hv
              have HB5 := Lib.hid (HB4.out.trans (hE.mono HB4.out.size))
              clear hE HB4 HB HBX HCE
              go_wp2
              go_ret
              exact ⟨rfl, HB5.out⟩
end Go.Proofs.Ytfoghbbidmjopaa.MaL

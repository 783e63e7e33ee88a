/-
  ClipKeeps.
-/
import Derived.Test.YtbbkdjpdifkadaaClL
import Derived.Test.YtbbkdjpdifkadaaClH
import Derived.BigGuard
namespace Go.Proofs.Ytbbkdjpdifkadaa.ClN
open Go.RowKit FixA Num Rd Go.Proofs.Ytbbkdjpdifkadaa.Row Mid ClM ClA ClB ClC ClD ClE ClF ClG ClI ClJ ClH ClL
open Go.Proofs.Ytbbkdjpdifkadaa.Pred (Is is_stab Stab)
set_option linter.unusedVariables false
set_option linter.unusedSimpArgs false
set_option maxRecDepth 10000
attribute [local go_sem] pc6 pc4
attribute [local go_sem ↓] store_vx eq_vec4 eq_vx6
attribute [local go_sem] one_int run_load_vec run_load_vx run_store_vx rowLoad_eq rowStore_eq midLoad_eq pc_vec pc_vx blk_alloc_at blk_alloc_old blk_drew blk_drewN blk_set_far blk_set_far' blk_grow setRow_alloc_at setRow_alloc_old setRow_drew setRow_drewN
attribute [local go_sem high] run_maxT run_minT

def cntI (row : ClM.Row) (k : Nat) : Nat → Nat
  | 0 => 0
  | m + 1 => cntI row k m + if inB k (at_ row m) then 1 else 0
theorem cntI_le (row : ClM.Row) (k m : Nat) : cntI row k m ≤ m := by
  induction m with
  | zero => exact Nat.le_refl _
  | succ m ih => show cntI row k m + (if inB k (at_ row m) then 1 else 0) ≤ m + 1; split <;> omega
theorem cntI_all (row : ClM.Row) (k m : Nat) (h : cntI row k m = m) : ∀ i, i < m → inB k (at_ row i) = true := by
  induction m with
  | zero => intro i hi; omega
  | succ m ih =>
    intro i hi
    have hle := cntI_le row k m
    have e : cntI row k m + (if inB k (at_ row m) then 1 else 0) = m + 1 := h
    by_cases hm : inB k (at_ row m) = true
    · rw [if_pos hm] at e
      by_cases him : i = m
      · subst him; exact hm
      · exact ih (by omega) i (by omega)
    · rw [if_neg hm] at e; omega
theorem cntI_none (row : ClM.Row) (k m : Nat) (h : cntI row k m = 0) : ∀ i, i < m → inB k (at_ row i) = false := by
  induction m with
  | zero => intro i hi; omega
  | succ m ih =>
    intro i hi
    have e : cntI row k m + (if inB k (at_ row m) then 1 else 0) = 0 := h
    by_cases hm : inB k (at_ row m) = true
    · rw [if_pos hm] at e; omega
    · by_cases him : i = m
      · subst him; simpa using hm
      · exact ih (by omega) i (by omega)
def inK (row : ClM.Row) : Nat → Bool
  | 0 => true
  | k + 1 => inK row k && decide (cntI row k 3 = 3)
def firstK (row : ClM.Row) : Nat → Bool
  | 0 => true
  | k + 1 => firstK row k && (decide (0 < k) || decide (0 < cntI row k 3))
theorem inK_all {row : ClM.Row} (hl : row.length = 3) : ∀ n, inK row n = true → ∀ k, k < n → row.all (inB k) = true := by
  intro n
  induction n with
  | zero => intro _ k hk; omega
  | succ n ih =>
    intro h k hk
    have h2 : (inK row n && decide (cntI row n 3 = 3)) = true := h
    rw [Bool.and_eq_true] at h2
    by_cases e : k = n
    · subst e
      exact all_in fun i hi => cntI_all row k 3 (of_decide_eq_true h2.2) i (by omega)
    · exact ih h2.1 k (by omega)
theorem firstK_none {row : ClM.Row} : ∀ n, firstK row n = false → cntI row 0 3 = 0 := by
  intro n
  induction n with
  | zero => intro h; cases h
  | succ n ih =>
    intro h
    have h2 : (firstK row n && (decide (0 < n) || decide (0 < cntI row n 3))) = false := h
    cases hf : firstK row n with
    | false => exact ih hf
    | true =>
      rw [hf, Bool.true_and, Bool.or_eq_false_iff] at h2
      have a := of_decide_eq_false h2.1
      have b := of_decide_eq_false h2.2
      obtain rfl : n = 0 := by omega
      omega
theorem polyV_keeps {row : ClM.Row} (hl : row.length = 3) (h : inK row 7 = true) : polyV row = row := polyV_in (by omega) (inK_all hl 7 h)
theorem polyV_gone {row : ClM.Row} (hl : row.length = 3) (h : firstK row 7 = false) : polyV row = [] :=
  polyV_out fun i hi => cntI_none row 0 3 (firstK_none 7 h) i (by omega)
set_option maxHeartbeats 4000000 in
theorem keeps_gen (row : ClM.Row) (hl : row.length = 3) (h6 : ∀ v ∈ row, v.length = 6) (w : World) :
    Calls Try.prog 4 #[.agg (fl row).toArray] w fun e w' => e = .returned (.bool true) ∧ Below w.heap.size w w' := by
  obtain ⟨C, hC⟩ : ∃ C, (fl row).toArray = C := ⟨_, rfl⟩
  rw [hC]
  have HC := Lib.hid hC
  have HL := Lib.hid hl
  have H6 := Lib.hid h6
  clear hC hl h6
  go_enter Try.func4, Try.ntmps4
  go_upto_region 1 with (fail)
  refine Rd.name_world ?_
  intro w0 hw
  have b0 : blk w0 w.heap.size = some (.cells C 34 (0, 0)) := by rw [hw]; exact blk_alloc_at _ _ _ rfl
  have R0 := Lib.hid (rowAt_blk b0 HC.out.symm H6.out)
  have L0 : Below w.heap.size w w0 := by
    rw [hw]
    repeat' (first | (with_reducible exact Below.refl _ _) | (with_reducible refine Rd.below_step ?_ (by assumption)) | (with_reducible refine Rd.below_alloc ?_ _) | (with_reducible refine Rd.below_drewN ?_ _) | (with_reducible refine Below.drew ?_) | (with_reducible refine Below.setCell ?_ ?_ _) | (with_reducible refine Rd.below_setRow ?_ ?_ _) | go_size | (simp only [World.size_alloc]; omega) | omega)
  have l0 := blk_lt b0
  clear hw b0
  have HF := Lib.hid (far_any row _ 3 w0 R0.out (by rw [HL.out]; omega))
  rw [HL.out] at HF
  go_wp2_with fail
  refine HF.out.mono ?_
  rintro e w1 ⟨⟨b, rfl, hfar⟩, hb⟩
  have L1 : Below w.heap.size w w1 := by repeat' (first | (with_reducible exact Below.refl _ _) | (with_reducible refine Rd.below_step ?_ (by assumption)) | (with_reducible refine Rd.below_alloc ?_ _) | (with_reducible refine Rd.below_drewN ?_ _) | (with_reducible refine Below.drew ?_) | (with_reducible refine Below.setCell ?_ ?_ _) | (with_reducible refine Rd.below_setRow ?_ ?_ _) | go_size | (simp only [World.size_alloc]; omega) | omega)
  cases b with
  | true =>
    clear HF hfar hb
    go_wp2_with fail
    refine (awake_any _).mono ?_
    rintro e w9 ⟨rfl, hb9⟩
    have L9 : Below w.heap.size w w9 := by repeat' (first | (with_reducible exact Below.refl _ _) | (with_reducible refine Rd.below_step ?_ (by assumption)) | (with_reducible refine Rd.below_alloc ?_ _) | (with_reducible refine Rd.below_drewN ?_ _) | (with_reducible refine Below.drew ?_) | (with_reducible refine Below.setCell ?_ ?_ _) | (with_reducible refine Rd.below_setRow ?_ ?_ _) | go_size | (simp only [World.size_alloc]; omega) | omega)
    go_wp2
    go_ret
    exact ⟨rfl, L9⟩
  | false =>
    have HV : Hid (VxR row) := Lib.hid (hfar rfl)
    have H1 : Hid (RowAt w1 (some ⟨w.heap.size, 0, none⟩) row) := Lib.hid (RowAt.below (B := 0) R0.out hb)
    have l1 : w.heap.size < w1.heap.size := Nat.lt_of_lt_of_le l0 hb.size
    clear HF hfar hb R0 L0 l0
    go_wp2_with fail
    go_loopw [3, 4, 5] (fun v3 v4 i W => ∃ (k : Nat) (B3 B4 : Bool), k ≤ 7 ∧ i = .int .i64 k ∧ v3 = .bool B3 ∧ v4 = .bool B4 ∧ Hid (B3 = inK row k ∧ B4 = firstK row k) ∧ Below w1.heap.size w1 W) (fun _ _ i _ => 7 - (intOf i).toNat)
    case atStart => exact ⟨0, true, true, by omega, rfl, rfl, rfl, Lib.hid ⟨rfl, rfl⟩, by repeat' (first | (with_reducible exact Below.refl _ _) | (with_reducible refine Rd.below_step ?_ (by assumption)) | (with_reducible refine Rd.below_alloc ?_ _) | (with_reducible refine Rd.below_drewN ?_ _) | (with_reducible refine Below.drew ?_) | (with_reducible refine Below.setCell ?_ ?_ _) | (with_reducible refine Rd.below_setRow ?_ ?_ _) | go_size | (simp only [World.size_alloc]; omega) | omega)⟩
    case round =>
      rename World => W
      obtain ⟨k, B3, B4, hk, rfl, rfl, rfl, HB, hbW⟩ := hrel
      have LW : Below w.heap.size w W := L1.trans (hbW.mono L1.size)
      by_cases hk7 : k < 7
      · have hk7' : (k : Int) < 7 := by omega
        go_wp2_with fail
        go_loopw [6, 7] (fun c i X => ∃ (j : Nat) (m : Nat), j ≤ 3 ∧ i = .int .i64 j ∧ c = .int .i64 m ∧ m ≤ j ∧ Hid (m = cntI row k j) ∧ Below w1.heap.size w1 X) (fun _ i _ => 3 - (intOf i).toNat)
        case atStart => exact ⟨0, 0, by omega, rfl, rfl, by omega, Lib.hid rfl, hbW⟩
        case round =>
          rename World => X
          obtain ⟨j, m, hj, rfl, rfl, hmj, HM, hbX⟩ := hrel
          by_cases hj3 : j < 3
          · have hj3' : (j : Int) < 3 := by omega
            have HX := RowAt.below (B := 0) H1.out hbX
            have cc := row_cell HX (j := j) (by rw [HL.out]; exact hj3)
            have va := at_vx HV.out (i := j) (by rw [HL.out]; exact hj3)
            obtain ⟨x0, x1, x2, x3, x4, x5, eA⟩ := len6 va.len
            have EA := Lib.hid eA
            rw [eA] at va cc
            simp only [Nat.zero_add] at cc
            have VA := Lib.hid va
            obtain ⟨d, ed⟩ : ∃ d, insV [x0, x1, x2, x3, x4, x5] k = d := ⟨_, rfl⟩
            have CR : Hid (∀ W : World, Calls Try.prog 10 #[.agg #[.int .i64 x0, .int .i64 x1, .int .i64 x2, .int .i64 x3], .int .i64 k] W fun e w' => e = .returned (.int .i64 d) ∧ Below W.heap.size W w') := Lib.hid fun W => by have h := rinside_v VA.out k W; rw [ed] at h; exact h
            have ED := Lib.hid ed
            have hcs : cntI row k (j + 1) = cntI row k j + if inB k (at_ row j) then 1 else 0 := rfl
            have HCS := Lib.hid hcs
            have k0 : X.cell? ⟨w.heap.size, j * 6, none⟩ = some (.int .i64 x0) := cc 0 (by omega)
            have k1 : X.cell? ⟨w.heap.size, j * 6 + 1, none⟩ = some (.int .i64 x1) := cc 1 (by omega)
            have k2 : X.cell? ⟨w.heap.size, j * 6 + 2, none⟩ = some (.int .i64 x2) := cc 2 (by omega)
            have k3 : X.cell? ⟨w.heap.size, j * 6 + 3, none⟩ = some (.int .i64 x3) := cc 3 (by omega)
            clear HX cc va eA ed hcs
            go_wp2_with fail
            refine (CR.out _).mono ?_
            rintro e w5 ⟨rfl, hb5⟩
            have L5 : Below w1.heap.size w1 w5 := hbX.trans (hb5.mono hbX.size)
            clear hb5 CR k0 k1 k2 k3
            by_cases hd : 0 ≤ d
            · have hin : inB k (at_ row j) = true := by
                rw [EA.out]
                exact decide_eq_true (by rw [ED.out]; exact hd)
              have HIN := Lib.hid hin
              clear hin
              go_wp2
              go_roundw
              case rel =>
                exact ⟨j + 1, m + 1, by omega, by go_num, by go_num, by omega, Lib.hid (by rw [HCS.out, HIN.out, ← HM.out]; rfl), L5⟩
              case measure => simp [intOf]; omega
            · have hin : inB k (at_ row j) = false := by
                rw [EA.out]
                exact decide_eq_false (by rw [ED.out]; exact hd)
              have HIN := Lib.hid hin
              clear hin
              go_wp2
              go_roundw
              case rel =>
                exact ⟨j + 1, m, by omega, by go_num, rfl, by omega, Lib.hid (by rw [HCS.out, HIN.out, ← HM.out]; rfl), L5⟩
              case measure => simp [intOf]; omega
          · obtain rfl : j = 3 := by omega
            have hi : inK row (k + 1) = (B3 && decide (m = 3)) := by
              rw [HB.out.1, HM.out]; rfl
            have hf : firstK row (k + 1) = (B4 && (decide (0 < k) || decide (0 < m))) := by
              rw [HB.out.2, HM.out]; rfl
            have HI := Lib.hid hi
            have HF := Lib.hid hf
            clear hi hf HB HM
            have key : ∀ (b3 b4 : Bool), b3 = (B3 && decide (m = 3)) → b4 = (B4 && (decide (0 < k) || decide (0 < m))) → Hid (b3 = inK row (k + 1) ∧ b4 = firstK row (k + 1)) := fun b3 b4 e3 e4 => Lib.hid ⟨e3.trans HI.out.symm, e4.trans HF.out.symm⟩
            have KEY := Lib.hid key
            clear key HI HF
            cases B3 with
            | false =>
              cases B4 with
              | false =>
                go_wp2
                exact ⟨⟨k + 1, false, false, by omega, by go_num, rfl, rfl, KEY.out _ _ (by simp) (by simp), hbX⟩, by simp [intOf]; omega⟩
              | true =>
                by_cases hk0 : 0 < k
                · have e0 : decide ((0 : Int) < (k : Int)) = true := decide_eq_true (by omega)
                  go_wp2
                  exact ⟨⟨k + 1, false, true, by omega, by go_num, rfl, rfl, KEY.out _ _ (by simp) (by simp [hk0]), hbX⟩, by simp [intOf]; omega⟩
                · have e0 : decide ((0 : Int) < (k : Int)) = false := decide_eq_false (by omega)
                  by_cases hm0 : 0 < m
                  · have e1 : decide ((0 : Int) < (m : Int)) = true := decide_eq_true (by omega)
                    go_wp2
                    exact ⟨⟨k + 1, false, true, by omega, by go_num, rfl, rfl, KEY.out _ _ (by simp) (by simp [hm0]), hbX⟩, by simp [intOf]; omega⟩
                  · have e1 : decide ((0 : Int) < (m : Int)) = false := decide_eq_false (by omega)
                    go_wp2
                    exact ⟨⟨k + 1, false, false, by omega, by go_num, rfl, rfl, KEY.out _ _ (by simp) (by simp [hk0, hm0]), hbX⟩, by simp [intOf]; omega⟩
            | true =>
              by_cases hm3 : m = 3
              · subst hm3
                cases B4 with
                | false =>
                  go_wp2
                  exact ⟨⟨k + 1, true, false, by omega, by go_num, rfl, rfl, KEY.out _ _ (by simp) (by simp), hbX⟩, by simp [intOf]; omega⟩
                | true =>
                  by_cases hk0 : 0 < k
                  · have e0 : decide ((0 : Int) < (k : Int)) = true := decide_eq_true (by omega)
                    go_wp2
                    exact ⟨⟨k + 1, true, true, by omega, by go_num, rfl, rfl, KEY.out _ _ (by simp) (by simp [hk0]), hbX⟩, by simp [intOf]; omega⟩
                  · have e0 : decide ((0 : Int) < (k : Int)) = false := decide_eq_false (by omega)
                    go_wp2
                    exact ⟨⟨k + 1, true, true, by omega, by go_num, rfl, rfl, KEY.out _ _ (by simp) (by simp), hbX⟩, by simp [intOf]; omega⟩
              · have hm3' : ((m : Int) == 3) = false := beq_eq_false_iff_ne.2 (by omega)
                cases B4 with
                | false =>
                  go_wp2
                  exact ⟨⟨k + 1, false, false, by omega, by go_num, rfl, rfl, KEY.out _ _ (by simp [hm3]) (by simp), hbX⟩, by simp [intOf]; omega⟩
                | true =>
                  by_cases hk0 : 0 < k
                  · have e0 : decide ((0 : Int) < (k : Int)) = true := decide_eq_true (by omega)
                    go_wp2
                    exact ⟨⟨k + 1, false, true, by omega, by go_num, rfl, rfl, KEY.out _ _ (by simp [hm3]) (by simp [hk0]), hbX⟩, by simp [intOf]; omega⟩
                  · have e0 : decide ((0 : Int) < (k : Int)) = false := decide_eq_false (by omega)
                    by_cases hm0 : 0 < m
                    · have e1 : decide ((0 : Int) < (m : Int)) = true := decide_eq_true (by omega)
                      go_wp2
                      exact ⟨⟨k + 1, false, true, by omega, by go_num, rfl, rfl, KEY.out _ _ (by simp [hm3]) (by simp [hm0]), hbX⟩, by simp [intOf]; omega⟩
                    · have e1 : decide ((0 : Int) < (m : Int)) = false := decide_eq_false (by omega)
                      go_wp2
                      exact ⟨⟨k + 1, false, false, by omega, by go_num, rfl, rfl, KEY.out _ _ (by simp [hm3]) (by simp [hk0, hm0]), hbX⟩, by simp [intOf]; omega⟩
      · obtain rfl : k = 7 := by omega
        have HW : RowAt W (some ⟨w.heap.size, 0, none⟩) row := RowAt.below (B := 0) H1.out hbW
        have CP := Lib.hid (polygon_any row _ 3 W HW HV.out (by rw [HL.out]; omega))
        rw [HL.out] at CP
        have HWh := Lib.hid HW
        clear HW
        cases B3 with
        | true =>
          have hp : polyV row = row := polyV_keeps HL.out HB.out.1.symm
          rw [hp] at CP
          clear hp
          go_wp2_with fail
          refine CP.out.mono ?_
          rintro e w3 ⟨⟨ad3, c3, he, hr3⟩, hb3⟩
          subst he
          have H3 := Lib.hid hr3
          have HR3 := Lib.hid (RowAt.below (B := 0) HWh.out hb3)
          have L3 : Below w.heap.size w w3 := by repeat' (first | (with_reducible exact Below.refl _ _) | (with_reducible refine Rd.below_step ?_ (by assumption)) | (with_reducible refine Rd.below_alloc ?_ _) | (with_reducible refine Rd.below_drewN ?_ _) | (with_reducible refine Below.drew ?_) | (with_reducible refine Below.setCell ?_ ?_ _) | (with_reducible refine Rd.below_setRow ?_ ?_ _) | go_size | (simp only [World.size_alloc]; omega) | omega)
          have CS := Lib.hid (same_any row row ad3 _ c3 3 _ H3.out HR3.out (by rw [HL.out]; omega) (by rw [HL.out]; omega))
          rw [HL.out] at CS ⊢
          clear hr3 hb3 CP
          go_wp2_with fail
          refine CS.out.mono ?_
          rintro e w5 ⟨he, hb5⟩
          simp only [decide_true] at he
          subst he
          have L5 : Below w.heap.size w w5 := by repeat' (first | (with_reducible exact Below.refl _ _) | (with_reducible refine Rd.below_step ?_ (by assumption)) | (with_reducible refine Rd.below_alloc ?_ _) | (with_reducible refine Rd.below_drewN ?_ _) | (with_reducible refine Below.drew ?_) | (with_reducible refine Below.setCell ?_ ?_ _) | (with_reducible refine Rd.below_setRow ?_ ?_ _) | go_size | (simp only [World.size_alloc]; omega) | omega)
          clear hb5
          go_wp2_with fail
          refine (awake_any _).mono ?_
          rintro e w9 ⟨rfl, hb9⟩
          have L9 : Below w.heap.size w w9 := by repeat' (first | (with_reducible exact Below.refl _ _) | (with_reducible refine Rd.below_step ?_ (by assumption)) | (with_reducible refine Rd.below_alloc ?_ _) | (with_reducible refine Rd.below_drewN ?_ _) | (with_reducible refine Below.drew ?_) | (with_reducible refine Below.setCell ?_ ?_ _) | (with_reducible refine Rd.below_setRow ?_ ?_ _) | go_size | (simp only [World.size_alloc]; omega) | omega)
          go_wp2
          go_ret
          exact ⟨rfl, L9⟩
        | false =>
          have h42 := polyV_len3 HL.out
          have hpl := polyV_len row
          have hgn : B4 = false → (polyV row).length = 0 := fun e => by rw [polyV_gone HL.out (HB.out.2.symm.trans e)]; rfl
          obtain ⟨R, eR⟩ : ∃ R, polyV row = R := ⟨_, rfl⟩
          rw [eR] at CP h42 hpl hgn
          obtain ⟨N, eN⟩ : ∃ N, R.length = N := ⟨_, rfl⟩
          rw [eN] at CP h42 hpl hgn
          have g1 : decide ((N : Int) ≤ 42) = true := decide_eq_true (by omega)
          have g2 : ((N : Int) != 1) = true := bne_iff_ne.2 (by omega)
          have g3 : ((N : Int) != 2) = true := bne_iff_ne.2 (by omega)
          clear eR eN h42 hpl
          cases B4 with
          | true =>
            clear hgn
            go_wp2_with fail
            refine CP.out.mono ?_
            rintro e w3 ⟨⟨ad3, c3, rfl, hr3⟩, hb3⟩
            have L3 : Below w.heap.size w w3 := by repeat' (first | (with_reducible exact Below.refl _ _) | (with_reducible refine Rd.below_step ?_ (by assumption)) | (with_reducible refine Rd.below_alloc ?_ _) | (with_reducible refine Rd.below_drewN ?_ _) | (with_reducible refine Below.drew ?_) | (with_reducible refine Below.setCell ?_ ?_ _) | (with_reducible refine Rd.below_setRow ?_ ?_ _) | go_size | (simp only [World.size_alloc]; omega) | omega)
            clear hr3 hb3 CP
            go_wp2_with fail
            refine (awake_any _).mono ?_
            rintro e w9 ⟨rfl, hb9⟩
            have L9 : Below w.heap.size w w9 := by repeat' (first | (with_reducible exact Below.refl _ _) | (with_reducible refine Rd.below_step ?_ (by assumption)) | (with_reducible refine Rd.below_alloc ?_ _) | (with_reducible refine Rd.below_drewN ?_ _) | (with_reducible refine Below.drew ?_) | (with_reducible refine Below.setCell ?_ ?_ _) | (with_reducible refine Rd.below_setRow ?_ ?_ _) | go_size | (simp only [World.size_alloc]; omega) | omega)
            go_wp2
            go_ret
            exact ⟨rfl, L9⟩
          | false =>
            obtain rfl : N = 0 := hgn rfl
            clear hgn g2 g3 g1
            go_wp2_with fail
            refine CP.out.mono ?_
            rintro e w3 ⟨⟨ad3, c3, rfl, hr3⟩, hb3⟩
            have L3 : Below w.heap.size w w3 := by repeat' (first | (with_reducible exact Below.refl _ _) | (with_reducible refine Rd.below_step ?_ (by assumption)) | (with_reducible refine Rd.below_alloc ?_ _) | (with_reducible refine Rd.below_drewN ?_ _) | (with_reducible refine Below.drew ?_) | (with_reducible refine Below.setCell ?_ ?_ _) | (with_reducible refine Rd.below_setRow ?_ ?_ _) | go_size | (simp only [World.size_alloc]; omega) | omega)
            clear hr3 hb3 CP
            go_wp2_with fail
            refine (awake_any _).mono ?_
            rintro e w9 ⟨rfl, hb9⟩
            have L9 : Below w.heap.size w w9 := by repeat' (first | (with_reducible exact Below.refl _ _) | (with_reducible refine Rd.below_step ?_ (by assumption)) | (with_reducible refine Rd.below_alloc ?_ _) | (with_reducible refine Rd.below_drewN ?_ _) | (with_reducible refine Below.drew ?_) | (with_reducible refine Below.setCell ?_ ?_ _) | (with_reducible refine Rd.below_setRow ?_ ?_ _) | go_size | (simp only [World.size_alloc]; omega) | omega)
            go_wp2
            go_ret
            exact ⟨rfl, L9⟩
end Go.Proofs.Ytbbkdjpdifkadaa.ClN

/-
  ClipTurns.
-/
import Derived.Test.YtbbkdjpdifkadaaClS
import Derived.Deep.DrawnRows
import Derived.Test.YtbbkdjpdifkadaaClH
import Derived.BigGuard
namespace Go.Proofs.Ytbbkdjpdifkadaa.ClT
open Go.RowKit FixA Num Rd Go.Proofs.Ytbbkdjpdifkadaa.Row Mid ClM ClA ClB ClC ClD ClE ClF ClG ClI ClJ ClH ClL ClS
open Go.Proofs.Ytbbkdjpdifkadaa.Pred (Is is_stab Stab)
set_option linter.unusedVariables false
set_option linter.unusedSimpArgs false
set_option maxRecDepth 10000
attribute [local go_sem] pc6 pc4
attribute [local go_sem ↓] store_vx eq_vec4 eq_vx6
attribute [local go_sem] one_int run_load_vec run_load_vx run_store_vx rowLoad_eq rowStore_eq midLoad_eq pc_vec pc_vx blk_alloc_at blk_alloc_old blk_drew blk_drewN blk_set_far blk_set_far' blk_grow setRow_alloc_at setRow_alloc_old setRow_drew setRow_drewN
attribute [local go_sem high] run_maxT run_minT

theorem q_bd (p : Int) (n : Nat) (h1 : 0 < n) (h2 : n ≤ 10) : ∃ q : Nat, q < n ∧ (wrap64 (p.tmod n + n)).tmod n = (q : Int) := by
  have h := Int.tmod_lt_of_pos p (show (0 : Int) < n by omega)
  have h3 : -(n : Int) < p.tmod n := by
    rcases Int.le_total 0 p with h | h
    · have := Int.tmod_nonneg (n : Int) h; omega
    · have e : p.tmod n = -((-p).tmod n) := by rw [Int.neg_tmod, Int.neg_neg]
      have := Int.tmod_lt_of_pos (-p) (show (0 : Int) < n by omega)
      omega
  have e : wrap64 (p.tmod n + n) = p.tmod n + n := by
    generalize p.tmod n = t at h h3
    unfold wrap64; omega
  have e2 := Int.tmod_nonneg (n : Int) (show 0 ≤ p.tmod n + n by omega)
  have e3 := Int.tmod_lt_of_pos (p.tmod n + n) (show (0 : Int) < n by omega)
  rw [e]
  exact ⟨((p.tmod n + n).tmod n).toNat, by omega, by omega⟩
theorem below_ad (w : World) (o : Obj) : Below w.heap.size w (w.alloc o).drew := ((Below.refl _ _).alloc (Nat.le_refl _) o).trans ⟨rfl, rfl, rfl, by simp, fun _ _ => rfl⟩
theorem below_ad_grown {w w2 : World} {o : Obj} (h : (w.alloc o).drew.grownBy w2 (Value.slice (some ⟨w.heap.size, 0, none⟩) 0 0).ownBlock) : Below w.heap.size w w2 :=
  (below_ad w o).grown h (by simp) (fun j hj => by
    have h9 : (some w.heap.size : Option Nat) = some j := hj
    injection h9 with h9
    omega)
set_option maxHeartbeats 4000000 in
theorem turns_gen (row : ClM.Row) (ad : Option Addr) (c : Nat) (p : Int) (w : World) (h : RowAt w ad row) (hlc : row.length ≤ c) (hl : c ≤ maxLen) :
    Calls Try.prog 6 #[.slice ad row.length c, .int .i64 p] w fun e w' => e = .returned (.bool true) ∧ Below w.heap.size w w' := by
  obtain ⟨n, hn⟩ : ∃ n, row.length = n := ⟨_, rfl⟩
  have HN := Lib.hid hn
  have H := Lib.hid h
  rw [hn]
  rw [hn] at hlc
  have hl2 : n ≤ 9223372036854775807 := by unfold maxLen at hl; omega
  by_cases hsm : n < 3
  · have d1 : decide ((n : Int) < 3) = true := decide_eq_true (by omega)
    clear hn h hl hlc
    go_enter Try.func6, Try.ntmps6
    go_wp2_with fail
    refine (awake_any _).mono ?_
    rintro e w9 ⟨rfl, hb9⟩
    have L9 : Below w.heap.size w w9 := by repeat' (first | (with_reducible exact Below.refl _ _) | (with_reducible refine Rd.below_step ?_ (by assumption)) | (with_reducible refine Rd.below_alloc ?_ _) | (with_reducible refine Rd.below_drewN ?_ _) | (with_reducible refine Below.drew ?_) | (with_reducible refine Below.setCell ?_ ?_ _) | (with_reducible refine Rd.below_setRow ?_ ?_ _) | go_size | (simp only [World.size_alloc]; omega) | omega)
    go_wp2
    go_ret
    exact ⟨rfl, L9⟩
  have d1 : decide ((n : Int) < 3) = false := decide_eq_false (by omega)
  by_cases hbig : 10 < n
  · have d2 : decide ((10 : Int) < (n : Int)) = true := decide_eq_true (by omega)
    clear hn h hsm hl hlc
    go_enter Try.func6, Try.ntmps6
    go_wp2_with fail
    refine (awake_any _).mono ?_
    rintro e w9 ⟨rfl, hb9⟩
    have L9 : Below w.heap.size w w9 := by repeat' (first | (with_reducible exact Below.refl _ _) | (with_reducible refine Rd.below_step ?_ (by assumption)) | (with_reducible refine Rd.below_alloc ?_ _) | (with_reducible refine Rd.below_drewN ?_ _) | (with_reducible refine Below.drew ?_) | (with_reducible refine Below.setCell ?_ ?_ _) | (with_reducible refine Rd.below_setRow ?_ ?_ _) | go_size | (simp only [World.size_alloc]; omega) | omega)
    go_wp2
    go_ret
    exact ⟨rfl, L9⟩
  have d2 : decide ((10 : Int) < (n : Int)) = false := decide_eq_false (by omega)
  have hn3 : 3 ≤ n := by omega
  have hn10 : n ≤ 10 := by omega
  have hF := far_any row ad c w h (by omega)
  rw [hn] at hF
  have HF := Lib.hid hF
  obtain ⟨bk, o, ea, hbk⟩ := row_cells h (j := 0) (by omega)
  subst ea
  obtain ⟨q, hq, eq⟩ := q_bd p n (by omega) hn10
  have EQ := Lib.hid eq
  have hm0 : ¬ ((n : Int) = 0) := by omega
  clear hF hn h hbig hsm eq
  go_enter Try.func6, Try.ntmps6
  go_wp2_with fail
  refine HF.out.mono ?_
  rintro e w1 ⟨⟨b, rfl, hfar⟩, hb⟩
  have L1 : Below w.heap.size w w1 := by repeat' (first | (with_reducible exact Below.refl _ _) | (with_reducible refine Rd.below_step ?_ (by assumption)) | (with_reducible refine Rd.below_alloc ?_ _) | (with_reducible refine Rd.below_drewN ?_ _) | (with_reducible refine Below.drew ?_) | (with_reducible refine Below.setCell ?_ ?_ _) | (with_reducible refine Rd.below_setRow ?_ ?_ _) | go_size | (simp only [World.size_alloc]; omega) | omega)
  cases b with
  | true =>
    clear HF hfar hb
    go_wp2_with fail
    refine (awake_any _).mono ?_
    rintro e w9 ⟨rfl, hb9⟩
    have L9 : Below w.heap.size w w9 := by repeat' (first | (with_reducible exact Below.refl _ _) | (with_reducible refine Rd.below_step ?_ (by assumption)) | (with_reducible refine Rd.below_alloc ?_ _) | (with_reducible refine Rd.below_drewN ?_ _) | (with_reducible refine Below.drew ?_) | (with_reducible refine Below.setCell ?_ ?_ _) | (with_reducible refine Rd.below_setRow ?_ ?_ _) | go_size | (simp only [World.size_alloc]; omega) | omega)
    go_wp2
    go_ret
    exact ⟨rfl, L9⟩
  | false =>
    have HV : Hid (VxR row) := Lib.hid (hfar rfl)
    have H1 : Hid (RowAt w1 (some ⟨bk, o, none⟩) row) := Lib.hid (RowAt.below (B := 0) H.out hb)
    clear HF hfar hb
    go_upto_region 4 with (fail)
    rw [EQ.out]
    generalize wrap64 (p.tmod n + n) = p2
    generalize p.tmod n = p1
    clear EQ
    have i0 : (0 : Int) ≤ (q : Int) := by omega
    have i1 : (q : Int) ≤ (n : Int) := by omega
    have i2 : (n : Int) ≤ (c : Int) := by omega
    have i3 : (q : Int) ≤ (c : Int) := by omega
    have hcq : ¬ c = q := by omega
    have RD := Lib.hid (rowAt_drop H1.out q)
    have RT := Lib.hid (rowAt_take H1.out q)
    have hdl : (row.drop q).length = n - q := by rw [List.length_drop, HN.out]
    have htl : (row.take q).length = q := by rw [List.length_take, HN.out]; omega
    have HDL := Lib.hid hdl
    have HTL := Lib.hid htl
    clear hdl htl
    go_region_held3 (fun w' => True) (first | trivial | exact trivial)
      (first
        | (refine step_row (by rfl) (.tmp 39) (.tmp 42) (by rfl) w1.heap.size _ 0 [] (by rfl) (owns_empty w1 w1.heap.size (Nat.le_refl _)).drew _ _ (n - q) (row.drop q) HDL.out (by rfl) (RowAt.below (B := 0) RD.out (below_ad w1 _)) (by omega) (below_ad w1 _).size ?_; intro v2 w2 ho2 hg2; have L2 : Below w1.heap.size w1 w2 := below_ad_grown hg2)
        | (refine step_row (by rfl) (.tmp 43) (.tmp 46) (by rfl) w1.heap.size _ (0 + (n - q)) ([] ++ row.drop q) (by rfl) ho2 _ _ q (row.take q) HTL.out (by rfl) (RowAt.below (B := 0) RT.out L2) (by omega) L2.size ?_; intro v3 w3 ho3 hg3))
    have L3 : Below w1.heap.size w1 w3 := L2.grown hg3 L2.size (fun j hj => (ho2.lt j hj).1)
    obtain ⟨O, eO⟩ : ∃ O, row.drop q ++ row.take q = O := ⟨_, rfl⟩
    have hOl : O.length = n := by rw [← eO, List.length_append, HDL.out, HTL.out]; omega
    have hO6 : ∀ v ∈ O, v ∈ row := by
      intro v hv
      rw [← eO, List.mem_append] at hv
      rcases hv with hv | hv
      · exact List.mem_of_mem_drop hv
      · exact List.mem_of_mem_take hv
    have hrot : Rot row O := by rw [← eO]; exact rot_take row q
    have hN : 0 + (n - q) + q = n := by omega
    rw [hN] at ho3
    have ho4 : w3.ownsRow w1.heap.size 28 6 v3 n (fl O) := by rw [← eO]; exact ho3
    obtain ⟨ad3, c3, e3, _⟩ := owns_val ho4
    subst e3
    have RO := Lib.hid (rowAt_owns ho4 (fun v hv => H.out.1 v (hO6 v hv))).2
    have HR3 := Lib.hid (RowAt.below (B := 0) H1.out L3)
    have HOL := Lib.hid hOl
    have VO : Hid (VxR O) := Lib.hid fun v hv => HV.out v (hO6 v hv)
    have HO6 := Lib.hid hO6
    have HROT := Lib.hid hrot
    have LX : Below w.heap.size w w3 := L1.trans (L3.mono L1.size)
    clear ho3 ho4 hN hrot hO6 hOl eO L3 hg3 ho2 hg2 L2 RD RT HDL HTL i0 i1 i2 i3 hcq
    have CP := Lib.hid (polygon_any row (some ⟨bk, o, none⟩) c w3 HR3.out HV.out (by rw [HN.out]; omega))
    have CQ := Lib.hid (fun X : World => fun hX : RowAt X ad3 O => polygon_any O ad3 c3 X hX VO.out (by rw [HOL.out]; omega))
    have hsm := polyV_small (row := row) (by rw [HN.out]; omega)
    have hPQ := polyV_rot HROT.out
    obtain ⟨P, eP⟩ : ∃ P, polyV row = P := ⟨_, rfl⟩
    obtain ⟨Q, eQ⟩ : ∃ Q, polyV O = Q := ⟨_, rfl⟩
    obtain ⟨N, eN⟩ : ∃ N, P.length = N := ⟨_, rfl⟩
    rw [HN.out] at CP
    rw [HOL.out] at CQ
    rw [eP] at CP hsm hPQ
    rw [eQ] at CQ hPQ
    have eM : Q.length = N := hPQ.len.trans eN
    rw [eN] at CP hsm
    rw [eM] at CQ
    have EP := Lib.hid eP
    have EQ2 := Lib.hid eQ
    have PN := Lib.hid eN
    have QN := Lib.hid eM
    have HPQ := Lib.hid hPQ
    clear eP eQ eN eM hPQ
    go_wp2_with fail
    refine CP.out.mono ?_
    rintro e w4 ⟨⟨ad4, c4, rfl, hr4⟩, hb4⟩
    have R4 := Lib.hid hr4
    have HR4 := Lib.hid (RowAt.below (B := 0) HR3.out hb4)
    have RO4 := Lib.hid (RowAt.below (B := 0) RO.out hb4)
    have L4 : Below w.heap.size w w4 := by repeat' (first | (with_reducible exact Below.refl _ _) | (with_reducible refine Rd.below_step ?_ (by assumption)) | (with_reducible refine Rd.below_alloc ?_ _) | (with_reducible refine Rd.below_drewN ?_ _) | (with_reducible refine Below.drew ?_) | (with_reducible refine Below.setCell ?_ ?_ _) | (with_reducible refine Rd.below_setRow ?_ ?_ _) | go_size | (simp only [World.size_alloc]; omega) | omega)
    clear hr4 hb4 CP
    go_wp2_with fail
    refine (CQ.out _ RO4.out).mono ?_
    rintro e w5 ⟨⟨ad5, c5, rfl, hr5⟩, hb5⟩
    have R5 := Lib.hid hr5
    have HR5 := Lib.hid (RowAt.below (B := 0) HR4.out hb5)
    have RO5 := Lib.hid (RowAt.below (B := 0) RO4.out hb5)
    have RP5 := Lib.hid (RowAt.below (B := 0) R4.out hb5)
    have L5 : Below w.heap.size w w5 := by repeat' (first | (with_reducible exact Below.refl _ _) | (with_reducible refine Rd.below_step ?_ (by assumption)) | (with_reducible refine Rd.below_alloc ?_ _) | (with_reducible refine Rd.below_drewN ?_ _) | (with_reducible refine Below.drew ?_) | (with_reducible refine Below.setCell ?_ ?_ _) | (with_reducible refine Rd.below_setRow ?_ ?_ _) | go_size | (simp only [World.size_alloc]; omega) | omega)
    clear hr5 hb5 CQ HR4 RO4 R4 HR3 RO LX L4
    go_wp2_with fail
    go_loopw [9, 10] (fun v i W => ∃ (k : Nat) (B : Bool), k ≤ 7 ∧ i = .int .i64 k ∧ v = .bool B ∧ Hid (B = true → ∀ t : Nat, t < k → row.all (inB t) = true) ∧ Below w5.heap.size w5 W) (fun _ i _ => 7 - (intOf i).toNat)
    case atStart => exact ⟨0, true, by omega, rfl, rfl, Lib.hid (fun _ t ht => absurd ht (by omega)), by repeat' (first | (with_reducible exact Below.refl _ _) | (with_reducible refine Rd.below_step ?_ (by assumption)) | (with_reducible refine Rd.below_alloc ?_ _) | (with_reducible refine Rd.below_drewN ?_ _) | (with_reducible refine Below.drew ?_) | (with_reducible refine Below.setCell ?_ ?_ _) | (with_reducible refine Rd.below_setRow ?_ ?_ _) | go_size | (simp only [World.size_alloc]; omega) | omega)⟩
    case round =>
      rename World => W
      obtain ⟨k, B, hk, rfl, rfl, HB, hbW⟩ := hrel
      have LW : Below w.heap.size w W := L5.trans (hbW.mono L5.size)
      by_cases hk7 : k < 7
      · have hk7' : (k : Int) < 7 := by omega
        go_wp2_with fail
        go_loopw [9, 11] (fun v i X => ∃ (j : Nat) (B : Bool), j ≤ n ∧ i = .int .i64 j ∧ v = .bool B ∧ Hid (B = true → (∀ t : Nat, t < k → row.all (inB t) = true) ∧ ∀ i, i < j → inB k (at_ row i) = true) ∧ Below w5.heap.size w5 X) (fun _ i _ => n - (intOf i).toNat)
        case atStart => exact ⟨0, B, by omega, rfl, rfl, Lib.hid (fun e => ⟨HB.out e, fun t ht => absurd ht (by omega)⟩), hbW⟩
        case round =>
          rename World => X
          clear HB
          obtain ⟨j, B, hj, rfl, rfl, HB, hbX⟩ := hrel
          by_cases hjn : j < n
          · have hjn' : (j : Int) < n := by omega
            cases B with
            | false =>
              go_wp2
              go_roundw
              case rel => exact ⟨j + 1, false, by omega, by go_num, rfl, Lib.hid (fun e => by cases e), hbX⟩
              case measure => simp [intOf]; omega
            | true =>
              have HX := RowAt.below (B := 0) HR5.out hbX
              have cc := row_cell HX (j := j) (by rw [HN.out]; exact hjn)
              have va := at_vx HV.out (i := j) (by rw [HN.out]; exact hjn)
              obtain ⟨x0, x1, x2, x3, x4, x5, eA⟩ := len6 va.len
              have EA := Lib.hid eA
              rw [eA] at va cc
              have VA := Lib.hid va
              obtain ⟨d, ed⟩ : ∃ d, insV [x0, x1, x2, x3, x4, x5] k = d := ⟨_, rfl⟩
              have CR : Hid (∀ W : World, Calls Try.prog 10 #[.agg #[.int .i64 x0, .int .i64 x1, .int .i64 x2, .int .i64 x3], .int .i64 k] W fun e w' => e = .returned (.int .i64 d) ∧ Below W.heap.size W w') := Lib.hid fun W => by have h := rinside_v VA.out k W; rw [ed] at h; exact h
              have ED := Lib.hid ed
              have k0 : X.cell? ⟨bk, o + j * 6, none⟩ = some (.int .i64 x0) := cc 0 (by omega)
              have k1 : X.cell? ⟨bk, o + j * 6 + 1, none⟩ = some (.int .i64 x1) := cc 1 (by omega)
              have k2 : X.cell? ⟨bk, o + j * 6 + 2, none⟩ = some (.int .i64 x2) := cc 2 (by omega)
              have k3 : X.cell? ⟨bk, o + j * 6 + 3, none⟩ = some (.int .i64 x3) := cc 3 (by omega)
              clear HX cc va eA ed
              go_wp2_with fail
              refine (CR.out _).mono ?_
              rintro e w6 ⟨rfl, hb6⟩
              have L6 : Below w5.heap.size w5 w6 := hbX.trans (hb6.mono hbX.size)
              clear hb6 CR k0 k1 k2 k3
              by_cases hd : 0 ≤ d
              · have hin : inB k (at_ row j) = true := by
                  rw [EA.out]
                  exact decide_eq_true (by rw [ED.out]; exact hd)
                have HIN := Lib.hid hin
                have hdd : decide (0 ≤ d) = true := decide_eq_true hd
                clear hin
                go_wp2
                go_roundw
                case rel => exact ⟨j + 1, true, by omega, by go_num, by simp [hd], Lib.hid (fun _ => ⟨(HB.out trivial).1, in_step (HB.out trivial).2 HIN.out⟩), L6⟩
                case measure => simp [intOf]; omega
              · have hdd : decide (0 ≤ d) = false := decide_eq_false hd
                go_wp2
                go_roundw
                case rel => exact ⟨j + 1, false, by omega, by go_num, by simp [hd], Lib.hid (fun e => by cases e), L6⟩
                case measure => simp [intOf]; omega
          · obtain rfl : j = n := by omega
            go_wp2
            exact ⟨⟨k + 1, B, by omega, by go_num, rfl, Lib.hid (fun e t ht => by
              by_cases htk : t = k
              · subst htk; exact all_in (fun i hi => (HB.out e).2 i (by rw [← HN.out]; exact hi))
              · exact (HB.out e).1 t (by omega)), hbX⟩, by simp [intOf]; omega⟩
      · obtain rfl : k = 7 := by omega
        cases B with
        | true =>
          have hall := HB.out rfl
          have hP : P = row := EP.out.symm.trans (polyV_in (by rw [HN.out]; omega) hall)
          have hQ : Q = O := EQ2.out.symm.trans (polyV_in (by rw [HOL.out]; omega) fun t ht => by
            have h := hall t ht
            rw [List.all_eq_true] at h ⊢
            exact fun v hv => h v (HO6.out v hv))
          subst hP
          subst hQ
          have hNn : N = n := PN.out.symm.trans HN.out
          subst hNn
          clear HB hall
          have hA := same_any P P ad4 (some ⟨bk, o, none⟩) c4 c W (RowAt.below (B := 0) RP5.out hbW) (RowAt.below (B := 0) HR5.out hbW) (by rw [PN.out]; omega) (by rw [PN.out]; omega)
          have hB := fun (X : World) (h1 : RowAt X ad5 Q) (h2 : RowAt X ad3 Q) => same_any Q Q ad5 ad3 c5 c3 X h1 h2 (by rw [QN.out]; omega) (by rw [QN.out]; omega)
          rw [PN.out] at hA
          rw [QN.out] at hB
          have CA := Lib.hid hA
          have CB := Lib.hid hB
          have RQ := Lib.hid (And.intro (RowAt.below (B := 0) R5.out hbW) (RowAt.below (B := 0) RO5.out hbW))
          clear hA hB
          go_wp2_with fail
          refine CA.out.mono ?_
          rintro e w6 ⟨he, hb6⟩
          simp only [decide_true] at he
          subst he
          have RQ6 := Lib.hid (And.intro (RowAt.below (B := 0) RQ.out.1 hb6) (RowAt.below (B := 0) RQ.out.2 hb6))
          have L6 : Below w.heap.size w w6 := by repeat' (first | (with_reducible exact Below.refl _ _) | (with_reducible refine Rd.below_step ?_ (by assumption)) | (with_reducible refine Rd.below_alloc ?_ _) | (with_reducible refine Rd.below_drewN ?_ _) | (with_reducible refine Below.drew ?_) | (with_reducible refine Below.setCell ?_ ?_ _) | (with_reducible refine Rd.below_setRow ?_ ?_ _) | go_size | (simp only [World.size_alloc]; omega) | omega)
          clear hb6 CA
          go_wp2_with fail
          refine (CB.out _ RQ6.out.1 RQ6.out.2).mono ?_
          rintro e w7 ⟨he, hb7⟩
          simp only [decide_true] at he
          subst he
          have L7 : Below w.heap.size w w7 := by repeat' (first | (with_reducible exact Below.refl _ _) | (with_reducible refine Rd.below_step ?_ (by assumption)) | (with_reducible refine Rd.below_alloc ?_ _) | (with_reducible refine Rd.below_drewN ?_ _) | (with_reducible refine Below.drew ?_) | (with_reducible refine Below.setCell ?_ ?_ _) | (with_reducible refine Rd.below_setRow ?_ ?_ _) | go_size | (simp only [World.size_alloc]; omega) | omega)
          clear hb7 CB
          go_wp2_with fail
          refine (awake_any _).mono ?_
          rintro e w9 ⟨rfl, hb9⟩
          have L9 : Below w.heap.size w w9 := by repeat' (first | (with_reducible exact Below.refl _ _) | (with_reducible refine Rd.below_step ?_ (by assumption)) | (with_reducible refine Rd.below_alloc ?_ _) | (with_reducible refine Rd.below_drewN ?_ _) | (with_reducible refine Below.drew ?_) | (with_reducible refine Below.setCell ?_ ?_ _) | (with_reducible refine Rd.below_setRow ?_ ?_ _) | go_size | (simp only [World.size_alloc]; omega) | omega)
          go_wp2
          go_ret
          exact ⟨rfl, L9⟩
        | false =>
          clear HB
          have RPW := Lib.hid (RowAt.below (B := 0) RP5.out hbW)
          have RQW := Lib.hid (RowAt.below (B := 0) R5.out hbW)
          have hsmN : N ≤ 1000000 := hsm
          go_wp2_with fail
          go_loopw [12] (fun i X => ∃ a : Nat, a ≤ N ∧ i = .int .i64 a ∧ Below W.heap.size W X) (fun i _ => N - (intOf i).toNat)
          case atStart => exact ⟨0, by omega, rfl, by repeat' (first | (with_reducible exact Below.refl _ _) | (with_reducible refine Rd.below_step ?_ (by assumption)) | (with_reducible refine Rd.below_alloc ?_ _) | (with_reducible refine Rd.below_drewN ?_ _) | (with_reducible refine Below.drew ?_) | (with_reducible refine Below.setCell ?_ ?_ _) | (with_reducible refine Rd.below_setRow ?_ ?_ _) | go_size | (simp only [World.size_alloc]; omega) | omega)⟩
          case round =>
            rename World => X
            obtain ⟨a, ha, rfl, hbX⟩ := hrel
            have LXX : Below w.heap.size w X := LW.trans (hbX.mono LW.size)
            by_cases haN : a < N
            · have haN' : (a : Int) < N := by omega
              have hv6 := RPW.out.1 (at_ P a) (by rw [at_eq (by rw [PN.out]; exact haN)]; exact List.getElem_mem _)
              obtain ⟨z0, z1, z2, z3, z4, z5, eZ⟩ := len6 hv6
              have EZ := Lib.hid eZ
              have hcnt := HPQ.out.count [z0, z1, z2, z3, z4, z5]
              have HCNT := Lib.hid hcnt
              clear hv6 eZ hcnt
              go_wp2_with fail
              go_loopw [13, 14, 15] (fun x y i X => ∃ t m1 m2 : Nat, t ≤ N ∧ i = .int .i64 t ∧ x = .int .i64 m1 ∧ y = .int .i64 m2 ∧ m1 ≤ t ∧ m2 ≤ t ∧ Hid (m1 = ClH.cnt P [z0, z1, z2, z3, z4, z5] t ∧ m2 = ClH.cnt Q [z0, z1, z2, z3, z4, z5] t) ∧ Below W.heap.size W X) (fun _ _ i _ => N - (intOf i).toNat)
              case atStart => exact ⟨0, 0, 0, by omega, rfl, rfl, rfl, by omega, by omega, Lib.hid ⟨(cnt_zero _ _).symm, (cnt_zero _ _).symm⟩, hbX⟩
              case round =>
                rename World => Y
                obtain ⟨t, m1, m2, ht, rfl, rfl, rfl, hm1, hm2, HM, hbY⟩ := hrel
                by_cases htN : t < N
                · have htN' : (t : Int) < N := by omega
                  have RPY := RowAt.below (B := 0) RPW.out hbY
                  have RQY := RowAt.below (B := 0) RQW.out hbY
                  obtain ⟨b4, o4, e4, hb4⟩ := row_cells RPY (j := t) (by rw [PN.out]; exact htN)
                  obtain ⟨b5, o5, e5, hb5⟩ := row_cells RQY (j := t) (by rw [QN.out]; exact htN)
                  subst e4
                  subst e5
                  have cp := row_cell RPY (j := t) (by rw [PN.out]; exact htN)
                  have cq := row_cell RQY (j := t) (by rw [QN.out]; exact htN)
                  have cz := row_cell RPY (j := a) (by rw [PN.out]; exact haN)
                  obtain ⟨x0, x1, x2, x3, x4, x5, eX⟩ := len6 (RPY.1 (at_ P t) (by rw [at_eq (by rw [PN.out]; exact htN)]; exact List.getElem_mem _))
                  obtain ⟨y0, y1, y2, y3, y4, y5, eY⟩ := len6 (RQY.1 (at_ Q t) (by rw [at_eq (by rw [QN.out]; exact htN)]; exact List.getElem_mem _))
                  rw [eX] at cp
                  rw [eY] at cq
                  rw [EZ.out] at cz
                  have h1 := cnt_succ (row := P) (v := [z0, z1, z2, z3, z4, z5]) (m := t) (by rw [PN.out]; exact htN)
                  have h2 := cnt_succ (row := Q) (v := [z0, z1, z2, z3, z4, z5]) (m := t) (by rw [QN.out]; exact htN)
                  rw [eX] at h1
                  rw [eY] at h2
                  have H1c := Lib.hid h1
                  have H2c := Lib.hid h2
                  have kp0 : Y.cell? ⟨b4, o4 + t * 6, none⟩ = some (.int .i64 x0) := cp 0 (by omega)
                  have kp1 : Y.cell? ⟨b4, o4 + t * 6 + 1, none⟩ = some (.int .i64 x1) := cp 1 (by omega)
                  have kp2 : Y.cell? ⟨b4, o4 + t * 6 + 2, none⟩ = some (.int .i64 x2) := cp 2 (by omega)
                  have kp3 : Y.cell? ⟨b4, o4 + t * 6 + 3, none⟩ = some (.int .i64 x3) := cp 3 (by omega)
                  have kp4 : Y.cell? ⟨b4, o4 + t * 6 + 4, none⟩ = some (.int .i64 x4) := cp 4 (by omega)
                  have kp5 : Y.cell? ⟨b4, o4 + t * 6 + 5, none⟩ = some (.int .i64 x5) := cp 5 (by omega)
                  have kq0 : Y.cell? ⟨b5, o5 + t * 6, none⟩ = some (.int .i64 y0) := cq 0 (by omega)
                  have kq1 : Y.cell? ⟨b5, o5 + t * 6 + 1, none⟩ = some (.int .i64 y1) := cq 1 (by omega)
                  have kq2 : Y.cell? ⟨b5, o5 + t * 6 + 2, none⟩ = some (.int .i64 y2) := cq 2 (by omega)
                  have kq3 : Y.cell? ⟨b5, o5 + t * 6 + 3, none⟩ = some (.int .i64 y3) := cq 3 (by omega)
                  have kq4 : Y.cell? ⟨b5, o5 + t * 6 + 4, none⟩ = some (.int .i64 y4) := cq 4 (by omega)
                  have kq5 : Y.cell? ⟨b5, o5 + t * 6 + 5, none⟩ = some (.int .i64 y5) := cq 5 (by omega)
                  have kz0 : Y.cell? ⟨b4, o4 + a * 6, none⟩ = some (.int .i64 z0) := cz 0 (by omega)
                  have kz1 : Y.cell? ⟨b4, o4 + a * 6 + 1, none⟩ = some (.int .i64 z1) := cz 1 (by omega)
                  have kz2 : Y.cell? ⟨b4, o4 + a * 6 + 2, none⟩ = some (.int .i64 z2) := cz 2 (by omega)
                  have kz3 : Y.cell? ⟨b4, o4 + a * 6 + 3, none⟩ = some (.int .i64 z3) := cz 3 (by omega)
                  have kz4 : Y.cell? ⟨b4, o4 + a * 6 + 4, none⟩ = some (.int .i64 z4) := cz 4 (by omega)
                  have kz5 : Y.cell? ⟨b4, o4 + a * 6 + 5, none⟩ = some (.int .i64 z5) := cz 5 (by omega)
                  clear RPY RQY cp cq cz eX eY h1 h2 hb4 hb5
                  by_cases e1 : [x0, x1, x2, x3, x4, x5] = [z0, z1, z2, z3, z4, z5]
                  · have f1 : eqL [x0, x1, x2, x3, x4, x5] [z0, z1, z2, z3, z4, z5] = true := decide_eq_true e1
                    have E1 := Lib.hid e1
                    clear e1
                    by_cases e2 : [y0, y1, y2, y3, y4, y5] = [z0, z1, z2, z3, z4, z5]
                    · have f2 : eqL [y0, y1, y2, y3, y4, y5] [z0, z1, z2, z3, z4, z5] = true := decide_eq_true e2
                      have E2 := Lib.hid e2
                      clear e2
                      go_wp2
                      go_quiet (fail)
                      go_wp2
                      go_quiet (fail)
                      go_wp2
                      go_roundw
                      case rel => exact ⟨t + 1, m1 + 1, m2 + 1, by omega, by go_num, by go_num, by go_num, by omega, by omega, Lib.hid ⟨by rw [H1c.out, if_pos E1.out, HM.out.1], by rw [H2c.out, if_pos E2.out, HM.out.2]⟩, Rd.below_drewN hbY _⟩
                      case measure => simp [intOf]; omega
                    · have f2 : eqL [y0, y1, y2, y3, y4, y5] [z0, z1, z2, z3, z4, z5] = false := decide_eq_false e2
                      have E2 := Lib.hid e2
                      clear e2
                      go_wp2
                      go_quiet (fail)
                      go_wp2
                      go_quiet (fail)
                      go_wp2
                      go_roundw
                      case rel => exact ⟨t + 1, m1 + 1, m2, by omega, by go_num, by go_num, by go_num, by omega, by omega, Lib.hid ⟨by rw [H1c.out, if_pos E1.out, HM.out.1], by rw [H2c.out, if_neg E2.out, HM.out.2]; rfl⟩, Rd.below_drewN hbY _⟩
                      case measure => simp [intOf]; omega
                  · have f1 : eqL [x0, x1, x2, x3, x4, x5] [z0, z1, z2, z3, z4, z5] = false := decide_eq_false e1
                    have E1 := Lib.hid e1
                    clear e1
                    by_cases e2 : [y0, y1, y2, y3, y4, y5] = [z0, z1, z2, z3, z4, z5]
                    · have f2 : eqL [y0, y1, y2, y3, y4, y5] [z0, z1, z2, z3, z4, z5] = true := decide_eq_true e2
                      have E2 := Lib.hid e2
                      clear e2
                      go_wp2
                      go_quiet (fail)
                      go_wp2
                      go_quiet (fail)
                      go_wp2
                      go_roundw
                      case rel => exact ⟨t + 1, m1, m2 + 1, by omega, by go_num, by go_num, by go_num, by omega, by omega, Lib.hid ⟨by rw [H1c.out, if_neg E1.out, HM.out.1]; rfl, by rw [H2c.out, if_pos E2.out, HM.out.2]⟩, Rd.below_drewN hbY _⟩
                      case measure => simp [intOf]; omega
                    · have f2 : eqL [y0, y1, y2, y3, y4, y5] [z0, z1, z2, z3, z4, z5] = false := decide_eq_false e2
                      have E2 := Lib.hid e2
                      clear e2
                      go_wp2
                      go_quiet (fail)
                      go_wp2
                      go_quiet (fail)
                      go_wp2
                      go_roundw
                      case rel => exact ⟨t + 1, m1, m2, by omega, by go_num, by go_num, by go_num, by omega, by omega, Lib.hid ⟨by rw [H1c.out, if_neg E1.out, HM.out.1]; rfl, by rw [H2c.out, if_neg E2.out, HM.out.2]; rfl⟩, Rd.below_drewN hbY _⟩
                      case measure => simp [intOf]; omega
                · obtain rfl : t = N := by omega
                  have hmm : m2 = m1 := by
                    have h1 := HM.out.1
                    have h2 := HM.out.2
                    have c1 := cnt_all P [z0, z1, z2, z3, z4, z5]
                    have c2 := cnt_all Q [z0, z1, z2, z3, z4, z5]
                    rw [PN.out] at c1
                    rw [QN.out] at c2
                    rw [h1, h2, c1, c2, HCNT.out]
                  subst hmm
                  clear HM
                  go_wp2
                  exact ⟨⟨a + 1, by omega, by go_num, hbY⟩, by simp [intOf]; omega⟩
            · obtain rfl : a = N := by omega
              go_wp2_with fail
              refine (awake_any _).mono ?_
              rintro e w9 ⟨rfl, hb9⟩
              have L9 : Below w.heap.size w w9 := by repeat' (first | (with_reducible exact Below.refl _ _) | (with_reducible refine Rd.below_step ?_ (by assumption)) | (with_reducible refine Rd.below_alloc ?_ _) | (with_reducible refine Rd.below_drewN ?_ _) | (with_reducible refine Below.drew ?_) | (with_reducible refine Below.setCell ?_ ?_ _) | (with_reducible refine Rd.below_setRow ?_ ?_ _) | go_size | (simp only [World.size_alloc]; omega) | omega)
              go_wp2
              go_ret
              exact ⟨rfl, L9⟩
end Go.Proofs.Ytbbkdjpdifkadaa.ClT

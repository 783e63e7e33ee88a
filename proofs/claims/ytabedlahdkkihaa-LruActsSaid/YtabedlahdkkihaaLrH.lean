/-
  Who is pinned is never the oldest (LruPins).
-/
import Derived.Test.YtabedlahdkkihaaLrG
import Derived.Deep.CutRange
namespace Go.Proofs.Ytabedlahdkkihaa.LrH
open Go.RowKit Rd Go.Proofs.Ytabedlahdkkihaa.Row Mid LrM LrA LrB LrC LrD LrE LrF LrG
set_option linter.unusedVariables false
set_option linter.unusedSimpArgs false
set_option maxRecDepth 10000
structure PSt (w X : World) (b g gp n : Nat) (o : List Nat) (pin : Nat → Bool) (ps : List Bool) : Prop where
  st : St X b g n o pin
  gp : blk X gp = some (.cells (bb ps) 4 (0, 0))
  below : Below w.heap.size w X
  len : ps.length = n
  at_ : ∀ x, x < n → ps.getD x false = pin x
theorem PSt.bel {w X Y : World} {b g gp n : Nat} {o : List Nat} {pin : Nat → Bool} {ps : List Bool} (h : PSt w X b g gp n o pin ps) (hb : Below X.heap.size X Y) : PSt w Y b g gp n o pin ps :=
  ⟨h.st.bel hb, (blk_below hb _ (blk_lt h.gp)).trans h.gp, h.below.trans (hb.mono h.below.size), h.len, h.at_⟩
theorem cell_blk {X Y : World} {b k : Nat} (h : Y.heap[b]? = X.heap[b]?) : Y.cell? ⟨b, k, none⟩ = X.cell? ⟨b, k, none⟩ := by
  unfold World.cell?
  simp only [h]
theorem reads_turn {X Y : World} {s len g : Nat} {a : Option Addr} {cs : List Value} (h : Reads X s a len cs) (hg : X.grownBy Y (some g)) (hn : ∀ p, a = some p → g < p.block) : Reads Y s a len cs := by
  refine ⟨h.1, h.2.imp id fun ⟨b, off, e, hb, hc⟩ => ⟨b, off, e, Nat.lt_of_lt_of_le hb hg.size, fun i hi => ?_⟩⟩
  rw [← hc i hi]
  have := hn _ e
  exact cell_blk (hg.block b hb fun e2 => by injection e2 with e2; simp at this; omega)
def fst_ (l : List Nat) (pin : Nat → Bool) : Int := match oldO l pin with
  | some x => (x : Int)
  | none => -1
theorem fst_nil (pin : Nat → Bool) : fst_ [] pin = -1 := rfl
theorem fst_yes {l : List Nat} {pin : Nat → Bool} {x : Nat} (h : pin x = true) : fst_ (x :: l) pin = fst_ l pin := by
  unfold fst_ oldO
  rw [List.find?_cons_of_neg (by simp [h])]
theorem fst_no {l : List Nat} {pin : Nat → Bool} {x : Nat} (h : pin x = false) : fst_ (x :: l) pin = (x : Int) := by
  unfold fst_ oldO
  rw [List.find?_cons_of_pos (by simp [h])]
attribute [local go_sem ↓] run_make_int run_make_bool
attribute [local go_sem high] run_maxT
set_option maxHeartbeats 8000000 in
theorem pins_gen (m : Int) (ai : Option Addr) (len cap : Nat) (zs : List Int) (ti : Option Addr) (len2 cap2 : Nat) (ys : List Int) (w : World) (hm1 : -9223372036854775808 ≤ m) (hm2 : m ≤ 9223372036854775807)
    (hz : ∀ z ∈ zs, Ints.In64 z) (hzl : zs.length = len) (hR : Reads w 1 ai len (Ints.i64s zs)) (hy : ∀ z ∈ ys, Ints.In64 z) (hyl : ys.length = len2) (hR2 : Reads w 1 ti len2 (Ints.i64s ys)) :
    Calls Try.prog 5 #[.int .i64 m, .slice ai len cap, .slice ti len2 cap2] w fun e w' => e = .returned (.bool true) ∧ Below w.heap.size w w' := by
  have HR := Lib.hid hR
  have HZ := Lib.hid hz
  have HZL := Lib.hid hzl
  have HRY := Lib.hid hR2
  have HY := Lib.hid hy
  have HYL := Lib.hid hyl
  clear hR hz hzl hR2 hy hyl
  by_cases h0 : m < 1
  · have d0 : decide (m < 1) = true := decide_eq_true h0
    go_enter Try.func5, Try.ntmps5
    go_wp2_with fail
    refine (awake_any _).mono ?_
    rintro e w2 ⟨rfl, hb2⟩
    go_wp2
    go_ret
    exact ⟨rfl, hb2⟩
  have d0 : decide (m < 1) = false := decide_eq_false h0
  by_cases h1 : 40 < m
  · have d1 : decide (40 < m) = true := decide_eq_true h1
    go_enter Try.func5, Try.ntmps5
    go_wp2_with fail
    refine (awake_any _).mono ?_
    rintro e w2 ⟨rfl, hb2⟩
    go_wp2
    go_ret
    exact ⟨rfl, hb2⟩
  have d1 : decide (40 < m) = false := decide_eq_false h1
  by_cases h2 : 60 < len
  · have d2 : decide (60 < len) = true := decide_eq_true h2
    go_enter Try.func5, Try.ntmps5
    go_wp2_with fail
    refine (awake_any _).mono ?_
    rintro e w2 ⟨rfl, hb2⟩
    go_wp2
    go_ret
    exact ⟨rfl, hb2⟩
  have d2 : decide (60 < len) = false := decide_eq_false h2
  by_cases h3 : 60 < len2
  · have d3 : decide (60 < len2) = true := decide_eq_true h3
    go_enter Try.func5, Try.ntmps5
    go_wp2_with fail
    refine (awake_any _).mono ?_
    rintro e w2 ⟨rfl, hb2⟩
    go_wp2
    go_ret
    exact ⟨rfl, hb2⟩
  have d3 : decide (60 < len2) = false := decide_eq_false h3
  have hl60 : len ≤ 60 := by omega
  have hl61 : len2 ≤ 60 := by omega
  obtain ⟨n, en⟩ : ∃ n : Nat, m = n := ⟨m.toNat, by omega⟩
  subst en
  have hn : 1 ≤ n ∧ n ≤ 128 := by omega
  have hn1 := hn.1
  have hn2 := hn.2
  have hn3 : n ≤ 100000 := by omega
  have HNN := Lib.hid hn
  clear hm1 hm2 h0 h1 hn
  go_enter Try.func5, Try.ntmps5
  go_wp2_with fail
  refine (new_any n HNN.out _).mono ?_
  rintro e w1 ⟨⟨b, g, rfl, hb, hg, s1⟩, L1⟩
  have lt1 := s1.lt
  have S1 := Lib.hid s1
  clear s1 d0 d1 d2 d3
  go_upto_region 7 with (fail)
  refine Rd.name_world ?_
  intro w2 hw
  have bW : blk w2 w1.heap.size = some (.cells (bb (List.replicate n false)) 4 (0, 0)) := by rw [hw]; exact blk_alloc_at _ _ _ rfl
  have hb2 : Below w1.heap.size w1 w2 := by
    rw [hw]
    repeat' (first | (with_reducible exact Below.refl _ _) | (with_reducible refine Rd.below_step ?_ (by assumption)) | (with_reducible refine Rd.below_alloc ?_ _) | (with_reducible refine Rd.below_drewN ?_ _) | (with_reducible refine Below.drew ?_) | (with_reducible refine Below.setCell ?_ ?_ _) | (with_reducible refine Rd.below_setRow ?_ ?_ _) | go_size | (simp only [World.size_alloc]; omega) | omega)
  have HS2 : Hid (PSt w w2 b g w1.heap.size n (List.range n) (fun _ => false) (List.replicate n false)) := Lib.hid ⟨S1.out.bel hb2, bW, L1.trans (hb2.mono L1.size), by simp, fun x hx => by simp [List.getD, hx]⟩
  have hL := L1.size
  obtain ⟨gp, hgp⟩ : ∃ p, w1.heap.size = p := ⟨_, rfl⟩
  rw [hgp] at HS2 lt1 hL ⊢
  clear hw hb2 bW L1 S1 hgp
  obtain ⟨M0, hM⟩ : ∃ q, max (len : Int) (len2 : Int) = q := ⟨_, rfl⟩
  have hM1 : M0 ≤ 60 := by omega
  have hM2 : (len : Int) ≤ M0 := by omega
  have hM3 : (len2 : Int) ≤ M0 := by omega
  go_wp2_with fail
  go_loopw [10] (fun i X => ∃ (k : Nat) (o : List Nat) (pin : Nat → Bool) (ps : List Bool), (k : Int) ≤ M0 ∧ i = .int .i64 k ∧ Hid (PSt w X b g gp n o pin ps)) (fun i _ => 100 - (intOf i).toNat)
  case atStart => exact ⟨0, _, _, _, by omega, rfl, HS2⟩
  case round =>
    clear HS2
    obtain ⟨k, o, pin, ps, hk, rfl, HS⟩ := hrel
    rename World => X
    by_cases hlt : (k : Int) < M0
    · have dlt : decide ((k : Int) < M0) = true := decide_eq_true hlt
      go_upto_region 10 with (fail)
      clear hM
      go_cut [71] from 57 to 71 (fun v Y => v = .bool false ∧ ∃ o' : List Nat, Hid (PSt w Y b g gp n o' pin ps))
      case first =>
        by_cases ht : k < len2
        · have dt : decide (k < len2) = true := decide_eq_true ht
          have ht' : (k : Int) < len2 := by omega
          obtain ⟨ab, ao, rfl, hab, hac⟩ := Ints.cell_of HRY.out (k := k) (by rw [HYL.out]; exact ht) (by omega)
          have hcell := (HS.out.below.cell (p := ⟨ab, ao + k, none⟩) hab).trans (hac k (by rw [HYL.out]; exact ht))
          obtain ⟨z, ez⟩ : ∃ z, ys.getD k 0 = z := ⟨_, rfl⟩
          have hzz := Ints.getD_in HY.out k
          rw [ez] at hcell hzz
          obtain ⟨kk, ek⟩ : ∃ q : Nat, z % n = q := ⟨(z % n).toNat, by have := Int.emod_nonneg z (b := (n : Int)) (by omega); omega⟩
          have hkk : kk < n := by have := Int.emod_lt_of_pos z (b := (n : Int)) (by omega); omega
          have EK := Lib.hid ek
          clear ez hac ek
          go_wp2_with fail
          refine (Alk.round_any z n _ hzz.1 hzz.2 (by omega) (by omega)).mono ?_
          rintro e _ ⟨rfl, rfl⟩
          rw [EK.out]
          clear hcell hzz EK
          go_wp2_with fail
          refine (touch_yes kk _ HS.out.st hkk).mono ?_
          rintro e x1 ⟨rfl, s1, g1⟩
          have H1 : Hid (PSt w x1 b g gp n (touchL o kk) pin ps) := Lib.hid ⟨s1, blk_turn HS.out.gp g1 (by omega), below_turn HS.out.below g1 hg, HS.out.len, HS.out.at_⟩
          clear s1 g1 HS
          go_wp2
          go_meet
          exact ⟨rfl, _, H1⟩
        · have dt : decide (k < len2) = false := decide_eq_false ht
          have ht' : ¬ (k : Int) < len2 := by omega
          go_wp2
          go_meet
          exact ⟨rfl, o, HS⟩
      case rest =>
      obtain ⟨rfl, o1, H1⟩ := hcut
      obtain ⟨x1, e1⟩ : ∃ z : World, z = wc := ⟨_, rfl⟩
      subst e1
      clear HS
      have hlo := st_len H1.out.st
      have HLO := Lib.hid hlo
      have CO : Hid (∀ (pin : Nat → Bool) (X : World), St X b g n o1 pin → Calls Try.prog 17 #[.pointer (some ⟨b, 0, none⟩), .int .i64 (-1)] X fun e w' => (∃ ad' c', e = .returned (.slice ad' n c') ∧ Reads w' 1 ad' n (Alk.i64s (o1.map fun (x : Nat) => (x : Int))) ∧ ∀ a, ad' = some a → X.heap.size ≤ a.block) ∧ Below X.heap.size X w') := Lib.hid fun pin X h => by
        have := order_new (-1) X h
        rw [cut_all, hlo, iv_i64] at this
        exact this
      clear hlo
      go_wp2_with fail
      refine (CO.out _ _ H1.out.st).mono ?_
      rintro e x2 ⟨⟨wa, wcap, rfl, hr1, hnw⟩, b1⟩
      have H2 := Lib.hid (H1.out.bel b1)
      have HW := Lib.hid hr1
      have hgx := blk_lt H1.out.gp
      have HNW : Hid (∀ a, wa = some a → gp < a.block) := Lib.hid fun a ea => by have := hnw a ea; omega
      clear b1 hr1 hnw H1 hgx
      go_upto_if 77 with (fail)
      go_cut [] from 74 to 90 (fun Y => ∃ (pin' : Nat → Bool) (ps' : List Bool), Hid (PSt w Y b g gp n o1 pin' ps') ∧ Hid (Reads Y 1 wa n (Alk.i64s (o1.map fun (x : Nat) => (x : Int)))))
      case first =>
        by_cases ht : k < len
        · have dt : decide (k < len) = true := decide_eq_true ht
          have ht' : (k : Int) < len := by omega
          obtain ⟨ab, ao, rfl, hab, hac⟩ := Ints.cell_of HR.out (k := k) (by rw [HZL.out]; exact ht) (by omega)
          have hcell := (H2.out.below.cell (p := ⟨ab, ao + k, none⟩) hab).trans (hac k (by rw [HZL.out]; exact ht))
          obtain ⟨z, ez⟩ : ∃ z, zs.getD k 0 = z := ⟨_, rfl⟩
          have hzz := Ints.getD_in HZ.out k
          rw [ez] at hcell hzz
          obtain ⟨kk, ek⟩ : ∃ q : Nat, z % n = q := ⟨(z % n).toNat, by have := Int.emod_nonneg z (b := (n : Int)) (by omega); omega⟩
          have hkk : kk < n := by have := Int.emod_lt_of_pos z (b := (n : Int)) (by omega); omega
          have EK := Lib.hid ek
          clear ez hac ek
          go_wp2_with fail
          refine (Alk.round_any z n _ hzz.1 hzz.2 (by omega) (by omega)).mono ?_
          rintro e _ ⟨rfl, rfl⟩
          rw [EK.out]
          clear hcell hzz EK
          go_wp2_with fail
          refine (pin_yes kk _ H2.out.st hkk).mono ?_
          rintro e x3 ⟨rfl, s1, g1⟩
          have bp := blk_turn H2.out.gp g1 (show gp ≠ g by omega)
          have S3 := Lib.hid s1
          have B3 := Lib.hid bp
          have L3 := Lib.hid (below_turn H2.out.below g1 hg)
          have R3 := Lib.hid (reads_turn HW.out g1 fun a ea => by have := HNW.out a ea; omega)
          have hpl := H2.out.len
          have cp : x3.cell? ⟨gp, kk, none⟩ = some (.bool (ps.getD kk false)) := by rw [blk_cell bp, bb_at (by omega)]
          have fp := blk_frozen bp kk
          have AT := Lib.hid H2.out.at_
          clear s1 g1 H2 bp HW
          go_wp2
          go_meet
          refine ⟨put pin kk true, ps.set kk true, Lib.hid ⟨?_, ?_, ?_, by rw [List.length_set]; exact hpl, fun x hx => ?_⟩, Lib.hid ?_⟩
          · exact S3.out.kept (heap_setCell_other _ _ _ _ (fun e => by have := e; simp at this; omega)) (heap_setCell_other _ _ _ _ (fun e => by have := e; simp at this; omega))
          · have := blk_set x3 gp kk (.bool true) _ _ B3.out
            rw [bb_set] at this
            exact this
          · exact Below.setCell L3.out (by show w.heap.size ≤ gp; omega) _
          · by_cases e : x = kk
            · subst e
              rw [put_same, List.getD_eq_getElem?_getD, List.getElem?_set_self (by omega)]; rfl
            · rw [put_ne _ _ e, List.getD_eq_getElem?_getD, List.getElem?_set_ne (Ne.symm e), ← List.getD_eq_getElem?_getD]
              exact AT.out x hx
          · exact reads_turn R3.out (set_grown _ _ _ _) HNW.out
        · have dt : decide (k < len) = false := decide_eq_false ht
          have ht' : ¬ (k : Int) < len := by omega
          go_wp2
          go_meet
          exact ⟨pin, ps, H2, HW⟩
      case rest =>
      obtain ⟨pin1, ps1, H3, HW3⟩ := hcut
      obtain ⟨x3, e3⟩ : ∃ z : World, z = wc := ⟨_, rfl⟩
      subst e3
      clear H2 HW
      go_wp2_with fail
      refine (CO.out _ _ H3.out.st).mono ?_
      rintro e x4 ⟨⟨oa0, ocap, rfl, hr2, -⟩, b1⟩
      have H4 := Lib.hid (H3.out.bel b1)
      have HW4 := Lib.hid (HW3.out.below b1 (Nat.le_refl _))
      have HO4 := Lib.hid hr2
      obtain ⟨oa, oo, eoa, hoa, hoc⟩ : ∃ b off, oa0 = some ⟨b, off, none⟩ ∧ b < x4.heap.size ∧ ∀ i, i < (Alk.i64s (o1.map fun (x : Nat) => (x : Int))).length → x4.cell? ⟨b, off + i, none⟩ = (Alk.i64s (o1.map fun (x : Nat) => (x : Int)))[i]? := by
        rcases hr2.2 with h | h
        · omega
        · exact h
      subst eoa
      have HOC : Hid (∀ i, i < n → x4.cell? ⟨oa, oo + i, none⟩ = some (.int .i64 ((o1.getD i 0 : Nat) : Int))) := Lib.hid fun i hi => by
        rw [hoc i (by simp [Alk.i64s, HLO.out]; exact hi)]
        simp [Alk.i64s, List.getD, HLO.out, hi]
      have HP := Lib.hid H4.out.st.perm
      clear b1 hr2 H3 HW3 hoc hoa
      go_wp2_with fail
      go_loop [14, 15] (fun f q => ∃ (j : Nat) (qi : Int), j ≤ n ∧ Hid (qi = (j : Int) - 1) ∧ q = .int .i64 qi ∧ f = .int .i64 (fst_ (o1.drop j) pin1)) (fun _ q => ((intOf q) + 1).toNat)
      case atStart => exact ⟨n, _, Nat.le_refl _, Lib.hid rfl, rfl, by rw [List.drop_of_length_le (by rw [HLO.out]; exact Nat.le_refl _), fst_nil]⟩
      case round =>
        obtain ⟨j, qi, hj, HQ, rfl, rfl⟩ := hrel
        obtain ⟨f, ef⟩ : ∃ f, fst_ (o1.drop j) pin1 = f := ⟨_, rfl⟩
        rw [ef]
        by_cases hj0 : j = 0
        · have hq := HQ.out
          obtain rfl : qi = -1 := by omega
          rw [hj0, List.drop_zero] at ef
          clear hq HQ hj0
          have hold := oldest_st _ H4.out.st
          unfold fst_ at ef
          cases ev : oldO o1 pin1 with
          | none =>
            rw [ev] at hold ef
            have hold2 := Lib.hid hold
            subst ef
            clear hold ev
            go_wp2_with fail
            refine hold2.out.mono ?_
            rintro e x5 ⟨rfl, b1⟩
            have H5 := Lib.hid (H4.out.bel b1)
            have RW := Lib.hid (HW4.out.below b1 (Nat.le_refl _))
            have RO := Lib.hid (HO4.out.below b1 (Nat.le_refl _))
            clear b1 hold2
            go_wp2_with fail
            refine (Alk.ints_any (some ⟨oa, oo, none⟩) wa n ocap n wcap _ _ _ RO.out RW.out (by omega) (by omega)).mono ?_
            rintro e x6 ⟨rfl, b1⟩
            have H6 := Lib.hid (H5.out.bel b1)
            rw [decide_eq_true rfl]
            clear b1 RW RO H5
            go_wp2
            exact ⟨⟨k + 1, _, _, _, by omega, by go_num, H6⟩, by simp [intOf]; omega⟩
          | some x =>
            rw [ev] at hold ef
            have hold2 := Lib.hid hold
            have ef' : (x : Int) = f := ef
            subst ef'
            clear hold ev ef
            go_wp2_with fail
            refine hold2.out.mono ?_
            rintro e x5 ⟨rfl, b1⟩
            have H5 := Lib.hid (H4.out.bel b1)
            have RW := Lib.hid (HW4.out.below b1 (Nat.le_refl _))
            have RO := Lib.hid (HO4.out.below b1 (Nat.le_refl _))
            clear b1 hold2
            go_wp2_with fail
            refine (Alk.ints_any (some ⟨oa, oo, none⟩) wa n ocap n wcap _ _ _ RO.out RW.out (by omega) (by omega)).mono ?_
            rintro e x6 ⟨rfl, b1⟩
            have H6 := Lib.hid (H5.out.bel b1)
            rw [decide_eq_true rfl]
            clear b1 RW RO H5
            go_wp2
            exact ⟨⟨k + 1, _, _, _, by omega, by go_num, H6⟩, by simp [intOf]; omega⟩
        · obtain ⟨i, hi⟩ : ∃ i, j = i + 1 := ⟨j - 1, by omega⟩
          have hq := HQ.out
          obtain rfl : qi = (i : Int) := by omega
          have hin : i < n := by omega
          have hin' : (i : Int) < n := by omega
          have hio : i < o1.length := by rw [HLO.out]; exact hin
          have cx := HOC.out i hin
          obtain ⟨x, ex⟩ : ∃ x, o1.getD i 0 = x := ⟨_, rfl⟩
          have ex2 : o1[i] = x := by rw [← ex]; simp [List.getD, hio]
          have hxn : x < n := ex2 ▸ HP.out.2.1 _ (List.getElem_mem _)
          rw [ex] at cx
          have HD : Hid (o1.drop i = x :: o1.drop j) := Lib.hid (by rw [List.drop_eq_getElem_cons hio, ex2, hi])
          have cp : x4.cell? ⟨gp, x, none⟩ = some (.bool (pin1 x)) := by
            rw [blk_cell H4.out.gp, bb_at (by rw [H4.out.len]; exact hxn), H4.out.at_ x hxn]
          have q1 : decide ((n : Int) ≤ (x : Int)) = false := decide_eq_false (by omega)
          have q2 : decide ((x : Int) < 0) = false := decide_eq_false (by omega)
          have q3 : decide (n ≤ x) = false := decide_eq_false (by omega)
          have EF := Lib.hid ef
          obtain ⟨px, epx⟩ : ∃ p, pin1 x = p := ⟨_, rfl⟩
          rw [epx] at cp
          have EPX := Lib.hid epx
          clear ef hq HQ hj0 hi hio ex ex2 epx hj
          cases px
          · go_wp2
            exact ⟨⟨i, _, by omega, Lib.hid rfl, rfl, by rw [HD.out, fst_no EPX.out]⟩, by simp [intOf] <;> omega⟩
          · go_wp2
            exact ⟨⟨i, _, by omega, Lib.hid rfl, rfl, by rw [HD.out, fst_yes EPX.out, EF.out]⟩, by simp [intOf] <;> omega⟩
    · have dlt : decide ((k : Int) < M0) = false := decide_eq_false hlt
      have LY := HS.out.below
      go_wp2_with fail
      refine (awake_any _).mono ?_
      rintro e x5 ⟨rfl, b1⟩
      have L5 : Below w.heap.size w x5 := LY.trans (b1.mono LY.size)
      clear b1
      go_wp2
      go_ret
      exact ⟨rfl, L5⟩
end Go.Proofs.Ytabedlahdkkihaa.LrH

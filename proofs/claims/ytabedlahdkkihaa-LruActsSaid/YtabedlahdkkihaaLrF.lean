/-
  Used twice is as used once (LruTwice).
-/
import Derived.Test.YtabedlahdkkihaaLrE
import Derived.Test.YtabedlahdkkihaaInts
import Derived.IntWalk
namespace Go.Proofs.Ytabedlahdkkihaa.LrF
open Go.RowKit Rd Go.Proofs.Ytabedlahdkkihaa.Row LrM LrA LrB LrC LrD LrE
set_option linter.unusedVariables false
set_option linter.unusedSimpArgs false
set_option maxRecDepth 10000
def T (o : List Nat) (l : List Nat) : List Nat := l.foldl touchL o
theorem touch_twice (o : List Nat) (k : Nat) : touchL (touchL o k) k = touchL o k := by
  unfold touchL
  rw [List.filter_append, List.filter_filter]
  simp
theorem touch_swap (o : List Nat) (k a : Nat) : touchL (touchL (touchL o k) a) k = touchL (touchL o a) k := by
  by_cases e : a = k
  · subst e
    rw [touch_twice]
  · unfold touchL
    simp only [List.filter_append, List.filter_filter, List.append_assoc]
    simp [e, Ne.symm e, and_comm, and_left_comm]
    congr 1
    · funext x
      by_cases h1 : x = a <;> by_cases h2 : x = k <;> simp [h1, h2]
theorem T_mem {k : Nat} : ∀ (l o : List Nat), k ∈ l → T (touchL o k) l = T o l
  | [], _, h => by cases h
  | a :: l, o, h => by
    show T (touchL (touchL o k) a) l = T (touchL o a) l
    by_cases e : a = k
    · subst e
      rw [touch_twice]
    · have hk : k ∈ l := (List.mem_cons.1 h).resolve_left (Ne.symm e)
      rw [← T_mem l (touchL (touchL o k) a) hk, touch_swap, T_mem l (touchL o a) hk]
variable {b g n : Nat} {pin : Nat → Bool}
theorem St.turn {X Y : World} {o : List Nat} {g2 : Nat} (h : St X b g n o pin) (hg : X.grownBy Y (some g2)) (h1 : b ≠ g2) (h2 : g ≠ g2) : St Y b g n o pin :=
  h.kept (hg.block b h.lt.1 fun e => h1 (by injection e)) (hg.block g h.lt.2 fun e => h2 (by injection e))
theorem iv_i64 (r : List Nat) : iv r = Alk.i64s (r.map fun (x : Nat) => (x : Int)) := by simp [iv, Alk.i64s]
/-- what is used, number by number -/
def ksL (n : Nat) (zs : List Int) : List Nat := zs.map fun z => (z % (n : Int)).toNat
theorem ks_len (n : Nat) (zs : List Int) : (ksL n zs).length = zs.length := by simp [ksL]
theorem ks_at {n : Nat} {zs : List Int} {i kk : Nat} (hi : i < zs.length) (h : zs.getD i 0 % (n : Int) = (kk : Int)) : (ksL n zs).drop i = kk :: (ksL n zs).drop (i + 1) := by
  rw [List.drop_eq_getElem_cons (by rw [ks_len]; exact hi)]
  congr 1
  unfold ksL
  rw [List.getElem_map]
  have : zs[i] = zs.getD i 0 := by simp [List.getD, hi]
  rw [this, h]
  rfl
set_option maxHeartbeats 8000000 in
theorem twice_gen (m : Int) (ai : Option Addr) (len cap : Nat) (zs : List Int) (w : World) (hm1 : -9223372036854775808 ≤ m) (hm2 : m ≤ 9223372036854775807)
    (hz : ∀ z ∈ zs, Ints.In64 z) (hzl : zs.length = len) (hR : Reads w 1 ai len (Ints.i64s zs)) :
    Calls Try.prog 6 #[.int .i64 m, .slice ai len cap] w fun e w' => e = .returned (.bool true) ∧ Below w.heap.size w w' := by
  have HR := Lib.hid hR
  have HZ := Lib.hid hz
  have HZL := Lib.hid hzl
  clear hR hz hzl
  by_cases h0 : m < 1
  · have d0 : decide (m < 1) = true := decide_eq_true h0
    go_enter Try.func6, Try.ntmps6
    go_wp2_with fail
    refine (awake_any _).mono ?_
    rintro e w2 ⟨rfl, hb2⟩
    go_wp2
    go_ret
    exact ⟨rfl, hb2⟩
  have d0 : decide (m < 1) = false := decide_eq_false h0
  by_cases h1 : 40 < m
  · have d1 : decide (40 < m) = true := decide_eq_true h1
    go_enter Try.func6, Try.ntmps6
    go_wp2_with fail
    refine (awake_any _).mono ?_
    rintro e w2 ⟨rfl, hb2⟩
    go_wp2
    go_ret
    exact ⟨rfl, hb2⟩
  have d1 : decide (40 < m) = false := decide_eq_false h1
  by_cases h2 : 60 < len
  · have d2 : decide (60 < len) = true := decide_eq_true h2
    go_enter Try.func6, Try.ntmps6
    go_wp2_with fail
    refine (awake_any _).mono ?_
    rintro e w2 ⟨rfl, hb2⟩
    go_wp2
    go_ret
    exact ⟨rfl, hb2⟩
  have d2 : decide (60 < len) = false := decide_eq_false h2
  have hl60 : len ≤ 60 := by omega
  obtain ⟨n, en⟩ : ∃ n : Nat, m = n := ⟨m.toNat, by omega⟩
  subst en
  have hn : 1 ≤ n ∧ n ≤ 128 := by omega
  have hn1 := hn.1
  have hn2 := hn.2
  have HNN := Lib.hid hn
  clear hm1 hm2 h0 h1 hn
  go_enter Try.func6, Try.ntmps6
  go_wp2_with fail
  refine (new_any n HNN.out _).mono ?_
  rintro e w1 ⟨⟨b, g, rfl, hb, hg, s1⟩, L1⟩
  have lt1 := s1.lt
  have S1 := Lib.hid s1
  clear s1
  go_wp2_with fail
  refine (new_any n HNN.out _).mono ?_
  rintro e w2 ⟨⟨b', g', rfl, hb', hg', s2⟩, B2⟩
  have HS2 : Hid (St w2 b g n (List.range n) (fun _ => false) ∧ St w2 b' g' n (List.range n) (fun _ => false) ∧ Below w.heap.size w w2) := Lib.hid ⟨S1.out.bel B2, s2, L1.trans (B2.mono L1.size)⟩
  have hL := L1.size
  clear s2 B2 S1 L1 d0 d1 d2
  obtain ⟨ks, eks⟩ : ∃ ks, ksL n zs = ks := ⟨_, rfl⟩
  have EKS := Lib.hid eks
  clear eks
  go_wp2_with fail
  go_loopw [9] (fun i X => ∃ (k : Nat) (o1 o2 : List Nat), k ≤ len ∧ i = .int .i64 k ∧ Hid (St X b g n o1 (fun _ => false) ∧ St X b' g' n o2 (fun _ => false) ∧ Below w.heap.size w X) ∧ Hid (T o1 (ks.drop k) = T o2 (ks.drop k))) (fun i _ => len - (intOf i).toNat)
  case atStart => exact ⟨0, _, _, by omega, rfl, HS2, Lib.hid rfl⟩
  case round =>
    clear HS2
    obtain ⟨k, o1, o2, hk, rfl, HS, HT⟩ := hrel
    rename World => X
    by_cases hlt : k < len
    · have hlt' : (k : Int) < len := by omega
      obtain ⟨ab, ao, rfl, hab, hac⟩ := Ints.cell_of HR.out (k := k) (by rw [HZL.out]; exact hlt) (by omega)
      have HAC : Hid (∀ i, i < len → X.cell? ⟨ab, ao + i, none⟩ = some (.int .i64 (zs.getD i 0))) := Lib.hid fun i hi => (HS.out.2.2.cell (p := ⟨ab, ao + i, none⟩) hab).trans (hac i (by rw [HZL.out]; exact hi))
      have hcell := HAC.out k hlt
      obtain ⟨z, ez⟩ : ∃ z, zs.getD k 0 = z := ⟨_, rfl⟩
      have hzz := Ints.getD_in HZ.out k
      rw [ez] at hcell hzz
      obtain ⟨kk, ek⟩ : ∃ q : Nat, z % n = q := ⟨(z % n).toNat, by have := Int.emod_nonneg z (b := (n : Int)) (by omega); omega⟩
      have hkk : kk < n := by have := Int.emod_lt_of_pos z (b := (n : Int)) (by omega); omega
      have HKS : Hid (ks.drop k = kk :: ks.drop (k + 1)) := Lib.hid (by rw [← EKS.out]; exact ks_at (by rw [HZL.out]; exact hlt) (by rw [ez]; exact ek))
      have EK := Lib.hid ek
      clear ez hac ek
      go_wp2_with fail
      refine (Alk.round_any z n _ hzz.1 hzz.2 (by omega) (by omega)).mono ?_
      rintro e _ ⟨rfl, rfl⟩
      rw [EK.out]
      clear hcell hzz EK
      go_wp2_with fail
      go_loop [11, 12] (fun q j => ∃ (r : Nat) (qb : Bool), k + 1 + r ≤ len ∧ j = .int .i64 ((k + 1 + r : Nat) : Int) ∧ q = .bool qb ∧ Hid (qb = decide (kk ∉ (ks.drop (k + 1)).take r))) (fun _ j => len - (intOf j).toNat)
      case atStart => exact ⟨0, true, by omega, by go_num, rfl, Lib.hid (by simp)⟩
      case round =>
        obtain ⟨r, qb, hr, rfl, rfl, HQ⟩ := hrel
        obtain ⟨j, ej⟩ : ∃ j, k + 1 + r = j := ⟨_, rfl⟩
        have EJ := Lib.hid ej
        rw [ej] at hr ⊢
        clear ej
        by_cases hjl : j < len
        · have hjl' : (j : Int) < len := by omega
          have hcj := HAC.out j hjl
          obtain ⟨y, ey⟩ : ∃ y, zs.getD j 0 = y := ⟨_, rfl⟩
          have hyy := Ints.getD_in HZ.out j
          rw [ey] at hcj hyy
          obtain ⟨kj, ekj⟩ : ∃ q : Nat, y % n = q := ⟨(y % n).toNat, by have := Int.emod_nonneg y (b := (n : Int)) (by omega); omega⟩
          have HTK : Hid ((ks.drop (k + 1)).take (r + 1) = (ks.drop (k + 1)).take r ++ [kj]) := Lib.hid (by
            have h1 : ks.drop j = kj :: ks.drop (j + 1) := by rw [← EKS.out]; exact ks_at (by rw [HZL.out]; exact hjl) (by rw [ey]; exact ekj)
            have h2 : (ks.drop (k + 1))[r]? = some kj := by
              rw [List.getElem?_drop, EJ.out]
              have := congrArg (fun l => l[0]?) h1
              simpa using this
            rw [List.take_add_one, h2]; rfl)
          obtain ⟨x, ex⟩ : ∃ x : Int, y % n = x := ⟨_, rfl⟩
          have hx : x = kj := by omega
          have EX := Lib.hid ex
          have HX := Lib.hid hx
          clear ey ekj ex hx
          cases qb
          · go_wp2
            go_round
            case rel => exact ⟨r + 1, false, by have := EJ.out; omega, by rw [← EJ.out]; go_num, rfl, Lib.hid (by
              rw [HTK.out]
              have h1 := Classical.not_not.1 (of_decide_eq_false HQ.out.symm)
              exact (decide_eq_false (Classical.not_not.2 (List.mem_append_left _ h1))).symm)⟩
            case measure => simp [intOf]; omega
          · by_cases hxe : x = kk
            · have c1 : (x == (kk : Int)) = true := by simpa using hxe
              have c2 : (x != (kk : Int)) = false := by simpa using hxe
              have HE := Lib.hid hxe
              clear hxe
              go_wp2_with fail
              refine (Alk.round_any y n _ hyy.1 hyy.2 (by omega) (by omega)).mono ?_
              rintro e _ ⟨rfl, rfl⟩
              rw [EX.out]
              go_wp2
              go_round
              case rel => exact ⟨r + 1, false, by have := EJ.out; omega, by rw [← EJ.out]; go_num, rfl, Lib.hid (by
                rw [HTK.out]
                refine (decide_eq_false (Classical.not_not.2 (List.mem_append_right _ ?_))).symm
                have := HX.out
                have := HE.out
                rw [show kj = kk by omega]
                simp)⟩
              case measure => simp [intOf]; omega
            · have c1 : (x == (kk : Int)) = false := by simpa using hxe
              have c2 : (x != (kk : Int)) = true := by simpa using hxe
              have HE := Lib.hid hxe
              clear hxe
              go_wp2_with fail
              refine (Alk.round_any y n _ hyy.1 hyy.2 (by omega) (by omega)).mono ?_
              rintro e _ ⟨rfl, rfl⟩
              rw [EX.out]
              go_wp2
              go_round
              case rel => exact ⟨r + 1, true, by have := EJ.out; omega, by rw [← EJ.out]; go_num, rfl, Lib.hid (by
                rw [HTK.out]
                have h1 := of_decide_eq_true HQ.out.symm
                refine (decide_eq_true (p := ¬ _) fun h2 => ?_).symm
                rcases List.mem_append.1 h2 with h3 | h3
                · exact h1 h3
                · have := List.mem_singleton.1 h3
                  have h4 := HX.out
                  exact HE.out (by omega))⟩
              case measure => simp [intOf]; omega
        · obtain rfl : j = len := by omega
          have HQ2 : Hid (qb = decide (kk ∉ ks.drop (k + 1))) := Lib.hid (by
            rw [HQ.out, List.take_of_length_le]
            rw [List.length_drop, ← EKS.out, ks_len, HZL.out]
            have := EJ.out
            omega)
          clear HQ EJ
          obtain ⟨HX1, HY1, HB1⟩ := HS.out
          have h1 := Lib.hid HX1
          have h2 := Lib.hid HY1
          have h3 := Lib.hid HB1
          clear HX1 HY1 HB1
          go_wp2_with fail
          refine (touch_yes kk _ h1.out hkk).mono ?_
          rintro e x1 ⟨rfl, s1, g1⟩
          have k1 := Lib.hid s1
          have k2 := Lib.hid (St.turn h2.out g1 (by omega) (by omega))
          have k3 := Lib.hid (below_turn h3.out g1 hg)
          clear s1 g1 h1 h2 h3 HS HAC
          go_wp2_with fail
          refine (touch_yes kk _ k1.out hkk).mono ?_
          rintro e x2 ⟨rfl, s1, g1⟩
          rw [touch_twice] at s1
          have h1 := Lib.hid s1
          have h2 := Lib.hid (St.turn k2.out g1 (by omega) (by omega))
          have h3 := Lib.hid (below_turn k3.out g1 hg)
          clear s1 g1 k1 k2 k3
          cases qb
          · go_wp2
            refine ⟨⟨k + 1, _, o2, by omega, by go_num, Lib.hid ⟨h1.out, h2.out, h3.out⟩, Lib.hid ?_⟩, by simp [intOf]; omega⟩
            have hm : kk ∈ ks.drop (k + 1) := by
              have := of_decide_eq_false HQ2.out.symm
              exact Classical.not_not.1 this
            have e1 := HT.out
            rw [HKS.out] at e1
            have e2 : T (touchL o1 kk) (ks.drop (k + 1)) = T (touchL o2 kk) (ks.drop (k + 1)) := e1
            rw [e2, T_mem _ _ hm]
          · go_wp2_with fail
            refine (touch_yes kk _ h2.out hkk).mono ?_
            rintro e x3 ⟨rfl, s1, g1⟩
            have k1 := Lib.hid (St.turn h1.out g1 (by omega) (by omega))
            have k2 := Lib.hid s1
            have k3 := Lib.hid (below_turn h3.out g1 (by omega))
            clear s1 g1 h1 h2 h3
            go_wp2
            refine ⟨⟨k + 1, _, _, by omega, by go_num, Lib.hid ⟨k1.out, k2.out, k3.out⟩, Lib.hid ?_⟩, by simp [intOf]; omega⟩
            have e1 := HT.out
            rw [HKS.out] at e1
            exact e1
    · obtain rfl : k = len := by omega
      have heq : o1 = o2 := by
        have := HT.out
        rw [List.drop_of_length_le (by rw [← EKS.out, ks_len, HZL.out]; exact Nat.le_refl _)] at this
        exact this
      subst heq
      obtain ⟨h1, h2, h3⟩ := HS.out
      have hl1 := st_len h1
      have H1 := Lib.hid h1
      have H2 := Lib.hid h2
      have H3 := Lib.hid h3
      have CO : Hid (∀ (b g : Nat) (X : World), St X b g n o1 (fun _ => false) → Calls Try.prog 17 #[.pointer (some ⟨b, 0, none⟩), .int .i64 (-1)] X fun e w' => (∃ ad' c', e = .returned (.slice ad' n c') ∧ Reads w' 1 ad' n (Alk.i64s (o1.map fun (x : Nat) => (x : Int)))) ∧ Below X.heap.size X w') := Lib.hid fun b g X h => by
        have := order_st (-1) X h
        rw [cut_all, hl1, iv_i64] at this
        exact this
      clear h1 h2 h3 hl1 HS HT
      go_wp2_with fail
      refine (CO.out b g _ H1.out).mono ?_
      rintro e x1 ⟨⟨ad, c, rfl, hr1⟩, b1⟩
      have R1 := Lib.hid hr1
      have K1 := Lib.hid (H1.out.bel b1)
      have K2 := Lib.hid (H2.out.bel b1)
      have K3 := Lib.hid (H3.out.trans (b1.mono H3.out.size))
      clear hr1 b1 H1 H2 H3
      go_wp2_with fail
      refine (CO.out b' g' _ K2.out).mono ?_
      rintro e x2 ⟨⟨ad', c', rfl, hr2⟩, b1⟩
      have R2 := Lib.hid hr2
      have R1' := Lib.hid (R1.out.below b1 (Nat.le_refl _))
      have H1 := Lib.hid (K1.out.bel b1)
      have H3 := Lib.hid (K3.out.trans (b1.mono K3.out.size))
      clear hr2 b1 K1 K2 K3 R1
      go_wp2_with fail
      refine (Alk.ints_any ad ad' n c n c' _ _ _ R1'.out R2.out (by omega) (by omega)).mono ?_
      rintro e x3 ⟨rfl, b1⟩
      have K1 := Lib.hid (H1.out.bel b1)
      have K3 := Lib.hid (H3.out.trans (b1.mono H3.out.size))
      rw [decide_eq_true rfl]
      clear b1 H1 H3 R1' R2
      go_wp2_with fail
      refine (CO.out b g _ K1.out).mono ?_
      rintro e x4 ⟨⟨ad2, c2, rfl, -⟩, b1⟩
      have H3 := Lib.hid (K3.out.trans (b1.mono K3.out.size))
      clear b1 K1 K3
      go_wp2_with fail
      refine (awake_any _).mono ?_
      rintro e x5 ⟨rfl, b1⟩
      have K3 := Lib.hid (H3.out.trans (b1.mono H3.out.size))
      clear b1
      go_wp2
      go_ret
      exact ⟨rfl, K3.out⟩
end Go.Proofs.Ytabedlahdkkihaa.LrF

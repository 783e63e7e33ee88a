/-
  The document's own extent.
-/
import Derived.Test.YtmhjhfjbfoklpaaExE
import Derived.Test.YtmhjhfjbfoklpaaReg
namespace Go.Proofs.Ytmhjhfjbfoklpaa.ExH
open Go.RowKit Rd Go.Proofs.Ytmhjhfjbfoklpaa.Row ExM ExA ExB ExC ExD ExE
set_option linter.unusedVariables false
set_option linter.unusedSimpArgs false
set_option maxRecDepth 10000
structure Mr (X : World) (b g cap : Nat) (bs : List Bool) : Prop where
  head : blk X b = some (.cells #[.slice (some ⟨g, 0, none⟩) bs.length cap] 53 (0, 0))
  row : ∃ c, blk X g = some (.cells c 4 (0, 0)) ∧ ∀ i, i < bs.length → c[i]? = some (.bool (b_ bs i))
  small : 1 ≤ bs.length ∧ bs.length ≤ 2048 ∧ bs.length ≤ cap
  ne : b ≠ g
variable {X Y : World} {b g cap : Nat} {bs : List Bool}
theorem Mr.lt (h : Mr X b g cap bs) : b < X.heap.size ∧ g < X.heap.size := ⟨blk_lt h.head, by obtain ⟨c, hc, -⟩ := h.row; exact blk_lt hc⟩
theorem Mr.kept (h : Mr X b g cap bs) (hb : Y.heap[b]? = X.heap[b]?) (hg : Y.heap[g]? = X.heap[g]?) : Mr Y b g cap bs :=
  ⟨hb.trans h.head, by obtain ⟨c, hc, h2⟩ := h.row; exact ⟨c, hg.trans hc, h2⟩, h.small, h.ne⟩
theorem Mr.below {B : Nat} (h : Mr X b g cap bs) (hb : Below B X Y) (h1 : b < B) (h2 : g < B) : Mr Y b g cap bs := h.kept (hb.block b h1) (hb.block g h2)
theorem Mr.bel (h : Mr X b g cap bs) (hb : Below X.heap.size X Y) : Mr Y b g cap bs := h.below hb h.lt.1 h.lt.2
theorem Mr.turn {q : Nat} (h : Mr X b g cap bs) (hg : X.grownBy Y (some q)) (h1 : b ≠ q) (h2 : g ≠ q) : Mr Y b g cap bs :=
  h.kept (hg.block b h.lt.1 fun e => h1 (by injection e)) (hg.block g h.lt.2 fun e => h2 (by injection e))
theorem Mr.c0 (h : Mr X b g cap bs) : X.cell? ⟨b, 0, none⟩ = some (.slice (some ⟨g, 0, none⟩) bs.length cap) := by rw [blk_cell h.head]; rfl
theorem Mr.cB (h : Mr X b g cap bs) {i : Nat} (hi : i < bs.length) : X.cell? ⟨g, i, none⟩ = some (.bool (b_ bs i)) := by
  obtain ⟨c, hc, h2⟩ := h.row
  rw [blk_cell hc]; exact h2 i hi
theorem Mr.fr (h : Mr X b g cap bs) (k : Nat) : X.frozen? ⟨g, k, none⟩ = false := by
  obtain ⟨c, hc, -⟩ := h.row
  exact blk_frozen hc k
theorem Mr.set (h : Mr X b g cap bs) {a : Nat} (ha : a < bs.length) (v : Bool) : Mr (X.setCell ⟨g, a, none⟩ (.bool v)) b g cap (bs.set a v) := by
  have hs := h.small
  refine ⟨?_, ?_, by rw [List.length_set]; exact hs, h.ne⟩
  · rw [List.length_set]
    exact (heap_setCell_other X ⟨g, a, none⟩ b (.bool v) (fun e => h.ne (by first | exact e | exact e.symm))).trans h.head
  · obtain ⟨c, hc, h2⟩ := h.row
    refine ⟨_, blk_set X g _ _ _ _ hc, fun i hi => ?_⟩
    rw [List.length_set] at hi
    rw [ExM.b_set ha, Array.getElem?_setIfInBounds]
    by_cases e : a = i
    · subst e
      have : a < c.size := (Array.getElem?_eq_some_iff.1 (h2 a ha)).1
      rw [if_pos rfl, if_pos this, if_pos rfl]
    · rw [if_neg e, if_neg (Ne.symm e)]
      exact h2 i hi
/-! in -/
set_option maxHeartbeats 1000000 in
theorem in_any (s k : Int) (w : World) (h : Mr w b g cap bs) (hs1 : -9223372036854775808 ≤ s) (hs2 : s ≤ 9223372036854775807) (hk1 : -9223372036854775808 ≤ k) (hk2 : k ≤ 9223372036854775807) :
    Calls Try.prog 24 #[.pointer (some ⟨b, 0, none⟩), .int .i64 s, .int .i64 k] w fun e w' => e = .returned (.bool (mayB bs.length s k)) ∧ w = w' := by
  have c0 := h.c0
  have hn2 := h.small.2.1
  obtain ⟨n, hn⟩ : ∃ n, bs.length = n := ⟨_, rfl⟩
  rw [hn] at c0 hn2 ⊢
  clear h hn
  by_cases h1 : 1 ≤ k
  · have d1 : decide (1 ≤ k) = true := decide_eq_true h1
    by_cases h2 : 0 ≤ s
    · have d2 : decide (0 ≤ s) = true := decide_eq_true h2
      by_cases h3 : s ≤ n
      · have d3 : decide (s ≤ (n : Int)) = true := decide_eq_true h3
        by_cases h4 : k ≤ n - s
        · have d4 : decide (k ≤ (n : Int) - s) = true := decide_eq_true h4
          have hR : mayB n s k = true := decide_eq_true ⟨h1, h2, by omega, h4⟩
          go_enter Try.func24, Try.ntmps24
          go_wp2
          go_ret
          exact ⟨by first | rfl | (rw [hR]; done) | (rw [hR]; rfl), rfl⟩
        · have d4 : decide (k ≤ (n : Int) - s) = false := decide_eq_false h4
          have hR : mayB n s k = false := decide_eq_false fun h => h4 h.2.2.2
          go_enter Try.func24, Try.ntmps24
          go_wp2
          go_ret
          exact ⟨by first | rfl | (rw [hR]; done) | (rw [hR]; rfl), rfl⟩
      · have d3 : decide (s ≤ (n : Int)) = false := decide_eq_false h3
        have hR : mayB n s k = false := decide_eq_false fun h => h3 (by have := h.2.2.1; omega)
        go_enter Try.func24, Try.ntmps24
        go_wp2
        go_ret
        exact ⟨by first | rfl | (rw [hR]; done) | (rw [hR]; rfl), rfl⟩
    · have d2 : decide (0 ≤ s) = false := decide_eq_false h2
      have hR : mayB n s k = false := decide_eq_false fun h => h2 h.2.1
      go_enter Try.func24, Try.ntmps24
      go_wp2
      go_ret
      exact ⟨by first | rfl | (rw [hR]; done) | (rw [hR]; rfl), rfl⟩
  · have d1 : decide (1 ≤ k) = false := decide_eq_false h1
    have hR : mayB n s k = false := decide_eq_false fun h => h1 h.1
    go_enter Try.func24, Try.ntmps24
    go_wp2
    go_ret
    exact ⟨by first | rfl | (rw [hR]; done) | (rw [hR]; rfl), rfl⟩
/-! all -/
set_option maxHeartbeats 1000000 in
theorem rall_any (s n : Nat) (v : Bool) (w : World) (h : Mr w b g cap bs) (hl : s + n ≤ bs.length) :
    Calls Try.prog 25 #[.pointer (some ⟨b, 0, none⟩), .int .i64 s, .int .i64 n, .bool v] w fun e w' => e = .returned (.bool (allB bs s n v)) ∧ Below w.heap.size w w' := by
  have H := Lib.hid h
  obtain ⟨N, hN⟩ : ∃ n, bs.length = n := ⟨_, rfl⟩
  have HN := Lib.hid hN
  have hn2 := h.small.2.1
  rw [hN] at hl hn2
  have hp' : (s : Int) + (n : Int) = ((s + n : Nat) : Int) := by omega
  obtain ⟨p, hp⟩ : ∃ p, s + n = p := ⟨_, rfl⟩
  rw [hp] at hp' hl
  have HP := Lib.hid hp
  have hsp : s ≤ p := by omega
  clear h hN hp
  go_enter Try.func25, Try.ntmps25
  go_wp2_with fail
  go_loopw [9] (fun i X => ∃ k : Nat, s ≤ k ∧ k ≤ p ∧ i = .int .i64 k ∧ Hid (∀ j, s ≤ j → j < k → b_ bs j = v) ∧ Hid (Below w.heap.size w X)) (fun i _ => p - (intOf i).toNat)
  case atStart => exact ⟨s, Nat.le_refl _, hsp, rfl, Lib.hid (fun j h1 h2 => absurd h2 (by omega)), Lib.hid (Below.refl _ _)⟩
  case round =>
    obtain ⟨k, hk1, hk2, rfl, HF, HB⟩ := hrel
    rename World => X
    have HM := Lib.hid (H.out.bel HB.out)
    have c0 := HM.out.c0
    rw [HN.out] at c0
    by_cases hlt : k < p
    · have hlt' : (k : Int) < p := by omega
      have hkN : k < N := by omega
      have ck := HM.out.cB (i := k) (by rw [HN.out]; exact hkN)
      obtain ⟨q, hq⟩ : ∃ q, b_ bs k = q := ⟨_, rfl⟩
      rw [hq] at ck
      have HQ := Lib.hid hq
      clear hq
      by_cases he : q = v
      · subst he
        have d1 : (q != q) = false := by simp
        have d2 : (q == q) = true := by simp
        go_wp2
        exact ⟨⟨k + 1, by omega, by omega, by go_num, Lib.hid (fun j h1 h2 => by
          by_cases e : j = k
          · rw [e]; exact HQ.out
          · exact HF.out j h1 (by omega)), HB⟩, by simp [intOf]; omega⟩
      · have d1 : (q != v) = true := by simpa using he
        have d2 : (q == v) = false := by simpa using he
        have HE : Hid (allB bs s n v = false) := Lib.hid (by
          cases h : allB bs s n v with
          | false => rfl
          | true => exact absurd ((HQ.out).symm.trans (allB_iff.1 h k hk1 (by have := HP.out; omega))) he)
        clear he
        go_wp2
        go_ret
        exact ⟨by rw [HE.out]; first | done | rfl, HB.out⟩
    · obtain rfl : k = p := by omega
      have HE : Hid (allB bs s n v = true) := Lib.hid (allB_iff.2 fun i h1 h2 => HF.out i h1 (by have := HP.out; omega))
      go_wp2
      go_ret
      exact ⟨by rw [HE.out]; first | done | rfl, HB.out⟩
/-! mark -/
set_option maxHeartbeats 1000000 in
theorem rmark_any (s n : Nat) (v : Bool) (w : World) (h : Mr w b g cap bs) (hl : s + n ≤ bs.length) :
    Calls Try.prog 26 #[.pointer (some ⟨b, 0, none⟩), .int .i64 s, .int .i64 n, .bool v] w fun e w' => (∃ x, e = .returned x) ∧ Mr w' b g cap (ExM.mk bs s v n) ∧ w.grownBy w' (some g) := by
  have H := Lib.hid h
  obtain ⟨N, hN⟩ : ∃ n, bs.length = n := ⟨_, rfl⟩
  have HN := Lib.hid hN
  have hn2 := h.small.2.1
  rw [hN] at hl hn2
  have hp' : (s : Int) + (n : Int) = ((s + n : Nat) : Int) := by omega
  obtain ⟨p, hp⟩ : ∃ p, s + n = p := ⟨_, rfl⟩
  rw [hp] at hp' hl
  have HP := Lib.hid hp
  have hsp : s ≤ p := by omega
  clear h hN hp
  go_enter Try.func26, Try.ntmps26
  go_wp2_with fail
  go_loopw [8] (fun i X => ∃ k : Nat, s ≤ k ∧ k ≤ p ∧ i = .int .i64 k ∧ Hid (Mr X b g cap (ExM.mk bs s v (k - s))) ∧ Hid (w.grownBy X (some g))) (fun i _ => p - (intOf i).toNat)
  case atStart => exact ⟨s, Nat.le_refl _, hsp, rfl, Lib.hid (by rw [Nat.sub_self]; exact H.out), Lib.hid (World.grownBy.refl _ _)⟩
  case round =>
    obtain ⟨k, hk1, hk2, rfl, HM, HG⟩ := hrel
    rename World => X
    by_cases hlt : k < p
    · have hlt' : (k : Int) < p := by omega
      have c0 := HM.out.c0
      rw [mk_len, HN.out] at c0
      have hcell := HM.out.cB (i := k) (by rw [mk_len, HN.out]; omega)
      have hfr := HM.out.fr k
      have hkN : k < N := by omega
      go_wp2
      exact ⟨⟨k + 1, by omega, by omega, by go_num, Lib.hid (by
        rw [show k + 1 - s = k - s + 1 by omega]
        show Mr _ b g cap ((ExM.mk bs s v (k - s)).set (s + (k - s)) v)
        rw [show s + (k - s) = k by omega]
        exact HM.out.set (by rw [mk_len, HN.out]; exact hkN) v), Lib.hid (HG.out.trans (ExA.set_grown _ _ _ _))⟩, by simp [intOf]; omega⟩
    · obtain rfl : k = p := by omega
      have hks : k - s = n := by have := HP.out; omega
      rw [hks] at HM
      go_wp2
      first
        | (go_end0; exact ⟨⟨_, rfl⟩, HM.out, HG.out⟩)
        | (go_ret; exact ⟨⟨_, rfl⟩, HM.out, HG.out⟩)
attribute [local go_sem ↓] run_make_bool
theorem rnew_no (m : Int) (hm : ¬ (1 ≤ m ∧ m ≤ 2048)) (w : World) :
    Calls Try.prog 8 #[.int .i64 m] w fun e w' => e = .returned (.pointer none) ∧ w = w' := by
  by_cases h0 : m < 1
  · have d0 : decide (m < 1) = true := decide_eq_true h0
    go_enter Try.func8, Try.ntmps8
    go_wp2
    go_ret
    exact ⟨rfl, rfl⟩
  · have d0 : decide (m < 1) = false := decide_eq_false h0
    have d1 : decide (2048 < m) = true := decide_eq_true (by omega)
    clear hm
    go_enter Try.func8, Try.ntmps8
    go_wp2
    go_ret
    exact ⟨rfl, rfl⟩
attribute [local go_sem ↓] run_make_bool
set_option maxHeartbeats 1000000 in
theorem rnew_any (n : Nat) (hn : 1 ≤ n ∧ n ≤ 2048) (w : World) :
    Calls Try.prog 8 #[.int .i64 n] w fun e w' => (∃ b g, e = .returned (.pointer (some ⟨b, 0, none⟩)) ∧ w.heap.size ≤ b ∧ w.heap.size ≤ g ∧ Mr w' b g n (List.replicate n false)) ∧ Below w.heap.size w w' := by
  have d0 : decide ((n : Int) < 1) = false := decide_eq_false (by omega)
  have d1 : decide ((2048 : Int) < n) = false := decide_eq_false (by omega)
  have hn3 : n ≤ 100000 := by omega
  have HN := Lib.hid hn
  clear hn
  go_enter Try.func8, Try.ntmps8
  go_wp2
  go_ret
  refine ⟨⟨w.heap.size + 1, w.heap.size, rfl, by omega, by omega, ?_, ⟨bb (List.replicate n false), ?_, fun i hi => bb_at hi⟩, by rw [List.length_replicate]; exact ⟨HN.out.1, HN.out.2, Nat.le_refl _⟩, by omega⟩, by repeat' (first | (with_reducible exact Below.refl _ _) | (with_reducible refine Rd.below_step ?_ (by assumption)) | (with_reducible refine Rd.below_alloc ?_ _) | (with_reducible refine Rd.below_drewN ?_ _) | (with_reducible refine Below.drew ?_) | (with_reducible refine Below.setCell ?_ ?_ _) | (with_reducible refine Rd.below_setRow ?_ ?_ _) | go_size | (simp only [World.size_alloc]; omega) | omega)⟩
  · rw [List.length_replicate]
    exact blk2_1 _ _ _
  · exact blk2_0 _ _ _
/-! Claim, Give -/
set_option maxHeartbeats 2000000 in
theorem rclaim_any (s k : Int) (w : World) (h : Mr w b g cap bs) (hs1 : -9223372036854775808 ≤ s) (hs2 : s ≤ 9223372036854775807) (hk1 : -9223372036854775808 ≤ k) (hk2 : k ≤ 9223372036854775807) :
    Calls Try.prog 12 #[.pointer (some ⟨b, 0, none⟩), .int .i64 s, .int .i64 k] w fun e w' => e = .returned (.int .i64 (actE bs s k false 5)) ∧ Mr w' b g cap (actB bs s k false) ∧ w.grownBy w' (some g) := by
  have C := in_any s k w h hs1 hs2 hk1 hk2
  cases hm : mayB bs.length s k with
  | false =>
    rw [hm] at C
    have HR : Hid (actE bs s k false 5 = 1 ∧ actB bs s k false = bs) := Lib.hid ⟨by unfold actE; rw [hm]; rfl, by unfold actB goB; rw [hm]; rfl⟩
    have H := Lib.hid h
    have CC := Lib.hid C
    clear h hm C
    go_enter Try.func12, Try.ntmps12
    go_wp2_with fail
    refine CC.out.mono ?_
    rintro e _ ⟨rfl, rfl⟩
    go_wp2
    go_ret
    rw [HR.out.1, HR.out.2]
    exact ⟨rfl, H.out, World.grownBy.refl _ _⟩
  | true =>
    rw [hm] at C
    have hm' : 1 ≤ k ∧ 0 ≤ s ∧ s < bs.length ∧ k ≤ bs.length - s := of_decide_eq_true hm
    obtain ⟨S, rfl⟩ := Int.eq_ofNat_of_zero_le hm'.2.1
    obtain ⟨K, rfl⟩ := Int.eq_ofNat_of_zero_le (show 0 ≤ k by omega)
    have hsl : S + K ≤ bs.length := by omega
    have HSL := Lib.hid hsl
    have HCQ : Hid (∀ X : World, Mr X b g cap bs → Calls Try.prog 25 #[.pointer (some ⟨b, 0, none⟩), .int .i64 S, .int .i64 K, .bool false] X fun e w' => e = .returned (.bool (allB bs S K false)) ∧ Below X.heap.size X w') := Lib.hid fun X hX => rall_any S K false X hX hsl
    have H := Lib.hid h
    have CC := Lib.hid C
    cases hall : allB bs S K false with
    | true =>
      rw [hall] at HCQ
      have HR : Hid (actE bs (S : Int) (K : Int) false 5 = 0 ∧ actB bs (S : Int) (K : Int) false = ExM.mk bs S true K) := Lib.hid ⟨by unfold actE; rw [hm, Int.toNat_natCast, Int.toNat_natCast, hall]; rfl, by unfold actB goB; rw [hm, Int.toNat_natCast, Int.toNat_natCast, hall]; rfl⟩
      clear h hm C hall hm' hsl
      go_enter Try.func12, Try.ntmps12
      go_wp2_with fail
      refine CC.out.mono ?_
      rintro e _ ⟨rfl, rfl⟩
      go_wp2_with fail
      refine (HCQ.out _ H.out).mono ?_
      rintro e w1 ⟨rfl, hb⟩
      have H1 := Lib.hid (H.out.bel hb)
      have HB := Lib.hid hb
      clear hb HCQ CC
      go_wp2_with fail
      refine (rmark_any S K true _ H1.out HSL.out).mono ?_
      rintro e w2 ⟨⟨x, rfl⟩, h2, g2⟩
      have H2 := Lib.hid h2
      have G2 := Lib.hid g2
      clear h2 g2
      go_wp2
      go_ret
      rw [HR.out.1, HR.out.2]
      exact ⟨rfl, H2.out, (grown_some HB.out g).trans G2.out⟩
    | false =>
      rw [hall] at HCQ
      have HR : Hid (actE bs (S : Int) (K : Int) false 5 = 5 ∧ actB bs (S : Int) (K : Int) false = bs) := Lib.hid ⟨by unfold actE; rw [hm, Int.toNat_natCast, Int.toNat_natCast, hall]; rfl, by unfold actB goB; rw [hm, Int.toNat_natCast, Int.toNat_natCast, hall]; rfl⟩
      clear h hm C hall hm' hsl
      go_enter Try.func12, Try.ntmps12
      go_wp2_with fail
      refine CC.out.mono ?_
      rintro e _ ⟨rfl, rfl⟩
      go_wp2_with fail
      refine (HCQ.out _ H.out).mono ?_
      rintro e w1 ⟨rfl, hb⟩
      have H1 := Lib.hid (H.out.bel hb)
      have HB := Lib.hid hb
      clear hb HCQ CC
      go_wp2
      go_ret
      rw [HR.out.1, HR.out.2]
      exact ⟨rfl, H1.out, grown_some HB.out g⟩
set_option maxHeartbeats 2000000 in
theorem rgive_any (s k : Int) (w : World) (h : Mr w b g cap bs) (hs1 : -9223372036854775808 ≤ s) (hs2 : s ≤ 9223372036854775807) (hk1 : -9223372036854775808 ≤ k) (hk2 : k ≤ 9223372036854775807) :
    Calls Try.prog 14 #[.pointer (some ⟨b, 0, none⟩), .int .i64 s, .int .i64 k] w fun e w' => e = .returned (.int .i64 (actE bs s k true 4)) ∧ Mr w' b g cap (actB bs s k true) ∧ w.grownBy w' (some g) := by
  have C := in_any s k w h hs1 hs2 hk1 hk2
  cases hm : mayB bs.length s k with
  | false =>
    rw [hm] at C
    have HR : Hid (actE bs s k true 4 = 1 ∧ actB bs s k true = bs) := Lib.hid ⟨by unfold actE; rw [hm]; rfl, by unfold actB goB; rw [hm]; rfl⟩
    have H := Lib.hid h
    have CC := Lib.hid C
    clear h hm C
    go_enter Try.func14, Try.ntmps14
    go_wp2_with fail
    refine CC.out.mono ?_
    rintro e _ ⟨rfl, rfl⟩
    go_wp2
    go_ret
    rw [HR.out.1, HR.out.2]
    exact ⟨rfl, H.out, World.grownBy.refl _ _⟩
  | true =>
    rw [hm] at C
    have hm' : 1 ≤ k ∧ 0 ≤ s ∧ s < bs.length ∧ k ≤ bs.length - s := of_decide_eq_true hm
    obtain ⟨S, rfl⟩ := Int.eq_ofNat_of_zero_le hm'.2.1
    obtain ⟨K, rfl⟩ := Int.eq_ofNat_of_zero_le (show 0 ≤ k by omega)
    have hsl : S + K ≤ bs.length := by omega
    have HSL := Lib.hid hsl
    have HCQ : Hid (∀ X : World, Mr X b g cap bs → Calls Try.prog 25 #[.pointer (some ⟨b, 0, none⟩), .int .i64 S, .int .i64 K, .bool true] X fun e w' => e = .returned (.bool (allB bs S K true)) ∧ Below X.heap.size X w') := Lib.hid fun X hX => rall_any S K true X hX hsl
    have H := Lib.hid h
    have CC := Lib.hid C
    cases hall : allB bs S K true with
    | true =>
      rw [hall] at HCQ
      have HR : Hid (actE bs (S : Int) (K : Int) true 4 = 0 ∧ actB bs (S : Int) (K : Int) true = ExM.mk bs S false K) := Lib.hid ⟨by unfold actE; rw [hm, Int.toNat_natCast, Int.toNat_natCast, hall]; rfl, by unfold actB goB; rw [hm, Int.toNat_natCast, Int.toNat_natCast, hall]; rfl⟩
      clear h hm C hall hm' hsl
      go_enter Try.func14, Try.ntmps14
      go_wp2_with fail
      refine CC.out.mono ?_
      rintro e _ ⟨rfl, rfl⟩
      go_wp2_with fail
      refine (HCQ.out _ H.out).mono ?_
      rintro e w1 ⟨rfl, hb⟩
      have H1 := Lib.hid (H.out.bel hb)
      have HB := Lib.hid hb
      clear hb HCQ CC
      go_wp2_with fail
      refine (rmark_any S K false _ H1.out HSL.out).mono ?_
      rintro e w2 ⟨⟨x, rfl⟩, h2, g2⟩
      have H2 := Lib.hid h2
      have G2 := Lib.hid g2
      clear h2 g2
      go_wp2
      go_ret
      rw [HR.out.1, HR.out.2]
      exact ⟨rfl, H2.out, (grown_some HB.out g).trans G2.out⟩
    | false =>
      rw [hall] at HCQ
      have HR : Hid (actE bs (S : Int) (K : Int) true 4 = 4 ∧ actB bs (S : Int) (K : Int) true = bs) := Lib.hid ⟨by unfold actE; rw [hm, Int.toNat_natCast, Int.toNat_natCast, hall]; rfl, by unfold actB goB; rw [hm, Int.toNat_natCast, Int.toNat_natCast, hall]; rfl⟩
      clear h hm C hall hm' hsl
      go_enter Try.func14, Try.ntmps14
      go_wp2_with fail
      refine CC.out.mono ?_
      rintro e _ ⟨rfl, rfl⟩
      go_wp2_with fail
      refine (HCQ.out _ H.out).mono ?_
      rintro e w1 ⟨rfl, hb⟩
      have H1 := Lib.hid (H.out.bel hb)
      have HB := Lib.hid hb
      clear hb HCQ CC
      go_wp2
      go_ret
      rw [HR.out.1, HR.out.2]
      exact ⟨rfl, H1.out, grown_some HB.out g⟩
/-! Take -/
theorem first_eq {bs : List Bool} {n a : Nat} (hn : 1 ≤ n) (h1 : fitB bs a n = true) (h2 : ∀ j, j < a → fitB bs j n = false) : first bs n = some a := by
  cases h : first bs n with
  | none => have := first_none hn h a; rw [h1] at this; cases this
  | some c =>
    obtain ⟨h3, h4⟩ := first_some hn h
    rcases Nat.lt_trichotomy a c with h5 | h5 | h5
    · have := h4 a h5; rw [h1] at this; cases this
    · rw [h5]
    · have := h2 c h5; rw [h3] at this; cases this
theorem none_eq {bs : List Bool} {n : Nat} (hn : 1 ≤ n) (h : ∀ j, fitB bs j n = false) : first bs n = none := by
  cases h1 : first bs n with
  | none => rfl
  | some c => have := (first_some hn h1).1; rw [h c] at this; cases this
theorem rtake_low (k : Int) (w : World) (hk : k < 1) :
    Calls Try.prog 10 #[.pointer (some ⟨b, 0, none⟩), .int .i64 k] w fun e w' => e = .returned (.tuple #[.int .i64 0, .int .i64 1]) ∧ w = w' := by
  have d0 : decide (k < 1) = true := decide_eq_true hk
  go_enter Try.func10, Try.ntmps10
  go_wp2
  go_ret2
  exact ⟨rfl, rfl⟩
set_option maxHeartbeats 2000000 in
theorem rtake_any (K : Nat) (w : World) (h : Mr w b g cap bs) (hK : 1 ≤ K) (hK2 : (K : Int) ≤ 9223372036854775807) :
    Calls Try.prog 10 #[.pointer (some ⟨b, 0, none⟩), .int .i64 K] w fun e w' => e = .returned (.tuple #[.int .i64 (tkA bs K), .int .i64 (tkE bs K)]) ∧ Mr w' b g cap (tkB bs K) ∧ w.grownBy w' (some g) := by
  have d0 : decide ((K : Int) < 1) = false := decide_eq_false (by omega)
  have H := Lib.hid h
  have hs2 := h.small.2.1
  obtain ⟨N, hN⟩ : ∃ n, bs.length = n := ⟨_, rfl⟩
  have HN := Lib.hid hN
  rw [hN] at hs2
  clear h hN
  go_enter Try.func10, Try.ntmps10
  go_wp2_with fail
  go_loopw [6] (fun i X => ∃ a : Nat, a ≤ N ∧ i = .int .i64 a ∧ Hid (∀ j, j < a → fitB bs j K = false) ∧ Hid (Below w.heap.size w X)) (fun i _ => N + 1 - (intOf i).toNat)
  case atStart => exact ⟨0, by omega, rfl, Lib.hid (fun j hj => absurd hj (by omega)), Lib.hid (Below.refl _ _)⟩
  case round =>
    obtain ⟨a, ha, rfl, HF, HB⟩ := hrel
    rename World => X
    have HM := Lib.hid (H.out.bel HB.out)
    have C := in_any (a : Int) (K : Int) X HM.out (by omega) (by omega) (by omega) (by omega)
    rw [HN.out] at C
    cases hm : mayB N (a : Int) (K : Int) with
    | false =>
      rw [hm] at C
      have CC := Lib.hid C
      have hnf : ¬ a + K ≤ N := fun h => by
        have : mayB N (a : Int) (K : Int) = true := decide_eq_true ⟨by omega, by omega, by omega, by omega⟩
        rw [hm] at this; cases this
      have hf : first bs K = none := none_eq hK fun j => by
        by_cases hj : j < a
        · exact HF.out j hj
        · cases h9 : fitB bs j K with
          | false => rfl
          | true => have := (fit_iff.1 h9).2.1; rw [HN.out] at this; omega
      have HR : Hid (tkA bs K = 0 ∧ tkE bs K = 6 ∧ tkB bs K = bs) := Lib.hid ⟨by unfold tkA; rw [hf]; rfl, by unfold tkE; rw [hf]; rfl, by unfold tkB; rw [hf]⟩
      clear C hm hnf hf
      go_wp2_with fail
      refine CC.out.mono ?_
      rintro e _ ⟨rfl, rfl⟩
      go_wp2
      go_ret2
      rw [HR.out.1, HR.out.2.1, HR.out.2.2]
      exact ⟨rfl, HM.out, grown_some HB.out g⟩
    | true =>
      rw [hm] at C
      have CC := Lib.hid C
      have hm' : 1 ≤ (K : Int) ∧ 0 ≤ (a : Int) ∧ (a : Int) < N ∧ (K : Int) ≤ N - a := of_decide_eq_true hm
      have haN : a < N := by omega
      have hsl : a + K ≤ N := by omega
      have CA := rall_any a K false X HM.out (by rw [HN.out]; exact hsl)
      cases hall : allB bs a K false with
      | true =>
        rw [hall] at CA
        have HCA := Lib.hid CA
        have hfit : fitB bs a K = true := by unfold fitB; rw [hall, HN.out, decide_eq_true ⟨hK, hsl⟩]; rfl
        have hf : first bs K = some a := first_eq hK hfit HF.out
        have HR : Hid (tkA bs K = a ∧ tkE bs K = 0 ∧ tkB bs K = ExM.mk bs a true K) := Lib.hid ⟨by unfold tkA; rw [hf]; rfl, by unfold tkE; rw [hf]; rfl, by unfold tkB; rw [hf]⟩
        clear C hm hm' CA hall hfit hf
        go_wp2_with fail
        refine CC.out.mono ?_
        rintro e _ ⟨rfl, rfl⟩
        go_wp2_with fail
        refine HCA.out.mono ?_
        rintro e Y ⟨rfl, hy⟩
        have HMY := Lib.hid (HM.out.bel hy)
        have HBY := Lib.hid (HB.out.trans (hy.mono HB.out.size))
        clear hy HCA CC HM HB
        go_wp2_with fail
        refine (rmark_any a K true _ HMY.out (by rw [HN.out]; exact hsl)).mono ?_
        rintro e Z ⟨⟨x, rfl⟩, h2, g2⟩
        have H2 := Lib.hid h2
        have G2 := Lib.hid g2
        clear h2 g2
        go_wp2
        go_ret2
        rw [HR.out.1, HR.out.2.1, HR.out.2.2]
        exact ⟨rfl, H2.out, (grown_some HBY.out g).trans G2.out⟩
      | false =>
        rw [hall] at CA
        have HCA := Lib.hid CA
        have hnf : fitB bs a K = false := by unfold fitB; rw [hall, Bool.and_false]
        have HNF := Lib.hid hnf
        clear C hm hm' CA hall hnf
        go_wp2_with fail
        refine CC.out.mono ?_
        rintro e _ ⟨rfl, rfl⟩
        go_wp2_with fail
        refine HCA.out.mono ?_
        rintro e Y ⟨rfl, hy⟩
        have HBY := Lib.hid (HB.out.trans (hy.mono HB.out.size))
        clear hy HCA CC HM HB
        go_wp2
        exact ⟨⟨a + 1, by omega, by go_num, Lib.hid (fun j hj => by
          by_cases e : j = a
          · rw [e]; exact HNF.out
          · exact HF.out j (by omega)), HBY⟩, by simp [intOf]; omega⟩
end Go.Proofs.Ytmhjhfjbfoklpaa.ExH

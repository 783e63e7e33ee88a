/-
  Take, Used, Claim, Give.
-/
import Derived.Test.YtmhjhfjbfoklpaaExC
namespace Go.Proofs.Ytmhjhfjbfoklpaa.ExD
open Go.RowKit Go.Shelf Rd Go.Proofs.Ytmhjhfjbfoklpaa.Row It ExM ExA ExB ExC
set_option linter.unusedVariables false
set_option linter.unusedSimpArgs false
set_option maxRecDepth 10000
attribute [local go_sem] Oper.semAt_some
variable {b g cap : Nat} {bs : List Bool}
theorem grown_some {X Y : World} (h : Below X.heap.size X Y) (r : Nat) : X.grownBy Y (some r) := ⟨h.os, h.tape, h.output, h.size, fun k hk _ => h.block k hk⟩
/-! Claim, Give -/
theorem any_all (bs : List Bool) (s n : Nat) (v : Bool) : anyQ n (fun i => b_ bs (s + i)) (!v) = !allB bs s n v := by
  unfold anyQ allB
  rw [List.not_all_eq_any_not]
  congr 1
  funext i
  show (b_ bs (s + i) == !v) = !(b_ bs (s + i) == v)
  cases b_ bs (s + i) <;> cases v <;> rfl
def goB (bs : List Bool) (s k : Int) (v : Bool) : Bool := mayB bs.length s k && allB bs s.toNat k.toNat v
def actB (bs : List Bool) (s k : Int) (v : Bool) : List Bool := if goB bs s k v = true then mk bs s.toNat (!v) k.toNat else bs
def actE (bs : List Bool) (s k : Int) (v : Bool) (bad : Int) : Int := if mayB bs.length s k = true then (if allB bs s.toNat k.toNat v = true then 0 else bad) else 1
theorem act_len (bs : List Bool) (s k : Int) (v : Bool) : (actB bs s k v).length = bs.length := by
  unfold actB; split
  · exact mk_len _ _ _ _
  · rfl
set_option maxHeartbeats 2000000 in
theorem claim_any (s k : Int) (w : World) (h : Mp w b g cap bs) (hs1 : -9223372036854775808 ≤ s) (hs2 : s ≤ 9223372036854775807) (hk1 : -9223372036854775808 ≤ k) (hk2 : k ≤ 9223372036854775807) :
    Calls Try.prog 11 #[.pointer (some ⟨b, 0, none⟩), .int .i64 s, .int .i64 k] w fun e w' => e = .returned (.int .i64 (actE bs s k false 5)) ∧ Mp w' b g cap (actB bs s k false) ∧ w.grownBy w' (some g) := by
  have C := may_any s k w h hs1 hs2 hk1 hk2
  cases hm : mayB bs.length s k with
  | false =>
    rw [hm] at C
    have HR : Hid (actE bs s k false 5 = 1 ∧ actB bs s k false = bs) := Lib.hid ⟨by unfold actE; rw [hm]; rfl, by unfold actB goB; rw [hm]; rfl⟩
    have H := Lib.hid h
    have CC := Lib.hid C
    clear h hm C
    go_enter Try.func11, Try.ntmps11
    go_wp2_with fail
    refine CC.out.mono ?_
    rintro e _ ⟨rfl, rfl⟩
    go_wp2
    go_ret
    rw [HR.out.1, HR.out.2]
    exact ⟨rfl, H.out, World.grownBy.refl _ _⟩
  | true =>
    rw [hm] at C
    have hm' : 1 ≤ k ∧ 0 ≤ s ∧ s < bs.length ∧ k ≤ bs.length - s := of_decide_eq_true hm
    obtain ⟨S, rfl⟩ := Int.eq_ofNat_of_zero_le hm'.2.1
    obtain ⟨K, rfl⟩ := Int.eq_ofNat_of_zero_le (show 0 ≤ k by omega)
    have hsm := h.small
    have CQ := fun (X : World) (hX : Mp X b g cap bs) => contains_any (fun i => b_ bs (S + i)) true g S K (cap - S) X (fun i hi => hX.cB (by omega)) (by omega) hX.lt.2
    have ha := any_all bs S K false
    rw [show (!false) = true from rfl] at ha
    rw [ha] at CQ
    have c0 := h.c0
    have H := Lib.hid h
    have CC := Lib.hid C
    have HCQ := Lib.hid CQ
    obtain ⟨n, hn⟩ : ∃ n, bs.length = n := ⟨_, rfl⟩
    have HN := Lib.hid hn
    rw [hn] at c0 hsm hm'
    obtain ⟨p, hp⟩ : ∃ p, S + K = p := ⟨_, rfl⟩
    have hp1 : (S : Int) + (K : Int) = (p : Int) := by omega
    have hp2 : S ≤ p := by omega
    have hp3 : p ≤ cap := by omega
    have hp4 : p - S = K := by omega
    have hp5 : ¬ cap = S := by omega
    have hp6 : ¬ cap < p := by omega
    have hp7 : ¬ p < S := by omega
    have hp8 : p ≤ 2048 := by omega
    have hpn : S + K ≤ n := by omega
    cases hall : allB bs S K false with
    | true =>
      rw [hall] at HCQ
      have HR : Hid (actE bs (S : Int) (K : Int) false 5 = 0 ∧ actB bs (S : Int) (K : Int) false = mk bs S true K) := Lib.hid ⟨by unfold actE; rw [hm, Int.toNat_natCast, Int.toNat_natCast, hall]; rfl, by unfold actB goB; rw [hm, Int.toNat_natCast, Int.toNat_natCast, hall]; rfl⟩
      clear h hm C CQ hn hall ha hm' hp
      go_enter Try.func11, Try.ntmps11
      go_wp2_with fail
      refine CC.out.mono ?_
      rintro e _ ⟨rfl, rfl⟩
      go_wp2_with fail
      refine (HCQ.out _ H.out).mono ?_
      rintro e w1 ⟨rfl, hb⟩
      have H1 := Lib.hid (H.out.bel hb)
      have HB := Lib.hid hb
      clear hb c0 HCQ CC
      go_wp2_with fail
      refine (mark_any S K true _ H1.out (by rw [HN.out]; exact hpn)).mono ?_
      rintro e w2 ⟨⟨x, rfl⟩, h2, g2⟩
      have H2 := Lib.hid h2
      have G2 := Lib.hid g2
      clear h2 g2
      go_wp2
      go_ret
      rw [HR.out.1, HR.out.2]
      exact ⟨rfl, H2.out, (grown_some HB.out g).trans G2.out⟩
    | false =>
      rw [hall] at HCQ
      have HR : Hid (actE bs (S : Int) (K : Int) false 5 = 5 ∧ actB bs (S : Int) (K : Int) false = bs) := Lib.hid ⟨by unfold actE; rw [hm, Int.toNat_natCast, Int.toNat_natCast, hall]; rfl, by unfold actB goB; rw [hm, Int.toNat_natCast, Int.toNat_natCast, hall]; rfl⟩
      clear h hm C CQ hn hall ha hm' hp
      go_enter Try.func11, Try.ntmps11
      go_wp2_with fail
      refine CC.out.mono ?_
      rintro e _ ⟨rfl, rfl⟩
      go_wp2_with fail
      refine (HCQ.out _ H.out).mono ?_
      rintro e w1 ⟨rfl, hb⟩
      have H1 := Lib.hid (H.out.bel hb)
      have HB := Lib.hid hb
      clear hb c0 HCQ CC
      go_wp2
      go_ret
      rw [HR.out.1, HR.out.2]
      exact ⟨rfl, H1.out, grown_some HB.out g⟩
theorem claim_nil (s k : Int) (w : World) :
    Calls Try.prog 11 #[.pointer none, .int .i64 s, .int .i64 k] w fun e w' => e = .returned (.int .i64 1) ∧ w = w' := by
  go_enter Try.func11, Try.ntmps11
  go_wp2_with fail
  refine (may_nil _ _ _).mono ?_
  rintro e _ ⟨rfl, rfl⟩
  go_wp2
  go_ret
  exact ⟨rfl, rfl⟩
set_option maxHeartbeats 2000000 in
theorem give_any (s k : Int) (w : World) (h : Mp w b g cap bs) (hs1 : -9223372036854775808 ≤ s) (hs2 : s ≤ 9223372036854775807) (hk1 : -9223372036854775808 ≤ k) (hk2 : k ≤ 9223372036854775807) :
    Calls Try.prog 13 #[.pointer (some ⟨b, 0, none⟩), .int .i64 s, .int .i64 k] w fun e w' => e = .returned (.int .i64 (actE bs s k true 4)) ∧ Mp w' b g cap (actB bs s k true) ∧ w.grownBy w' (some g) := by
  have C := may_any s k w h hs1 hs2 hk1 hk2
  cases hm : mayB bs.length s k with
  | false =>
    rw [hm] at C
    have HR : Hid (actE bs s k true 4 = 1 ∧ actB bs s k true = bs) := Lib.hid ⟨by unfold actE; rw [hm]; rfl, by unfold actB goB; rw [hm]; rfl⟩
    have H := Lib.hid h
    have CC := Lib.hid C
    clear h hm C
    go_enter Try.func13, Try.ntmps13
    go_wp2_with fail
    refine CC.out.mono ?_
    rintro e _ ⟨rfl, rfl⟩
    go_wp2
    go_ret
    rw [HR.out.1, HR.out.2]
    exact ⟨rfl, H.out, World.grownBy.refl _ _⟩
  | true =>
    rw [hm] at C
    have hm' : 1 ≤ k ∧ 0 ≤ s ∧ s < bs.length ∧ k ≤ bs.length - s := of_decide_eq_true hm
    obtain ⟨S, rfl⟩ := Int.eq_ofNat_of_zero_le hm'.2.1
    obtain ⟨K, rfl⟩ := Int.eq_ofNat_of_zero_le (show 0 ≤ k by omega)
    have hsm := h.small
    have CQ := fun (X : World) (hX : Mp X b g cap bs) => contains_any (fun i => b_ bs (S + i)) false g S K (cap - S) X (fun i hi => hX.cB (by omega)) (by omega) hX.lt.2
    have ha := any_all bs S K true
    rw [show (!true) = false from rfl] at ha
    rw [ha] at CQ
    have c0 := h.c0
    have H := Lib.hid h
    have CC := Lib.hid C
    have HCQ := Lib.hid CQ
    obtain ⟨n, hn⟩ : ∃ n, bs.length = n := ⟨_, rfl⟩
    have HN := Lib.hid hn
    rw [hn] at c0 hsm hm'
    obtain ⟨p, hp⟩ : ∃ p, S + K = p := ⟨_, rfl⟩
    have hp1 : (S : Int) + (K : Int) = (p : Int) := by omega
    have hp2 : S ≤ p := by omega
    have hp3 : p ≤ cap := by omega
    have hp4 : p - S = K := by omega
    have hp5 : ¬ cap = S := by omega
    have hp6 : ¬ cap < p := by omega
    have hp7 : ¬ p < S := by omega
    have hp8 : p ≤ 2048 := by omega
    have hpn : S + K ≤ n := by omega
    cases hall : allB bs S K true with
    | true =>
      rw [hall] at HCQ
      have HR : Hid (actE bs (S : Int) (K : Int) true 4 = 0 ∧ actB bs (S : Int) (K : Int) true = mk bs S false K) := Lib.hid ⟨by unfold actE; rw [hm, Int.toNat_natCast, Int.toNat_natCast, hall]; rfl, by unfold actB goB; rw [hm, Int.toNat_natCast, Int.toNat_natCast, hall]; rfl⟩
      clear h hm C CQ hn hall ha hm' hp
      go_enter Try.func13, Try.ntmps13
      go_wp2_with fail
      refine CC.out.mono ?_
      rintro e _ ⟨rfl, rfl⟩
      go_wp2_with fail
      refine (HCQ.out _ H.out).mono ?_
      rintro e w1 ⟨rfl, hb⟩
      have H1 := Lib.hid (H.out.bel hb)
      have HB := Lib.hid hb
      clear hb c0 HCQ CC
      go_wp2_with fail
      refine (mark_any S K false _ H1.out (by rw [HN.out]; exact hpn)).mono ?_
      rintro e w2 ⟨⟨x, rfl⟩, h2, g2⟩
      have H2 := Lib.hid h2
      have G2 := Lib.hid g2
      clear h2 g2
      go_wp2
      go_ret
      rw [HR.out.1, HR.out.2]
      exact ⟨rfl, H2.out, (grown_some HB.out g).trans G2.out⟩
    | false =>
      rw [hall] at HCQ
      have HR : Hid (actE bs (S : Int) (K : Int) true 4 = 4 ∧ actB bs (S : Int) (K : Int) true = bs) := Lib.hid ⟨by unfold actE; rw [hm, Int.toNat_natCast, Int.toNat_natCast, hall]; rfl, by unfold actB goB; rw [hm, Int.toNat_natCast, Int.toNat_natCast, hall]; rfl⟩
      clear h hm C CQ hn hall ha hm' hp
      go_enter Try.func13, Try.ntmps13
      go_wp2_with fail
      refine CC.out.mono ?_
      rintro e _ ⟨rfl, rfl⟩
      go_wp2_with fail
      refine (HCQ.out _ H.out).mono ?_
      rintro e w1 ⟨rfl, hb⟩
      have H1 := Lib.hid (H.out.bel hb)
      have HB := Lib.hid hb
      clear hb c0 HCQ CC
      go_wp2
      go_ret
      rw [HR.out.1, HR.out.2]
      exact ⟨rfl, H1.out, grown_some HB.out g⟩
theorem give_nil (s k : Int) (w : World) :
    Calls Try.prog 13 #[.pointer none, .int .i64 s, .int .i64 k] w fun e w' => e = .returned (.int .i64 1) ∧ w = w' := by
  go_enter Try.func13, Try.ntmps13
  go_wp2_with fail
  refine (may_nil _ _ _).mono ?_
  rintro e _ ⟨rfl, rfl⟩
  go_wp2
  go_ret
  exact ⟨rfl, rfl⟩
/-! Used -/
theorem sum_le : ∀ (l : List (Nat × Nat)) (m : Nat), (∀ p ∈ l, p.2 ≤ m) → sumL l ≤ l.length * m
  | [], m, _ => Nat.zero_le _
  | p :: l, m, h => by
    have h1 := h p List.mem_cons_self
    have h2 := sum_le l m fun q hq => h q (List.mem_cons_of_mem _ hq)
    unfold sumL at h2 ⊢
    rw [List.map_cons, List.sum_cons, List.length_cons, Nat.succ_mul]
    omega
theorem sum_app (l : List (Nat × Nat)) (x : Nat × Nat) : sumL (l ++ [x]) = sumL l + x.2 := by simp [sumL]
structure UsRun (w : World) (b n : Nat) (pre : List (Nat × Nat)) (X : World) : Prop where
  below : Below w.heap.size w X
  num : blk X w.heap.size = some (.cells #[.int .i64 ((n : Int) - (sumL pre : Nat))] 3 (0, 0))
  box : BoxP (w.heap.size + 1) (some ⟨b, 0, none⟩) X
  size : w.heap.size + 2 ≤ X.heap.size
theorem UsRun.grown {w : World} {b n : Nat} {pre : List (Nat × Nat)} {X Y : World} {row : Option Nat} (h : UsRun w b n pre X) (hg : X.grownBy Y row) (hr : ∀ r, row = some r → w.heap.size + 2 ≤ r) : UsRun w b n pre Y :=
  ⟨below_grown (B := 0) h.below hg (Nat.le_refl _) fun r e => by have := hr r e; omega, blk_grown h.num hg fun r e => by have := hr r e; omega, blk_grown h.box hg fun r e => by have := hr r e; omega, Nat.le_trans h.size hg.size⟩
theorem hold_low {B : Nat} {own : Nat → Prop} {X Y : World} (hs : X.heap.size ≤ Y.heap.size) (h : ∀ k, B ≤ k → blk Y k = blk X k) : Hold B own X Y := ⟨hs, fun k hk _ _ => h k hk⟩
theorem pre_sum {bs : List Bool} {pre : List (Nat × Nat)} (h : pre <+: runs bs) (hl : bs.length ≤ 2048) : sumL pre ≤ 4194304 ∧ ∀ p ∈ pre, p.2 ≤ 2048 := by
  have h1 : ∀ p ∈ pre, p.2 ≤ 2048 := fun p hp => by
    have := (good_runs bs).sound p (h.subset hp)
    omega
  have h2 := sum_le pre 2048 h1
  have h3 := h.length_le
  have h4 := runs_len bs
  have h5 : pre.length * 2048 ≤ 2048 * 2048 := Nat.mul_le_mul_right _ (by omega)
  exact ⟨by omega, h1⟩
set_option maxHeartbeats 4000000 in
theorem used_any (w : World) (h : Mp w b g cap bs) :
    Calls Try.prog 16 #[.pointer (some ⟨b, 0, none⟩)] w fun e w' => e = .returned (.int .i64 ((bs.length : Int) - (sumL (runs bs) : Nat))) ∧ Below w.heap.size w w' := by
  have c0 := h.c0
  have H := Lib.hid h
  have hl := h.lt
  have hs2 := h.small.2.1
  obtain ⟨n, hn⟩ : ∃ n, bs.length = n := ⟨_, rfl⟩
  have HN := Lib.hid hn
  rw [hn] at c0 hs2 ⊢
  clear h hn
  refine callsIn_wide.1 (callsIn_of_wp_marks (F := Fence.wide) (n := 0) Try.func16 rfl trivial ?_ rfl)
  simp only [Try.ntmps16, List.size_toArray, List.length_cons, List.length_nil, Nat.reduceAdd, Nat.reduceSub, Array.replicate_succ, Array.replicate_zero, List.push_toArray, List.append_toArray, List.nil_append, List.cons_append]
  gi_wp2_with fail
  refine ⟨trivial, rfl, (callsIn_wide.2 (free_any _ _)).mono ?_⟩
  rintro e W1 ⟨rfl, hW1⟩
  have R0 : UsRun w b n [] W1 := by
    rw [hW1]
    refine ⟨?_, ?_, ?_, by simp⟩
    · repeat' (first | (with_reducible exact Below.refl _ _) | (with_reducible refine Rd.below_step ?_ (by assumption)) | (with_reducible refine Rd.below_alloc ?_ _) | (with_reducible refine Rd.below_drewN ?_ _) | (with_reducible refine Below.drew ?_) | (with_reducible refine Below.setCell ?_ ?_ _) | (with_reducible refine Rd.below_setRow ?_ ?_ _) | go_size | (simp only [World.size_alloc]; omega) | omega)
    · refine (blk_alloc_old _ _ _ (by simp)).trans ?_
      refine (blk_alloc_at _ _ _ rfl).trans ?_
      simp [sumL]
    · exact blk_alloc_at _ _ _ (by simp)
  have HR0 := Lib.hid R0
  have hs1 : W1.heap.size = w.heap.size + 2 := by rw [hW1]; simp
  clear hW1 R0 c0
  gi_wp2_with fail
  try simp only [World.size_alloc, Nat.add_assoc, Nat.reduceAdd]
  refine range_seq (gf := 30) (lb := #[.pointer (some ⟨w.heap.size + 1, 0, none⟩)]) rfl enters_free (free_seq (b := b) (g := g) (cap := cap) (w.heap.size + 1) bs) (fun _ => rfl)
    (fun pre Z => UsRun w b n pre Z) (fun _ _ _ => False) (fun _ _ _ => False) ?hI ?hIx (mine_none _ _) (fun _ _ h => ⟨h.box, H.out.below h.below hl.1 hl.2⟩) HR0.out ?round ?done ?stop
  case hI => exact fun s X Y row h hg hr => h.grown hg fun r e => by have := (hr r e).1; omega
  case hIx => exact fun c s X Y row h hg hr => h
  case round =>
    intro l' pre x Z hl' hrec hI hpre
    obtain ⟨x, y⟩ := x
    obtain ⟨hsum, hall⟩ := pre_sum hpre (by rw [HN.out]; exact hs2)
    have hy : y ≤ 2048 := hall (x, y) (by simp)
    rw [sum_app] at hsum
    have HS : Hid (sumL (pre ++ [(x, y)]) = sumL pre + y) := Lib.hid (sum_app pre (x, y))
    obtain ⟨rr, hrr⟩ := hrec
    have hlz := get_lt hrr
    obtain ⟨q, hq⟩ : ∃ q, sumL pre = q := ⟨_, rfl⟩
    have HQ := Lib.hid hq
    simp only at hsum
    rw [hq] at hsum
    clear hI hpre hrr hall hq
    simp only [encP]
    gi_wp2_with fail
    refine ⟨World.grownBy.refl _ _, fun X2 hg hI2 hl2 => ?_⟩
    have HI2 := Lib.hid hI2
    have cn : X2.cell? ⟨w.heap.size, 0, none⟩ = some (.int .i64 ((n : Int) - (q : Nat))) := by rw [blk_cell hI2.num, HQ.out]; rfl
    have fn_ := blk_frozen hI2.num 0
    clear hg hI2 hl2
    gi_wp2
    refine ⟨hold_low (by simp) fun k hk => ?_, ⟨Below.setCell HI2.out.below (Nat.le_refl _) _, ?_, ?_, by simpa using HI2.out.size⟩, fun _ h _ => h.elim⟩
    · rw [blk_set_far' _ _ _ _ (by simp; omega)]
    · rw [HS.out, HQ.out]
      have := blk_set X2 w.heap.size 0 (.int .i64 ((n : Int) - (q : Nat) - (y : Nat))) _ _ HI2.out.num
      refine this.trans ?_
      simp
      omega
    · exact (blk_set_far' _ _ _ _ (by simp)).trans HI2.out.box
  case done =>
    intro D Z hD hI hdef
    have HI := Lib.hid hI
    have cn : Z.cell? ⟨w.heap.size, 0, none⟩ = some (.int .i64 ((n : Int) - (sumL (runs bs) : Nat))) := by rw [blk_cell hI.num]; rfl
    clear hI
    gi_wp2
    refine leaves_marks (Ds := [D]) (B := w.heap.size + 2) (fun Y => UsRun w b n (runs bs) Y) (fun E Y hE hY he => hY.grown (grownBy_putObj' _ _ _) fun r e => by injection e with e; omega) (fun Y hY => ⟨_, results_tmp rfl _ _ _, rfl, hY.below⟩) (by simp) Z HI.out fun E hp => ?_
    obtain rfl : E = D := by simpa using hp
    exact ⟨by omega, hdef⟩
  case stop => exact fun D c pre Z hD hpre hx hdef => hx.elim
theorem used_nil (w : World) :
    Calls Try.prog 16 #[.pointer none] w fun e w' => e = .returned (.int .i64 0) ∧ w = w' := by
  refine callsIn_wide.1 (callsIn_of_wp_marks (F := Fence.wide) (n := 0) Try.func16 rfl trivial ?_ rfl)
  simp only [Try.ntmps16, List.size_toArray, List.length_cons, List.length_nil, Nat.reduceAdd, Nat.reduceSub, Array.replicate_succ, Array.replicate_zero, List.push_toArray, List.append_toArray, List.nil_append, List.cons_append]
  gi_wp2
  refine leaves_marks (Ds := []) (B := w.heap.size) (fun Y => w = Y) (fun E Y hE hY he => absurd hE (by rw [hY] at hE ⊢; have := get_lt he; omega)) (fun Y hY => ⟨_, results_tmp rfl _ _ _, rfl, hY⟩) (by simp) w rfl fun E hp => by simp at hp
/-! Take -/
structure TkEnd (w : World) (g : Nat) (r e : Int) (X : World) : Prop where
  grown : w.grownBy X (some g)
  num : blk X (w.heap.size + 2) = some (.cells #[.int .i64 r] 3 (0, 0))
  err : blk X (w.heap.size + 3) = some (.cells #[.int .i64 e] 25 (0, 0))
structure TkRun (w : World) (b g cap : Nat) (bs : List Bool) (n : Nat) (pre : List (Nat × Nat)) (X : World) : Prop where
  fin : TkEnd w g 0 0 X
  below : Below w.heap.size w X
  m : blk X w.heap.size = some (.cells #[.pointer (some ⟨b, 0, none⟩)] 24 (0, 0))
  nb : blk X (w.heap.size + 1) = some (.cells #[.int .i64 (n : Int)] 3 (0, 0))
  box : BoxP (w.heap.size + 4) (some ⟨b, 0, none⟩) X
  not : ∀ p ∈ pre, decide (n ≤ p.2) = false
  size : w.heap.size + 5 ≤ X.heap.size
theorem grown_far {w X Y : World} {g : Nat} {row : Option Nat} (h : w.grownBy X (some g)) (hg : X.grownBy Y row) (hr : ∀ r, row = some r → w.heap.size ≤ r) : w.grownBy Y (some g) :=
  ⟨hg.os.trans h.os, hg.tape.trans h.tape, hg.output.trans h.output, Nat.le_trans h.size hg.size, fun k hk hne => (hg.block k (Nat.lt_of_lt_of_le hk h.size) fun e => by have := hr k e.symm; omega).trans (h.block k hk hne)⟩
theorem TkEnd.far {w X Y : World} {g : Nat} {r e : Int} {row : Option Nat} (h : TkEnd w g r e X) (hg : X.grownBy Y row) (hr : ∀ r, row = some r → w.heap.size + 5 ≤ r) : TkEnd w g r e Y :=
  ⟨grown_far h.grown hg fun r e => by have := hr r e; omega, blk_grown h.num hg fun r e => by have := hr r e; omega, blk_grown h.err hg fun r e => by have := hr r e; omega⟩
theorem TkRun.far {w : World} {n : Nat} {pre : List (Nat × Nat)} {X Y : World} {row : Option Nat} (h : TkRun w b g cap bs n pre X) (hg : X.grownBy Y row) (hr : ∀ r, row = some r → w.heap.size + 5 ≤ r) : TkRun w b g cap bs n pre Y :=
  ⟨h.fin.far hg hr, below_grown (B := 0) h.below hg (Nat.le_refl _) fun r e => by have := hr r e; omega, blk_grown h.m hg fun r e => by have := hr r e; omega, blk_grown h.nb hg fun r e => by have := hr r e; omega, blk_grown h.box hg fun r e => by have := hr r e; omega, h.not, Nat.le_trans h.size hg.size⟩
theorem tk_results {fn : Func} (hf : fn.results = #[.cell 4 3, .cell 5 25]) {w X : World} {g : Nat} {r e : Int} (h : TkEnd w g r e X) (tmps : Array Value) (h4 : tmps.getD 4 undef = .pointer (some ⟨w.heap.size + 2, 0, none⟩)) (h5 : tmps.getD 5 undef = .pointer (some ⟨w.heap.size + 3, 0, none⟩)) :
    (results fn tmps).run Try.prog X = .ok (.tuple #[.int .i64 r, .int .i64 e]) X := by
  have hp4 : tmps[4]?.getD undef = .pointer (some ⟨w.heap.size + 2, 0, none⟩) := by simpa using h4
  have hp5 : tmps[5]?.getD undef = .pointer (some ⟨w.heap.size + 3, 0, none⟩) := by simpa using h5
  have hc1 : X.cell? ⟨w.heap.size + 2, 0, none⟩ = some (.int .i64 r) := by rw [blk_cell h.num]; rfl
  have hc2 : X.cell? ⟨w.heap.size + 3, 0, none⟩ = some (.int .i64 e) := by rw [blk_cell h.err]; rfl
  have hb1 : (loadVar 3 ⟨w.heap.size + 2, 0, none⟩).run Try.prog X = .ok (.int .i64 r) X := by simp [go_sem, hc1]
  have hb2 : (loadVar 25 ⟨w.heap.size + 3, 0, none⟩).run Try.prog X = .ok (.int .i64 e) X := by simp [go_sem, hc2]
  simp [results, hf, hp4, hp5, asAddr, hb1, hb2]
def tkA (bs : List Bool) (n : Nat) : Int := ((first bs n).getD 0 : Nat)
def tkE (bs : List Bool) (n : Nat) : Int := if (first bs n).isSome = true then 0 else 6
def tkB (bs : List Bool) (n : Nat) : List Bool := match first bs n with | some a => mk bs a true n | none => bs
theorem tk_hit {bs : List Bool} {n x y : Nat} {q : List (Nat × Nat)} (h : q ++ [(x, y)] <+: runs bs) (hq : ∀ p ∈ q, decide (n ≤ p.2) = false) (hn : n ≤ y) : first bs n = some x := by
  obtain ⟨t, ht⟩ := h
  unfold first
  rw [← ht, List.append_assoc, List.find?_append, List.find?_eq_none.2 (fun p hp => by rw [hq p hp]; decide)]
  simp [hn]
theorem tk_miss {bs : List Bool} {n : Nat} (hq : ∀ p ∈ runs bs, decide (n ≤ p.2) = false) : first bs n = none := by
  unfold first
  rw [List.find?_eq_none.2 (fun p hp => by rw [hq p hp]; decide)]; rfl
theorem tk_start (w : World) (b g cap n : Nat) (bs : List Bool) : TkRun w b g cap bs n [] (((((w.alloc (.cells #[.pointer (some ⟨b, 0, none⟩)] 24)).alloc (.cells #[.int .i64 (n : Int)] 3)).alloc (.cells #[.int .i64 0] 3)).alloc (.cells #[.int .i64 0] 25)).alloc (.cells #[.pointer (some ⟨b, 0, none⟩)] 24)) := by
  have O : ∀ (X : World) (o : Obj) (k : Nat) {p : Obj}, k < X.heap.size → blk X k = some p → blk (X.alloc o) k = some p := fun X o k p h e => (blk_alloc_old X o k h).trans e
  have B : Below w.heap.size w (((((w.alloc (.cells #[.pointer (some ⟨b, 0, none⟩)] 24)).alloc (.cells #[.int .i64 (n : Int)] 3)).alloc (.cells #[.int .i64 0] 3)).alloc (.cells #[.int .i64 0] 25)).alloc (.cells #[.pointer (some ⟨b, 0, none⟩)] 24)) := by
    refine (((((Below.refl _ w).alloc ?_ _).alloc ?_ _).alloc ?_ _).alloc ?_ _).alloc ?_ _ <;> (try simp only [World.size_alloc]) <;> omega
  refine ⟨⟨grown_some B g, ?_, ?_⟩, B, ?_, ?_, ?_, fun p hp => (by cases hp), by simp⟩
  · exact O _ _ _ (by simp) (O _ _ _ (by simp) (blk_alloc_at _ _ _ (by simp)))
  · exact O _ _ _ (by simp) (blk_alloc_at _ _ _ (by simp))
  · exact O _ _ _ (by simp <;> omega) (O _ _ _ (by simp <;> omega) (O _ _ _ (by simp <;> omega) (O _ _ _ (by simp) (blk_alloc_at _ _ _ rfl))))
  · exact O _ _ _ (by simp <;> omega) (O _ _ _ (by simp <;> omega) (O _ _ _ (by simp) (blk_alloc_at _ _ _ (by simp))))
  · exact blk_alloc_at _ _ _ (by simp)
theorem TkEnd.set {w X : World} {g : Nat} {r e r' e' : Int} (h : TkEnd w g r e X) : TkEnd w g r' e' ((X.setCell ⟨w.heap.size + 2, 0, none⟩ (.int .i64 r')).setCell ⟨w.heap.size + 3, 0, none⟩ (.int .i64 e')) := by
  refine ⟨grown_far (grown_far h.grown (ExA.set_grown _ _ _ _) fun r e => by injection e with e; omega) (ExA.set_grown _ _ _ _) fun r e => by injection e with e; omega, ?_, ?_⟩
  · rw [blk_set_far _ _ _ _ (by simp)]
    exact blk_set _ _ _ _ _ _ h.num
  · refine blk_set _ _ _ _ _ _ ((blk_set_far' _ _ _ _ (by simp)).trans h.err)
set_option maxHeartbeats 4000000 in
theorem take_any (n : Nat) (w : World) (h : Mp w b g cap bs) (hn1 : 1 ≤ n) :
    Calls Try.prog 9 #[.pointer (some ⟨b, 0, none⟩), .int .i64 n] w fun e w' => e = .returned (.tuple #[.int .i64 (tkA bs n), .int .i64 (tkE bs n)]) ∧ Mp w' b g cap (tkB bs n) ∧ w.grownBy w' (some g) := by
  have H := Lib.hid h
  have hl := h.lt
  have hs2 := h.small.2.1
  have dn : decide ((n : Int) < 1) = false := decide_eq_false (by omega)
  clear h
  refine callsIn_wide.1 (callsIn_of_wp_marks (F := Fence.wide) (n := 0) Try.func9 rfl trivial ?_ rfl)
  simp only [Try.ntmps9, List.size_toArray, List.length_cons, List.length_nil, Nat.reduceAdd, Nat.reduceSub, Array.replicate_succ, Array.replicate_zero, List.push_toArray, List.append_toArray, List.nil_append, List.cons_append]
  gi_wp2_with fail
  refine ⟨trivial, rfl, (callsIn_wide.2 (free_any _ _)).mono ?_⟩
  rintro e W1 ⟨rfl, hW1⟩
  have R0 : TkRun w b g cap bs n [] W1 := by rw [hW1]; exact tk_start w b g cap n bs
  have hs1 : W1.heap.size = w.heap.size + 5 := by rw [hW1]; simp
  have HR0 := Lib.hid R0
  clear hW1 R0 dn
  gi_wp2_with fail
  try simp only [World.size_alloc, Nat.add_assoc, Nat.reduceAdd]
  refine range_seq (gf := 30) (lb := #[.pointer (some ⟨w.heap.size + 4, 0, none⟩)]) rfl enters_free (free_seq (b := b) (g := g) (cap := cap) (w.heap.size + 4) bs) (fun _ => rfl)
    (fun pre Z => TkRun w b g cap bs n pre Z)
    (fun c pre Z => c = .ret ∧ ∃ (q : List (Nat × Nat)) (x y : Nat), pre = q ++ [(x, y)] ∧ (∀ p ∈ q, decide (n ≤ p.2) = false) ∧ n ≤ y ∧ TkEnd w g x 0 Z ∧ Mp Z b g cap (mk bs x true n))
    (fun _ _ _ => False) ?hI ?hIx (mine_none _ _) (fun _ _ h => ⟨h.box, H.out.below h.below hl.1 hl.2⟩) HR0.out ?round ?done ?stop
  case hI => exact fun s X Y row h hg hr => h.far hg fun r e => by have := (hr r e).1; omega
  case hIx => exact fun c s X Y row ⟨h1, q, x, y, h2, h3, h5, h4, h6⟩ hg hr => ⟨h1, q, x, y, h2, h3, h5, h4.far hg fun r e => by have := (hr r e).1; omega, h6.kept (hg.block b h6.lt.1 fun e => by have := (hr b e.symm).1; omega) (hg.block g h6.lt.2 fun e => by have := (hr g e.symm).1; omega)⟩
  case round =>
    intro l' pre x Z hl' hrec hI hpre
    obtain ⟨x, y⟩ := x
    have HPR := Lib.hid hpre
    obtain ⟨rr, hrr⟩ := hrec
    have hlz := get_lt hrr
    clear hI hpre hrr
    simp only [encP]
    gi_wp2_with fail
    refine ⟨World.grownBy.refl _ _, fun X2 hg hI2 hl2 => ?_⟩
    have HI2 := Lib.hid hI2
    have c1 : X2.cell? ⟨w.heap.size, 0, none⟩ = some (.pointer (some ⟨b, 0, none⟩)) := by rw [blk_cell hI2.m]; rfl
    have c2 : X2.cell? ⟨w.heap.size + 1, 0, none⟩ = some (.int .i64 (n : Int)) := by rw [blk_cell hI2.nb]; rfl
    have HM := Lib.hid (H.out.below hI2.below hl.1 hl.2)
    clear hg hI2 hl2
    by_cases hny : n ≤ y
    · have hny' : (n : Int) ≤ (y : Int) := by omega
      have hsd : x + n ≤ bs.length := by
        have := ((good_runs bs).sound (x, y) (HPR.out.subset (by simp))).2.2.1
        simp only at this
        omega
      gi_wp2_with fail
      refine ⟨trivial, rfl, (CallsIn.inRound _ (callsIn_wide.2 (mark_any x n true _ HM.out hsd))).mono ?_⟩
      rintro e X3 ⟨⟨v, rfl⟩, h3, g3⟩
      have H3 := Lib.hid h3
      have G3 := Lib.hid g3
      have F3 : TkEnd w g 0 0 X3 := ⟨HI2.out.fin.grown.trans g3, (g3.block _ (blk_lt HI2.out.fin.num) fun e => by injection e with e; omega).trans HI2.out.fin.num, (g3.block _ (blk_lt HI2.out.fin.err) fun e => by injection e with e; omega).trans HI2.out.fin.err⟩
      have HF3 := Lib.hid F3
      have cn : X3.cell? ⟨w.heap.size + 2, 0, none⟩ = some (.int .i64 0) := by rw [blk_cell F3.num]; rfl
      have fn_ := blk_frozen F3.num 0
      have bo := fun (v : Value) => (blk_set_far' X3 ⟨w.heap.size + 2, 0, none⟩ (w.heap.size + 3) v (by simp)).trans F3.err
      have co : ∀ v : Value, (X3.setCell ⟨w.heap.size + 2, 0, none⟩ v).cell? ⟨w.heap.size + 3, 0, none⟩ = some (.int .i64 0) := fun v => by rw [blk_cell (bo v)]; rfl
      have fo : ∀ v : Value, (X3.setCell ⟨w.heap.size + 2, 0, none⟩ v).frozen? ⟨w.heap.size + 3, 0, none⟩ = false := fun v => blk_frozen (bo v) 0
      clear h3 g3 F3 c1 c2 bo
      gi_wp2
      refine ⟨⟨?_, fun k h1 h2 _ => ?_⟩, rfl, pre, x, y, rfl, HI2.out.not, hny, HF3.out.set, ?_⟩
      · have := G3.out.size
        simpa using this
      · show blk _ k = blk _ k
        rw [blk_set_far' _ _ _ _ (by simp; omega), blk_set_far' _ _ _ _ (by simp; omega)]
        exact G3.out.block k h2 fun e => by injection e with e; omega
      · exact H3.out.kept ((blk_set_far _ _ _ _ (by simp; omega)).trans (blk_set_far _ _ _ _ (by simp; omega))) ((blk_set_far _ _ _ _ (by simp; omega)).trans (blk_set_far _ _ _ _ (by simp; omega)))
    · have hny' : ¬ (n : Int) ≤ (y : Int) := by omega
      gi_wp2
      refine ⟨Hold.refl _ _ _, ⟨HI2.out.fin, HI2.out.below, HI2.out.m, HI2.out.nb, HI2.out.box, fun p hp => ?_, HI2.out.size⟩, fun _ h _ => h.elim⟩
      rcases List.mem_append.1 hp with e | e
      · exact HI2.out.not p e
      · rw [List.mem_singleton.1 e]; exact decide_eq_false hny
  case done =>
    intro D Z hD hI hdef
    have HI := Lib.hid hI
    have HM := Lib.hid (H.out.below hI.below hl.1 hl.2)
    have cn : Z.cell? ⟨w.heap.size + 2, 0, none⟩ = some (.int .i64 0) := by rw [blk_cell hI.fin.num]; rfl
    have fn_ := blk_frozen hI.fin.num 0
    have bo := fun (v : Value) => (blk_set_far' Z ⟨w.heap.size + 2, 0, none⟩ (w.heap.size + 3) v (by simp)).trans hI.fin.err
    have co : ∀ v : Value, (Z.setCell ⟨w.heap.size + 2, 0, none⟩ v).cell? ⟨w.heap.size + 3, 0, none⟩ = some (.int .i64 0) := fun v => by rw [blk_cell (bo v)]; rfl
    have fo : ∀ v : Value, (Z.setCell ⟨w.heap.size + 2, 0, none⟩ v).frozen? ⟨w.heap.size + 3, 0, none⟩ = false := fun v => blk_frozen (bo v) 0
    clear hI bo
    gi_wp2
    have hm := tk_miss HI.out.not
    have e1 : tkA bs n = 0 := by unfold tkA; rw [hm]; rfl
    have e2 : tkE bs n = 6 := by unfold tkE; rw [hm]; rfl
    have e3 : tkB bs n = bs := by unfold tkB; rw [hm]
    rw [e1, e2, e3]
    refine leaves_marks (Ds := [D]) (B := w.heap.size + 5) (fun Y => TkEnd w g 0 6 Y ∧ Mp Y b g cap bs) (fun E Y hE hY he => ⟨hY.1.far (grownBy_putObj' _ _ _) fun r e => by injection e with e; omega, hY.2.kept (World.putObj_heap_other (by omega)) (World.putObj_heap_other (by omega))⟩) (fun Y hY => ⟨_, tk_results rfl hY.1 _ rfl rfl, rfl, hY.2, hY.1.grown⟩) (by simp) _ ⟨HI.out.fin.set, ?_⟩ fun E hp => ?_
    · exact HM.out.kept ((blk_set_far _ _ _ _ (by simp; omega)).trans (blk_set_far _ _ _ _ (by simp; omega))) ((blk_set_far _ _ _ _ (by simp; omega)).trans (blk_set_far _ _ _ _ (by simp; omega)))
    · obtain rfl : E = D := by simpa using hp
      refine ⟨by omega, ?_⟩
      exact ((blk_set_far' _ _ _ _ (by simp; omega)).trans (blk_set_far' _ _ _ _ (by simp; omega))).trans hdef
  case stop =>
    intro D c pre Z hD hpre hx hdef
    obtain ⟨rfl, q, x, y, rfl, hq, hny, hx, hxm⟩ := hx
    have hm := tk_hit hpre hq hny
    have e1 : tkA bs n = x := by unfold tkA; rw [hm]; rfl
    have e2 : tkE bs n = 0 := by unfold tkE; rw [hm]; rfl
    have e3 : tkB bs n = mk bs x true n := by unfold tkB; rw [hm]
    gi_wp2_with fail
    rw [e1, e2, e3]
    refine leaves_marks (Ds := [D]) (B := w.heap.size + 5) (fun Y => TkEnd w g x 0 Y ∧ Mp Y b g cap (mk bs x true n)) (fun E Y hE hY he => ⟨hY.1.far (grownBy_putObj' _ _ _) fun r e => by injection e with e; omega, hY.2.kept (World.putObj_heap_other (by omega)) (World.putObj_heap_other (by omega))⟩) (fun Y hY => ⟨_, tk_results rfl hY.1 _ rfl rfl, rfl, hY.2, hY.1.grown⟩) (by simp) _ ⟨hx, hxm⟩ fun E hp => ?_
    obtain rfl : E = D := by simpa using hp
    exact ⟨by omega, hdef⟩
end Go.Proofs.Ytmhjhfjbfoklpaa.ExD

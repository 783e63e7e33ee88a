/-
  All free runs, and all used sectors, are the whole (ExtentFree).
-/
import Derived.Test.YtmhjhfjbfoklpaaExE
import Derived.Test.YtmhjhfjbfoklpaaInts
import Derived.Test.YtmhjhfjbfoklpaaPredT
namespace Go.Proofs.Ytmhjhfjbfoklpaa.ExF
open Go.RowKit Rd Go.Proofs.Ytmhjhfjbfoklpaa.Row ExM ExA ExB ExC ExD ExE
open Go.Proofs.Ytmhjhfjbfoklpaa.Pred (Is is_stab Stab)
set_option linter.unusedVariables false
set_option linter.unusedSimpArgs false
set_option maxRecDepth 100000
structure Cov (bs cs : List Bool) (k : Nat) : Prop where
  len : cs.length = bs.length
  at_ : ∀ j, b_ cs j = true ↔ b_ bs j = true ∨ ∃ i, ∃ h : i < (runs bs).length, i < k ∧ (runs bs)[i].1 ≤ j ∧ j < (runs bs)[i].1 + (runs bs)[i].2
theorem cov_start (bs : List Bool) : Cov bs bs 0 := ⟨rfl, fun j => ⟨fun h => Or.inl h, fun h => by
  rcases h with h | ⟨i, -, h, -⟩
  · exact h
  · omega⟩⟩
theorem cov_go {bs cs : List Bool} {k x y : Nat} (h : Cov bs cs k) (hk : k < (runs bs).length) (hx : (runs bs)[k] = (x, y)) : goB cs x y false = true ∧ Cov bs (mk cs x true y) (k + 1) := by
  have hG := good_runs bs
  obtain ⟨-, s1, s2, s3, s4⟩ := hG.sound _ (List.getElem_mem hk)
  rw [hx] at s1 s2 s3 s4
  simp only at s1 s2 s3 s4
  have hap := List.pairwise_iff_getElem.1 hG.apart
  constructor
  · unfold goB
    rw [Bool.and_eq_true]
    refine ⟨decide_eq_true ⟨by omega, by omega, by rw [h.len]; omega, by rw [h.len]; omega⟩, ?_⟩
    rw [Int.toNat_natCast, Int.toNat_natCast, allB_iff]
    intro j h1 h2
    cases hb : b_ cs j with
    | false => rfl
    | true =>
      exfalso
      rcases (h.at_ j).1 hb with h3 | ⟨i, hi, hik, h4, h5⟩
      · rw [s3 j h1 h2] at h3; cases h3
      · have := hap i k hi hk hik
        rw [hx] at this
        simp only at this
        omega
  · refine ⟨by rw [mk_len, h.len], fun j => ?_⟩
    rw [mk_at cs x true y (by rw [h.len]; exact s2)]
    constructor
    · intro h1
      by_cases e : x ≤ j ∧ j < x + y
      · exact Or.inr ⟨k, hk, by omega, by rw [hx]; exact e⟩
      · rw [if_neg e] at h1
        rcases (h.at_ j).1 h1 with h3 | ⟨i, hi, hik, h4⟩
        · exact Or.inl h3
        · exact Or.inr ⟨i, hi, by omega, h4⟩
    · intro h1
      by_cases e : x ≤ j ∧ j < x + y
      · rw [if_pos e]
      · rw [if_neg e]
        refine (h.at_ j).2 ?_
        rcases h1 with h3 | ⟨i, hi, hik, h4⟩
        · exact Or.inl h3
        · refine Or.inr ⟨i, hi, ?_, h4⟩
          by_cases e2 : i = k
          · subst e2
            rw [hx] at h4
            exact absurd h4 e
          · omega
theorem cov_end {bs cs : List Bool} {k : Nat} (h : Cov bs cs k) (hk : k = (runs bs).length) : runs cs = [] := by
  refine runs_full fun j hj => ?_
  cases hb : b_ bs j with
  | true => exact (h.at_ j).2 (Or.inl hb)
  | false =>
    obtain ⟨p, hp, h1, h2⟩ := (good_runs bs).cover j (Nat.zero_le _) (by rw [← h.len]; exact hj) hb
    obtain ⟨i, hi, e⟩ := List.mem_iff_getElem.1 hp
    exact (h.at_ j).2 (Or.inr ⟨i, hi, by omega, by rw [e]; exact ⟨h1, h2⟩⟩)
theorem PRd.turn {X Y : World} {ad : Option Addr} {r : List (Nat × Nat)} {q : Nat} (h : PRd X ad r) (hg : X.grownBy Y (some q)) (hne : r = [] ∨ ∀ a, ad = some a → a.block ≠ q) : PRd Y ad r := by
  refine ⟨h.1, ?_⟩
  rcases h.2 with h2 | ⟨b2, off, e, h3, h4⟩
  · exact Or.inl h2
  · refine Or.inr ⟨b2, off, e, Nat.lt_of_lt_of_le h3 hg.size, fun i hi => ?_⟩
    rw [← h4 i hi]
    have hne2 := hne.resolve_left fun e9 => by subst e9; simp [pv] at hi
    have hb := hg.block b2 h3 fun e2 => hne2 _ e (by injection e2)
    unfold World.cell?
    simp only [hb]
theorem PRd.same {X Y : World} {gb go_ : Nat} {r : List (Nat × Nat)} (h : PRd X (some ⟨gb, go_, none⟩) r) (h' : PRd Y (some ⟨gb, go_, none⟩) r) {i : Nat} (hi : i < r.length) :
    X.cell? ⟨gb, go_ + i * 2, none⟩ = Y.cell? ⟨gb, go_ + i * 2, none⟩ ∧ X.cell? ⟨gb, go_ + i * 2 + 1, none⟩ = Y.cell? ⟨gb, go_ + i * 2 + 1, none⟩ := by
  obtain ⟨g1, o1, e1, -, h1⟩ := h.cells (by omega)
  obtain ⟨g2, o2, e2, -, h2⟩ := h'.cells (by omega)
  injection e1 with e1; injection e1 with e1 e3
  injection e2 with e2; injection e2 with e2 e4
  subst e1 e3 e2 e4
  exact ⟨(h1 i hi).1.trans (h2 i hi).1.symm, (h1 i hi).2.trans (h2 i hi).2.symm⟩
structure S1 (w X : World) (b g n : Nat) (bs : List Bool) : Prop where
  m : Mp X b g n bs
  len : bs.length = n
  below : Below w.heap.size w X
theorem S1.bel {w X Y : World} {b g n : Nat} {bs : List Bool} (h : S1 w X b g n bs) (hb : Below X.heap.size X Y) : S1 w Y b g n bs := ⟨h.m.bel hb, h.len, h.below.trans (hb.mono h.below.size)⟩
theorem claim_s1 (s k : Int) (w X : World) {b g n : Nat} {bs : List Bool} (h : S1 w X b g n bs) (hg : w.heap.size ≤ g) (hs1 : -9223372036854775808 ≤ s) (hs2 : s ≤ 9223372036854775807) (hk1 : -9223372036854775808 ≤ k) (hk2 : k ≤ 9223372036854775807) :
    Calls Try.prog 11 #[.pointer (some ⟨b, 0, none⟩), .int .i64 s, .int .i64 k] X fun e Y => (∃ r, e = .returned (.int .i64 r)) ∧ Below w.heap.size X Y ∧ ∃ bs', S1 w Y b g n bs' := by
  refine (claim_any s k X h.m hs1 hs2 hk1 hk2).mono ?_
  rintro e Y ⟨rfl, h2, g2⟩
  have hb : Below w.heap.size X Y := ⟨g2.os, g2.tape, g2.output, g2.size, fun j hj => g2.block j (by have := h.below.size; omega) fun e => by injection e with e; omega⟩
  exact ⟨⟨_, rfl⟩, hb, _, h2, by rw [act_len]; exact h.len, h.below.trans hb⟩
/-- the copy, its claims, and the runs -/
structure S2 (w X : World) (b g n b' g' cap' : Nat) (bs cs : List Bool) (ad : Option Addr) (R : List (Nat × Nat)) : Prop where
  m : Mp X b g n bs
  c : Mp X b' g' cap' cs
  r : PRd X ad R
  below : Below w.heap.size w X
  ne : b ≠ g' ∧ g ≠ g' ∧ (R = [] ∨ ∀ a, ad = some a → a.block ≠ g') ∧ w.heap.size ≤ g'
variable {b g n b' g' cap' : Nat} {bs cs : List Bool} {ad : Option Addr} {R : List (Nat × Nat)}
theorem S2.bel {w X Y : World} (h : S2 w X b g n b' g' cap' bs cs ad R) (hb : Below X.heap.size X Y) : S2 w Y b g n b' g' cap' bs cs ad R := ⟨h.m.bel hb, h.c.bel hb, h.r.below hb, h.below.trans (hb.mono h.below.size), h.ne⟩
theorem claim_s2 (x y : Nat) (w X : World) (h : S2 w X b g n b' g' cap' bs cs ad R) (hx : x ≤ 4000) (hy : y ≤ 4000) (hgo : goB cs x y false = true) :
    Calls Try.prog 11 #[.pointer (some ⟨b', 0, none⟩), .int .i64 x, .int .i64 y] X fun e Y => e = .returned (.int .i64 0) ∧ Below w.heap.size X Y ∧ S2 w Y b g n b' g' cap' bs (mk cs x true y) ad R := by
  refine (claim_any x y X h.c (by omega) (by omega) (by omega) (by omega)).mono ?_
  rintro e Y ⟨he, h2, g2⟩
  have hb : Below w.heap.size X Y := ⟨g2.os, g2.tape, g2.output, g2.size, fun j hj => g2.block j (by have := h.below.size; omega) fun e => by injection e with e; have := h.ne.2.2.2; omega⟩
  have e1 : actE cs x y false 5 = 0 := by
    have h3 := hgo
    unfold goB at h3
    rw [Bool.and_eq_true] at h3
    unfold actE
    rw [if_pos h3.1, if_pos h3.2]
  have e2 : actB cs x y false = mk cs x true y := by
    unfold actB
    rw [if_pos hgo]
    rfl
  rw [e1] at he
  rw [e2] at h2
  exact ⟨he, hb, h.m.turn g2 h.ne.1 h.ne.2.1, h2, PRd.turn h.r g2 h.ne.2.2.1, h.below.trans hb, h.ne⟩
set_option maxHeartbeats 16000000 in
theorem free_gen (m : Int) (ai : Option Addr) (len cap : Nat) (zs : List Int) (w : World) (hm1 : -9223372036854775808 ≤ m) (hm2 : m ≤ 9223372036854775807)
    (hz : ∀ z ∈ zs, Ints.In64 z) (hzl : zs.length = len * 2) (hR : Reads w 2 ai len (Ints.i64s zs)) :
    Calls Try.prog 5 #[.int .i64 m, .slice ai len cap] w fun e w' => e = .returned (.bool true) ∧ Below w.heap.size w w' := by
  have HRD := Lib.hid hR
  have HZ := Lib.hid hz
  have HZL := Lib.hid hzl
  clear hR hz hzl
  by_cases h0 : m < 1
  · have d0 : decide (m < 1) = true := decide_eq_true h0
    go_enter Try.func5, Try.ntmps5
    go_wp2_with fail
    refine (awake_any _).mono ?_
    rintro e w2 ⟨rfl, hb2⟩
    go_wp2
    go_ret
    exact ⟨rfl, hb2⟩
  have d0 : decide (m < 1) = false := decide_eq_false h0
  by_cases h1 : 200 < m
  · have d1 : decide (200 < m) = true := decide_eq_true h1
    go_enter Try.func5, Try.ntmps5
    go_wp2_with fail
    refine (awake_any _).mono ?_
    rintro e w2 ⟨rfl, hb2⟩
    go_wp2
    go_ret
    exact ⟨rfl, hb2⟩
  have d1 : decide (200 < m) = false := decide_eq_false h1
  by_cases h2 : 40 < len
  · have d2 : decide (40 < len) = true := decide_eq_true h2
    go_enter Try.func5, Try.ntmps5
    go_wp2_with fail
    refine (awake_any _).mono ?_
    rintro e w2 ⟨rfl, hb2⟩
    go_wp2
    go_ret
    exact ⟨rfl, hb2⟩
  have d2 : decide (40 < len) = false := decide_eq_false h2
  have hl40 : len ≤ 40 := by omega
  obtain ⟨n, en⟩ : ∃ n : Nat, m = n := ⟨m.toNat, by omega⟩
  subst en
  have hn : 1 ≤ n ∧ n ≤ 2048 := by omega
  have hn1 := hn.1
  have hn2 : n ≤ 200 := by omega
  have HNN := Lib.hid hn
  clear hm1 hm2 h0 h1 h2 hn
  go_enter Try.func5, Try.ntmps5
  go_wp2_with fail
  refine (new_any n HNN.out _).mono ?_
  rintro e w1 ⟨⟨lb, lg, rfl, hb, hg, s1⟩, L1⟩
  have lt1 := s1.lt
  have HS1 : Hid (∃ bs, S1 w w1 lb lg n bs) := Lib.hid ⟨_, s1, by simp, L1⟩
  clear s1 L1 d0 d1 d2
  go_wp2_with fail
  go_loopw [7] (fun i X => ∃ k : Nat, k ≤ len ∧ i = .int .i64 k ∧ Hid (∃ bs, S1 w X lb lg n bs)) (fun i _ => len - (intOf i).toNat)
  case atStart => exact ⟨0, by omega, rfl, HS1⟩
  case round =>
    clear HS1
    obtain ⟨k, hk, rfl, HS⟩ := hrel
    rename World => W
    by_cases hlt : k < len
    · have hlt' : (k : Int) < len := by omega
      have hzl := HZL.out
      obtain ⟨ab, ao, rfl, hab, hac⟩ := Ints.cell_of HRD.out (k := 2 * k) (by omega) (by omega)
      have cx : w.cell? ⟨ab, ao + k * 2, none⟩ = some (.int .i64 (zs.getD (2 * k) 0)) := by rw [show ao + k * 2 = ao + 2 * k by omega]; exact hac _ (by omega)
      have cy : w.cell? ⟨ab, ao + k * 2 + 1, none⟩ = some (.int .i64 (zs.getD (2 * k + 1) 0)) := by rw [show ao + k * 2 + 1 = ao + (2 * k + 1) by omega]; exact hac _ (by omega)
      have hxx := Ints.getD_in HZ.out (2 * k)
      have hyy := Ints.getD_in HZ.out (2 * k + 1)
      clear hac hzl
      generalize zs.getD (2 * k) 0 = x at cx hxx
      generalize zs.getD (2 * k + 1) 0 = y at cy hyy
      have hwW : w.heap.size ≤ W.heap.size := by obtain ⟨bs, h⟩ := HS.out; exact h.below.size
      have hBW : Below w.heap.size w W := by obtain ⟨bs, h⟩ := HS.out; exact h.below
      have dx := (hBW.cell (p := ⟨ab, ao + k * 2, none⟩) hab).trans cx
      have dy := (hBW.cell (p := ⟨ab, ao + k * 2 + 1, none⟩) hab).trans cy
      clear cx cy hBW
      obtain ⟨q, hq⟩ : ∃ q, x % (n : Int) = q := ⟨_, rfl⟩
      obtain ⟨t5, hp⟩ : ∃ q, y % 5 = q := ⟨_, rfl⟩
      have hq1 : 0 ≤ q := by rw [← hq]; exact Int.emod_nonneg _ (by omega)
      have hq2 : q < n := by rw [← hq]; exact Int.emod_lt_of_pos _ (by omega)
      have hp1 : 0 ≤ t5 := by omega
      have hp2 : t5 < 5 := by omega
      have HQ := Lib.hid hq
      have HP := Lib.hid hp
      clear hq hp
      go_upto_region 9 with (fail)
      refine PredT.region_of (W := W) (w.heap.size) hwW [15] [
          fun yy => ∃ bs, S1 w yy lb lg n bs,
          fun yy => ∃ bs, S1 w yy lb lg n bs] [
          PredT.At 0 (.pointer (some ⟨lb, 0, none⟩)),
          PredT.At 0 (.slice (some ⟨ab, ao, none⟩) len cap),
          PredT.At 0 (.int .i64 k),
          PredT.At 0 (.pointer (some ⟨ab, ao + k * 2, none⟩)),
          PredT.At 0 (.pointer (some ⟨ab, ao + k * 2, none⟩)),
          PredT.At 0 (.int .i64 x),
          PredT.At 0 (.int .i64 n),
          PredT.At 0 (.int .i64 q),
          PredT.At 0 (.slice (some ⟨ab, ao, none⟩) len cap),
          PredT.At 0 (.int .i64 k),
          PredT.At 0 (.pointer (some ⟨ab, ao + k * 2, none⟩)),
          PredT.At 0 (.pointer (some ⟨ab, ao + k * 2 + 1, none⟩)),
          PredT.At 0 (.int .i64 y),
          PredT.At 0 (.int .i64 t5),
          PredT.At 0 (.int .i64 (1 + t5)),
          PredT.When 1 (fun v _ => ∃ r, v = .int .i64 r)] (by kernel_rfl) (by kernel_rfl) (by kernel_rfl) (by decide) (by decide) ?_ ?_ ?_ ?_ ?_ ?_
      · exact ⟨PredT.at_stab _ _ _ _, PredT.at_stab _ _ _ _, PredT.at_stab _ _ _ _, PredT.at_stab _ _ _ _, PredT.at_stab _ _ _ _, PredT.at_stab _ _ _ _, PredT.at_stab _ _ _ _, PredT.at_stab _ _ _ _, PredT.at_stab _ _ _ _, PredT.at_stab _ _ _ _, PredT.at_stab _ _ _ _, PredT.at_stab _ _ _ _, PredT.at_stab _ _ _ _, PredT.at_stab _ _ _ _, PredT.at_stab _ _ _ _, PredT.when_stab _ _ _ (fun _ _ _ h _ => h), trivial⟩
      · intro q hq
        rcases List.mem_cons.1 hq with rfl | hq
        · exact fun yy y' ⟨bs, h⟩ hb => ⟨bs, h.bel hb⟩
        rcases List.mem_cons.1 hq with rfl | hq
        · exact fun yy y' ⟨bs, h⟩ hb => ⟨bs, h.bel hb⟩
        cases hq
      · exact HS.out
      · refine ⟨.inr ?_, .inr ?_, .inr ?_, .inr ?_, .inr ?_, .inr ?_, .inr ?_, .inr ?_, .inr ?_, .inr ?_, .inr ?_, .inr ?_, .inr ?_, .inr ?_, .inr ?_, .inl rfl, trivial⟩
        · intro b X p hE hd hn hS hV hI hF
          have r5 : b.tmps[5]?.getD undef = .pointer (some ⟨lb, 0, none⟩) := (hn 5 (by kernel_rfl)).trans rfl
          exact Pred.yields_run (v := .pointer (some ⟨lb, 0, none⟩)) (Pred.wanted_none rfl) (by go_simp) ⟨Below.refl _ _, rfl, Nat.zero_le _⟩
        · intro b X p hE hd hn hS hV hI hF
          have r1 : b.tmps[1]?.getD undef = .slice (some ⟨ab, ao, none⟩) len cap := (hn 1 (by kernel_rfl)).trans rfl
          exact Pred.yields_run (v := .slice (some ⟨ab, ao, none⟩) len cap) (Pred.wanted_none rfl) (by go_simp) ⟨Below.refl _ _, rfl, Nat.zero_le _⟩
        · intro b X p hE hd hn hS hV hI hF
          have r7 : b.tmps[7]?.getD undef = .int .i64 k := (hn 7 (by kernel_rfl)).trans rfl
          exact Pred.yields_run (v := .int .i64 k) (Pred.wanted_none rfl) (by go_simp) ⟨Below.refl _ _, rfl, Nat.zero_le _⟩
        · intro b X p hE hd hn hS hV hI hF
          obtain ⟨r43, j43⟩ : PredT.At 0 (.slice (some ⟨ab, ao, none⟩) len cap) (b.tmps[43]?.getD undef) X p := hV 1 _ 43 rfl rfl (Pred.waits_near (by kernel_rfl) (by kernel_rfl))
          obtain ⟨r44, j44⟩ : PredT.At 0 (.int .i64 k) (b.tmps[44]?.getD undef) X p := hV 2 _ 44 rfl rfl (Pred.waits_near (by kernel_rfl) (by kernel_rfl))
          exact Pred.yields_run (v := .pointer (some ⟨ab, ao + k * 2, none⟩)) (Pred.wanted_none rfl) (by go_simp) ⟨Below.refl _ _, rfl, Nat.zero_le _⟩
        · intro b X p hE hd hn hS hV hI hF
          obtain ⟨r45, j45⟩ : PredT.At 0 (.pointer (some ⟨ab, ao + k * 2, none⟩)) (b.tmps[45]?.getD undef) X p := hV 3 _ 45 rfl rfl (Pred.waits_near (by kernel_rfl) (by kernel_rfl))
          exact Pred.yields_run (v := .pointer (some ⟨ab, ao + k * 2, none⟩)) (Pred.wanted_none rfl) (by go_simp) ⟨Below.refl _ _, rfl, Nat.zero_le _⟩
        · intro b X p hE hd hn hS hV hI hF
          obtain ⟨r46, j46⟩ : PredT.At 0 (.pointer (some ⟨ab, ao + k * 2, none⟩)) (b.tmps[46]?.getD undef) X p := hV 4 _ 46 rfl rfl (Pred.waits_near (by kernel_rfl) (by kernel_rfl))
          have cz := (hE.cell (p := ⟨ab, ao + k * 2, none⟩) hab).trans dx
          exact Pred.yields_run (v := .int .i64 x) (Pred.wanted_none rfl) (by go_simp) ⟨Below.refl _ _, rfl, Nat.zero_le _⟩
        · intro b X p hE hd hn hS hV hI hF
          have r0 : b.tmps[0]?.getD undef = .int .i64 n := (hn 0 (by kernel_rfl)).trans rfl
          exact Pred.yields_run (v := .int .i64 n) (Pred.wanted_none rfl) (by go_simp) ⟨Below.refl _ _, rfl, Nat.zero_le _⟩
        · intro b X p hE hd hn hS hV hI hF
          obtain ⟨r47, j47⟩ : PredT.At 0 (.int .i64 x) (b.tmps[47]?.getD undef) X p := hV 5 _ 47 rfl rfl (Pred.waits_near (by kernel_rfl) (by kernel_rfl))
          obtain ⟨r48, j48⟩ : PredT.At 0 (.int .i64 n) (b.tmps[48]?.getD undef) X p := hV 6 _ 48 rfl rfl (Pred.waits_near (by kernel_rfl) (by kernel_rfl))
          refine Pred.yields_call (f := 21) (args := #[.int .i64 x, .int .i64 n]) (Pred.wanted_none rfl) (by go_simp) ?_
          refine (Alk.round_any x n X hxx.1 hxx.2 (by omega) (by omega)).mono ?_
          rintro e w9 ⟨rfl, rfl⟩
          rw [HQ.out]
          exact ⟨_, rfl, Below.refl _ _, rfl, Nat.zero_le _⟩
        · intro b X p hE hd hn hS hV hI hF
          have r1 : b.tmps[1]?.getD undef = .slice (some ⟨ab, ao, none⟩) len cap := (hn 1 (by kernel_rfl)).trans rfl
          exact Pred.yields_run (v := .slice (some ⟨ab, ao, none⟩) len cap) (Pred.wanted_none rfl) (by go_simp) ⟨Below.refl _ _, rfl, Nat.zero_le _⟩
        · intro b X p hE hd hn hS hV hI hF
          have r7 : b.tmps[7]?.getD undef = .int .i64 k := (hn 7 (by kernel_rfl)).trans rfl
          exact Pred.yields_run (v := .int .i64 k) (Pred.wanted_none rfl) (by go_simp) ⟨Below.refl _ _, rfl, Nat.zero_le _⟩
        · intro b X p hE hd hn hS hV hI hF
          obtain ⟨r50, j50⟩ : PredT.At 0 (.slice (some ⟨ab, ao, none⟩) len cap) (b.tmps[50]?.getD undef) X p := hV 8 _ 50 rfl rfl (Pred.waits_near (by kernel_rfl) (by kernel_rfl))
          obtain ⟨r51, j51⟩ : PredT.At 0 (.int .i64 k) (b.tmps[51]?.getD undef) X p := hV 9 _ 51 rfl rfl (Pred.waits_near (by kernel_rfl) (by kernel_rfl))
          exact Pred.yields_run (v := .pointer (some ⟨ab, ao + k * 2, none⟩)) (Pred.wanted_none rfl) (by go_simp) ⟨Below.refl _ _, rfl, Nat.zero_le _⟩
        · intro b X p hE hd hn hS hV hI hF
          obtain ⟨r52, j52⟩ : PredT.At 0 (.pointer (some ⟨ab, ao + k * 2, none⟩)) (b.tmps[52]?.getD undef) X p := hV 10 _ 52 rfl rfl (Pred.waits_near (by kernel_rfl) (by kernel_rfl))
          exact Pred.yields_run (v := .pointer (some ⟨ab, ao + k * 2 + 1, none⟩)) (Pred.wanted_none rfl) (by go_simp) ⟨Below.refl _ _, rfl, Nat.zero_le _⟩
        · intro b X p hE hd hn hS hV hI hF
          obtain ⟨r53, j53⟩ : PredT.At 0 (.pointer (some ⟨ab, ao + k * 2 + 1, none⟩)) (b.tmps[53]?.getD undef) X p := hV 11 _ 53 rfl rfl (Pred.waits_near (by kernel_rfl) (by kernel_rfl))
          have cz := (hE.cell (p := ⟨ab, ao + k * 2 + 1, none⟩) hab).trans dy
          exact Pred.yields_run (v := .int .i64 y) (Pred.wanted_none rfl) (by go_simp) ⟨Below.refl _ _, rfl, Nat.zero_le _⟩
        · intro b X p hE hd hn hS hV hI hF
          obtain ⟨r54, j54⟩ : PredT.At 0 (.int .i64 y) (b.tmps[54]?.getD undef) X p := hV 12 _ 54 rfl rfl (Pred.waits_near (by kernel_rfl) (by kernel_rfl))
          refine Pred.yields_call (f := 21) (args := #[.int .i64 y, .int .i64 5]) (Pred.wanted_none rfl) (by go_simp) ?_
          refine (Alk.round_any y 5 X hyy.1 hyy.2 (by omega) (by omega)).mono ?_
          rintro e w9 ⟨rfl, rfl⟩
          rw [HP.out]
          exact ⟨_, rfl, Below.refl _ _, rfl, Nat.zero_le _⟩
        · intro b X p hE hd hn hS hV hI hF
          obtain ⟨r55, j55⟩ : PredT.At 0 (.int .i64 t5) (b.tmps[55]?.getD undef) X p := hV 13 _ 55 rfl rfl (Pred.waits_near (by kernel_rfl) (by kernel_rfl))
          have hw9 : IntKind.i64.wrap (1 + t5) = 1 + t5 := IntWalk.i64_in _ (by omega)
          exact Pred.yields_run (v := .int .i64 (1 + t5)) (Pred.wanted_none rfl) (by go_simp <;> exact hw9) ⟨Below.refl _ _, rfl, Nat.zero_le _⟩
      · refine ⟨?_, trivial⟩
        · refine ⟨_, rfl, fun k hk => (by cases hk), fun b X hE hd hn hS hV hI => ?_⟩
          obtain ⟨r42, j42⟩ : PredT.At 0 (.pointer (some ⟨lb, 0, none⟩)) (b.tmps[42]?.getD undef) X 0 := hV 0 _ 42 rfl rfl (Pred.waits_near (by kernel_rfl) (by kernel_rfl))
          obtain ⟨r49, j49⟩ : PredT.At 0 (.int .i64 q) (b.tmps[49]?.getD undef) X 0 := hV 7 _ 49 rfl rfl (Pred.waits_near (by kernel_rfl) (by kernel_rfl))
          obtain ⟨r56, j56⟩ : PredT.At 0 (.int .i64 (1 + t5)) (b.tmps[56]?.getD undef) X 0 := hV 14 _ 56 rfl rfl (Pred.waits_near (by kernel_rfl) (by kernel_rfl))
          replace hS : (fun yy => ∃ bs, S1 w yy lb lg n bs) X := hS
          obtain ⟨bs, hS⟩ := hS
          refine Pred.yields_call (f := 11) (args := #[.pointer (some ⟨lb, 0, none⟩), .int .i64 q, .int .i64 (1 + t5)]) (Pred.wanted_none rfl) (by go_simp) ?_
          refine (claim_s1 q (1 + t5) w X hS hg (by omega) (by omega) (by omega) (by omega)).mono ?_
          rintro e w9 ⟨⟨r, rfl⟩, b9, h9⟩
          exact ⟨_, rfl, b9, h9, Nat.le_refl _, fun _ => ⟨_, rfl⟩⟩
      intro v X hE hS hv
      replace hS : (fun yy => ∃ bs, S1 w yy lb lg n bs) X := hS
      have e0 : v 0 = .pointer (some ⟨lb, 0, none⟩) := (hv 0 _ 42 rfl rfl).1
      have e1 : v 1 = .slice (some ⟨ab, ao, none⟩) len cap := (hv 1 _ 43 rfl rfl).1
      have e2 : v 2 = .int .i64 k := (hv 2 _ 44 rfl rfl).1
      have e3 : v 3 = .pointer (some ⟨ab, ao + k * 2, none⟩) := (hv 3 _ 45 rfl rfl).1
      have e4 : v 4 = .pointer (some ⟨ab, ao + k * 2, none⟩) := (hv 4 _ 46 rfl rfl).1
      have e5 : v 5 = .int .i64 x := (hv 5 _ 47 rfl rfl).1
      have e6 : v 6 = .int .i64 n := (hv 6 _ 48 rfl rfl).1
      have e7 : v 7 = .int .i64 q := (hv 7 _ 49 rfl rfl).1
      have e8 : v 8 = .slice (some ⟨ab, ao, none⟩) len cap := (hv 8 _ 50 rfl rfl).1
      have e9 : v 9 = .int .i64 k := (hv 9 _ 51 rfl rfl).1
      have e10 : v 10 = .pointer (some ⟨ab, ao + k * 2, none⟩) := (hv 10 _ 52 rfl rfl).1
      have e11 : v 11 = .pointer (some ⟨ab, ao + k * 2 + 1, none⟩) := (hv 11 _ 53 rfl rfl).1
      have e12 : v 12 = .int .i64 y := (hv 12 _ 54 rfl rfl).1
      have e13 : v 13 = .int .i64 t5 := (hv 13 _ 55 rfl rfl).1
      have e14 : v 14 = .int .i64 (1 + t5) := (hv 14 _ 56 rfl rfl).1
      generalize hg15 : v 15 = vv15
      simp only [Pred.putsF_cons, Pred.putsF_nil, Nat.zero_add, Nat.reduceAdd, e0, e1, e2, e3, e4, e5, e6, e7, e8, e9, e10, e11, e12, e13, e14, hg15, Act.put, List.setIfInBounds_toArray, List.set_cons_zero, List.set_cons_succ]
      clear e0 e1 e2 e3 e4 e5 e6 e7 e8 e9 e10 e11 e12 e13 e14 hg15 hv
      go_wp2
      exact ⟨⟨k + 1, by omega, by go_num, Lib.hid hS⟩, by simp [intOf]; omega⟩
    · obtain rfl : k = len := by omega
      obtain ⟨bs, hS⟩ := HS.out
      have hbl := hS.len
      have hok := runs_len bs
      rw [hbl] at hok
      obtain ⟨R, hR⟩ : ∃ R, runs bs = R := ⟨_, rfl⟩
      have HRB := Lib.hid hR
      have HBL := Lib.hid hbl
      have CF : Hid (∀ X : World, Mp X lb lg n bs → Calls Try.prog 19 #[.pointer (some ⟨lb, 0, none⟩), .int .i64 (-1)] X fun e w' => (∃ ad' c', e = .returned (.slice ad' R.length c') ∧ PRd w' ad' R ∧ ∀ a, ad' = some a → X.heap.size ≤ a.block) ∧ Below X.heap.size X w') := Lib.hid fun X h => by
        have := free_st (-1) X h
        rw [cut_all, hR] at this
        exact this
      have H1 := Lib.hid hS
      obtain ⟨N, hN⟩ : ∃ N, R.length = N := ⟨_, rfl⟩
      rw [hN] at CF
      rw [hR, hN] at hok
      have HN := Lib.hid hN
      clear hS hR hbl hN HS
      go_wp2_with fail
      refine (CF.out _ H1.out.m).mono ?_
      rintro e w2 ⟨⟨ad, rc, rfl, hr, hnew⟩, b2⟩
      have H2 := Lib.hid (H1.out.bel b2)
      have HR2 := Lib.hid hr
      have H1s := H1.out.below.size
      have HNW : Hid (R = [] ∨ ∀ a, ad = some a → w.heap.size ≤ a.block ∧ a.block < w2.heap.size) := Lib.hid (by
        rcases hr.2 with h | ⟨gb, off, e, h3, -⟩
        · exact Or.inl (List.eq_nil_of_length_eq_zero h)
        · refine Or.inr fun a ea => ⟨by have := hnew a ea; omega, ?_⟩
          rw [e] at ea; injection ea with ea; rw [← ea]; exact h3)
      clear b2 hr hnew H1 H1s
      go_wp2_with fail
      go_loopw [9, 10] (fun s i X => ∃ j : Nat, j ≤ N ∧ i = .int .i64 j ∧ s = .int .i64 (sumL (R.take j) : Nat) ∧ Hid (Below w2.heap.size w2 X)) (fun _ i _ => N - (intOf i).toNat)
      case atStart => exact ⟨0, by omega, rfl, by simp [sumL], Lib.hid (Below.refl _ _)⟩
      case round =>
        obtain ⟨j, hj, rfl, rfl, HB⟩ := hrel
        rename World => Z
        have HZ2 := Lib.hid (H2.out.bel HB.out)
        have HRZ := Lib.hid (HR2.out.below HB.out)
        by_cases hjl : j < N
        · have hjl' : (j : Int) < N := by omega
          have hjR : j < R.length := by rw [HN.out]; exact hjl
          obtain ⟨gb, go_, ea, hgb, hcs⟩ := HRZ.out.cells (by omega)
          subst ea
          have c1 := (hcs j hjR).1
          have c2 := (hcs j hjR).2
          have hG := good_runs bs
          rw [HRB.out] at hG
          have hsd := hG.sound _ (List.getElem_mem hjR)
          have hst : sumL (R.take (j + 1)) = sumL (R.take j) + R[j].2 := by rw [← List.take_append_getElem hjR, sum_app]
          have hps := pre_sum (bs := bs) (pre := R.take j) (by rw [HRB.out]; exact List.take_prefix _ _) (by rw [HBL.out]; omega)
          obtain ⟨px, hpx⟩ : ∃ p, R[j].1 = p := ⟨_, rfl⟩
          obtain ⟨py, hpy⟩ : ∃ p, R[j].2 = p := ⟨_, rfl⟩
          rw [hpx] at c1
          rw [hpy] at c2 hst
          rw [hpx, hpy, HBL.out] at hsd
          have hs1 := hps.1
          have hd1 := hsd.2.1
          have hd2 := hsd.2.2.1
          have d1 : decide ((py : Int) < 1) = false := decide_eq_false (by omega)
          have HST := Lib.hid hst
          obtain ⟨sv, hsv⟩ : ∃ s, sumL (R.take j) = s := ⟨_, rfl⟩
          rw [hsv] at hs1 HST ⊢
          clear hst hps hsd hsv
          cases j with
          | zero =>
            clear hcs hG hpx hpy
            go_wp2
            go_quiet (fail)
            go_wp2
            exact ⟨⟨1, by omega, rfl, by rw [HST.out]; simp, Lib.hid (by have LX := HB.out; repeat' (first | (with_reducible exact Below.refl _ _) | (with_reducible refine Rd.below_step ?_ (by assumption)) | (with_reducible refine Rd.below_alloc ?_ _) | (with_reducible refine Rd.below_drewN ?_ _) | (with_reducible refine Below.drew ?_) | (with_reducible refine Below.setCell ?_ ?_ _) | (with_reducible refine Rd.below_setRow ?_ ?_ _) | go_size | (simp only [World.size_alloc]; omega) | omega))⟩, by simp [intOf]; omega⟩
          | succ i =>
            have hiR : i < R.length := by omega
            have c3 := (hcs i hiR).1
            have c4 := (hcs i hiR).2
            have hap := List.pairwise_iff_getElem.1 hG.apart i (i + 1) hiR hjR (by omega)
            rw [hpx] at hap
            have hsi := (hG.sound _ (List.getElem_mem hiR)).2.2.1
            rw [HBL.out] at hsi
            generalize R[i].1 = ix at c3 hap hsi
            generalize R[i].2 = iy at c4 hap hsi
            have d2 : decide ((px : Int) ≤ (ix : Int) + (iy : Int)) = false := decide_eq_false (by omega)
            have d3 : decide ((0 : Int) < (i : Int) + 1) = true := decide_eq_true (by omega)
            have hil : i < N := by omega
            clear hcs hG hpx hpy hap
            go_wp2
            go_quiet (fail)
            go_wp2
            exact ⟨⟨i + 2, by omega, by go_num, by rw [HST.out]; simp, Lib.hid (by have LX := HB.out; repeat' (first | (with_reducible exact Below.refl _ _) | (with_reducible refine Rd.below_step ?_ (by assumption)) | (with_reducible refine Rd.below_alloc ?_ _) | (with_reducible refine Rd.below_drewN ?_ _) | (with_reducible refine Below.drew ?_) | (with_reducible refine Below.setCell ?_ ?_ _) | (with_reducible refine Rd.below_setRow ?_ ?_ _) | go_size | (simp only [World.size_alloc]; omega) | omega))⟩, by simp [intOf]; omega⟩
        · obtain rfl : j = N := by omega
          have hps := pre_sum (bs := bs) (pre := R) (by rw [HRB.out]; exact List.prefix_refl _) (by rw [HBL.out]; omega)
          rw [show R.take j = R by rw [← HN.out, List.take_length]]
          have hs1 := hps.1
          obtain ⟨sv, hsv⟩ : ∃ s, sumL R = s := ⟨_, rfl⟩
          have CU : Hid (∀ X : World, Mp X lb lg n bs → Calls Try.prog 16 #[.pointer (some ⟨lb, 0, none⟩)] X fun e w' => e = .returned (.int .i64 ((n : Int) - (sv : Nat))) ∧ Below X.heap.size X w') := Lib.hid fun X h => by
            have := used_any X h
            rw [HBL.out, HRB.out, hsv] at this
            exact this
          rw [hsv] at hs1 ⊢
          have hsum : (sv : Int) + ((n : Int) - (sv : Int)) = (n : Int) := by omega
          clear hps hsv
          go_wp2_with fail
          refine (CU.out _ HZ2.out.m).mono ?_
          rintro e w3 ⟨rfl, b3⟩
          have H3 := Lib.hid (HZ2.out.bel b3)
          have HR3 := Lib.hid (HRZ.out.below b3)
          have s23 : w2.heap.size ≤ w3.heap.size := Nat.le_trans HB.out.size b3.size
          clear b3 HZ2 H2 CU
          go_wp2_with fail
          refine (copy_any _ H3.out.m).mono ?_
          rintro e w4 ⟨⟨cb, cg, ccap, rfl, hcb, hcg, hcm⟩, b4⟩
          have l3 := H3.out.m.lt
          have s3 := H3.out.below.size
          have HS4 : Hid (∃ cs, Cov bs cs 0 ∧ S2 w w4 lb lg n cb cg ccap bs cs ad R) := Lib.hid ⟨bs, cov_start bs, H3.out.m.bel b4, hcm, HR3.out.below b4, H3.out.below.trans (b4.mono s3), by omega, by omega, HNW.out.imp id fun h a ea => by have := (h a ea).2; omega, by omega⟩
          clear b4 hcm H3 HR3 HRZ HR2 hsum
          go_wp2_with fail
          go_loopw [12] (fun i X => ∃ q : Nat, q ≤ j ∧ i = .int .i64 q ∧ Hid (∃ cs, Cov bs cs q ∧ S2 w X lb lg n cb cg ccap bs cs ad R)) (fun i _ => j - (intOf i).toNat)
          case atStart => exact ⟨0, by omega, rfl, HS4⟩
          case round =>
            clear HS4
            obtain ⟨q, hq, rfl, HS⟩ := hrel
            rename World => W
            by_cases hql : q < j
            · have hql' : (q : Int) < j := by omega
              obtain ⟨cs, hcov, hS⟩ := HS.out
              have hqR : q < R.length := by rw [HN.out]; exact hql
              obtain ⟨gb, go_, ea, hgb, hcs⟩ := hS.r.cells (by omega)
              subst ea
              have c1 := (hcs q hqR).1
              have c2 := (hcs q hqR).2
              have hgo := cov_go (x := R[q].1) (y := R[q].2) hcov (by rw [HRB.out]; exact hqR) (by simp only [HRB.out])
              have hsd := (good_runs bs).sound R[q] (by rw [HRB.out]; exact List.getElem_mem hqR)
              rw [HBL.out] at hsd
              have hsd1 := hsd.2.2.1
              generalize R[q].1 = x at c1 hgo hsd1
              generalize R[q].2 = y at c2 hgo hsd1
              have HGO := Lib.hid hgo
              have HS0 := Lib.hid hS
              have hwW := hS.below.size
              clear hcs hgo hsd hcov hS HS
              go_upto_region 26 with (fail)
              refine PredT.region_of (W := W) (w.heap.size) hwW [11] [
                  fun yy => S2 w yy lb lg n cb cg ccap bs cs (some ⟨gb, go_, none⟩) R,
                  fun yy => S2 w yy lb lg n cb cg ccap bs (mk cs x true y) (some ⟨gb, go_, none⟩) R] [
                  PredT.At 0 (.pointer (some ⟨cb, 0, none⟩)),
                  PredT.At 0 (.slice (some ⟨gb, go_, none⟩) j rc),
                  PredT.At 0 (.int .i64 q),
                  PredT.At 0 (.pointer (some ⟨gb, go_ + q * 2, none⟩)),
                  PredT.At 0 (.pointer (some ⟨gb, go_ + q * 2, none⟩)),
                  PredT.At 0 (.int .i64 x),
                  PredT.At 0 (.slice (some ⟨gb, go_, none⟩) j rc),
                  PredT.At 0 (.int .i64 q),
                  PredT.At 0 (.pointer (some ⟨gb, go_ + q * 2, none⟩)),
                  PredT.At 0 (.pointer (some ⟨gb, go_ + q * 2 + 1, none⟩)),
                  PredT.At 0 (.int .i64 y),
                  PredT.At 1 (.int .i64 0),
                  PredT.At 1 (.bool false)] (by kernel_rfl) (by kernel_rfl) (by kernel_rfl) (by decide) (by decide) ?_ ?_ ?_ ?_ ?_ ?_
              · exact ⟨PredT.at_stab _ _ _ _, PredT.at_stab _ _ _ _, PredT.at_stab _ _ _ _, PredT.at_stab _ _ _ _, PredT.at_stab _ _ _ _, PredT.at_stab _ _ _ _, PredT.at_stab _ _ _ _, PredT.at_stab _ _ _ _, PredT.at_stab _ _ _ _, PredT.at_stab _ _ _ _, PredT.at_stab _ _ _ _, PredT.at_stab _ _ _ _, PredT.at_stab _ _ _ _, trivial⟩
              · intro q hq
                rcases List.mem_cons.1 hq with rfl | hq
                · exact fun yy y' h hb => h.bel hb
                rcases List.mem_cons.1 hq with rfl | hq
                · exact fun yy y' h hb => h.bel hb
                cases hq
              · exact HS0.out
              · refine ⟨.inr ?_, .inr ?_, .inr ?_, .inr ?_, .inr ?_, .inr ?_, .inr ?_, .inr ?_, .inr ?_, .inr ?_, .inr ?_, .inl rfl, .inr ?_, trivial⟩
                · intro b X p hE hd hn hS hV hI hF
                  have r11 : b.tmps[11]?.getD undef = .pointer (some ⟨cb, 0, none⟩) := (hn 11 (by kernel_rfl)).trans rfl
                  exact Pred.yields_run (v := .pointer (some ⟨cb, 0, none⟩)) (Pred.wanted_none rfl) (by go_simp) ⟨Below.refl _ _, rfl, Nat.zero_le _⟩
                · intro b X p hE hd hn hS hV hI hF
                  have r8 : b.tmps[8]?.getD undef = .slice (some ⟨gb, go_, none⟩) j rc := (hn 8 (by kernel_rfl)).trans rfl
                  exact Pred.yields_run (v := .slice (some ⟨gb, go_, none⟩) j rc) (Pred.wanted_none rfl) (by go_simp) ⟨Below.refl _ _, rfl, Nat.zero_le _⟩
                · intro b X p hE hd hn hS hV hI hF
                  have r12 : b.tmps[12]?.getD undef = .int .i64 q := (hn 12 (by kernel_rfl)).trans rfl
                  exact Pred.yields_run (v := .int .i64 q) (Pred.wanted_none rfl) (by go_simp) ⟨Below.refl _ _, rfl, Nat.zero_le _⟩
                · intro b X p hE hd hn hS hV hI hF
                  obtain ⟨r121, j121⟩ : PredT.At 0 (.slice (some ⟨gb, go_, none⟩) j rc) (b.tmps[121]?.getD undef) X p := hV 1 _ 121 rfl rfl (Pred.waits_near (by kernel_rfl) (by kernel_rfl))
                  obtain ⟨r122, j122⟩ : PredT.At 0 (.int .i64 q) (b.tmps[122]?.getD undef) X p := hV 2 _ 122 rfl rfl (Pred.waits_near (by kernel_rfl) (by kernel_rfl))
                  exact Pred.yields_run (v := .pointer (some ⟨gb, go_ + q * 2, none⟩)) (Pred.wanted_none rfl) (by go_simp) ⟨Below.refl _ _, rfl, Nat.zero_le _⟩
                · intro b X p hE hd hn hS hV hI hF
                  obtain ⟨r123, j123⟩ : PredT.At 0 (.pointer (some ⟨gb, go_ + q * 2, none⟩)) (b.tmps[123]?.getD undef) X p := hV 3 _ 123 rfl rfl (Pred.waits_near (by kernel_rfl) (by kernel_rfl))
                  exact Pred.yields_run (v := .pointer (some ⟨gb, go_ + q * 2, none⟩)) (Pred.wanted_none rfl) (by go_simp) ⟨Below.refl _ _, rfl, Nat.zero_le _⟩
                · intro b X p hE hd hn hS hV hI hF
                  obtain ⟨r124, j124⟩ : PredT.At 0 (.pointer (some ⟨gb, go_ + q * 2, none⟩)) (b.tmps[124]?.getD undef) X p := hV 4 _ 124 rfl rfl (Pred.waits_near (by kernel_rfl) (by kernel_rfl))
                  have hp0 : p = 0 := Nat.le_zero.1 (hF 0 11 rfl (Pred.waits_near (by kernel_rfl) (by kernel_rfl)))
                  subst hp0
                  replace hS : (fun yy => S2 w yy lb lg n cb cg ccap bs cs (some ⟨gb, go_, none⟩) R) X := hS
                  have cz : X.cell? ⟨gb, go_ + q * 2, none⟩ = some (.int .i64 x) := (PRd.same hS.r HS0.out.r hqR).1.trans c1
                  exact Pred.yields_run (v := .int .i64 x) (Pred.wanted_none rfl) (by go_simp) ⟨Below.refl _ _, rfl, Nat.zero_le _⟩
                · intro b X p hE hd hn hS hV hI hF
                  have r8 : b.tmps[8]?.getD undef = .slice (some ⟨gb, go_, none⟩) j rc := (hn 8 (by kernel_rfl)).trans rfl
                  exact Pred.yields_run (v := .slice (some ⟨gb, go_, none⟩) j rc) (Pred.wanted_none rfl) (by go_simp) ⟨Below.refl _ _, rfl, Nat.zero_le _⟩
                · intro b X p hE hd hn hS hV hI hF
                  have r12 : b.tmps[12]?.getD undef = .int .i64 q := (hn 12 (by kernel_rfl)).trans rfl
                  exact Pred.yields_run (v := .int .i64 q) (Pred.wanted_none rfl) (by go_simp) ⟨Below.refl _ _, rfl, Nat.zero_le _⟩
                · intro b X p hE hd hn hS hV hI hF
                  obtain ⟨r126, j126⟩ : PredT.At 0 (.slice (some ⟨gb, go_, none⟩) j rc) (b.tmps[126]?.getD undef) X p := hV 6 _ 126 rfl rfl (Pred.waits_near (by kernel_rfl) (by kernel_rfl))
                  obtain ⟨r127, j127⟩ : PredT.At 0 (.int .i64 q) (b.tmps[127]?.getD undef) X p := hV 7 _ 127 rfl rfl (Pred.waits_near (by kernel_rfl) (by kernel_rfl))
                  exact Pred.yields_run (v := .pointer (some ⟨gb, go_ + q * 2, none⟩)) (Pred.wanted_none rfl) (by go_simp) ⟨Below.refl _ _, rfl, Nat.zero_le _⟩
                · intro b X p hE hd hn hS hV hI hF
                  obtain ⟨r128, j128⟩ : PredT.At 0 (.pointer (some ⟨gb, go_ + q * 2, none⟩)) (b.tmps[128]?.getD undef) X p := hV 8 _ 128 rfl rfl (Pred.waits_near (by kernel_rfl) (by kernel_rfl))
                  exact Pred.yields_run (v := .pointer (some ⟨gb, go_ + q * 2 + 1, none⟩)) (Pred.wanted_none rfl) (by go_simp) ⟨Below.refl _ _, rfl, Nat.zero_le _⟩
                · intro b X p hE hd hn hS hV hI hF
                  obtain ⟨r129, j129⟩ : PredT.At 0 (.pointer (some ⟨gb, go_ + q * 2 + 1, none⟩)) (b.tmps[129]?.getD undef) X p := hV 9 _ 129 rfl rfl (Pred.waits_near (by kernel_rfl) (by kernel_rfl))
                  have hp0 : p = 0 := Nat.le_zero.1 (hF 0 11 rfl (Pred.waits_near (by kernel_rfl) (by kernel_rfl)))
                  subst hp0
                  replace hS : (fun yy => S2 w yy lb lg n cb cg ccap bs cs (some ⟨gb, go_, none⟩) R) X := hS
                  have cz : X.cell? ⟨gb, go_ + q * 2 + 1, none⟩ = some (.int .i64 y) := (PRd.same hS.r HS0.out.r hqR).2.trans c2
                  exact Pred.yields_run (v := .int .i64 y) (Pred.wanted_none rfl) (by go_simp) ⟨Below.refl _ _, rfl, Nat.zero_le _⟩
                · intro b X p hE hd hn hS hV hI hF
                  obtain ⟨r131, j131⟩ : PredT.At 1 (.int .i64 0) (b.tmps[131]?.getD undef) X p := hV 11 _ 131 rfl rfl (Pred.waits_near (by kernel_rfl) (by kernel_rfl))
                  exact Pred.yields_run (v := .bool false) (Pred.wanted_none rfl) (by go_simp) ⟨Below.refl _ _, rfl, (by omega)⟩
              · refine ⟨?_, trivial⟩
                · refine ⟨_, rfl, fun k hk => (by cases hk), fun b X hE hd hn hS hV hI => ?_⟩
                  obtain ⟨r120, j120⟩ : PredT.At 0 (.pointer (some ⟨cb, 0, none⟩)) (b.tmps[120]?.getD undef) X 0 := hV 0 _ 120 rfl rfl (Pred.waits_near (by kernel_rfl) (by kernel_rfl))
                  obtain ⟨r125, j125⟩ : PredT.At 0 (.int .i64 x) (b.tmps[125]?.getD undef) X 0 := hV 5 _ 125 rfl rfl (Pred.waits_near (by kernel_rfl) (by kernel_rfl))
                  obtain ⟨r130, j130⟩ : PredT.At 0 (.int .i64 y) (b.tmps[130]?.getD undef) X 0 := hV 10 _ 130 rfl rfl (Pred.waits_near (by kernel_rfl) (by kernel_rfl))
                  replace hS : (fun yy => S2 w yy lb lg n cb cg ccap bs cs (some ⟨gb, go_, none⟩) R) X := hS
                  refine Pred.yields_call (f := 11) (args := #[.pointer (some ⟨cb, 0, none⟩), .int .i64 x, .int .i64 y]) (Pred.wanted_none rfl) (by go_simp) ?_
                  refine (claim_s2 x y w X hS (by omega) (by omega) HGO.out.1).mono ?_
                  rintro e w9 ⟨rfl, b9, h9⟩
                  exact ⟨_, rfl, b9, h9, rfl, Nat.le_refl _⟩
              intro v X hE hS hv
              replace hS : (fun yy => S2 w yy lb lg n cb cg ccap bs (mk cs x true y) (some ⟨gb, go_, none⟩) R) X := hS
              have e0 : v 0 = .pointer (some ⟨cb, 0, none⟩) := (hv 0 _ 120 rfl rfl).1
              have e1 : v 1 = .slice (some ⟨gb, go_, none⟩) j rc := (hv 1 _ 121 rfl rfl).1
              have e2 : v 2 = .int .i64 q := (hv 2 _ 122 rfl rfl).1
              have e3 : v 3 = .pointer (some ⟨gb, go_ + q * 2, none⟩) := (hv 3 _ 123 rfl rfl).1
              have e4 : v 4 = .pointer (some ⟨gb, go_ + q * 2, none⟩) := (hv 4 _ 124 rfl rfl).1
              have e5 : v 5 = .int .i64 x := (hv 5 _ 125 rfl rfl).1
              have e6 : v 6 = .slice (some ⟨gb, go_, none⟩) j rc := (hv 6 _ 126 rfl rfl).1
              have e7 : v 7 = .int .i64 q := (hv 7 _ 127 rfl rfl).1
              have e8 : v 8 = .pointer (some ⟨gb, go_ + q * 2, none⟩) := (hv 8 _ 128 rfl rfl).1
              have e9 : v 9 = .pointer (some ⟨gb, go_ + q * 2 + 1, none⟩) := (hv 9 _ 129 rfl rfl).1
              have e10 : v 10 = .int .i64 y := (hv 10 _ 130 rfl rfl).1
              have e11 : v 11 = .int .i64 0 := (hv 11 _ 131 rfl rfl).1
              have e12 : v 12 = .bool false := (hv 12 _ 132 rfl rfl).1
              simp only [Pred.putsF_cons, Pred.putsF_nil, Nat.zero_add, Nat.reduceAdd, e0, e1, e2, e3, e4, e5, e6, e7, e8, e9, e10, e11, e12, Act.put, List.setIfInBounds_toArray, List.set_cons_zero, List.set_cons_succ]
              clear e0 e1 e2 e3 e4 e5 e6 e7 e8 e9 e10 e11 e12 hv
              go_wp2
              exact ⟨⟨q + 1, by omega, by go_num, Lib.hid ⟨_, HGO.out.2, hS⟩⟩, by simp [intOf]; omega⟩
            · obtain rfl : q = j := by omega
              obtain ⟨cs, hcov, hS⟩ := HS.out
              have hrun := cov_end hcov (by rw [HRB.out, HN.out])
              have CU : Hid (∀ X : World, Mp X cb cg ccap cs → Calls Try.prog 16 #[.pointer (some ⟨cb, 0, none⟩)] X fun e w' => e = .returned (.int .i64 n) ∧ Below X.heap.size X w') := Lib.hid fun X h => by
                have := used_any X h
                rw [hrun, hcov.len, HBL.out] at this
                simpa [sumL] using this
              have CE : Hid (∀ X : World, Mp X cb cg ccap cs → Calls Try.prog 19 #[.pointer (some ⟨cb, 0, none⟩), .int .i64 (-1)] X fun e w' => (∃ ad' c', e = .returned (.slice ad' 0 c')) ∧ Below X.heap.size X w') := Lib.hid fun X h => by
                have := free_st (-1) X h
                rw [cut_all, hrun] at this
                exact this.mono fun e w' ⟨⟨a, c, h1, _⟩, h2⟩ => ⟨⟨a, c, h1⟩, h2⟩
              have H5 := Lib.hid hS
              clear hS hcov hrun HS
              go_wp2_with fail
              refine (CU.out _ H5.out.c).mono ?_
              rintro e w6 ⟨rfl, b6⟩
              have H6 := Lib.hid (H5.out.bel b6)
              clear b6 H5 CU
              go_wp2_with fail
              refine (CE.out _ H6.out.c).mono ?_
              rintro e w7 ⟨⟨ea, ec, rfl⟩, b7⟩
              have H7 := Lib.hid (H6.out.bel b7)
              clear b7 H6 CE
              go_wp2_with fail
              refine (CF.out _ H7.out.m).mono ?_
              rintro e w8 ⟨⟨fa, fc, rfl, hfr, -⟩, b8⟩
              have H8 := Lib.hid (H7.out.bel b8)
              have HF8 := Lib.hid hfr
              clear b8 H7 CF hfr
              have CS := same_any R R fa ad fc rc _ HF8.out H8.out.r (by rw [HN.out]; omega) (by rw [HN.out]; omega)
              rw [decide_eq_true rfl, HN.out] at CS
              have HCS := Lib.hid CS
              clear CS
              go_wp2_with fail
              refine HCS.out.mono ?_
              rintro e w9 ⟨rfl, b9⟩
              have L9 := Lib.hid (H8.out.below.trans (b9.mono H8.out.below.size))
              clear b9 H8 HF8 HCS
              go_wp2_with fail
              refine (awake_any _).mono ?_
              rintro e w10 ⟨rfl, b10⟩
              have L10 := Lib.hid (L9.out.trans (b10.mono L9.out.size))
              clear b10
              go_wp2
              go_ret
              exact ⟨rfl, L10.out⟩
end Go.Proofs.Ytmhjhfjbfoklpaa.ExF

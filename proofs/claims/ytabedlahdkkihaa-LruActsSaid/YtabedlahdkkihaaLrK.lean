/-
  Each call tells what the document says (LruActs).
-/
import Derived.Test.YtabedlahdkkihaaLrI
import Derived.Test.YtabedlahdkkihaaPredT
import Derived.Deep.CutBlock
namespace Go.Proofs.Ytabedlahdkkihaa.LrK
open Go.RowKit Rd Go.Proofs.Ytabedlahdkkihaa.Row LrM LrA LrB LrC LrD LrE LrF LrG LrH LrI
open Go.Proofs.Ytabedlahdkkihaa.Pred (Is is_stab Stab)
set_option linter.unusedVariables false
set_option linter.unusedSimpArgs false
set_option maxRecDepth 100000
theorem cell_ext {B : Nat} {w w' : World} (h : Pred.Ext B w w') {b o : Nat} {v : Value} (hc : w.cell? ⟨b, o, none⟩ = some v) : w'.cell? ⟨b, o, none⟩ = some v ∧ b < w'.heap.size := by
  unfold World.cell? at hc ⊢
  simp only at hc ⊢
  cases hb : w.heap[b]? with
  | none => rw [hb] at hc; cases hc
  | some ob =>
    rw [hb] at hc
    cases ob with
    | cells c t fr =>
      obtain ⟨fr', h2⟩ := h.2 b c t fr hb
      rw [h2]
      refine ⟨hc, ?_⟩
      rcases Nat.lt_or_ge b w'.heap.size with h3 | h3
      · exact h3
      · rw [Array.getElem?_eq_none h3] at h2; cases h2
    | _ => simp at hc
theorem reads_ext {B s n : Nat} {w w' : World} {a : Option Addr} {cs : List Value} (h : Pred.Ext B w w') (hr : Reads w s a n cs) (hs : 0 < s) : Reads w' s a n cs := by
  obtain ⟨h1, h2⟩ := hr
  refine ⟨h1, ?_⟩
  rcases h2 with h2 | ⟨b, off, rfl, hb, hc⟩
  · exact .inl h2
  · by_cases hn : n = 0
    · exact .inl hn
    · have hpos : 0 < cs.length := by rw [h1]; exact Nat.mul_pos (by omega) hs
      have key : ∀ i, i < cs.length → w'.cell? ⟨b, off + i, none⟩ = cs[i]? ∧ b < w'.heap.size := fun i hi => by
        have h3 := hc i hi
        rw [List.getElem?_eq_getElem hi] at h3 ⊢
        exact cell_ext h h3
      exact .inr ⟨b, off, rfl, (key 0 hpos).2, fun i hi => (key i hi).1⟩
def SI (n : Nat) (r : List Nat) : Value → World → Prop := fun v X => ∃ a c, v = .slice a n c ∧ Reads X 1 a n (iv r)
theorem si_stab (n : Nat) (r : List Nat) : Stab (SI n r) := by
  intro v w w' B ⟨a, c, h1, h2⟩ hb
  exact ⟨a, c, h1, reads_ext hb h2 (by omega)⟩
def inB (n : Nat) (I : Int) : Bool := decide (0 ≤ I ∧ I < n)
def eV (n : Nat) (I : Int) : Int := if inB n I = true then 0 else 1
def tO (n : Nat) (o : List Nat) (I : Int) : List Nat := if inB n I = true then touchL o I.toNat else o
def tP (n : Nat) (pin : Nat → Bool) (I : Int) : Nat → Bool := if inB n I = true then put pin I.toNat true else pin
structure SS (w X : World) (b g rb gp B n : Nat) (o : List Nat) (pin : Nat → Bool) (o' : List Nat) (pin' : Nat → Bool) : Prop where
  a : St X b g n o pin
  r : RS X rb gp B n o' pin'
  below : Below w.heap.size w X
  lo : w.heap.size ≤ b ∧ w.heap.size ≤ g ∧ w.heap.size ≤ rb ∧ w.heap.size ≤ gp
  ne : b ≠ rb ∧ b ≠ gp ∧ g ≠ rb ∧ g ≠ gp ∧ b < B ∧ g < B
variable {b g rb gp B n : Nat} {o : List Nat} {pin : Nat → Bool} {o' : List Nat} {pin' : Nat → Bool}
theorem SS.bel {w X Y : World} (h : SS w X b g rb gp B n o pin o' pin') (hb : Below X.heap.size X Y) : SS w Y b g rb gp B n o pin o' pin' :=
  ⟨h.a.bel hb, h.r.bel hb, h.below.trans (hb.mono h.below.size), h.lo, h.ne⟩
theorem below_grown1 {X Y : World} {q lo : Nat} (h : X.grownBy Y (some q)) (hq : lo ≤ q) (hl : lo ≤ X.heap.size) : Below lo X Y :=
  ⟨h.os, h.tape, h.output, h.size, fun k hk => h.block k (by omega) fun e => by injection e with e; omega⟩
theorem touch_ss (I : Int) (w X : World) (h : SS w X b g rb gp B n o pin o' pin') :
    Calls Try.prog 10 #[.pointer (some ⟨b, 0, none⟩), .int .i64 I] X fun e Y => e = .returned (.int .i64 (eV n I)) ∧ SS w Y b g rb gp B n (tO n o I) pin o' pin' ∧ Below w.heap.size X Y := by
  by_cases hi : 0 ≤ I ∧ I < n
  · obtain ⟨i, rfl⟩ := Int.eq_ofNat_of_zero_le hi.1
    have hb : inB n (i : Int) = true := decide_eq_true hi
    refine (touch_yes i X h.a (by omega)).mono ?_
    rintro e Y ⟨rfl, h2, hg⟩
    have hbl := below_grown1 hg h.lo.2.1 h.below.size
    refine ⟨by unfold eV; rw [if_pos hb], ⟨?_, h.r.turn hg h.ne.2.2.1 h.ne.2.2.2.1 h.ne.2.2.2.2.2, h.below.trans hbl, h.lo, h.ne⟩, hbl⟩
    unfold tO
    rw [if_pos hb]
    exact h2
  · have hb : inB n I = false := decide_eq_false hi
    refine (touch_no I X h.a hi).mono ?_
    rintro e Y ⟨rfl, rfl⟩
    refine ⟨by unfold eV; rw [if_neg (by rw [hb]; decide)], ?_, Below.refl _ _⟩
    unfold tO
    rw [if_neg (by rw [hb]; decide)]
    exact h
theorem pin_ss (I : Int) (w X : World) (h : SS w X b g rb gp B n o pin o' pin') :
    Calls Try.prog 12 #[.pointer (some ⟨b, 0, none⟩), .int .i64 I] X fun e Y => e = .returned (.int .i64 (eV n I)) ∧ SS w Y b g rb gp B n o (tP n pin I) o' pin' ∧ Below w.heap.size X Y := by
  by_cases hi : 0 ≤ I ∧ I < n
  · obtain ⟨i, rfl⟩ := Int.eq_ofNat_of_zero_le hi.1
    have hb : inB n (i : Int) = true := decide_eq_true hi
    refine (pin_yes i X h.a (by omega)).mono ?_
    rintro e Y ⟨rfl, h2, hg⟩
    have hbl := below_grown1 hg h.lo.2.1 h.below.size
    refine ⟨by unfold eV; rw [if_pos hb], ⟨?_, h.r.turn hg h.ne.2.2.1 h.ne.2.2.2.1 h.ne.2.2.2.2.2, h.below.trans hbl, h.lo, h.ne⟩, hbl⟩
    unfold tP
    rw [if_pos hb]
    exact h2
  · have hb : inB n I = false := decide_eq_false hi
    refine (pin_no I X h.a hi).mono ?_
    rintro e Y ⟨rfl, rfl⟩
    refine ⟨by unfold eV; rw [if_neg (by rw [hb]; decide)], ?_, Below.refl _ _⟩
    unfold tP
    rw [if_neg (by rw [hb]; decide)]
    exact h
theorem rtouch_ss (I : Int) (w X : World) (hol : o'.length = n) (h : SS w X b g rb gp B n o pin o' pin') :
    Calls Try.prog 11 #[.pointer (some ⟨rb, 0, none⟩), .int .i64 I] X fun e Y => e = .returned (.int .i64 (eV n I)) ∧ SS w Y b g rb gp B n o pin (tO n o' I) pin' ∧ Below w.heap.size X Y := by
  have hn := h.a.small
  by_cases hi : 0 ≤ I ∧ I < n
  · obtain ⟨i, rfl⟩ := Int.eq_ofNat_of_zero_le hi.1
    have hb : inB n (i : Int) = true := decide_eq_true hi
    refine (rtouch_yes i X h.r (by omega) hn.2 hol).mono ?_
    rintro e Y ⟨rfl, h2, hg⟩
    have hbl := below_grown1 hg h.lo.2.2.1 h.below.size
    refine ⟨by unfold eV; rw [if_pos hb], ⟨St.turn h.a hg h.ne.1 h.ne.2.2.1, ?_, h.below.trans hbl, h.lo, h.ne⟩, hbl⟩
    unfold tO
    rw [if_pos hb]
    exact h2
  · have hb : inB n I = false := decide_eq_false hi
    refine (rtouch_no I X h.r hi hn.2).mono ?_
    rintro e Y ⟨rfl, rfl⟩
    refine ⟨by unfold eV; rw [if_neg (by rw [hb]; decide)], ?_, Below.refl _ _⟩
    unfold tO
    rw [if_neg (by rw [hb]; decide)]
    exact h
theorem rpin_ss (I : Int) (w X : World) (h : SS w X b g rb gp B n o pin o' pin') :
    Calls Try.prog 13 #[.pointer (some ⟨rb, 0, none⟩), .int .i64 I] X fun e Y => e = .returned (.int .i64 (eV n I)) ∧ SS w Y b g rb gp B n o pin o' (tP n pin' I) ∧ Below w.heap.size X Y := by
  have hn := h.a.small
  by_cases hi : 0 ≤ I ∧ I < n
  · obtain ⟨i, rfl⟩ := Int.eq_ofNat_of_zero_le hi.1
    have hb : inB n (i : Int) = true := decide_eq_true hi
    refine (rpin_yes i X h.r (by omega) hn.2).mono ?_
    rintro e Y ⟨rfl, h2, hg⟩
    have hbl := below_grown1 hg h.lo.2.2.2 h.below.size
    refine ⟨by unfold eV; rw [if_pos hb], ⟨St.turn h.a hg h.ne.2.1 h.ne.2.2.2.1, ?_, h.below.trans hbl, h.lo, h.ne⟩, hbl⟩
    unfold tP
    rw [if_pos hb]
    exact h2
  · have hb : inB n I = false := decide_eq_false hi
    refine (rpin_no I X h.r hi hn.2).mono ?_
    rintro e Y ⟨rfl, rfl⟩
    refine ⟨by unfold eV; rw [if_neg (by rw [hb]; decide)], ?_, Below.refl _ _⟩
    unfold tP
    rw [if_neg (by rw [hb]; decide)]
    exact h
theorem cut_two (o : List Nat) : cutV o 2 = o.take 2 := by
  unfold cutV cutB
  by_cases h : 2 < o.length
  · rw [if_pos (decide_eq_true ⟨by omega, by omega⟩)]; rfl
  · rw [if_neg (by rw [decide_eq_false (by omega)]; decide), List.take_of_length_le (by omega)]
theorem iv_i (r : List Nat) : iv r = Alk.i64s (r.map fun (x : Nat) => (x : Int)) := iv_i64 r
set_option maxHeartbeats 16000000 in
theorem acts_gen (m : Int) (ai : Option Addr) (len cap : Nat) (zs : List Int) (w : World) (hm1 : -9223372036854775808 ≤ m) (hm2 : m ≤ 9223372036854775807)
    (hz : ∀ z ∈ zs, Ints.In64 z) (hzl : zs.length = len * 2) (hR : Reads w 2 ai len (Ints.i64s zs)) :
    Calls Try.prog 3 #[.int .i64 m, .slice ai len cap] w fun e w' => e = .returned (.bool true) ∧ Below w.heap.size w w' := by
  have HRD := Lib.hid hR
  have HZ := Lib.hid hz
  have HZL := Lib.hid hzl
  clear hR hz hzl
  by_cases h0 : 80 < len
  · have d0 : decide (80 < len) = true := decide_eq_true h0
    go_enter Try.func3, Try.ntmps3
    go_wp2_with fail
    refine (awake_any _).mono ?_
    rintro e w2 ⟨rfl, hb2⟩
    go_wp2
    go_ret
    exact ⟨rfl, hb2⟩
  have d0 : decide (80 < len) = false := decide_eq_false h0
  by_cases h1 : ¬ (1 ≤ m ∧ m ≤ 128)
  · go_enter Try.func3, Try.ntmps3
    go_wp2_with fail
    refine (new_no m h1 _).mono ?_
    rintro e _ ⟨rfl, rfl⟩
    go_wp2_with fail
    refine (rnew_no m h1 _).mono ?_
    rintro e _ ⟨rfl, rfl⟩
    go_wp2_with fail
    refine (awake_any _).mono ?_
    rintro e w2 ⟨rfl, hb2⟩
    go_wp2
    go_ret
    exact ⟨rfl, hb2⟩
  obtain ⟨n, en⟩ : ∃ n : Nat, m = n := ⟨m.toNat, by omega⟩
  subst en
  have hn : 1 ≤ n ∧ n ≤ 128 := by omega
  have hn1 := hn.1
  have hn2 := hn.2
  have hl80 : len ≤ 80 := by omega
  have HNN := Lib.hid hn
  clear hm1 hm2 h0 h1 hn
  go_enter Try.func3, Try.ntmps3
  go_wp2_with fail
  refine (new_any n HNN.out _).mono ?_
  rintro e w1 ⟨⟨lb, lg, rfl, hb, hg, s1⟩, L1⟩
  have lt1 := s1.lt
  have S1 := Lib.hid s1
  have HL1 := Lib.hid L1
  have sz1 := L1.size
  clear s1 d0 L1
  go_wp2_with fail
  refine (rnew_any n HNN.out _).mono ?_
  rintro e w2 ⟨⟨rb, gp, B, rfl, hrb, hgp, hB, s2⟩, B2⟩
  have HS2 : Hid (SS w w2 lb lg rb gp B n (List.range n) (fun _ => false) (List.range n) (fun _ => false)) := Lib.hid ⟨S1.out.bel B2, s2, HL1.out.trans (B2.mono sz1), ⟨hb, hg, by omega, by omega⟩, by omega, by omega, by omega, by omega, by omega, by omega⟩
  clear s2 B2 S1 HL1
  go_wp2_with fail
  go_loopw [8] (fun i X => ∃ (k : Nat) (o : List Nat) (pin : Nat → Bool), k ≤ len ∧ i = .int .i64 k ∧ Hid (SS w X lb lg rb gp B n o pin o pin)) (fun i _ => len - (intOf i).toNat)
  case atStart => exact ⟨0, _, _, by omega, rfl, HS2⟩
  case round =>
    clear HS2
    obtain ⟨k, o, pin, hk, rfl, HS⟩ := hrel
    rename World => W
    by_cases hlt : k < len
    · have hlt' : (k : Int) < len := by omega
      have hzl := HZL.out
      obtain ⟨ab, ao, rfl, hab, hac⟩ := Ints.cell_of HRD.out (k := 2 * k) (by omega) (by omega)
      have cx : w.cell? ⟨ab, ao + k * 2, none⟩ = some (.int .i64 (zs.getD (2 * k) 0)) := by rw [show ao + k * 2 = ao + 2 * k by omega]; exact hac _ (by omega)
      have cy : w.cell? ⟨ab, ao + k * 2 + 1, none⟩ = some (.int .i64 (zs.getD (2 * k + 1) 0)) := by rw [show ao + k * 2 + 1 = ao + (2 * k + 1) by omega]; exact hac _ (by omega)
      clear hac hzl
      generalize zs.getD (2 * k) 0 = K at cx
      generalize zs.getD (2 * k + 1) 0 = y at cy
      have hwW := HS.out.below.size
      have hol := st_len HS.out.a
      have HOL := Lib.hid hol
      have dx := (HS.out.below.cell (p := ⟨ab, ao + k * 2, none⟩) hab).trans cx
      have dy := (HS.out.below.cell (p := ⟨ab, ao + k * 2 + 1, none⟩) hab).trans cy
      clear cx cy hol
      go_upto_block 2 with (fail)
      go_cut [] from 51 to 84 (fun Y => ∃ (o' : List Nat) (pin' : Nat → Bool), Hid (SS w Y lb lg rb gp B n o' pin' o' pin'))
      case first =>
        by_cases k1 : K = 1
        · subst k1
          go_upto_region 14 with (fail)
          refine PredT.region_of (W := W) (w.heap.size) hwW [6, 13] [
              fun yy => SS w yy lb lg rb gp B n o pin o pin,
              fun yy => SS w yy lb lg rb gp B n (tO n o y) pin o pin,
              fun yy => SS w yy lb lg rb gp B n (tO n o y) pin (tO n o y) pin] [
              PredT.At 0 (.pointer (some ⟨lb, 0, none⟩)),
              PredT.At 0 (.slice (some ⟨ab, ao, none⟩) len cap),
              PredT.At 0 (.int .i64 k),
              PredT.At 0 (.pointer (some ⟨ab, ao + k * 2, none⟩)),
              PredT.At 0 (.pointer (some ⟨ab, ao + k * 2 + 1, none⟩)),
              PredT.At 0 (.int .i64 y),
              PredT.At 1 (.int .i64 (eV n y)),
              PredT.At 0 (.pointer (some ⟨rb, 0, none⟩)),
              PredT.At 0 (.slice (some ⟨ab, ao, none⟩) len cap),
              PredT.At 0 (.int .i64 k),
              PredT.At 0 (.pointer (some ⟨ab, ao + k * 2, none⟩)),
              PredT.At 0 (.pointer (some ⟨ab, ao + k * 2 + 1, none⟩)),
              PredT.At 0 (.int .i64 y),
              PredT.At 2 (.int .i64 (eV n y)),
              PredT.At 2 (.bool false)] (by kernel_rfl) (by kernel_rfl) (by kernel_rfl) (by decide) (by decide) ?_ ?_ ?_ ?_ ?_ ?_
          · exact ⟨PredT.at_stab _ _ _ _, PredT.at_stab _ _ _ _, PredT.at_stab _ _ _ _, PredT.at_stab _ _ _ _, PredT.at_stab _ _ _ _, PredT.at_stab _ _ _ _, PredT.at_stab _ _ _ _, PredT.at_stab _ _ _ _, PredT.at_stab _ _ _ _, PredT.at_stab _ _ _ _, PredT.at_stab _ _ _ _, PredT.at_stab _ _ _ _, PredT.at_stab _ _ _ _, PredT.at_stab _ _ _ _, PredT.at_stab _ _ _ _, trivial⟩
          · intro q hq
            rcases List.mem_cons.1 hq with rfl | hq
            · exact fun y y' h hb => h.bel hb
            rcases List.mem_cons.1 hq with rfl | hq
            · exact fun y y' h hb => h.bel hb
            rcases List.mem_cons.1 hq with rfl | hq
            · exact fun y y' h hb => h.bel hb
            cases hq
          · exact HS.out
          · refine ⟨.inr ?_, .inr ?_, .inr ?_, .inr ?_, .inr ?_, .inr ?_, .inl rfl, .inr ?_, .inr ?_, .inr ?_, .inr ?_, .inr ?_, .inr ?_, .inl rfl, .inr ?_, trivial⟩
            · intro b X p hE hd hn hS hV hI hF
              have r5 : b.tmps[5]?.getD undef = .pointer (some ⟨lb, 0, none⟩) := (hn 5 (by kernel_rfl)).trans rfl
              exact Pred.yields_run (v := .pointer (some ⟨lb, 0, none⟩)) (Pred.wanted_none rfl) (by go_simp) ⟨Below.refl _ _, rfl, Nat.zero_le _⟩
            · intro b X p hE hd hn hS hV hI hF
              have r1 : b.tmps[1]?.getD undef = .slice (some ⟨ab, ao, none⟩) len cap := (hn 1 (by kernel_rfl)).trans rfl
              exact Pred.yields_run (v := .slice (some ⟨ab, ao, none⟩) len cap) (Pred.wanted_none rfl) (by go_simp) ⟨Below.refl _ _, rfl, Nat.zero_le _⟩
            · intro b X p hE hd hn hS hV hI hF
              have r8 : b.tmps[8]?.getD undef = .int .i64 k := (hn 8 (by kernel_rfl)).trans rfl
              exact Pred.yields_run (v := .int .i64 k) (Pred.wanted_none rfl) (by go_simp) ⟨Below.refl _ _, rfl, Nat.zero_le _⟩
            · intro b X p hE hd hn hS hV hI hF
              obtain ⟨r54, j54⟩ : PredT.At 0 (.slice (some ⟨ab, ao, none⟩) len cap) (b.tmps[54]?.getD undef) X p := hV 1 _ 54 rfl rfl (Pred.waits_near (by kernel_rfl) (by kernel_rfl))
              obtain ⟨r55, j55⟩ : PredT.At 0 (.int .i64 k) (b.tmps[55]?.getD undef) X p := hV 2 _ 55 rfl rfl (Pred.waits_near (by kernel_rfl) (by kernel_rfl))
              exact Pred.yields_run (v := .pointer (some ⟨ab, ao + k * 2, none⟩)) (Pred.wanted_none rfl) (by go_simp) ⟨Below.refl _ _, rfl, Nat.zero_le _⟩
            · intro b X p hE hd hn hS hV hI hF
              obtain ⟨r56, j56⟩ : PredT.At 0 (.pointer (some ⟨ab, ao + k * 2, none⟩)) (b.tmps[56]?.getD undef) X p := hV 3 _ 56 rfl rfl (Pred.waits_near (by kernel_rfl) (by kernel_rfl))
              exact Pred.yields_run (v := .pointer (some ⟨ab, ao + k * 2 + 1, none⟩)) (Pred.wanted_none rfl) (by go_simp) ⟨Below.refl _ _, rfl, Nat.zero_le _⟩
            · intro b X p hE hd hn hS hV hI hF
              obtain ⟨r57, j57⟩ : PredT.At 0 (.pointer (some ⟨ab, ao + k * 2 + 1, none⟩)) (b.tmps[57]?.getD undef) X p := hV 4 _ 57 rfl rfl (Pred.waits_near (by kernel_rfl) (by kernel_rfl))
              have cz := (hE.cell (p := ⟨ab, ao + k * 2 + 1, none⟩) (Nat.lt_of_lt_of_le hab (Nat.le_refl _))).trans dy
              exact Pred.yields_run (v := .int .i64 y) (Pred.wanted_none rfl) (by go_simp) ⟨Below.refl _ _, rfl, Nat.zero_le _⟩
            · intro b X p hE hd hn hS hV hI hF
              have r7 : b.tmps[7]?.getD undef = .pointer (some ⟨rb, 0, none⟩) := (hn 7 (by kernel_rfl)).trans rfl
              exact Pred.yields_run (v := .pointer (some ⟨rb, 0, none⟩)) (Pred.wanted_none rfl) (by go_simp) ⟨Below.refl _ _, rfl, Nat.zero_le _⟩
            · intro b X p hE hd hn hS hV hI hF
              have r1 : b.tmps[1]?.getD undef = .slice (some ⟨ab, ao, none⟩) len cap := (hn 1 (by kernel_rfl)).trans rfl
              exact Pred.yields_run (v := .slice (some ⟨ab, ao, none⟩) len cap) (Pred.wanted_none rfl) (by go_simp) ⟨Below.refl _ _, rfl, Nat.zero_le _⟩
            · intro b X p hE hd hn hS hV hI hF
              have r8 : b.tmps[8]?.getD undef = .int .i64 k := (hn 8 (by kernel_rfl)).trans rfl
              exact Pred.yields_run (v := .int .i64 k) (Pred.wanted_none rfl) (by go_simp) ⟨Below.refl _ _, rfl, Nat.zero_le _⟩
            · intro b X p hE hd hn hS hV hI hF
              obtain ⟨r61, j61⟩ : PredT.At 0 (.slice (some ⟨ab, ao, none⟩) len cap) (b.tmps[61]?.getD undef) X p := hV 8 _ 61 rfl rfl (Pred.waits_near (by kernel_rfl) (by kernel_rfl))
              obtain ⟨r62, j62⟩ : PredT.At 0 (.int .i64 k) (b.tmps[62]?.getD undef) X p := hV 9 _ 62 rfl rfl (Pred.waits_near (by kernel_rfl) (by kernel_rfl))
              exact Pred.yields_run (v := .pointer (some ⟨ab, ao + k * 2, none⟩)) (Pred.wanted_none rfl) (by go_simp) ⟨Below.refl _ _, rfl, Nat.zero_le _⟩
            · intro b X p hE hd hn hS hV hI hF
              obtain ⟨r63, j63⟩ : PredT.At 0 (.pointer (some ⟨ab, ao + k * 2, none⟩)) (b.tmps[63]?.getD undef) X p := hV 10 _ 63 rfl rfl (Pred.waits_near (by kernel_rfl) (by kernel_rfl))
              exact Pred.yields_run (v := .pointer (some ⟨ab, ao + k * 2 + 1, none⟩)) (Pred.wanted_none rfl) (by go_simp) ⟨Below.refl _ _, rfl, Nat.zero_le _⟩
            · intro b X p hE hd hn hS hV hI hF
              obtain ⟨r64, j64⟩ : PredT.At 0 (.pointer (some ⟨ab, ao + k * 2 + 1, none⟩)) (b.tmps[64]?.getD undef) X p := hV 11 _ 64 rfl rfl (Pred.waits_near (by kernel_rfl) (by kernel_rfl))
              have cz := (hE.cell (p := ⟨ab, ao + k * 2 + 1, none⟩) (Nat.lt_of_lt_of_le hab (Nat.le_refl _))).trans dy
              exact Pred.yields_run (v := .int .i64 y) (Pred.wanted_none rfl) (by go_simp) ⟨Below.refl _ _, rfl, Nat.zero_le _⟩
            · intro b X p hE hd hn hS hV hI hF
              obtain ⟨r59, j59⟩ : PredT.At 1 (.int .i64 (eV n y)) (b.tmps[59]?.getD undef) X p := hV 6 _ 59 rfl rfl (Pred.waits_near (by kernel_rfl) (by kernel_rfl))
              obtain ⟨r66, j66⟩ : PredT.At 2 (.int .i64 (eV n y)) (b.tmps[66]?.getD undef) X p := hV 13 _ 66 rfl rfl (Pred.waits_near (by kernel_rfl) (by kernel_rfl))
              exact Pred.yields_run (v := .bool false) (Pred.wanted_none rfl) (by go_simp) ⟨Below.refl _ _, rfl, (by omega)⟩
          · refine ⟨?_, ?_, trivial⟩
            · refine ⟨_, rfl, fun k hk => (by cases hk), fun b X hE hd hn hS hV hI => ?_⟩
              obtain ⟨r53, j53⟩ : PredT.At 0 (.pointer (some ⟨lb, 0, none⟩)) (b.tmps[53]?.getD undef) X 0 := hV 0 _ 53 rfl rfl (Pred.waits_near (by kernel_rfl) (by kernel_rfl))
              obtain ⟨r58, j58⟩ : PredT.At 0 (.int .i64 y) (b.tmps[58]?.getD undef) X 0 := hV 5 _ 58 rfl rfl (Pred.waits_near (by kernel_rfl) (by kernel_rfl))
              replace hS : (fun yy => SS w yy lb lg rb gp B n o pin o pin) X := hS
              refine Pred.yields_call (f := 10) (args := #[.pointer (some ⟨lb, 0, none⟩), .int .i64 y]) (Pred.wanted_none rfl) (by go_simp) ?_
              refine (touch_ss y w X hS).mono ?_
              rintro e w9 ⟨rfl, h9, b9⟩
              exact ⟨_, rfl, b9, h9, rfl, Nat.le_refl _⟩
            · refine ⟨_, rfl, fun k hk => (by cases hk; exact Pred.waits_near (by kernel_rfl) (by kernel_rfl)), fun b X hE hd hn hS hV hI => ?_⟩
              obtain ⟨r60, j60⟩ : PredT.At 0 (.pointer (some ⟨rb, 0, none⟩)) (b.tmps[60]?.getD undef) X 1 := hV 7 _ 60 rfl rfl (Pred.waits_near (by kernel_rfl) (by kernel_rfl))
              obtain ⟨r65, j65⟩ : PredT.At 0 (.int .i64 y) (b.tmps[65]?.getD undef) X 1 := hV 12 _ 65 rfl rfl (Pred.waits_near (by kernel_rfl) (by kernel_rfl))
              replace hS : (fun yy => SS w yy lb lg rb gp B n (tO n o y) pin o pin) X := hS
              refine Pred.yields_call (f := 11) (args := #[.pointer (some ⟨rb, 0, none⟩), .int .i64 y]) (Pred.wanted_none rfl) (by go_simp) ?_
              refine (rtouch_ss y w X HOL.out hS).mono ?_
              rintro e w9 ⟨rfl, h9, b9⟩
              exact ⟨_, rfl, b9, h9, rfl, Nat.le_refl _⟩
          intro v X hE hS hv
          replace hS : (fun yy => SS w yy lb lg rb gp B n (tO n o y) pin (tO n o y) pin) X := hS
          have e0 : v 0 = .pointer (some ⟨lb, 0, none⟩) := (hv 0 _ 53 rfl rfl).1
          have e1 : v 1 = .slice (some ⟨ab, ao, none⟩) len cap := (hv 1 _ 54 rfl rfl).1
          have e2 : v 2 = .int .i64 k := (hv 2 _ 55 rfl rfl).1
          have e3 : v 3 = .pointer (some ⟨ab, ao + k * 2, none⟩) := (hv 3 _ 56 rfl rfl).1
          have e4 : v 4 = .pointer (some ⟨ab, ao + k * 2 + 1, none⟩) := (hv 4 _ 57 rfl rfl).1
          have e5 : v 5 = .int .i64 y := (hv 5 _ 58 rfl rfl).1
          have e6 : v 6 = .int .i64 (eV n y) := (hv 6 _ 59 rfl rfl).1
          have e7 : v 7 = .pointer (some ⟨rb, 0, none⟩) := (hv 7 _ 60 rfl rfl).1
          have e8 : v 8 = .slice (some ⟨ab, ao, none⟩) len cap := (hv 8 _ 61 rfl rfl).1
          have e9 : v 9 = .int .i64 k := (hv 9 _ 62 rfl rfl).1
          have e10 : v 10 = .pointer (some ⟨ab, ao + k * 2, none⟩) := (hv 10 _ 63 rfl rfl).1
          have e11 : v 11 = .pointer (some ⟨ab, ao + k * 2 + 1, none⟩) := (hv 11 _ 64 rfl rfl).1
          have e12 : v 12 = .int .i64 y := (hv 12 _ 65 rfl rfl).1
          have e13 : v 13 = .int .i64 (eV n y) := (hv 13 _ 66 rfl rfl).1
          have e14 : v 14 = .bool false := (hv 14 _ 67 rfl rfl).1
          simp only [Pred.putsF_cons, Pred.putsF_nil, Nat.zero_add, Nat.reduceAdd, e0, e1, e2, e3, e4, e5, e6, e7, e8, e9, e10, e11, e12, e13, e14, Act.put, List.setIfInBounds_toArray, List.set_cons_zero, List.set_cons_succ]
          clear e0 e1 e2 e3 e4 e5 e6 e7 e8 e9 e10 e11 e12 e13 e14 hv
          go_wp2
          go_meet
          exact ⟨_, _, Lib.hid hS⟩
        · have q1 : (K == 1) = false := by simpa using k1
          by_cases k2 : K = 2
          · subst k2
            go_upto_region 17 with (fail)
            refine PredT.region_of (W := W) (w.heap.size) hwW [6, 13] [
                fun yy => SS w yy lb lg rb gp B n o pin o pin,
                fun yy => SS w yy lb lg rb gp B n o (tP n pin y) o pin,
                fun yy => SS w yy lb lg rb gp B n o (tP n pin y) o (tP n pin y)] [
                PredT.At 0 (.pointer (some ⟨lb, 0, none⟩)),
                PredT.At 0 (.slice (some ⟨ab, ao, none⟩) len cap),
                PredT.At 0 (.int .i64 k),
                PredT.At 0 (.pointer (some ⟨ab, ao + k * 2, none⟩)),
                PredT.At 0 (.pointer (some ⟨ab, ao + k * 2 + 1, none⟩)),
                PredT.At 0 (.int .i64 y),
                PredT.At 1 (.int .i64 (eV n y)),
                PredT.At 0 (.pointer (some ⟨rb, 0, none⟩)),
                PredT.At 0 (.slice (some ⟨ab, ao, none⟩) len cap),
                PredT.At 0 (.int .i64 k),
                PredT.At 0 (.pointer (some ⟨ab, ao + k * 2, none⟩)),
                PredT.At 0 (.pointer (some ⟨ab, ao + k * 2 + 1, none⟩)),
                PredT.At 0 (.int .i64 y),
                PredT.At 2 (.int .i64 (eV n y)),
                PredT.At 2 (.bool false)] (by kernel_rfl) (by kernel_rfl) (by kernel_rfl) (by decide) (by decide) ?_ ?_ ?_ ?_ ?_ ?_
            · exact ⟨PredT.at_stab _ _ _ _, PredT.at_stab _ _ _ _, PredT.at_stab _ _ _ _, PredT.at_stab _ _ _ _, PredT.at_stab _ _ _ _, PredT.at_stab _ _ _ _, PredT.at_stab _ _ _ _, PredT.at_stab _ _ _ _, PredT.at_stab _ _ _ _, PredT.at_stab _ _ _ _, PredT.at_stab _ _ _ _, PredT.at_stab _ _ _ _, PredT.at_stab _ _ _ _, PredT.at_stab _ _ _ _, PredT.at_stab _ _ _ _, trivial⟩
            · intro q hq
              rcases List.mem_cons.1 hq with rfl | hq
              · exact fun y y' h hb => h.bel hb
              rcases List.mem_cons.1 hq with rfl | hq
              · exact fun y y' h hb => h.bel hb
              rcases List.mem_cons.1 hq with rfl | hq
              · exact fun y y' h hb => h.bel hb
              cases hq
            · exact HS.out
            · refine ⟨.inr ?_, .inr ?_, .inr ?_, .inr ?_, .inr ?_, .inr ?_, .inl rfl, .inr ?_, .inr ?_, .inr ?_, .inr ?_, .inr ?_, .inr ?_, .inl rfl, .inr ?_, trivial⟩
              · intro b X p hE hd hn hS hV hI hF
                have r5 : b.tmps[5]?.getD undef = .pointer (some ⟨lb, 0, none⟩) := (hn 5 (by kernel_rfl)).trans rfl
                exact Pred.yields_run (v := .pointer (some ⟨lb, 0, none⟩)) (Pred.wanted_none rfl) (by go_simp) ⟨Below.refl _ _, rfl, Nat.zero_le _⟩
              · intro b X p hE hd hn hS hV hI hF
                have r1 : b.tmps[1]?.getD undef = .slice (some ⟨ab, ao, none⟩) len cap := (hn 1 (by kernel_rfl)).trans rfl
                exact Pred.yields_run (v := .slice (some ⟨ab, ao, none⟩) len cap) (Pred.wanted_none rfl) (by go_simp) ⟨Below.refl _ _, rfl, Nat.zero_le _⟩
              · intro b X p hE hd hn hS hV hI hF
                have r8 : b.tmps[8]?.getD undef = .int .i64 k := (hn 8 (by kernel_rfl)).trans rfl
                exact Pred.yields_run (v := .int .i64 k) (Pred.wanted_none rfl) (by go_simp) ⟨Below.refl _ _, rfl, Nat.zero_le _⟩
              · intro b X p hE hd hn hS hV hI hF
                obtain ⟨r71, j71⟩ : PredT.At 0 (.slice (some ⟨ab, ao, none⟩) len cap) (b.tmps[71]?.getD undef) X p := hV 1 _ 71 rfl rfl (Pred.waits_near (by kernel_rfl) (by kernel_rfl))
                obtain ⟨r72, j72⟩ : PredT.At 0 (.int .i64 k) (b.tmps[72]?.getD undef) X p := hV 2 _ 72 rfl rfl (Pred.waits_near (by kernel_rfl) (by kernel_rfl))
                exact Pred.yields_run (v := .pointer (some ⟨ab, ao + k * 2, none⟩)) (Pred.wanted_none rfl) (by go_simp) ⟨Below.refl _ _, rfl, Nat.zero_le _⟩
              · intro b X p hE hd hn hS hV hI hF
                obtain ⟨r73, j73⟩ : PredT.At 0 (.pointer (some ⟨ab, ao + k * 2, none⟩)) (b.tmps[73]?.getD undef) X p := hV 3 _ 73 rfl rfl (Pred.waits_near (by kernel_rfl) (by kernel_rfl))
                exact Pred.yields_run (v := .pointer (some ⟨ab, ao + k * 2 + 1, none⟩)) (Pred.wanted_none rfl) (by go_simp) ⟨Below.refl _ _, rfl, Nat.zero_le _⟩
              · intro b X p hE hd hn hS hV hI hF
                obtain ⟨r74, j74⟩ : PredT.At 0 (.pointer (some ⟨ab, ao + k * 2 + 1, none⟩)) (b.tmps[74]?.getD undef) X p := hV 4 _ 74 rfl rfl (Pred.waits_near (by kernel_rfl) (by kernel_rfl))
                have cz := (hE.cell (p := ⟨ab, ao + k * 2 + 1, none⟩) (Nat.lt_of_lt_of_le hab (Nat.le_refl _))).trans dy
                exact Pred.yields_run (v := .int .i64 y) (Pred.wanted_none rfl) (by go_simp) ⟨Below.refl _ _, rfl, Nat.zero_le _⟩
              · intro b X p hE hd hn hS hV hI hF
                have r7 : b.tmps[7]?.getD undef = .pointer (some ⟨rb, 0, none⟩) := (hn 7 (by kernel_rfl)).trans rfl
                exact Pred.yields_run (v := .pointer (some ⟨rb, 0, none⟩)) (Pred.wanted_none rfl) (by go_simp) ⟨Below.refl _ _, rfl, Nat.zero_le _⟩
              · intro b X p hE hd hn hS hV hI hF
                have r1 : b.tmps[1]?.getD undef = .slice (some ⟨ab, ao, none⟩) len cap := (hn 1 (by kernel_rfl)).trans rfl
                exact Pred.yields_run (v := .slice (some ⟨ab, ao, none⟩) len cap) (Pred.wanted_none rfl) (by go_simp) ⟨Below.refl _ _, rfl, Nat.zero_le _⟩
              · intro b X p hE hd hn hS hV hI hF
                have r8 : b.tmps[8]?.getD undef = .int .i64 k := (hn 8 (by kernel_rfl)).trans rfl
                exact Pred.yields_run (v := .int .i64 k) (Pred.wanted_none rfl) (by go_simp) ⟨Below.refl _ _, rfl, Nat.zero_le _⟩
              · intro b X p hE hd hn hS hV hI hF
                obtain ⟨r78, j78⟩ : PredT.At 0 (.slice (some ⟨ab, ao, none⟩) len cap) (b.tmps[78]?.getD undef) X p := hV 8 _ 78 rfl rfl (Pred.waits_near (by kernel_rfl) (by kernel_rfl))
                obtain ⟨r79, j79⟩ : PredT.At 0 (.int .i64 k) (b.tmps[79]?.getD undef) X p := hV 9 _ 79 rfl rfl (Pred.waits_near (by kernel_rfl) (by kernel_rfl))
                exact Pred.yields_run (v := .pointer (some ⟨ab, ao + k * 2, none⟩)) (Pred.wanted_none rfl) (by go_simp) ⟨Below.refl _ _, rfl, Nat.zero_le _⟩
              · intro b X p hE hd hn hS hV hI hF
                obtain ⟨r80, j80⟩ : PredT.At 0 (.pointer (some ⟨ab, ao + k * 2, none⟩)) (b.tmps[80]?.getD undef) X p := hV 10 _ 80 rfl rfl (Pred.waits_near (by kernel_rfl) (by kernel_rfl))
                exact Pred.yields_run (v := .pointer (some ⟨ab, ao + k * 2 + 1, none⟩)) (Pred.wanted_none rfl) (by go_simp) ⟨Below.refl _ _, rfl, Nat.zero_le _⟩
              · intro b X p hE hd hn hS hV hI hF
                obtain ⟨r81, j81⟩ : PredT.At 0 (.pointer (some ⟨ab, ao + k * 2 + 1, none⟩)) (b.tmps[81]?.getD undef) X p := hV 11 _ 81 rfl rfl (Pred.waits_near (by kernel_rfl) (by kernel_rfl))
                have cz := (hE.cell (p := ⟨ab, ao + k * 2 + 1, none⟩) (Nat.lt_of_lt_of_le hab (Nat.le_refl _))).trans dy
                exact Pred.yields_run (v := .int .i64 y) (Pred.wanted_none rfl) (by go_simp) ⟨Below.refl _ _, rfl, Nat.zero_le _⟩
              · intro b X p hE hd hn hS hV hI hF
                obtain ⟨r76, j76⟩ : PredT.At 1 (.int .i64 (eV n y)) (b.tmps[76]?.getD undef) X p := hV 6 _ 76 rfl rfl (Pred.waits_near (by kernel_rfl) (by kernel_rfl))
                obtain ⟨r83, j83⟩ : PredT.At 2 (.int .i64 (eV n y)) (b.tmps[83]?.getD undef) X p := hV 13 _ 83 rfl rfl (Pred.waits_near (by kernel_rfl) (by kernel_rfl))
                exact Pred.yields_run (v := .bool false) (Pred.wanted_none rfl) (by go_simp) ⟨Below.refl _ _, rfl, (by omega)⟩
            · refine ⟨?_, ?_, trivial⟩
              · refine ⟨_, rfl, fun k hk => (by cases hk), fun b X hE hd hn hS hV hI => ?_⟩
                obtain ⟨r70, j70⟩ : PredT.At 0 (.pointer (some ⟨lb, 0, none⟩)) (b.tmps[70]?.getD undef) X 0 := hV 0 _ 70 rfl rfl (Pred.waits_near (by kernel_rfl) (by kernel_rfl))
                obtain ⟨r75, j75⟩ : PredT.At 0 (.int .i64 y) (b.tmps[75]?.getD undef) X 0 := hV 5 _ 75 rfl rfl (Pred.waits_near (by kernel_rfl) (by kernel_rfl))
                replace hS : (fun yy => SS w yy lb lg rb gp B n o pin o pin) X := hS
                refine Pred.yields_call (f := 12) (args := #[.pointer (some ⟨lb, 0, none⟩), .int .i64 y]) (Pred.wanted_none rfl) (by go_simp) ?_
                refine (pin_ss y w X hS).mono ?_
                rintro e w9 ⟨rfl, h9, b9⟩
                exact ⟨_, rfl, b9, h9, rfl, Nat.le_refl _⟩
              · refine ⟨_, rfl, fun k hk => (by cases hk; exact Pred.waits_near (by kernel_rfl) (by kernel_rfl)), fun b X hE hd hn hS hV hI => ?_⟩
                obtain ⟨r77, j77⟩ : PredT.At 0 (.pointer (some ⟨rb, 0, none⟩)) (b.tmps[77]?.getD undef) X 1 := hV 7 _ 77 rfl rfl (Pred.waits_near (by kernel_rfl) (by kernel_rfl))
                obtain ⟨r82, j82⟩ : PredT.At 0 (.int .i64 y) (b.tmps[82]?.getD undef) X 1 := hV 12 _ 82 rfl rfl (Pred.waits_near (by kernel_rfl) (by kernel_rfl))
                replace hS : (fun yy => SS w yy lb lg rb gp B n o (tP n pin y) o pin) X := hS
                refine Pred.yields_call (f := 13) (args := #[.pointer (some ⟨rb, 0, none⟩), .int .i64 y]) (Pred.wanted_none rfl) (by go_simp) ?_
                refine (rpin_ss y w X hS).mono ?_
                rintro e w9 ⟨rfl, h9, b9⟩
                exact ⟨_, rfl, b9, h9, rfl, Nat.le_refl _⟩
            intro v X hE hS hv
            replace hS : (fun yy => SS w yy lb lg rb gp B n o (tP n pin y) o (tP n pin y)) X := hS
            have e0 : v 0 = .pointer (some ⟨lb, 0, none⟩) := (hv 0 _ 70 rfl rfl).1
            have e1 : v 1 = .slice (some ⟨ab, ao, none⟩) len cap := (hv 1 _ 71 rfl rfl).1
            have e2 : v 2 = .int .i64 k := (hv 2 _ 72 rfl rfl).1
            have e3 : v 3 = .pointer (some ⟨ab, ao + k * 2, none⟩) := (hv 3 _ 73 rfl rfl).1
            have e4 : v 4 = .pointer (some ⟨ab, ao + k * 2 + 1, none⟩) := (hv 4 _ 74 rfl rfl).1
            have e5 : v 5 = .int .i64 y := (hv 5 _ 75 rfl rfl).1
            have e6 : v 6 = .int .i64 (eV n y) := (hv 6 _ 76 rfl rfl).1
            have e7 : v 7 = .pointer (some ⟨rb, 0, none⟩) := (hv 7 _ 77 rfl rfl).1
            have e8 : v 8 = .slice (some ⟨ab, ao, none⟩) len cap := (hv 8 _ 78 rfl rfl).1
            have e9 : v 9 = .int .i64 k := (hv 9 _ 79 rfl rfl).1
            have e10 : v 10 = .pointer (some ⟨ab, ao + k * 2, none⟩) := (hv 10 _ 80 rfl rfl).1
            have e11 : v 11 = .pointer (some ⟨ab, ao + k * 2 + 1, none⟩) := (hv 11 _ 81 rfl rfl).1
            have e12 : v 12 = .int .i64 y := (hv 12 _ 82 rfl rfl).1
            have e13 : v 13 = .int .i64 (eV n y) := (hv 13 _ 83 rfl rfl).1
            have e14 : v 14 = .bool false := (hv 14 _ 84 rfl rfl).1
            simp only [Pred.putsF_cons, Pred.putsF_nil, Nat.zero_add, Nat.reduceAdd, e0, e1, e2, e3, e4, e5, e6, e7, e8, e9, e10, e11, e12, e13, e14, Act.put, List.setIfInBounds_toArray, List.set_cons_zero, List.set_cons_succ]
            clear e0 e1 e2 e3 e4 e5 e6 e7 e8 e9 e10 e11 e12 e13 e14 hv
            go_wp2
            go_meet
            exact ⟨_, _, Lib.hid hS⟩
          · have q2 : (K == 2) = false := by simpa using k2
            go_wp2
            go_meet
            exact ⟨o, pin, HS⟩
      case rest =>
      obtain ⟨o1, pin1, H1⟩ := hcut
      obtain ⟨W1, e1⟩ : ∃ z : World, z = wc := ⟨_, rfl⟩
      subst e1
      clear HS dx dy HOL
      have hol := st_len H1.out.a
      have HOL := Lib.hid hol
      have hold := oldest_st _ H1.out.a
      have hrold : ∀ X : World, SS w X lb lg rb gp B n o1 pin1 o1 pin1 → Calls Try.prog 15 #[.pointer (some ⟨rb, 0, none⟩)] X fun e w' => e = .returned (.int .i64 (oldR o1 pin1)) ∧ Below X.heap.size X w' := fun X h => roldest_any X h.r ⟨hn1, hn2⟩ hol h.a.perm.2.1
      have CO : Hid (∀ X : World, St X lb lg n o1 pin1 → Calls Try.prog 17 #[.pointer (some ⟨lb, 0, none⟩), .int .i64 (-1)] X fun e w' => (∃ v, e = .returned v ∧ SI n o1 v w') ∧ Below X.heap.size X w') := Lib.hid fun X h => by
        have := order_st (-1) X h
        rw [cut_all, hol] at this
        exact this.mono fun e w' ⟨⟨ad, c, h1, h2⟩, h3⟩ => ⟨⟨_, h1, ad, c, rfl, h2⟩, h3⟩
      obtain ⟨k2, hk2⟩ : ∃ k2 : Nat, (o1.take 2).length = k2 := ⟨_, rfl⟩
      have hk3 : k2 = min 2 n := by rw [← hk2, List.length_take, hol]
      have CO2 : Hid (∀ X : World, St X lb lg n o1 pin1 → Calls Try.prog 17 #[.pointer (some ⟨lb, 0, none⟩), .int .i64 2] X fun e w' => (∃ v, e = .returned v ∧ SI k2 (o1.take 2) v w') ∧ Below X.heap.size X w') := Lib.hid fun X h => by
        have := order_st 2 X h
        rw [cut_two, hk2] at this
        exact this.mono fun e w' ⟨⟨ad, c, h1, h2⟩, h3⟩ => ⟨⟨_, h1, ad, c, rfl, h2⟩, h3⟩
      have HK2 := Lib.hid hk2
      have HK3 := Lib.hid hk3
      have hk4 : k2 ≤ n := by omega
      clear hol hk2 hk3
      unfold oldR at hrold
      cases ev : oldO o1 pin1 with
      | none =>
        rw [ev] at hold hrold
        have hold2 := Lib.hid hold
        have hrold2 : Hid (∀ X : World, SS w X lb lg rb gp B n o1 pin1 o1 pin1 → Calls Try.prog 15 #[.pointer (some ⟨rb, 0, none⟩)] X fun e w' => e = .returned (.int .i64 (-1)) ∧ Below X.heap.size X w') := Lib.hid hrold
        clear hold hrold ev
        go_wp2_with fail
        refine hold2.out.mono ?_
        rintro e W2 ⟨rfl, b2⟩
        have H2 := Lib.hid (H1.out.bel b2)
        clear b2 hold2 H1
        go_wp2_with fail
        refine (hrold2.out _ H2.out).mono ?_
        rintro e W3 ⟨rfl, b3⟩
        have H3 := Lib.hid (H2.out.bel b3)
        clear b3 hrold2 H2
        go_upto_region 21 with (fail)
        refine Rd.name_world ?_
        intro W hW
        rw [← hW] at H3
        clear hW
        obtain ⟨va, ps, hrf⟩ := H3.out.r
        obtain ⟨-, gl, vc, eva, hcap, hgl, hgw, hcel⟩ := own_cells hrf.own (by rw [HOL.out]; omega)
        subst eva
        have HRO := Lib.hid (Reads.of_owns hrf.own)
        rw [HOL.out] at HRO hcap hrf
        have cL := hrf.c0
        have hrl := blk_lt hrf.st
        clear hcel hrf hgl
        have hkc : k2 ≤ vc := by omega
        have HR2 : Hid (Reads W 1 (some ⟨gl, 0, none⟩) k2 (iv (o1.take 2))) := Lib.hid (by
          obtain ⟨h1, h2⟩ := HRO.out
          refine ⟨by rw [iv_len, HK2.out, Nat.mul_one], ?_⟩
          rcases h2 with h2 | ⟨b2, off, e2, h3, h4⟩
          · omega
          · refine Or.inr ⟨b2, off, e2, h3, fun i hi => ?_⟩
            have hi2 : i < (o1.take 2).length := by rw [iv_len] at hi; exact hi
            have hi1 : i < o1.length := by rw [List.length_take] at hi2; omega
            rw [h4 i (by rw [iv_len]; exact hi1)]
            have hi3 : i < 2 := by rw [List.length_take] at hi2; omega
            simp [iv, List.getElem?_take, hi3])
        have HA := Lib.hid H3.out.a
        refine Pred.region_vals (Pred.Of [
            Is (.bool false),
            Is (.int .i64 (-1)),
            Is (.bool false),
            Is (.bool false),
            Is (.bool false),
            Is (.bool false),
            Is (.bool false),
            Is (undef),
            Is (undef),
            Is (undef),
            Is (.bool false),
            Is (.bool false),
            Is (.bool false),
            Is (.pointer (some ⟨lb, 0, none⟩)),
            SI (n) (o1),
            Is (.pointer (some ⟨rb, 0, none⟩)),
            Is (.pointer (some ⟨rb, 0, none⟩)),
            Is (.pointer (some ⟨rb, 0, none⟩)),
            Is (.slice (some ⟨gl, 0, none⟩) n vc),
            Is (.bool true),
            Is (.bool false),
            Is (.bool false),
            Is (.bool false),
            Is (.pointer (some ⟨lb, 0, none⟩)),
            SI (k2) (o1.take 2),
            Is (.pointer (some ⟨rb, 0, none⟩)),
            Is (.pointer (some ⟨rb, 0, none⟩)),
            Is (.pointer (some ⟨rb, 0, none⟩)),
            Is (.slice (some ⟨gl, 0, none⟩) n vc),
            Is (.pointer (some ⟨rb, 0, none⟩)),
            Is (.pointer (some ⟨rb, 0, none⟩)),
            Is (.pointer (some ⟨rb, 0, none⟩)),
            Is (.slice (some ⟨gl, 0, none⟩) n vc),
            Is (.int .i64 (n : Nat)),
            Is (.int .i64 (k2 : Nat)),
            Is (.slice (some ⟨gl, 0, none⟩) k2 vc),
            Is (.bool true),
            Is (.bool false),
            Is (.bool false)]) (by kernel_rfl) (by kernel_rfl) (by kernel_rfl) (Pred.of_stab ?_) ?_ ?_
        · exact ⟨is_stab _, is_stab _, is_stab _, is_stab _, is_stab _, is_stab _, is_stab _, is_stab _, is_stab _, is_stab _, is_stab _, is_stab _, is_stab _, is_stab _, si_stab _ _, is_stab _, is_stab _, is_stab _, is_stab _, is_stab _, is_stab _, is_stab _, is_stab _, is_stab _, si_stab _ _, is_stab _, is_stab _, is_stab _, is_stab _, is_stab _, is_stab _, is_stab _, is_stab _, is_stab _, is_stab _, is_stab _, is_stab _, is_stab _, is_stab _, trivial⟩
        · refine ⟨?_, ?_, ?_, ?_, ?_, ?_, ?_, ?_, ?_, ?_, ?_, ?_, ?_, ?_, ?_, ?_, ?_, ?_, ?_, ?_, ?_, ?_, ?_, ?_, ?_, ?_, ?_, ?_, ?_, ?_, ?_, ?_, ?_, ?_, ?_, ?_, ?_, ?_, ?_, trivial⟩
          · intro b X hE hd hn hV
            have r10 : b.tmps[10]?.getD undef = .bool false := (hn 10 (by kernel_rfl)).trans rfl
            exact Pred.yields_run (v := .bool false) (Pred.wanted_none rfl) (by go_simp) ⟨Pred.ext_refl _ _, rfl⟩
          · intro b X hE hd hn hV
            have r11 : b.tmps[11]?.getD undef = .int .i64 (-1) := (hn 11 (by kernel_rfl)).trans rfl
            exact Pred.yields_run (v := .int .i64 (-1)) (Pred.wanted_none rfl) (by go_simp) ⟨Pred.ext_refl _ _, rfl⟩
          · intro b X hE hd hn hV
            have r93 : b.tmps[93]?.getD undef = .int .i64 (-1) := hV 1 _ 93 rfl rfl (Pred.waits_near (by kernel_rfl) (by kernel_rfl))
            exact Pred.yields_run (v := .bool false) (Pred.wanted_none rfl) (by go_simp) ⟨Pred.ext_refl _ _, rfl⟩
          · intro b X hE hd hn hV
            have r92 : b.tmps[92]?.getD undef = .bool false := hV 0 _ 92 rfl rfl (Pred.waits_near (by kernel_rfl) (by kernel_rfl))
            have r94 : b.tmps[94]?.getD undef = .bool false := hV 2 _ 94 rfl rfl (Pred.waits_near (by kernel_rfl) (by kernel_rfl))
            exact Pred.yields_run (v := .bool false) (Pred.wanted_none rfl) (by go_simp) ⟨Pred.ext_refl _ _, rfl⟩
          · intro b X hE hd hn hV
            have r95 : b.tmps[95]?.getD undef = .bool false := hV 3 _ 95 rfl rfl (Pred.waits_near (by kernel_rfl) (by kernel_rfl))
            exact Pred.yields_run (v := .bool false) (Pred.wanted_none rfl) (by go_simp) ⟨Pred.ext_refl _ _, rfl⟩
          · intro b X hE hd hn hV
            have r10 : b.tmps[10]?.getD undef = .bool false := (hn 10 (by kernel_rfl)).trans rfl
            have r96 : b.tmps[96]?.getD undef = .bool false := hV 4 _ 96 rfl rfl (Pred.waits_near (by kernel_rfl) (by kernel_rfl))
            exact Pred.yields_run (v := .bool false) ((Pred.wanted_at (g := 4) (d := 96) (f := false) rfl rfl r96).trans rfl) (by go_simp) ⟨Pred.ext_refl _ _, rfl⟩
          · intro b X hE hd hn hV
            have r97 : b.tmps[97]?.getD undef = .bool false := hV 5 _ 97 rfl rfl (Pred.waits_near (by kernel_rfl) (by kernel_rfl))
            have r96 : b.tmps[96]?.getD undef = .bool false := hV 4 _ 96 rfl rfl (Pred.waits_near (by kernel_rfl) (by kernel_rfl))
            exact Pred.yields_run (v := .bool false) ((Pred.wanted_at (g := 4) (d := 96) (f := false) rfl rfl r96).trans rfl) (by go_simp) ⟨Pred.ext_refl _ _, rfl⟩
          · intro b X hE hd hn hV
            have r98 : b.tmps[98]?.getD undef = .bool false := hV 6 _ 98 rfl rfl (Pred.waits_near (by kernel_rfl) (by kernel_rfl))
            exact Pred.yields_not ((Pred.wanted_at (g := 6) (d := 98) (f := true) rfl rfl r98).trans rfl) ⟨Pred.ext_refl _ _, rfl⟩
          · intro b X hE hd hn hV
            have r98 : b.tmps[98]?.getD undef = .bool false := hV 6 _ 98 rfl rfl (Pred.waits_near (by kernel_rfl) (by kernel_rfl))
            exact Pred.yields_not ((Pred.wanted_at (g := 6) (d := 98) (f := true) rfl rfl r98).trans rfl) ⟨Pred.ext_refl _ _, rfl⟩
          · intro b X hE hd hn hV
            have r98 : b.tmps[98]?.getD undef = .bool false := hV 6 _ 98 rfl rfl (Pred.waits_near (by kernel_rfl) (by kernel_rfl))
            exact Pred.yields_not ((Pred.wanted_at (g := 6) (d := 98) (f := true) rfl rfl r98).trans rfl) ⟨Pred.ext_refl _ _, rfl⟩
          · intro b X hE hd hn hV
            have r98 : b.tmps[98]?.getD undef = .bool false := hV 6 _ 98 rfl rfl (Pred.waits_near (by kernel_rfl) (by kernel_rfl))
            have r101 : b.tmps[101]?.getD undef = undef := hV 9 _ 101 rfl rfl (Pred.waits_near (by kernel_rfl) (by kernel_rfl))
            have r96 : b.tmps[96]?.getD undef = .bool false := hV 4 _ 96 rfl rfl (Pred.waits_near (by kernel_rfl) (by kernel_rfl))
            exact Pred.yields_run (v := .bool false) ((Pred.wanted_at (g := 4) (d := 96) (f := false) rfl rfl r96).trans rfl) (by go_simp) ⟨Pred.ext_refl _ _, rfl⟩
          · intro b X hE hd hn hV
            have r96 : b.tmps[96]?.getD undef = .bool false := hV 4 _ 96 rfl rfl (Pred.waits_near (by kernel_rfl) (by kernel_rfl))
            have r102 : b.tmps[102]?.getD undef = .bool false := hV 10 _ 102 rfl rfl (Pred.waits_near (by kernel_rfl) (by kernel_rfl))
            exact Pred.yields_run (v := .bool false) (Pred.wanted_none rfl) (by go_simp) ⟨Pred.ext_refl _ _, rfl⟩
          · intro b X hE hd hn hV
            have r103 : b.tmps[103]?.getD undef = .bool false := hV 11 _ 103 rfl rfl (Pred.waits_near (by kernel_rfl) (by kernel_rfl))
            exact Pred.yields_run (v := .bool false) (Pred.wanted_none rfl) (by go_simp) ⟨Pred.ext_refl _ _, rfl⟩
          · intro b X hE hd hn hV
            have r5 : b.tmps[5]?.getD undef = .pointer (some ⟨lb, 0, none⟩) := (hn 5 (by kernel_rfl)).trans rfl
            have r104 : b.tmps[104]?.getD undef = .bool false := hV 12 _ 104 rfl rfl (Pred.waits_near (by kernel_rfl) (by kernel_rfl))
            exact Pred.yields_run (v := .pointer (some ⟨lb, 0, none⟩)) ((Pred.wanted_at (g := 12) (d := 104) (f := false) rfl rfl r104).trans rfl) (by go_simp) ⟨Pred.ext_refl _ _, rfl⟩
          · intro b X hE hd hn hV
            have r105 : b.tmps[105]?.getD undef = .pointer (some ⟨lb, 0, none⟩) := hV 13 _ 105 rfl rfl (Pred.waits_near (by kernel_rfl) (by kernel_rfl))
            have r104 : b.tmps[104]?.getD undef = .bool false := hV 12 _ 104 rfl rfl (Pred.waits_near (by kernel_rfl) (by kernel_rfl))
            refine Pred.yields_call (f := 17) (args := #[.pointer (some ⟨lb, 0, none⟩), .int .i64 (-1)]) ((Pred.wanted_at (g := 12) (d := 104) (f := false) rfl rfl r104).trans rfl) (by go_simp) ?_
            exact (CO.out _ (HA.out.bel hE)).mono fun e w2 ⟨⟨v, he, hp⟩, hb⟩ => ⟨v, he, Pred.ext_below hb hE.size, hp⟩
          · intro b X hE hd hn hV
            have r7 : b.tmps[7]?.getD undef = .pointer (some ⟨rb, 0, none⟩) := (hn 7 (by kernel_rfl)).trans rfl
            have r104 : b.tmps[104]?.getD undef = .bool false := hV 12 _ 104 rfl rfl (Pred.waits_near (by kernel_rfl) (by kernel_rfl))
            exact Pred.yields_run (v := .pointer (some ⟨rb, 0, none⟩)) ((Pred.wanted_at (g := 12) (d := 104) (f := false) rfl rfl r104).trans rfl) (by go_simp) ⟨Pred.ext_refl _ _, rfl⟩
          · intro b X hE hd hn hV
            have r107 : b.tmps[107]?.getD undef = .pointer (some ⟨rb, 0, none⟩) := hV 15 _ 107 rfl rfl (Pred.waits_near (by kernel_rfl) (by kernel_rfl))
            have r104 : b.tmps[104]?.getD undef = .bool false := hV 12 _ 104 rfl rfl (Pred.waits_near (by kernel_rfl) (by kernel_rfl))
            exact Pred.yields_run (v := .pointer (some ⟨rb, 0, none⟩)) ((Pred.wanted_at (g := 12) (d := 104) (f := false) rfl rfl r104).trans rfl) (by go_simp) ⟨Pred.ext_refl _ _, rfl⟩
          · intro b X hE hd hn hV
            have r108 : b.tmps[108]?.getD undef = .pointer (some ⟨rb, 0, none⟩) := hV 16 _ 108 rfl rfl (Pred.waits_near (by kernel_rfl) (by kernel_rfl))
            have r104 : b.tmps[104]?.getD undef = .bool false := hV 12 _ 104 rfl rfl (Pred.waits_near (by kernel_rfl) (by kernel_rfl))
            have hpx : rb < X.heap.size := Nat.lt_of_lt_of_le hrl hE.size
            exact Pred.yields_run (v := .pointer (some ⟨rb, 0, none⟩)) ((Pred.wanted_at (g := 12) (d := 104) (f := false) rfl rfl r104).trans rfl) (by go_simp) ⟨Pred.ext_refl _ _, rfl⟩
          · intro b X hE hd hn hV
            have r109 : b.tmps[109]?.getD undef = .pointer (some ⟨rb, 0, none⟩) := hV 17 _ 109 rfl rfl (Pred.waits_near (by kernel_rfl) (by kernel_rfl))
            have r104 : b.tmps[104]?.getD undef = .bool false := hV 12 _ 104 rfl rfl (Pred.waits_near (by kernel_rfl) (by kernel_rfl))
            have cz := (hE.cell (p := ⟨rb, 0, none⟩) hrl).trans cL
            exact Pred.yields_run (v := .slice (some ⟨gl, 0, none⟩) n vc) ((Pred.wanted_at (g := 12) (d := 104) (f := false) rfl rfl r104).trans rfl) (by go_simp) ⟨Pred.ext_refl _ _, rfl⟩
          · intro b X hE hd hn hV
            obtain ⟨ga106, ca106, r106, hr106⟩ : SI (n) (o1) (b.tmps[106]?.getD undef) X := hV 14 _ 106 rfl rfl (Pred.waits_near (by kernel_rfl) (by kernel_rfl))
            have r110 : b.tmps[110]?.getD undef = .slice (some ⟨gl, 0, none⟩) n vc := hV 18 _ 110 rfl rfl (Pred.waits_near (by kernel_rfl) (by kernel_rfl))
            have r104 : b.tmps[104]?.getD undef = .bool false := hV 12 _ 104 rfl rfl (Pred.waits_near (by kernel_rfl) (by kernel_rfl))
            refine Pred.yields_call (f := 16) (args := #[.slice ga106 n ca106, .slice (some ⟨gl, 0, none⟩) n vc]) ((Pred.wanted_at (g := 12) (d := 104) (f := false) rfl rfl r104).trans rfl) (by go_simp) ?_
            rw [iv_i] at hr106
            have hro := HRO.out.below hE (Nat.le_refl _)
            rw [iv_i] at hro
            have hq := Alk.ints_any ga106 (some ⟨gl, 0, none⟩) n ca106 n vc _ _ X hr106 hro (by omega) (by omega)
            rw [decide_eq_true rfl] at hq
            exact hq.mono fun e w2 ⟨he, hb⟩ => ⟨_, he, Pred.ext_below hb hE.size, rfl⟩
          · intro b X hE hd hn hV
            have r111 : b.tmps[111]?.getD undef = .bool true := hV 19 _ 111 rfl rfl (Pred.waits_near (by kernel_rfl) (by kernel_rfl))
            have r104 : b.tmps[104]?.getD undef = .bool false := hV 12 _ 104 rfl rfl (Pred.waits_near (by kernel_rfl) (by kernel_rfl))
            exact Pred.yields_run (v := .bool false) ((Pred.wanted_at (g := 12) (d := 104) (f := false) rfl rfl r104).trans rfl) (by go_simp) ⟨Pred.ext_refl _ _, rfl⟩
          · intro b X hE hd hn hV
            have r104 : b.tmps[104]?.getD undef = .bool false := hV 12 _ 104 rfl rfl (Pred.waits_near (by kernel_rfl) (by kernel_rfl))
            have r112 : b.tmps[112]?.getD undef = .bool false := hV 20 _ 112 rfl rfl (Pred.waits_near (by kernel_rfl) (by kernel_rfl))
            exact Pred.yields_run (v := .bool false) (Pred.wanted_none rfl) (by go_simp) ⟨Pred.ext_refl _ _, rfl⟩
          · intro b X hE hd hn hV
            have r113 : b.tmps[113]?.getD undef = .bool false := hV 21 _ 113 rfl rfl (Pred.waits_near (by kernel_rfl) (by kernel_rfl))
            exact Pred.yields_run (v := .bool false) (Pred.wanted_none rfl) (by go_simp) ⟨Pred.ext_refl _ _, rfl⟩
          · intro b X hE hd hn hV
            have r5 : b.tmps[5]?.getD undef = .pointer (some ⟨lb, 0, none⟩) := (hn 5 (by kernel_rfl)).trans rfl
            have r114 : b.tmps[114]?.getD undef = .bool false := hV 22 _ 114 rfl rfl (Pred.waits_near (by kernel_rfl) (by kernel_rfl))
            exact Pred.yields_run (v := .pointer (some ⟨lb, 0, none⟩)) ((Pred.wanted_at (g := 22) (d := 114) (f := false) rfl rfl r114).trans rfl) (by go_simp) ⟨Pred.ext_refl _ _, rfl⟩
          · intro b X hE hd hn hV
            have r115 : b.tmps[115]?.getD undef = .pointer (some ⟨lb, 0, none⟩) := hV 23 _ 115 rfl rfl (Pred.waits_near (by kernel_rfl) (by kernel_rfl))
            have r114 : b.tmps[114]?.getD undef = .bool false := hV 22 _ 114 rfl rfl (Pred.waits_near (by kernel_rfl) (by kernel_rfl))
            refine Pred.yields_call (f := 17) (args := #[.pointer (some ⟨lb, 0, none⟩), .int .i64 2]) ((Pred.wanted_at (g := 22) (d := 114) (f := false) rfl rfl r114).trans rfl) (by go_simp) ?_
            exact (CO2.out _ (HA.out.bel hE)).mono fun e w2 ⟨⟨v, he, hp⟩, hb⟩ => ⟨v, he, Pred.ext_below hb hE.size, hp⟩
          · intro b X hE hd hn hV
            have r7 : b.tmps[7]?.getD undef = .pointer (some ⟨rb, 0, none⟩) := (hn 7 (by kernel_rfl)).trans rfl
            have r114 : b.tmps[114]?.getD undef = .bool false := hV 22 _ 114 rfl rfl (Pred.waits_near (by kernel_rfl) (by kernel_rfl))
            exact Pred.yields_run (v := .pointer (some ⟨rb, 0, none⟩)) ((Pred.wanted_at (g := 22) (d := 114) (f := false) rfl rfl r114).trans rfl) (by go_simp) ⟨Pred.ext_refl _ _, rfl⟩
          · intro b X hE hd hn hV
            have r117 : b.tmps[117]?.getD undef = .pointer (some ⟨rb, 0, none⟩) := hV 25 _ 117 rfl rfl (Pred.waits_near (by kernel_rfl) (by kernel_rfl))
            have r114 : b.tmps[114]?.getD undef = .bool false := hV 22 _ 114 rfl rfl (Pred.waits_near (by kernel_rfl) (by kernel_rfl))
            have hpx : rb < X.heap.size := Nat.lt_of_lt_of_le hrl hE.size
            exact Pred.yields_run (v := .pointer (some ⟨rb, 0, none⟩)) ((Pred.wanted_at (g := 22) (d := 114) (f := false) rfl rfl r114).trans rfl) (by go_simp) ⟨Pred.ext_refl _ _, rfl⟩
          · intro b X hE hd hn hV
            have r118 : b.tmps[118]?.getD undef = .pointer (some ⟨rb, 0, none⟩) := hV 26 _ 118 rfl rfl (Pred.waits_near (by kernel_rfl) (by kernel_rfl))
            have r114 : b.tmps[114]?.getD undef = .bool false := hV 22 _ 114 rfl rfl (Pred.waits_near (by kernel_rfl) (by kernel_rfl))
            have hpx : rb < X.heap.size := Nat.lt_of_lt_of_le hrl hE.size
            exact Pred.yields_run (v := .pointer (some ⟨rb, 0, none⟩)) ((Pred.wanted_at (g := 22) (d := 114) (f := false) rfl rfl r114).trans rfl) (by go_simp) ⟨Pred.ext_refl _ _, rfl⟩
          · intro b X hE hd hn hV
            have r119 : b.tmps[119]?.getD undef = .pointer (some ⟨rb, 0, none⟩) := hV 27 _ 119 rfl rfl (Pred.waits_near (by kernel_rfl) (by kernel_rfl))
            have r114 : b.tmps[114]?.getD undef = .bool false := hV 22 _ 114 rfl rfl (Pred.waits_near (by kernel_rfl) (by kernel_rfl))
            have cz := (hE.cell (p := ⟨rb, 0, none⟩) hrl).trans cL
            exact Pred.yields_run (v := .slice (some ⟨gl, 0, none⟩) n vc) ((Pred.wanted_at (g := 22) (d := 114) (f := false) rfl rfl r114).trans rfl) (by go_simp) ⟨Pred.ext_refl _ _, rfl⟩
          · intro b X hE hd hn hV
            have r7 : b.tmps[7]?.getD undef = .pointer (some ⟨rb, 0, none⟩) := (hn 7 (by kernel_rfl)).trans rfl
            have r114 : b.tmps[114]?.getD undef = .bool false := hV 22 _ 114 rfl rfl (Pred.waits_near (by kernel_rfl) (by kernel_rfl))
            exact Pred.yields_run (v := .pointer (some ⟨rb, 0, none⟩)) ((Pred.wanted_at (g := 22) (d := 114) (f := false) rfl rfl r114).trans rfl) (by go_simp) ⟨Pred.ext_refl _ _, rfl⟩
          · intro b X hE hd hn hV
            have r121 : b.tmps[121]?.getD undef = .pointer (some ⟨rb, 0, none⟩) := hV 29 _ 121 rfl rfl (Pred.waits_near (by kernel_rfl) (by kernel_rfl))
            have r114 : b.tmps[114]?.getD undef = .bool false := hV 22 _ 114 rfl rfl (Pred.waits_near (by kernel_rfl) (by kernel_rfl))
            exact Pred.yields_run (v := .pointer (some ⟨rb, 0, none⟩)) ((Pred.wanted_at (g := 22) (d := 114) (f := false) rfl rfl r114).trans rfl) (by go_simp) ⟨Pred.ext_refl _ _, rfl⟩
          · intro b X hE hd hn hV
            have r122 : b.tmps[122]?.getD undef = .pointer (some ⟨rb, 0, none⟩) := hV 30 _ 122 rfl rfl (Pred.waits_near (by kernel_rfl) (by kernel_rfl))
            have r114 : b.tmps[114]?.getD undef = .bool false := hV 22 _ 114 rfl rfl (Pred.waits_near (by kernel_rfl) (by kernel_rfl))
            have hpx : rb < X.heap.size := Nat.lt_of_lt_of_le hrl hE.size
            exact Pred.yields_run (v := .pointer (some ⟨rb, 0, none⟩)) ((Pred.wanted_at (g := 22) (d := 114) (f := false) rfl rfl r114).trans rfl) (by go_simp) ⟨Pred.ext_refl _ _, rfl⟩
          · intro b X hE hd hn hV
            have r123 : b.tmps[123]?.getD undef = .pointer (some ⟨rb, 0, none⟩) := hV 31 _ 123 rfl rfl (Pred.waits_near (by kernel_rfl) (by kernel_rfl))
            have r114 : b.tmps[114]?.getD undef = .bool false := hV 22 _ 114 rfl rfl (Pred.waits_near (by kernel_rfl) (by kernel_rfl))
            have cz := (hE.cell (p := ⟨rb, 0, none⟩) hrl).trans cL
            exact Pred.yields_run (v := .slice (some ⟨gl, 0, none⟩) n vc) ((Pred.wanted_at (g := 22) (d := 114) (f := false) rfl rfl r114).trans rfl) (by go_simp) ⟨Pred.ext_refl _ _, rfl⟩
          · intro b X hE hd hn hV
            have r124 : b.tmps[124]?.getD undef = .slice (some ⟨gl, 0, none⟩) n vc := hV 32 _ 124 rfl rfl (Pred.waits_near (by kernel_rfl) (by kernel_rfl))
            have r114 : b.tmps[114]?.getD undef = .bool false := hV 22 _ 114 rfl rfl (Pred.waits_near (by kernel_rfl) (by kernel_rfl))
            exact Pred.yields_run (v := .int .i64 (n : Nat)) ((Pred.wanted_at (g := 22) (d := 114) (f := false) rfl rfl r114).trans rfl) (by go_simp) ⟨Pred.ext_refl _ _, rfl⟩
          · intro b X hE hd hn hV
            have r125 : b.tmps[125]?.getD undef = .int .i64 (n : Nat) := hV 33 _ 125 rfl rfl (Pred.waits_near (by kernel_rfl) (by kernel_rfl))
            have r114 : b.tmps[114]?.getD undef = .bool false := hV 22 _ 114 rfl rfl (Pred.waits_near (by kernel_rfl) (by kernel_rfl))
            have hk3 := HK3.out
            have hmn : (if (n : Int) < 2 then (n : Int) else 2) = (k2 : Int) := by split <;> omega
            have hmn2 : min (2 : Int) (n : Int) = (k2 : Int) := by omega
            clear hk3
            exact Pred.yields_run (v := .int .i64 (k2 : Nat)) ((Pred.wanted_at (g := 22) (d := 114) (f := false) rfl rfl r114).trans rfl) (by go_simp) ⟨Pred.ext_refl _ _, rfl⟩
          · intro b X hE hd hn hV
            have r120 : b.tmps[120]?.getD undef = .slice (some ⟨gl, 0, none⟩) n vc := hV 28 _ 120 rfl rfl (Pred.waits_near (by kernel_rfl) (by kernel_rfl))
            have r126 : b.tmps[126]?.getD undef = .int .i64 (k2 : Nat) := hV 34 _ 126 rfl rfl (Pred.waits_near (by kernel_rfl) (by kernel_rfl))
            have r114 : b.tmps[114]?.getD undef = .bool false := hV 22 _ 114 rfl rfl (Pred.waits_near (by kernel_rfl) (by kernel_rfl))
            have hk0 : (0 : Int) ≤ (k2 : Int) := by omega
            have hkc2 : (k2 : Int) ≤ (vc : Int) := by omega
            have hkc3 : ¬ vc < k2 := by omega
            exact Pred.yields_run (v := .slice (some ⟨gl, 0, none⟩) k2 vc) ((Pred.wanted_at (g := 22) (d := 114) (f := false) rfl rfl r114).trans rfl) (by go_simp) ⟨Pred.ext_refl _ _, rfl⟩
          · intro b X hE hd hn hV
            obtain ⟨ga116, ca116, r116, hr116⟩ : SI (k2) (o1.take 2) (b.tmps[116]?.getD undef) X := hV 24 _ 116 rfl rfl (Pred.waits_near (by kernel_rfl) (by kernel_rfl))
            have r127 : b.tmps[127]?.getD undef = .slice (some ⟨gl, 0, none⟩) k2 vc := hV 35 _ 127 rfl rfl (Pred.waits_near (by kernel_rfl) (by kernel_rfl))
            have r114 : b.tmps[114]?.getD undef = .bool false := hV 22 _ 114 rfl rfl (Pred.waits_near (by kernel_rfl) (by kernel_rfl))
            refine Pred.yields_call (f := 16) (args := #[.slice ga116 k2 ca116, .slice (some ⟨gl, 0, none⟩) k2 vc]) ((Pred.wanted_at (g := 22) (d := 114) (f := false) rfl rfl r114).trans rfl) (by go_simp) ?_
            rw [iv_i] at hr116
            have hro := HR2.out.below hE (Nat.le_refl _)
            rw [iv_i] at hro
            have hq := Alk.ints_any ga116 (some ⟨gl, 0, none⟩) k2 ca116 k2 vc _ _ X hr116 hro (by omega) (by omega)
            rw [decide_eq_true rfl] at hq
            exact hq.mono fun e w2 ⟨he, hb⟩ => ⟨_, he, Pred.ext_below hb hE.size, rfl⟩
          · intro b X hE hd hn hV
            have r128 : b.tmps[128]?.getD undef = .bool true := hV 36 _ 128 rfl rfl (Pred.waits_near (by kernel_rfl) (by kernel_rfl))
            have r114 : b.tmps[114]?.getD undef = .bool false := hV 22 _ 114 rfl rfl (Pred.waits_near (by kernel_rfl) (by kernel_rfl))
            exact Pred.yields_run (v := .bool false) ((Pred.wanted_at (g := 22) (d := 114) (f := false) rfl rfl r114).trans rfl) (by go_simp) ⟨Pred.ext_refl _ _, rfl⟩
          · intro b X hE hd hn hV
            have r114 : b.tmps[114]?.getD undef = .bool false := hV 22 _ 114 rfl rfl (Pred.waits_near (by kernel_rfl) (by kernel_rfl))
            have r129 : b.tmps[129]?.getD undef = .bool false := hV 37 _ 129 rfl rfl (Pred.waits_near (by kernel_rfl) (by kernel_rfl))
            exact Pred.yields_run (v := .bool false) (Pred.wanted_none rfl) (by go_simp) ⟨Pred.ext_refl _ _, rfl⟩
        intro v X hE hv
        have e0 : v 0 = .bool false := hv 0 _ 92 rfl rfl
        have e1 : v 1 = .int .i64 (-1) := hv 1 _ 93 rfl rfl
        have e2 : v 2 = .bool false := hv 2 _ 94 rfl rfl
        have e3 : v 3 = .bool false := hv 3 _ 95 rfl rfl
        have e4 : v 4 = .bool false := hv 4 _ 96 rfl rfl
        have e5 : v 5 = .bool false := hv 5 _ 97 rfl rfl
        have e6 : v 6 = .bool false := hv 6 _ 98 rfl rfl
        have e7 : v 7 = undef := hv 7 _ 99 rfl rfl
        have e8 : v 8 = undef := hv 8 _ 100 rfl rfl
        have e9 : v 9 = undef := hv 9 _ 101 rfl rfl
        have e10 : v 10 = .bool false := hv 10 _ 102 rfl rfl
        have e11 : v 11 = .bool false := hv 11 _ 103 rfl rfl
        have e12 : v 12 = .bool false := hv 12 _ 104 rfl rfl
        have e13 : v 13 = .pointer (some ⟨lb, 0, none⟩) := hv 13 _ 105 rfl rfl
        obtain ⟨ga14, ca14, e14, hr14⟩ : SI (n) (o1) (v 14) X := hv 14 _ 106 rfl rfl
        have e15 : v 15 = .pointer (some ⟨rb, 0, none⟩) := hv 15 _ 107 rfl rfl
        have e16 : v 16 = .pointer (some ⟨rb, 0, none⟩) := hv 16 _ 108 rfl rfl
        have e17 : v 17 = .pointer (some ⟨rb, 0, none⟩) := hv 17 _ 109 rfl rfl
        have e18 : v 18 = .slice (some ⟨gl, 0, none⟩) n vc := hv 18 _ 110 rfl rfl
        have e19 : v 19 = .bool true := hv 19 _ 111 rfl rfl
        have e20 : v 20 = .bool false := hv 20 _ 112 rfl rfl
        have e21 : v 21 = .bool false := hv 21 _ 113 rfl rfl
        have e22 : v 22 = .bool false := hv 22 _ 114 rfl rfl
        have e23 : v 23 = .pointer (some ⟨lb, 0, none⟩) := hv 23 _ 115 rfl rfl
        obtain ⟨ga24, ca24, e24, hr24⟩ : SI (k2) (o1.take 2) (v 24) X := hv 24 _ 116 rfl rfl
        have e25 : v 25 = .pointer (some ⟨rb, 0, none⟩) := hv 25 _ 117 rfl rfl
        have e26 : v 26 = .pointer (some ⟨rb, 0, none⟩) := hv 26 _ 118 rfl rfl
        have e27 : v 27 = .pointer (some ⟨rb, 0, none⟩) := hv 27 _ 119 rfl rfl
        have e28 : v 28 = .slice (some ⟨gl, 0, none⟩) n vc := hv 28 _ 120 rfl rfl
        have e29 : v 29 = .pointer (some ⟨rb, 0, none⟩) := hv 29 _ 121 rfl rfl
        have e30 : v 30 = .pointer (some ⟨rb, 0, none⟩) := hv 30 _ 122 rfl rfl
        have e31 : v 31 = .pointer (some ⟨rb, 0, none⟩) := hv 31 _ 123 rfl rfl
        have e32 : v 32 = .slice (some ⟨gl, 0, none⟩) n vc := hv 32 _ 124 rfl rfl
        have e33 : v 33 = .int .i64 (n : Nat) := hv 33 _ 125 rfl rfl
        have e34 : v 34 = .int .i64 (k2 : Nat) := hv 34 _ 126 rfl rfl
        have e35 : v 35 = .slice (some ⟨gl, 0, none⟩) k2 vc := hv 35 _ 127 rfl rfl
        have e36 : v 36 = .bool true := hv 36 _ 128 rfl rfl
        have e37 : v 37 = .bool false := hv 37 _ 129 rfl rfl
        have e38 : v 38 = .bool false := hv 38 _ 130 rfl rfl
        simp only [Pred.putsF_cons, Pred.putsF_nil, Nat.zero_add, Nat.reduceAdd, e0, e1, e2, e3, e4, e5, e6, e7, e8, e9, e10, e11, e12, e13, e14, e15, e16, e17, e18, e19, e20, e21, e22, e23, e24, e25, e26, e27, e28, e29, e30, e31, e32, e33, e34, e35, e36, e37, e38, Act.put, List.setIfInBounds_toArray, List.set_cons_zero, List.set_cons_succ]
        clear e0 e1 e2 e3 e4 e5 e6 e7 e8 e9 e10 e11 e12 e13 e14 e15 e16 e17 e18 e19 e20 e21 e22 e23 e24 e25 e26 e27 e28 e29 e30 e31 e32 e33 e34 e35 e36 e37 e38 hv
        clear HRO HR2 HA
        have H4 := Lib.hid (H3.out.bel hE)
        clear hE H3 cL
        go_wp2
        exact ⟨⟨k + 1, o1, pin1, by omega, by go_num, H4⟩, by simp [intOf]; omega⟩
      | some x =>
        rw [ev] at hold hrold
        have hold2 : Hid (Calls Try.prog 14 #[.pointer (some ⟨lb, 0, none⟩)] W1 fun e w' => e = .returned (.tuple #[.int .i64 (x : Int), .bool true]) ∧ Below W1.heap.size W1 w') := Lib.hid hold
        have hrold2 : Hid (∀ X : World, SS w X lb lg rb gp B n o1 pin1 o1 pin1 → Calls Try.prog 15 #[.pointer (some ⟨rb, 0, none⟩)] X fun e w' => e = .returned (.int .i64 (x : Int)) ∧ Below X.heap.size X w') := Lib.hid hrold
        clear hold hrold ev
        go_wp2_with fail
        refine hold2.out.mono ?_
        rintro e W2 ⟨rfl, b2⟩
        have H2 := Lib.hid (H1.out.bel b2)
        clear b2 hold2 H1
        go_wp2_with fail
        refine (hrold2.out _ H2.out).mono ?_
        rintro e W3 ⟨rfl, b3⟩
        have H3 := Lib.hid (H2.out.bel b3)
        clear b3 hrold2 H2
        go_upto_region 21 with (fail)
        refine Rd.name_world ?_
        intro W hW
        rw [← hW] at H3
        clear hW
        obtain ⟨va, ps, hrf⟩ := H3.out.r
        obtain ⟨-, gl, vc, eva, hcap, hgl, hgw, hcel⟩ := own_cells hrf.own (by rw [HOL.out]; omega)
        subst eva
        have HRO := Lib.hid (Reads.of_owns hrf.own)
        rw [HOL.out] at HRO hcap hrf
        have cL := hrf.c0
        have hrl := blk_lt hrf.st
        clear hcel hrf hgl
        have hkc : k2 ≤ vc := by omega
        have HR2 : Hid (Reads W 1 (some ⟨gl, 0, none⟩) k2 (iv (o1.take 2))) := Lib.hid (by
          obtain ⟨h1, h2⟩ := HRO.out
          refine ⟨by rw [iv_len, HK2.out, Nat.mul_one], ?_⟩
          rcases h2 with h2 | ⟨b2, off, e2, h3, h4⟩
          · omega
          · refine Or.inr ⟨b2, off, e2, h3, fun i hi => ?_⟩
            have hi2 : i < (o1.take 2).length := by rw [iv_len] at hi; exact hi
            have hi1 : i < o1.length := by rw [List.length_take] at hi2; omega
            rw [h4 i (by rw [iv_len]; exact hi1)]
            have hi3 : i < 2 := by rw [List.length_take] at hi2; omega
            simp [iv, List.getElem?_take, hi3])
        have HA := Lib.hid H3.out.a
        refine Pred.region_vals (Pred.Of [
            Is (.bool true),
            Is (.int .i64 (x : Int)),
            Is (.bool true),
            Is (.bool false),
            Is (.bool false),
            Is (.bool true),
            Is (.bool true),
            Is (.int .i64 (x : Int)),
            Is (.int .i64 (x : Int)),
            Is (.bool false),
            Is (.bool false),
            Is (.bool false),
            Is (.bool false),
            Is (.pointer (some ⟨lb, 0, none⟩)),
            SI (n) (o1),
            Is (.pointer (some ⟨rb, 0, none⟩)),
            Is (.pointer (some ⟨rb, 0, none⟩)),
            Is (.pointer (some ⟨rb, 0, none⟩)),
            Is (.slice (some ⟨gl, 0, none⟩) n vc),
            Is (.bool true),
            Is (.bool false),
            Is (.bool false),
            Is (.bool false),
            Is (.pointer (some ⟨lb, 0, none⟩)),
            SI (k2) (o1.take 2),
            Is (.pointer (some ⟨rb, 0, none⟩)),
            Is (.pointer (some ⟨rb, 0, none⟩)),
            Is (.pointer (some ⟨rb, 0, none⟩)),
            Is (.slice (some ⟨gl, 0, none⟩) n vc),
            Is (.pointer (some ⟨rb, 0, none⟩)),
            Is (.pointer (some ⟨rb, 0, none⟩)),
            Is (.pointer (some ⟨rb, 0, none⟩)),
            Is (.slice (some ⟨gl, 0, none⟩) n vc),
            Is (.int .i64 (n : Nat)),
            Is (.int .i64 (k2 : Nat)),
            Is (.slice (some ⟨gl, 0, none⟩) k2 vc),
            Is (.bool true),
            Is (.bool false),
            Is (.bool false)]) (by kernel_rfl) (by kernel_rfl) (by kernel_rfl) (Pred.of_stab ?_) ?_ ?_
        · exact ⟨is_stab _, is_stab _, is_stab _, is_stab _, is_stab _, is_stab _, is_stab _, is_stab _, is_stab _, is_stab _, is_stab _, is_stab _, is_stab _, is_stab _, si_stab _ _, is_stab _, is_stab _, is_stab _, is_stab _, is_stab _, is_stab _, is_stab _, is_stab _, is_stab _, si_stab _ _, is_stab _, is_stab _, is_stab _, is_stab _, is_stab _, is_stab _, is_stab _, is_stab _, is_stab _, is_stab _, is_stab _, is_stab _, is_stab _, is_stab _, trivial⟩
        · refine ⟨?_, ?_, ?_, ?_, ?_, ?_, ?_, ?_, ?_, ?_, ?_, ?_, ?_, ?_, ?_, ?_, ?_, ?_, ?_, ?_, ?_, ?_, ?_, ?_, ?_, ?_, ?_, ?_, ?_, ?_, ?_, ?_, ?_, ?_, ?_, ?_, ?_, ?_, ?_, trivial⟩
          · intro b X hE hd hn hV
            have r10 : b.tmps[10]?.getD undef = .bool true := (hn 10 (by kernel_rfl)).trans rfl
            exact Pred.yields_run (v := .bool true) (Pred.wanted_none rfl) (by go_simp) ⟨Pred.ext_refl _ _, rfl⟩
          · intro b X hE hd hn hV
            have r11 : b.tmps[11]?.getD undef = .int .i64 (x : Int) := (hn 11 (by kernel_rfl)).trans rfl
            exact Pred.yields_run (v := .int .i64 (x : Int)) (Pred.wanted_none rfl) (by go_simp) ⟨Pred.ext_refl _ _, rfl⟩
          · intro b X hE hd hn hV
            have r93 : b.tmps[93]?.getD undef = .int .i64 (x : Int) := hV 1 _ 93 rfl rfl (Pred.waits_near (by kernel_rfl) (by kernel_rfl))
            exact Pred.yields_run (v := .bool true) (Pred.wanted_none rfl) (by go_simp) ⟨Pred.ext_refl _ _, rfl⟩
          · intro b X hE hd hn hV
            have r92 : b.tmps[92]?.getD undef = .bool true := hV 0 _ 92 rfl rfl (Pred.waits_near (by kernel_rfl) (by kernel_rfl))
            have r94 : b.tmps[94]?.getD undef = .bool true := hV 2 _ 94 rfl rfl (Pred.waits_near (by kernel_rfl) (by kernel_rfl))
            exact Pred.yields_run (v := .bool false) (Pred.wanted_none rfl) (by go_simp) ⟨Pred.ext_refl _ _, rfl⟩
          · intro b X hE hd hn hV
            have r95 : b.tmps[95]?.getD undef = .bool false := hV 3 _ 95 rfl rfl (Pred.waits_near (by kernel_rfl) (by kernel_rfl))
            exact Pred.yields_run (v := .bool false) (Pred.wanted_none rfl) (by go_simp) ⟨Pred.ext_refl _ _, rfl⟩
          · intro b X hE hd hn hV
            have r10 : b.tmps[10]?.getD undef = .bool true := (hn 10 (by kernel_rfl)).trans rfl
            have r96 : b.tmps[96]?.getD undef = .bool false := hV 4 _ 96 rfl rfl (Pred.waits_near (by kernel_rfl) (by kernel_rfl))
            exact Pred.yields_run (v := .bool true) ((Pred.wanted_at (g := 4) (d := 96) (f := false) rfl rfl r96).trans rfl) (by go_simp) ⟨Pred.ext_refl _ _, rfl⟩
          · intro b X hE hd hn hV
            have r97 : b.tmps[97]?.getD undef = .bool true := hV 5 _ 97 rfl rfl (Pred.waits_near (by kernel_rfl) (by kernel_rfl))
            have r96 : b.tmps[96]?.getD undef = .bool false := hV 4 _ 96 rfl rfl (Pred.waits_near (by kernel_rfl) (by kernel_rfl))
            exact Pred.yields_run (v := .bool true) ((Pred.wanted_at (g := 4) (d := 96) (f := false) rfl rfl r96).trans rfl) (by go_simp) ⟨Pred.ext_refl _ _, rfl⟩
          · intro b X hE hd hn hV
            have r9 : b.tmps[9]?.getD undef = .int .i64 (x : Int) := (hn 9 (by kernel_rfl)).trans rfl
            have r98 : b.tmps[98]?.getD undef = .bool true := hV 6 _ 98 rfl rfl (Pred.waits_near (by kernel_rfl) (by kernel_rfl))
            exact Pred.yields_run (v := .int .i64 (x : Int)) ((Pred.wanted_at (g := 6) (d := 98) (f := true) rfl rfl r98).trans rfl) (by go_simp) ⟨Pred.ext_refl _ _, rfl⟩
          · intro b X hE hd hn hV
            have r11 : b.tmps[11]?.getD undef = .int .i64 (x : Int) := (hn 11 (by kernel_rfl)).trans rfl
            have r98 : b.tmps[98]?.getD undef = .bool true := hV 6 _ 98 rfl rfl (Pred.waits_near (by kernel_rfl) (by kernel_rfl))
            exact Pred.yields_run (v := .int .i64 (x : Int)) ((Pred.wanted_at (g := 6) (d := 98) (f := true) rfl rfl r98).trans rfl) (by go_simp) ⟨Pred.ext_refl _ _, rfl⟩
          · intro b X hE hd hn hV
            have r99 : b.tmps[99]?.getD undef = .int .i64 (x : Int) := hV 7 _ 99 rfl rfl (Pred.waits_near (by kernel_rfl) (by kernel_rfl))
            have r100 : b.tmps[100]?.getD undef = .int .i64 (x : Int) := hV 8 _ 100 rfl rfl (Pred.waits_near (by kernel_rfl) (by kernel_rfl))
            have r98 : b.tmps[98]?.getD undef = .bool true := hV 6 _ 98 rfl rfl (Pred.waits_near (by kernel_rfl) (by kernel_rfl))
            exact Pred.yields_run (v := .bool false) ((Pred.wanted_at (g := 6) (d := 98) (f := true) rfl rfl r98).trans rfl) (by go_simp) ⟨Pred.ext_refl _ _, rfl⟩
          · intro b X hE hd hn hV
            have r98 : b.tmps[98]?.getD undef = .bool true := hV 6 _ 98 rfl rfl (Pred.waits_near (by kernel_rfl) (by kernel_rfl))
            have r101 : b.tmps[101]?.getD undef = .bool false := hV 9 _ 101 rfl rfl (Pred.waits_near (by kernel_rfl) (by kernel_rfl))
            have r96 : b.tmps[96]?.getD undef = .bool false := hV 4 _ 96 rfl rfl (Pred.waits_near (by kernel_rfl) (by kernel_rfl))
            exact Pred.yields_run (v := .bool false) ((Pred.wanted_at (g := 4) (d := 96) (f := false) rfl rfl r96).trans rfl) (by go_simp) ⟨Pred.ext_refl _ _, rfl⟩
          · intro b X hE hd hn hV
            have r96 : b.tmps[96]?.getD undef = .bool false := hV 4 _ 96 rfl rfl (Pred.waits_near (by kernel_rfl) (by kernel_rfl))
            have r102 : b.tmps[102]?.getD undef = .bool false := hV 10 _ 102 rfl rfl (Pred.waits_near (by kernel_rfl) (by kernel_rfl))
            exact Pred.yields_run (v := .bool false) (Pred.wanted_none rfl) (by go_simp) ⟨Pred.ext_refl _ _, rfl⟩
          · intro b X hE hd hn hV
            have r103 : b.tmps[103]?.getD undef = .bool false := hV 11 _ 103 rfl rfl (Pred.waits_near (by kernel_rfl) (by kernel_rfl))
            exact Pred.yields_run (v := .bool false) (Pred.wanted_none rfl) (by go_simp) ⟨Pred.ext_refl _ _, rfl⟩
          · intro b X hE hd hn hV
            have r5 : b.tmps[5]?.getD undef = .pointer (some ⟨lb, 0, none⟩) := (hn 5 (by kernel_rfl)).trans rfl
            have r104 : b.tmps[104]?.getD undef = .bool false := hV 12 _ 104 rfl rfl (Pred.waits_near (by kernel_rfl) (by kernel_rfl))
            exact Pred.yields_run (v := .pointer (some ⟨lb, 0, none⟩)) ((Pred.wanted_at (g := 12) (d := 104) (f := false) rfl rfl r104).trans rfl) (by go_simp) ⟨Pred.ext_refl _ _, rfl⟩
          · intro b X hE hd hn hV
            have r105 : b.tmps[105]?.getD undef = .pointer (some ⟨lb, 0, none⟩) := hV 13 _ 105 rfl rfl (Pred.waits_near (by kernel_rfl) (by kernel_rfl))
            have r104 : b.tmps[104]?.getD undef = .bool false := hV 12 _ 104 rfl rfl (Pred.waits_near (by kernel_rfl) (by kernel_rfl))
            refine Pred.yields_call (f := 17) (args := #[.pointer (some ⟨lb, 0, none⟩), .int .i64 (-1)]) ((Pred.wanted_at (g := 12) (d := 104) (f := false) rfl rfl r104).trans rfl) (by go_simp) ?_
            exact (CO.out _ (HA.out.bel hE)).mono fun e w2 ⟨⟨v, he, hp⟩, hb⟩ => ⟨v, he, Pred.ext_below hb hE.size, hp⟩
          · intro b X hE hd hn hV
            have r7 : b.tmps[7]?.getD undef = .pointer (some ⟨rb, 0, none⟩) := (hn 7 (by kernel_rfl)).trans rfl
            have r104 : b.tmps[104]?.getD undef = .bool false := hV 12 _ 104 rfl rfl (Pred.waits_near (by kernel_rfl) (by kernel_rfl))
            exact Pred.yields_run (v := .pointer (some ⟨rb, 0, none⟩)) ((Pred.wanted_at (g := 12) (d := 104) (f := false) rfl rfl r104).trans rfl) (by go_simp) ⟨Pred.ext_refl _ _, rfl⟩
          · intro b X hE hd hn hV
            have r107 : b.tmps[107]?.getD undef = .pointer (some ⟨rb, 0, none⟩) := hV 15 _ 107 rfl rfl (Pred.waits_near (by kernel_rfl) (by kernel_rfl))
            have r104 : b.tmps[104]?.getD undef = .bool false := hV 12 _ 104 rfl rfl (Pred.waits_near (by kernel_rfl) (by kernel_rfl))
            exact Pred.yields_run (v := .pointer (some ⟨rb, 0, none⟩)) ((Pred.wanted_at (g := 12) (d := 104) (f := false) rfl rfl r104).trans rfl) (by go_simp) ⟨Pred.ext_refl _ _, rfl⟩
          · intro b X hE hd hn hV
            have r108 : b.tmps[108]?.getD undef = .pointer (some ⟨rb, 0, none⟩) := hV 16 _ 108 rfl rfl (Pred.waits_near (by kernel_rfl) (by kernel_rfl))
            have r104 : b.tmps[104]?.getD undef = .bool false := hV 12 _ 104 rfl rfl (Pred.waits_near (by kernel_rfl) (by kernel_rfl))
            have hpx : rb < X.heap.size := Nat.lt_of_lt_of_le hrl hE.size
            exact Pred.yields_run (v := .pointer (some ⟨rb, 0, none⟩)) ((Pred.wanted_at (g := 12) (d := 104) (f := false) rfl rfl r104).trans rfl) (by go_simp) ⟨Pred.ext_refl _ _, rfl⟩
          · intro b X hE hd hn hV
            have r109 : b.tmps[109]?.getD undef = .pointer (some ⟨rb, 0, none⟩) := hV 17 _ 109 rfl rfl (Pred.waits_near (by kernel_rfl) (by kernel_rfl))
            have r104 : b.tmps[104]?.getD undef = .bool false := hV 12 _ 104 rfl rfl (Pred.waits_near (by kernel_rfl) (by kernel_rfl))
            have cz := (hE.cell (p := ⟨rb, 0, none⟩) hrl).trans cL
            exact Pred.yields_run (v := .slice (some ⟨gl, 0, none⟩) n vc) ((Pred.wanted_at (g := 12) (d := 104) (f := false) rfl rfl r104).trans rfl) (by go_simp) ⟨Pred.ext_refl _ _, rfl⟩
          · intro b X hE hd hn hV
            obtain ⟨ga106, ca106, r106, hr106⟩ : SI (n) (o1) (b.tmps[106]?.getD undef) X := hV 14 _ 106 rfl rfl (Pred.waits_near (by kernel_rfl) (by kernel_rfl))
            have r110 : b.tmps[110]?.getD undef = .slice (some ⟨gl, 0, none⟩) n vc := hV 18 _ 110 rfl rfl (Pred.waits_near (by kernel_rfl) (by kernel_rfl))
            have r104 : b.tmps[104]?.getD undef = .bool false := hV 12 _ 104 rfl rfl (Pred.waits_near (by kernel_rfl) (by kernel_rfl))
            refine Pred.yields_call (f := 16) (args := #[.slice ga106 n ca106, .slice (some ⟨gl, 0, none⟩) n vc]) ((Pred.wanted_at (g := 12) (d := 104) (f := false) rfl rfl r104).trans rfl) (by go_simp) ?_
            rw [iv_i] at hr106
            have hro := HRO.out.below hE (Nat.le_refl _)
            rw [iv_i] at hro
            have hq := Alk.ints_any ga106 (some ⟨gl, 0, none⟩) n ca106 n vc _ _ X hr106 hro (by omega) (by omega)
            rw [decide_eq_true rfl] at hq
            exact hq.mono fun e w2 ⟨he, hb⟩ => ⟨_, he, Pred.ext_below hb hE.size, rfl⟩
          · intro b X hE hd hn hV
            have r111 : b.tmps[111]?.getD undef = .bool true := hV 19 _ 111 rfl rfl (Pred.waits_near (by kernel_rfl) (by kernel_rfl))
            have r104 : b.tmps[104]?.getD undef = .bool false := hV 12 _ 104 rfl rfl (Pred.waits_near (by kernel_rfl) (by kernel_rfl))
            exact Pred.yields_run (v := .bool false) ((Pred.wanted_at (g := 12) (d := 104) (f := false) rfl rfl r104).trans rfl) (by go_simp) ⟨Pred.ext_refl _ _, rfl⟩
          · intro b X hE hd hn hV
            have r104 : b.tmps[104]?.getD undef = .bool false := hV 12 _ 104 rfl rfl (Pred.waits_near (by kernel_rfl) (by kernel_rfl))
            have r112 : b.tmps[112]?.getD undef = .bool false := hV 20 _ 112 rfl rfl (Pred.waits_near (by kernel_rfl) (by kernel_rfl))
            exact Pred.yields_run (v := .bool false) (Pred.wanted_none rfl) (by go_simp) ⟨Pred.ext_refl _ _, rfl⟩
          · intro b X hE hd hn hV
            have r113 : b.tmps[113]?.getD undef = .bool false := hV 21 _ 113 rfl rfl (Pred.waits_near (by kernel_rfl) (by kernel_rfl))
            exact Pred.yields_run (v := .bool false) (Pred.wanted_none rfl) (by go_simp) ⟨Pred.ext_refl _ _, rfl⟩
          · intro b X hE hd hn hV
            have r5 : b.tmps[5]?.getD undef = .pointer (some ⟨lb, 0, none⟩) := (hn 5 (by kernel_rfl)).trans rfl
            have r114 : b.tmps[114]?.getD undef = .bool false := hV 22 _ 114 rfl rfl (Pred.waits_near (by kernel_rfl) (by kernel_rfl))
            exact Pred.yields_run (v := .pointer (some ⟨lb, 0, none⟩)) ((Pred.wanted_at (g := 22) (d := 114) (f := false) rfl rfl r114).trans rfl) (by go_simp) ⟨Pred.ext_refl _ _, rfl⟩
          · intro b X hE hd hn hV
            have r115 : b.tmps[115]?.getD undef = .pointer (some ⟨lb, 0, none⟩) := hV 23 _ 115 rfl rfl (Pred.waits_near (by kernel_rfl) (by kernel_rfl))
            have r114 : b.tmps[114]?.getD undef = .bool false := hV 22 _ 114 rfl rfl (Pred.waits_near (by kernel_rfl) (by kernel_rfl))
            refine Pred.yields_call (f := 17) (args := #[.pointer (some ⟨lb, 0, none⟩), .int .i64 2]) ((Pred.wanted_at (g := 22) (d := 114) (f := false) rfl rfl r114).trans rfl) (by go_simp) ?_
            exact (CO2.out _ (HA.out.bel hE)).mono fun e w2 ⟨⟨v, he, hp⟩, hb⟩ => ⟨v, he, Pred.ext_below hb hE.size, hp⟩
          · intro b X hE hd hn hV
            have r7 : b.tmps[7]?.getD undef = .pointer (some ⟨rb, 0, none⟩) := (hn 7 (by kernel_rfl)).trans rfl
            have r114 : b.tmps[114]?.getD undef = .bool false := hV 22 _ 114 rfl rfl (Pred.waits_near (by kernel_rfl) (by kernel_rfl))
            exact Pred.yields_run (v := .pointer (some ⟨rb, 0, none⟩)) ((Pred.wanted_at (g := 22) (d := 114) (f := false) rfl rfl r114).trans rfl) (by go_simp) ⟨Pred.ext_refl _ _, rfl⟩
          · intro b X hE hd hn hV
            have r117 : b.tmps[117]?.getD undef = .pointer (some ⟨rb, 0, none⟩) := hV 25 _ 117 rfl rfl (Pred.waits_near (by kernel_rfl) (by kernel_rfl))
            have r114 : b.tmps[114]?.getD undef = .bool false := hV 22 _ 114 rfl rfl (Pred.waits_near (by kernel_rfl) (by kernel_rfl))
            have hpx : rb < X.heap.size := Nat.lt_of_lt_of_le hrl hE.size
            exact Pred.yields_run (v := .pointer (some ⟨rb, 0, none⟩)) ((Pred.wanted_at (g := 22) (d := 114) (f := false) rfl rfl r114).trans rfl) (by go_simp) ⟨Pred.ext_refl _ _, rfl⟩
          · intro b X hE hd hn hV
            have r118 : b.tmps[118]?.getD undef = .pointer (some ⟨rb, 0, none⟩) := hV 26 _ 118 rfl rfl (Pred.waits_near (by kernel_rfl) (by kernel_rfl))
            have r114 : b.tmps[114]?.getD undef = .bool false := hV 22 _ 114 rfl rfl (Pred.waits_near (by kernel_rfl) (by kernel_rfl))
            have hpx : rb < X.heap.size := Nat.lt_of_lt_of_le hrl hE.size
            exact Pred.yields_run (v := .pointer (some ⟨rb, 0, none⟩)) ((Pred.wanted_at (g := 22) (d := 114) (f := false) rfl rfl r114).trans rfl) (by go_simp) ⟨Pred.ext_refl _ _, rfl⟩
          · intro b X hE hd hn hV
            have r119 : b.tmps[119]?.getD undef = .pointer (some ⟨rb, 0, none⟩) := hV 27 _ 119 rfl rfl (Pred.waits_near (by kernel_rfl) (by kernel_rfl))
            have r114 : b.tmps[114]?.getD undef = .bool false := hV 22 _ 114 rfl rfl (Pred.waits_near (by kernel_rfl) (by kernel_rfl))
            have cz := (hE.cell (p := ⟨rb, 0, none⟩) hrl).trans cL
            exact Pred.yields_run (v := .slice (some ⟨gl, 0, none⟩) n vc) ((Pred.wanted_at (g := 22) (d := 114) (f := false) rfl rfl r114).trans rfl) (by go_simp) ⟨Pred.ext_refl _ _, rfl⟩
          · intro b X hE hd hn hV
            have r7 : b.tmps[7]?.getD undef = .pointer (some ⟨rb, 0, none⟩) := (hn 7 (by kernel_rfl)).trans rfl
            have r114 : b.tmps[114]?.getD undef = .bool false := hV 22 _ 114 rfl rfl (Pred.waits_near (by kernel_rfl) (by kernel_rfl))
            exact Pred.yields_run (v := .pointer (some ⟨rb, 0, none⟩)) ((Pred.wanted_at (g := 22) (d := 114) (f := false) rfl rfl r114).trans rfl) (by go_simp) ⟨Pred.ext_refl _ _, rfl⟩
          · intro b X hE hd hn hV
            have r121 : b.tmps[121]?.getD undef = .pointer (some ⟨rb, 0, none⟩) := hV 29 _ 121 rfl rfl (Pred.waits_near (by kernel_rfl) (by kernel_rfl))
            have r114 : b.tmps[114]?.getD undef = .bool false := hV 22 _ 114 rfl rfl (Pred.waits_near (by kernel_rfl) (by kernel_rfl))
            exact Pred.yields_run (v := .pointer (some ⟨rb, 0, none⟩)) ((Pred.wanted_at (g := 22) (d := 114) (f := false) rfl rfl r114).trans rfl) (by go_simp) ⟨Pred.ext_refl _ _, rfl⟩
          · intro b X hE hd hn hV
            have r122 : b.tmps[122]?.getD undef = .pointer (some ⟨rb, 0, none⟩) := hV 30 _ 122 rfl rfl (Pred.waits_near (by kernel_rfl) (by kernel_rfl))
            have r114 : b.tmps[114]?.getD undef = .bool false := hV 22 _ 114 rfl rfl (Pred.waits_near (by kernel_rfl) (by kernel_rfl))
            have hpx : rb < X.heap.size := Nat.lt_of_lt_of_le hrl hE.size
            exact Pred.yields_run (v := .pointer (some ⟨rb, 0, none⟩)) ((Pred.wanted_at (g := 22) (d := 114) (f := false) rfl rfl r114).trans rfl) (by go_simp) ⟨Pred.ext_refl _ _, rfl⟩
          · intro b X hE hd hn hV
            have r123 : b.tmps[123]?.getD undef = .pointer (some ⟨rb, 0, none⟩) := hV 31 _ 123 rfl rfl (Pred.waits_near (by kernel_rfl) (by kernel_rfl))
            have r114 : b.tmps[114]?.getD undef = .bool false := hV 22 _ 114 rfl rfl (Pred.waits_near (by kernel_rfl) (by kernel_rfl))
            have cz := (hE.cell (p := ⟨rb, 0, none⟩) hrl).trans cL
            exact Pred.yields_run (v := .slice (some ⟨gl, 0, none⟩) n vc) ((Pred.wanted_at (g := 22) (d := 114) (f := false) rfl rfl r114).trans rfl) (by go_simp) ⟨Pred.ext_refl _ _, rfl⟩
          · intro b X hE hd hn hV
            have r124 : b.tmps[124]?.getD undef = .slice (some ⟨gl, 0, none⟩) n vc := hV 32 _ 124 rfl rfl (Pred.waits_near (by kernel_rfl) (by kernel_rfl))
            have r114 : b.tmps[114]?.getD undef = .bool false := hV 22 _ 114 rfl rfl (Pred.waits_near (by kernel_rfl) (by kernel_rfl))
            exact Pred.yields_run (v := .int .i64 (n : Nat)) ((Pred.wanted_at (g := 22) (d := 114) (f := false) rfl rfl r114).trans rfl) (by go_simp) ⟨Pred.ext_refl _ _, rfl⟩
          · intro b X hE hd hn hV
            have r125 : b.tmps[125]?.getD undef = .int .i64 (n : Nat) := hV 33 _ 125 rfl rfl (Pred.waits_near (by kernel_rfl) (by kernel_rfl))
            have r114 : b.tmps[114]?.getD undef = .bool false := hV 22 _ 114 rfl rfl (Pred.waits_near (by kernel_rfl) (by kernel_rfl))
            have hk3 := HK3.out
            have hmn : (if (n : Int) < 2 then (n : Int) else 2) = (k2 : Int) := by split <;> omega
            have hmn2 : min (2 : Int) (n : Int) = (k2 : Int) := by omega
            clear hk3
            exact Pred.yields_run (v := .int .i64 (k2 : Nat)) ((Pred.wanted_at (g := 22) (d := 114) (f := false) rfl rfl r114).trans rfl) (by go_simp) ⟨Pred.ext_refl _ _, rfl⟩
          · intro b X hE hd hn hV
            have r120 : b.tmps[120]?.getD undef = .slice (some ⟨gl, 0, none⟩) n vc := hV 28 _ 120 rfl rfl (Pred.waits_near (by kernel_rfl) (by kernel_rfl))
            have r126 : b.tmps[126]?.getD undef = .int .i64 (k2 : Nat) := hV 34 _ 126 rfl rfl (Pred.waits_near (by kernel_rfl) (by kernel_rfl))
            have r114 : b.tmps[114]?.getD undef = .bool false := hV 22 _ 114 rfl rfl (Pred.waits_near (by kernel_rfl) (by kernel_rfl))
            have hk0 : (0 : Int) ≤ (k2 : Int) := by omega
            have hkc2 : (k2 : Int) ≤ (vc : Int) := by omega
            have hkc3 : ¬ vc < k2 := by omega
            exact Pred.yields_run (v := .slice (some ⟨gl, 0, none⟩) k2 vc) ((Pred.wanted_at (g := 22) (d := 114) (f := false) rfl rfl r114).trans rfl) (by go_simp) ⟨Pred.ext_refl _ _, rfl⟩
          · intro b X hE hd hn hV
            obtain ⟨ga116, ca116, r116, hr116⟩ : SI (k2) (o1.take 2) (b.tmps[116]?.getD undef) X := hV 24 _ 116 rfl rfl (Pred.waits_near (by kernel_rfl) (by kernel_rfl))
            have r127 : b.tmps[127]?.getD undef = .slice (some ⟨gl, 0, none⟩) k2 vc := hV 35 _ 127 rfl rfl (Pred.waits_near (by kernel_rfl) (by kernel_rfl))
            have r114 : b.tmps[114]?.getD undef = .bool false := hV 22 _ 114 rfl rfl (Pred.waits_near (by kernel_rfl) (by kernel_rfl))
            refine Pred.yields_call (f := 16) (args := #[.slice ga116 k2 ca116, .slice (some ⟨gl, 0, none⟩) k2 vc]) ((Pred.wanted_at (g := 22) (d := 114) (f := false) rfl rfl r114).trans rfl) (by go_simp) ?_
            rw [iv_i] at hr116
            have hro := HR2.out.below hE (Nat.le_refl _)
            rw [iv_i] at hro
            have hq := Alk.ints_any ga116 (some ⟨gl, 0, none⟩) k2 ca116 k2 vc _ _ X hr116 hro (by omega) (by omega)
            rw [decide_eq_true rfl] at hq
            exact hq.mono fun e w2 ⟨he, hb⟩ => ⟨_, he, Pred.ext_below hb hE.size, rfl⟩
          · intro b X hE hd hn hV
            have r128 : b.tmps[128]?.getD undef = .bool true := hV 36 _ 128 rfl rfl (Pred.waits_near (by kernel_rfl) (by kernel_rfl))
            have r114 : b.tmps[114]?.getD undef = .bool false := hV 22 _ 114 rfl rfl (Pred.waits_near (by kernel_rfl) (by kernel_rfl))
            exact Pred.yields_run (v := .bool false) ((Pred.wanted_at (g := 22) (d := 114) (f := false) rfl rfl r114).trans rfl) (by go_simp) ⟨Pred.ext_refl _ _, rfl⟩
          · intro b X hE hd hn hV
            have r114 : b.tmps[114]?.getD undef = .bool false := hV 22 _ 114 rfl rfl (Pred.waits_near (by kernel_rfl) (by kernel_rfl))
            have r129 : b.tmps[129]?.getD undef = .bool false := hV 37 _ 129 rfl rfl (Pred.waits_near (by kernel_rfl) (by kernel_rfl))
            exact Pred.yields_run (v := .bool false) (Pred.wanted_none rfl) (by go_simp) ⟨Pred.ext_refl _ _, rfl⟩
        intro v X hE hv
        have e0 : v 0 = .bool true := hv 0 _ 92 rfl rfl
        have e1 : v 1 = .int .i64 (x : Int) := hv 1 _ 93 rfl rfl
        have e2 : v 2 = .bool true := hv 2 _ 94 rfl rfl
        have e3 : v 3 = .bool false := hv 3 _ 95 rfl rfl
        have e4 : v 4 = .bool false := hv 4 _ 96 rfl rfl
        have e5 : v 5 = .bool true := hv 5 _ 97 rfl rfl
        have e6 : v 6 = .bool true := hv 6 _ 98 rfl rfl
        have e7 : v 7 = .int .i64 (x : Int) := hv 7 _ 99 rfl rfl
        have e8 : v 8 = .int .i64 (x : Int) := hv 8 _ 100 rfl rfl
        have e9 : v 9 = .bool false := hv 9 _ 101 rfl rfl
        have e10 : v 10 = .bool false := hv 10 _ 102 rfl rfl
        have e11 : v 11 = .bool false := hv 11 _ 103 rfl rfl
        have e12 : v 12 = .bool false := hv 12 _ 104 rfl rfl
        have e13 : v 13 = .pointer (some ⟨lb, 0, none⟩) := hv 13 _ 105 rfl rfl
        obtain ⟨ga14, ca14, e14, hr14⟩ : SI (n) (o1) (v 14) X := hv 14 _ 106 rfl rfl
        have e15 : v 15 = .pointer (some ⟨rb, 0, none⟩) := hv 15 _ 107 rfl rfl
        have e16 : v 16 = .pointer (some ⟨rb, 0, none⟩) := hv 16 _ 108 rfl rfl
        have e17 : v 17 = .pointer (some ⟨rb, 0, none⟩) := hv 17 _ 109 rfl rfl
        have e18 : v 18 = .slice (some ⟨gl, 0, none⟩) n vc := hv 18 _ 110 rfl rfl
        have e19 : v 19 = .bool true := hv 19 _ 111 rfl rfl
        have e20 : v 20 = .bool false := hv 20 _ 112 rfl rfl
        have e21 : v 21 = .bool false := hv 21 _ 113 rfl rfl
        have e22 : v 22 = .bool false := hv 22 _ 114 rfl rfl
        have e23 : v 23 = .pointer (some ⟨lb, 0, none⟩) := hv 23 _ 115 rfl rfl
        obtain ⟨ga24, ca24, e24, hr24⟩ : SI (k2) (o1.take 2) (v 24) X := hv 24 _ 116 rfl rfl
        have e25 : v 25 = .pointer (some ⟨rb, 0, none⟩) := hv 25 _ 117 rfl rfl
        have e26 : v 26 = .pointer (some ⟨rb, 0, none⟩) := hv 26 _ 118 rfl rfl
        have e27 : v 27 = .pointer (some ⟨rb, 0, none⟩) := hv 27 _ 119 rfl rfl
        have e28 : v 28 = .slice (some ⟨gl, 0, none⟩) n vc := hv 28 _ 120 rfl rfl
        have e29 : v 29 = .pointer (some ⟨rb, 0, none⟩) := hv 29 _ 121 rfl rfl
        have e30 : v 30 = .pointer (some ⟨rb, 0, none⟩) := hv 30 _ 122 rfl rfl
        have e31 : v 31 = .pointer (some ⟨rb, 0, none⟩) := hv 31 _ 123 rfl rfl
        have e32 : v 32 = .slice (some ⟨gl, 0, none⟩) n vc := hv 32 _ 124 rfl rfl
        have e33 : v 33 = .int .i64 (n : Nat) := hv 33 _ 125 rfl rfl
        have e34 : v 34 = .int .i64 (k2 : Nat) := hv 34 _ 126 rfl rfl
        have e35 : v 35 = .slice (some ⟨gl, 0, none⟩) k2 vc := hv 35 _ 127 rfl rfl
        have e36 : v 36 = .bool true := hv 36 _ 128 rfl rfl
        have e37 : v 37 = .bool false := hv 37 _ 129 rfl rfl
        have e38 : v 38 = .bool false := hv 38 _ 130 rfl rfl
        simp only [Pred.putsF_cons, Pred.putsF_nil, Nat.zero_add, Nat.reduceAdd, e0, e1, e2, e3, e4, e5, e6, e7, e8, e9, e10, e11, e12, e13, e14, e15, e16, e17, e18, e19, e20, e21, e22, e23, e24, e25, e26, e27, e28, e29, e30, e31, e32, e33, e34, e35, e36, e37, e38, Act.put, List.setIfInBounds_toArray, List.set_cons_zero, List.set_cons_succ]
        clear e0 e1 e2 e3 e4 e5 e6 e7 e8 e9 e10 e11 e12 e13 e14 e15 e16 e17 e18 e19 e20 e21 e22 e23 e24 e25 e26 e27 e28 e29 e30 e31 e32 e33 e34 e35 e36 e37 e38 hv
        clear HRO HR2 HA
        have H4 := Lib.hid (H3.out.bel hE)
        clear hE H3 cL
        go_wp2
        exact ⟨⟨k + 1, o1, pin1, by omega, by go_num, H4⟩, by simp [intOf]; omega⟩
    · obtain rfl : k = len := by omega
      have LY := HS.out.below
      go_wp2_with fail
      refine (awake_any _).mono ?_
      rintro e x5 ⟨rfl, b1⟩
      have L5 : Below w.heap.size w x5 := LY.trans (b1.mono LY.size)
      clear b1
      go_wp2
      go_ret
      exact ⟨rfl, L5⟩
end Go.Proofs.Ytabedlahdkkihaa.LrK

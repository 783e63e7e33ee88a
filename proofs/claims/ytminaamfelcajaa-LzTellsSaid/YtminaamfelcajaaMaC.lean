/-
  What begins alike, and how far it goes on alike.
-/
import Derived.Test.YtminaamfelcajaaMaB
import Derived.Test.YtminaamfelcajaaPred
import Derived.BigGuard
namespace Go.Proofs.Ytminaamfelcajaa.MaC
open Go.RowKit Rd Go.Proofs.Ytminaamfelcajaa.Row MaM MaA MaB
open Pred (Is is_stab)
set_option linter.unusedVariables false
set_option linter.unusedSimpArgs false
set_option maxRecDepth 10000
def t3 (l : List Int) (i : Nat) : List Int := [l.getD i 0, l.getD (i + 1) 0, l.getD (i + 2) 0]
def b3 (l : List Int) (i k : Nat) : Bool := decide (t3 l i = t3 l k)
theorem b3_iff {l : List Int} {i k : Nat} : b3 l i k = true ↔ l.getD i 0 = l.getD k 0 ∧ l.getD (i + 1) 0 = l.getD (k + 1) 0 ∧ l.getD (i + 2) 0 = l.getD (k + 2) 0 := by
  unfold b3 t3
  rw [decide_eq_true_iff]
  simp
theorem b3_mat {l : List Int} {i k : Nat} (hi : i ≤ k) (hk : k + 3 ≤ l.length) : mat l k (k - i) = b3 l i k := by
  rw [Bool.eq_iff_iff, mat_iff, b3_iff, show k - (k - i) = i by omega]
  constructor
  · rintro ⟨-, a, b, c⟩; exact ⟨a.symm, b.symm, c.symm⟩
  · rintro ⟨a, b, c⟩; exact ⟨hk, a.symm, b.symm, c.symm⟩
theorem reads3 {W : World} {p o : Nat} {l : List Int} {i : Nat} (h : Reads W 1 (some ⟨p, o, none⟩) l.length (us l)) (hi : i + 3 ≤ l.length) : Reads W 1 (some ⟨p, o + i, none⟩) 3 (us (t3 l i)) := by
  obtain ⟨p', o', e, hp, hc⟩ := cell_u8 h rfl (by omega)
  cases e
  refine ⟨rfl, .inr ⟨p, o + i, rfl, hp, fun j hj => ?_⟩⟩
  have hj3 : j = 0 ∨ j = 1 ∨ j = 2 := by simp [t3] at hj; omega
  rcases hj3 with rfl | rfl | rfl
  · exact hc i (by omega)
  · rw [Nat.add_assoc]; exact hc (i + 1) (by omega)
  · rw [Nat.add_assoc]; exact hc (i + 2) (by omega)
theorem Hd.frz {X : World} {f : Nat} {ba ra : Option Addr} {n cb cr : Nat} (h : Hd X f ba ra n cb cr) (i : Nat) : X.frozen? ⟨f, i, none⟩ = false := blk_frozen h.head i
set_option maxHeartbeats 2000000 in
theorem begins_any (f p o : Nat) (ra : Option Addr) (l : List Int) (cb cr i k : Nat) (W : World) (h : Hd W f (some ⟨p, o, none⟩) ra l.length cb cr) (hr : Reads W 1 (some ⟨p, o, none⟩) l.length (us l)) (hi : i + 3 ≤ l.length) (hk : k + 3 ≤ l.length) (hl : l.length ≤ 1000000) :
    Calls Try.prog 42 #[.pointer (some ⟨f, 0, none⟩), .int .i64 i, .int .i64 k] W fun e w' => e = .returned (.bool (b3 l i k)) ∧ Below W.heap.size W w' := by
  have HH := Lib.hid h
  have HR := Lib.hid hr
  have cap := h.cap
  have big := h.big
  unfold maxLen at big
  clear h hr
  go_enter Try.func42, Try.ntmps42
  go_upto_region 1 with (fail)
  refine Pred.region_vals (Pred.Of [
      Is (.pointer (some ⟨f, 0, none⟩)),
      Is (.pointer (some ⟨f, 0, none⟩)),
      Is (.pointer (some ⟨f, 0, none⟩)),
      Is (.slice (some ⟨p, o, none⟩) l.length cb),
      Is (.int .i64 (i : Int)),
      Is (.int .i64 (i : Int)),
      Is (.int .i64 ((i : Int) + 3)),
      Is (.slice (some ⟨p, o + i, none⟩) 3 (cb - i)),
      Is (.pointer (some ⟨f, 0, none⟩)),
      Is (.pointer (some ⟨f, 0, none⟩)),
      Is (.pointer (some ⟨f, 0, none⟩)),
      Is (.slice (some ⟨p, o, none⟩) l.length cb),
      Is (.int .i64 (k : Int)),
      Is (.int .i64 (k : Int)),
      Is (.int .i64 ((k : Int) + 3)),
      Is (.slice (some ⟨p, o + k, none⟩) 3 (cb - k)),
      Is (.bool (b3 l i k)),
      Is (.bool (b3 l i k))]) (by kernel_rfl) (by kernel_rfl) (by kernel_rfl) (Pred.of_stab ?_) ?_ ?_
  · exact ⟨is_stab _, is_stab _, is_stab _, is_stab _, is_stab _, is_stab _, is_stab _, is_stab _, is_stab _, is_stab _, is_stab _, is_stab _, is_stab _, is_stab _, is_stab _, is_stab _, is_stab _, is_stab _, trivial⟩
  · refine ⟨?_, ?_, ?_, ?_, ?_, ?_, ?_, ?_, ?_, ?_, ?_, ?_, ?_, ?_, ?_, ?_, ?_, ?_, trivial⟩
    · intro b9 X hE hd hn hV
      have r0 : b9.tmps[0]?.getD undef = .pointer (some ⟨f, 0, none⟩) := (hn 0 (by kernel_rfl)).trans rfl
      exact Pred.yields_run (v := .pointer (some ⟨f, 0, none⟩)) (Pred.wanted_none rfl) (by go_simp) ⟨Pred.ext_refl _ _, rfl⟩
    · intro b9 X hE hd hn hV
      have r7 : b9.tmps[7]?.getD undef = .pointer (some ⟨f, 0, none⟩) := hV 0 _ 7 rfl rfl (Pred.waits_near (by kernel_rfl) (by kernel_rfl))
      exact Pred.yields_run (v := .pointer (some ⟨f, 0, none⟩)) (Pred.wanted_none rfl) (by go_simp) ⟨Pred.ext_refl _ _, rfl⟩
    · intro b9 X hE hd hn hV
      have r8 : b9.tmps[8]?.getD undef = .pointer (some ⟨f, 0, none⟩) := hV 1 _ 8 rfl rfl (Pred.waits_near (by kernel_rfl) (by kernel_rfl))
      exact Pred.yields_run (v := .pointer (some ⟨f, 0, none⟩)) (Pred.wanted_none rfl) (by go_simp) ⟨Pred.ext_refl _ _, rfl⟩
    · intro b9 X hE hd hn hV
      have r9 : b9.tmps[9]?.getD undef = .pointer (some ⟨f, 0, none⟩) := hV 2 _ 9 rfl rfl (Pred.waits_near (by kernel_rfl) (by kernel_rfl))
      have cz := (HH.out.bel hE).c0
      exact Pred.yields_run (v := .slice (some ⟨p, o, none⟩) l.length cb) (Pred.wanted_none rfl) (by go_simp) ⟨Pred.ext_refl _ _, rfl⟩
    · intro b9 X hE hd hn hV
      have r1 : b9.tmps[1]?.getD undef = .int .i64 (i : Int) := (hn 1 (by kernel_rfl)).trans rfl
      exact Pred.yields_run (v := .int .i64 (i : Int)) (Pred.wanted_none rfl) (by go_simp) ⟨Pred.ext_refl _ _, rfl⟩
    · intro b9 X hE hd hn hV
      have r1 : b9.tmps[1]?.getD undef = .int .i64 (i : Int) := (hn 1 (by kernel_rfl)).trans rfl
      exact Pred.yields_run (v := .int .i64 (i : Int)) (Pred.wanted_none rfl) (by go_simp) ⟨Pred.ext_refl _ _, rfl⟩
    · intro b9 X hE hd hn hV
      have r12 : b9.tmps[12]?.getD undef = .int .i64 (i : Int) := hV 5 _ 12 rfl rfl (Pred.waits_near (by kernel_rfl) (by kernel_rfl))
      have wz : IntKind.i64.wrap ((i : Int) + 3) = (i : Int) + 3 := by rw [IntKind.wrap_i64]; omega
      exact Pred.yields_run (v := .int .i64 ((i : Int) + 3)) (Pred.wanted_none rfl) (by go_simp) ⟨Pred.ext_refl _ _, rfl⟩
    · intro b9 X hE hd hn hV
      have r10 : b9.tmps[10]?.getD undef = .slice (some ⟨p, o, none⟩) l.length cb := hV 3 _ 10 rfl rfl (Pred.waits_near (by kernel_rfl) (by kernel_rfl))
      have r11 : b9.tmps[11]?.getD undef = .int .i64 (i : Int) := hV 4 _ 11 rfl rfl (Pred.waits_near (by kernel_rfl) (by kernel_rfl))
      have r13 : b9.tmps[13]?.getD undef = .int .i64 ((i : Int) + 3) := hV 6 _ 13 rfl rfl (Pred.waits_near (by kernel_rfl) (by kernel_rfl))
      have d1 : 0 ≤ (i : Int) + 3 := by omega
      have d2 : (i : Int) + 3 ≤ (cb : Int) := by omega
      have d3 : ¬ cb = i := by omega
      have d4 : ((i : Int) + 3).toNat = i + 3 := by omega
      exact Pred.yields_run (v := .slice (some ⟨p, o + i, none⟩) 3 (cb - i)) (Pred.wanted_none rfl) (by go_simp) ⟨Pred.ext_refl _ _, rfl⟩
    · intro b9 X hE hd hn hV
      have r0 : b9.tmps[0]?.getD undef = .pointer (some ⟨f, 0, none⟩) := (hn 0 (by kernel_rfl)).trans rfl
      exact Pred.yields_run (v := .pointer (some ⟨f, 0, none⟩)) (Pred.wanted_none rfl) (by go_simp) ⟨Pred.ext_refl _ _, rfl⟩
    · intro b9 X hE hd hn hV
      have r15 : b9.tmps[15]?.getD undef = .pointer (some ⟨f, 0, none⟩) := hV 8 _ 15 rfl rfl (Pred.waits_near (by kernel_rfl) (by kernel_rfl))
      exact Pred.yields_run (v := .pointer (some ⟨f, 0, none⟩)) (Pred.wanted_none rfl) (by go_simp) ⟨Pred.ext_refl _ _, rfl⟩
    · intro b9 X hE hd hn hV
      have r16 : b9.tmps[16]?.getD undef = .pointer (some ⟨f, 0, none⟩) := hV 9 _ 16 rfl rfl (Pred.waits_near (by kernel_rfl) (by kernel_rfl))
      exact Pred.yields_run (v := .pointer (some ⟨f, 0, none⟩)) (Pred.wanted_none rfl) (by go_simp) ⟨Pred.ext_refl _ _, rfl⟩
    · intro b9 X hE hd hn hV
      have r17 : b9.tmps[17]?.getD undef = .pointer (some ⟨f, 0, none⟩) := hV 10 _ 17 rfl rfl (Pred.waits_near (by kernel_rfl) (by kernel_rfl))
      have cz := (HH.out.bel hE).c0
      exact Pred.yields_run (v := .slice (some ⟨p, o, none⟩) l.length cb) (Pred.wanted_none rfl) (by go_simp) ⟨Pred.ext_refl _ _, rfl⟩
    · intro b9 X hE hd hn hV
      have r2 : b9.tmps[2]?.getD undef = .int .i64 (k : Int) := (hn 2 (by kernel_rfl)).trans rfl
      exact Pred.yields_run (v := .int .i64 (k : Int)) (Pred.wanted_none rfl) (by go_simp) ⟨Pred.ext_refl _ _, rfl⟩
    · intro b9 X hE hd hn hV
      have r2 : b9.tmps[2]?.getD undef = .int .i64 (k : Int) := (hn 2 (by kernel_rfl)).trans rfl
      exact Pred.yields_run (v := .int .i64 (k : Int)) (Pred.wanted_none rfl) (by go_simp) ⟨Pred.ext_refl _ _, rfl⟩
    · intro b9 X hE hd hn hV
      have r20 : b9.tmps[20]?.getD undef = .int .i64 (k : Int) := hV 13 _ 20 rfl rfl (Pred.waits_near (by kernel_rfl) (by kernel_rfl))
      have wz : IntKind.i64.wrap ((k : Int) + 3) = (k : Int) + 3 := by rw [IntKind.wrap_i64]; omega
      exact Pred.yields_run (v := .int .i64 ((k : Int) + 3)) (Pred.wanted_none rfl) (by go_simp) ⟨Pred.ext_refl _ _, rfl⟩
    · intro b9 X hE hd hn hV
      have r18 : b9.tmps[18]?.getD undef = .slice (some ⟨p, o, none⟩) l.length cb := hV 11 _ 18 rfl rfl (Pred.waits_near (by kernel_rfl) (by kernel_rfl))
      have r19 : b9.tmps[19]?.getD undef = .int .i64 (k : Int) := hV 12 _ 19 rfl rfl (Pred.waits_near (by kernel_rfl) (by kernel_rfl))
      have r21 : b9.tmps[21]?.getD undef = .int .i64 ((k : Int) + 3) := hV 14 _ 21 rfl rfl (Pred.waits_near (by kernel_rfl) (by kernel_rfl))
      have d1 : 0 ≤ (k : Int) + 3 := by omega
      have d2 : (k : Int) + 3 ≤ (cb : Int) := by omega
      have d3 : ¬ cb = k := by omega
      have d4 : ((k : Int) + 3).toNat = k + 3 := by omega
      exact Pred.yields_run (v := .slice (some ⟨p, o + k, none⟩) 3 (cb - k)) (Pred.wanted_none rfl) (by go_simp) ⟨Pred.ext_refl _ _, rfl⟩
    · intro b9 X hE hd hn hV
      have r14 : b9.tmps[14]?.getD undef = .slice (some ⟨p, o + i, none⟩) 3 (cb - i) := hV 7 _ 14 rfl rfl (Pred.waits_near (by kernel_rfl) (by kernel_rfl))
      have r22 : b9.tmps[22]?.getD undef = .slice (some ⟨p, o + k, none⟩) 3 (cb - k) := hV 15 _ 22 rfl rfl (Pred.waits_near (by kernel_rfl) (by kernel_rfl))
      refine Pred.yields_call (f := 43) (args := #[.slice (some ⟨p, o + i, none⟩) 3 (cb - i), .slice (some ⟨p, o + k, none⟩) 3 (cb - k)]) (Pred.wanted_none rfl) (by go_simp) ?_
      have hr2 := HR.out.below hE (Nat.le_refl _)
      exact (equal_any _ _ 3 _ _ _ _ X (reads3 hr2 hi) (reads3 hr2 hk) (by omega)).mono fun e w2 ⟨he, hw⟩ => ⟨_, he, Pred.ext_below hw hE.size, rfl⟩
    · intro b9 X hE hd hn hV
      have r23 : b9.tmps[23]?.getD undef = .bool (b3 l i k) := hV 16 _ 23 rfl rfl (Pred.waits_near (by kernel_rfl) (by kernel_rfl))
      exact Pred.yields_run (v := .bool (b3 l i k)) (Pred.wanted_none rfl) (by go_simp) ⟨Pred.ext_refl _ _, rfl⟩
  intro v X hE hv
  have e0 : v 0 = .pointer (some ⟨f, 0, none⟩) := hv 0 _ 7 rfl rfl
  have e1 : v 1 = .pointer (some ⟨f, 0, none⟩) := hv 1 _ 8 rfl rfl
  have e2 : v 2 = .pointer (some ⟨f, 0, none⟩) := hv 2 _ 9 rfl rfl
  have e3 : v 3 = .slice (some ⟨p, o, none⟩) l.length cb := hv 3 _ 10 rfl rfl
  have e4 : v 4 = .int .i64 (i : Int) := hv 4 _ 11 rfl rfl
  have e5 : v 5 = .int .i64 (i : Int) := hv 5 _ 12 rfl rfl
  have e6 : v 6 = .int .i64 ((i : Int) + 3) := hv 6 _ 13 rfl rfl
  have e7 : v 7 = .slice (some ⟨p, o + i, none⟩) 3 (cb - i) := hv 7 _ 14 rfl rfl
  have e8 : v 8 = .pointer (some ⟨f, 0, none⟩) := hv 8 _ 15 rfl rfl
  have e9 : v 9 = .pointer (some ⟨f, 0, none⟩) := hv 9 _ 16 rfl rfl
  have e10 : v 10 = .pointer (some ⟨f, 0, none⟩) := hv 10 _ 17 rfl rfl
  have e11 : v 11 = .slice (some ⟨p, o, none⟩) l.length cb := hv 11 _ 18 rfl rfl
  have e12 : v 12 = .int .i64 (k : Int) := hv 12 _ 19 rfl rfl
  have e13 : v 13 = .int .i64 (k : Int) := hv 13 _ 20 rfl rfl
  have e14 : v 14 = .int .i64 ((k : Int) + 3) := hv 14 _ 21 rfl rfl
  have e15 : v 15 = .slice (some ⟨p, o + k, none⟩) 3 (cb - k) := hv 15 _ 22 rfl rfl
  have e16 : v 16 = .bool (b3 l i k) := hv 16 _ 23 rfl rfl
  have e17 : v 17 = .bool (b3 l i k) := hv 17 _ 6 rfl rfl
  simp only [Pred.putsF_cons, Pred.putsF_nil, Nat.zero_add, Nat.reduceAdd, e0, e1, e2, e3, e4, e5, e6, e7, e8, e9, e10, e11, e12, e13, e14, e15, e16, e17, Act.put, List.setIfInBounds_toArray, List.set_cons_zero, List.set_cons_succ]
  clear e0 e1 e2 e3 e4 e5 e6 e7 e8 e9 e10 e11 e12 e13 e14 e15 e16 e17 hv
  go_wp2
  go_ret
  exact ⟨rfl, hE⟩
set_option maxHeartbeats 4000000 in
theorem length_any (f p o : Nat) (ra : Option Addr) (l : List Int) (cb cr i k : Nat) (W0 : World) (h : Hd W0 f (some ⟨p, o, none⟩) ra l.length cb cr) (hr : Reads W0 1 (some ⟨p, o, none⟩) l.length (us l)) (hi : i ≤ k) (hk : k < l.length) (hl : l.length ≤ 1000000) :
    Calls Try.prog 34 #[.pointer (some ⟨f, 0, none⟩), .int .i64 i, .int .i64 k] W0 fun e w' => e = .returned (.int .i64 (runL l k (k - i))) ∧ Below W0.heap.size W0 w' := by
  have HH := Lib.hid h
  have HR := Lib.hid hr
  obtain ⟨mo, hmo⟩ : ∃ m, most l k = m := ⟨_, rfl⟩
  have HM := Lib.hid hmo
  have hmk : mo ≤ 258 ∧ k + mo ≤ l.length := by rw [← hmo]; unfold most; omega
  obtain ⟨hm1, hm2⟩ := hmk
  clear h hr hmo
  go_enter Try.func34, Try.ntmps34
  go_wp2_with fail
  go_loopw [7] (fun v Y => ∃ j : Nat, j ≤ mo ∧ v = .int .i64 j ∧ Hid (Below W0.heap.size W0 Y) ∧ Hid (∀ t, t < j → l.getD (k + t) 0 = l.getD (i + t) 0)) (fun v _ => mo - (intOf v).toNat)
  case atStart => exact ⟨0, by omega, rfl, Lib.hid (Below.refl _ _), Lib.hid (fun t ht => by omega)⟩
  case round =>
    obtain ⟨j, hj9, rfl, HB, HJ⟩ := hrel
    rename World => W
    have HH1 := Lib.hid (HH.out.bel HB.out)
    have HR1 := Lib.hid (HR.out.below HB.out (Nat.le_refl _))
    by_cases hlt : j < mo
    · have hlt' : (j : Int) < (mo : Int) := by omega
      obtain ⟨x, hx⟩ : ∃ x, l.getD (i + j) 0 = x := ⟨_, rfl⟩
      obtain ⟨y, hy⟩ : ∃ y, l.getD (k + j) 0 = y := ⟨_, rfl⟩
      have HXY := Lib.hid (And.intro hx hy)
      have HC : Hid (∀ Z : World, Below W.heap.size W Z → Z.cell? ⟨p, o + (i + j), none⟩ = some (.int .u8 x) ∧ Z.cell? ⟨p, o + (k + j), none⟩ = some (.int .u8 y)) := Lib.hid (fun Z hZ => by
        obtain ⟨p', o', e, hp, hc⟩ := cell_u8 (HR1.out.below hZ (Nat.le_refl _)) rfl (by omega)
        cases e
        exact ⟨hx ▸ hc (i + j) (by omega), hy ▸ hc (k + j) (by omega)⟩)
      clear hx hy
      by_cases hxy : x = y
      · subst hxy
        have e1 : (x == x) = true := by simp
        go_upto_region 2 with (fail)
        refine Pred.region_vals (Pred.Of [
            Is (.int .i64 (j : Int)),
            Is (.pointer (some ⟨f, 0, none⟩)),
            Is (.int .i64 (k : Int)),
            Is (.int .i64 (mo : Int)),
            Is (.bool true),
            Is (.bool true),
            Is (.pointer (some ⟨f, 0, none⟩)),
            Is (.pointer (some ⟨f, 0, none⟩)),
            Is (.pointer (some ⟨f, 0, none⟩)),
            Is (.slice (some ⟨p, o, none⟩) l.length cb),
            Is (.int .i64 (i : Int)),
            Is (.int .i64 (j : Int)),
            Is (.int .i64 ((i : Int) + (j : Int))),
            Is (.pointer (some ⟨p, o + (i + j), none⟩)),
            Is (.int .u8 x),
            Is (.pointer (some ⟨f, 0, none⟩)),
            Is (.pointer (some ⟨f, 0, none⟩)),
            Is (.pointer (some ⟨f, 0, none⟩)),
            Is (.slice (some ⟨p, o, none⟩) l.length cb),
            Is (.int .i64 (k : Int)),
            Is (.int .i64 (j : Int)),
            Is (.int .i64 ((k : Int) + (j : Int))),
            Is (.pointer (some ⟨p, o + (k + j), none⟩)),
            Is (.int .u8 x),
            Is (.bool true),
            Is (.bool true)]) (by kernel_rfl) (by kernel_rfl) (by kernel_rfl) (Pred.of_stab ?_) ?_ ?_
        · exact ⟨is_stab _, is_stab _, is_stab _, is_stab _, is_stab _, is_stab _, is_stab _, is_stab _, is_stab _, is_stab _, is_stab _, is_stab _, is_stab _, is_stab _, is_stab _, is_stab _, is_stab _, is_stab _, is_stab _, is_stab _, is_stab _, is_stab _, is_stab _, is_stab _, is_stab _, is_stab _, trivial⟩
        · refine ⟨?_, ?_, ?_, ?_, ?_, ?_, ?_, ?_, ?_, ?_, ?_, ?_, ?_, ?_, ?_, ?_, ?_, ?_, ?_, ?_, ?_, ?_, ?_, ?_, ?_, ?_, trivial⟩
          · intro b9 X hE hd hn hV
            have r7 : b9.tmps[7]?.getD undef = .int .i64 (j : Int) := (hn 7 (by kernel_rfl)).trans rfl
            exact Pred.yields_run (v := .int .i64 (j : Int)) (Pred.wanted_none rfl) (by go_simp) ⟨Pred.ext_refl _ _, rfl⟩
          · intro b9 X hE hd hn hV
            have r0 : b9.tmps[0]?.getD undef = .pointer (some ⟨f, 0, none⟩) := (hn 0 (by kernel_rfl)).trans rfl
            exact Pred.yields_run (v := .pointer (some ⟨f, 0, none⟩)) (Pred.wanted_none rfl) (by go_simp) ⟨Pred.ext_refl _ _, rfl⟩
          · intro b9 X hE hd hn hV
            have r2 : b9.tmps[2]?.getD undef = .int .i64 (k : Int) := (hn 2 (by kernel_rfl)).trans rfl
            exact Pred.yields_run (v := .int .i64 (k : Int)) (Pred.wanted_none rfl) (by go_simp) ⟨Pred.ext_refl _ _, rfl⟩
          · intro b9 X hE hd hn hV
            have r9 : b9.tmps[9]?.getD undef = .pointer (some ⟨f, 0, none⟩) := hV 1 _ 9 rfl rfl (Pred.waits_near (by kernel_rfl) (by kernel_rfl))
            have r10 : b9.tmps[10]?.getD undef = .int .i64 (k : Int) := hV 2 _ 10 rfl rfl (Pred.waits_near (by kernel_rfl) (by kernel_rfl))
            refine Pred.yields_call (f := 35) (args := #[.pointer (some ⟨f, 0, none⟩), .int .i64 k]) (Pred.wanted_none rfl) (by go_simp) ?_
            exact (most_any f _ ra l cb cr k X (HH1.out.bel hE) (by omega) hl).mono fun e w2 ⟨he, hw⟩ => ⟨_, by rw [he, HM.out], hw ▸ Pred.ext_refl _ _, rfl⟩
          · intro b9 X hE hd hn hV
            have r8 : b9.tmps[8]?.getD undef = .int .i64 (j : Int) := hV 0 _ 8 rfl rfl (Pred.waits_near (by kernel_rfl) (by kernel_rfl))
            have r11 : b9.tmps[11]?.getD undef = .int .i64 (mo : Int) := hV 3 _ 11 rfl rfl (Pred.waits_near (by kernel_rfl) (by kernel_rfl))
            exact Pred.yields_run (v := .bool true) (Pred.wanted_none rfl) (by go_simp) ⟨Pred.ext_refl _ _, rfl⟩
          · intro b9 X hE hd hn hV
            have r12 : b9.tmps[12]?.getD undef = .bool true := hV 4 _ 12 rfl rfl (Pred.waits_near (by kernel_rfl) (by kernel_rfl))
            exact Pred.yields_run (v := .bool true) (Pred.wanted_none rfl) (by go_simp) ⟨Pred.ext_refl _ _, rfl⟩
          · intro b9 X hE hd hn hV
            have r0 : b9.tmps[0]?.getD undef = .pointer (some ⟨f, 0, none⟩) := (hn 0 (by kernel_rfl)).trans rfl
            have r13 : b9.tmps[13]?.getD undef = .bool true := hV 5 _ 13 rfl rfl (Pred.waits_near (by kernel_rfl) (by kernel_rfl))
            exact Pred.yields_run (v := .pointer (some ⟨f, 0, none⟩)) ((Pred.wanted_at (g := 5) (d := 13) (f := true) rfl rfl r13).trans rfl) (by go_simp) ⟨Pred.ext_refl _ _, rfl⟩
          · intro b9 X hE hd hn hV
            have r14 : b9.tmps[14]?.getD undef = .pointer (some ⟨f, 0, none⟩) := hV 6 _ 14 rfl rfl (Pred.waits_near (by kernel_rfl) (by kernel_rfl))
            have r13 : b9.tmps[13]?.getD undef = .bool true := hV 5 _ 13 rfl rfl (Pred.waits_near (by kernel_rfl) (by kernel_rfl))
            exact Pred.yields_run (v := .pointer (some ⟨f, 0, none⟩)) ((Pred.wanted_at (g := 5) (d := 13) (f := true) rfl rfl r13).trans rfl) (by go_simp) ⟨Pred.ext_refl _ _, rfl⟩
          · intro b9 X hE hd hn hV
            have r15 : b9.tmps[15]?.getD undef = .pointer (some ⟨f, 0, none⟩) := hV 7 _ 15 rfl rfl (Pred.waits_near (by kernel_rfl) (by kernel_rfl))
            have r13 : b9.tmps[13]?.getD undef = .bool true := hV 5 _ 13 rfl rfl (Pred.waits_near (by kernel_rfl) (by kernel_rfl))
            exact Pred.yields_run (v := .pointer (some ⟨f, 0, none⟩)) ((Pred.wanted_at (g := 5) (d := 13) (f := true) rfl rfl r13).trans rfl) (by go_simp) ⟨Pred.ext_refl _ _, rfl⟩
          · intro b9 X hE hd hn hV
            have r16 : b9.tmps[16]?.getD undef = .pointer (some ⟨f, 0, none⟩) := hV 8 _ 16 rfl rfl (Pred.waits_near (by kernel_rfl) (by kernel_rfl))
            have r13 : b9.tmps[13]?.getD undef = .bool true := hV 5 _ 13 rfl rfl (Pred.waits_near (by kernel_rfl) (by kernel_rfl))
            have cz := (HH1.out.bel hE).c0
            exact Pred.yields_run (v := .slice (some ⟨p, o, none⟩) l.length cb) ((Pred.wanted_at (g := 5) (d := 13) (f := true) rfl rfl r13).trans rfl) (by go_simp) ⟨Pred.ext_refl _ _, rfl⟩
          · intro b9 X hE hd hn hV
            have r1 : b9.tmps[1]?.getD undef = .int .i64 (i : Int) := (hn 1 (by kernel_rfl)).trans rfl
            have r13 : b9.tmps[13]?.getD undef = .bool true := hV 5 _ 13 rfl rfl (Pred.waits_near (by kernel_rfl) (by kernel_rfl))
            exact Pred.yields_run (v := .int .i64 (i : Int)) ((Pred.wanted_at (g := 5) (d := 13) (f := true) rfl rfl r13).trans rfl) (by go_simp) ⟨Pred.ext_refl _ _, rfl⟩
          · intro b9 X hE hd hn hV
            have r7 : b9.tmps[7]?.getD undef = .int .i64 (j : Int) := (hn 7 (by kernel_rfl)).trans rfl
            have r13 : b9.tmps[13]?.getD undef = .bool true := hV 5 _ 13 rfl rfl (Pred.waits_near (by kernel_rfl) (by kernel_rfl))
            exact Pred.yields_run (v := .int .i64 (j : Int)) ((Pred.wanted_at (g := 5) (d := 13) (f := true) rfl rfl r13).trans rfl) (by go_simp) ⟨Pred.ext_refl _ _, rfl⟩
          · intro b9 X hE hd hn hV
            have r18 : b9.tmps[18]?.getD undef = .int .i64 (i : Int) := hV 10 _ 18 rfl rfl (Pred.waits_near (by kernel_rfl) (by kernel_rfl))
            have r19 : b9.tmps[19]?.getD undef = .int .i64 (j : Int) := hV 11 _ 19 rfl rfl (Pred.waits_near (by kernel_rfl) (by kernel_rfl))
            have r13 : b9.tmps[13]?.getD undef = .bool true := hV 5 _ 13 rfl rfl (Pred.waits_near (by kernel_rfl) (by kernel_rfl))
            have wz : IntKind.i64.wrap ((i : Int) + (j : Int)) = (i : Int) + (j : Int) := by rw [IntKind.wrap_i64]; omega
            exact Pred.yields_run (v := .int .i64 ((i : Int) + (j : Int))) ((Pred.wanted_at (g := 5) (d := 13) (f := true) rfl rfl r13).trans rfl) (by go_simp) ⟨Pred.ext_refl _ _, rfl⟩
          · intro b9 X hE hd hn hV
            have r17 : b9.tmps[17]?.getD undef = .slice (some ⟨p, o, none⟩) l.length cb := hV 9 _ 17 rfl rfl (Pred.waits_near (by kernel_rfl) (by kernel_rfl))
            have r20 : b9.tmps[20]?.getD undef = .int .i64 ((i : Int) + (j : Int)) := hV 12 _ 20 rfl rfl (Pred.waits_near (by kernel_rfl) (by kernel_rfl))
            have r13 : b9.tmps[13]?.getD undef = .bool true := hV 5 _ 13 rfl rfl (Pred.waits_near (by kernel_rfl) (by kernel_rfl))
            have d1 : 0 ≤ (i : Int) + (j : Int) := by omega
            have d2 : (i : Int) + (j : Int) < (l.length : Int) := by omega
            have d4 : ((i : Int) + (j : Int)).toNat = i + j := by omega
            exact Pred.yields_run (v := .pointer (some ⟨p, o + (i + j), none⟩)) ((Pred.wanted_at (g := 5) (d := 13) (f := true) rfl rfl r13).trans rfl) (by go_simp) ⟨Pred.ext_refl _ _, rfl⟩
          · intro b9 X hE hd hn hV
            have r21 : b9.tmps[21]?.getD undef = .pointer (some ⟨p, o + (i + j), none⟩) := hV 13 _ 21 rfl rfl (Pred.waits_near (by kernel_rfl) (by kernel_rfl))
            have r13 : b9.tmps[13]?.getD undef = .bool true := hV 5 _ 13 rfl rfl (Pred.waits_near (by kernel_rfl) (by kernel_rfl))
            have cz := (HC.out X hE).1
            exact Pred.yields_run (v := .int .u8 x) ((Pred.wanted_at (g := 5) (d := 13) (f := true) rfl rfl r13).trans rfl) (by go_simp) ⟨Pred.ext_refl _ _, rfl⟩
          · intro b9 X hE hd hn hV
            have r0 : b9.tmps[0]?.getD undef = .pointer (some ⟨f, 0, none⟩) := (hn 0 (by kernel_rfl)).trans rfl
            have r13 : b9.tmps[13]?.getD undef = .bool true := hV 5 _ 13 rfl rfl (Pred.waits_near (by kernel_rfl) (by kernel_rfl))
            exact Pred.yields_run (v := .pointer (some ⟨f, 0, none⟩)) ((Pred.wanted_at (g := 5) (d := 13) (f := true) rfl rfl r13).trans rfl) (by go_simp) ⟨Pred.ext_refl _ _, rfl⟩
          · intro b9 X hE hd hn hV
            have r23 : b9.tmps[23]?.getD undef = .pointer (some ⟨f, 0, none⟩) := hV 15 _ 23 rfl rfl (Pred.waits_near (by kernel_rfl) (by kernel_rfl))
            have r13 : b9.tmps[13]?.getD undef = .bool true := hV 5 _ 13 rfl rfl (Pred.waits_near (by kernel_rfl) (by kernel_rfl))
            exact Pred.yields_run (v := .pointer (some ⟨f, 0, none⟩)) ((Pred.wanted_at (g := 5) (d := 13) (f := true) rfl rfl r13).trans rfl) (by go_simp) ⟨Pred.ext_refl _ _, rfl⟩
          · intro b9 X hE hd hn hV
            have r24 : b9.tmps[24]?.getD undef = .pointer (some ⟨f, 0, none⟩) := hV 16 _ 24 rfl rfl (Pred.waits_near (by kernel_rfl) (by kernel_rfl))
            have r13 : b9.tmps[13]?.getD undef = .bool true := hV 5 _ 13 rfl rfl (Pred.waits_near (by kernel_rfl) (by kernel_rfl))
            exact Pred.yields_run (v := .pointer (some ⟨f, 0, none⟩)) ((Pred.wanted_at (g := 5) (d := 13) (f := true) rfl rfl r13).trans rfl) (by go_simp) ⟨Pred.ext_refl _ _, rfl⟩
          · intro b9 X hE hd hn hV
            have r25 : b9.tmps[25]?.getD undef = .pointer (some ⟨f, 0, none⟩) := hV 17 _ 25 rfl rfl (Pred.waits_near (by kernel_rfl) (by kernel_rfl))
            have r13 : b9.tmps[13]?.getD undef = .bool true := hV 5 _ 13 rfl rfl (Pred.waits_near (by kernel_rfl) (by kernel_rfl))
            have cz := (HH1.out.bel hE).c0
            exact Pred.yields_run (v := .slice (some ⟨p, o, none⟩) l.length cb) ((Pred.wanted_at (g := 5) (d := 13) (f := true) rfl rfl r13).trans rfl) (by go_simp) ⟨Pred.ext_refl _ _, rfl⟩
          · intro b9 X hE hd hn hV
            have r2 : b9.tmps[2]?.getD undef = .int .i64 (k : Int) := (hn 2 (by kernel_rfl)).trans rfl
            have r13 : b9.tmps[13]?.getD undef = .bool true := hV 5 _ 13 rfl rfl (Pred.waits_near (by kernel_rfl) (by kernel_rfl))
            exact Pred.yields_run (v := .int .i64 (k : Int)) ((Pred.wanted_at (g := 5) (d := 13) (f := true) rfl rfl r13).trans rfl) (by go_simp) ⟨Pred.ext_refl _ _, rfl⟩
          · intro b9 X hE hd hn hV
            have r7 : b9.tmps[7]?.getD undef = .int .i64 (j : Int) := (hn 7 (by kernel_rfl)).trans rfl
            have r13 : b9.tmps[13]?.getD undef = .bool true := hV 5 _ 13 rfl rfl (Pred.waits_near (by kernel_rfl) (by kernel_rfl))
            exact Pred.yields_run (v := .int .i64 (j : Int)) ((Pred.wanted_at (g := 5) (d := 13) (f := true) rfl rfl r13).trans rfl) (by go_simp) ⟨Pred.ext_refl _ _, rfl⟩
          · intro b9 X hE hd hn hV
            have r27 : b9.tmps[27]?.getD undef = .int .i64 (k : Int) := hV 19 _ 27 rfl rfl (Pred.waits_near (by kernel_rfl) (by kernel_rfl))
            have r28 : b9.tmps[28]?.getD undef = .int .i64 (j : Int) := hV 20 _ 28 rfl rfl (Pred.waits_near (by kernel_rfl) (by kernel_rfl))
            have r13 : b9.tmps[13]?.getD undef = .bool true := hV 5 _ 13 rfl rfl (Pred.waits_near (by kernel_rfl) (by kernel_rfl))
            have wz : IntKind.i64.wrap ((k : Int) + (j : Int)) = (k : Int) + (j : Int) := by rw [IntKind.wrap_i64]; omega
            exact Pred.yields_run (v := .int .i64 ((k : Int) + (j : Int))) ((Pred.wanted_at (g := 5) (d := 13) (f := true) rfl rfl r13).trans rfl) (by go_simp) ⟨Pred.ext_refl _ _, rfl⟩
          · intro b9 X hE hd hn hV
            have r26 : b9.tmps[26]?.getD undef = .slice (some ⟨p, o, none⟩) l.length cb := hV 18 _ 26 rfl rfl (Pred.waits_near (by kernel_rfl) (by kernel_rfl))
            have r29 : b9.tmps[29]?.getD undef = .int .i64 ((k : Int) + (j : Int)) := hV 21 _ 29 rfl rfl (Pred.waits_near (by kernel_rfl) (by kernel_rfl))
            have r13 : b9.tmps[13]?.getD undef = .bool true := hV 5 _ 13 rfl rfl (Pred.waits_near (by kernel_rfl) (by kernel_rfl))
            have d1 : 0 ≤ (k : Int) + (j : Int) := by omega
            have d2 : (k : Int) + (j : Int) < (l.length : Int) := by omega
            have d4 : ((k : Int) + (j : Int)).toNat = k + j := by omega
            exact Pred.yields_run (v := .pointer (some ⟨p, o + (k + j), none⟩)) ((Pred.wanted_at (g := 5) (d := 13) (f := true) rfl rfl r13).trans rfl) (by go_simp) ⟨Pred.ext_refl _ _, rfl⟩
          · intro b9 X hE hd hn hV
            have r30 : b9.tmps[30]?.getD undef = .pointer (some ⟨p, o + (k + j), none⟩) := hV 22 _ 30 rfl rfl (Pred.waits_near (by kernel_rfl) (by kernel_rfl))
            have r13 : b9.tmps[13]?.getD undef = .bool true := hV 5 _ 13 rfl rfl (Pred.waits_near (by kernel_rfl) (by kernel_rfl))
            have cz := (HC.out X hE).2
            exact Pred.yields_run (v := .int .u8 x) ((Pred.wanted_at (g := 5) (d := 13) (f := true) rfl rfl r13).trans rfl) (by go_simp) ⟨Pred.ext_refl _ _, rfl⟩
          · intro b9 X hE hd hn hV
            have r22 : b9.tmps[22]?.getD undef = .int .u8 x := hV 14 _ 22 rfl rfl (Pred.waits_near (by kernel_rfl) (by kernel_rfl))
            have r31 : b9.tmps[31]?.getD undef = .int .u8 x := hV 23 _ 31 rfl rfl (Pred.waits_near (by kernel_rfl) (by kernel_rfl))
            have r13 : b9.tmps[13]?.getD undef = .bool true := hV 5 _ 13 rfl rfl (Pred.waits_near (by kernel_rfl) (by kernel_rfl))
            exact Pred.yields_run (v := .bool true) ((Pred.wanted_at (g := 5) (d := 13) (f := true) rfl rfl r13).trans rfl) (by go_simp) ⟨Pred.ext_refl _ _, rfl⟩
          · intro b9 X hE hd hn hV
            have r13 : b9.tmps[13]?.getD undef = .bool true := hV 5 _ 13 rfl rfl (Pred.waits_near (by kernel_rfl) (by kernel_rfl))
            have r32 : b9.tmps[32]?.getD undef = .bool true := hV 24 _ 32 rfl rfl (Pred.waits_near (by kernel_rfl) (by kernel_rfl))
            exact Pred.yields_run (v := .bool true) (Pred.wanted_none rfl) (by go_simp) ⟨Pred.ext_refl _ _, rfl⟩
        intro v X hE hv
        have e0 : v 0 = .int .i64 (j : Int) := hv 0 _ 8 rfl rfl
        have e1 : v 1 = .pointer (some ⟨f, 0, none⟩) := hv 1 _ 9 rfl rfl
        have e2 : v 2 = .int .i64 (k : Int) := hv 2 _ 10 rfl rfl
        have e3 : v 3 = .int .i64 (mo : Int) := hv 3 _ 11 rfl rfl
        have e4 : v 4 = .bool true := hv 4 _ 12 rfl rfl
        have e5 : v 5 = .bool true := hv 5 _ 13 rfl rfl
        have e6 : v 6 = .pointer (some ⟨f, 0, none⟩) := hv 6 _ 14 rfl rfl
        have e7 : v 7 = .pointer (some ⟨f, 0, none⟩) := hv 7 _ 15 rfl rfl
        have e8 : v 8 = .pointer (some ⟨f, 0, none⟩) := hv 8 _ 16 rfl rfl
        have e9 : v 9 = .slice (some ⟨p, o, none⟩) l.length cb := hv 9 _ 17 rfl rfl
        have e10 : v 10 = .int .i64 (i : Int) := hv 10 _ 18 rfl rfl
        have e11 : v 11 = .int .i64 (j : Int) := hv 11 _ 19 rfl rfl
        have e12 : v 12 = .int .i64 ((i : Int) + (j : Int)) := hv 12 _ 20 rfl rfl
        have e13 : v 13 = .pointer (some ⟨p, o + (i + j), none⟩) := hv 13 _ 21 rfl rfl
        have e14 : v 14 = .int .u8 x := hv 14 _ 22 rfl rfl
        have e15 : v 15 = .pointer (some ⟨f, 0, none⟩) := hv 15 _ 23 rfl rfl
        have e16 : v 16 = .pointer (some ⟨f, 0, none⟩) := hv 16 _ 24 rfl rfl
        have e17 : v 17 = .pointer (some ⟨f, 0, none⟩) := hv 17 _ 25 rfl rfl
        have e18 : v 18 = .slice (some ⟨p, o, none⟩) l.length cb := hv 18 _ 26 rfl rfl
        have e19 : v 19 = .int .i64 (k : Int) := hv 19 _ 27 rfl rfl
        have e20 : v 20 = .int .i64 (j : Int) := hv 20 _ 28 rfl rfl
        have e21 : v 21 = .int .i64 ((k : Int) + (j : Int)) := hv 21 _ 29 rfl rfl
        have e22 : v 22 = .pointer (some ⟨p, o + (k + j), none⟩) := hv 22 _ 30 rfl rfl
        have e23 : v 23 = .int .u8 x := hv 23 _ 31 rfl rfl
        have e24 : v 24 = .bool true := hv 24 _ 32 rfl rfl
        have e25 : v 25 = .bool true := hv 25 _ 33 rfl rfl
        simp only [Pred.putsF_cons, Pred.putsF_nil, Nat.zero_add, Nat.reduceAdd, e0, e1, e2, e3, e4, e5, e6, e7, e8, e9, e10, e11, e12, e13, e14, e15, e16, e17, e18, e19, e20, e21, e22, e23, e24, e25, Act.put, List.setIfInBounds_toArray, List.set_cons_zero, List.set_cons_succ]
        clear e0 e1 e2 e3 e4 e5 e6 e7 e8 e9 e10 e11 e12 e13 e14 e15 e16 e17 e18 e19 e20 e21 e22 e23 e24 e25 hv
        have HB2 := Lib.hid (HB.out.trans (hE.mono HB.out.size))
        clear hE HC HH1 HR1 HB
        go_wp2
        exact ⟨⟨j + 1, by omega, by go_num, HB2, Lib.hid (fun t ht => by
          rcases Nat.lt_or_ge t j with h | h
          · exact HJ.out t h
          · obtain rfl : t = j := by omega
            rw [HXY.out.1, HXY.out.2])⟩, by simp [intOf]; omega⟩
      · have e1 : (x == y) = false := by simpa using hxy
        go_upto_region 2 with (fail)
        refine Pred.region_vals (Pred.Of [
            Is (.int .i64 (j : Int)),
            Is (.pointer (some ⟨f, 0, none⟩)),
            Is (.int .i64 (k : Int)),
            Is (.int .i64 (mo : Int)),
            Is (.bool true),
            Is (.bool true),
            Is (.pointer (some ⟨f, 0, none⟩)),
            Is (.pointer (some ⟨f, 0, none⟩)),
            Is (.pointer (some ⟨f, 0, none⟩)),
            Is (.slice (some ⟨p, o, none⟩) l.length cb),
            Is (.int .i64 (i : Int)),
            Is (.int .i64 (j : Int)),
            Is (.int .i64 ((i : Int) + (j : Int))),
            Is (.pointer (some ⟨p, o + (i + j), none⟩)),
            Is (.int .u8 x),
            Is (.pointer (some ⟨f, 0, none⟩)),
            Is (.pointer (some ⟨f, 0, none⟩)),
            Is (.pointer (some ⟨f, 0, none⟩)),
            Is (.slice (some ⟨p, o, none⟩) l.length cb),
            Is (.int .i64 (k : Int)),
            Is (.int .i64 (j : Int)),
            Is (.int .i64 ((k : Int) + (j : Int))),
            Is (.pointer (some ⟨p, o + (k + j), none⟩)),
            Is (.int .u8 y),
            Is (.bool false),
            Is (.bool false)]) (by kernel_rfl) (by kernel_rfl) (by kernel_rfl) (Pred.of_stab ?_) ?_ ?_
        · exact ⟨is_stab _, is_stab _, is_stab _, is_stab _, is_stab _, is_stab _, is_stab _, is_stab _, is_stab _, is_stab _, is_stab _, is_stab _, is_stab _, is_stab _, is_stab _, is_stab _, is_stab _, is_stab _, is_stab _, is_stab _, is_stab _, is_stab _, is_stab _, is_stab _, is_stab _, is_stab _, trivial⟩
        · refine ⟨?_, ?_, ?_, ?_, ?_, ?_, ?_, ?_, ?_, ?_, ?_, ?_, ?_, ?_, ?_, ?_, ?_, ?_, ?_, ?_, ?_, ?_, ?_, ?_, ?_, ?_, trivial⟩
          · intro b9 X hE hd hn hV
            have r7 : b9.tmps[7]?.getD undef = .int .i64 (j : Int) := (hn 7 (by kernel_rfl)).trans rfl
            exact Pred.yields_run (v := .int .i64 (j : Int)) (Pred.wanted_none rfl) (by go_simp) ⟨Pred.ext_refl _ _, rfl⟩
          · intro b9 X hE hd hn hV
            have r0 : b9.tmps[0]?.getD undef = .pointer (some ⟨f, 0, none⟩) := (hn 0 (by kernel_rfl)).trans rfl
            exact Pred.yields_run (v := .pointer (some ⟨f, 0, none⟩)) (Pred.wanted_none rfl) (by go_simp) ⟨Pred.ext_refl _ _, rfl⟩
          · intro b9 X hE hd hn hV
            have r2 : b9.tmps[2]?.getD undef = .int .i64 (k : Int) := (hn 2 (by kernel_rfl)).trans rfl
            exact Pred.yields_run (v := .int .i64 (k : Int)) (Pred.wanted_none rfl) (by go_simp) ⟨Pred.ext_refl _ _, rfl⟩
          · intro b9 X hE hd hn hV
            have r9 : b9.tmps[9]?.getD undef = .pointer (some ⟨f, 0, none⟩) := hV 1 _ 9 rfl rfl (Pred.waits_near (by kernel_rfl) (by kernel_rfl))
            have r10 : b9.tmps[10]?.getD undef = .int .i64 (k : Int) := hV 2 _ 10 rfl rfl (Pred.waits_near (by kernel_rfl) (by kernel_rfl))
            refine Pred.yields_call (f := 35) (args := #[.pointer (some ⟨f, 0, none⟩), .int .i64 k]) (Pred.wanted_none rfl) (by go_simp) ?_
            exact (most_any f _ ra l cb cr k X (HH1.out.bel hE) (by omega) hl).mono fun e w2 ⟨he, hw⟩ => ⟨_, by rw [he, HM.out], hw ▸ Pred.ext_refl _ _, rfl⟩
          · intro b9 X hE hd hn hV
            have r8 : b9.tmps[8]?.getD undef = .int .i64 (j : Int) := hV 0 _ 8 rfl rfl (Pred.waits_near (by kernel_rfl) (by kernel_rfl))
            have r11 : b9.tmps[11]?.getD undef = .int .i64 (mo : Int) := hV 3 _ 11 rfl rfl (Pred.waits_near (by kernel_rfl) (by kernel_rfl))
            exact Pred.yields_run (v := .bool true) (Pred.wanted_none rfl) (by go_simp) ⟨Pred.ext_refl _ _, rfl⟩
          · intro b9 X hE hd hn hV
            have r12 : b9.tmps[12]?.getD undef = .bool true := hV 4 _ 12 rfl rfl (Pred.waits_near (by kernel_rfl) (by kernel_rfl))
            exact Pred.yields_run (v := .bool true) (Pred.wanted_none rfl) (by go_simp) ⟨Pred.ext_refl _ _, rfl⟩
          · intro b9 X hE hd hn hV
            have r0 : b9.tmps[0]?.getD undef = .pointer (some ⟨f, 0, none⟩) := (hn 0 (by kernel_rfl)).trans rfl
            have r13 : b9.tmps[13]?.getD undef = .bool true := hV 5 _ 13 rfl rfl (Pred.waits_near (by kernel_rfl) (by kernel_rfl))
            exact Pred.yields_run (v := .pointer (some ⟨f, 0, none⟩)) ((Pred.wanted_at (g := 5) (d := 13) (f := true) rfl rfl r13).trans rfl) (by go_simp) ⟨Pred.ext_refl _ _, rfl⟩
          · intro b9 X hE hd hn hV
            have r14 : b9.tmps[14]?.getD undef = .pointer (some ⟨f, 0, none⟩) := hV 6 _ 14 rfl rfl (Pred.waits_near (by kernel_rfl) (by kernel_rfl))
            have r13 : b9.tmps[13]?.getD undef = .bool true := hV 5 _ 13 rfl rfl (Pred.waits_near (by kernel_rfl) (by kernel_rfl))
            exact Pred.yields_run (v := .pointer (some ⟨f, 0, none⟩)) ((Pred.wanted_at (g := 5) (d := 13) (f := true) rfl rfl r13).trans rfl) (by go_simp) ⟨Pred.ext_refl _ _, rfl⟩
          · intro b9 X hE hd hn hV
            have r15 : b9.tmps[15]?.getD undef = .pointer (some ⟨f, 0, none⟩) := hV 7 _ 15 rfl rfl (Pred.waits_near (by kernel_rfl) (by kernel_rfl))
            have r13 : b9.tmps[13]?.getD undef = .bool true := hV 5 _ 13 rfl rfl (Pred.waits_near (by kernel_rfl) (by kernel_rfl))
            exact Pred.yields_run (v := .pointer (some ⟨f, 0, none⟩)) ((Pred.wanted_at (g := 5) (d := 13) (f := true) rfl rfl r13).trans rfl) (by go_simp) ⟨Pred.ext_refl _ _, rfl⟩
          · intro b9 X hE hd hn hV
            have r16 : b9.tmps[16]?.getD undef = .pointer (some ⟨f, 0, none⟩) := hV 8 _ 16 rfl rfl (Pred.waits_near (by kernel_rfl) (by kernel_rfl))
            have r13 : b9.tmps[13]?.getD undef = .bool true := hV 5 _ 13 rfl rfl (Pred.waits_near (by kernel_rfl) (by kernel_rfl))
            have cz := (HH1.out.bel hE).c0
            exact Pred.yields_run (v := .slice (some ⟨p, o, none⟩) l.length cb) ((Pred.wanted_at (g := 5) (d := 13) (f := true) rfl rfl r13).trans rfl) (by go_simp) ⟨Pred.ext_refl _ _, rfl⟩
          · intro b9 X hE hd hn hV
            have r1 : b9.tmps[1]?.getD undef = .int .i64 (i : Int) := (hn 1 (by kernel_rfl)).trans rfl
            have r13 : b9.tmps[13]?.getD undef = .bool true := hV 5 _ 13 rfl rfl (Pred.waits_near (by kernel_rfl) (by kernel_rfl))
            exact Pred.yields_run (v := .int .i64 (i : Int)) ((Pred.wanted_at (g := 5) (d := 13) (f := true) rfl rfl r13).trans rfl) (by go_simp) ⟨Pred.ext_refl _ _, rfl⟩
          · intro b9 X hE hd hn hV
            have r7 : b9.tmps[7]?.getD undef = .int .i64 (j : Int) := (hn 7 (by kernel_rfl)).trans rfl
            have r13 : b9.tmps[13]?.getD undef = .bool true := hV 5 _ 13 rfl rfl (Pred.waits_near (by kernel_rfl) (by kernel_rfl))
            exact Pred.yields_run (v := .int .i64 (j : Int)) ((Pred.wanted_at (g := 5) (d := 13) (f := true) rfl rfl r13).trans rfl) (by go_simp) ⟨Pred.ext_refl _ _, rfl⟩
          · intro b9 X hE hd hn hV
            have r18 : b9.tmps[18]?.getD undef = .int .i64 (i : Int) := hV 10 _ 18 rfl rfl (Pred.waits_near (by kernel_rfl) (by kernel_rfl))
            have r19 : b9.tmps[19]?.getD undef = .int .i64 (j : Int) := hV 11 _ 19 rfl rfl (Pred.waits_near (by kernel_rfl) (by kernel_rfl))
            have r13 : b9.tmps[13]?.getD undef = .bool true := hV 5 _ 13 rfl rfl (Pred.waits_near (by kernel_rfl) (by kernel_rfl))
            have wz : IntKind.i64.wrap ((i : Int) + (j : Int)) = (i : Int) + (j : Int) := by rw [IntKind.wrap_i64]; omega
            exact Pred.yields_run (v := .int .i64 ((i : Int) + (j : Int))) ((Pred.wanted_at (g := 5) (d := 13) (f := true) rfl rfl r13).trans rfl) (by go_simp) ⟨Pred.ext_refl _ _, rfl⟩
          · intro b9 X hE hd hn hV
            have r17 : b9.tmps[17]?.getD undef = .slice (some ⟨p, o, none⟩) l.length cb := hV 9 _ 17 rfl rfl (Pred.waits_near (by kernel_rfl) (by kernel_rfl))
            have r20 : b9.tmps[20]?.getD undef = .int .i64 ((i : Int) + (j : Int)) := hV 12 _ 20 rfl rfl (Pred.waits_near (by kernel_rfl) (by kernel_rfl))
            have r13 : b9.tmps[13]?.getD undef = .bool true := hV 5 _ 13 rfl rfl (Pred.waits_near (by kernel_rfl) (by kernel_rfl))
            have d1 : 0 ≤ (i : Int) + (j : Int) := by omega
            have d2 : (i : Int) + (j : Int) < (l.length : Int) := by omega
            have d4 : ((i : Int) + (j : Int)).toNat = i + j := by omega
            exact Pred.yields_run (v := .pointer (some ⟨p, o + (i + j), none⟩)) ((Pred.wanted_at (g := 5) (d := 13) (f := true) rfl rfl r13).trans rfl) (by go_simp) ⟨Pred.ext_refl _ _, rfl⟩
          · intro b9 X hE hd hn hV
            have r21 : b9.tmps[21]?.getD undef = .pointer (some ⟨p, o + (i + j), none⟩) := hV 13 _ 21 rfl rfl (Pred.waits_near (by kernel_rfl) (by kernel_rfl))
            have r13 : b9.tmps[13]?.getD undef = .bool true := hV 5 _ 13 rfl rfl (Pred.waits_near (by kernel_rfl) (by kernel_rfl))
            have cz := (HC.out X hE).1
            exact Pred.yields_run (v := .int .u8 x) ((Pred.wanted_at (g := 5) (d := 13) (f := true) rfl rfl r13).trans rfl) (by go_simp) ⟨Pred.ext_refl _ _, rfl⟩
          · intro b9 X hE hd hn hV
            have r0 : b9.tmps[0]?.getD undef = .pointer (some ⟨f, 0, none⟩) := (hn 0 (by kernel_rfl)).trans rfl
            have r13 : b9.tmps[13]?.getD undef = .bool true := hV 5 _ 13 rfl rfl (Pred.waits_near (by kernel_rfl) (by kernel_rfl))
            exact Pred.yields_run (v := .pointer (some ⟨f, 0, none⟩)) ((Pred.wanted_at (g := 5) (d := 13) (f := true) rfl rfl r13).trans rfl) (by go_simp) ⟨Pred.ext_refl _ _, rfl⟩
          · intro b9 X hE hd hn hV
            have r23 : b9.tmps[23]?.getD undef = .pointer (some ⟨f, 0, none⟩) := hV 15 _ 23 rfl rfl (Pred.waits_near (by kernel_rfl) (by kernel_rfl))
            have r13 : b9.tmps[13]?.getD undef = .bool true := hV 5 _ 13 rfl rfl (Pred.waits_near (by kernel_rfl) (by kernel_rfl))
            exact Pred.yields_run (v := .pointer (some ⟨f, 0, none⟩)) ((Pred.wanted_at (g := 5) (d := 13) (f := true) rfl rfl r13).trans rfl) (by go_simp) ⟨Pred.ext_refl _ _, rfl⟩
          · intro b9 X hE hd hn hV
            have r24 : b9.tmps[24]?.getD undef = .pointer (some ⟨f, 0, none⟩) := hV 16 _ 24 rfl rfl (Pred.waits_near (by kernel_rfl) (by kernel_rfl))
            have r13 : b9.tmps[13]?.getD undef = .bool true := hV 5 _ 13 rfl rfl (Pred.waits_near (by kernel_rfl) (by kernel_rfl))
            exact Pred.yields_run (v := .pointer (some ⟨f, 0, none⟩)) ((Pred.wanted_at (g := 5) (d := 13) (f := true) rfl rfl r13).trans rfl) (by go_simp) ⟨Pred.ext_refl _ _, rfl⟩
          · intro b9 X hE hd hn hV
            have r25 : b9.tmps[25]?.getD undef = .pointer (some ⟨f, 0, none⟩) := hV 17 _ 25 rfl rfl (Pred.waits_near (by kernel_rfl) (by kernel_rfl))
            have r13 : b9.tmps[13]?.getD undef = .bool true := hV 5 _ 13 rfl rfl (Pred.waits_near (by kernel_rfl) (by kernel_rfl))
            have cz := (HH1.out.bel hE).c0
            exact Pred.yields_run (v := .slice (some ⟨p, o, none⟩) l.length cb) ((Pred.wanted_at (g := 5) (d := 13) (f := true) rfl rfl r13).trans rfl) (by go_simp) ⟨Pred.ext_refl _ _, rfl⟩
          · intro b9 X hE hd hn hV
            have r2 : b9.tmps[2]?.getD undef = .int .i64 (k : Int) := (hn 2 (by kernel_rfl)).trans rfl
            have r13 : b9.tmps[13]?.getD undef = .bool true := hV 5 _ 13 rfl rfl (Pred.waits_near (by kernel_rfl) (by kernel_rfl))
            exact Pred.yields_run (v := .int .i64 (k : Int)) ((Pred.wanted_at (g := 5) (d := 13) (f := true) rfl rfl r13).trans rfl) (by go_simp) ⟨Pred.ext_refl _ _, rfl⟩
          · intro b9 X hE hd hn hV
            have r7 : b9.tmps[7]?.getD undef = .int .i64 (j : Int) := (hn 7 (by kernel_rfl)).trans rfl
            have r13 : b9.tmps[13]?.getD undef = .bool true := hV 5 _ 13 rfl rfl (Pred.waits_near (by kernel_rfl) (by kernel_rfl))
            exact Pred.yields_run (v := .int .i64 (j : Int)) ((Pred.wanted_at (g := 5) (d := 13) (f := true) rfl rfl r13).trans rfl) (by go_simp) ⟨Pred.ext_refl _ _, rfl⟩
          · intro b9 X hE hd hn hV
            have r27 : b9.tmps[27]?.getD undef = .int .i64 (k : Int) := hV 19 _ 27 rfl rfl (Pred.waits_near (by kernel_rfl) (by kernel_rfl))
            have r28 : b9.tmps[28]?.getD undef = .int .i64 (j : Int) := hV 20 _ 28 rfl rfl (Pred.waits_near (by kernel_rfl) (by kernel_rfl))
            have r13 : b9.tmps[13]?.getD undef = .bool true := hV 5 _ 13 rfl rfl (Pred.waits_near (by kernel_rfl) (by kernel_rfl))
            have wz : IntKind.i64.wrap ((k : Int) + (j : Int)) = (k : Int) + (j : Int) := by rw [IntKind.wrap_i64]; omega
            exact Pred.yields_run (v := .int .i64 ((k : Int) + (j : Int))) ((Pred.wanted_at (g := 5) (d := 13) (f := true) rfl rfl r13).trans rfl) (by go_simp) ⟨Pred.ext_refl _ _, rfl⟩
          · intro b9 X hE hd hn hV
            have r26 : b9.tmps[26]?.getD undef = .slice (some ⟨p, o, none⟩) l.length cb := hV 18 _ 26 rfl rfl (Pred.waits_near (by kernel_rfl) (by kernel_rfl))
            have r29 : b9.tmps[29]?.getD undef = .int .i64 ((k : Int) + (j : Int)) := hV 21 _ 29 rfl rfl (Pred.waits_near (by kernel_rfl) (by kernel_rfl))
            have r13 : b9.tmps[13]?.getD undef = .bool true := hV 5 _ 13 rfl rfl (Pred.waits_near (by kernel_rfl) (by kernel_rfl))
            have d1 : 0 ≤ (k : Int) + (j : Int) := by omega
            have d2 : (k : Int) + (j : Int) < (l.length : Int) := by omega
            have d4 : ((k : Int) + (j : Int)).toNat = k + j := by omega
            exact Pred.yields_run (v := .pointer (some ⟨p, o + (k + j), none⟩)) ((Pred.wanted_at (g := 5) (d := 13) (f := true) rfl rfl r13).trans rfl) (by go_simp) ⟨Pred.ext_refl _ _, rfl⟩
          · intro b9 X hE hd hn hV
            have r30 : b9.tmps[30]?.getD undef = .pointer (some ⟨p, o + (k + j), none⟩) := hV 22 _ 30 rfl rfl (Pred.waits_near (by kernel_rfl) (by kernel_rfl))
            have r13 : b9.tmps[13]?.getD undef = .bool true := hV 5 _ 13 rfl rfl (Pred.waits_near (by kernel_rfl) (by kernel_rfl))
            have cz := (HC.out X hE).2
            exact Pred.yields_run (v := .int .u8 y) ((Pred.wanted_at (g := 5) (d := 13) (f := true) rfl rfl r13).trans rfl) (by go_simp) ⟨Pred.ext_refl _ _, rfl⟩
          · intro b9 X hE hd hn hV
            have r22 : b9.tmps[22]?.getD undef = .int .u8 x := hV 14 _ 22 rfl rfl (Pred.waits_near (by kernel_rfl) (by kernel_rfl))
            have r31 : b9.tmps[31]?.getD undef = .int .u8 y := hV 23 _ 31 rfl rfl (Pred.waits_near (by kernel_rfl) (by kernel_rfl))
            have r13 : b9.tmps[13]?.getD undef = .bool true := hV 5 _ 13 rfl rfl (Pred.waits_near (by kernel_rfl) (by kernel_rfl))
            exact Pred.yields_run (v := .bool false) ((Pred.wanted_at (g := 5) (d := 13) (f := true) rfl rfl r13).trans rfl) (by go_simp) ⟨Pred.ext_refl _ _, rfl⟩
          · intro b9 X hE hd hn hV
            have r13 : b9.tmps[13]?.getD undef = .bool true := hV 5 _ 13 rfl rfl (Pred.waits_near (by kernel_rfl) (by kernel_rfl))
            have r32 : b9.tmps[32]?.getD undef = .bool false := hV 24 _ 32 rfl rfl (Pred.waits_near (by kernel_rfl) (by kernel_rfl))
            exact Pred.yields_run (v := .bool false) (Pred.wanted_none rfl) (by go_simp) ⟨Pred.ext_refl _ _, rfl⟩
        intro v X hE hv
        have e0 : v 0 = .int .i64 (j : Int) := hv 0 _ 8 rfl rfl
        have e1 : v 1 = .pointer (some ⟨f, 0, none⟩) := hv 1 _ 9 rfl rfl
        have e2 : v 2 = .int .i64 (k : Int) := hv 2 _ 10 rfl rfl
        have e3 : v 3 = .int .i64 (mo : Int) := hv 3 _ 11 rfl rfl
        have e4 : v 4 = .bool true := hv 4 _ 12 rfl rfl
        have e5 : v 5 = .bool true := hv 5 _ 13 rfl rfl
        have e6 : v 6 = .pointer (some ⟨f, 0, none⟩) := hv 6 _ 14 rfl rfl
        have e7 : v 7 = .pointer (some ⟨f, 0, none⟩) := hv 7 _ 15 rfl rfl
        have e8 : v 8 = .pointer (some ⟨f, 0, none⟩) := hv 8 _ 16 rfl rfl
        have e9 : v 9 = .slice (some ⟨p, o, none⟩) l.length cb := hv 9 _ 17 rfl rfl
        have e10 : v 10 = .int .i64 (i : Int) := hv 10 _ 18 rfl rfl
        have e11 : v 11 = .int .i64 (j : Int) := hv 11 _ 19 rfl rfl
        have e12 : v 12 = .int .i64 ((i : Int) + (j : Int)) := hv 12 _ 20 rfl rfl
        have e13 : v 13 = .pointer (some ⟨p, o + (i + j), none⟩) := hv 13 _ 21 rfl rfl
        have e14 : v 14 = .int .u8 x := hv 14 _ 22 rfl rfl
        have e15 : v 15 = .pointer (some ⟨f, 0, none⟩) := hv 15 _ 23 rfl rfl
        have e16 : v 16 = .pointer (some ⟨f, 0, none⟩) := hv 16 _ 24 rfl rfl
        have e17 : v 17 = .pointer (some ⟨f, 0, none⟩) := hv 17 _ 25 rfl rfl
        have e18 : v 18 = .slice (some ⟨p, o, none⟩) l.length cb := hv 18 _ 26 rfl rfl
        have e19 : v 19 = .int .i64 (k : Int) := hv 19 _ 27 rfl rfl
        have e20 : v 20 = .int .i64 (j : Int) := hv 20 _ 28 rfl rfl
        have e21 : v 21 = .int .i64 ((k : Int) + (j : Int)) := hv 21 _ 29 rfl rfl
        have e22 : v 22 = .pointer (some ⟨p, o + (k + j), none⟩) := hv 22 _ 30 rfl rfl
        have e23 : v 23 = .int .u8 y := hv 23 _ 31 rfl rfl
        have e24 : v 24 = .bool false := hv 24 _ 32 rfl rfl
        have e25 : v 25 = .bool false := hv 25 _ 33 rfl rfl
        simp only [Pred.putsF_cons, Pred.putsF_nil, Nat.zero_add, Nat.reduceAdd, e0, e1, e2, e3, e4, e5, e6, e7, e8, e9, e10, e11, e12, e13, e14, e15, e16, e17, e18, e19, e20, e21, e22, e23, e24, e25, Act.put, List.setIfInBounds_toArray, List.set_cons_zero, List.set_cons_succ]
        clear e0 e1 e2 e3 e4 e5 e6 e7 e8 e9 e10 e11 e12 e13 e14 e15 e16 e17 e18 e19 e20 e21 e22 e23 e24 e25 hv
        have HB2 := Lib.hid (HB.out.trans (hE.mono HB.out.size))
        clear hE HC HH1 HR1 HB
        go_wp2
        go_ret
        have hrun : runL l k (k - i) = j := run_is (by rw [HM.out]; omega) (fun t ht => by rw [show k - (k - i) = i by omega]; exact HJ.out t ht) (by rw [HM.out]; exact .inr (by rw [show k - (k - i) = i by omega, HXY.out.1, HXY.out.2]; exact fun h => hxy h.symm))
        exact ⟨by rw [hrun]; rfl, HB2.out⟩
    · obtain rfl : j = mo := by omega
      have hlt' : ¬ (j : Int) < (j : Int) := by omega
      go_upto_region 2 with (fail)
      refine Pred.region_vals (Pred.Of [
          Is (.int .i64 (j : Int)),
          Is (.pointer (some ⟨f, 0, none⟩)),
          Is (.int .i64 (k : Int)),
          Is (.int .i64 (j : Int)),
          Is (.bool false),
          Is (.bool false),
          Is (undef),
          Is (undef),
          Is (undef),
          Is (undef),
          Is (undef),
          Is (undef),
          Is (undef),
          Is (undef),
          Is (undef),
          Is (undef),
          Is (undef),
          Is (undef),
          Is (undef),
          Is (undef),
          Is (undef),
          Is (undef),
          Is (undef),
          Is (undef),
          Is (undef),
          Is (.bool false)]) (by kernel_rfl) (by kernel_rfl) (by kernel_rfl) (Pred.of_stab ?_) ?_ ?_
      · exact ⟨is_stab _, is_stab _, is_stab _, is_stab _, is_stab _, is_stab _, is_stab _, is_stab _, is_stab _, is_stab _, is_stab _, is_stab _, is_stab _, is_stab _, is_stab _, is_stab _, is_stab _, is_stab _, is_stab _, is_stab _, is_stab _, is_stab _, is_stab _, is_stab _, is_stab _, is_stab _, trivial⟩
      · refine ⟨?_, ?_, ?_, ?_, ?_, ?_, ?_, ?_, ?_, ?_, ?_, ?_, ?_, ?_, ?_, ?_, ?_, ?_, ?_, ?_, ?_, ?_, ?_, ?_, ?_, ?_, trivial⟩
        · intro b9 X hE hd hn hV
          have r7 : b9.tmps[7]?.getD undef = .int .i64 (j : Int) := (hn 7 (by kernel_rfl)).trans rfl
          exact Pred.yields_run (v := .int .i64 (j : Int)) (Pred.wanted_none rfl) (by go_simp) ⟨Pred.ext_refl _ _, rfl⟩
        · intro b9 X hE hd hn hV
          have r0 : b9.tmps[0]?.getD undef = .pointer (some ⟨f, 0, none⟩) := (hn 0 (by kernel_rfl)).trans rfl
          exact Pred.yields_run (v := .pointer (some ⟨f, 0, none⟩)) (Pred.wanted_none rfl) (by go_simp) ⟨Pred.ext_refl _ _, rfl⟩
        · intro b9 X hE hd hn hV
          have r2 : b9.tmps[2]?.getD undef = .int .i64 (k : Int) := (hn 2 (by kernel_rfl)).trans rfl
          exact Pred.yields_run (v := .int .i64 (k : Int)) (Pred.wanted_none rfl) (by go_simp) ⟨Pred.ext_refl _ _, rfl⟩
        · intro b9 X hE hd hn hV
          have r9 : b9.tmps[9]?.getD undef = .pointer (some ⟨f, 0, none⟩) := hV 1 _ 9 rfl rfl (Pred.waits_near (by kernel_rfl) (by kernel_rfl))
          have r10 : b9.tmps[10]?.getD undef = .int .i64 (k : Int) := hV 2 _ 10 rfl rfl (Pred.waits_near (by kernel_rfl) (by kernel_rfl))
          refine Pred.yields_call (f := 35) (args := #[.pointer (some ⟨f, 0, none⟩), .int .i64 k]) (Pred.wanted_none rfl) (by go_simp) ?_
          exact (most_any f _ ra l cb cr k X (HH1.out.bel hE) (by omega) hl).mono fun e w2 ⟨he, hw⟩ => ⟨_, by rw [he, HM.out], hw ▸ Pred.ext_refl _ _, rfl⟩
        · intro b9 X hE hd hn hV
          have r8 : b9.tmps[8]?.getD undef = .int .i64 (j : Int) := hV 0 _ 8 rfl rfl (Pred.waits_near (by kernel_rfl) (by kernel_rfl))
          have r11 : b9.tmps[11]?.getD undef = .int .i64 (j : Int) := hV 3 _ 11 rfl rfl (Pred.waits_near (by kernel_rfl) (by kernel_rfl))
          exact Pred.yields_run (v := .bool false) (Pred.wanted_none rfl) (by go_simp) ⟨Pred.ext_refl _ _, rfl⟩
        · intro b9 X hE hd hn hV
          have r12 : b9.tmps[12]?.getD undef = .bool false := hV 4 _ 12 rfl rfl (Pred.waits_near (by kernel_rfl) (by kernel_rfl))
          exact Pred.yields_run (v := .bool false) (Pred.wanted_none rfl) (by go_simp) ⟨Pred.ext_refl _ _, rfl⟩
        · intro b9 X hE hd hn hV
          have r13 : b9.tmps[13]?.getD undef = .bool false := hV 5 _ 13 rfl rfl (Pred.waits_near (by kernel_rfl) (by kernel_rfl))
          exact Pred.yields_not ((Pred.wanted_at (g := 5) (d := 13) (f := true) rfl rfl r13).trans rfl) ⟨Pred.ext_refl _ _, rfl⟩
        · intro b9 X hE hd hn hV
          have r13 : b9.tmps[13]?.getD undef = .bool false := hV 5 _ 13 rfl rfl (Pred.waits_near (by kernel_rfl) (by kernel_rfl))
          exact Pred.yields_not ((Pred.wanted_at (g := 5) (d := 13) (f := true) rfl rfl r13).trans rfl) ⟨Pred.ext_refl _ _, rfl⟩
        · intro b9 X hE hd hn hV
          have r13 : b9.tmps[13]?.getD undef = .bool false := hV 5 _ 13 rfl rfl (Pred.waits_near (by kernel_rfl) (by kernel_rfl))
          exact Pred.yields_not ((Pred.wanted_at (g := 5) (d := 13) (f := true) rfl rfl r13).trans rfl) ⟨Pred.ext_refl _ _, rfl⟩
        · intro b9 X hE hd hn hV
          have r13 : b9.tmps[13]?.getD undef = .bool false := hV 5 _ 13 rfl rfl (Pred.waits_near (by kernel_rfl) (by kernel_rfl))
          exact Pred.yields_not ((Pred.wanted_at (g := 5) (d := 13) (f := true) rfl rfl r13).trans rfl) ⟨Pred.ext_refl _ _, rfl⟩
        · intro b9 X hE hd hn hV
          have r13 : b9.tmps[13]?.getD undef = .bool false := hV 5 _ 13 rfl rfl (Pred.waits_near (by kernel_rfl) (by kernel_rfl))
          exact Pred.yields_not ((Pred.wanted_at (g := 5) (d := 13) (f := true) rfl rfl r13).trans rfl) ⟨Pred.ext_refl _ _, rfl⟩
        · intro b9 X hE hd hn hV
          have r13 : b9.tmps[13]?.getD undef = .bool false := hV 5 _ 13 rfl rfl (Pred.waits_near (by kernel_rfl) (by kernel_rfl))
          exact Pred.yields_not ((Pred.wanted_at (g := 5) (d := 13) (f := true) rfl rfl r13).trans rfl) ⟨Pred.ext_refl _ _, rfl⟩
        · intro b9 X hE hd hn hV
          have r13 : b9.tmps[13]?.getD undef = .bool false := hV 5 _ 13 rfl rfl (Pred.waits_near (by kernel_rfl) (by kernel_rfl))
          exact Pred.yields_not ((Pred.wanted_at (g := 5) (d := 13) (f := true) rfl rfl r13).trans rfl) ⟨Pred.ext_refl _ _, rfl⟩
        · intro b9 X hE hd hn hV
          have r13 : b9.tmps[13]?.getD undef = .bool false := hV 5 _ 13 rfl rfl (Pred.waits_near (by kernel_rfl) (by kernel_rfl))
          exact Pred.yields_not ((Pred.wanted_at (g := 5) (d := 13) (f := true) rfl rfl r13).trans rfl) ⟨Pred.ext_refl _ _, rfl⟩
        · intro b9 X hE hd hn hV
          have r13 : b9.tmps[13]?.getD undef = .bool false := hV 5 _ 13 rfl rfl (Pred.waits_near (by kernel_rfl) (by kernel_rfl))
          exact Pred.yields_not ((Pred.wanted_at (g := 5) (d := 13) (f := true) rfl rfl r13).trans rfl) ⟨Pred.ext_refl _ _, rfl⟩
        · intro b9 X hE hd hn hV
          have r13 : b9.tmps[13]?.getD undef = .bool false := hV 5 _ 13 rfl rfl (Pred.waits_near (by kernel_rfl) (by kernel_rfl))
          exact Pred.yields_not ((Pred.wanted_at (g := 5) (d := 13) (f := true) rfl rfl r13).trans rfl) ⟨Pred.ext_refl _ _, rfl⟩
        · intro b9 X hE hd hn hV
          have r13 : b9.tmps[13]?.getD undef = .bool false := hV 5 _ 13 rfl rfl (Pred.waits_near (by kernel_rfl) (by kernel_rfl))
          exact Pred.yields_not ((Pred.wanted_at (g := 5) (d := 13) (f := true) rfl rfl r13).trans rfl) ⟨Pred.ext_refl _ _, rfl⟩
        · intro b9 X hE hd hn hV
          have r13 : b9.tmps[13]?.getD undef = .bool false := hV 5 _ 13 rfl rfl (Pred.waits_near (by kernel_rfl) (by kernel_rfl))
          exact Pred.yields_not ((Pred.wanted_at (g := 5) (d := 13) (f := true) rfl rfl r13).trans rfl) ⟨Pred.ext_refl _ _, rfl⟩
        · intro b9 X hE hd hn hV
          have r13 : b9.tmps[13]?.getD undef = .bool false := hV 5 _ 13 rfl rfl (Pred.waits_near (by kernel_rfl) (by kernel_rfl))
          exact Pred.yields_not ((Pred.wanted_at (g := 5) (d := 13) (f := true) rfl rfl r13).trans rfl) ⟨Pred.ext_refl _ _, rfl⟩
        · intro b9 X hE hd hn hV
          have r13 : b9.tmps[13]?.getD undef = .bool false := hV 5 _ 13 rfl rfl (Pred.waits_near (by kernel_rfl) (by kernel_rfl))
          exact Pred.yields_not ((Pred.wanted_at (g := 5) (d := 13) (f := true) rfl rfl r13).trans rfl) ⟨Pred.ext_refl _ _, rfl⟩
        · intro b9 X hE hd hn hV
          have r13 : b9.tmps[13]?.getD undef = .bool false := hV 5 _ 13 rfl rfl (Pred.waits_near (by kernel_rfl) (by kernel_rfl))
          exact Pred.yields_not ((Pred.wanted_at (g := 5) (d := 13) (f := true) rfl rfl r13).trans rfl) ⟨Pred.ext_refl _ _, rfl⟩
        · intro b9 X hE hd hn hV
          have r13 : b9.tmps[13]?.getD undef = .bool false := hV 5 _ 13 rfl rfl (Pred.waits_near (by kernel_rfl) (by kernel_rfl))
          exact Pred.yields_not ((Pred.wanted_at (g := 5) (d := 13) (f := true) rfl rfl r13).trans rfl) ⟨Pred.ext_refl _ _, rfl⟩
        · intro b9 X hE hd hn hV
          have r13 : b9.tmps[13]?.getD undef = .bool false := hV 5 _ 13 rfl rfl (Pred.waits_near (by kernel_rfl) (by kernel_rfl))
          exact Pred.yields_not ((Pred.wanted_at (g := 5) (d := 13) (f := true) rfl rfl r13).trans rfl) ⟨Pred.ext_refl _ _, rfl⟩
        · intro b9 X hE hd hn hV
          have r13 : b9.tmps[13]?.getD undef = .bool false := hV 5 _ 13 rfl rfl (Pred.waits_near (by kernel_rfl) (by kernel_rfl))
          exact Pred.yields_not ((Pred.wanted_at (g := 5) (d := 13) (f := true) rfl rfl r13).trans rfl) ⟨Pred.ext_refl _ _, rfl⟩
        · intro b9 X hE hd hn hV
          have r13 : b9.tmps[13]?.getD undef = .bool false := hV 5 _ 13 rfl rfl (Pred.waits_near (by kernel_rfl) (by kernel_rfl))
          exact Pred.yields_not ((Pred.wanted_at (g := 5) (d := 13) (f := true) rfl rfl r13).trans rfl) ⟨Pred.ext_refl _ _, rfl⟩
        · intro b9 X hE hd hn hV
          have r13 : b9.tmps[13]?.getD undef = .bool false := hV 5 _ 13 rfl rfl (Pred.waits_near (by kernel_rfl) (by kernel_rfl))
          have r32 : b9.tmps[32]?.getD undef = undef := hV 24 _ 32 rfl rfl (Pred.waits_near (by kernel_rfl) (by kernel_rfl))
          exact Pred.yields_run (v := .bool false) (Pred.wanted_none rfl) (by go_simp) ⟨Pred.ext_refl _ _, rfl⟩
      intro v X hE hv
      have e0 : v 0 = .int .i64 (j : Int) := hv 0 _ 8 rfl rfl
      have e1 : v 1 = .pointer (some ⟨f, 0, none⟩) := hv 1 _ 9 rfl rfl
      have e2 : v 2 = .int .i64 (k : Int) := hv 2 _ 10 rfl rfl
      have e3 : v 3 = .int .i64 (j : Int) := hv 3 _ 11 rfl rfl
      have e4 : v 4 = .bool false := hv 4 _ 12 rfl rfl
      have e5 : v 5 = .bool false := hv 5 _ 13 rfl rfl
      have e6 : v 6 = undef := hv 6 _ 14 rfl rfl
      have e7 : v 7 = undef := hv 7 _ 15 rfl rfl
      have e8 : v 8 = undef := hv 8 _ 16 rfl rfl
      have e9 : v 9 = undef := hv 9 _ 17 rfl rfl
      have e10 : v 10 = undef := hv 10 _ 18 rfl rfl
      have e11 : v 11 = undef := hv 11 _ 19 rfl rfl
      have e12 : v 12 = undef := hv 12 _ 20 rfl rfl
      have e13 : v 13 = undef := hv 13 _ 21 rfl rfl
      have e14 : v 14 = undef := hv 14 _ 22 rfl rfl
      have e15 : v 15 = undef := hv 15 _ 23 rfl rfl
      have e16 : v 16 = undef := hv 16 _ 24 rfl rfl
      have e17 : v 17 = undef := hv 17 _ 25 rfl rfl
      have e18 : v 18 = undef := hv 18 _ 26 rfl rfl
      have e19 : v 19 = undef := hv 19 _ 27 rfl rfl
      have e20 : v 20 = undef := hv 20 _ 28 rfl rfl
      have e21 : v 21 = undef := hv 21 _ 29 rfl rfl
      have e22 : v 22 = undef := hv 22 _ 30 rfl rfl
      have e23 : v 23 = undef := hv 23 _ 31 rfl rfl
      have e24 : v 24 = undef := hv 24 _ 32 rfl rfl
      have e25 : v 25 = .bool false := hv 25 _ 33 rfl rfl
      simp only [Pred.putsF_cons, Pred.putsF_nil, Nat.zero_add, Nat.reduceAdd, e0, e1, e2, e3, e4, e5, e6, e7, e8, e9, e10, e11, e12, e13, e14, e15, e16, e17, e18, e19, e20, e21, e22, e23, e24, e25, Act.put, List.setIfInBounds_toArray, List.set_cons_zero, List.set_cons_succ]
      clear e0 e1 e2 e3 e4 e5 e6 e7 e8 e9 e10 e11 e12 e13 e14 e15 e16 e17 e18 e19 e20 e21 e22 e23 e24 e25 hv
      have HB2 := Lib.hid (HB.out.trans (hE.mono HB.out.size))
      clear hE HH1 HR1 HB
      go_wp2
      go_ret
      have hrun : runL l k (k - i) = j := run_is (by rw [HM.out]; omega) (fun t ht => by rw [show k - (k - i) = i by omega]; exact HJ.out t ht) (by rw [HM.out]; exact .inl rfl)
      exact ⟨by rw [hrun]; rfl, HB2.out⟩
end Go.Proofs.Ytminaamfelcajaa.MaC

/-
  What the document fixes.
-/
import Derived.Test.YtmhjhfjbfoklpaaExD
import Derived.Test.YtmhjhfjbfoklpaaAlike
namespace Go.Proofs.Ytmhjhfjbfoklpaa.ExE
open Go.RowKit Rd Go.Proofs.Ytmhjhfjbfoklpaa.Row ExM ExA ExB ExC ExD
set_option linter.unusedVariables false
set_option linter.unusedSimpArgs false
set_option maxRecDepth 10000
variable {b g cap : Nat}
theorem tk (n : Nat) (l l' : List Bool) (a e0 : Int) (hn : 1 ≤ n) (h1 : tkA l n = a) (h2 : tkE l n = e0) (h3 : tkB l n = l') (w : World) (h : Mp w b g cap l) :
    Calls Try.prog 9 #[.pointer (some ⟨b, 0, none⟩), .int .i64 n] w fun e w' => e = .returned (.tuple #[.int .i64 a, .int .i64 e0]) ∧ Mp w' b g cap l' ∧ w.grownBy w' (some g) := by
  subst h1 h2 h3
  exact take_any n w h hn
theorem cl (s k : Int) (l l' : List Bool) (e0 : Int) (hs : s = 0 ∨ s = 2 ∨ s = 3 ∨ s = 4) (hk : k = 1 ∨ k = 2) (h1 : actE l s k false 5 = e0) (h3 : actB l s k false = l') (w : World) (h : Mp w b g cap l) :
    Calls Try.prog 11 #[.pointer (some ⟨b, 0, none⟩), .int .i64 s, .int .i64 k] w fun e w' => e = .returned (.int .i64 e0) ∧ Mp w' b g cap l' ∧ w.grownBy w' (some g) := by
  subst h1 h3
  exact claim_any s k w h (by omega) (by omega) (by omega) (by omega)
theorem gv (s k : Int) (l l' : List Bool) (e0 : Int) (hs : s = 0 ∨ s = 2 ∨ s = 3 ∨ s = 4) (hk : k = 1 ∨ k = 2) (h1 : actE l s k true 4 = e0) (h3 : actB l s k true = l') (w : World) (h : Mp w b g cap l) :
    Calls Try.prog 13 #[.pointer (some ⟨b, 0, none⟩), .int .i64 s, .int .i64 k] w fun e w' => e = .returned (.int .i64 e0) ∧ Mp w' b g cap l' ∧ w.grownBy w' (some g) := by
  subst h1 h3
  exact give_any s k w h (by omega) (by omega) (by omega) (by omega)
def b0 : List Bool := [false, false, false, false]
def b1 : List Bool := [true, true, false, false]
def b2 : List Bool := [true, true, true, false]
def b3 : List Bool := [false, false, true, false]
def b4 : List Bool := [true, false, true, false]
def r4 : List (Nat × Nat) := [(1, 1), (3, 1)]
theorem bel_turn {lo : Nat} {w X Y : World} (h : Below lo w X) (hg : X.grownBy Y (some g)) (h1 : lo ≤ w.heap.size) (h2 : lo ≤ g) : Below lo w Y :=
  below_grown (B := 0) h hg h1 fun r e => by injection e with e; omega
set_option maxHeartbeats 4000000 in
theorem awake_any (w : World) : Calls Try.prog 6 #[] w fun e w' => e = .returned (.bool true) ∧ Below w.heap.size w w' := by
  go_enter Try.func6, Try.ntmps6
  go_wp2_with fail
  refine (new_any 4 (by decide) _).mono ?_
  rintro e w1 ⟨⟨b, g, rfl, hb, hg, s1⟩, L1⟩
  have H1 : Hid (Mp w1 b g 4 b0) := Lib.hid s1
  have HL1 := Lib.hid L1
  clear s1 L1
  go_wp2_with fail
  refine (new_no 0 (by decide) _).mono ?_
  rintro e _ ⟨rfl, rfl⟩
  go_wp2_with fail
  refine (tk 2 b0 b1 0 0 (by decide) (by decide) (by decide) (by decide) _ H1.out).mono ?_
  rintro e w2 ⟨rfl, h2, g2⟩
  have H2 := Lib.hid h2
  have HL2 := Lib.hid (bel_turn HL1.out g2 (Nat.le_refl _) hg)
  clear h2 g2 H1 HL1
  go_wp2_with fail
  refine (tk 1 b1 b2 2 0 (by decide) (by decide) (by decide) (by decide) _ H2.out).mono ?_
  rintro e w3 ⟨rfl, h2, g2⟩
  have H3 := Lib.hid h2
  have HL3 := Lib.hid (bel_turn HL2.out g2 (Nat.le_refl _) hg)
  clear h2 g2 H2 HL2
  go_wp2_with fail
  refine (tk 2 b2 b2 0 6 (by decide) (by decide) (by decide) (by decide) _ H3.out).mono ?_
  rintro e w4 ⟨rfl, h2, g2⟩
  have H4 := Lib.hid h2
  have HL4 := Lib.hid (bel_turn HL3.out g2 (Nat.le_refl _) hg)
  clear h2 g2 H3 HL3
  go_wp2_with fail
  refine (gv 0 2 b2 b3 0 (by decide) (by decide) (by decide) (by decide) _ H4.out).mono ?_
  rintro e w5 ⟨rfl, h2, g2⟩
  have H5 := Lib.hid h2
  have HL5 := Lib.hid (bel_turn HL4.out g2 (Nat.le_refl _) hg)
  clear h2 g2 H4 HL4
  go_wp2_with fail
  refine (tk 1 b3 b4 0 0 (by decide) (by decide) (by decide) (by decide) _ H5.out).mono ?_
  rintro e w6 ⟨rfl, h2, g2⟩
  have H6 := Lib.hid h2
  have HL6 := Lib.hid (bel_turn HL5.out g2 (Nat.le_refl _) hg)
  clear h2 g2 H5 HL5
  go_wp2_with fail
  refine (cl 2 1 b4 b4 5 (by decide) (by decide) (by decide) (by decide) _ H6.out).mono ?_
  rintro e w7 ⟨rfl, h2, g2⟩
  have H7 := Lib.hid h2
  have HL7 := Lib.hid (bel_turn HL6.out g2 (Nat.le_refl _) hg)
  clear h2 g2 H6 HL6
  go_wp2_with fail
  refine (gv 3 1 b4 b4 4 (by decide) (by decide) (by decide) (by decide) _ H7.out).mono ?_
  rintro e w8 ⟨rfl, h2, g2⟩
  have H8 := Lib.hid h2
  have HL8 := Lib.hid (bel_turn HL7.out g2 (Nat.le_refl _) hg)
  clear h2 g2 H7 HL7
  go_wp2_with fail
  refine (cl 4 1 b4 b4 1 (by decide) (by decide) (by decide) (by decide) _ H8.out).mono ?_
  rintro e w9 ⟨rfl, h2, g2⟩
  have H9 := Lib.hid h2
  have HL9 := Lib.hid (bel_turn HL8.out g2 (Nat.le_refl _) hg)
  clear h2 g2 H8 HL8
  go_wp2_with fail
  refine (used_any _ H9.out).mono ?_
  rintro e w10 ⟨he, hb10⟩
  have eu : ((b4.length : Int) - (sumL (runs b4) : Nat)) = 2 := by decide
  rw [eu] at he
  subst he
  have H10 := Lib.hid (H9.out.bel hb10)
  have HL10 := Lib.hid (HL9.out.trans (hb10.mono HL9.out.size))
  clear eu hb10 H9 HL9
  go_wp2_with fail
  refine (free_st (-1) _ H10.out).mono ?_
  rintro e w11 ⟨⟨ad, c, he, hr, -⟩, hb11⟩
  have e4 : cutV (runs b4) (-1) = r4 := by rw [cut_all]; decide
  rw [e4] at he hr
  replace he : e = .returned (.slice ad 2 c) := he
  subst he
  have HR : Hid (PRd w11 ad r4) := Lib.hid hr
  have HL11 := Lib.hid (HL10.out.trans (hb11.mono HL10.out.size))
  clear hb11 H10 HL10 hr e4
  go_wp2_with fail
  refine (same_any r4 r4 ad _ c 2 _ (HR.out.below ((Below.refl _ _).alloc (Nat.le_refl _) _)) ?_ (by decide) (by decide)).mono ?_
  case _ =>
    refine ⟨rfl, Or.inr ⟨_, 0, rfl, by simp, fun i hi => ?_⟩⟩
    rw [Nat.zero_add, blk_cell (blk_alloc_at _ _ _ rfl)]
    have ep : pv r4 = [.int .i64 1, .int .i64 1, .int .i64 3, .int .i64 1] := rfl
    rw [ep]
    simp
  rintro e w12 ⟨rfl, hb12⟩
  have HL12 : Hid (Below w.heap.size w w12) := Lib.hid ((HL11.out.alloc (by have := HL11.out.size; omega) _).trans (hb12.mono (by have := HL11.out.size; simp; omega)))
  rw [decide_eq_true rfl]
  clear hb12 HR HL11
  go_wp2_with fail
  refine (used_nil _).mono ?_
  rintro e _ ⟨rfl, rfl⟩
  go_wp2_with fail
  refine (copy_nil _).mono ?_
  rintro e _ ⟨rfl, rfl⟩
  go_wp2_with fail
  refine (claim_nil _ _ _).mono ?_
  rintro e _ ⟨rfl, rfl⟩
  go_wp2
  go_ret
  exact ⟨rfl, HL12.out⟩
end Go.Proofs.Ytmhjhfjbfoklpaa.ExE

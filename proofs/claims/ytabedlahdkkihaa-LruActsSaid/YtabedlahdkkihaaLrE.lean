/-
  What the document fixes.
-/
import Derived.Test.YtabedlahdkkihaaLrD
import Derived.Test.YtabedlahdkkihaaAlike
namespace Go.Proofs.Ytabedlahdkkihaa.LrE
open Go.RowKit Rd Go.Proofs.Ytabedlahdkkihaa.Row LrM LrA LrB LrC LrD
set_option linter.unusedVariables false
set_option linter.unusedSimpArgs false
set_option maxRecDepth 10000
theorem cut_zero (o : List Nat) : cutV o (-1) = o := cut_all o
theorem reads_lit (w : World) (zs : List Int) (t : TypeId) : Reads (w.alloc (.cells (cs .i64 zs) t)) 1 (some ⟨w.heap.size, 0, none⟩) zs.length (Alk.i64s zs) := by
  refine ⟨by simp [Alk.i64s], Or.inr ⟨_, 0, rfl, by simp, fun i hi => ?_⟩⟩
  rw [Nat.zero_add, blk_cell (blk_alloc_at w _ _ rfl)]
  simp [Alk.i64s]
def o3 : List Nat := [1, 2, 0]
def p0 : Nat → Bool := fun _ => false
def p1 : Nat → Bool := put p0 1 true
theorem to3 : touchL (List.range 3) 0 = o3 := by decide
theorem ol1 : oldO o3 p0 = some 1 := by decide
theorem ol2 : oldO o3 p1 = some 2 := by decide
theorem new3 (w : World) : Calls Try.prog 8 #[.int .i64 3] w fun e w' => (∃ b g, e = .returned (.tuple #[.pointer (some ⟨b, 0, none⟩), .int .i64 0]) ∧ w.heap.size ≤ b ∧ w.heap.size ≤ g ∧ St w' b g 3 (List.range 3) p0) ∧ Below w.heap.size w w' := new_any 3 (by omega) w
theorem touch0 {b g : Nat} (w : World) (h : St w b g 3 (List.range 3) p0) : Calls Try.prog 10 #[.pointer (some ⟨b, 0, none⟩), .int .i64 0] w fun e w' => e = .returned (.int .i64 0) ∧ St w' b g 3 o3 p0 ∧ w.grownBy w' (some g) := by
  have := touch_yes 0 w h (by omega)
  rw [to3] at this
  exact this
theorem pin1 {b g : Nat} (w : World) (h : St w b g 3 o3 p0) : Calls Try.prog 12 #[.pointer (some ⟨b, 0, none⟩), .int .i64 1] w fun e w' => e = .returned (.int .i64 0) ∧ St w' b g 3 o3 p1 ∧ w.grownBy w' (some g) := pin_yes 1 w h (by omega)
theorem touch3 {b g : Nat} (w : World) (h : St w b g 3 o3 p1) : Calls Try.prog 10 #[.pointer (some ⟨b, 0, none⟩), .int .i64 3] w fun e w' => e = .returned (.int .i64 1) ∧ w = w' := touch_no 3 w h (by omega)
theorem old1 {b g : Nat} (w : World) (h : St w b g 3 o3 p0) : Calls Try.prog 14 #[.pointer (some ⟨b, 0, none⟩)] w fun e w' => e = .returned (.tuple #[.int .i64 1, .bool true]) ∧ Below w.heap.size w w' := by
  have := oldest_st w h
  rw [ol1] at this
  exact this
theorem old2 {b g : Nat} (w : World) (h : St w b g 3 o3 p1) : Calls Try.prog 14 #[.pointer (some ⟨b, 0, none⟩)] w fun e w' => e = .returned (.tuple #[.int .i64 2, .bool true]) ∧ Below w.heap.size w w' := by
  have := oldest_st w h
  rw [ol2] at this
  exact this
theorem ord3 {b g : Nat} (w : World) (h : St w b g 3 o3 p1) : Calls Try.prog 17 #[.pointer (some ⟨b, 0, none⟩), .int .i64 (-1)] w fun e w' => (∃ ad' c', e = .returned (.slice ad' 3 c') ∧ Reads w' 1 ad' 3 (Alk.i64s [1, 2, 0])) ∧ Below w.heap.size w w' := by
  have := order_st (-1) w h
  rw [cut_zero] at this
  exact this
set_option maxHeartbeats 4000000 in
theorem awake_any (w : World) : Calls Try.prog 7 #[] w fun e w' => e = .returned (.bool true) ∧ Below w.heap.size w w' := by
  go_enter Try.func7, Try.ntmps7
  go_wp2_with fail
  refine (new3 _).mono ?_
  rintro e w1 ⟨⟨b, g, rfl, hb, hg, h1⟩, L1⟩
  have H1 := Lib.hid h1
  clear h1
  go_wp2_with fail
  refine (new_no 0 (by omega) _).mono ?_
  rintro e _ ⟨rfl, rfl⟩
  go_wp2_with fail
  refine (touch0 _ H1.out).mono ?_
  rintro e w2 ⟨rfl, h2, g2⟩
  have H2 := Lib.hid h2
  have L2 : Below w.heap.size w w2 := below_turn L1 g2 hg
  clear h2 g2 H1 L1
  go_wp2_with fail
  refine (old1 _ H2.out).mono ?_
  rintro e w3 ⟨rfl, b3⟩
  have H3 := Lib.hid (H2.out.bel b3)
  have L3 : Below w.heap.size w w3 := L2.trans (b3.mono L2.size)
  clear b3 H2 L2
  go_wp2_with fail
  refine (pin1 _ H3.out).mono ?_
  rintro e w4 ⟨rfl, h4, g4⟩
  have H4 := Lib.hid h4
  have L4 : Below w.heap.size w w4 := below_turn L3 g4 hg
  clear h4 g4 H3 L3
  go_wp2_with fail
  refine (old2 _ H4.out).mono ?_
  rintro e w5 ⟨rfl, b5⟩
  have H5 := Lib.hid (H4.out.bel b5)
  have L5 : Below w.heap.size w w5 := L4.trans (b5.mono L4.size)
  clear b5 H4 L4
  go_wp2_with fail
  refine (oldest_nil _).mono ?_
  rintro e w6 ⟨rfl, b6⟩
  have H6 := Lib.hid (H5.out.bel b6)
  have L6 : Below w.heap.size w w6 := L5.trans (b6.mono L5.size)
  clear b6 H5 L5
  go_wp2_with fail
  refine (ord3 _ H6.out).mono ?_
  rintro e w7 ⟨⟨ad, c, rfl, hr⟩, b7⟩
  have H7 := Lib.hid (H6.out.bel b7)
  have L7 : Below w.heap.size w w7 := L6.trans (b7.mono L6.size)
  have HR := Lib.hid hr
  clear b7 H6 L6 hr
  go_wp2_with fail
  refine (Alk.ints_any ad (some ⟨w7.heap.size, 0, none⟩) 3 c 3 3 [1, 2, 0] [1, 2, 0] _ (HR.out.below (B := w7.heap.size) ((Below.refl _ _).alloc (Nat.le_refl _) _) (Nat.le_refl _)) (reads_lit w7 [1, 2, 0] _) (by omega) (by omega)).mono ?_
  rintro e w8 ⟨rfl, b8⟩
  have LA : Below w.heap.size w (w7.alloc (.cells #[.int .i64 1, .int .i64 2, .int .i64 0] 3)) := L7.alloc L7.size _
  have H8 := Lib.hid ((H7.out.bel ((Below.refl _ _).alloc (Nat.le_refl _) _)).bel b8)
  have L8 : Below w.heap.size w w8 := LA.trans (b8.mono LA.size)
  have hd : decide ([(1 : Int), 2, 0] = [1, 2, 0]) = true := rfl
  clear b8 H7 L7 LA HR
  go_wp2_with fail
  refine (touch3 _ H8.out).mono ?_
  rintro e _ ⟨rfl, rfl⟩
  go_wp2_with fail
  refine (touch_nil 0 _).mono ?_
  rintro e _ ⟨rfl, rfl⟩
  go_wp2_with fail
  refine (order_none (-1) _).mono ?_
  rintro e w9 ⟨⟨ad9, c9, rfl⟩, b9⟩
  have L9 : Below w.heap.size w w9 := L8.trans (b9.mono L8.size)
  clear b9
  go_wp2
  go_ret
  exact ⟨rfl, L9⟩
end Go.Proofs.Ytabedlahdkkihaa.LrE

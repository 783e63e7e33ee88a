/-
  What the document fixes of bits.
-/
import Derived.Test.YtgkcmnconogonaaBitD
namespace Go.Proofs.Ytgkcmnconogonaa.BitE
open Go.RowKit Rd Go.Proofs.Ytgkcmnconogonaa.Row OctA BitA BitB BitC BitD
set_option linter.unusedVariables false
set_option linter.unusedSimpArgs false
set_option maxRecDepth 100000
theorem Wr.keep {w w' : World} {p : Nat} {v : Value} {l : List Nat} (h : Wr w p v l) (hp : w'.heap[p]? = w.heap[p]?) (hv : ∀ k, v.ownBlock = some k → w'.heap[k]? = w.heap[k]?) : Wr w' p v l :=
  ⟨⟨hp.trans h.1.1, keep_own h.1.2 hv⟩, h.2⟩
theorem Wr.below {w w' : World} {p : Nat} {v : Value} {l : List Nat} (h : Wr w p v l) (hb : Below w.heap.size w w') : Wr w' p v l :=
  Wr.keep h (hb.block _ (blk_lt h.1.1)) (fun k hk => hb.block k (h.1.2.lt k hk).2)
theorem Wr.far {w w' : World} {p q : Nat} {v : Value} {l : List Nat} (h : Wr w p v l) (hf : FrQ w w' q) (hq : p < q) (hv : v.ownBlock ≠ some q) : Wr w' p v l :=
  Wr.keep h (hf.block _ (blk_lt h.1.1) (by omega) (by simp [Value.ownBlock])) (fun k hk => hf.block k (h.1.2.lt k hk).2 (fun e => hv (by rw [hk, e])) (by simp [Value.ownBlock]))
theorem Wr.lt {w : World} {p : Nat} {v : Value} {l : List Nat} (h : Wr w p v l) : p < w.heap.size := blk_lt h.1.1
theorem Wr.own {w : World} {p : Nat} {v : Value} {l : List Nat} (h : Wr w p v l) (k : Nat) (hk : v.ownBlock = some k) : p < k ∧ k < w.heap.size := by
  have := h.1.2.lt k hk
  omega
theorem FrW.below {a b : World} {p : Nat} {v v' : Value} {l : List Nat} (h : Fr a b p v v') (hW : Wr a p v l) {B : Nat} (hB : B ≤ p) : Below B a b :=
  (h.below (Nat.le_of_lt (Wr.lt hW)) (fun k hk => Nat.le_of_lt (Wr.own hW k hk).1)).mono hB
theorem FrQ.below {a b : World} {q : Nat} (h : FrQ a b q) {B : Nat} (hB : B ≤ q) (hq : q ≤ a.heap.size) : Below B a b :=
  (h.below hq (fun k hk => by simp [Value.ownBlock] at hk)).mono hB
theorem wr_new (w : World) : Wr (w.alloc (.cells #[.slice none 0 0, .int .i64 0] 28)) w.heap.size (.slice none 0 0) [] :=
  ⟨⟨blk_alloc_at _ _ _ rfl, by unfold World.ownsRow; exact ⟨rfl, .inl ⟨rfl, rfl⟩⟩⟩, fun b hb => by cases hb⟩
set_option maxHeartbeats 4000000 in
theorem awake_any (w : World) :
    Calls Try.prog 6 #[] w fun e w' => e = .returned (.bool true) ∧ Below w.heap.size w w' := by
  go_enter Try.func6, Try.ntmps6
  have W0 := wr_new w
  have hc1 := put_ok w.heap.size _ [] 5 3 _ W0 (by omega) (by decide) (by simp)
  go_wp2_with fail
  refine hc1.mono ?_
  rintro e w1 ⟨v1, rfl, W1, F1⟩
  have hs1 := F1.size
  simp only [World.size_alloc] at hs1
  have L1 : Below w.heap.size w w1 := ((Below.refl _ _).alloc (Nat.le_refl _) _).trans (FrW.below F1 W0 (Nat.le_refl _))
  rw [List.nil_append, show putL 5 3 = [1, 0, 1] by decide] at W1
  clear hc1 W0 F1
  go_wp2_with fail
  refine (put_bad _ 8 3 _ (by decide)).mono ?_
  rintro e w2 ⟨rfl, b2⟩
  have W2 := Wr.below W1 b2
  have L2 := L1.trans (b2.mono L1.size)
  clear W1 b2 L1 hs1
  have hs2 := L2.size
  have q2 := Wr.lt W2
  go_wp2_with fail
  refine (bytes_any _ _ _ _ W2 (by decide)).mono ?_
  rintro e w3 ⟨v3, rfl, H3, b3⟩
  have W3 := Wr.below W2 b3
  have L3 := L2.trans (b3.mono L2.size)
  have hs3 := b3.size
  rw [show pack [1, 0, 1] = [160] by decide] at H3
  obtain ⟨a3, c3, rfl, h31, h32⟩ := owns_val H3
  have R3 := Reads.of_owns H3
  clear W2 b3 L2 H3
  go_wp2_with fail
  refine (read_any _ _ _ _ _ R3 (by decide)).mono ?_
  rintro e w4 ⟨q, v4, rfl, hq, R4, hr4, b4⟩
  have W4 := Wr.below W3 b4
  have L4 := L3.trans (b4.mono L3.size)
  have hs4 := b4.size
  have hv1 : v1.ownBlock ≠ some q := fun e => by have := (Wr.own W3 q e).2; omega
  have hpq : w.heap.size < q := by have := Wr.lt W3; omega
  have hqz : q < w4.heap.size := blk_lt R4.blk
  clear W3 b4 L3 R3
  go_wp2_with fail
  refine (get_ok q v4 [160] 0 3 _ R4 (by decide) (by decide) (by decide) (by decide)).mono ?_
  rintro e w5 ⟨rfl, R5, f5⟩
  have W5 := Wr.far W4 f5 hpq hv1
  have L5 : Below w.heap.size w w5 := L4.trans (FrQ.below f5 (by omega) (by omega))
  have hs5 := f5.size
  rw [show getV [160] 0 3 = 5 by decide]
  clear W4 f5 L4 R4
  go_wp2_with fail
  refine (rest_any q v4 [160] 3 _ R5 (by decide) (by decide) (by decide)).mono ?_
  rintro e w6 ⟨⟨r6, rfl, hr6⟩, b6⟩
  have hr6' : r6 = 0 := by
    rcases hr6 with ⟨-, h⟩ | ⟨h, -⟩
    · exact h
    · exact absurd (by unfold Noughts; decide) h
  subst hr6'
  have W6 := Wr.below W5 b6
  have R6 := R5.below b6
  have L6 := L5.trans (b6.mono L5.size)
  have hs6 := b6.size
  clear W5 R5 b6 L5 hr6
  go_wp2_with fail
  refine (get_short q v4 [160] 3 6 _ R6 (by decide) (by decide) (by decide) (by decide) (by decide)).mono ?_
  rintro e w7 ⟨rfl, b7⟩
  have W7 := Wr.below W6 b7
  have R7 := R6.below b7
  have L7 := L6.trans (b7.mono L6.size)
  have hs7 := b7.size
  clear W6 R6 b7 L6
  go_wp2_with fail
  refine (get_arg _ 33 _ (by decide)).mono ?_
  rintro e w8 ⟨rfl, b8⟩
  have W8 := Wr.below W7 b8
  have R8 := R7.below b8
  have L8 := L7.trans (b8.mono L7.size)
  have hs8 := b8.size
  clear W7 R7 b8 L7
  go_wp2_with fail
  refine (get_nil 1 _ (by decide) (by decide)).mono ?_
  rintro e w9 ⟨rfl, b9⟩
  have W9 := Wr.below W8 b9
  have R9 := R8.below b9
  have L9 := L8.trans (b9.mono L8.size)
  have hs9 := b9.size
  clear W8 R8 b9 L8
  go_wp2_with fail
  refine (len_any _ _ _ _ W9).mono ?_
  rintro e w10 ⟨rfl, b10⟩
  have W10 := Wr.below W9 b10
  have R10 := R9.below b10
  have L10 := L9.trans (b10.mono L9.size)
  clear W9 R9 b10 L9
  go_wp2_with fail
  refine (bytes_any _ _ _ _ W10 (by decide)).mono ?_
  rintro e w11 ⟨v11, rfl, H11, b11⟩
  rw [show pack [1, 0, 1] = [160] by decide] at H11
  obtain ⟨a11, c11, rfl, h111, h112⟩ := owns_val H11
  have hconv := conv_reads (P := Try.prog) (src := 23) (dst := 9) (cap := c11) Try.underlying23 Try.underlying5 Try.underlying9 (Reads.of_owns H11) (by decide)
  have hbo : bytesOf [160] = ⟨#[160]⟩ := by decide
  rw [hbo] at hconv
  simp only [List.length_cons, List.length_nil, Nat.zero_add, Nat.reduceAdd] at hconv
  have R11 := R10.below b11
  have L11 := L10.trans (b11.mono L10.size)
  clear W10 R10 b11 L10 H11
  go_wp2_with fail
  refine (left_any _ _ _ _ _ R11 (by decide) (by decide)).mono ?_
  rintro e w12 ⟨rfl, b12⟩
  have L12 := L11.trans (b12.mono L11.size)
  clear R11 b12 L11
  go_wp2_with fail
  refine (put_nil 0 1 _).mono ?_
  rintro e w13 ⟨rfl, b13⟩
  have L13 := L12.trans (b13.mono L12.size)
  clear b13 L12
  go_wp2_with fail
  refine (len_nil _).mono ?_
  rintro e w14 ⟨rfl, b14⟩
  have L14 := L13.trans (b14.mono L13.size)
  clear b14 L13
  go_wp2_with fail
  refine (rest_nil _).mono ?_
  rintro e w15 ⟨rfl, b15⟩
  have L15 := L14.trans (b15.mono L14.size)
  clear b15 L14
  go_wp2_with fail
  go_ret
  exact ⟨rfl, L15⟩
end Go.Proofs.Ytgkcmnconogonaa.BitE

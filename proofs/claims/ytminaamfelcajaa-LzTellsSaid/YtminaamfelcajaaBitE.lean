/-
  What the document fixes of bits.
-/
import Derived.Test.YtminaamfelcajaaBitD
namespace Go.Proofs.Ytminaamfelcajaa.BitE
open Go.RowKit Rd Go.Proofs.Ytminaamfelcajaa.Row OctA BitA BitB BitC BitD
set_option linter.unusedVariables false
set_option linter.unusedSimpArgs false
set_option maxRecDepth 100000
theorem Wr.keep {w w' : World} {p : Nat} {v : Value} {l : List Nat} (h : Wr w p v l) (hp : w'.heap[p]? = w.heap[p]?) (hv : ∀ k, v.ownBlock = some k → w'.heap[k]? = w.heap[k]?) : Wr w' p v l :=
  ⟨⟨hp.trans h.1.1, keep_own h.1.2 hv⟩, h.2⟩
theorem Wr.below {w w' : World} {p : Nat} {v : Value} {l : List Nat} (h : Wr w p v l) (hb : Below w.heap.size w w') : Wr w' p v l :=
  Wr.keep h (hb.block _ (blk_lt h.1.1)) (fun k hk => hb.block k (h.1.2.lt k hk).2)
theorem Wr.far {w w' : World} {p q : Nat} {v : Value} {l : List Nat} (h : Wr w p v l) (hf : FrQ w w' q) (hq : p < q) (hv : v.ownBlock ≠ some q) : Wr w' p v l :=
  Wr.keep h (hf.block _ (blk_lt h.1.1) (by omega) (by simp [Value.ownBlock])) (fun k hk => hf.block k (h.1.2.lt k hk).2 (fun e => hv (by rw [hk, e])) (by simp [Value.ownBlock]))
theorem Wr.lt {w : World} {p : Nat} {v : Value} {l : List Nat} (h : Wr w p v l) : p < w.heap.size := blk_lt h.1.1
theorem Wr.own {w : World} {p : Nat} {v : Value} {l : List Nat} (h : Wr w p v l) (k : Nat) (hk : v.ownBlock = some k) : p < k ∧ k < w.heap.size := by
  have := h.1.2.lt k hk
  omega
theorem FrW.below {a b : World} {p : Nat} {v v' : Value} {l : List Nat} (h : Fr a b p v v') (hW : Wr a p v l) {B : Nat} (hB : B ≤ p) : Below B a b :=
  (h.below (Nat.le_of_lt (Wr.lt hW)) (fun k hk => Nat.le_of_lt (Wr.own hW k hk).1)).mono hB
theorem FrQ.below {a b : World} {q : Nat} (h : FrQ a b q) {B : Nat} (hB : B ≤ q) (hq : q ≤ a.heap.size) : Below B a b :=
  (h.below hq (fun k hk => by simp [Value.ownBlock] at hk)).mono hB
theorem wr_new (w : World) : Wr (w.alloc (.cells #[.slice none 0 0, .int .i64 0] 39)) w.heap.size (.slice none 0 0) [] :=
  ⟨⟨blk_alloc_at _ _ _ rfl, by unfold World.ownsRow; exact ⟨rfl, .inl ⟨rfl, rfl⟩⟩⟩, fun b hb => by cases hb⟩
end Go.Proofs.Ytminaamfelcajaa.BitE

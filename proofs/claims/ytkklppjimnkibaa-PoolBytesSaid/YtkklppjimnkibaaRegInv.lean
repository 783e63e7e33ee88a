/-
  A region by an invariant over what is listed, the frame and the world: each ready operation keeps it.
-/
import Derived.Test.YtkklppjimnkibaaReg
namespace Go.Proofs.Ytkklppjimnkibaa.RegInv
open Go.RowKit Reg
set_option linter.unusedVariables false
set_option linter.unusedSimpArgs false
section
variable {P : Program} {ops : Array Oper} {md : Region.Mode}

/-- the numbers that are not yet listed -/
def unl (n : Nat) (listed : Array Bool) : List Nat := (List.range n).filter fun j => !listed.getD j true

theorem unl_set {n i : Nat} {listed : Array Bool} (h : listed.getD i true = false) (hi : i < n) : (unl n (listed.setIfInBounds i true)).length < (unl n listed).length := by
  have e : unl n (listed.setIfInBounds i true) = (unl n listed).filter fun j => decide (j ≠ i) := by
    unfold unl
    rw [List.filter_filter]
    refine List.filter_congr fun j hj => ?_
    by_cases hji : i = j
    · subst hji
      by_cases hs : i < listed.size <;> simp [Array.getD, hs]
    · rw [getD_set_ne true hji]
      simp [Ne.symm hji]
  rw [e]
  exact List.length_filter_lt_length_iff_exists.2 ⟨i, by simp only [unl, List.mem_filter, List.mem_range]; exact ⟨hi, by rw [h]; rfl⟩, by simp⟩

theorem wpAny_inv {Q : Exit → Act → World → Prop} (I : Array Bool → Act → World → Prop)
    (hend : ∀ listed a w, I listed a w → Region.ready md ops listed = [] → Q .normal a w)
    (hstep : ∀ listed a w i, I listed a w → i ∈ Region.ready md ops listed → wpOp P ops Q i (I (listed.setIfInBounds i true)) a w) :
    ∀ (f : Nat) (listed : Array Bool) (a : Act) (w : World), (unl ops.size listed).length ≤ f → I listed a w → wpAny P md ops Q f listed a w
  | 0, listed, a, w, hf, h => by
    have h0 : Region.ready md ops listed = [] := by
      refine List.eq_nil_iff_forall_not_mem.2 fun i hi => ?_
      obtain ⟨hun, oi, hoi, -⟩ := mem_ready.1 hi
      have hlt : i < ops.size := by
        rcases Nat.lt_or_ge i ops.size with h | h
        · exact h
        · rw [Array.getElem?_eq_none h] at hoi; cases hoi
      have := unl_set hun hlt
      omega
    exact ⟨h0, hend _ _ _ h h0⟩
  | f + 1, listed, a, w, hf, h => by
    refine ⟨fun h0 => hend _ _ _ h h0, fun i hi => ?_⟩
    obtain ⟨hun, oi, hoi, -⟩ := mem_ready.1 hi
    have hlt : i < ops.size := by
      rcases Nat.lt_or_ge i ops.size with h | h
      · exact h
      · rw [Array.getElem?_eq_none h] at hoi; cases hoi
    have hd := unl_set hun hlt
    exact wpOp_mono (fun a' w' h' => wpAny_inv I hend hstep f _ a' w' (by omega) h') (hstep _ _ _ i h hi)

theorem region_inv {id : Nat} {Q : Exit → Act → World → Prop} {a : Act} {w : World} {l : List Oper} (hm : P.follows .mixedOrders = true) (I : Array Bool → Act → World → Prop)
    (h0 : I (Array.replicate l.toArray.size false) a w.drew)
    (hend : ∀ listed a w, I listed a w → Region.ready .any l.toArray listed = [] → Q .normal a w)
    (hstep : ∀ listed a w i, I listed a w → i ∈ Region.ready .any l.toArray listed → wpOp P l.toArray Q i (I (listed.setIfInBounds i true)) a w) :
    (Code.region id l.toArray true).wp P Q a w := by
  refine wp_region_any hm (wpAny_inv I hend hstep _ _ _ _ ?_ h0)
  refine Nat.le_trans (List.length_filter_le _ _) ?_
  simp
end
end Go.Proofs.Ytkklppjimnkibaa.RegInv

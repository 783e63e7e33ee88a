/-
  A great region whose text is one of its orders: looked at row by row, a few at a time.
-/
import Derived.Still
import Derived.Deep.Quiet
namespace Go.Proofs.Ytdjiblgnealmkaa.Lex
open Go
set_option linter.unusedVariables false
set_option linter.unusedSimpArgs false
def lateB (md : Region.Mode) (ops : Array Oper) (k : Nat) : Bool := match ops[k]? with
  | some o => o.after.all fun e => !Region.binds md e || decide (e.on < k)
  | none => false
def freeB (md : Region.Mode) (ops : Array Oper) (k : Nat) : Bool := match ops[k]? with
  | none => false
  | some oi => (List.range ops.size).all fun j => decide (j ≤ k) || match ops[j]? with
      | some oj => oj.after.any (fun e => Region.binds md e && e.on == k) || oi.apart ops oj
      | none => true
def rowB (md : Region.Mode) (ops : Array Oper) (k : Nat) : Bool := lateB md ops k && freeB md ops k
def chunkB (md : Region.Mode) (ops : Array Oper) (a m : Nat) : Bool := (List.range m).all fun i => decide (ops.size ≤ a + i) || rowB md ops (a + i)
def Upto (md : Region.Mode) (ops : Array Oper) (a : Nat) : Prop := ∀ k, k < a → k < ops.size → rowB md ops k = true
theorem upto_zero (md : Region.Mode) (ops : Array Oper) : Upto md ops 0 := fun k h => absurd h (by omega)
theorem upto_more {md : Region.Mode} {ops : Array Oper} {a : Nat} (m : Nat) (h : Upto md ops a) (hc : chunkB md ops a m = true) : Upto md ops (a + m) := fun k hk hn => by
  by_cases hka : k < a
  · exact h k hka hn
  · have h1 := List.all_eq_true.1 hc (k - a) (List.mem_range.2 (by omega))
    rw [show a + (k - a) = k by omega] at h1
    simp only [Bool.or_eq_true, decide_eq_true_eq] at h1
    rcases h1 with h1 | h1
    · omega
    · exact h1
theorem lexFrom_of {md : Region.Mode} {ops : Array Oper} (h : Upto md ops ops.size) : ∀ (fuel k : Nat) (listed : Array Bool), fuel + k = ops.size → listed.size = ops.size → (∀ j, j < ops.size → ∀ d, listed.getD j d = decide (j < k)) → Region.lexFrom md ops fuel k listed = true
  | 0, k, listed, hk, hl, hd => by
    simp only [Region.lexFrom, Region.ready, List.isEmpty_iff, List.filter_eq_nil_iff, List.mem_range]
    intro i hi
    rw [hd i hi true, decide_eq_true (by omega)]
    simp
  | fuel + 1, k, listed, hk, hl, hd => by
    have hkn : k < ops.size := by omega
    have hr := h k hkn hkn
    unfold rowB at hr
    rw [Bool.and_eq_true] at hr
    obtain ⟨h1, h2⟩ := hr
    have ho : ops[k]? = some ops[k] := Array.getElem?_eq_getElem hkn
    unfold lateB at h1
    unfold freeB at h2
    rw [ho] at h1 h2
    simp only at h1 h2
    simp only [Region.lexFrom, Bool.and_eq_true]
    refine ⟨⟨?_, ?_⟩, lexFrom_of h fuel (k + 1) _ (by omega) (by simpa using hl) fun j hj d => ?_⟩
    · rw [List.contains_iff_mem]
      simp only [Region.ready, List.mem_filter, List.mem_range]
      refine ⟨hkn, ?_⟩
      rw [hd k hkn true, decide_eq_false (by omega), ho]
      simp only [Bool.not_false, Bool.true_and, Option.map_some, Option.getD_some]
      rw [Array.all_eq_true_iff_forall_mem] at h1 ⊢
      intro e he
      have h3 := h1 e he
      rw [Bool.or_eq_true] at h3 ⊢
      rcases h3 with h3 | h3
      · exact .inl h3
      · right
        have h4 := of_decide_eq_true h3
        rw [hd e.on (by omega) false]
        exact h3
    · unfold Region.free
      rw [ho]
      simp only
      rw [List.all_eq_true] at h2 ⊢
      intro j hj
      have h3 := h2 j hj
      rw [List.mem_range] at hj
      rw [hd j hj true]
      by_cases hjk : j < k
      · rw [decide_eq_true hjk]
        simp
      · by_cases hjk2 : j = k
        · subst hjk2
          simp
        · rw [decide_eq_false (show ¬ j ≤ k by omega), Bool.false_or] at h3
          rw [Bool.or_eq_true]
          exact .inr h3
    · have hj' : j < listed.size := by omega
      rw [Array.getD_eq_getD_getElem?, Array.getElem?_setIfInBounds]
      by_cases e : k = j
      · subst e
        rw [if_pos rfl, if_pos hj']
        simp
      · rw [if_neg e, ← Array.getD_eq_getD_getElem?, hd j hj d]
        congr 1
        exact propext ⟨fun a => by omega, fun a => by omega⟩
theorem lex_of {md : Region.Mode} {ops : Array Oper} (a : Nat) (hs : Region.noSelect ops = true) (ha : (decide (ops.size ≤ a)) = true) (h : Upto md ops a) : Region.lexB md ops = true := by
  unfold Region.lexB
  rw [hs, Bool.true_and]
  have ha' := of_decide_eq_true ha
  refine lexFrom_of (fun k hk hn => h k (by omega) hn) _ _ _ (by omega) (by simp) fun j hj d => ?_
  rw [decide_eq_false (by omega), Array.getD_eq_getD_getElem?]
  simp [hj]
end Go.Proofs.Ytdjiblgnealmkaa.Lex

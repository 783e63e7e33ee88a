/-
  What stood there before: chains of places, the list of all matches, the best of them (mathematics).
-/
import Derived.Test.YtminaamfelcajaaRd
namespace Go.Proofs.Ytminaamfelcajaa.MaM
set_option linter.unusedVariables false
set_option linter.unusedSimpArgs false

/-! chains -/
/-- the last place ahead of a whose three bytes stand in chain h -/
def lastOf (N : Nat) (H : Nat → Nat) (h : Nat) : Nat → Int
  | 0 => -1
  | a + 1 => if a + 3 ≤ N ∧ H a = h then (a : Int) else lastOf N H h a
variable {N : Nat} {H : Nat → Nat} {h : Nat}
theorem last_succ (a : Nat) : lastOf N H h (a + 1) = if a + 3 ≤ N ∧ H a = h then (a : Int) else lastOf N H h a := rfl
theorem last_bd : ∀ a, -1 ≤ lastOf N H h a ∧ lastOf N H h a < a
  | 0 => ⟨Int.le_refl _, by show (-1 : Int) < 0; omega⟩
  | a + 1 => by
    have ih := last_bd a
    rw [last_succ]
    split <;> constructor <;> omega
theorem last_some : ∀ a i : Nat, lastOf N H h a = i → i < a ∧ i + 3 ≤ N ∧ H i = h ∧ ∀ j, i < j → j < a → ¬ (j + 3 ≤ N ∧ H j = h)
  | 0, i, e => by have : (-1 : Int) = i := e; omega
  | a + 1, i, e => by
    rw [last_succ] at e
    split at e
    · rename_i hp
      obtain rfl : a = i := by omega
      exact ⟨Nat.lt_succ_self _, hp.1, hp.2, fun j h1 h2 => by omega⟩
    · rename_i hp
      obtain ⟨h1, h2, h3, h4⟩ := last_some a i e
      refine ⟨Nat.lt_succ_of_lt h1, h2, h3, fun j h5 h6 => ?_⟩
      rcases Nat.lt_or_ge j a with h7 | h7
      · exact h4 j h5 h7
      · obtain rfl : j = a := by omega
        exact hp
theorem last_none : ∀ a : Nat, lastOf N H h a = -1 → ∀ j, j < a → ¬ (j + 3 ≤ N ∧ H j = h)
  | 0, _, j, hj => by omega
  | a + 1, e, j, hj => by
    rw [last_succ] at e
    split at e
    · omega
    · rename_i hp
      rcases Nat.lt_or_ge j a with h7 | h7
      · exact last_none a e j h7
      · obtain rfl : j = a := by omega
        exact hp
/-- what stands ahead of each place -/
def bef (N : Nat) (H : Nat → Nat) (a : Nat) : Int := if a + 3 ≤ N then lastOf N H (H a) a else -1
theorem bef_bd (a : Nat) : -1 ≤ bef N H a ∧ bef N H a < a := by
  unfold bef
  split
  · exact last_bd a
  · constructor <;> omega
/-! all that match -/
def ds (M : Nat → Bool) (k : Nat) : List Nat := ((List.range k).filter fun d => M (d + 1)).map (· + 1)
variable {M : Nat → Bool}
theorem ds_zero : ds M 0 = [] := rfl
theorem ds_succ (k : Nat) : ds M (k + 1) = ds M k ++ if M (k + 1) then [k + 1] else [] := by
  unfold ds
  rw [List.range_succ, List.filter_append, List.map_append]
  congr 1
  by_cases hm : M (k + 1) = true
  · rw [if_pos hm, List.filter_cons_of_pos (by simpa using hm)]; rfl
  · rw [if_neg hm, List.filter_cons_of_neg (by simpa using hm)]; rfl
theorem ds_none {k : Nat} : ∀ {m}, k ≤ m → (∀ d, k < d → d ≤ m → M d = false) → ds M m = ds M k
  | 0, h1, _ => by obtain rfl : k = 0 := by omega
                   rfl
  | m + 1, h1, h2 => by
    rcases Nat.lt_or_ge m k with h3 | h3
    · obtain rfl : k = m + 1 := by omega
      rfl
    · rw [ds_succ, h2 (m + 1) (by omega) (Nat.le_refl _), ds_none h3 fun d h4 h5 => h2 d h4 (by omega)]; simp
theorem ds_pre {k : Nat} : ∀ {m}, k ≤ m → ds M k <+: ds M m
  | 0, h1 => by obtain rfl : k = 0 := by omega
                exact List.prefix_refl _
  | m + 1, h1 => by
    rcases Nat.lt_or_ge m k with h3 | h3
    · obtain rfl : k = m + 1 := by omega
      exact List.prefix_refl _
    · rw [ds_succ]; exact (ds_pre h3).trans (List.prefix_append _ _)
theorem mem_ds {k d : Nat} : d ∈ ds M k ↔ 1 ≤ d ∧ d ≤ k ∧ M d = true := by
  unfold ds
  simp only [List.mem_map, List.mem_filter, List.mem_range]
  constructor
  · rintro ⟨a, ⟨h1, h2⟩, rfl⟩; exact ⟨by omega, by omega, h2⟩
  · rintro ⟨h1, h2, h3⟩
    exact ⟨d - 1, ⟨by omega, by rw [Nat.sub_add_cancel h1]; exact h3⟩, by omega⟩
theorem ds_len (k : Nat) : (ds M k).length ≤ k := by
  unfold ds
  rw [List.length_map]
  exact Nat.le_trans (List.length_filter_le _ _) (by simp)
theorem ds_rise : ∀ k, (ds M k).Pairwise (· < ·)
  | 0 => List.Pairwise.nil
  | k + 1 => by
    rw [ds_succ]
    refine List.pairwise_append.2 ⟨ds_rise k, ?_, ?_⟩
    · split
      · exact List.pairwise_singleton _ _
      · exact List.Pairwise.nil
    · intro a ha b hb
      have := (mem_ds.1 ha).2.1
      split at hb
      · rw [List.mem_singleton] at hb; omega
      · cases hb
/-! how long a match is -/
theorem take_len {p : Nat → Bool} : ∀ (m s n : Nat), n ≤ m → (∀ i, i < n → p (s + i) = true) → (n = m ∨ p (s + n) = false) → ((List.range' s m).takeWhile p).length = n
  | 0, s, n, h1, h2, h3 => by obtain rfl : n = 0 := by omega
                              rfl
  | m + 1, s, 0, h1, h2, h3 => by
    have : p s = false := by rcases h3 with h | h
                             · omega
                             · exact h
    rw [List.range'_succ, List.takeWhile_cons_of_neg (by simp [this])]; rfl
  | m + 1, s, n + 1, h1, h2, h3 => by
    rw [List.range'_succ, List.takeWhile_cons_of_pos (show p s = true from h2 0 (by omega)), List.length_cons]
    rw [take_len m (s + 1) n (by omega) (fun i hi => by rw [show s + 1 + i = s + (i + 1) by omega]; exact h2 (i + 1) (by omega))]
    rw [show s + 1 + n = s + (n + 1) by omega]
    exact h3.imp_left fun h => by omega
def most (l : List Int) (k : Nat) : Nat := min 258 (l.length - k)
def runL (l : List Int) (k d : Nat) : Nat := ((List.range' 0 (most l k)).takeWhile fun i => decide (l.getD (k + i) 0 = l.getD (k - d + i) 0)).length
theorem run_is {l : List Int} {k d n : Nat} (h1 : n ≤ most l k) (h2 : ∀ i, i < n → l.getD (k + i) 0 = l.getD (k - d + i) 0) (h3 : n = most l k ∨ l.getD (k + n) 0 ≠ l.getD (k - d + n) 0) : runL l k d = n :=
  take_len _ 0 n h1 (fun i hi => by rw [Nat.zero_add]; exact decide_eq_true (h2 i hi)) (h3.imp_right fun h => by rw [Nat.zero_add]; exact decide_eq_false h)
theorem run_ex (l : List Int) (k d : Nat) : ∀ m, m ≤ most l k → ∃ n, n ≤ m ∧ (∀ i, i < n → l.getD (k + i) 0 = l.getD (k - d + i) 0) ∧ (n = m ∨ l.getD (k + n) 0 ≠ l.getD (k - d + n) 0)
  | 0, _ => ⟨0, Nat.le_refl _, fun i hi => by omega, .inl rfl⟩
  | m + 1, hm => by
    obtain ⟨n, h1, h2, h3⟩ := run_ex l k d m (by omega)
    rcases h3 with rfl | h3
    · by_cases e : l.getD (k + n) 0 = l.getD (k - d + n) 0
      · exact ⟨n + 1, Nat.le_refl _, fun i hi => by rcases Nat.lt_or_ge i n with h | h
                                                    · exact h2 i h
                                                    · obtain rfl : i = n := by omega
                                                      exact e, .inl rfl⟩
      · exact ⟨n, Nat.le_succ _, h2, .inr e⟩
    · exact ⟨n, by omega, h2, .inr h3⟩
theorem run_spec (l : List Int) (k d : Nat) : runL l k d ≤ most l k ∧ (∀ i, i < runL l k d → l.getD (k + i) 0 = l.getD (k - d + i) 0) ∧ (runL l k d = most l k ∨ l.getD (k + runL l k d) 0 ≠ l.getD (k - d + runL l k d) 0) := by
  obtain ⟨n, h1, h2, h3⟩ := run_ex l k d _ (Nat.le_refl _)
  rw [run_is h1 h2 h3]
  exact ⟨h1, h2, h3⟩
/-- three bytes alike, and there are three -/
def mat (l : List Int) (k d : Nat) : Bool := decide (3 ≤ runL l k d)
theorem mat_iff {l : List Int} {k d : Nat} : mat l k d = true ↔ k + 3 ≤ l.length ∧ l.getD k 0 = l.getD (k - d) 0 ∧ l.getD (k + 1) 0 = l.getD (k - d + 1) 0 ∧ l.getD (k + 2) 0 = l.getD (k - d + 2) 0 := by
  unfold mat
  rw [decide_eq_true_iff]
  obtain ⟨h1, h2, h3⟩ := run_spec l k d
  have hm : most l k = min 258 (l.length - k) := rfl
  constructor
  · intro h
    exact ⟨by omega, h2 0 (by omega), h2 1 (by omega), h2 2 (by omega)⟩
  · rintro ⟨a, b0, b1, b2⟩
    rcases h3 with h3 | h3
    · omega
    · rcases Nat.lt_or_ge (runL l k d) 3 with h | h
      · have : runL l k d = 0 ∨ runL l k d = 1 ∨ runL l k d = 2 := by omega
        rcases this with e | e | e <;> rw [e] at h3
        · exact absurd b0 h3
        · exact absurd b1 h3
        · exact absurd b2 h3
      · exact h
/-- all matches at a place -/
def all (l : List Int) (k : Nat) : List Nat := ds (mat l k) (min 4096 k)
/-- one of them is tried -/
def try1 (l : List Int) (k : Nat) (a : Nat × Nat) (d : Nat) : Nat × Nat := if a.2 < runL l k d then (d, runL l k d) else a
def best (l : List Int) (k : Nat) (L : List Nat) : Nat × Nat := L.foldl (try1 l k) (0, 0)
theorem best_snoc (l : List Int) (k : Nat) (L : List Nat) (d : Nat) : best l k (L ++ [d]) = try1 l k (best l k L) d := by
  unfold best; rw [List.foldl_append]; rfl
theorem fold_full {l : List Int} {k : Nat} : ∀ (L : List Nat) (a : Nat × Nat), most l k ≤ a.2 → L.foldl (try1 l k) a = a
  | [], a, _ => rfl
  | d :: L, a, h => by
    have : try1 l k a d = a := by unfold try1; rw [if_neg (by have := (run_spec l k d).1; omega)]
    rw [List.foldl_cons, this]; exact fold_full L a h
theorem best_full {l : List Int} {k : Nat} {L P : List Nat} (hp : P <+: L) (h : (best l k P).2 = most l k) : best l k L = best l k P := by
  obtain ⟨R, rfl⟩ := hp
  show (P ++ R).foldl _ _ = _
  rw [List.foldl_append]
  exact fold_full R _ (Nat.le_of_eq h.symm)
theorem fold_mem {l : List Int} {k : Nat} : ∀ (L : List Nat) (a : Nat × Nat), L.foldl (try1 l k) a = a ∨ ∃ d ∈ L, L.foldl (try1 l k) a = (d, runL l k d)
  | [], a => .inl rfl
  | d :: L, a => by
    rw [List.foldl_cons]
    rcases fold_mem L (try1 l k a d) with h | ⟨e, h1, h2⟩
    · rw [h]
      unfold try1
      split
      · exact .inr ⟨d, List.mem_cons_self .., rfl⟩
      · exact .inl rfl
    · exact .inr ⟨e, List.mem_cons_of_mem _ h1, h2⟩
theorem fold_ge {l : List Int} {k : Nat} : ∀ (L : List Nat) (a : Nat × Nat), a.2 ≤ (L.foldl (try1 l k) a).2
  | [], a => Nat.le_refl _
  | d :: L, a => by
    rw [List.foldl_cons]
    refine Nat.le_trans ?_ (fold_ge L _)
    unfold try1
    split
    · rename_i h; exact Nat.le_of_lt h
    · exact Nat.le_refl _
theorem fold_max {l : List Int} {k : Nat} : ∀ (L : List Nat) (a : Nat × Nat), ∀ d ∈ L, runL l k d ≤ (L.foldl (try1 l k) a).2
  | e :: L, a, d, hd => by
    rw [List.foldl_cons]
    rcases List.mem_cons.1 hd with rfl | hd
    · refine Nat.le_trans ?_ (fold_ge L _)
      unfold try1
      split
      · exact Nat.le_refl _
      · rename_i h; exact Nat.le_of_not_lt h
    · exact fold_max L _ d hd
theorem best_mem {l : List Int} {k : Nat} {L : List Nat} (h : (best l k L).2 ≠ 0) : ∃ d ∈ L, best l k L = (d, runL l k d) := by
  rcases fold_mem L (0, 0) with e | e
  · exact absurd (congrArg (·.2) e) h
  · exact e
theorem best_none {l : List Int} {k : Nat} {L : List Nat} (hL : ∀ d ∈ L, mat l k d = true) (h : (best l k L).2 = 0) : L = [] ∧ best l k L = (0, 0) := by
  cases L with
  | nil => exact ⟨rfl, rfl⟩
  | cons d L =>
    have h1 := fold_max (l := l) (k := k) (d :: L) (0, 0) d (List.mem_cons_self ..)
    have h2 : 3 ≤ runL l k d := of_decide_eq_true (hL d (List.mem_cons_self ..))
    have : (best l k (d :: L)).2 = 0 := h
    unfold best at this
    omega
theorem all_mat {l : List Int} {k d : Nat} (h : d ∈ all l k) : 1 ≤ d ∧ d ≤ k ∧ d ≤ 4096 ∧ mat l k d = true := by
  obtain ⟨h1, h2, h3⟩ := mem_ds.1 h
  exact ⟨h1, by omega, by omega, h3⟩
/-! the walk down a chain -/
theorem walk_start {l : List Int} {k : Nat} {H : Nat → Nat} (hk : k + 3 ≤ l.length) : bef l.length H k = lastOf l.length H (H k) k := if_pos hk
theorem walk_far {l : List Int} {k : Nat} {H : Nat → Nat} (hk : k + 3 ≤ l.length) (hH : ∀ i j, (∀ t, t < 3 → l.getD (i + t) 0 = l.getD (j + t) 0) → H i = H j) {m i : Nat} (hm : m ≤ k) (hi : lastOf l.length H (H k) m = (i : Int)) : ds (mat l k) (k - i - 1) = ds (mat l k) (k - m) := by
  obtain ⟨h1, h2, h3, h4⟩ := last_some _ _ hi
  refine ds_none (by omega) fun d h5 h6 => ?_
  rw [Bool.eq_false_iff]
  intro hd
  obtain ⟨-, e0, e1, e2⟩ := mat_iff.1 hd
  refine h4 (k - d) (by omega) (by omega) ⟨by omega, (hH _ _ fun t ht => ?_).symm⟩
  have : t = 0 ∨ t = 1 ∨ t = 2 := by omega
  rcases this with rfl | rfl | rfl
  · exact e0
  · exact e1
  · exact e2
theorem walk_end {l : List Int} {k : Nat} {H : Nat → Nat} (hk : k + 3 ≤ l.length) (hH : ∀ i j, (∀ t, t < 3 → l.getD (i + t) 0 = l.getD (j + t) 0) → H i = H j) {m : Nat} (hm : m ≤ k) (hi : lastOf l.length H (H k) m = -1) : ds (mat l k) k = ds (mat l k) (k - m) := by
  refine ds_none (by omega) fun d h5 h6 => ?_
  rw [Bool.eq_false_iff]
  intro hd
  obtain ⟨-, e0, e1, e2⟩ := mat_iff.1 hd
  refine last_none _ hi (k - d) (by omega) ⟨by omega, (hH _ _ fun t ht => ?_).symm⟩
  have : t = 0 ∨ t = 1 ∨ t = 2 := by omega
  rcases this with rfl | rfl | rfl
  · exact e0
  · exact e1
  · exact e2
theorem all_short {l : List Int} {k : Nat} (hk : ¬ k + 3 ≤ l.length) : all l k = [] := by
  have : ds (mat l k) (min 4096 k) = ds (mat l k) 0 := ds_none (Nat.zero_le _) fun d _ _ => by
    rw [Bool.eq_false_iff]
    intro hd
    exact hk (mat_iff.1 hd).1
  exact this
/-! a row that repeats itself -/
def turns (n k : Nat) : List Int := (List.range n).map fun i => ((i % k : Nat) : Int)
theorem turns_len (n k : Nat) : (turns n k).length = n := by simp [turns]
theorem turns_at {n k i : Nat} (hi : i < n) : (turns n k).getD i 0 = ((i % k : Nat) : Int) := by
  unfold turns
  rw [List.getD_eq_getElem?_getD, List.getElem?_map, List.getElem?_range hi]; rfl
theorem turns_mat {n k p d : Nat} (hd : d ≤ p) (hM : mat (turns n k) p d = true) : d % k = 0 := by
  obtain ⟨h1, h2, -, -⟩ := mat_iff.1 hM
  rw [turns_len] at h1
  rw [turns_at (by omega), turns_at (by omega)] at h2
  have h3 : p % k = (p - d) % k := by omega
  have h4 : k ∣ p - (p - d) := by
    have e1 := Nat.div_add_mod p k
    have e2 := Nat.div_add_mod (p - d) k
    refine ⟨p / k - (p - d) / k, ?_⟩
    rw [Nat.mul_sub]
    omega
  rw [show p - (p - d) = d by omega] at h4
  exact Nat.mod_eq_zero_of_dvd h4
theorem turns_none {n k p : Nat} (hk : 1 ≤ k) (h : p < k ∨ n < p + 3) : all (turns n k) p = [] := by
  rcases h with h | h
  · rw [show all (turns n k) p = ds (mat (turns n k) p) (min 4096 p) from rfl, ds_none (Nat.zero_le _) (fun d h1 h2 => ?_)]
    · rfl
    · rw [Bool.eq_false_iff]
      intro hM
      have := turns_mat (by omega) hM
      rw [Nat.mod_eq_of_lt (by omega)] at this
      omega
  · exact all_short (by rw [turns_len]; omega)
theorem turns_some {n k p : Nat} (hk : 1 ≤ k) (hk2 : k ≤ 40) (h1 : k ≤ p) (h2 : p + 3 ≤ n) : best (turns n k) p (all (turns n k) p) = (k, min 258 (n - p)) := by
  have hm : most (turns n k) p = min 258 (n - p) := by unfold most; rw [turns_len]
  have hr : runL (turns n k) p k = min 258 (n - p) := by
    rw [← hm]
    refine run_is (Nat.le_refl _) (fun i hi => ?_) (.inl rfl)
    rw [hm] at hi
    rw [turns_at (by omega), turns_at (by omega)]
    rw [show p + i = p - k + i + k by omega, Nat.add_mod_right]
  have hd : ds (mat (turns n k) p) k = [k] := by
    obtain ⟨j, rfl⟩ : ∃ j, k = j + 1 := ⟨k - 1, by omega⟩
    rw [ds_succ, ds_none (Nat.zero_le j) (fun d h3 h4 => ?_), if_pos (by unfold mat; rw [decide_eq_true_iff, hr]; omega)]
    · rfl
    · rw [Bool.eq_false_iff]
      intro hM
      have := turns_mat (by omega) hM
      rw [Nat.mod_eq_of_lt (by omega)] at this
      omega
  have hb : best (turns n k) p [k] = (k, min 258 (n - p)) := by
    show try1 _ _ (0, 0) k = _
    unfold try1
    rw [hr, if_pos (by show 0 < _; omega)]
  have hp : [k] <+: all (turns n k) p := by rw [← hd]; exact ds_pre (by omega)
  rw [best_full hp (by rw [hb, hm]), hb]
/-- what the best one is -/
theorem best_is {l : List Int} {k : Nat} (h : (best l k (all l k)).2 ≠ 0) : ∃ d m, best l k (all l k) = (d, m) ∧ d ∈ all l k ∧ 1 ≤ d ∧ d ≤ k ∧ 3 ≤ m ∧ m ≤ 258 ∧ k + m ≤ l.length ∧ (∀ i, i < m → l.getD (k + i) 0 = l.getD (k + i - d) 0) ∧ (m = 258 ∨ k + m = l.length ∨ l.getD (k + m) 0 ≠ l.getD (k + m - d) 0) := by
  obtain ⟨d, hd, e⟩ := best_mem h
  obtain ⟨h1, h2, h3, h4⟩ := all_mat hd
  obtain ⟨r1, r2, r3⟩ := run_spec l k d
  have h5 : 3 ≤ runL l k d := of_decide_eq_true h4
  have hm : most l k = min 258 (l.length - k) := rfl
  refine ⟨d, _, e, hd, h1, h2, h5, by omega, by omega, fun i hi => ?_, ?_⟩
  · rw [r2 i hi]; congr 1; omega
  · rcases r3 with r3 | r3
    · omega
    · right; right
      rw [show k + runL l k d - d = k - d + runL l k d by omega]
      exact r3
end Go.Proofs.Ytminaamfelcajaa.MaM

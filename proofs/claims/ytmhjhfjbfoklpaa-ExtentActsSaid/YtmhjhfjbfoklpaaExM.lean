/-
  The free runs of a row (mathematics).
-/
import Derived.Test.YtmhjhfjbfoklpaaRd
namespace Go.Proofs.Ytmhjhfjbfoklpaa.ExM
set_option linter.unusedVariables false
set_option linter.unusedSimpArgs false
def b_ (bs : List Bool) (i : Nat) : Bool := bs.getD i false
/-- runs: behind `run` free ones, that end at `at_` -/
def scan : List Bool → Nat → Nat → List (Nat × Nat)
  | [], a, n => if n = 0 then [] else [(a - n, n)]
  | true :: r, a, n => (if n = 0 then [] else [(a - n, n)]) ++ scan r (a + 1) 0
  | false :: r, a, n => scan r (a + 1) (n + 1)
def runs (bs : List Bool) : List (Nat × Nat) := scan bs 0 0
def from_ (bs : List Bool) (s n : Nat) : List (Nat × Nat) := scan (bs.drop s) s n
theorem runs_from (bs : List Bool) : runs bs = from_ bs 0 0 := rfl
theorem from_end {bs : List Bool} {s n : Nat} (h : bs.length ≤ s) : from_ bs s n = if n = 0 then [] else [(s - n, n)] := by
  unfold from_; rw [List.drop_of_length_le h]; rfl
theorem from_true {bs : List Bool} {s n : Nat} (h : s < bs.length) (hb : b_ bs s = true) : from_ bs s n = (if n = 0 then [] else [(s - n, n)]) ++ from_ bs (s + 1) 0 := by
  unfold from_
  rw [List.drop_eq_getElem_cons h]
  have : bs[s] = true := by simpa [b_, List.getD, h] using hb
  rw [this]; rfl
theorem from_false {bs : List Bool} {s n : Nat} (h : s < bs.length) (hb : b_ bs s = false) : from_ bs s n = from_ bs (s + 1) (n + 1) := by
  unfold from_
  rw [List.drop_eq_getElem_cons h]
  have : bs[s] = false := by simpa [b_, List.getD, h] using hb
  rw [this]; rfl
theorem skip_false {bs : List Bool} {e : Nat} (he : e ≤ bs.length) : ∀ (d s n : Nat), s + d = e → (∀ j, s ≤ j → j < e → b_ bs j = false) → from_ bs s n = from_ bs e (n + d)
  | 0, s, n, hs, _ => by rw [show s = e by omega]; rfl
  | d + 1, s, n, hs, h => by
    rw [from_false (by omega) (h s (Nat.le_refl _) (by omega)), skip_false he d (s + 1) (n + 1) (by omega) (fun j h1 h2 => h j (by omega) h2)]
    rw [show n + 1 + d = n + (d + 1) by omega]
theorem skip_true {bs : List Bool} {e : Nat} (he : e ≤ bs.length) : ∀ (d s : Nat), s + d = e → (∀ j, s ≤ j → j < e → b_ bs j = true) → from_ bs s 0 = from_ bs e 0
  | 0, s, hs, _ => by rw [show s = e by omega]
  | d + 1, s, hs, h => by
    rw [from_true (by omega) (h s (Nat.le_refl _) (by omega)), if_pos rfl, List.nil_append, skip_true he d (s + 1) (by omega) (fun j h1 h2 => h j (by omega) h2)]
theorem flush {bs : List Bool} {e n : Nat} (hn : 0 < n) (h : e < bs.length → b_ bs e = true) : from_ bs e n = (e - n, n) :: from_ bs e 0 := by
  rcases Nat.lt_or_ge e bs.length with h1 | h1
  · rw [from_true h1 (h h1), from_true h1 (h h1), if_neg (by omega), if_pos rfl]; rfl
  · rw [from_end h1, from_end h1, if_neg (by omega), if_pos rfl]
/-- where those end that are as the one at s -/
structure End (bs : List Bool) (s e : Nat) : Prop where
  lt : s < e
  le : e ≤ bs.length
  same : ∀ j, s ≤ j → j < e → b_ bs j = b_ bs s
  stop : e < bs.length → b_ bs e ≠ b_ bs s
theorem end_true {bs : List Bool} {s e : Nat} (h : End bs s e) (hb : b_ bs s = true) : from_ bs s 0 = from_ bs e 0 :=
  skip_true h.le (e - s) s (by have := h.lt; omega) fun j h1 h2 => (h.same j h1 h2).trans hb
theorem end_false {bs : List Bool} {s e : Nat} (h : End bs s e) (hb : b_ bs s = false) : from_ bs s 0 = (s, e - s) :: from_ bs e 0 := by
  have hl := h.lt
  rw [skip_false h.le (e - s) s 0 (by omega) fun j h1 h2 => (h.same j h1 h2).trans hb, Nat.zero_add, flush (by omega) fun h1 => ?_]
  · rw [show e - (e - s) = s by omega]
  · have := h.stop h1
    rw [hb] at this
    simpa using this
/-- what the runs are -/
structure Good (bs : List Bool) (lo : Nat) (l : List (Nat × Nat)) : Prop where
  sound : ∀ p ∈ l, lo ≤ p.1 ∧ 1 ≤ p.2 ∧ p.1 + p.2 ≤ bs.length ∧ (∀ i, p.1 ≤ i → i < p.1 + p.2 → b_ bs i = false) ∧ (p.1 + p.2 < bs.length → b_ bs (p.1 + p.2) = true)
  cover : ∀ i, lo ≤ i → i < bs.length → b_ bs i = false → ∃ p ∈ l, p.1 ≤ i ∧ i < p.1 + p.2
  apart : l.Pairwise fun p q => p.1 + p.2 < q.1
theorem good_from {bs : List Bool} : ∀ (d s n : Nat), s + d = bs.length → n ≤ s → (∀ i, s - n ≤ i → i < s → b_ bs i = false) → Good bs (s - n) (from_ bs s n)
  | 0, s, n, hs, hn, hz => by
    rw [from_end (by omega)]
    by_cases h0 : n = 0
    · subst h0
      rw [if_pos rfl]
      exact ⟨fun p hp => (by cases hp), fun i h1 h2 _ => absurd h2 (by omega), List.Pairwise.nil⟩
    · rw [if_neg h0]
      refine ⟨fun p hp => ?_, fun i h1 h2 _ => ⟨_, List.mem_singleton.2 rfl, h1, by show i < s - n + n; omega⟩, List.pairwise_singleton _ _⟩
      rw [List.mem_singleton.1 hp]
      exact ⟨Nat.le_refl _, by omega, by show s - n + n ≤ _; omega, fun i h1 h2 => hz i h1 (by have h2' : i < s - n + n := h2; omega), fun h => absurd h (by show ¬ (s - n + n < _); omega)⟩
  | d + 1, s, n, hs, hn, hz => by
    cases hb : b_ bs s with
    | false =>
      rw [from_false (by omega) hb]
      have := good_from (bs := bs) d (s + 1) (n + 1) (by omega) (by omega) (fun i h1 h2 => by
        by_cases e : i = s
        · rw [e]; exact hb
        · exact hz i (by omega) (by omega))
      rw [show s + 1 - (n + 1) = s - n by omega] at this
      exact this
    | true =>
      rw [from_true (by omega) hb]
      have ih := good_from (bs := bs) d (s + 1) 0 (by omega) (by omega) (fun i h1 h2 => absurd h2 (by omega))
      rw [show s + 1 - 0 = s + 1 by omega] at ih
      by_cases h0 : n = 0
      · rw [if_pos h0, List.nil_append]
        refine ⟨fun p hp => ⟨by have := (ih.sound p hp).1; omega, (ih.sound p hp).2⟩, fun i h1 h2 h3 => ih.cover i ?_ h2 h3, ih.apart⟩
        by_cases e : i = s
        · rw [e, hb] at h3; cases h3
        · omega
      · rw [if_neg h0, List.singleton_append]
        refine ⟨fun p hp => ?_, fun i h1 h2 h3 => ?_, List.pairwise_cons.2 ⟨fun q hq => ?_, ih.apart⟩⟩
        · rcases List.mem_cons.1 hp with e | hp
          · subst e
            exact ⟨Nat.le_refl _, by show 1 ≤ n; omega, by show s - n + n ≤ _; omega, fun i h1 h2 => hz i h1 (by have h2' : i < s - n + n := h2; omega), fun h => by show b_ bs (s - n + n) = true; rw [show s - n + n = s by omega]; exact hb⟩
          · exact ⟨by have := (ih.sound p hp).1; omega, (ih.sound p hp).2⟩
        · by_cases hi : i < s
          · exact ⟨_, List.mem_cons_self, h1, by show i < s - n + n; omega⟩
          · by_cases e : i = s
            · rw [e, hb] at h3; cases h3
            · obtain ⟨p, hp, h4⟩ := ih.cover i (by omega) h2 h3
              exact ⟨p, List.mem_cons_of_mem _ hp, h4⟩
        · have := (ih.sound q hq).1
          show s - n + n < q.1
          omega
theorem good_runs (bs : List Bool) : Good bs 0 (runs bs) := by
  have := good_from (bs := bs) bs.length 0 0 (by omega) (by omega) (fun i h1 h2 => absurd h2 (by omega))
  exact this
theorem runs_full {bs : List Bool} (h : ∀ i, i < bs.length → b_ bs i = true) : runs bs = [] := by
  rw [runs_from, skip_true (Nat.le_refl _) bs.length 0 (by omega) (fun j _ h2 => h j h2), from_end (Nat.le_refl _), if_pos rfl]
theorem good_len : ∀ {l : List (Nat × Nat)} {bs : List Bool} {lo : Nat}, Good bs lo l → lo ≤ bs.length → l.length + lo ≤ bs.length
  | [], bs, lo, h, hl => by simpa using hl
  | p :: l, bs, lo, h, hl => by
    have h1 := h.sound p List.mem_cons_self
    have h2 := List.pairwise_cons.1 h.apart
    have : Good bs (p.1 + p.2) l := ⟨fun q hq => ⟨Nat.le_of_lt (h2.1 q hq), (h.sound q (List.mem_cons_of_mem _ hq)).2⟩, fun i a b c => by
      obtain ⟨q, hq, h3⟩ := h.cover i (by omega) b c
      rcases List.mem_cons.1 hq with e | hq
      · subst e; omega
      · exact ⟨q, hq, h3⟩, h2.2⟩
    have := good_len this h1.2.2.1
    simp only [List.length_cons]
    omega
theorem runs_len (bs : List Bool) : (runs bs).length ≤ bs.length := good_len (good_runs bs) (Nat.zero_le _)
/-- marking -/
def mk (bs : List Bool) (s : Nat) (v : Bool) : Nat → List Bool
  | 0 => bs
  | n + 1 => (mk bs s v n).set (s + n) v
theorem mk_len (bs : List Bool) (s : Nat) (v : Bool) : ∀ n, (mk bs s v n).length = bs.length
  | 0 => rfl
  | n + 1 => by unfold mk; rw [List.length_set, mk_len bs s v n]
theorem b_set {bs : List Bool} {i j : Nat} {v : Bool} (h : i < bs.length) : b_ (bs.set i v) j = if j = i then v else b_ bs j := by
  unfold b_
  by_cases e : j = i
  · subst e
    rw [if_pos rfl, List.getD_eq_getElem?_getD, List.getElem?_set_self h]; rfl
  · rw [if_neg e, List.getD_eq_getElem?_getD, List.getElem?_set_ne (Ne.symm e), ← List.getD_eq_getElem?_getD]
theorem mk_at (bs : List Bool) (s : Nat) (v : Bool) : ∀ n, s + n ≤ bs.length → ∀ i, b_ (mk bs s v n) i = if s ≤ i ∧ i < s + n then v else b_ bs i
  | 0, _, i => by rw [if_neg (by omega)]; rfl
  | n + 1, h, i => by
    unfold mk
    rw [b_set (by rw [mk_len]; omega), mk_at bs s v n (by omega) i]
    by_cases e : i = s + n
    · rw [if_pos e, if_pos (by omega)]
    · rw [if_neg e]
      by_cases e2 : s ≤ i ∧ i < s + n
      · rw [if_pos e2, if_pos (by omega)]
      · rw [if_neg e2, if_neg (by omega)]
/-- are they all v? -/
def allB (bs : List Bool) (s n : Nat) (v : Bool) : Bool := (List.range n).all fun i => b_ bs (s + i) == v
theorem allB_iff {bs : List Bool} {s n : Nat} {v : Bool} : allB bs s n v = true ↔ ∀ i, s ≤ i → i < s + n → b_ bs i = v := by
  unfold allB
  rw [List.all_eq_true]
  constructor
  · intro h i h1 h2
    have := h (i - s) (List.mem_range.2 (by omega))
    rw [show s + (i - s) = i by omega] at this
    simpa using this
  · intro h i hi
    have := List.mem_range.1 hi
    simpa using h (s + i) (by omega) (by omega)
def fitB (bs : List Bool) (a n : Nat) : Bool := decide (1 ≤ n ∧ a + n ≤ bs.length) && allB bs a n false
theorem fit_iff {bs : List Bool} {a n : Nat} : fitB bs a n = true ↔ 1 ≤ n ∧ a + n ≤ bs.length ∧ ∀ i, a ≤ i → i < a + n → b_ bs i = false := by
  unfold fitB
  rw [Bool.and_eq_true, allB_iff, decide_eq_true_iff]
  exact ⟨fun ⟨⟨a, b⟩, c⟩ => ⟨a, b, c⟩, fun ⟨a, b, c⟩ => ⟨⟨a, b⟩, c⟩⟩
/-- the first run that is long enough -/
def first (bs : List Bool) (n : Nat) : Option Nat := ((runs bs).find? fun p => decide (n ≤ p.2)).map (·.1)
theorem first_some {bs : List Bool} {n a : Nat} (hn : 1 ≤ n) (h : first bs n = some a) : fitB bs a n = true ∧ ∀ j, j < a → fitB bs j n = false := by
  unfold first at h
  obtain ⟨p, hp, rfl⟩ := Option.map_eq_some_iff.1 h
  have hG := good_runs bs
  obtain ⟨hd, pre, post, e, hno⟩ := List.find?_eq_some_iff_append.1 hp
  have hpm : p ∈ runs bs := by rw [e]; simp
  obtain ⟨-, s1, s2, s3, s4⟩ := hG.sound p hpm
  have hpn : n ≤ p.2 := of_decide_eq_true hd
  refine ⟨fit_iff.2 ⟨hn, by omega, fun i h1 h2 => s3 i h1 (by omega)⟩, fun j hj => ?_⟩
  cases hf : fitB bs j n with
  | false => rfl
  | true =>
    exfalso
    obtain ⟨-, f2, f3⟩ := fit_iff.1 hf
    obtain ⟨q, hq, q1, q2⟩ := hG.cover j (Nat.zero_le _) (by omega) (f3 j (Nat.le_refl _) (by omega))
    obtain ⟨-, t1, t2, t3, t4⟩ := hG.sound q hq
    have hqn : n ≤ q.2 := by
      by_cases h9 : q.1 + q.2 < j + n
      · have := t4 (by omega)
        rw [f3 (q.1 + q.2) (by omega) h9] at this
        cases this
      · omega
    rw [e] at hq
    have hpw := hG.apart
    rw [e] at hpw
    rcases List.mem_append.1 hq with h1 | h1
    · have := hno q h1
      simp [hqn] at this
    · rcases List.mem_cons.1 h1 with h1 | h1
      · subst h1; omega
      · have := (List.pairwise_cons.1 (List.pairwise_append.1 hpw).2.1).1 q h1
        omega
theorem first_none {bs : List Bool} {n : Nat} (hn : 1 ≤ n) (h : first bs n = none) : ∀ j, fitB bs j n = false := by
  intro j
  cases hf : fitB bs j n with
  | false => rfl
  | true =>
    exfalso
    unfold first at h
    have h' := Option.map_eq_none_iff.1 h
    have hG := good_runs bs
    obtain ⟨-, f2, f3⟩ := fit_iff.1 hf
    obtain ⟨q, hq, q1, q2⟩ := hG.cover j (Nat.zero_le _) (by omega) (f3 j (Nat.le_refl _) (by omega))
    obtain ⟨-, t1, t2, t3, t4⟩ := hG.sound q hq
    have hqn : n ≤ q.2 := by
      by_cases h9 : q.1 + q.2 < j + n
      · have := t4 (by omega)
        rw [f3 (q.1 + q.2) (by omega) h9] at this
        cases this
      · omega
    have := List.find?_eq_none.1 h' q hq
    simp [hqn] at this
def sumL (l : List (Nat × Nat)) : Nat := (l.map (·.2)).sum
end Go.Proofs.Ytmhjhfjbfoklpaa.ExM

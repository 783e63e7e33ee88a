/-
  DirApart: the mathematics; pages of the document by number.
-/
import Derived.Test.YtpjbacpchmemeaaDiOr
namespace Go.Proofs.Ytpjbacpchmemeaa.DiAq
open Go.RowKit Go.Shelf Rd Go.Proofs.Ytpjbacpchmemeaa.Row Mid PgM PgA PgB PgC PgN DiM DiA DiC DiD DiE DiF DiJ DiK DiL DiN DiO DiQ DiU DiV DiW DiX DiZ0 DiOr
open Go.Proofs.Ytpjbacpchmemeaa.DiM (at_ at_get ce ce_len ce_app ce_one ce_ones ce_at)
set_option linter.unusedVariables false
set_option linter.unusedSimpArgs false
set_option maxRecDepth 10000
theorem pair_yes {d : Int} {a b : En} (hd : 0 ≤ d ∧ d ≤ 3) (ha : mayP d a) (hb : mayP d b) (hp : a.P ≠ b.P) (h : a.S + secV a.N ≤ b.S ∨ b.S + secV b.N ≤ a.S) : newV d [a, b] = some (srt d [a, b]) := by
  unfold newV
  rw [if_pos]
  refine ⟨hd, fun p hq => ?_, ?_⟩
  · simp at hq
    rcases hq with rfl | rfl
    · exact ha
    · exact hb
  · simp only [List.pairwise_cons, List.mem_singleton, forall_eq, List.not_mem_nil, false_implies, implies_true, List.Pairwise.nil, and_true]
    exact ⟨hp, h⟩
theorem pair_far {d : Int} {a b : En} (h : ¬ (a.S + secV a.N ≤ b.S ∨ b.S + secV b.N ≤ a.S)) : newV d [a, b] = none := by
  unfold newV
  rw [if_neg]
  intro hg
  have := hg.2.2
  simp only [List.pairwise_cons, List.mem_singleton, forall_eq] at this
  exact h this.1.2
theorem pair_low {d : Int} {a b : En} (h : b.S < 2) : newV d [a, b] = none := new_may (p := b) (by simp) (fun hm => by have := hm.2.1; omega)
theorem pair_len (d : Int) (a b : En) : (srt d [a, b]).length = 2 := srt_len d _
/-- one in the place of another -/
theorem pair_with {d : Int} {q u v : En} {r : List En} (hr : r.Perm [u, v]) (hq : q.P = u.P) (hv : q.P ≠ v.P) : newV d ([q] ++ keepP [q] r) = newV d [q, v] := by
  refine newV_perm ?_
  have h1 : (keepP [q] r).Perm (keepP [q] [u, v]) := hr.filter _
  have e1 : hasP [q] u.P = true := by simp [hasP, hq]
  have e2 : hasP [q] v.P = false := by simp [hasP, hv]
  have h2 : keepP [q] [u, v] = [v] := by simp [keepP, e1, e2]
  rw [h2] at h1
  exact List.Perm.append_left [q] h1
theorem pair_swap (d : Int) (a b : En) : (srt d [a, b]).Perm [b, a] := (srt_perm d _).trans (List.Perm.swap _ _ _)
theorem ld_pgs {X : World} {b o : Nat} {row : PgM.Row} (h : PgAt X (some ⟨b, o, none⟩) row) {i : Nat} (hi : i < row.length) {x y z : Int} (e : PgM.at_ row i = [x, y, z]) :
    (loadRow 25 (.pointer (some ⟨b, o + i * 3, none⟩))).run Try.prog X = .ok (pg x y z) X := by
  rcases h.2 with h2 | ⟨b', o', e', _, hc⟩
  · rw [h2] at hi
    cases hi
  · cases e'
    exact run_loadAt_mid (P := Try.prog) X b (o + i * 3) 25 [.int .i64 x, .int .i64 y, .int .i64 z] _ (fun j v hj => by
      have hj4 : j < 3 := (List.getElem?_eq_some_iff.1 hj).1
      rw [hc i hi j hj4, e]
      rcases (show j = 0 ∨ j = 1 ∨ j = 2 by omega) with rfl | rfl | rfl <;> exact hj) Try.underlying25 rfl (by kernel_rfl)
theorem pg_c0 {X : World} {b o : Nat} {row : PgM.Row} (h : PgAt X (some ⟨b, o, none⟩) row) (hi : 0 < row.length) {x y z : Int} (e : PgM.at_ row 0 = [x, y, z]) : X.cell? ⟨b, o, none⟩ = some (.int .i64 x) := by
  rcases h.2 with h2 | ⟨b', o', e', _, hc⟩
  · rw [h2] at hi
    cases hi
  · cases e'
    have := hc 0 hi 0 (by omega)
    rw [e] at this
    simp only [Nat.zero_mul, Nat.add_zero] at this
    exact this
theorem root_at (n : Nat) (hn : n ≤ 3) : PgM.at_ (allV n) 0 = [(n : Int), 0, 0] := by
  rcases n4 hn with rfl | rfl | rfl | rfl <;> decide +kernel
theorem all_lens (n : Nat) (hn : n ≤ 3) : ((allV n).length = 1 ∧ n = 0) ∨ (5 ≤ (allV n).length ∧ (allV n).length ≤ 85) := by
  rcases n4 hn with rfl | rfl | rfl | rfl
  · exact .inl ⟨len0, rfl⟩
  · exact .inr (by have e : (allV ((1 : Nat) : Int)).length = 5 := len1; omega)
  · exact .inr (by have e : (allV ((2 : Nat) : Int)).length = 21 := len2; omega)
  · exact .inr (by have e : (allV ((3 : Nat) : Int)).length = 85 := len3'; omega)
/-- two pages by their numbers -/
theorem two_pages {n i k : Nat} (hn : n ≤ 3) (hi : i < (allV n).length) (hk : k < (allV n).length) (hne : i ≠ k) : ∃ x0 x1 x2 y0 y1 y2 : Int, PgM.at_ (allV n) i = [x0, x1, x2] ∧ PgM.at_ (allV n) k = [y0, y1, y2] ∧ validB n x0 x1 x2 = true ∧ validB n y0 y1 y2 = true ∧ [x0, x1, x2] ≠ [y0, y1, y2] := by
  obtain ⟨x0, x1, x2, e1, e2⟩ := page_key hn hi
  obtain ⟨y0, y1, y2, e3, e4⟩ := page_key hn hk
  refine ⟨x0, x1, x2, y0, y1, y2, e1, e3, key_valid e2, key_valid e4, fun e => hne ?_⟩
  injection e with h1 e
  injection e with h2 e
  injection e with h3 e
  subst h1 h2 h3
  have := e2.symm.trans e4
  omega
theorem sec20 : secV 20 = 1 := by decide
theorem sec_min {m : Int} (h : 1 ≤ m) : secV (min m 20) = 1 := by
  unfold secV
  rw [if_neg (by omega)]
  omega
theorem sec300 {m : Int} (h : 1 ≤ m) (h2 : m ≤ 300) : 1 ≤ secV m ∧ secV m ≤ 10 := by
  unfold secV
  rw [if_neg (by omega)]
  omega
theorem other_ne {n i o : Nat} (hn : 2 ≤ n) (hi : i < n) (ho : o < n - 1) : (i + 1 + o) % n ≠ i := by
  by_cases h : i + 1 + o < n
  · rw [Nat.mod_eq_of_lt h]; omega
  · rw [Nat.mod_eq_sub_mod (by omega), Nat.mod_eq_of_lt (by omega)]; omega
end Go.Proofs.Ytpjbacpchmemeaa.DiAq

/-
  The queue: the mathematics.
-/
import Derived.Test.YtpbdgkjlmijipaaQuN
import Derived.Test.YtpbdgkjlmijipaaPgN
namespace Go.Proofs.Ytpbdgkjlmijipaa.QuO
open Go.RowKit Go.Shelf Rd Go.Proofs.Ytpbdgkjlmijipaa.Row Mid PgM PgA PgB PgC QuA QuB QuC QuD QuE QuF QuG QuH QuI QuN
open PgN (key_inj keyL)
set_option linter.unusedVariables false
set_option linter.unusedSimpArgs false
set_option maxRecDepth 10000
abbrev g3 (x : List Int) : Int := PgM.g x 3
/-- one that may wait -/
structure Wt (d : Nat) (x : List Int) : Prop where
  len : x.length = 4
  ok : validB d (PgM.g x 0) (PgM.g x 1) (PgM.g x 2) = true
  pos : 1 ≤ PgM.g x 3
theorem pgOf_eq {x : List Int} (h : x.length = 4) : pgOf x = [PgM.g x 0, PgM.g x 1, PgM.g x 2] := by
  obtain ⟨a, b, c, d, rfl⟩ := len4 h
  rfl
theorem ah_def (d : Int) (a b : List Int) : aheadB d a b = true ↔ (PgM.g b 3 < PgM.g a 3 ∨ PgM.g a 3 = PgM.g b 3 ∧ keyL d a < keyL d b) := by
  unfold aheadB keyL
  by_cases h : PgM.g a 3 = PgM.g b 3
  · rw [if_pos h]; simp [h]
  · rw [if_neg h]; simp [h]
theorem ah_trans {d : Int} {a b c : List Int} (h1 : aheadB d a b = true) (h2 : aheadB d b c = true) : aheadB d a c = true := by
  rw [ah_def] at *
  omega
theorem ah_asymm {d : Int} {a b : List Int} (h1 : aheadB d a b = true) : aheadB d b a = false := by
  rw [Bool.eq_false_iff]
  intro h2
  rw [ah_def] at *
  omega
theorem ah_irr {d : Int} {a : List Int} : aheadB d a a = false := by
  rw [Bool.eq_false_iff]
  intro h
  rw [ah_def] at h
  omega
theorem key_ne {d : Nat} (hd : d ≤ 3) {a b : List Int} (ha : Wt d a) (hb : Wt d b) (hp : pgOf a ≠ pgOf b) : keyL d a ≠ keyL d b := fun e => by
  obtain ⟨h1, h2, h3⟩ := key_inj hd ha.ok hb.ok e
  exact hp (by rw [pgOf_eq ha.len, pgOf_eq hb.len, h1, h2, h3])
theorem ah_total {d : Nat} (hd : d ≤ 3) {a b : List Int} (ha : Wt d a) (hb : Wt d b) (hp : pgOf a ≠ pgOf b) (h : aheadB d a b = false) : aheadB d b a = true := by
  have := key_ne hd ha hb hp
  rw [Bool.eq_false_iff] at h
  rw [ah_def]
  rw [Ne, ah_def] at h
  omega
/-- a row that waits -/
structure Inv (d : Nat) (r : PgM.Row) : Prop where
  srt : r.Pairwise fun a b => aheadB d a b = true
  pages : r.Pairwise fun a b => pgOf a ≠ pgOf b
  all : ∀ x ∈ r, Wt d x
theorem Inv.nil (d : Nat) : Inv d [] := ⟨.nil, .nil, fun x hx => absurd hx (by simp)⟩
theorem Inv.w4 {d : Nat} {r : PgM.Row} (h : Inv d r) : W4 r := fun v hv => (h.all v hv).len
theorem Inv.sub {d : Nat} {r s : PgM.Row} (h : Inv d r) (hs : s.Sublist r) : Inv d s := ⟨h.srt.sublist hs, h.pages.sublist hs, fun x hx => h.all x (hs.subset hx)⟩
theorem Inv.take {d : Nat} {r : PgM.Row} (h : Inv d r) (k : Nat) : Inv d (r.take k) := h.sub (List.take_sublist _ _)
theorem Inv.tail {d : Nat} {x : List Int} {r : PgM.Row} (h : Inv d (x :: r)) : Inv d r := h.sub (List.sublist_cons_self _ _)
theorem Inv.keep {d : Nat} {r : PgM.Row} (h : Inv d r) (pg : List Int) : Inv d (keepL r pg) := h.sub List.filter_sublist
/-- rows alike, found and left out -/
theorem rest_keep {r : PgM.Row} (h : r.Pairwise fun a b => pgOf a ≠ pgOf b) (pg : List Int) (n : Int) : restV r pg = keepL r pg ∧ numV r pg n = maxN r pg n := by
  induction r with
  | nil => exact ⟨rfl, rfl⟩
  | cons x r ih =>
    have hp := List.pairwise_cons.1 h
    have ih := ih hp.2
    by_cases e : pgOf x = pg
    · have hi : idxP (x :: r) pg = 0 := by unfold idxP; simp [e]
      have hn : ∀ y ∈ r, pgOf y ≠ pg := fun y hy e2 => hp.1 y hy (by rw [e, e2])
      have hk : keepL r pg = r := by
        unfold keepL
        rw [List.filter_eq_self]
        intro y hy
        simp [hn y hy]
      have hm : ∀ m, maxN r pg m = m := by
        intro m
        have : ∀ (s : PgM.Row), (∀ y ∈ s, pgOf y ≠ pg) → s.foldl (fun m y => if pgOf y = pg then max m (PgM.g y 3) else m) m = m := by
          intro s
          induction s with
          | nil => intro _; rfl
          | cons y s ih2 =>
            intro hs
            rw [List.foldl_cons, if_neg (hs y (List.mem_cons_self ..))]
            exact ih2 fun z hz => hs z (List.mem_cons_of_mem _ hz)
        exact this r hn
      constructor
      · unfold restV
        rw [hi, if_pos (by simp)]
        have : keepL (x :: r) pg = keepL r pg := by unfold keepL; simp [e]
        rw [this, hk]
        rfl
      · unfold numV
        rw [hi, if_pos (by simp)]
        show max n (PgM.g x 3) = maxN (x :: r) pg n
        have : maxN (x :: r) pg n = maxN r pg (max n (PgM.g x 3)) := by unfold maxN; rw [List.foldl_cons, if_pos e]
        rw [this, hm]
    · have hi : idxP (x :: r) pg = idxP r pg + 1 := by unfold idxP; simp [e]
      have hm : maxN (x :: r) pg n = maxN r pg n := by unfold maxN; rw [List.foldl_cons, if_neg e]
      have hk : keepL (x :: r) pg = x :: keepL r pg := by unfold keepL; simp [e]
      constructor
      · rw [hk, ← ih.1]
        unfold restV
        rw [hi, List.length_cons]
        by_cases hl : idxP r pg < r.length
        · rw [if_pos hl, if_pos (by omega)]; rfl
        · rw [if_neg hl, if_neg (by omega)]
      · rw [hm, ← ih.2]
        unfold numV
        rw [hi, List.length_cons]
        by_cases hl : idxP r pg < r.length
        · rw [if_pos hl, if_pos (by omega)]; rfl
        · rw [if_neg hl, if_neg (by omega)]
theorem keep_ne {r : PgM.Row} {pg x : List Int} (h : x ∈ keepL r pg) : pgOf x ≠ pg := by
  have := (List.mem_filter.1 h).2
  simpa using this
theorem mem_tw {f : List Int → Bool} : ∀ {l : PgM.Row} {y : List Int}, y ∈ l.takeWhile f → f y = true := by
  intro l
  induction l with
  | nil => intro y hy; exact absurd hy (by simp)
  | cons x l ih =>
    intro y hy
    by_cases hx : f x = true
    · rw [List.takeWhile_cons, if_pos hx] at hy
      rcases List.mem_cons.1 hy with rfl | hy
      · exact hx
      · exact ih hy
    · rw [List.takeWhile_cons, if_neg hx] at hy
      exact absurd hy (by simp)
theorem takeWhile_lt {l : PgM.Row} {f : List Int → Bool} {i : Nat} (h : i < (l.takeWhile f).length) : f (at_ l i) = true := by
  have hl : i < l.length := Nat.lt_of_lt_of_le h (List.takeWhile_prefix f).length_le
  have e : (l.takeWhile f)[i] = l[i] := (List.takeWhile_prefix f).getElem h
  have := mem_tw (List.getElem_mem h)
  rw [at_eq hl, ← e]
  exact this
theorem takeWhile_at {l : PgM.Row} {f : List Int → Bool} (h : (l.takeWhile f).length < l.length) : f (at_ l (l.takeWhile f).length) = false := by
  induction l with
  | nil => simp at h
  | cons x l ih =>
    by_cases hx : f x = true
    · rw [List.takeWhile_cons, if_pos hx] at h ⊢
      simp only [List.length_cons] at h ⊢
      exact ih (by omega)
    · rw [List.takeWhile_cons, if_neg hx]
      show f x = false
      simpa using hx
theorem pair_at {R : List Int → List Int → Prop} {l : PgM.Row} (h : l.Pairwise R) {i j : Nat} (hij : i < j) (hj : j < l.length) : R (at_ l i) (at_ l j) := by
  rw [at_eq (by omega), at_eq hj]
  exact List.pairwise_iff_getElem.1 h i j (by omega) hj hij
/-- both ways lead to one place -/
theorem pos_pos {d : Nat} (hd : d ≤ 3) {l : PgM.Row} (hl : Inv d l) {x : List Int} (hx : Wt d x) (hp : ∀ y ∈ l, pgOf y ≠ pgOf x) : posR d l x = posV d l x := by
  have hpl := pos_le d l x
  refine posR_eq hpl (fun j h1 h2 => ?_) ?_
  · have hy : at_ l j ∈ l := by rw [at_eq h2]; exact List.getElem_mem _
    have hlt : posV d l x < l.length := by omega
    have h0 : aheadB d (at_ l (posV d l x)) x = false := takeWhile_at hlt
    have hz : at_ l (posV d l x) ∈ l := by rw [at_eq hlt]; exact List.getElem_mem _
    have h3 := ah_total hd (hl.all _ hz) hx (hp _ hz) h0
    by_cases e : posV d l x = j
    · rw [← e]; exact h3
    · exact ah_trans h3 (pair_at hl.srt (by omega) h2)
  · by_cases e : posV d l x = 0
    · exact .inl e
    · refine .inr (ah_asymm ?_)
      exact takeWhile_lt (f := fun y => aheadB d y x) (i := posV d l x - 1) (by show posV d l x - 1 < posV d l x; omega)
theorem new_w {d : Nat} {r : PgM.Row} (h : Inv d r) {pg : List Int} (hg : pg.length = 3) (hv : validB d (PgM.g pg 0) (PgM.g pg 1) (PgM.g pg 2) = true) {n : Int} (hn : 1 ≤ n) : Wt d [PgM.g pg 0, PgM.g pg 1, PgM.g pg 2, maxN r pg n] ∧ pgOf [PgM.g pg 0, PgM.g pg 1, PgM.g pg 2, maxN r pg n] = pg := by
  have hm : ∀ (s : PgM.Row) (m : Int), 1 ≤ m → 1 ≤ maxN s pg m := by
    intro s
    induction s with
    | nil => intro m hm; exact hm
    | cons y s ih =>
      intro m hm
      unfold maxN
      rw [List.foldl_cons]
      split
      · exact ih _ (by omega)
      · exact ih _ hm
  refine ⟨⟨rfl, hv, hm r n hn⟩, ?_⟩
  obtain ⟨a, b, c, rfl⟩ := len3 hg
  rfl
theorem all_all {d : Nat} (hd : d ≤ 3) {r : PgM.Row} (h : Inv d r) {pg : List Int} (hg : pg.length = 3) (hv : validB d (PgM.g pg 0) (PgM.g pg 1) (PgM.g pg 2) = true) {n : Int} (hn : 1 ≤ n) : rall d r pg n = allA d r pg n := by
  obtain ⟨e1, e2⟩ := rest_keep h.pages pg n
  obtain ⟨hw, hp⟩ := new_w h hg hv hn
  unfold rall allA insV
  rw [e1, e2, pos_pos hd (h.keep pg) hw (fun y hy => by rw [hp]; exact keep_ne hy)]
theorem all_inv {d : Nat} (hd : d ≤ 3) {r : PgM.Row} (h : Inv d r) {pg : List Int} (hg : pg.length = 3) (hv : validB d (PgM.g pg 0) (PgM.g pg 1) (PgM.g pg 2) = true) {n : Int} (hn : 1 ≤ n) : Inv d (allA d r pg n) := by
  obtain ⟨e1, e2⟩ := rest_keep h.pages pg n
  obtain ⟨hw, hp⟩ := new_w h hg hv hn
  have hl := h.keep pg
  have hne : ∀ y ∈ keepL r pg, pgOf y ≠ pgOf [PgM.g pg 0, PgM.g pg 1, PgM.g pg 2, maxN r pg n] := fun y hy => by rw [hp]; exact keep_ne hy
  unfold allA insV
  rw [e1, e2]
  generalize [PgM.g pg 0, PgM.g pg 1, PgM.g pg 2, maxN r pg n] = x at hw hne ⊢
  generalize keepL r pg = l at hl hne ⊢
  have hpl := pos_le d l x
  obtain ⟨k, hk⟩ : ∃ k, posV d l x = k := ⟨_, rfl⟩
  have hlo : ∀ y ∈ l.take k, aheadB d y x = true := fun y hy => by
    have e : l.take k = l.takeWhile fun y => aheadB d y x := by
      rw [← hk]
      exact (List.prefix_iff_eq_take.1 (List.takeWhile_prefix _)).symm
    rw [e] at hy
    exact mem_tw (f := fun y => aheadB d y x) hy
  have hhi : ∀ y ∈ l.drop k, aheadB d x y = true := fun y hy => by
    obtain ⟨i, hi, rfl⟩ := List.mem_iff_getElem.1 hy
    rw [List.length_drop] at hi
    have hlt : k < l.length := by omega
    have h0 : aheadB d (at_ l k) x = false := by rw [← hk] at hlt ⊢; exact takeWhile_at hlt
    have hz : at_ l k ∈ l := by rw [at_eq hlt]; exact List.getElem_mem _
    have h3 := ah_total hd (hl.all _ hz) hw (hne _ hz) h0
    rw [List.getElem_drop]
    by_cases e : i = 0
    · subst e
      rw [at_eq hlt] at h3
      exact h3
    · have := pair_at hl.srt (show k < k + i by omega) (by omega)
      rw [at_eq (i := k + i) (by omega)] at this
      exact ah_trans h3 this
  rw [hk]
  have e := List.take_append_drop k l
  refine ⟨?_, ?_, ?_⟩
  · rw [List.pairwise_append, List.pairwise_cons]
    have hs := hl.srt
    rw [← e, List.pairwise_append] at hs
    refine ⟨hs.1, ⟨hhi, hs.2.1⟩, fun a ha b hb => ?_⟩
    rcases List.mem_cons.1 hb with rfl | hb
    · exact hlo a ha
    · exact hs.2.2 a ha b hb
  · rw [List.pairwise_append, List.pairwise_cons]
    have hs := hl.pages
    rw [← e, List.pairwise_append] at hs
    refine ⟨hs.1, ⟨fun y hy => (hne y (List.mem_of_mem_drop hy)).symm, hs.2.1⟩, fun a ha b hb => ?_⟩
    rcases List.mem_cons.1 hb with rfl | hb
    · exact hne a (List.mem_of_mem_take ha)
    · exact hs.2.2 a ha b hb
  · intro y hy
    rcases List.mem_append.1 hy with hy | hy
    · exact hl.all y (List.mem_of_mem_take hy)
    · rcases List.mem_cons.1 hy with rfl | hy
      · exact hw
      · exact hl.all y (List.mem_of_mem_drop hy)
theorem all_len {d : Nat} {r : PgM.Row} (h : Inv d r) (pg : List Int) (n : Int) : (allA d r pg n).length = (keepL r pg).length + 1 := by
  unfold allA
  rw [insV_len, (rest_keep h.pages pg n).1]
theorem over_len {d most : Nat} {r : PgM.Row} (h : Inv d r) (hm : r.length ≤ most) {pg : List Int} {n : Int} (ho : most < (allA d r pg n).length) : (allA d r pg n).length = most + 1 ∧ (keepL r pg).length = most ∧ keepL r pg = r := by
  have h1 := all_len h pg n
  have h2 := keep_len r pg
  have h3 : (keepL r pg).length = r.length := by omega
  exact ⟨by omega, by omega, (List.filter_sublist (l := r)).eq_of_length h3⟩
theorem last_own {d most : Nat} (hd : d ≤ 3) {r : PgM.Row} (h : Inv d r) (hm : r.length ≤ most) {pg : List Int} (hg : pg.length = 3) (hv : validB d (PgM.g pg 0) (PgM.g pg 1) (PgM.g pg 2) = true) {n : Int} (hn : 1 ≤ n) (ho : most < (allA d r pg n).length) (hp : pgOf (at_ (allA d r pg n) most) = pg) : (allA d r pg n).take most = r := by
  obtain ⟨h1, h2, h3⟩ := over_len h hm ho
  obtain ⟨e1, e2⟩ := rest_keep h.pages pg n
  unfold allA at hp h1 ⊢
  rw [e1, e2] at hp h1 ⊢
  have hkn : ∀ y ∈ keepL r pg, pgOf y ≠ pg := fun y hy => keep_ne hy
  rw [h3] at hkn hp h1 h2 ⊢
  generalize [PgM.g pg 0, PgM.g pg 1, PgM.g pg 2, maxN r pg n] = x at hp h1 ⊢
  have hpl := pos_le d r x
  by_cases hk : posV d r x = r.length
  · unfold insV
    rw [hk, List.take_length, List.drop_length, ← h2, List.take_left]
  · exfalso
    unfold insV at hp
    have hl : (r.take (posV d r x) ++ x :: r.drop (posV d r x)).length = r.length + 1 := by rw [List.length_append, List.length_take, List.length_cons, List.length_drop]; omega
    have hin : at_ (r.take (posV d r x) ++ x :: r.drop (posV d r x)) most ∈ r := by
      rw [at_eq (by omega), List.getElem_append_right (by rw [List.length_take]; omega)]
      have hj : most - (r.take (posV d r x)).length = (most - (r.take (posV d r x)).length - 1) + 1 := by rw [List.length_take]; omega
      have : ∀ j (hj2 : j + 1 < (x :: r.drop (posV d r x)).length), (x :: r.drop (posV d r x))[j + 1] ∈ r := fun j hj2 => by
        rw [List.getElem_cons_succ]
        exact List.mem_of_mem_drop (List.getElem_mem _)
      have hlt : most - (r.take (posV d r x)).length - 1 + 1 < (x :: r.drop (posV d r x)).length := by rw [List.length_cons, List.length_drop, List.length_take]; omega
      have h9 := this _ hlt
      simp only [← hj] at h9
      exact h9
    exact hkn _ hin hp
theorem new_inv {d most : Nat} (hd : d ≤ 3) {r : PgM.Row} (h : Inv d r) {pg : List Int} (hg : pg.length = 3) (hv : validB d (PgM.g pg 0) (PgM.g pg 1) (PgM.g pg 2) = true) {n : Int} (hn : 1 ≤ n) : Inv d (newQ most d r pg n) ∧ (newQ most d r pg n).length ≤ most :=
  ⟨(all_inv hd h hg hv hn).take most, by unfold newQ; rw [List.length_take]; omega⟩
end Go.Proofs.Ytpbdgkjlmijipaa.QuO

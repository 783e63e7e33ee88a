/-
  QueueBest: the mathematics.
-/
import Derived.Test.YtpbdgkjlmijipaaQuS0
namespace Go.Proofs.Ytpbdgkjlmijipaa.QuR0
open Go.RowKit Go.Shelf Rd Go.Proofs.Ytpbdgkjlmijipaa.Row Mid PgM PgA PgB PgC QuA QuB QuC QuD QuE QuF QuG QuH QuI QuN QuO QuS0
open PgN (keyL keys page_key key_valid len3')
set_option linter.unusedVariables false
set_option linter.unusedSimpArgs false
set_option maxRecDepth 10000
/-- the want of a number -/
def Wn (k : Nat) (n : Int) : List Int := at_ (allV ((3 : Nat) : Int)) k ++ [n]
abbrev AL : PgM.Row := allV ((3 : Nat) : Int)
theorem al_len : AL.length = 85 := len3'
theorem wn_ex {k : Nat} (hk : k < AL.length) (n : Int) : ∃ x0 x1 x2, at_ AL k = [x0, x1, x2] ∧ Wn k n = [x0, x1, x2, n] ∧ keyV ((3 : Nat) : Int) x0 x1 x2 = (k : Int) := by
  obtain ⟨x0, x1, x2, e, h⟩ := page_key (n := 3) (by decide) hk
  exact ⟨x0, x1, x2, e, by unfold Wn; rw [e]; rfl, h⟩
theorem wn_page {k : Nat} (hk : k < AL.length) (n : Int) : pgOf (Wn k n) = at_ AL k := by
  obtain ⟨x0, x1, x2, e1, e2, -⟩ := wn_ex hk n
  rw [e2, e1]; rfl
theorem wn_num {k : Nat} (hk : k < AL.length) (n : Int) : PgM.g (Wn k n) 3 = n := by
  obtain ⟨x0, x1, x2, e1, e2, -⟩ := wn_ex hk n
  rw [e2]; rfl
theorem wn_key {k : Nat} (hk : k < AL.length) (n : Int) : keyL ((3 : Nat) : Int) (Wn k n) = (k : Int) := by
  obtain ⟨x0, x1, x2, e1, e2, e3⟩ := wn_ex hk n
  rw [e2]; exact e3
theorem al_key {k : Nat} (hk : k < AL.length) : keyL ((3 : Nat) : Int) (at_ AL k) = (k : Int) := keys 3 k (by decide) hk
theorem al_inj {j k : Nat} (hj : j < AL.length) (hk : k < AL.length) (e : at_ AL j = at_ AL k) : j = k := by
  have h1 := al_key hj
  have h2 := al_key hk
  rw [e, h2] at h1
  omega
theorem ah_wn {j k : Nat} (hj : j < AL.length) (hk : k < AL.length) (a b : Int) : aheadB ((3 : Nat) : Int) (Wn j a) (Wn k b) = true ↔ (b < a ∨ a = b ∧ j < k) := by
  rw [ah_def, wn_num hj, wn_num hk, wn_key hj, wn_key hk]
  omega
abbrev bst (B : List Int) (k : Nat) : Int := B.getD k 0
/-- the row holds the greatest -/
structure Top (B : List Int) (n : Nat) (r : PgM.Row) : Prop where
  inv : Inv 3 r
  len : r.length ≤ n
  blen : B.length = AL.length
  pos : ∀ k, 0 ≤ bst B k
  sub : ∀ x ∈ r, ∃ k, k < AL.length ∧ 0 < bst B k ∧ x = Wn k (bst B k)
  all : ∀ k, k < AL.length → 0 < bst B k → Wn k (bst B k) ∈ r ∨ (r.length = n ∧ ∀ y ∈ r, aheadB ((3 : Nat) : Int) y (Wn k (bst B k)) = true)
theorem top_start (n : Nat) : Top (List.replicate AL.length 0) n [] := by
  have h0 : ∀ k, bst (List.replicate AL.length 0) k = 0 := fun k => by
    unfold bst
    rw [List.getD_eq_getElem?_getD]
    by_cases h : k < AL.length
    · rw [List.getElem?_replicate_of_lt h]; rfl
    · rw [List.getElem?_eq_none (by rw [List.length_replicate]; omega)]; rfl
  exact ⟨Inv.nil 3, by simp, by simp, fun k => by rw [h0]; exact Int.le_refl _, fun x hx => absurd hx (by simp), fun k _ h => by rw [h0] at h; exact absurd h (by decide)⟩
theorem bst_set {B : List Int} {k : Nat} (hk : k < B.length) (v : Int) (j : Nat) : bst (B.set k v) j = if j = k then v else bst B j := by
  unfold bst
  rw [List.getD_eq_getElem?_getD, List.getD_eq_getElem?_getD, List.getElem?_set]
  by_cases h : k = j
  · subst h; simp [hk]
  · rw [if_neg h, if_neg (fun e => h e.symm)]
theorem pg3 {k : Nat} (hk : k < AL.length) : (at_ AL k).length = 3 := three_all _ _ (by rw [at_eq hk]; exact List.getElem_mem _)
theorem pgv {k : Nat} (hk : k < AL.length) : validB ((3 : Nat) : Int) (PgM.g (at_ AL k) 0) (PgM.g (at_ AL k) 1) (PgM.g (at_ AL k) 2) = true := key_valid (al_key hk)
theorem w_eq {k : Nat} (hk : k < AL.length) (m : Int) : [PgM.g (at_ AL k) 0, PgM.g (at_ AL k) 1, PgM.g (at_ AL k) 2, m] = Wn k m := by
  obtain ⟨x0, x1, x2, e1, e2, -⟩ := wn_ex hk m
  rw [e2, e1]; rfl
theorem mem_all {r : PgM.Row} (h : Inv 3 r) {k : Nat} (hk : k < AL.length) (p : Int) (x : List Int) : x ∈ allA ((3 : Nat) : Int) r (at_ AL k) p ↔ x = Wn k (maxN r (at_ AL k) p) ∨ x ∈ keepL r (at_ AL k) := by
  obtain ⟨e1, e2⟩ := rest_keep h.pages (at_ AL k) p
  unfold allA insV
  rw [e1, e2, w_eq hk]
  generalize Wn k (maxN r (at_ AL k) p) = w
  generalize keepL r (at_ AL k) = l
  generalize posV ((3 : Nat) : Int) l w = i
  constructor
  · intro hx
    rcases List.mem_append.1 hx with hx | hx
    · exact .inr (List.mem_of_mem_take hx)
    · rcases List.mem_cons.1 hx with hx | hx
      · exact .inl hx
      · exact .inr (List.mem_of_mem_drop hx)
  · rintro (rfl | hx)
    · exact List.mem_append_right _ (List.mem_cons_self ..)
    · rw [← List.take_append_drop i l] at hx
      rcases List.mem_append.1 hx with hx | hx
      · exact List.mem_append_left _ hx
      · exact List.mem_append_right _ (List.mem_cons_of_mem _ hx)
theorem mem_keep {r : PgM.Row} {pg x : List Int} : x ∈ keepL r pg ↔ x ∈ r ∧ pgOf x ≠ pg := by
  unfold keepL
  rw [List.mem_filter]
  simp
/-- what stands ahead of the cut is ahead of what stands behind it -/
theorem cut_ahead {R : PgM.Row} (h : Inv 3 R) {n : Nat} {y z : List Int} (hy : y ∈ R.take n) (hz : z ∈ R.drop n) : aheadB ((3 : Nat) : Int) y z = true := by
  have hs := h.srt
  rw [← List.take_append_drop n R, List.pairwise_append] at hs
  exact hs.2.2 y hy z hz
theorem top_add {B : List Int} {n : Nat} {r : PgM.Row} (h : Top B n r) {k : Nat} (hk : k < AL.length) {p : Int} (hp : 1 ≤ p) : Top (B.set k (max (bst B k) p)) n (newQ n ((3 : Nat) : Int) r (at_ AL k) p) := by
  have hR := all_inv (d := 3) (by decide) h.inv (pg3 hk) (pgv hk) hp
  have hkB : k < B.length := by rw [h.blen]; exact hk
  have hset := bst_set hkB (max (bst B k) p)
  have hmem := mem_all h.inv hk p
  have hmx := max_had h.inv (at_ AL k) hp
  have hpk := h.pos k
  have hRl := all_len h.inv (at_ AL k) p
  obtain ⟨R, eR⟩ : ∃ R, allA ((3 : Nat) : Int) r (at_ AL k) p = R := ⟨_, rfl⟩
  obtain ⟨m, em⟩ : ∃ m, maxN r (at_ AL k) p = m := ⟨_, rfl⟩
  have eN : newQ n ((3 : Nat) : Int) r (at_ AL k) p = R.take n := by unfold newQ; rw [eR]
  rw [eN]
  rw [eR] at hR hmem hRl
  rw [em] at hmem hmx
  -- one that is held has its number
  have hin : ∀ x ∈ r, pgOf x = at_ AL k → x = Wn k (bst B k) := fun x hx e => by
    obtain ⟨j, hj, hpos, rfl⟩ := h.sub x hx
    rw [wn_page hj] at e
    rw [al_inj hj hk e]
  have hno : (∀ x ∈ r, pgOf x ≠ at_ AL k) → keepL r (at_ AL k) = r ∧ m = p := fun hn => by
    refine ⟨?_, by rw [hmx, had_no h.inv hn]; omega⟩
    unfold keepL
    rw [List.filter_eq_self]
    intro y hy
    simp [hn y hy]
  have hyes : ∀ x ∈ r, pgOf x = at_ AL k → m = max (bst B k) p := fun x hx e => by
    rw [hmx, had_yes h.inv hx e, hin x hx e, wn_num hk]
    omega
  -- not held, and wanted more before: it comes last
  have hlast : (∀ x ∈ r, pgOf x ≠ at_ AL k) → p < bst B k → r.length = n ∧ (∀ y ∈ r, aheadB ((3 : Nat) : Int) y (Wn k (bst B k)) = true) ∧ Wn k m ∉ R.take n := fun hn hlt => by
    obtain ⟨hk1, hm1⟩ := hno hn
    rcases h.all k hk (by omega) with h1 | ⟨h1, h2⟩
    · exact absurd (wn_page hk _) (hn _ h1)
    · refine ⟨h1, h2, fun hw => ?_⟩
      have hlen : R.length = n + 1 := by rw [hRl, hk1, h1]
      have he : at_ R n ∈ R.drop n := by
        rw [at_eq (by omega), List.drop_eq_getElem_cons (by omega)]
        exact List.mem_cons_self ..
      have h3 := cut_ahead hR hw he
      rcases (hmem _).1 (List.mem_of_mem_drop he) with h4 | h4
      · rw [h4, ah_irr] at h3
        exact absurd h3 (by decide)
      · rw [hk1] at h4
        have h5 := h2 _ h4
        have h6 : aheadB ((3 : Nat) : Int) (Wn k (bst B k)) (Wn k m) = true := (ah_wn hk hk _ _).2 (.inl (by omega))
        have h7 := ah_asymm (ah_trans h5 h6)
        rw [h7] at h3
        exact absurd h3 (by decide)
  have hcase : (∃ x ∈ r, pgOf x = at_ AL k) ∨ ∀ x ∈ r, pgOf x ≠ at_ AL k := by
    by_cases hx : ∃ x ∈ r, pgOf x = at_ AL k
    · exact .inl hx
    · exact .inr fun x hx2 e => hx ⟨x, hx2, e⟩
  refine ⟨hR.take n, by rw [List.length_take]; omega, by rw [List.length_set]; exact h.blen, fun j => ?_, fun x hx => ?_, fun j hj hpos => ?_⟩
  · rw [hset]
    split
    · omega
    · exact h.pos j
  · rcases (hmem x).1 (List.mem_of_mem_take hx) with rfl | hx2
    · refine ⟨k, hk, by rw [hset, if_pos rfl]; omega, ?_⟩
      rw [hset, if_pos rfl]
      rcases hcase with ⟨x, hx1, hx2⟩ | hn
      · rw [hyes x hx1 hx2]
      · have hm1 := (hno hn).2
        by_cases hlt : p < bst B k
        · exact absurd hx (hlast hn hlt).2.2
        · rw [hm1]
          congr 1
          omega
    · obtain ⟨h1, h2⟩ := mem_keep.1 hx2
      obtain ⟨j, hj, hpos, rfl⟩ := h.sub x h1
      have hjk : j ≠ k := fun e => h2 (by rw [wn_page hj, e])
      exact ⟨j, hj, by rw [hset, if_neg hjk]; exact hpos, by rw [hset, if_neg hjk]⟩
  · obtain ⟨z, ez⟩ : ∃ z, Wn j (bst (B.set k (max (bst B k) p)) j) = z := ⟨_, rfl⟩
    rw [ez]
    by_cases hzR : z ∈ R
    · have hzR2 := hzR
      rw [← List.take_append_drop n R] at hzR2
      rcases List.mem_append.1 hzR2 with h1 | h1
      · exact .inl h1
      · refine .inr ⟨?_, fun y hy => cut_ahead hR hy h1⟩
        have := List.length_pos_of_mem h1
        rw [List.length_drop] at this
        rw [List.length_take]
        omega
    · by_cases hjk : j = k
      · subst hjk
        rw [hset, if_pos rfl] at ez hpos
        rcases hcase with ⟨x, hx1, hx2⟩ | hn
        · exact absurd ((hmem z).2 (.inl (by rw [← ez, hyes x hx1 hx2]))) hzR
        · have hm1 := (hno hn).2
          have hlt : p < bst B j := by
            rcases Int.lt_trichotomy p (bst B j) with h1 | h1 | h1
            · exact h1
            · exact absurd ((hmem z).2 (.inl (by rw [← ez, hm1]; congr 1; omega))) hzR
            · exact absurd ((hmem z).2 (.inl (by rw [← ez, hm1]; congr 1; omega))) hzR
          obtain ⟨h1, h2, h3⟩ := hlast hn hlt
          have hk1 := (hno hn).1
          refine .inr ⟨by rw [List.length_take, hRl, hk1, h1]; omega, fun y hy => ?_⟩
          rcases (hmem y).1 (List.mem_of_mem_take hy) with rfl | h4
          · exact absurd hy h3
          · rw [hk1] at h4
            have := h2 y h4
            rw [← ez, show max (bst B j) p = bst B j by omega]
            exact this
      · rw [hset, if_neg hjk] at ez hpos
        rcases h.all j hj hpos with h1 | ⟨h1, h2⟩
        · exact absurd ((hmem z).2 (.inr (mem_keep.2 ⟨by rw [← ez]; exact h1, by rw [← ez, wn_page hj]; exact fun e => hjk (al_inj hj hk e)⟩))) hzR
        · rw [ez] at h2
          rcases hcase with ⟨x, hx1, hx2⟩ | hn
          · -- held
            have hxw := hin x hx1 hx2
            have hm1 := hyes x hx1 hx2
            have hwz : aheadB ((3 : Nat) : Int) (Wn k m) z = true := by
              have h3 := h2 x hx1
              rw [hxw, ← ez, ah_wn hk hj] at h3
              rw [← ez, ah_wn hk hj]
              omega
            have hkl : r.length ≤ (keepL r (at_ AL k)).length + 1 := by
              have : ∀ (s : PgM.Row), s.Pairwise (fun a b => pgOf a ≠ pgOf b) → s.length ≤ (keepL s (at_ AL k)).length + 1 := by
                intro s hs
                have := (rest_keep hs (at_ AL k) 0).1
                rw [← this]
                unfold restV
                split
                · rw [List.length_eraseIdx_of_lt (by assumption)]; omega
                · omega
              exact this r h.inv.pages
            refine .inr ⟨by rw [List.length_take]; omega, fun y hy => ?_⟩
            rcases (hmem y).1 (List.mem_of_mem_take hy) with rfl | h4
            · exact hwz
            · exact h2 y (mem_keep.1 h4).1
          · obtain ⟨hk1, hm1⟩ := hno hn
            have hlen : R.length = n + 1 := by rw [hRl, hk1, h1]
            refine .inr ⟨by rw [List.length_take]; omega, fun y hy => ?_⟩
            rcases (hmem y).1 (List.mem_of_mem_take hy) with rfl | h4
            · have he : at_ R n ∈ R.drop n := by
                rw [at_eq (by omega), List.drop_eq_getElem_cons (by omega)]
                exact List.mem_cons_self ..
              have h3 := cut_ahead hR hy he
              rcases (hmem _).1 (List.mem_of_mem_drop he) with h5 | h5
              · rw [h5, ah_irr] at h3
                exact absurd h3 (by decide)
              · rw [hk1] at h5
                exact ah_trans h3 (h2 _ h5)
            · rw [hk1] at h4
              exact h2 y h4
/-- the best one so far -/
def Best (B : List Int) (k : Nat) (a : Int) : Prop :=
  (a = -1 ∧ ∀ j, j < k → bst B j ≤ 0) ∨ ∃ i : Nat, a = (i : Int) ∧ i < k ∧ 0 < bst B i ∧ (∀ j, j < k → bst B j ≤ bst B i) ∧ ∀ j, j < i → bst B j < bst B i
theorem best_start (B : List Int) : Best B 0 (-1) := .inl ⟨rfl, fun j hj => absurd hj (by omega)⟩
/-- the first one is the best one -/
theorem top_first {B : List Int} {n : Nat} {x : List Int} {s : PgM.Row} (h : Top B n (x :: s)) {a : Int} (ha : Best B AL.length a) : ∃ i : Nat, a = (i : Int) ∧ i < AL.length ∧ x = Wn i (bst B i) ∧ Top (B.set i 0) (n - 1) s := by
  obtain ⟨j, hj, hpos, hx⟩ := h.sub x (List.mem_cons_self ..)
  have hsrt := List.pairwise_cons.1 h.inv.srt
  have hfirst : ∀ k, k < AL.length → 0 < bst B k → k ≠ j → bst B k < bst B j ∨ bst B j = bst B k ∧ j < k := fun k hk hp hne => by
    have : aheadB ((3 : Nat) : Int) x (Wn k (bst B k)) = true := by
      rcases h.all k hk hp with h1 | ⟨-, h2⟩
      · rcases List.mem_cons.1 h1 with h3 | h3
        · exfalso
          rw [hx] at h3
          have := congrArg pgOf h3
          rw [wn_page hk, wn_page hj] at this
          exact hne (al_inj hk hj this)
        · exact hsrt.1 _ h3
      · exact h2 x (List.mem_cons_self ..)
    rw [hx, ah_wn hj hk] at this
    omega
  rcases ha with ⟨rfl, h1⟩ | ⟨i, rfl, hi, hp, h1, h2⟩
  · have := h1 j hj
    omega
  · have hij : i = j := by
      by_cases e : i = j
      · exact e
      · exfalso
        have h3 := hfirst i hi hp e
        have h4 := h1 j hj
        rcases Nat.lt_or_ge j i with h5 | h5
        · have := h2 j h5
          omega
        · omega
    subst hij
    refine ⟨i, rfl, hi, hx, ?_⟩
    have hiB : i < B.length := by rw [h.blen]; exact hi
    have hset := bst_set hiB 0
    have hl := h.len
    simp only [List.length_cons] at hl
    have hpg := List.pairwise_cons.1 h.inv.pages
    refine ⟨h.inv.tail, by omega, by rw [List.length_set]; exact h.blen, fun k => ?_, fun y hy => ?_, fun k hk hpos2 => ?_⟩
    · rw [hset]
      split
      · exact Int.le_refl _
      · exact h.pos k
    · obtain ⟨k, hk, hp2, hy2⟩ := h.sub y (List.mem_cons_of_mem _ hy)
      have hki : k ≠ i := fun e => by
        have := hpg.1 y hy
        rw [hx, hy2, wn_page hi, wn_page hk, e] at this
        exact this rfl
      exact ⟨k, hk, by rw [hset, if_neg hki]; exact hp2, by rw [hset, if_neg hki]; exact hy2⟩
    · rw [hset] at hpos2 ⊢
      by_cases hki : k = i
      · rw [if_pos hki] at hpos2
        omega
      · rw [if_neg hki] at hpos2 ⊢
        rcases h.all k hk hpos2 with h3 | ⟨h3, h4⟩
        · rcases List.mem_cons.1 h3 with h5 | h5
          · exfalso
            rw [hx] at h5
            have := congrArg pgOf h5
            rw [wn_page hk, wn_page hi] at this
            exact hki (al_inj hk hi this)
          · exact .inl h5
        · simp only [List.length_cons] at h3
          exact .inr ⟨by omega, fun y hy => h4 y (List.mem_cons_of_mem _ hy)⟩
/-- nobody waits: nobody is the best one -/
theorem top_none {B : List Int} {n : Nat} (h : Top B n []) (hn : 1 ≤ n) {a : Int} (ha : Best B AL.length a) : a = -1 := by
  rcases ha with ⟨rfl, h1⟩ | ⟨i, rfl, hi, hp, h1, h2⟩
  · rfl
  · rcases h.all i hi hp with h3 | ⟨h3, -⟩
    · exact absurd h3 (by simp)
    · simp at h3
      omega
theorem top_less {B : List Int} {n : Nat} (h : Top B n []) (hn : 1 ≤ n) : Top B (n - 1) [] := by
  refine ⟨h.inv, by simp, h.blen, h.pos, h.sub, fun k hk hp => ?_⟩
  rcases h.all k hk hp with h3 | ⟨h3, -⟩
  · exact .inl h3
  · simp at h3
    omega
theorem best_step {B : List Int} {k : Nat} {a : Int} (h : Best B k a) : (0 < bst B k ∧ (a < 0 ∨ ∃ i : Nat, a = (i : Int) ∧ bst B i < bst B k) → Best B (k + 1) (k : Int)) ∧ (¬ (0 < bst B k ∧ (a < 0 ∨ ∃ i : Nat, a = (i : Int) ∧ bst B i < bst B k)) → Best B (k + 1) a) := by
  constructor
  · rintro ⟨h0, h1⟩
    rcases h with ⟨rfl, h2⟩ | ⟨i, rfl, hi, hp, h2, h3⟩
    · refine .inr ⟨k, rfl, by omega, h0, fun j hj => ?_, fun j hj => ?_⟩
      · by_cases e : j = k
        · rw [e]; exact Int.le_refl _
        · have := h2 j (by omega); omega
      · have := h2 j hj; omega
    · have hlt : bst B i < bst B k := by
        rcases h1 with h1 | ⟨i', e, h1⟩
        · omega
        · obtain rfl : i = i' := by omega
          exact h1
      refine .inr ⟨k, rfl, by omega, h0, fun j hj => ?_, fun j hj => ?_⟩
      · by_cases e : j = k
        · rw [e]; exact Int.le_refl _
        · have := h2 j (by omega); omega
      · have := h2 j hj; omega
  · intro hn
    rcases h with ⟨rfl, h2⟩ | ⟨i, rfl, hi, hp, h2, h3⟩
    · refine .inl ⟨rfl, fun j hj => ?_⟩
      by_cases e : j = k
      · subst e
        by_cases h0 : 0 < bst B j
        · exact absurd ⟨h0, .inl (by decide)⟩ hn
        · omega
      · exact h2 j (by omega)
    · refine .inr ⟨i, rfl, by omega, hp, fun j hj => ?_, h3⟩
      by_cases e : j = k
      · subst e
        by_cases h0 : bst B i < bst B j
        · exact absurd ⟨by omega, .inr ⟨i, rfl, h0⟩⟩ hn
        · omega
      · exact h2 j (by omega)
end Go.Proofs.Ytpbdgkjlmijipaa.QuR0

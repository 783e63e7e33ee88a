/-
  The reference's Set and Flush.
-/
import Derived.Test.YtajoajblmaopjaaDkQ
import Derived.Test.YtajoajblmaopjaaDkC
namespace Go.Proofs.Ytajoajblmaopjaa.DkR
open Go.RowKit Rd
open Go.Proofs.Ytajoajblmaopjaa.Row hiding cs blk3_0 blk3_1 blk3_2
open Mid DkM DkA DkL DkN DkO DkP DkQ
open DkB (rd z32_len kpS)
open DkC (flN fl_nums)
open DkH (Bd)
open DkD (newS z32_bd)
set_option linter.unusedVariables false
set_option linter.unusedSimpArgs false
set_option maxRecDepth 10000
variable {X Y : World} {B0 pd bg n : Nat} {s : DS}
theorem fr_of_tn {c : Array Value} (ht : Tn [pd] X Y) (hp : blk X pd = some (.cells c 50 (0, 0))) (hlo : B0 ≤ pd) : Fr B0 X Y :=
  ⟨ht.below (by intro k hk; simp at hk; omega) (by have := blk_lt hp; omega), fun k cur T hk h1 _ _ => ht.2.2 k (blk_lt (show blk X k = _ from hk)) (fun e => by
    simp at e
    subst e
    have h9 : some (Obj.cells c 50 (0, 0)) = _ := hp.symm.trans hk
    cases h9
    exact h1 rfl)⟩
theorem Fr.refl (X : World) : Fr B0 X X := ⟨Below.refl _ _, fun _ _ _ _ _ _ _ => rfl⟩
theorem Fr.trans {Z : World} (h : Fr B0 X Y) (k : Fr B0 Y Z) : Fr B0 X Z :=
  ⟨h.1.trans k.1, fun j cur T hj h1 h2 h3 => by
    have e := h.2 j cur T hj h1 h2 h3
    rw [k.2 j cur T (e.trans hj) h1 h2 h3, e]⟩
theorem rset_any (m mask : Int) (w : World) (h : Rf w B0 pd bg n s) (hd : s.dn = false) (hm : 0 ≤ m ∧ m ≤ 1048576) :
    Calls Try.prog 16 #[.pointer (some ⟨pd, 0, none⟩), .int .i64 m, .int .i64 mask] w fun e w' => e = .returned (.int .i64 0) ∧ Rf w' B0 pd bg n { s with lf := m, ms := mask } ∧ Fr B0 w w' := by
  obtain ⟨cb, hv, h1, h2, h3⟩ := h.hd
  have h1' := h1
  rw [hd] at h1'
  refine (set_any m mask w h1' hm).mono ?_
  rintro e w' ⟨rfl, hr, ht⟩
  have h3s := three_of_tn ht h1.head (by intro cur e; cases e) (by intro cur e; cases e) (by intro cur e; cases e)
  refine ⟨rfl, ⟨h.lo, ⟨cb, hv, ?_, h2.keep h3s, h3.keep h3s⟩, h.small, h.kl, h.hb⟩, fr_of_tn ht h1.head h.lo⟩
  show Rh w' pd _ hv m mask s.dn s.wr
  rw [hd]
  exact hr
theorem rset_no (m mask : Int) (w : World) (h : Rf w B0 pd bg n s) (hd : s.dn = true) :
    Calls Try.prog 16 #[.pointer (some ⟨pd, 0, none⟩), .int .i64 m, .int .i64 mask] w fun e w' => e = .returned (.int .i64 7) ∧ w = w' := by
  obtain ⟨cb, hv, h1, -, -⟩ := h.hd
  rw [hd] at h1
  exact set_no m mask w h1
theorem rset_bad (m mask : Int) (w : World) (h : Rf w B0 pd bg n s) (hd : s.dn = false) (hm : m < 0 ∨ 1048576 < m) :
    Calls Try.prog 16 #[.pointer (some ⟨pd, 0, none⟩), .int .i64 m, .int .i64 mask] w fun e w' => e = .returned (.int .i64 1) ∧ w = w' := by
  obtain ⟨cb, hv, h1, -, -⟩ := h.hd
  rw [hd] at h1
  exact set_bad m mask w h1 hm
/-! Flush -/
def st (K : List (List Int)) (x : Nat × List Int) : List (List Int) := K.set x.1 x.2
theorem st_len (L : List (Nat × List Int)) : ∀ K : List (List Int), (L.foldl st K).length = K.length := by
  induction L with
  | nil => intro K; rfl
  | cons x L ih => intro K; rw [List.foldl_cons, ih]; simp [st]
theorem st_bd {L : List (Nat × List Int)} (hL : ∀ x ∈ L, Bd x.2) : ∀ {K : List (List Int)}, (∀ l ∈ K, Bd l) → ∀ l ∈ L.foldl st K, Bd l := by
  induction L with
  | nil => intro K h; exact h
  | cons x L ih =>
    intro K h
    rw [List.foldl_cons]
    refine ih (fun y hy => hL y (List.mem_cons_of_mem _ hy)) (fun l hl => ?_)
    rcases List.mem_or_eq_of_mem_set hl with h1 | h1
    · exact h l h1
    · rw [h1]; exact hL x (List.mem_cons_self ..)
theorem hl_bd : ∀ {H : List (Bool × List Int)} (o : Nat), (∀ h ∈ H, Bd h.2) → ∀ x ∈ hl H o, Bd x.2
  | [], _, _, x, hx => by simp [hl] at hx
  | (q, l) :: t, o, h, x, hx => by
    unfold hl at hx
    have h1 := hl_bd (H := t) (o + 1) (fun y hy => h y (List.mem_cons_of_mem _ hy))
    split at hx
    · rcases List.mem_cons.1 hx with rfl | hx
      · exact h _ (List.mem_cons_self ..)
      · exact h1 x hx
    · exact h1 x hx
theorem hl_succ {H : List (Bool × List Int)} {m : Nat} (hm : m < H.length) : hl (H.take (m + 1)) 0 = hl (H.take m) 0 ++ (if H[m].1 = true then [(m, H[m].2)] else []) := by
  have ht : H.take (m + 1) = H.take m ++ [H[m]] := by rw [List.take_add_one, List.getElem?_eq_getElem hm]; rfl
  have hlen : (H.take m).length = m := by simp; omega
  rw [ht, hl_app, hlen, Nat.zero_add]
  congr 1
theorem fl_state (s : DS) : ∀ m, m ≤ s.H.length → (flN s m).K = (hl (s.H.take m) 0).foldl st s.K ∧ (∀ j, m ≤ j → (flN s m).H.getD j (false, []) = s.H.getD j (false, [])) ∧ (∀ j, j < m → ((flN s m).H.getD j (false, [])).1 = false)
  | 0, _ => ⟨rfl, fun j _ => rfl, fun j hj => absurd hj (by omega)⟩
  | m + 1, h => by
    obtain ⟨i1, i2, i3⟩ := fl_state s m (by omega)
    have hm : m < s.H.length := by omega
    have hn := fl_nums s m
    have hg : s.H.getD m (false, []) = s.H[m] := by simp [List.getD, hm]
    have e1 := i2 m (Nat.le_refl _)
    rw [hl_succ hm, List.foldl_append]
    unfold flN
    rw [e1, hg]
    cases hq : s.H[m].1 with
    | false =>
      simp only [if_neg (show ¬ (false = true) by decide), List.foldl_nil]
      refine ⟨i1, fun j hj => i2 j (by omega), fun j hj => ?_⟩
      by_cases e : j = m
      · rw [e, e1, hg, hq]
      · exact i3 j (by omega)
    | true =>
      simp only [if_true, List.foldl_cons, List.foldl_nil]
      unfold kpS
      simp only
      refine ⟨?_, fun j hj => ?_, fun j hj => ?_⟩
      · rw [e1, hg, i1]; rfl
      · rw [List.getD_eq_getElem?_getD, List.getElem?_set_ne (by omega), ← List.getD_eq_getElem?_getD]
        exact i2 j (by omega)
      · by_cases e : j = m
        · subst e
          rw [List.getD_eq_getElem?_getD, List.getElem?_set_self (by rw [hn.2.2.2.2.2]; exact hm)]
          rfl
        · rw [List.getD_eq_getElem?_getD, List.getElem?_set_ne (by omega), ← List.getD_eq_getElem?_getD]
          exact i3 j (by omega)
theorem fl_hb (s : DS) (h : ∀ x ∈ s.H, Bd x.2) : ∀ m, ∀ x ∈ (flN s m).H, Bd x.2
  | 0 => h
  | m + 1 => by
    intro x hx
    unfold flN at hx
    split at hx
    · unfold kpS at hx
      rcases List.mem_or_eq_of_mem_set hx with h1 | h1
      · exact fl_hb s h m x h1
      · rw [h1]; exact ⟨z32_len, z32_bd⟩
    · exact fl_hb s h m x hx
/-- a header is laid into the rows for good -/
theorem own_setCell {B e g n c i : Nat} {bs : List Value} {u : Value} (h : X.ownsRow B e 1 (.slice (some ⟨g, 0, none⟩) n c) n bs) (hi : i < n) : (X.setCell ⟨g, i, none⟩ u).ownsRow B e 1 (.slice (some ⟨g, 0, none⟩) n c) n (bs.set i u) := by
  obtain ⟨h1, h2⟩ := h
  refine ⟨by rw [List.length_set]; exact h1, ?_⟩
  rcases h2 with ⟨h3, _⟩ | ⟨g', c', cur, h3, hb, hg, hc, hm, hs, ht⟩
  · cases h3
  · cases h3
    refine .inr ⟨g, c, cur.setIfInBounds i u, rfl, hb, blk_set X g i u _ _ hg, hc, hm, by simpa using hs, ?_⟩
    rw [← ht]
    simp [List.take_set]
theorem BR.set {cb i : Nat} {K : List (List Int)} {u : Value} {l : List Int} (h : BR X B0 bg n cb K) (hi : i < n) (hK : K.length = n) (hu : Oc X B0 u l) : BR (X.setCell ⟨bg, i, none⟩ u) B0 bg n cb (K.set i l) := by
  obtain ⟨bs, h1, h2⟩ := h
  have hl : bs.length = n := by have := h1.1; omega
  obtain ⟨cur0, hc0⟩ := own_type (k := bg) h1 rfl
  have hk : ∀ (k : Nat) (cur : Array Value), X.heap[k]? = some (.cells cur 5 (0, 0)) → (X.setCell ⟨bg, i, none⟩ u).heap[k]? = X.heap[k]? := fun k cur hk => heap_setCell_other _ _ _ _ (fun e => by
    have e9 : k = bg := e
    rw [e9, hc0] at hk
    cases hk)
  refine ⟨bs.set i u, own_setCell h1 hi, fun j hj => ?_⟩
  by_cases e : j = i
  · subst e
    exact ⟨u, by rw [List.getElem?_set_self (by omega)], by rw [List.getD_eq_getElem?_getD, List.getElem?_set_self (by omega)]; exact hu.keep hk⟩
  · obtain ⟨v, h3, h4⟩ := h2 j hj
    exact ⟨v, by rw [List.getElem?_set_ne (Ne.symm e)]; exact h3, by rw [List.getD_eq_getElem?_getD, List.getElem?_set_ne (Ne.symm e), ← List.getD_eq_getElem?_getD]; exact h4.keep hk⟩
/-- where a header stands in the list that is held back -/
theorem HR.own {hv : Value} {L : List (Nat × List Int)} {k : Nat} {x : Nat × List Int} (h : HR X B0 hv L) (hk : L[k]? = some x) : ∃ hg ch g c, hv = .slice (some ⟨hg, 0, none⟩) L.length ch ∧ X.cell? ⟨hg, k * 2, none⟩ = some (.int .i64 (x.1 : Int)) ∧ X.cell? ⟨hg, k * 2 + 1, none⟩ = some (.slice (some ⟨g, 0, none⟩) 32 c) ∧ Oc X B0 (.slice (some ⟨g, 0, none⟩) 32 c) x.2 := by
  have hlt := (List.getElem?_eq_some_iff.1 hk).1
  obtain ⟨hs, h1, h2⟩ := h
  obtain ⟨h3, u, h4, h5⟩ := h2 k x hk
  obtain ⟨g, c, rfl, h6, h7, h8⟩ := h5.rd
  obtain ⟨hg, ch, rfl, -, -, h9, -, h10⟩ := owns_pos h1 (by omega)
  exact ⟨hg, ch, g, c, rfl, by rw [h10 _ (by omega), h3], by rw [h10 _ (by omega), h4], h5⟩
theorem rflush_no (w : World) (h : Rf w B0 pd bg n s) (hd : s.dn = true) :
    Calls Try.prog 14 #[.pointer (some ⟨pd, 0, none⟩)] w fun e w' => e = .returned (.int .i64 7) ∧ w = w' := by
  obtain ⟨cb, hv, h1, h2, h3⟩ := h.hd
  have c4 := h1.c4
  rw [hd] at c4
  clear h h1 h2 h3
  go_enter Try.func14, Try.ntmps14
  go_wp2
  go_ret
  exact ⟨rfl, rfl⟩
theorem fr_cell {k : Nat} {u : Value} {i : Nat} {cur0 : Array Value} {T : TypeId} (hT : T = 50 ∨ T = 32 ∨ T = 71) (hc : X.heap[k]? = some (.cells cur0 T (0, 0))) (hlo : B0 ≤ k) : Fr B0 X (X.setCell ⟨k, i, none⟩ u) :=
  ⟨⟨rfl, rfl, rfl, by simp, fun j hj => heap_setCell_other _ _ _ _ (by show j ≠ k; omega)⟩, fun j cur T' hj h1 h2 h3 => heap_setCell_other _ _ _ _ (fun e => by
    have e9 : j = k := e
    rw [e9, hc] at hj
    cases hj
    rcases hT with h | h | h
    · exact h1 h
    · exact h2 h
    · exact h3 h)⟩
theorem same3_head {v : Value} {i : Nat} {c : Array Value} (hp : blk X pd = some (.cells c 50 (0, 0))) : Same3 X (X.setCell ⟨pd, i, none⟩ v) := fun k cur T hk h => heap_setCell_other _ _ _ _ (fun e => by
  have e9 : k = pd := e
  have h9 : X.heap[pd]? = _ := hp
  rw [e9, h9] at hk
  cases hk
  rcases h with h | h | h <;> cases h)
set_option maxHeartbeats 8000000 in
theorem rflush_any (w : World) (h : Rf w B0 pd bg n s) (hd : s.dn = false) :
    Calls Try.prog 14 #[.pointer (some ⟨pd, 0, none⟩)] w fun e w' => e = .returned (.int .i64 0) ∧ Rf w' B0 pd bg n (flN s n) ∧ Fr B0 w w' := by
  obtain ⟨cb, hv, h1, h2, h3⟩ := h.hd
  have hle := hl_le s.H 0
  obtain ⟨hn1, hn2⟩ := h.small
  have hHl := h.hb.1
  have hv9 : ∃ a c, hv = .slice a (hl s.H 0).length c := by
    obtain ⟨hs, h4, -⟩ := h3
    obtain ⟨a, c, e, -, -⟩ := owns_val h4
    exact ⟨a, c, e⟩
  obtain ⟨ha, hc, rfl⟩ := hv9
  obtain ⟨N, hN⟩ : ∃ N, (hl s.H 0).length = N := ⟨_, rfl⟩
  have hN2 : N ≤ 2048 := by omega
  have HN := Lib.hid hN
  have c4 := h1.c4
  rw [hd] at c4
  rw [hN] at h1 h3
  have H0 : Hid (Rh w pd (.slice (some ⟨bg, 0, none⟩) n cb) (.slice ha N hc) s.lf s.ms s.dn s.wr ∧ BR w B0 bg n cb s.K ∧ HR w B0 (.slice ha N hc) (hl s.H 0)) := Lib.hid ⟨h1, h2, h3⟩
  have hRf := Lib.hid h
  clear h h1 h2 h3 hN
  go_enter Try.func14, Try.ntmps14
  go_upto_region 4 with (fail)
  go_loopw [3] (fun v X => ∃ k : Nat, k ≤ N ∧ v = .int .i64 k ∧ Hid (Rh X pd (.slice (some ⟨bg, 0, none⟩) n cb) (.slice ha N hc) s.lf s.ms s.dn s.wr ∧ BR X B0 bg n cb (((hl s.H 0).take k).foldl st s.K) ∧ HR X B0 (.slice ha N hc) (hl s.H 0)) ∧ Hid (Fr B0 w X)) (fun v _ => N - (intOf v).toNat)
  case atStart => exact ⟨0, by omega, rfl, H0, Lib.hid (Fr.refl _)⟩
  case round =>
    obtain ⟨k, hk, rfl, HS, HF⟩ := hrel
    rename World => Z
    clear H0
    obtain ⟨q1, q2, q3⟩ := HS.out
    have c1 := q1.c1
    have c0 := q1.c0
    by_cases hkN : k < N
    · have hkN' : (k : Int) < (N : Int) := by omega
      have hlt : k < (hl s.H 0).length := by rw [HN.out]; exact hkN
      obtain ⟨x, hx⟩ : ∃ x, (hl s.H 0)[k] = x := ⟨_, rfl⟩
      have hxk : (hl s.H 0)[k]? = some x := by rw [List.getElem?_eq_getElem hlt, hx]
      obtain ⟨hg, ch, g, c, e9, x0, x1, hoc⟩ := HR.own q3 hxk
      rw [HN.out] at e9
      cases e9
      obtain ⟨-, hxn⟩ := hl_mem (List.mem_of_getElem? hxk)
      obtain ⟨i, l⟩ := x
      have hi : i < n := by have : i < 0 + s.H.length := hxn; omega
      have hi' : (i : Int) < (n : Int) := by omega
      have hi0 : (0 : Int) ≤ (i : Int) := by omega
      have hk0 : (0 : Int) ≤ (k : Int) := by omega
      obtain ⟨hcb, -⟩ := q2.at hi
      have hbt : ∃ cur0, Z.heap[bg]? = some (.cells cur0 32 (0, 0)) := by
        obtain ⟨bs, h4, -⟩ := q2
        exact own_type (k := bg) h4 rfl
      obtain ⟨cur0, hbt⟩ := hbt
      have fz : Z.drew.frozen? ⟨bg, i, none⟩ = false := blk_frozen (w := Z.drew) (show blk Z.drew bg = _ from hbt) i
      have y0 : Z.drew.cell? ⟨pd, 0, none⟩ = some (.slice (some ⟨bg, 0, none⟩) n cb) := c0
      have y1 : Z.drew.cell? ⟨pd, 1, none⟩ = some (.slice (some ⟨hg, 0, none⟩) N hc) := c1
      have y2 : Z.drew.cell? ⟨hg, k * 2, none⟩ = some (.int .i64 i) := x0
      have y3 : Z.drew.cell? ⟨hg, k * 2 + 1, none⟩ = some (.slice (some ⟨g, 0, none⟩) 32 c) := x1
      have hlo : B0 ≤ bg := by
        obtain ⟨bs, h4, -⟩ := q2
        obtain ⟨g9, c9, e9, h5, -⟩ := owns_pos h4 (by omega)
        cases e9
        exact h5
      have hcell : ∃ v, Z.drew.cell? ⟨bg, i, none⟩ = some v := by
        obtain ⟨-, g7, c7, h7, -⟩ := q2.at hi
        exact ⟨_, h7⟩
      obtain ⟨v9, y4⟩ := hcell
      have HQ : Hid (Rh (Z.drew.setCell ⟨bg, i, none⟩ (.slice (some ⟨g, 0, none⟩) 32 c)) pd (.slice (some ⟨bg, 0, none⟩) n cb) (.slice (some ⟨hg, 0, none⟩) N hc) s.lf s.ms s.dn s.wr ∧ BR (Z.drew.setCell ⟨bg, i, none⟩ (.slice (some ⟨g, 0, none⟩) 32 c)) B0 bg n cb (((hl s.H 0).take (k + 1)).foldl st s.K) ∧ HR (Z.drew.setCell ⟨bg, i, none⟩ (.slice (some ⟨g, 0, none⟩) 32 c)) B0 (.slice (some ⟨hg, 0, none⟩) N hc) (hl s.H 0)) := Lib.hid (by
        have hne : ∀ (j : Nat) (cur : Array Value) (T : TypeId), Z.drew.heap[j]? = some (.cells cur T (0, 0)) → T ≠ 32 → (Z.drew.setCell ⟨bg, i, none⟩ (.slice (some ⟨g, 0, none⟩) 32 c)).heap[j]? = Z.drew.heap[j]? := fun j cur T hj hT => heap_setCell_other _ _ _ _ (fun e => by
          have e9 : j = bg := e
          have hbt' : Z.drew.heap[bg]? = _ := hbt
          rw [e9, hbt'] at hj
          cases hj
          exact hT rfl)
        refine ⟨⟨(hne pd _ _ q1.head (by decide)).trans q1.head⟩, ?_, ?_⟩
        · have e1 : (hl s.H 0).take (k + 1) = (hl s.H 0).take k ++ [(i, l)] := by rw [List.take_add_one, hxk]; rfl
          rw [e1, List.foldl_append]
          have hB : BR Z.drew B0 bg n cb (((hl s.H 0).take k).foldl st s.K) := q2
          have hO : Oc Z.drew B0 (.slice (some ⟨g, 0, none⟩) 32 c) l := hoc
          exact BR.set hB hi (by rw [st_len]; exact hRf.out.kl.1) hO
        · obtain ⟨hs, h4, h5⟩ := q3
          have h4' : Z.drew.ownsRow B0 71 2 (.slice (some ⟨hg, 0, none⟩) N hc) (hl s.H 0).length hs := h4
          refine ⟨hs, own_keep h4' fun j hj => ?_, fun j y hy => ?_⟩
          · obtain ⟨cur, hc9⟩ := own_type h4' hj
            exact hne j cur _ hc9 (by decide)
          · obtain ⟨h6, u, h7, h8⟩ := h5 j y hy
            have h8' : Oc Z.drew B0 u y.2 := h8
            exact ⟨h6, u, h7, h8'.keep fun j cur hj => hne j cur _ hj (by decide)⟩)
      have HF2 : Hid (Fr B0 w (Z.drew.setCell ⟨bg, i, none⟩ (.slice (some ⟨g, 0, none⟩) 32 c))) := Lib.hid (Fr.trans (Fr.trans HF.out (show Fr B0 Z Z.drew from ⟨⟨rfl, rfl, rfl, Nat.le_refl _, fun _ _ => rfl⟩, fun _ _ _ _ _ _ _ => rfl⟩)) (fr_cell (X := Z.drew) (.inr (.inl rfl)) (show Z.drew.heap[bg]? = _ from hbt) hlo))
      clear q1 q2 q3 HS HF hoc x0 x1 hbt hx hxk hxn
      go_upto_region 6 with (fail)
      (refine Reg.quiet_tail 21 (by kernel_rfl) (by kernel_rfl) ?_; simp only [List.take_succ_cons, List.take_zero, List.drop_succ_cons, List.drop_zero]; (repeat go_big_quiet_step (fail)); refine wpQuiet_nil ?_)
      go_wp2
      exact ⟨⟨k + 1, by omega, by go_num, HQ, HF2⟩, by simp [intOf]; omega⟩
    · obtain rfl : k = N := by omega
      have f1 := q1.fz 1
      have hhd := q1.head
      have hE := q3
      have HZ := Lib.hid (And.intro q1 (And.intro q2 q3))
      clear q1 q2 q3 HS
      go_wp2
      go_ret
      obtain ⟨q1, q2, q3⟩ := HZ.out
      rw [List.take_of_length_le (by rw [HN.out]; exact Nat.le_refl _)] at q2
      have h9 := hRf.out
      have hlen : n ≤ s.H.length := by omega
      obtain ⟨f1, f2, f3⟩ := fl_state s n hlen
      have htk : s.H.take n = s.H := List.take_of_length_le (by omega)
      rw [htk] at f1
      have hnm := fl_nums s n
      have hnil : hl (flN s n).H 0 = [] := hl_none (fun a ha => by
        obtain ⟨j, hj, rfl⟩ := List.getElem_of_mem ha
        have h7 := f3 j (by rw [hnm.2.2.2.2.2] at hj; omega)
        simpa [List.getD, hj] using h7) 0
      have s3 := same3_head (v := .slice none 0 0) (i := 1) hhd
      refine ⟨rfl, ⟨h9.lo, ⟨cb, .slice none 0 0, ?_, ?_, ?_⟩, h9.small, ⟨by rw [hnm.2.2.2.2.1]; exact h9.kl.1, ?_⟩, ⟨by rw [hnm.2.2.2.2.2]; exact h9.hb.1, fl_hb s h9.hb.2 n⟩⟩, Fr.trans HF.out (fr_cell (.inl rfl) (show Z.heap[pd]? = _ from hhd) h9.lo)⟩
      · rw [hnm.1, hnm.2.1, hnm.2.2.1, hnm.2.2.2.1]
        exact ⟨blk_set Z pd 1 _ _ _ hhd⟩
      · rw [f1]
        exact q2.keep s3
      · rw [hnil]
        exact ⟨[], World.ownsRow_nil _ _ _ _, fun j x hx => by simp at hx⟩
      · rw [f1]
        exact st_bd (hl_bd 0 h9.hb.2) h9.kl.2
end Go.Proofs.Ytajoajblmaopjaa.DkR

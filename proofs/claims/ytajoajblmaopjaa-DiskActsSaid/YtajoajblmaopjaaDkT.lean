/-
  The reference's Corrupt.
-/
import Derived.Test.YtajoajblmaopjaaDkS
namespace Go.Proofs.Ytajoajblmaopjaa.DkT
open Go.RowKit Rd
open Go.Proofs.Ytajoajblmaopjaa.Row hiding cs blk3_0 blk3_1 blk3_2
open Mid DkM DkA DkL DkN DkO DkP DkQ DkR DkS
open DkB (rd z32_len kpS)
open DkG (getD_set H_)
open DkH (Bd flip flip_bd tb tb_lt tb_shl tb_pow corS us_at us_set)
set_option linter.unusedVariables false
set_option linter.unusedSimpArgs false
set_option maxRecDepth 10000
variable {X Y : World} {B0 pd bg n : Nat} {s : DS}
theorem own_cell {B e z g m c j : Nat} {bs : List Value} {u : Value} (h : X.ownsRow B e z (.slice (some ⟨g, 0, none⟩) m c) m bs) (hj : j < m * z) : (X.setCell ⟨g, j, none⟩ u).ownsRow B e z (.slice (some ⟨g, 0, none⟩) m c) m (bs.set j u) := by
  obtain ⟨h1, h2⟩ := h
  refine ⟨by rw [List.length_set]; exact h1, ?_⟩
  rcases h2 with ⟨h3, _⟩ | ⟨g', c', cur, h3, hb, hg, hc, hm, hs, ht⟩
  · cases h3
  · cases h3
    refine .inr ⟨g, c, cur.setIfInBounds j u, rfl, hb, blk_set X g j u _ _ hg, hc, hm, by simpa using hs, ?_⟩
    rw [← ht]
    simp [List.take_set]
/-- where a held sector gets other bytes -/
theorem hl_put {H : List (Bool × List Int)} {i p : Nat} {l l' : List Int} (hi : i < H.length) (hq : H[i].1 = true) (hp : (hl H 0)[p]? = some (i, l)) : hl (H.set i (true, l')) 0 = (hl H 0).set p (i, l') := by
  obtain ⟨-, q2⟩ := held_at hi hq
  have e := q2 p _ hp rfl
  rw [hl_set hi, hl_split hi, if_pos hq, if_pos rfl, e]
  simp
theorem HR.put {hv u : Value} {L : List (Nat × List Int)} {p : Nat} {x : Nat × List Int} {l' : List Int} {hg ch : Nat} (h : HR X B0 hv L) (hv9 : hv = .slice (some ⟨hg, 0, none⟩) L.length ch) (hp : L[p]? = some x) (hu : Oc X B0 u l') : HR (X.setCell ⟨hg, p * 2 + 1, none⟩ u) B0 hv (L.set p (x.1, l')) := by
  subst hv9
  obtain ⟨hs, h1, h2⟩ := h
  have hlt := (List.getElem?_eq_some_iff.1 hp).1
  have hl : hs.length = L.length * 2 := h1.1
  obtain ⟨cur0, hc0⟩ := own_type (k := hg) h1 rfl
  have hk : ∀ (k : Nat) (cur : Array Value), X.heap[k]? = some (.cells cur 5 (0, 0)) → (X.setCell ⟨hg, p * 2 + 1, none⟩ u).heap[k]? = X.heap[k]? := fun k cur hk => heap_setCell_other _ _ _ _ (fun e => by
    have e9 : k = hg := e
    rw [e9, hc0] at hk
    cases hk)
  have hne0 : ∀ k : Nat, k * 2 ≠ p * 2 + 1 := fun k => by omega
  refine ⟨hs.set (p * 2 + 1) u, by rw [List.length_set]; exact own_cell h1 (by omega), fun k y hy => ?_⟩
  by_cases e : k = p
  · subst e
    rw [List.getElem?_set_self hlt] at hy
    obtain ⟨h3, -⟩ := h2 k x hp
    cases hy
    exact ⟨by rw [List.getElem?_set_ne (by omega)]; exact h3, u, by rw [List.getElem?_set_self (by omega)], hu.keep hk⟩
  · rw [List.getElem?_set_ne (Ne.symm e)] at hy
    obtain ⟨h3, v, h4, h5⟩ := h2 k y hy
    exact ⟨by rw [List.getElem?_set_ne (by omega)]; exact h3, v, by rw [List.getElem?_set_ne (by omega)]; exact h4, h5.keep hk⟩
theorem rcorrupt_dn (i k : Int) (w : World) (h : Rf w B0 pd bg n s) (hd : s.dn = true) :
    Calls Try.prog 18 #[.pointer (some ⟨pd, 0, none⟩), .int .i64 i, .int .i64 k] w fun e w' => e = .returned (.int .i64 7) ∧ w = w' := by
  obtain ⟨cb, hv, h1, h2, h3⟩ := h.hd
  have c4 := h1.c4
  rw [hd] at c4
  clear h h1 h2 h3
  go_enter Try.func18, Try.ntmps18
  go_wp2
  go_ret
  exact ⟨rfl, rfl⟩
set_option maxHeartbeats 4000000 in
theorem rcorrupt_bad (i k : Int) (w : World) (h : Rf w B0 pd bg n s) (hd : s.dn = false) (hno : ¬ (0 ≤ i ∧ i < n) ∨ ¬ (0 ≤ k ∧ k < 256)) :
    Calls Try.prog 18 #[.pointer (some ⟨pd, 0, none⟩), .int .i64 i, .int .i64 k] w fun e w' => e = .returned (.int .i64 1) ∧ w = w' := by
  obtain ⟨cb, hv, h1, h2, h3⟩ := h.hd
  have c4 := h1.c4
  have c0 := h1.c0
  rw [hd] at c4
  clear h h1 h2 h3
  by_cases h0 : i < 0
  · have d0 : decide (i < 0) = true := decide_eq_true h0
    go_enter Try.func18, Try.ntmps18
    go_wp2
    go_ret
    exact ⟨rfl, rfl⟩
  have d0 : decide (i < 0) = false := decide_eq_false h0
  by_cases h1 : (n : Int) ≤ i
  · have d1 : decide ((n : Int) ≤ i) = true := decide_eq_true h1
    go_enter Try.func18, Try.ntmps18
    go_wp2
    go_ret
    exact ⟨rfl, rfl⟩
  have d1 : decide ((n : Int) ≤ i) = false := decide_eq_false h1
  by_cases h2 : k < 0
  · have d2 : decide (k < 0) = true := decide_eq_true h2
    go_enter Try.func18, Try.ntmps18
    go_wp2
    go_ret
    exact ⟨rfl, rfl⟩
  have d2 : decide (k < 0) = false := decide_eq_false h2
  have d3 : decide (255 < k) = true := decide_eq_true (by omega)
  go_enter Try.func18, Try.ntmps18
  go_wp2
  go_ret
  exact ⟨rfl, rfl⟩
theorem Oc.flip {g c k : Nat} {l : List Int} (h : Oc X B0 (.slice (some ⟨g, 0, none⟩) 32 c) l) (hl : Bd l) (hk : k < 256) {z : Nat} (hz : l.getD (k / 8) 0 = (z : Int)) : Oc (X.setCell ⟨g, k / 8, none⟩ (.int .u8 ((z ^^^ tb k : Nat) : Int))) B0 (.slice (some ⟨g, 0, none⟩) 32 c) (DkH.flip l k) := by
  unfold DkH.flip Oc
  rw [hz, Int.toNat_natCast, ← us_set]
  exact own_cell h (by omega)
set_option maxHeartbeats 8000000 in
theorem rcorrupt_any (i k : Nat) (w : World) (h : Rf w B0 pd bg n s) (hd : s.dn = false) (hi : i < n) (hk : k < 256) :
    Calls Try.prog 18 #[.pointer (some ⟨pd, 0, none⟩), .int .i64 i, .int .i64 k] w fun e w' => e = .returned (.int .i64 0) ∧ Rf w' B0 pd bg n (corS s i k) ∧ Fr B0 w w' := by
  obtain ⟨cb, hv, h1, h2, h3⟩ := h.hd
  have hlo := h.lo
  have hPt : Pt w B0 pd bg n cb hv s s.K (hl s.H 0) := ⟨h1, h2, h3⟩
  have HPT := Lib.hid hPt
  have c4 := h1.c4
  have c0 := h1.c0
  have hlt := blk_lt h1.head
  rw [hd] at c4
  have hKi : i < s.K.length := by rw [h.kl.1]; exact hi
  have hHi : i < s.H.length := by rw [h.hb.1]; exact hi
  obtain ⟨l, hl9⟩ : ∃ l, s.K.getD i [] = l := ⟨_, rfl⟩
  have hBl : Bd l := by
    have e : s.K[i] = l := by rw [← hl9]; simp [List.getD, hKi]
    rw [← e]; exact h.kl.2 _ (List.getElem_mem hKi)
  obtain ⟨hnc, g, c, x1, hc, hcm, hRd⟩ := h2.at hi
  rw [hl9] at hRd
  have hRf := Lib.hid h
  obtain ⟨z, ez⟩ := Int.eq_ofNat_of_zero_le (hBl.at (k / 8)).1
  have hz := hBl.at (k / 8)
  rw [ez] at hz
  obtain ⟨r, hr⟩ : ∃ r, k / 8 = r := ⟨_, rfl⟩
  obtain ⟨r2, hr2⟩ : ∃ r, k % 8 = r := ⟨_, rfl⟩
  obtain ⟨t, ht⟩ : ∃ t, tb k = t := ⟨_, rfl⟩
  have hr8 : r < 32 := by omega
  have ht8 : t < 256 := by rw [← ht]; exact tb_lt k
  have hxr : bits .xor .u8 (z : Int) (t : Int) = ((z ^^^ t : Nat) : Int) := u8_xor_nat z t (by omega) ht8
  have hsl := tb_shl k
  have hpw := tb_pow k
  rw [hr2, ht] at hsl hpw
  have hq' : (k : Int) / 8 = (r : Int) := by omega
  have hr' : (k : Int) % 8 = (r2 : Int) := by omega
  have hr8' : (r : Int) < 32 := by omega
  have d0 : decide ((i : Int) < 0) = false := decide_eq_false (by omega)
  have d1 : decide ((n : Int) ≤ (i : Int)) = false := decide_eq_false (by omega)
  have d2 : decide ((k : Int) < 0) = false := decide_eq_false (by omega)
  have d3 : decide (255 < (k : Int)) = false := decide_eq_false (by omega)
  have hib : (i : Int) < (n : Int) := by omega
  have hi0 : (0 : Int) ≤ (i : Int) := by omega
  obtain ⟨j0, hj, hz0, hz1, hz2⟩ := info_parts info_by
  have hmade := World.ownsRow_made w (e := 5) (size := 1) (base := w.heap.size) #[] 0 (Nat.le_refl _) (by decide) rfl
  have hB : Below w.heap.size w (w.alloc (.cells #[] 5)) := (Below.refl _ _).alloc (Nat.le_refl _) _
  have RA := hRd.below hB (Nat.le_refl _)
  have lg := reads_lt x1
  have HR8 := Lib.hid hr
  have HT := Lib.hid ht
  have HEZ := Lib.hid ez
  have HBL := Lib.hid hBl
  have HL9 := Lib.hid hl9
  clear h h1 h2 h3 hd hPt hRd hl9 hr hr2 ht ez hBl
  go_enter Try.func18, Try.ntmps18
  go_upto_region 6 with (at_builtin; refine App.wpList_append_reads _ rfl (.tmp 33) (.tmp 40) 32 rfl w.heap.size 5 j0 _ 1 1 Try.underlying32 hj hz0 hz1 hz2 rfl (by decide) _ _ _ rfl hmade (some ⟨g, 0, none⟩) 32 c (us l) rfl RA (us_ones _) (by unfold maxLen; omega) (by omega) (by simp) ?_; intro v3 w3 hown3 hgrow3; rw [Nat.zero_add] at hown3; obtain ⟨g3, c3, rfl, hg3, hl3, hc3, hm3, hcell3⟩ := owns_pos hown3 (by omega))
  have B3 : Below w.heap.size w w3 := hB.grown hgrow3 (by simp) (fun j hj => (hmade.lt j hj).1)
  have hO3 : Oc w3.drew w.heap.size (.slice (some ⟨g3, 0, none⟩) 32 c3) l := by
    have h9 : w3.ownsRow w.heap.size 5 1 (.slice (some ⟨g3, 0, none⟩) 32 c3) 32 (us l) := by simpa using hown3
    exact h9
  have hlen := HBL.out.1
  have z3 : w3.drew.cell? ⟨g3, r, none⟩ = some (.int .u8 (z : Int)) := by
    have h9 := hcell3 r (by omega)
    show w3.cell? _ = _
    rw [h9]
    have h8 := us_at (l := l) (j := r) (by omega)
    have h7 := HEZ.out
    rw [HR8.out] at h7
    rw [h7] at h8
    simpa using h8
  have f3 : w3.drew.frozen? ⟨g3, r, none⟩ = false := by
    obtain ⟨cur, h9⟩ := own_type (k := g3) hO3 rfl
    exact blk_frozen (w := w3.drew) h9 r
  have hO2 := Lib.hid (Oc.flip hO3 HBL.out hk HEZ.out)
  have BX : Hid (∀ v, Below w.heap.size w (w3.drew.setCell ⟨g3, r, none⟩ v)) := Lib.hid fun v => B3.trans ⟨rfl, rfl, rfl, by simp, fun k1 h1 => heap_setCell_other _ _ _ _ (by show k1 ≠ g3; omega)⟩
  rw [HR8.out, HT.out] at hO2
  clear hown3 hgrow3 hcell3 B3 hO3 RA hB hmade c0 c4 x1 lg d0 d1 d2 d3
  (refine Reg.quiet_tail 13 (by kernel_rfl) (by kernel_rfl) ?_; simp only [List.take_succ_cons, List.take_zero, List.drop_succ_cons, List.drop_zero]; (repeat go_big_quiet_step (fail)); refine wpQuiet_nil ?_)
  go_upto_region 7 with (fail)
  refine Rd.name_world ?_
  intro X2 hX2
  have hX2' : X2 = w3.drew.setCell ⟨g3, r, none⟩ (.int .u8 ((z ^^^ t : Nat) : Int)) := hX2
  have BX2 := BX.out (.int .u8 ((z ^^^ t : Nat) : Int))
  rw [← hX2'] at hO2 BX2
  have P2 := HPT.out.keep (Same.of_below BX2)
  obtain ⟨hblo, -, cur0, hbt⟩ := P2.brow (by omega)
  have c0 := P2.1.c0
  obtain ⟨-, g7, c7, x7, -⟩ := P2.2.1.at hi
  have fz := blk_frozen (w := X2) (show blk X2 bg = _ from hbt) i
  have hOm : Oc X2 B0 (.slice (some ⟨g3, 0, none⟩) 32 c3) (DkH.flip l k) := owns_mono hO2.out (by omega)
  have HP3 := Lib.hid (P2.put (u := .slice (some ⟨g3, 0, none⟩) 32 c3) hi hRf.out.kl.1 hOm)
  have HF3 : Hid (Fr B0 w (X2.setCell ⟨bg, i, none⟩ (.slice (some ⟨g3, 0, none⟩) 32 c3))) := Lib.hid (Fr.trans (Fr.step (Fr.refl w) (BX2.mono (by omega)) (fun j hj => BX2.block j hj)) (fr_cell (.inr (.inl rfl)) hbt hblo))
  have hsz2 := BX2.size
  clear hX2 hX2' BX P2 hbt hOm hO2 BX2 z3 f3 hg3 hl3
  go_upto_region 8 with (fail)
  refine Rd.name_world ?_
  intro X3 hX3
  rw [← hX3] at HP3 HF3
  have hsz3 : w.heap.size ≤ X3.heap.size := by rw [hX3]; simpa using hsz2
  clear hX3 c0 x7 fz hsz2
  have R3 : Rf X3 B0 pd bg n (s.setK i (DkH.flip l k)) := ⟨hlo, ⟨cb, hv, HP3.out.1, HP3.out.2.1, HP3.out.2.2⟩, hRf.out.small, ⟨by show (s.K.set i _).length = n; rw [List.length_set]; exact hRf.out.kl.1, fun l9 h9 => by
    rcases List.mem_or_eq_of_mem_set h9 with h8 | h8
    · exact hRf.out.kl.2 _ h8
    · rw [h8]; exact flip_bd HBL.out k⟩, hRf.out.hb⟩
  have HR3 := Lib.hid R3
  go_wp2_with fail
  refine (rback i X3 R3 hi).mono ?_
  rintro e _ ⟨rfl, hr9⟩
  clear R3
  rcases hr9 with ⟨p, hp, rfl, l2, hx, hy⟩ | ⟨rfl, hy⟩
  · replace hx : (hl s.H 0)[p]? = some (i, l2) := hx
    replace hy : s.H.getD i (false, []) = (true, l2) := hy
    replace hp : p < (hl s.H 0).length := hp
    have hHg : s.H[i] = (true, l2) := by
      have e : s.H.getD i (false, []) = s.H[i] := by simp [List.getD, hHi]
      rw [← e]; exact hy
    have hB2 : Bd l2 := by
      have := hRf.out.hb.2 _ (List.getElem_mem hHi)
      rw [hHg] at this
      exact this
    have hC : corS s i k = (s.setK i (DkH.flip l k)).setH i true (DkH.flip l2 k) := by
      have hy' : s.H.getD i (false, []) = (true, l2) := hy
      unfold corS
      rw [hy', if_pos rfl, HL9.out]
    have HC := Lib.hid hC
    have HPUT := Lib.hid (hl_put (l' := DkH.flip l2 k) hHi (by rw [hHg]) hx)
    have HX := Lib.hid hx
    obtain ⟨hg, ch, gH, cH, ehv, y0, y1, hoc⟩ := HR.own HP3.out.2.2 hx
    obtain ⟨gH', cH', e9, hcH, hcHm, hRd⟩ := hoc.rd
    cases e9
    obtain ⟨N, hN⟩ : ∃ N, (hl s.H 0).length = N := ⟨_, rfl⟩
    have HN := Lib.hid hN
    rw [hN] at ehv hp
    subst ehv
    have c1 := HP3.out.1.c1
    have hp' : (p : Int) < (N : Int) := by omega
    have hp0 : (0 : Int) ≤ (p : Int) := by omega
    have hN2 : N ≤ 2048 := by
      have h7 := hl_le s.H 0
      have h6 := hRf.out.hb.1
      have h5 := hRf.out.small
      omega
    obtain ⟨y, ey⟩ := Int.eq_ofNat_of_zero_le (hB2.at r).1
    have hyb := hB2.at r
    rw [ey] at hyb
    have hyr : bits .xor .u8 (y : Int) (t : Int) = ((y ^^^ t : Nat) : Int) := u8_xor_nat y t (by omega) ht8
    have hmade := World.ownsRow_made X3 (e := 5) (size := 1) (base := X3.heap.size) #[] 0 (Nat.le_refl _) (by decide) rfl
    have hB := (Below.refl X3.heap.size X3).alloc (Nat.le_refl _) (.cells #[] 5)
    have RA := hRd.below hB (Nat.le_refl _)
    have lg := reads_lt y1
    have hlt3 : pd < X3.heap.size := by omega
    have HEY := Lib.hid ey
    have HB2 := Lib.hid hB2
    clear hx hy hHg hB2 hC hoc hRd hN ey y0
    go_upto_region 10 with (fail)
    go_upto_region 11 with (at_builtin; refine App.wpList_append_reads _ rfl (.tmp 67) (.tmp 75) 32 rfl X3.heap.size 5 j0 _ 1 1 Try.underlying32 hj hz0 hz1 hz2 rfl (by decide) _ _ _ rfl hmade (some ⟨gH, 0, none⟩) 32 cH (us l2) rfl RA (us_ones _) (by unfold maxLen; omega) (by omega) (by simp) ?_; intro v5 w5 hown5 hgrow5; rw [Nat.zero_add] at hown5; obtain ⟨g5, c5, rfl, hg5, hl5, hc5, hm5, hcell5⟩ := owns_pos hown5 (by omega))
    have B5 : Below X3.heap.size X3 w5 := hB.grown hgrow5 (by simp) (fun j hj => (hmade.lt j hj).1)
    have hO5 : Oc w5.drew X3.heap.size (.slice (some ⟨g5, 0, none⟩) 32 c5) l2 := by
      have h9 : w5.ownsRow X3.heap.size 5 1 (.slice (some ⟨g5, 0, none⟩) 32 c5) 32 (us l2) := by simpa using hown5
      exact h9
    have hlen2 := HB2.out.1
    have z5 : w5.drew.cell? ⟨g5, r, none⟩ = some (.int .u8 (y : Int)) := by
      have h9 := hcell5 r (by omega)
      show w5.cell? _ = _
      rw [h9]
      have h8 := us_at (l := l2) (j := r) (by omega)
      rw [HEY.out] at h8
      simpa using h8
    have f5 : w5.drew.frozen? ⟨g5, r, none⟩ = false := by
      obtain ⟨cur, h9⟩ := own_type (k := g5) hO5 rfl
      exact blk_frozen (w := w5.drew) h9 r
    have hO6 := Lib.hid (Oc.flip hO5 HB2.out hk (z := y) (by rw [HR8.out]; exact HEY.out))
    have BX : Hid (∀ v, Below X3.heap.size X3 (w5.drew.setCell ⟨g5, r, none⟩ v)) := Lib.hid fun v => B5.trans ⟨rfl, rfl, rfl, by simp, fun k1 h1 => heap_setCell_other _ _ _ _ (by show k1 ≠ g5; omega)⟩
    rw [HR8.out, HT.out] at hO6
    clear hown5 hgrow5 hcell5 B5 hO5 RA hB hmade c1 y1 lg
    (refine Reg.quiet_tail 13 (by kernel_rfl) (by kernel_rfl) ?_; simp only [List.take_succ_cons, List.take_zero, List.drop_succ_cons, List.drop_zero]; (repeat go_big_quiet_step (fail)); refine wpQuiet_nil ?_)
    go_upto_region 12 with (fail)
    refine Rd.name_world ?_
    intro X6 hX6
    have hX6' : X6 = w5.drew.setCell ⟨g5, r, none⟩ (.int .u8 ((y ^^^ t : Nat) : Int)) := hX6
    have BX6 := BX.out (.int .u8 ((y ^^^ t : Nat) : Int))
    rw [← hX6'] at hO6 BX6
    have P6 := HP3.out.keep (Same.of_below BX6)
    have c1 := P6.1.c1
    obtain ⟨hg', ch', g8, c8, e8, -, y8, -⟩ := HR.own P6.2.2 HX.out
    rw [HN.out] at e8
    cases e8
    have hht : ∃ cur0, X6.heap[hg]? = some (.cells cur0 71 (0, 0)) ∧ B0 ≤ hg := by
      obtain ⟨hs, h4, -⟩ := P6.2.2
      obtain ⟨cur, h5⟩ := own_type (k := hg) h4 rfl
      obtain ⟨g9, c9, e9, h6, -⟩ := owns_pos h4 (by rw [HN.out]; omega)
      cases e9
      exact ⟨cur, h5, h6⟩
    obtain ⟨cur0, hht, hhlo⟩ := hht
    have fz := blk_frozen (w := X6) (show blk X6 hg = _ from hht) (p * 2 + 1)
    have hOm : Oc X6 B0 (.slice (some ⟨g5, 0, none⟩) 32 c5) (DkH.flip l2 k) := owns_mono hO6.out (by omega)
    have hne : ∀ (j : Nat) (cur : Array Value) (T : TypeId) (v : Value), X6.heap[j]? = some (.cells cur T (0, 0)) → T ≠ 71 → (X6.setCell ⟨hg, p * 2 + 1, none⟩ v).heap[j]? = X6.heap[j]? := fun j cur T v hj hT => heap_setCell_other _ _ _ _ (fun e => by
      have e9 : j = hg := e
      rw [e9, hht] at hj
      cases hj
      exact hT rfl)
    have HP7 : Hid (Rh (X6.setCell ⟨hg, p * 2 + 1, none⟩ (.slice (some ⟨g5, 0, none⟩) 32 c5)) pd (.slice (some ⟨bg, 0, none⟩) n cb) (.slice (some ⟨hg, 0, none⟩) N ch) s.lf s.ms s.dn s.wr ∧ BR (X6.setCell ⟨hg, p * 2 + 1, none⟩ (.slice (some ⟨g5, 0, none⟩) 32 c5)) B0 bg n cb (s.K.set i (DkH.flip l k)) ∧ HR (X6.setCell ⟨hg, p * 2 + 1, none⟩ (.slice (some ⟨g5, 0, none⟩) 32 c5)) B0 (.slice (some ⟨hg, 0, none⟩) N ch) ((hl s.H 0).set p (i, DkH.flip l2 k))) := Lib.hid (by
      refine ⟨⟨(hne pd _ _ _ P6.1.head (by decide)).trans P6.1.head⟩, ?_, HR.put P6.2.2 (by rw [HN.out]) HX.out hOm⟩
      obtain ⟨bs, h4, h5⟩ := P6.2.1
      refine ⟨bs, own_keep h4 fun j hj => ?_, fun j hj => ?_⟩
      · obtain ⟨cur, h6⟩ := own_type h4 hj
        exact hne j cur _ _ h6 (by decide)
      · obtain ⟨u, h6, h7⟩ := h5 j hj
        exact ⟨u, h6, h7.keep fun j cur hj => hne j cur _ _ hj (by decide)⟩)
    have HF7 : Hid (Fr B0 w (X6.setCell ⟨hg, p * 2 + 1, none⟩ (.slice (some ⟨g5, 0, none⟩) 32 c5))) := Lib.hid (Fr.trans (Fr.step HF3.out (BX6.mono (by omega)) (fun j hj => BX6.block j (by omega))) (fr_cell (.inr (.inr rfl)) hht hhlo))
    clear hX6 hX6' BX P6 hht hOm hO6 BX6 z5 f5 hg5 hl5 hne
    go_wp2
    go_ret
    have h9 := hRf.out
    refine ⟨rfl, ?_, HF7.out⟩
    rw [HC.out]
    refine ⟨hlo, ⟨cb, _, HP7.out.1, HP7.out.2.1, ?_⟩, h9.small, ⟨by show (s.K.set i _).length = n; rw [List.length_set]; exact h9.kl.1, fun l9 h8 => ?_⟩, ⟨by show (s.H.set i _).length = n; rw [List.length_set]; exact h9.hb.1, fun x9 h8 => ?_⟩⟩
    · show HR _ B0 _ (hl (s.H.set i (true, DkH.flip l2 k)) 0)
      rw [HPUT.out]
      exact HP7.out.2.2
    · rcases List.mem_or_eq_of_mem_set h8 with h7 | h7
      · exact h9.kl.2 _ h7
      · rw [h7]; exact flip_bd HBL.out k
    · rcases List.mem_or_eq_of_mem_set h8 with h7 | h7
      · exact h9.hb.2 _ h7
      · rw [h7]; exact flip_bd HB2.out k
  · have hC : corS s i k = s.setK i (DkH.flip l k) := by
      have hy' : (s.H.getD i (false, [])).1 = false := hy
      unfold corS
      rw [if_neg (by rw [hy']; decide), HL9.out]
    have HC := Lib.hid hC
    clear hy hC
    go_wp2
    go_ret
    exact ⟨rfl, by rw [HC.out]; exact HR3.out, HF3.out⟩
end Go.Proofs.Ytajoajblmaopjaa.DkT

/-
  The reference's Read.
-/
import Derived.Test.YtajoajblmaopjaaDkO
namespace Go.Proofs.Ytajoajblmaopjaa.DkP
open Go.RowKit Rd
open Go.Proofs.Ytajoajblmaopjaa.Row hiding cs blk3_0 blk3_1 blk3_2
open Mid DkM DkA DkL DkN DkO
open DkB (rd)
open DkH (Bd)
set_option linter.unusedVariables false
set_option linter.unusedSimpArgs false
set_option maxRecDepth 10000
variable {X Y : World} {B0 pd bg n : Nat} {s : DS}
theorem info_by : (Try.prog.info? 5).map (fun i => (i.zero, i.size, i.bytes)) = some (some (.int .u8 0), 1, 1) := by kernel_rfl
theorem reads_lt {X : World} {g k : Nat} {v : Value} (h : X.cell? ⟨g, k, none⟩ = some v) : g < X.heap.size := by
  rcases Nat.lt_or_ge g X.heap.size with h1 | h1
  · exact h1
  · unfold World.cell? at h
    rw [Array.getElem?_eq_none h1] at h
    split at h <;> simp_all
theorem us_ones (l : List Int) : ∀ u ∈ us l, u.oneCell' = true := by
  intro u hu
  obtain ⟨z, -, rfl⟩ := List.mem_map.1 hu
  rfl
set_option maxHeartbeats 2000000 in
theorem rread_dn (i : Int) (w : World) (h : Rf w B0 pd bg n s) (hd : s.dn = true) :
    Calls Try.prog 23 #[.pointer (some ⟨pd, 0, none⟩), .int .i64 i] w fun e w' => e = .returned (.tuple #[.slice none 0 0, .int .i64 7]) ∧ w = w' := by
  obtain ⟨cb, hv, h1, h2, h3⟩ := h.hd
  have c4 := h1.c4
  rw [hd] at c4
  clear h h1 h2 h3
  go_enter Try.func23, Try.ntmps23
  go_wp2
  go_ret2
  exact ⟨rfl, rfl⟩
set_option maxHeartbeats 2000000 in
theorem rread_bad (i : Int) (w : World) (h : Rf w B0 pd bg n s) (hd : s.dn = false) (hi : ¬ (0 ≤ i ∧ i < n)) :
    Calls Try.prog 23 #[.pointer (some ⟨pd, 0, none⟩), .int .i64 i] w fun e w' => e = .returned (.tuple #[.slice none 0 0, .int .i64 1]) ∧ w = w' := by
  obtain ⟨cb, hv, h1, h2, h3⟩ := h.hd
  have c4 := h1.c4
  have c0 := h1.c0
  rw [hd] at c4
  clear h h1 h2 h3
  by_cases h0 : i < 0
  · have d0 : decide (i < 0) = true := decide_eq_true h0
    go_enter Try.func23, Try.ntmps23
    go_wp2
    go_ret2
    exact ⟨rfl, rfl⟩
  · have d0 : decide (i < 0) = false := decide_eq_false h0
    have d1 : decide ((n : Int) ≤ i) = true := decide_eq_true (by omega)
    go_enter Try.func23, Try.ntmps23
    go_wp2
    go_ret2
    exact ⟨rfl, rfl⟩
set_option maxHeartbeats 4000000 in
theorem rread_any (i : Nat) (w : World) (h : Rf w B0 pd bg n s) (hd : s.dn = false) (hi : i < n) :
    Calls Try.prog 23 #[.pointer (some ⟨pd, 0, none⟩), .int .i64 i] w fun e w' => (∃ v, e = .returned (.tuple #[v, .int .i64 0]) ∧ w'.ownsRow w.heap.size 5 1 v 32 (us (rd s i))) ∧ Below w.heap.size w w' := by
  obtain ⟨cb, hv, h1, h2, h3⟩ := h.hd
  have c4 := h1.c4
  have c0 := h1.c0
  have c1 := h1.c1
  have hlt := blk_lt h1.head
  rw [hd] at c4
  have d0 : decide ((i : Int) < 0) = false := decide_eq_false (by omega)
  have d1 : decide ((n : Int) ≤ (i : Int)) = false := decide_eq_false (by omega)
  have CB := Lib.hid (rback i w h hi)
  have hib : (i : Int) < (n : Int) := by omega
  have hn2 := h.small.2
  have hle : (hl s.H 0).length ≤ 2048 := by have := hl_le s.H 0; have := h.hb.1; omega
  obtain ⟨j0, hj, hz0, hz1, hz2⟩ := info_parts info_by
  have H2 := Lib.hid h2
  have H3 := Lib.hid h3
  have hmade := World.ownsRow_made w (e := 5) (size := 1) (base := w.heap.size) #[] 0 (Nat.le_refl _) (by decide) rfl
  have hB : Below w.heap.size w (w.alloc (.cells #[] 5)) := (Below.refl _ _).alloc (Nat.le_refl _) _
  clear h h1 h2 h3 hd
  go_enter Try.func23, Try.ntmps23
  go_wp2_with fail
  refine CB.out.mono ?_
  rintro e _ ⟨rfl, hr⟩
  rcases hr with ⟨k, hk, rfl, l, hx, hy⟩ | ⟨rfl, hy⟩
  · have hrd : rd s i = l := by unfold rd; rw [hy]; rfl
    obtain ⟨hg, ch, g, c, rfl, hch, x0, x1, hc, hcm, hRd⟩ := H3.out.at hx
    have hk' : (k : Int) < ((hl s.H 0).length : Int) := by omega
    have hk0 : (0 : Int) ≤ (k : Int) := by omega
    have RA := hRd.below hB (Nat.le_refl _)
    have lg := (reads_lt x1)
    have HRD := Lib.hid hrd
    obtain ⟨N, hN⟩ : ∃ N, (hl s.H 0).length = N := ⟨_, rfl⟩
    rw [hN] at c1 hk' hk hch hle
    clear CB hx hy hrd hRd x0 hN
    go_wp2_with (at_builtin; refine App.wpList_append_reads _ rfl (.tmp 27) (.tmp 35) 32 rfl w.heap.size 5 j0 _ 1 1 Try.underlying32 hj hz0 hz1 hz2 rfl (by decide) _ _ _ rfl hmade (some ⟨g, 0, none⟩) 32 c (us l) rfl RA (us_ones _) (by unfold maxLen; omega) (by omega) (by simp) ?_; intro v3 w3 hown3 hgrow3)
    go_ret2
    exact ⟨⟨_, rfl, by rw [HRD.out]; simpa using hown3⟩, hB.grown hgrow3 (by simp) (fun j hj => (hmade.lt j hj).1)⟩
  · have hrd : rd s i = s.K.getD i [] := by unfold rd; rw [if_neg (by rw [hy]; decide)]
    obtain ⟨hnc, g, c, x1, hc, hcm, hRd⟩ := H2.out.at hi
    have RA := hRd.below hB (Nat.le_refl _)
    have lg := (reads_lt x1)
    have HRD := Lib.hid hrd
    obtain ⟨l, hl⟩ : ∃ l, s.K.getD i [] = l := ⟨_, rfl⟩
    rw [hl] at RA HRD
    clear CB hy hrd hRd hl
    go_wp2_with (at_builtin; refine App.wpList_append_reads _ rfl (.tmp 37) (.tmp 44) 32 rfl w.heap.size 5 j0 _ 1 1 Try.underlying32 hj hz0 hz1 hz2 rfl (by decide) _ _ _ rfl hmade (some ⟨g, 0, none⟩) 32 c (us l) rfl RA (us_ones _) (by unfold maxLen; omega) (by omega) (by simp) ?_; intro v3 w3 hown3 hgrow3)
    go_ret2
    exact ⟨⟨_, rfl, by rw [HRD.out]; simpa using hown3⟩, hB.grown hgrow3 (by simp) (fun j hj => (hmade.lt j hj).1)⟩
end Go.Proofs.Ytajoajblmaopjaa.DkP

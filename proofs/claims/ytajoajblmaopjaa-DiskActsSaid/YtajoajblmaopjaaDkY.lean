/-
  The reference's Write of a sector that is held already.
-/
import Derived.Test.YtajoajblmaopjaaDkV
import Derived.Deep.CutRange
namespace Go.Proofs.Ytajoajblmaopjaa.DkY
open Go.RowKit Rd
open Go.Proofs.Ytajoajblmaopjaa.Row hiding cs blk3_0 blk3_1 blk3_2
open Mid DkM DkA DkL DkN DkO DkP DkQ DkR DkS DkT DkV
open DkB (rd z32_len kpS wrS)
open DkG (getD_set H_)
open DkH (Bd)
set_option linter.unusedVariables false
set_option linter.unusedSimpArgs false
set_option maxRecDepth 10000
variable {X Y : World} {B0 pd bg n : Nat} {s : DS}
set_option maxHeartbeats 8000000 in
theorem rwrite_held (i : Nat) (sb so c : Nat) (l : List Int) (w : World) (h : Rf w B0 pd bg n s) (hd : s.dn = false) (hi : i < n) (hf : s.lf ≠ 0) (hf2 : -1 ≤ s.lf ∧ s.lf ≤ 1048576) (hw2 : 0 ≤ s.wr ∧ s.wr ≤ 1000000) (hl : Bd l)
    (hq : (s.H.getD i (false, [])).1 = true) (hsrc : ∀ Y, Fr B0 w Y → Reads Y 1 (some ⟨sb, so, none⟩) 32 (us l)) :
    Calls Try.prog 12 #[.pointer (some ⟨pd, 0, none⟩), .int .i64 i, .slice (some ⟨sb, so, none⟩) 32 c] w fun e w' => e = .returned (.int .i64 0) ∧ Rf w' B0 pd bg n (wrS s i l) ∧ Fr B0 w w' := by
  obtain ⟨cb, hv, h1, h2, h3⟩ := h.hd
  have hlo := h.lo
  have hRf := Lib.hid h
  have HSRC := Lib.hid hsrc
  have HL := Lib.hid hl
  have HQ9 := Lib.hid hq
  clear hq
  have H1 := Lib.hid h1
  have H2 := Lib.hid h2
  have H3 := Lib.hid h3
  obtain ⟨fu, hfu⟩ : ∃ fu, (if s.lf = -1 then s.lf else s.lf - 1) = fu := ⟨_, rfl⟩
  have c4 := h1.c4
  have c0 := h1.c0
  have c2 := h1.c2
  have f2 := h1.fz 2
  have hlt := blk_lt h1.head
  rw [hd] at c4
  have d0 : decide ((i : Int) < 0) = false := decide_eq_false (by omega)
  have d1 : decide ((n : Int) ≤ (i : Int)) = false := decide_eq_false (by omega)
  have d1n : decide (n ≤ i) = false := decide_eq_false (by omega)
  have e0 : (s.lf == 0) = false := by simpa using hf
  have HF0 := Lib.hid hf
  have hHi : i < s.H.length := by rw [h.hb.1]; exact hi
  clear h h1 h2 h3 hd hsrc hl hf
  go_enter Try.func12, Try.ntmps12
  go_upto_if 42 with (fail)
  go_cut [42] from 43 to 49 (fun _ Y => Hid (Rh Y pd (.slice (some ⟨bg, 0, none⟩) n cb) hv fu s.ms s.dn s.wr ∧ BR Y B0 bg n cb s.K ∧ HR Y B0 hv (hl s.H 0)) ∧ Hid (Fr B0 w Y) ∧ w.heap.size ≤ Y.heap.size)
  case first =>
    by_cases hp : 0 < s.lf
    · have dp : decide (0 < s.lf) = true := decide_eq_true hp
      have hfu' : s.lf - 1 = fu := by rw [← hfu, if_neg (by omega)]
      have s2 := same3_head (v := .int .i64 (s.lf - 1)) (i := 2) H1.out.head
      have HN : Hid (Rh (w.setCell ⟨pd, 2, none⟩ (.int .i64 (s.lf - 1))) pd (.slice (some ⟨bg, 0, none⟩) n cb) hv fu s.ms s.dn s.wr ∧ BR (w.setCell ⟨pd, 2, none⟩ (.int .i64 (s.lf - 1))) B0 bg n cb s.K ∧ HR (w.setCell ⟨pd, 2, none⟩ (.int .i64 (s.lf - 1))) B0 hv (hl s.H 0)) := Lib.hid ⟨hfu' ▸ H1.out.set2 (s.lf - 1), H2.out.keep s2, H3.out.keep s2⟩
      have HF : Hid (Fr B0 w (w.setCell ⟨pd, 2, none⟩ (.int .i64 (s.lf - 1)))) := Lib.hid (fr_cell (.inl rfl) (show w.heap[pd]? = _ from H1.out.head) hlo)
      clear s2 hfu hfu'
      go_wp2_with fail
      try go_meet
      try (case rel => exact ⟨HN, HF, by simp⟩)
    · have dp : decide (0 < s.lf) = false := decide_eq_false hp
      have hf9 := HF0.out
      have hfu' : s.lf = fu := by rw [← hfu, if_pos (by omega)]
      have HN : Hid (Rh w pd (.slice (some ⟨bg, 0, none⟩) n cb) hv fu s.ms s.dn s.wr ∧ BR w B0 bg n cb s.K ∧ HR w B0 hv (hl s.H 0)) := Lib.hid ⟨hfu' ▸ H1.out, H2.out, H3.out⟩
      clear hfu hfu'
      go_wp2_with fail
      try go_meet
      try (case rel => exact ⟨HN, Lib.hid (Fr.refl _), Nat.le_refl _⟩)
  case rest =>
  obtain ⟨HN, HF, hsz⟩ := hcut
  rename World => Y
  have c5 := HN.out.1.c5
  have f5 := HN.out.1.fz 5
  have hhd := HN.out.1.head
  have s5 := same3_head (v := .int .i64 (s.wr + 1)) (i := 5) hhd
  have HN1 : Hid (Rh (Y.setCell ⟨pd, 5, none⟩ (.int .i64 (s.wr + 1))) pd (.slice (some ⟨bg, 0, none⟩) n cb) hv fu s.ms s.dn (s.wr + 1) ∧ BR (Y.setCell ⟨pd, 5, none⟩ (.int .i64 (s.wr + 1))) B0 bg n cb s.K ∧ HR (Y.setCell ⟨pd, 5, none⟩ (.int .i64 (s.wr + 1))) B0 hv (hl s.H 0)) := Lib.hid ⟨HN.out.1.set5 (s.wr + 1), HN.out.2.1.keep s5, HN.out.2.2.keep s5⟩
  have HF1 : Hid (Fr B0 w (Y.setCell ⟨pd, 5, none⟩ (.int .i64 (s.wr + 1)))) := Lib.hid (Fr.trans HF.out (fr_cell (.inl rfl) (show Y.heap[pd]? = _ from hhd) hlo))
  clear hhd s5 HN HF H1 H2 H3 c4 c0 c2 f2
  go_upto_region 11 with (fail)
  refine Rd.name_world ?_
  intro X1 hX1
  rw [← hX1] at HN1 HF1
  have hsz1 : w.heap.size ≤ X1.heap.size := by rw [hX1]; simpa using hsz
  have hRd := HSRC.out X1 HF1.out
  obtain ⟨j0, hj, hz0, hz1, hz2⟩ := info_parts info_by
  have hmade := World.ownsRow_made X1 (e := 5) (size := 1) (base := X1.heap.size) #[] 0 (Nat.le_refl _) (by decide) rfl
  have hB := (Below.refl X1.heap.size X1).alloc (Nat.le_refl _) (.cells #[] 5)
  have RA := hRd.below hB (Nat.le_refl _)
  clear hX1 c5 f5 hsz hRd
  go_upto_region 12 with (at_builtin; refine App.wpList_append_reads _ rfl (.tmp 57) (.tmp 58) 32 rfl X1.heap.size 5 j0 _ 1 1 Try.underlying32 hj hz0 hz1 hz2 rfl (by decide) _ _ _ rfl hmade (some ⟨sb, so, none⟩) 32 c (us l) rfl RA (us_ones _) (by unfold maxLen; omega) (by omega) (by simp) ?_; intro v3 w3 hown3 hgrow3; rw [Nat.zero_add] at hown3; obtain ⟨g3, c3, rfl, hg3, hl3, hc3, hm3, hcell3⟩ := owns_pos hown3 (by omega))
  have B3 : Below X1.heap.size X1 w3 := hB.grown hgrow3 (by simp) (fun j hj => (hmade.lt j hj).1)
  have hO3 : Oc w3 X1.heap.size (.slice (some ⟨g3, 0, none⟩) 32 c3) l := by
    have h9 : w3.ownsRow X1.heap.size 5 1 (.slice (some ⟨g3, 0, none⟩) 32 c3) 32 (us l) := by simpa using hown3
    exact h9
  have S3 : Same X1 w3 := .of_below B3
  have HN3 : Hid (Pt w3 B0 pd bg n cb hv { s with lf := fu, wr := s.wr + 1 } s.K (hl s.H 0)) := Lib.hid ⟨⟨(S3 pd _ _ HN1.out.1.head (.inl rfl)).trans HN1.out.1.head⟩, HN1.out.2.1.keep S3.three, HN1.out.2.2.keep S3.three⟩
  have HF3 : Hid (Fr B0 w w3) := Lib.hid (Fr.step HF1.out (B3.mono (by omega)) (fun j hj => B3.block j (by omega)))
  have hOm := Lib.hid (show Oc w3 B0 (.slice (some ⟨g3, 0, none⟩) 32 c3) l from owns_mono hO3 (by omega))
  have hsz3 : w.heap.size ≤ w3.heap.size := by have := B3.size; omega
  have R3 : Rf w3 B0 pd bg n { s with lf := fu, wr := s.wr + 1 } := ⟨hlo, ⟨cb, hv, HN3.out.1, HN3.out.2.1, HN3.out.2.2⟩, hRf.out.small, hRf.out.kl, hRf.out.hb⟩
  clear hown3 hgrow3 hcell3 hO3 S3 B3 hB RA hmade HN1 HF1 hg3 hl3
  go_wp2_with fail
  refine (rback i w3 R3 hi).mono ?_
  rintro e _ ⟨rfl, hr9⟩
  clear R3
  have hwr : wrS s i l = { s with lf := fu, H := s.H.set i (true, l), wr := s.wr + 1 } := by unfold wrS; rw [hfu]
  have HWR := Lib.hid hwr
  have hHb : ∀ x ∈ s.H.set i (true, l), Bd x.2 := fun x9 h8 => by
    rcases List.mem_or_eq_of_mem_set h8 with h7 | h7
    · exact hRf.out.hb.2 _ h7
    · rw [h7]; exact HL.out
  have HHB := Lib.hid hHb
  clear hfu hwr hHb
  rcases hr9 with ⟨p, hp, rfl, l2, hx, hy⟩ | ⟨rfl, hy⟩
  · replace hx : (hl s.H 0)[p]? = some (i, l2) := hx
    replace hy : s.H.getD i (false, []) = (true, l2) := hy
    replace hp : p < (hl s.H 0).length := hp
    have hHg : s.H[i] = (true, l2) := by
      have e : s.H.getD i (false, []) = s.H[i] := by simp [List.getD, hHi]
      rw [← e]; exact hy
    have HPUT := Lib.hid (hl_put (l' := l) hHi (by rw [hHg]) hx)
    obtain ⟨hg, ch, gH, cH, ehv, y0, y1, -⟩ := HR.own HN3.out.2.2 hx
    obtain ⟨N, hN⟩ : ∃ N, (hl s.H 0).length = N := ⟨_, rfl⟩
    have HNN := Lib.hid hN
    have HX := Lib.hid hx
    rw [hN] at ehv hp
    subst ehv
    have c1 := HN3.out.1.c1
    have hp' : (p : Int) < (N : Int) := by omega
    have hp0 : (0 : Int) ≤ (p : Int) := by omega
    have hN2 : N ≤ 2048 := by
      have h7 := hl_le s.H 0
      have h6 := hRf.out.hb.1
      have h5 := hRf.out.small
      omega
    have hht : ∃ cur0, w3.heap[hg]? = some (.cells cur0 71 (0, 0)) ∧ B0 ≤ hg := by
      obtain ⟨hs, h4, -⟩ := HN3.out.2.2
      obtain ⟨cur, h5⟩ := own_type (k := hg) h4 rfl
      obtain ⟨g9, c9, e9, h6, -⟩ := owns_pos h4 (by rw [hN]; omega)
      cases e9
      exact ⟨cur, h5, h6⟩
    obtain ⟨cur0, hht, hhlo⟩ := hht
    have fz := blk_frozen (w := w3) (show blk w3 hg = _ from hht) (p * 2 + 1)
    have hne : ∀ (j : Nat) (cur : Array Value) (T : TypeId) (v : Value), w3.heap[j]? = some (.cells cur T (0, 0)) → T ≠ 71 → (w3.setCell ⟨hg, p * 2 + 1, none⟩ v).heap[j]? = w3.heap[j]? := fun j cur T v hj hT => heap_setCell_other _ _ _ _ (fun e => by
      have e9 : j = hg := e
      rw [e9, hht] at hj
      cases hj
      exact hT rfl)
    have HP7 : Hid (Rf (w3.setCell ⟨hg, p * 2 + 1, none⟩ (.slice (some ⟨g3, 0, none⟩) 32 c3)) B0 pd bg n { s with lf := fu, H := s.H.set i (true, l), wr := s.wr + 1 }) := Lib.hid (by
      refine ⟨hlo, ⟨cb, _, ⟨(hne pd _ _ _ HN3.out.1.head (by decide)).trans HN3.out.1.head⟩, ?_, ?_⟩, hRf.out.small, hRf.out.kl, ⟨by show (s.H.set i _).length = n; rw [List.length_set]; exact hRf.out.hb.1, HHB.out⟩⟩
      · obtain ⟨bs, h4, h5⟩ := HN3.out.2.1
        refine ⟨bs, own_keep h4 fun j hj => ?_, fun j hj => ?_⟩
        · obtain ⟨cur, h6⟩ := own_type h4 hj
          exact hne j cur _ _ h6 (by decide)
        · obtain ⟨u, h6, h7⟩ := h5 j hj
          exact ⟨u, h6, h7.keep fun j cur hj => hne j cur _ _ hj (by decide)⟩
      · show HR _ B0 _ (hl (s.H.set i (true, l)) 0)
        rw [HPUT.out]
        exact HR.put HN3.out.2.2 (by rw [hN]) HX.out hOm.out)
    have HF7 : Hid (Fr B0 w (w3.setCell ⟨hg, p * 2 + 1, none⟩ (.slice (some ⟨g3, 0, none⟩) 32 c3))) := Lib.hid (Fr.trans HF3.out (fr_cell (.inr (.inr rfl)) hht hhlo))
    clear hx hy hHg hne hht hN y0
    go_wp2
    go_ret
    exact ⟨rfl, by rw [HWR.out]; exact HP7.out, HF7.out⟩
  · have hy' : (s.H.getD i (false, [])).1 = false := hy
    rw [HQ9.out] at hy'
    cases hy'
end Go.Proofs.Ytajoajblmaopjaa.DkY

/-
  The reference's Write of a sector that is not held.
-/
import Derived.Test.YtajoajblmaopjaaDkU
import Derived.Test.YtajoajblmaopjaaPredU
namespace Go.Proofs.Ytajoajblmaopjaa.DkX
open Go.RowKit Rd
open Go.Proofs.Ytajoajblmaopjaa.Row hiding cs blk3_0 blk3_1 blk3_2
open Mid DkM DkA DkL DkN DkO DkP DkQ DkR DkS DkT DkV DkU
open DkB (rd z32_len kpS wrS)
open DkG (getD_set H_)
open DkH (Bd)
set_option linter.unusedVariables false
set_option linter.unusedSimpArgs false
set_option maxRecDepth 10000
variable {X Y : World} {B0 pd bg n : Nat} {s : DS}
def KC (C : Array Value) : Nat → World → World → Prop := fun p w w' => p = 0 → ∀ g, blk w g = some (.cells C 71 (0, 0)) → blk w' g = blk w g
def OneC (C : Array Value) : Value → World → Prop := fun u y => ∃ g, u = .slice (some ⟨g, 0, none⟩) 1 1 ∧ blk y g = some (.cells C 71 (0, 0))
theorem onec_stab (C : Array Value) (B m : Nat) : PredU.Stab (KC C) B m (PredU.Til 1 (OneC C)) :=
  PredU.til_stab (fun v w w' ⟨g, h1, h2⟩ hb => ⟨g, h1, (blk_below hb g (blk_lt h2)).trans h2⟩) (fun p v w w' hp ⟨g, h1, h2⟩ hk => ⟨g, h1, (hk.2 (by omega) g h2).trans h2⟩)
def NoneH (lo : Nat) : Value → World → Prop := fun u y => ∃ g, u = .slice (some ⟨g, 0, none⟩) 0 0 ∧ lo ≤ g ∧ blk y g = some (.cells #[] 71 (0, 0))
theorem noneh_below {lo : Nat} {u : Value} (h : NoneH lo u X) (hb : Below X.heap.size X Y) : NoneH lo u Y := by
  obtain ⟨g, h1, h2, h3⟩ := h
  exact ⟨g, h1, h2, (blk_below hb g (blk_lt h3)).trans h3⟩
theorem run_front {o : Oper} {b : Act} {x y : Nat} {a : Option Addr} {N c M : Nat} (ho : o.op = .slice 48 (.tmp x) none (some (.tmp y)) none) (hx : b.tmps[x]?.getD undef = .slice a N c) (hy : b.tmps[y]?.getD undef = .int .i64 (M : Int)) (h : M ≤ c) : (execOp b.eval o).run Try.prog X = .ok (.value (.slice (if c = 0 then a else a.map (·.add 0)) M c)) X := by
  have hx' : b.eval (.tmp x) = .slice a N c := by simpa [Act.eval] using hx
  have hy' : b.eval (.tmp y) = .int .i64 (M : Int) := by simpa [Act.eval] using hy
  unfold execOp
  simp only [ho, Option.map_some, Option.map_none, hx', hy', Sem.run_bind, held_front a N c M X h, Result.andThen_ok, Sem.run_pure]
theorem run_back {o : Oper} {b : Act} {x y : Nat} {a : Option Addr} {N c M : Nat} (ho : o.op = .slice 48 (.tmp x) (some (.tmp y)) none none) (hx : b.tmps[x]?.getD undef = .slice a N c) (hy : b.tmps[y]?.getD undef = .int .i64 (M : Int)) (h : M ≤ N) : (execOp b.eval o).run Try.prog X = .ok (.value (.slice (if c = M then a else a.map (·.add (M * 2))) (N - M) (c - M))) X := by
  have hx' : b.eval (.tmp x) = .slice a N c := by simpa [Act.eval] using hx
  have hy' : b.eval (.tmp y) = .int .i64 (M : Int) := by simpa [Act.eval] using hy
  unfold execOp
  simp only [ho, Option.map_some, Option.map_none, hx', hy', Sem.run_bind, held_back a N c M X h, Result.andThen_ok, Sem.run_pure]
theorem ins_done {w : World} {cb i : Nat} {K : List (List Int)} {hs : List Value} {F T : List (Nat × List Int)} {l : List Int} {u v0 : Value} {cur : Array Value}
    (hd : blk w pd = some (.cells cur 50 (0, 0))) (hB : B0 ≤ w.heap.size) (h2 : BR w B0 bg n cb K) (h3 : HC w B0 hs (F ++ T)) (hl : hs.length = (F ++ T).length * 2) (hu : Oc w B0 u l)
    (hX : ∀ k, k < w.heap.size → k ≠ pd → X.heap[k]? = w.heap[k]?) (hown : X.ownsRow w.heap.size 71 2 v0 ((F ++ T).length + 1) (hs.take (F.length * 2) ++ [.int .i64 (i : Int), u] ++ hs.drop (F.length * 2))) (hE : Below B0 w X) :
    BR X B0 bg n cb K ∧ HR X B0 v0 (F ++ (i, l) :: T) ∧ Fr B0 w X := by
  have hne : ∀ (k : Nat) (c9 : Array Value) (T9 : TypeId), w.heap[k]? = some (.cells c9 T9 (0, 0)) → T9 ≠ 50 → k ≠ pd := fun k c9 T9 hk hT e => by
    subst e
    have := hk.symm.trans hd
    cases this
    exact hT rfl
  have S3 : Same3 w X := fun k c9 T9 hk ht => hX k (blk_lt (show blk w k = _ from hk)) (hne k c9 T9 hk (by rcases ht with rfl | rfl | rfl <;> decide))
  have e1 : (F ++ (i, l) :: T).length = (F ++ T).length + 1 := by simp; omega
  refine ⟨h2.keep S3, ⟨hs.take (F.length * 2) ++ [.int .i64 (i : Int), u] ++ hs.drop (F.length * 2), ?_, fun k x hx => ?_⟩, hE, fun k c9 T9 hk h1 _ _ => hX k (blk_lt (show blk w k = _ from hk)) (hne k c9 T9 hk h1)⟩
  · rw [e1]; exact owns_mono hown hB
  · obtain ⟨a1, u9, a2, a3⟩ := HC.ins (i := i) h3 hl hu k x hx
    exact ⟨a1, u9, a2, a3.keep fun k c9 hk => S3 k c9 _ hk (.inr (.inr rfl))⟩
set_option maxHeartbeats 8000000 in
theorem rwrite_free (i : Nat) (sb so c : Nat) (l : List Int) (w : World) (h : Rf w B0 pd bg n s) (hd : s.dn = false) (hi : i < n) (hf : s.lf ≠ 0) (hf2 : -1 ≤ s.lf ∧ s.lf ≤ 1048576) (hw2 : 0 ≤ s.wr ∧ s.wr ≤ 1000000) (hl : Bd l)
    (hq : (s.H.getD i (false, [])).1 = false) (hsrc : ∀ Y, Fr B0 w Y → Reads Y 1 (some ⟨sb, so, none⟩) 32 (us l)) :
    Calls Try.prog 12 #[.pointer (some ⟨pd, 0, none⟩), .int .i64 i, .slice (some ⟨sb, so, none⟩) 32 c] w fun e w' => e = .returned (.int .i64 0) ∧ Rf w' B0 pd bg n (wrS s i l) ∧ Fr B0 w w' := by
  obtain ⟨cb, hv, h1, h2, h3⟩ := h.hd
  have hlo := h.lo
  have hRf := Lib.hid h
  have HSRC := Lib.hid hsrc
  have HL := Lib.hid hl
  have HQ9 := Lib.hid hq
  clear hq
  have H1 := Lib.hid h1
  have H2 := Lib.hid h2
  have H3 := Lib.hid h3
  obtain ⟨fu, hfu⟩ : ∃ fu, (if s.lf = -1 then s.lf else s.lf - 1) = fu := ⟨_, rfl⟩
  have c4 := h1.c4
  have c0 := h1.c0
  have c2 := h1.c2
  have f2 := h1.fz 2
  have hlt := blk_lt h1.head
  rw [hd] at c4
  have d0 : decide ((i : Int) < 0) = false := decide_eq_false (by omega)
  have d1 : decide ((n : Int) ≤ (i : Int)) = false := decide_eq_false (by omega)
  have d1n : decide (n ≤ i) = false := decide_eq_false (by omega)
  have e0 : (s.lf == 0) = false := by simpa using hf
  have HF0 := Lib.hid hf
  have hHi : i < s.H.length := by rw [h.hb.1]; exact hi
  clear h h1 h2 h3 hd hsrc hl hf
  go_enter Try.func12, Try.ntmps12
  go_upto_if 42 with (fail)
  go_cut [42] from 43 to 49 (fun _ Y => Hid (Rh Y pd (.slice (some ⟨bg, 0, none⟩) n cb) hv fu s.ms s.dn s.wr ∧ BR Y B0 bg n cb s.K ∧ HR Y B0 hv (hl s.H 0)) ∧ Hid (Fr B0 w Y) ∧ w.heap.size ≤ Y.heap.size)
  case first =>
    by_cases hp : 0 < s.lf
    · have dp : decide (0 < s.lf) = true := decide_eq_true hp
      have hfu' : s.lf - 1 = fu := by rw [← hfu, if_neg (by omega)]
      have s2 := same3_head (v := .int .i64 (s.lf - 1)) (i := 2) H1.out.head
      have HN : Hid (Rh (w.setCell ⟨pd, 2, none⟩ (.int .i64 (s.lf - 1))) pd (.slice (some ⟨bg, 0, none⟩) n cb) hv fu s.ms s.dn s.wr ∧ BR (w.setCell ⟨pd, 2, none⟩ (.int .i64 (s.lf - 1))) B0 bg n cb s.K ∧ HR (w.setCell ⟨pd, 2, none⟩ (.int .i64 (s.lf - 1))) B0 hv (hl s.H 0)) := Lib.hid ⟨hfu' ▸ H1.out.set2 (s.lf - 1), H2.out.keep s2, H3.out.keep s2⟩
      have HF : Hid (Fr B0 w (w.setCell ⟨pd, 2, none⟩ (.int .i64 (s.lf - 1)))) := Lib.hid (fr_cell (.inl rfl) (show w.heap[pd]? = _ from H1.out.head) hlo)
      clear s2 hfu hfu'
      go_wp2_with fail
      try go_meet
      try (case rel => exact ⟨HN, HF, by simp⟩)
    · have dp : decide (0 < s.lf) = false := decide_eq_false hp
      have hf9 := HF0.out
      have hfu' : s.lf = fu := by rw [← hfu, if_pos (by omega)]
      have HN : Hid (Rh w pd (.slice (some ⟨bg, 0, none⟩) n cb) hv fu s.ms s.dn s.wr ∧ BR w B0 bg n cb s.K ∧ HR w B0 hv (hl s.H 0)) := Lib.hid ⟨hfu' ▸ H1.out, H2.out, H3.out⟩
      clear hfu hfu'
      go_wp2_with fail
      try go_meet
      try (case rel => exact ⟨HN, Lib.hid (Fr.refl _), Nat.le_refl _⟩)
  case rest =>
  obtain ⟨HN, HF, hsz⟩ := hcut
  rename World => Y
  have c5 := HN.out.1.c5
  have f5 := HN.out.1.fz 5
  have hhd := HN.out.1.head
  have s5 := same3_head (v := .int .i64 (s.wr + 1)) (i := 5) hhd
  have HN1 : Hid (Rh (Y.setCell ⟨pd, 5, none⟩ (.int .i64 (s.wr + 1))) pd (.slice (some ⟨bg, 0, none⟩) n cb) hv fu s.ms s.dn (s.wr + 1) ∧ BR (Y.setCell ⟨pd, 5, none⟩ (.int .i64 (s.wr + 1))) B0 bg n cb s.K ∧ HR (Y.setCell ⟨pd, 5, none⟩ (.int .i64 (s.wr + 1))) B0 hv (hl s.H 0)) := Lib.hid ⟨HN.out.1.set5 (s.wr + 1), HN.out.2.1.keep s5, HN.out.2.2.keep s5⟩
  have HF1 : Hid (Fr B0 w (Y.setCell ⟨pd, 5, none⟩ (.int .i64 (s.wr + 1)))) := Lib.hid (Fr.trans HF.out (fr_cell (.inl rfl) (show Y.heap[pd]? = _ from hhd) hlo))
  clear hhd s5 HN HF H1 H2 H3 c4 c0 c2 f2
  go_upto_region 11 with (fail)
  refine Rd.name_world ?_
  intro X1 hX1
  rw [← hX1] at HN1 HF1
  have hsz1 : w.heap.size ≤ X1.heap.size := by rw [hX1]; simpa using hsz
  have hRd := HSRC.out X1 HF1.out
  obtain ⟨j0, hj, hz0, hz1, hz2⟩ := info_parts info_by
  have hmade := World.ownsRow_made X1 (e := 5) (size := 1) (base := X1.heap.size) #[] 0 (Nat.le_refl _) (by decide) rfl
  have hB := (Below.refl X1.heap.size X1).alloc (Nat.le_refl _) (.cells #[] 5)
  have RA := hRd.below hB (Nat.le_refl _)
  clear hX1 c5 f5 hsz hRd
  go_upto_region 12 with (at_builtin; refine App.wpList_append_reads _ rfl (.tmp 57) (.tmp 58) 32 rfl X1.heap.size 5 j0 _ 1 1 Try.underlying32 hj hz0 hz1 hz2 rfl (by decide) _ _ _ rfl hmade (some ⟨sb, so, none⟩) 32 c (us l) rfl RA (us_ones _) (by unfold maxLen; omega) (by omega) (by simp) ?_; intro v3 w3 hown3 hgrow3; rw [Nat.zero_add] at hown3; obtain ⟨g3, c3, rfl, hg3, hl3, hc3, hm3, hcell3⟩ := owns_pos hown3 (by omega))
  have B3 : Below X1.heap.size X1 w3 := hB.grown hgrow3 (by simp) (fun j hj => (hmade.lt j hj).1)
  have hO3 : Oc w3 X1.heap.size (.slice (some ⟨g3, 0, none⟩) 32 c3) l := by
    have h9 : w3.ownsRow X1.heap.size 5 1 (.slice (some ⟨g3, 0, none⟩) 32 c3) 32 (us l) := by simpa using hown3
    exact h9
  have S3 : Same X1 w3 := .of_below B3
  have HN3 : Hid (Pt w3 B0 pd bg n cb hv { s with lf := fu, wr := s.wr + 1 } s.K (hl s.H 0)) := Lib.hid ⟨⟨(S3 pd _ _ HN1.out.1.head (.inl rfl)).trans HN1.out.1.head⟩, HN1.out.2.1.keep S3.three, HN1.out.2.2.keep S3.three⟩
  have HF3 : Hid (Fr B0 w w3) := Lib.hid (Fr.step HF1.out (B3.mono (by omega)) (fun j hj => B3.block j (by omega)))
  have hOm := Lib.hid (show Oc w3 B0 (.slice (some ⟨g3, 0, none⟩) 32 c3) l from owns_mono hO3 (by omega))
  have hsz3 : w.heap.size ≤ w3.heap.size := by have := B3.size; omega
  have R3 : Rf w3 B0 pd bg n { s with lf := fu, wr := s.wr + 1 } := ⟨hlo, ⟨cb, hv, HN3.out.1, HN3.out.2.1, HN3.out.2.2⟩, hRf.out.small, hRf.out.kl, hRf.out.hb⟩
  clear hown3 hgrow3 hcell3 hO3 S3 B3 hB RA hmade HN1 HF1 hg3 hl3
  go_wp2_with fail
  refine (rback i w3 R3 hi).mono ?_
  rintro e _ ⟨rfl, hr9⟩
  clear R3
  have hwr : wrS s i l = { s with lf := fu, H := s.H.set i (true, l), wr := s.wr + 1 } := by unfold wrS; rw [hfu]
  have HWR := Lib.hid hwr
  have hHb : ∀ x ∈ s.H.set i (true, l), Bd x.2 := fun x9 h8 => by
    rcases List.mem_or_eq_of_mem_set h8 with h7 | h7
    · exact hRf.out.hb.2 _ h7
    · rw [h7]; exact HL.out
  have HHB := Lib.hid hHb
  clear hfu hwr hHb
  rcases hr9 with ⟨p, hp, rfl, l2, hx, hy⟩ | ⟨rfl, hy⟩
  · replace hy : s.H.getD i (false, []) = (true, l2) := hy
    have h8 := HQ9.out
    rw [hy] at h8
    cases h8
  clear hy
  have hHg : s.H[i].1 = false := by
    have e : s.H.getD i (false, []) = s.H[i] := by simp [List.getD, hHi]
    rw [← e]; exact HQ9.out
  obtain ⟨F, T, eL, eL2, hF, hT⟩ := hl_ins (l := l) hHi hHg
  have EL2 := Lib.hid eL2
  have EF := Lib.hid hF
  have ET := Lib.hid hT
  obtain ⟨hs, ho, hc⟩ := HN3.out.2.2
  rw [eL] at ho hc
  have HHC : Hid (HC w3 B0 hs (F ++ T)) := Lib.hid hc
  have hBR := Lib.hid HN3.out.2.1
  obtain ⟨a, cH, rfl, hch, hchm⟩ := owns_val ho
  have hhd : blk w3 pd = some (.cells #[.slice (some ⟨bg, 0, none⟩) n cb, .slice a (F ++ T).length cH, .int .i64 fu, .int .i64 s.ms, .bool s.dn, .int .i64 (s.wr + 1)] 50 (0, 0)) := HN3.out.1.head
  have hlen : hs.length = (F ++ T).length * 2 := ho.1
  obtain ⟨N, hN⟩ : ∃ N, (F ++ T).length = N := ⟨_, rfl⟩
  obtain ⟨M, hM⟩ : ∃ M, F.length = M := ⟨_, rfl⟩
  have hMN : M ≤ N := by rw [← hN, ← hM, List.length_append]; omega
  rw [hN] at ho hch hhd hlen
  have hRA : Reads w3 2 a N hs := Reads.of_owns ho
  have hN2 : N ≤ 2048 := by
    have h7 := hl_le s.H 0
    have h6 := hRf.out.hb.1
    have h5 := hRf.out.small
    rw [eL, hN] at h7
    omega
  have hOne : ∀ u ∈ hs, u.oneCell' = true := HC.one HHC.out (by rw [hlen, hN])
  obtain ⟨aF, haF⟩ : ∃ x, (if cH = 0 then a else a.map (·.add 0)) = x := ⟨_, rfl⟩
  obtain ⟨aT, haT⟩ : ∃ x, (if cH = M then a else a.map (·.add (M * 2))) = x := ⟨_, rfl⟩
  have hRF : Reads w3 2 aF M (hs.take (M * 2)) := haF ▸ reads_front (c := cH) hRA hMN
  have hRT : Reads w3 2 aT (N - M) (hs.drop (M * 2)) := haT ▸ reads_back (c := cH) hRA hMN hch rfl
  have hOF : ∀ u ∈ hs.take (M * 2), u.oneCell' = true := fun u hu => hOne u (List.mem_of_mem_take hu)
  have hOT : ∀ u ∈ hs.drop (M * 2), u.oneCell' = true := fun u hu => hOne u (List.mem_of_mem_drop hu)
  have hc1 : w3.cell? ⟨pd, 1, none⟩ = some (.slice a N cH) := by rw [blk_cell hhd]; rfl
  have hcell : ∀ k, k < N → ∃ hg z, a = some ⟨hg, 0, none⟩ ∧ (F ++ T)[k]? = some z ∧ w3.cell? ⟨hg, k * 2, none⟩ = some (.int .i64 (z.1 : Int)) := fun k hk => by
    obtain ⟨hg, c9, e9, -, -, -, -, h9⟩ := owns_pos ho (by omega)
    cases e9
    have hz : (F ++ T)[k]? = some (F ++ T)[k] := List.getElem?_eq_getElem (by omega)
    exact ⟨hg, _, rfl, hz, by rw [h9 _ (by omega), (HHC.out k _ hz).1]⟩
  have HCL := Lib.hid hcell
  have HALL := Lib.hid (And.intro ho (And.intro hRA (And.intro hOne (And.intro haF haT))))
  have HRF := Lib.hid (And.intro hRF (And.intro hRT (And.intro hOF hOT)))
  have HHD := Lib.hid hhd
  have HLEN := Lib.hid hlen
  have HNN := Lib.hid (And.intro hN hM)
  clear ho hRA hOne hRF hRT hOF hOT hcell hhd hlen hc eL eL2 hF hT hHg haF haT hN hM
  go_wp2_with fail
  go_loopw [9] (fun v X => ∃ k : Nat, M ≤ k ∧ k ≤ N ∧ v = .int .i64 k ∧ w3 = X) (fun v _ => (intOf v).toNat)
  case atStart => exact ⟨N, hMN, Nat.le_refl _, rfl, rfl⟩
  case round =>
    obtain ⟨k, hk, hkN, rfl, rfl⟩ := hrel
    by_cases hkM : M < k
    · obtain ⟨j, rfl⟩ : ∃ j, k = j + 1 := ⟨k - 1, by omega⟩
      obtain ⟨hg, z, rfl, hz, hcl⟩ := HCL.out j (by omega)
      have hzT : (i : Int) < (z.1 : Int) := by
        have h9 := ET.out z (by
          rw [List.getElem?_append_right (by rw [HNN.out.2]; omega)] at hz
          exact List.mem_of_getElem? hz)
        omega
      have d0 : decide (0 < ((j + 1 : Nat) : Int)) = true := decide_eq_true (by omega)
      have e1 : (((j + 1 : Nat) : Int) - 1) = (j : Int) := by omega
      have hj0 : (0 : Int) ≤ (j : Int) := by omega
      have hjN : (j : Int) < (N : Int) := by omega
      have d1 : decide ((i : Int) < (z.1 : Int)) = true := decide_eq_true hzT
      clear hz
      go_wp2
      exact ⟨⟨j, by omega, by omega, rfl, by first | trivial | rfl⟩, by simp [intOf]⟩
    · obtain rfl : k = M := by omega
      by_cases hk0 : 0 < k
      · obtain ⟨j, rfl⟩ : ∃ j, k = j + 1 := ⟨k - 1, by omega⟩
        obtain ⟨hg, z, rfl, hz, hcl⟩ := HCL.out j (by omega)
        have hzT : (z.1 : Int) < (i : Int) := by
          have h9 := EF.out z (by
            rw [List.getElem?_append_left (by rw [HNN.out.2]; omega)] at hz
            exact List.mem_of_getElem? hz)
          omega
        have d0 : decide (0 < ((j + 1 : Nat) : Int)) = true := decide_eq_true (by omega)
        have e1 : (((j + 1 : Nat) : Int) - 1) = (j : Int) := by omega
        have hj0 : (0 : Int) ≤ (j : Int) := by omega
        have hjN : (j : Int) < (N : Int) := by omega
        have d1 : decide ((i : Int) < (z.1 : Int)) = false := decide_eq_false (by omega)
        clear hz
        obtain ⟨M, hMM⟩ : ∃ M, j + 1 = M := ⟨_, rfl⟩
        rw [hMM] at HRF HALL HNN d0 e1 hMN ⊢
        go_upto_region 19 with (fail)
        obtain ⟨a, ha9⟩ : ∃ a : Option Addr, some (⟨hg, 0, none⟩ : Addr) = a := ⟨_, rfl⟩
        rw [ha9] at HALL HHD
        have hpl9 := blk_lt HHD.out
        have hB0 : B0 ≤ w3.heap.size := by omega
        refine PredU.region_of (W := w3) (KC #[Value.int .i64 (i : Int), Value.slice (some ⟨g3, 0, none⟩) 32 c3]) (B0) hB0 [8, 13, 20, 23] [
            fun y => Below w3.heap.size w3 y,
            fun y => Below w3.heap.size w3 y,
            fun y => Below w3.heap.size w3 y,
            fun y => Below w3.heap.size w3 y,
            fun y => ∃ v0, w3.heap.size ≤ y.heap.size ∧ y.ownsRow w3.heap.size 71 2 v0 (N + 1) (hs.take (M * 2) ++ [Value.int .i64 (i : Int), Value.slice (some ⟨g3, 0, none⟩) 32 c3] ++ hs.drop (M * 2)) ∧ blk y pd = some (.cells #[.slice (some ⟨bg, 0, none⟩) n cb, v0, .int .i64 fu, .int .i64 s.ms, .bool s.dn, .int .i64 (s.wr + 1)] 50 (0, 0)) ∧ ∀ k, k < w3.heap.size → k ≠ pd → y.heap[k]? = w3.heap[k]?] [
            PredU.At 0 (.pointer (some ⟨pd, 0, none⟩)),
            PredU.When 0 (NoneH w3.heap.size),
            PredU.At 0 (.pointer (some ⟨pd, 0, none⟩)),
            PredU.At 0 (.pointer (some ⟨pd, 0, none⟩)),
            PredU.At 0 (.pointer (some ⟨pd, 1, none⟩)),
            PredU.At 0 (.slice a N cH),
            PredU.At 0 (.int .i64 (M : Int)),
            PredU.At 0 (.slice aF M cH),
            PredU.When 1 (fun u y => y.ownsRow w3.heap.size 71 2 u (M) (hs.take (M * 2))),
            PredU.At 0 (.int .i64 (i : Int)),
            PredU.At 0 (.slice (some ⟨g3, 0, none⟩) 32 c3),
            PredU.At 0 (.agg #[Value.int .i64 (i : Int), Value.slice (some ⟨g3, 0, none⟩) 32 c3]),
            PredU.Til 1 (OneC #[Value.int .i64 (i : Int), Value.slice (some ⟨g3, 0, none⟩) 32 c3]),
            PredU.When 2 (fun u y => y.ownsRow w3.heap.size 71 2 u (M + 1) (hs.take (M * 2) ++ [Value.int .i64 (i : Int), Value.slice (some ⟨g3, 0, none⟩) 32 c3])),
            PredU.At 0 (.pointer (some ⟨pd, 0, none⟩)),
            PredU.At 0 (.pointer (some ⟨pd, 0, none⟩)),
            PredU.At 0 (.pointer (some ⟨pd, 1, none⟩)),
            PredU.At 0 (.slice a N cH),
            PredU.At 0 (.int .i64 (M : Int)),
            PredU.At 0 (.slice aT (N - M) (cH - M)),
            PredU.When 3 (fun u y => y.ownsRow w3.heap.size 71 2 u (N + 1) (hs.take (M * 2) ++ [Value.int .i64 (i : Int), Value.slice (some ⟨g3, 0, none⟩) 32 c3] ++ hs.drop (M * 2))),
            PredU.At 0 (.pointer (some ⟨pd, 0, none⟩)),
            PredU.At 0 (.pointer (some ⟨pd, 1, none⟩)),
            PredU.At 0 (undef)] (by kernel_rfl) (by kernel_rfl) (by kernel_rfl) (by decide) (by decide) ?_ ?_ ?_ ?_ ?_ ?_
        · exact ⟨PredU.at_stab _ _ _ _ _, PredU.when_stab _ _ _ _ (fun u y y' h hb => noneh_below h hb), PredU.at_stab _ _ _ _ _, PredU.at_stab _ _ _ _ _, PredU.at_stab _ _ _ _ _, PredU.at_stab _ _ _ _ _, PredU.at_stab _ _ _ _ _, PredU.at_stab _ _ _ _ _, PredU.when_stab _ _ _ _ (fun u y y' h hb => own_below h hb), PredU.at_stab _ _ _ _ _, PredU.at_stab _ _ _ _ _, PredU.at_stab _ _ _ _ _, onec_stab _ _ _, PredU.when_stab _ _ _ _ (fun u y y' h hb => own_below h hb), PredU.at_stab _ _ _ _ _, PredU.at_stab _ _ _ _ _, PredU.at_stab _ _ _ _ _, PredU.at_stab _ _ _ _ _, PredU.at_stab _ _ _ _ _, PredU.at_stab _ _ _ _ _, PredU.when_stab _ _ _ _ (fun u y y' h hb => own_below h hb), PredU.at_stab _ _ _ _ _, PredU.at_stab _ _ _ _ _, PredU.at_stab _ _ _ _ _, trivial⟩
        · intro q hq
          rcases List.mem_cons.1 hq with rfl | hq
          · exact fun y y' h hb => h.trans (hb.mono h.size)
          rcases List.mem_cons.1 hq with rfl | hq
          · exact fun y y' h hb => h.trans (hb.mono h.size)
          rcases List.mem_cons.1 hq with rfl | hq
          · exact fun y y' h hb => h.trans (hb.mono h.size)
          rcases List.mem_cons.1 hq with rfl | hq
          · exact fun y y' h hb => h.trans (hb.mono h.size)
          rcases List.mem_cons.1 hq with rfl | hq
          · exact fun y y' ⟨u, h0, h1, h2, h3⟩ hb => ⟨u, Nat.le_trans h0 hb.size, own_below h1 hb, (blk_below hb pd (blk_lt h2)).trans h2, fun k hk hp => (hb.block k (by omega)).trans (h3 k hk hp)⟩
          cases hq
        · exact Below.refl _ _
        · refine ⟨.inr ?_, .inr ?_, .inr ?_, .inr ?_, .inr ?_, .inr ?_, .inr ?_, .inr ?_, .inl rfl, .inr ?_, .inr ?_, .inr ?_, .inr ?_, .inl rfl, .inr ?_, .inr ?_, .inr ?_, .inr ?_, .inr ?_, .inr ?_, .inl rfl, .inr ?_, .inr ?_, .inl rfl, trivial⟩
          · intro b9 X ph hE hd hn hS hV hI hF
            have r0 : b9.tmps[0]?.getD undef = .pointer (some ⟨pd, 0, none⟩) := (hn 0 (by kernel_rfl)).trans rfl
            exact Pred.yields_run (v := .pointer (some ⟨pd, 0, none⟩)) (Pred.wanted_none rfl) (by go_simp) ⟨Below.refl _ _, rfl, Nat.zero_le _⟩
          · intro b9 X ph hE hd hn hS hV hI hF
            have hp0 : ph = 0 := Nat.le_zero.1 (hF 0 8 rfl (Pred.waits_more 8 _ _ (Nat.le_of_ble_eq_true (by kernel_rfl)) (by kernel_rfl)))
            subst hp0
            have hb0 : Below w3.heap.size w3 X := hS
            have hXs := hb0.size
            exact Pred.yields_run (v := .slice (some ⟨X.heap.size, 0, none⟩) 0 0) (w' := X.alloc (.cells #[] 71)) (Pred.wanted_none rfl) (by go_simp) ⟨(Below.refl _ _).alloc (Nat.le_refl _) _, Nat.zero_le _, fun _ => ⟨X.heap.size, rfl, hXs, blk_alloc_at _ _ _ rfl⟩⟩
          · intro b9 X ph hE hd hn hS hV hI hF
            have r0 : b9.tmps[0]?.getD undef = .pointer (some ⟨pd, 0, none⟩) := (hn 0 (by kernel_rfl)).trans rfl
            exact Pred.yields_run (v := .pointer (some ⟨pd, 0, none⟩)) (Pred.wanted_none rfl) (by go_simp) ⟨Below.refl _ _, rfl, Nat.zero_le _⟩
          · intro b9 X ph hE hd hn hS hV hI hF
            obtain ⟨r97, j97⟩ : PredU.At 0 (.pointer (some ⟨pd, 0, none⟩)) (b9.tmps[97]?.getD undef) X ph := hV 2 _ 97 rfl rfl (Pred.waits_near (by kernel_rfl) (by kernel_rfl))
            exact Pred.yields_run (v := .pointer (some ⟨pd, 0, none⟩)) (Pred.wanted_none rfl) (by go_simp) ⟨Below.refl _ _, rfl, Nat.zero_le _⟩
          · intro b9 X ph hE hd hn hS hV hI hF
            obtain ⟨r98, j98⟩ : PredU.At 0 (.pointer (some ⟨pd, 0, none⟩)) (b9.tmps[98]?.getD undef) X ph := hV 3 _ 98 rfl rfl (Pred.waits_near (by kernel_rfl) (by kernel_rfl))
            exact Pred.yields_run (v := .pointer (some ⟨pd, 1, none⟩)) (Pred.wanted_none rfl) (by go_simp) ⟨Below.refl _ _, rfl, Nat.zero_le _⟩
          · intro b9 X ph hE hd hn hS hV hI hF
            obtain ⟨r99, j99⟩ : PredU.At 0 (.pointer (some ⟨pd, 1, none⟩)) (b9.tmps[99]?.getD undef) X ph := hV 4 _ 99 rfl rfl (Pred.waits_near (by kernel_rfl) (by kernel_rfl))
            have hp0 : ph = 0 := Nat.le_zero.1 (hF 0 8 rfl (Pred.waits_more 8 _ _ (Nat.le_of_ble_eq_true (by kernel_rfl)) (by kernel_rfl)))
            subst hp0
            have hb0 : Below w3.heap.size w3 X := hS
            have hXs := hb0.size
            have z : X.cell? ⟨pd, 1, none⟩ = some (.slice a N cH) := by rw [blk_cell ((blk_below hb0 pd (blk_lt HHD.out)).trans HHD.out)]; rfl
            exact Pred.yields_run (v := .slice a N cH) (Pred.wanted_none rfl) (by go_simp) ⟨Below.refl _ _, rfl, Nat.zero_le _⟩
          · intro b9 X ph hE hd hn hS hV hI hF
            have r9 : b9.tmps[9]?.getD undef = .int .i64 (M : Int) := (hn 9 (by kernel_rfl)).trans rfl
            exact Pred.yields_run (v := .int .i64 (M : Int)) (Pred.wanted_none rfl) (by go_simp) ⟨Below.refl _ _, rfl, Nat.zero_le _⟩
          · intro b9 X ph hE hd hn hS hV hI hF
            obtain ⟨r100, j100⟩ : PredU.At 0 (.slice a N cH) (b9.tmps[100]?.getD undef) X ph := hV 5 _ 100 rfl rfl (Pred.waits_near (by kernel_rfl) (by kernel_rfl))
            obtain ⟨r101, j101⟩ : PredU.At 0 (.int .i64 (M : Int)) (b9.tmps[101]?.getD undef) X ph := hV 6 _ 101 rfl rfl (Pred.waits_near (by kernel_rfl) (by kernel_rfl))
            exact Pred.yields_run (v := .slice aF M cH) (Pred.wanted_none rfl) (Eq.trans (run_front (by rfl) r100 r101 (Nat.le_trans hMN hch)) (by rw [HALL.out.2.2.2.1])) ⟨Below.refl _ _, rfl, Nat.zero_le _⟩
          · intro b9 X ph hE hd hn hS hV hI hF
            have r1 : b9.tmps[1]?.getD undef = .int .i64 (i : Int) := (hn 1 (by kernel_rfl)).trans rfl
            exact Pred.yields_run (v := .int .i64 (i : Int)) (Pred.wanted_none rfl) (by go_simp) ⟨Below.refl _ _, rfl, Nat.zero_le _⟩
          · intro b9 X ph hE hd hn hS hV hI hF
            have r7 : b9.tmps[7]?.getD undef = .slice (some ⟨g3, 0, none⟩) 32 c3 := (hn 7 (by kernel_rfl)).trans rfl
            exact Pred.yields_run (v := .slice (some ⟨g3, 0, none⟩) 32 c3) (Pred.wanted_none rfl) (by go_simp) ⟨Below.refl _ _, rfl, Nat.zero_le _⟩
          · intro b9 X ph hE hd hn hS hV hI hF
            obtain ⟨r104, j104⟩ : PredU.At 0 (.int .i64 (i : Int)) (b9.tmps[104]?.getD undef) X ph := hV 9 _ 104 rfl rfl (Pred.waits_near (by kernel_rfl) (by kernel_rfl))
            obtain ⟨r105, j105⟩ : PredU.At 0 (.slice (some ⟨g3, 0, none⟩) 32 c3) (b9.tmps[105]?.getD undef) X ph := hV 10 _ 105 rfl rfl (Pred.waits_near (by kernel_rfl) (by kernel_rfl))
            exact Pred.yields_run (v := .agg #[Value.int .i64 (i : Int), Value.slice (some ⟨g3, 0, none⟩) 32 c3]) (Pred.wanted_none rfl) (by go_simp) ⟨Below.refl _ _, rfl, Nat.zero_le _⟩
          · intro b9 X ph hE hd hn hS hV hI hF
            obtain ⟨r106, j106⟩ : PredU.At 0 (.agg #[Value.int .i64 (i : Int), Value.slice (some ⟨g3, 0, none⟩) 32 c3]) (b9.tmps[106]?.getD undef) X ph := hV 11 _ 106 rfl rfl (Pred.waits_near (by kernel_rfl) (by kernel_rfl))
            exact Pred.yields_run (v := .slice (some ⟨X.heap.size, 0, none⟩) 1 1) (w' := X.alloc (.cells #[Value.int .i64 (i : Int), Value.slice (some ⟨g3, 0, none⟩) 32 c3] 71)) (Pred.wanted_none rfl) (by go_simp) ⟨(Below.refl _ _).alloc (Nat.le_refl _) _, fun _ => ⟨X.heap.size, rfl, blk_alloc_at _ _ _ rfl⟩⟩
          · intro b9 X ph hE hd hn hS hV hI hF
            have r0 : b9.tmps[0]?.getD undef = .pointer (some ⟨pd, 0, none⟩) := (hn 0 (by kernel_rfl)).trans rfl
            exact Pred.yields_run (v := .pointer (some ⟨pd, 0, none⟩)) (Pred.wanted_none rfl) (by go_simp) ⟨Below.refl _ _, rfl, Nat.zero_le _⟩
          · intro b9 X ph hE hd hn hS hV hI hF
            obtain ⟨r109, j109⟩ : PredU.At 0 (.pointer (some ⟨pd, 0, none⟩)) (b9.tmps[109]?.getD undef) X ph := hV 14 _ 109 rfl rfl (Pred.waits_near (by kernel_rfl) (by kernel_rfl))
            exact Pred.yields_run (v := .pointer (some ⟨pd, 0, none⟩)) (Pred.wanted_none rfl) (by go_simp) ⟨Below.refl _ _, rfl, Nat.zero_le _⟩
          · intro b9 X ph hE hd hn hS hV hI hF
            obtain ⟨r110, j110⟩ : PredU.At 0 (.pointer (some ⟨pd, 0, none⟩)) (b9.tmps[110]?.getD undef) X ph := hV 15 _ 110 rfl rfl (Pred.waits_near (by kernel_rfl) (by kernel_rfl))
            exact Pred.yields_run (v := .pointer (some ⟨pd, 1, none⟩)) (Pred.wanted_none rfl) (by go_simp) ⟨Below.refl _ _, rfl, Nat.zero_le _⟩
          · intro b9 X ph hE hd hn hS hV hI hF
            obtain ⟨r111, j111⟩ : PredU.At 0 (.pointer (some ⟨pd, 1, none⟩)) (b9.tmps[111]?.getD undef) X ph := hV 16 _ 111 rfl rfl (Pred.waits_near (by kernel_rfl) (by kernel_rfl))
            have hp2 : ph ≤ 2 := hF 2 20 rfl (Pred.waits_more 8 _ _ (Nat.le_of_ble_eq_true (by kernel_rfl)) (by kernel_rfl))
            have hb0 : Below w3.heap.size w3 X := by
              rcases (show ph = 0 ∨ ph = 1 ∨ ph = 2 by omega) with rfl | rfl | rfl <;> exact hS
            have z : X.cell? ⟨pd, 1, none⟩ = some (.slice a N cH) := by rw [blk_cell ((blk_below hb0 pd (blk_lt HHD.out)).trans HHD.out)]; rfl
            exact Pred.yields_run (v := .slice a N cH) (Pred.wanted_none rfl) (by go_simp) ⟨Below.refl _ _, rfl, Nat.zero_le _⟩
          · intro b9 X ph hE hd hn hS hV hI hF
            have r9 : b9.tmps[9]?.getD undef = .int .i64 (M : Int) := (hn 9 (by kernel_rfl)).trans rfl
            exact Pred.yields_run (v := .int .i64 (M : Int)) (Pred.wanted_none rfl) (by go_simp) ⟨Below.refl _ _, rfl, Nat.zero_le _⟩
          · intro b9 X ph hE hd hn hS hV hI hF
            obtain ⟨r112, j112⟩ : PredU.At 0 (.slice a N cH) (b9.tmps[112]?.getD undef) X ph := hV 17 _ 112 rfl rfl (Pred.waits_near (by kernel_rfl) (by kernel_rfl))
            obtain ⟨r113, j113⟩ : PredU.At 0 (.int .i64 (M : Int)) (b9.tmps[113]?.getD undef) X ph := hV 18 _ 113 rfl rfl (Pred.waits_near (by kernel_rfl) (by kernel_rfl))
            exact Pred.yields_run (v := .slice aT (N - M) (cH - M)) (Pred.wanted_none rfl) (Eq.trans (run_back (by rfl) r112 r113 hMN) (by rw [HALL.out.2.2.2.2])) ⟨Below.refl _ _, rfl, Nat.zero_le _⟩
          · intro b9 X ph hE hd hn hS hV hI hF
            obtain ⟨r95, j95⟩ : PredU.At 0 (.pointer (some ⟨pd, 0, none⟩)) (b9.tmps[95]?.getD undef) X ph := hV 0 _ 95 rfl rfl (Pred.waits_near (by kernel_rfl) (by kernel_rfl))
            exact Pred.yields_run (v := .pointer (some ⟨pd, 0, none⟩)) (Pred.wanted_none rfl) (by go_simp) ⟨Below.refl _ _, rfl, Nat.zero_le _⟩
          · intro b9 X ph hE hd hn hS hV hI hF
            obtain ⟨r116, j116⟩ : PredU.At 0 (.pointer (some ⟨pd, 0, none⟩)) (b9.tmps[116]?.getD undef) X ph := hV 21 _ 116 rfl rfl (Pred.waits_near (by kernel_rfl) (by kernel_rfl))
            exact Pred.yields_run (v := .pointer (some ⟨pd, 1, none⟩)) (Pred.wanted_none rfl) (by go_simp) ⟨Below.refl _ _, rfl, Nat.zero_le _⟩
        · refine ⟨?_, ?_, ?_, ?_, trivial⟩
          · refine ⟨_, rfl, fun k hk => (by cases hk), fun b9 X hE hd hn hS hV hI => ?_⟩
            obtain ⟨j96, r96⟩ : PredU.When 0 (NoneH w3.heap.size) (b9.tmps[96]?.getD undef) X 0 := hV 1 _ 96 rfl rfl (Pred.waits_near (by kernel_rfl) (by kernel_rfl))
            obtain ⟨r102, j102⟩ : PredU.At 0 (.slice aF M cH) (b9.tmps[102]?.getD undef) X 0 := hV 7 _ 102 rfl rfl (Pred.waits_near (by kernel_rfl) (by kernel_rfl))
            replace hS : (fun y => Below w3.heap.size w3 y) X := hS
            obtain ⟨g9, hg9, hlo9, hb9⟩ := r96 rfl
            have hXs := hS.size
            have ho9 : X.ownsRow w3.heap.size 71 2 (.slice (some ⟨g9, 0, none⟩) 0 0) 0 [] := ⟨rfl, .inr ⟨g9, 0, _, rfl, hlo9, hb9, Nat.le_refl _, by decide, rfl, rfl⟩⟩
            refine yields_app_h rfl (.tmp 96) (.tmp 102) rfl w3.heap.size (.slice (some ⟨g9, 0, none⟩) 0 0) 0 [] (by simpa [Act.eval] using hg9) ho9 aF M cH _ (by simpa [Act.eval] using r102) (HRF.out.1.below hS (Nat.le_refl _)) HRF.out.2.2.1 (by omega) (by omega) ?_
            intro u y hown hgr
            rw [Nat.zero_add, List.nil_append] at hown
            have hbw := OctA.below_grownBy (B := w3.heap.size) hgr (by omega) (fun k hk => by cases hk; exact hlo9)
            refine ⟨⟨hbw.mono (by omega), fun _ g hg => hgr.block g (blk_lt hg) (fun e => ?_)⟩, hS.trans hbw, Nat.le_refl _, fun _ => hown⟩
            have e8 : some g = some g9 := e
            cases e8
            have e7 := hb9.symm.trans hg
            simp at e7
          · refine ⟨_, rfl, fun k hk => (by cases hk; exact Pred.waits_near (by kernel_rfl) (by kernel_rfl)), fun b9 X hE hd hn hS hV hI => ?_⟩
            obtain ⟨j103, r103⟩ : PredU.When 1 (fun u y => y.ownsRow w3.heap.size 71 2 u (M) (hs.take (M * 2))) (b9.tmps[103]?.getD undef) X 1 := hV 8 _ 103 rfl rfl (Pred.waits_near (by kernel_rfl) (by kernel_rfl))
            have r107 : (OneC #[Value.int .i64 (i : Int), Value.slice (some ⟨g3, 0, none⟩) 32 c3]) (b9.tmps[107]?.getD undef) X := (show PredU.Til 1 (OneC #[Value.int .i64 (i : Int), Value.slice (some ⟨g3, 0, none⟩) 32 c3]) (b9.tmps[107]?.getD undef) X 1 from hV 12 _ 107 rfl rfl (Pred.waits_near (by kernel_rfl) (by kernel_rfl))) (by omega)
            replace hS : (fun y => Below w3.heap.size w3 y) X := hS
            have ho9 := r103 rfl
            obtain ⟨g9, hg9, hb9⟩ := r107
            have hXs := hS.size
            refine yields_app_h rfl (.tmp 103) (.tmp 107) rfl w3.heap.size _ M _ rfl (by simpa [Act.eval] using ho9) (some ⟨g9, 0, none⟩) 1 1 [Value.int .i64 (i : Int), Value.slice (some ⟨g3, 0, none⟩) 32 c3] (by simpa [Act.eval] using hg9) ⟨rfl, .inr ⟨g9, 0, rfl, blk_lt hb9, fun j hj => by rw [Nat.zero_add, blk_cell hb9, List.getElem?_toArray]⟩⟩ (by intro u hu; simp at hu; rcases hu with rfl | rfl <;> rfl) (by omega) (by omega) ?_
            intro u y hown hgr
            have hbw := OctA.below_grownBy (B := w3.heap.size) hgr (by omega) (fun k hk => (ho9.lt k (by simpa [Act.eval] using hk)).1)
            exact ⟨⟨hbw.mono (by omega), fun e => absurd e (by decide)⟩, hS.trans hbw, Nat.le_refl _, fun _ => hown⟩
          · refine ⟨_, rfl, fun k hk => (by cases hk; exact Pred.waits_near (by kernel_rfl) (by kernel_rfl)), fun b9 X hE hd hn hS hV hI => ?_⟩
            obtain ⟨j108, r108⟩ : PredU.When 2 (fun u y => y.ownsRow w3.heap.size 71 2 u (M + 1) (hs.take (M * 2) ++ [Value.int .i64 (i : Int), Value.slice (some ⟨g3, 0, none⟩) 32 c3])) (b9.tmps[108]?.getD undef) X 2 := hV 13 _ 108 rfl rfl (Pred.waits_near (by kernel_rfl) (by kernel_rfl))
            obtain ⟨r114, j114⟩ : PredU.At 0 (.slice aT (N - M) (cH - M)) (b9.tmps[114]?.getD undef) X 2 := hV 19 _ 114 rfl rfl (Pred.waits_near (by kernel_rfl) (by kernel_rfl))
            replace hS : (fun y => Below w3.heap.size w3 y) X := hS
            have ho9 := r108 rfl
            have hXs := hS.size
            refine yields_app_h rfl (.tmp 108) (.tmp 114) rfl w3.heap.size _ (M + 1) _ rfl (by simpa [Act.eval] using ho9) aT (N - M) (cH - M) _ (by simpa [Act.eval] using r114) (HRF.out.2.1.below hS (Nat.le_refl _)) HRF.out.2.2.2 (by omega) (by omega) ?_
            intro u y hown hgr
            rw [show M + 1 + (N - M) = N + 1 by omega] at hown
            have hbw := OctA.below_grownBy (B := w3.heap.size) hgr (by omega) (fun k hk => (ho9.lt k (by simpa [Act.eval] using hk)).1)
            exact ⟨⟨hbw.mono (by omega), fun e => absurd e (by decide)⟩, hS.trans hbw, Nat.le_refl _, fun _ => hown⟩
          · refine ⟨_, rfl, fun k hk => (by cases hk; exact Pred.waits_near (by kernel_rfl) (by kernel_rfl)), fun b9 X hE hd hn hS hV hI => ?_⟩
            obtain ⟨r117, j117⟩ : PredU.At 0 (.pointer (some ⟨pd, 1, none⟩)) (b9.tmps[117]?.getD undef) X 3 := hV 22 _ 117 rfl rfl (Pred.waits_near (by kernel_rfl) (by kernel_rfl))
            obtain ⟨j115, r115⟩ : PredU.When 3 (fun u y => y.ownsRow w3.heap.size 71 2 u (N + 1) (hs.take (M * 2) ++ [Value.int .i64 (i : Int), Value.slice (some ⟨g3, 0, none⟩) 32 c3] ++ hs.drop (M * 2))) (b9.tmps[115]?.getD undef) X 3 := hV 20 _ 115 rfl rfl (Pred.waits_near (by kernel_rfl) (by kernel_rfl))
            replace hS : (fun y => Below w3.heap.size w3 y) X := hS
            have ho9 := r115 rfl
            clear r115
            obtain ⟨u, hu⟩ : ∃ u, b9.tmps[115]?.getD undef = u := ⟨_, rfl⟩
            rw [hu] at ho9
            obtain ⟨au, cu, rfl, hu1, hu2⟩ := owns_val ho9
            have hpx := (blk_below hS pd (blk_lt HHD.out)).trans HHD.out
            have f1 := blk_frozen hpx 1
            have cz : X.cell? ⟨pd, 1, none⟩ = some (.slice a N cH) := by rw [blk_cell hpx]; rfl
            have hpl := blk_lt HHD.out
            have hXs := hS.size
            refine yields_skip (w' := X.setCell ⟨pd, 1, none⟩ (.slice au (N + 1) cu)) (Pred.wanted_none rfl) (by go_simp) ⟨⟨?_, fun e => absurd e (by decide)⟩, ⟨.slice au (N + 1) cu, by simpa using hXs, own_head ho9 hpx (by decide), blk_set X pd 1 _ _ _ hpx, fun k hk hp => ?_⟩, rfl, Nat.zero_le _⟩
            · exact ⟨rfl, rfl, rfl, by simp, fun k1 h1 => heap_setCell_other _ _ _ _ (by show k1 ≠ pd; omega)⟩
            · exact (heap_setCell_other _ _ _ _ hp).trans (hS.block k hk)
        intro v X hE hS hv
        replace hS : (fun y => ∃ v0, w3.heap.size ≤ y.heap.size ∧ y.ownsRow w3.heap.size 71 2 v0 (N + 1) (hs.take (M * 2) ++ [Value.int .i64 (i : Int), Value.slice (some ⟨g3, 0, none⟩) 32 c3] ++ hs.drop (M * 2)) ∧ blk y pd = some (.cells #[.slice (some ⟨bg, 0, none⟩) n cb, v0, .int .i64 fu, .int .i64 s.ms, .bool s.dn, .int .i64 (s.wr + 1)] 50 (0, 0)) ∧ ∀ k, k < w3.heap.size → k ≠ pd → y.heap[k]? = w3.heap[k]?) X := hS
        have e0 : v 0 = .pointer (some ⟨pd, 0, none⟩) := (hv 0 _ 95 rfl rfl).1
        generalize hg1 : v 1 = vv1
        have e2 : v 2 = .pointer (some ⟨pd, 0, none⟩) := (hv 2 _ 97 rfl rfl).1
        have e3 : v 3 = .pointer (some ⟨pd, 0, none⟩) := (hv 3 _ 98 rfl rfl).1
        have e4 : v 4 = .pointer (some ⟨pd, 1, none⟩) := (hv 4 _ 99 rfl rfl).1
        have e5 : v 5 = .slice a N cH := (hv 5 _ 100 rfl rfl).1
        have e6 : v 6 = .int .i64 (M : Int) := (hv 6 _ 101 rfl rfl).1
        have e7 : v 7 = .slice aF M cH := (hv 7 _ 102 rfl rfl).1
        generalize hg8 : v 8 = vv8
        have e9 : v 9 = .int .i64 (i : Int) := (hv 9 _ 104 rfl rfl).1
        have e10 : v 10 = .slice (some ⟨g3, 0, none⟩) 32 c3 := (hv 10 _ 105 rfl rfl).1
        have e11 : v 11 = .agg #[Value.int .i64 (i : Int), Value.slice (some ⟨g3, 0, none⟩) 32 c3] := (hv 11 _ 106 rfl rfl).1
        generalize hg12 : v 12 = vv12
        generalize hg13 : v 13 = vv13
        have e14 : v 14 = .pointer (some ⟨pd, 0, none⟩) := (hv 14 _ 109 rfl rfl).1
        have e15 : v 15 = .pointer (some ⟨pd, 0, none⟩) := (hv 15 _ 110 rfl rfl).1
        have e16 : v 16 = .pointer (some ⟨pd, 1, none⟩) := (hv 16 _ 111 rfl rfl).1
        have e17 : v 17 = .slice a N cH := (hv 17 _ 112 rfl rfl).1
        have e18 : v 18 = .int .i64 (M : Int) := (hv 18 _ 113 rfl rfl).1
        have e19 : v 19 = .slice aT (N - M) (cH - M) := (hv 19 _ 114 rfl rfl).1
        generalize hg20 : v 20 = vv20
        have e21 : v 21 = .pointer (some ⟨pd, 0, none⟩) := (hv 21 _ 116 rfl rfl).1
        have e22 : v 22 = .pointer (some ⟨pd, 1, none⟩) := (hv 22 _ 117 rfl rfl).1
        simp only [Pred.putsF_cons, Pred.putsF_nil, Nat.zero_add, Nat.reduceAdd, e0, hg1, e2, e3, e4, e5, e6, e7, hg8, e9, e10, e11, hg12, hg13, e14, e15, e16, e17, e18, e19, hg20, e21, e22, Act.put, List.setIfInBounds_toArray, List.set_cons_zero, List.set_cons_succ]
        clear e0 hg1 e2 e3 e4 e5 e6 e7 hg8 e9 e10 e11 hg12 hg13 e14 e15 e16 e17 e18 e19 hg20 e21 e22 hv
        obtain ⟨v0, hz9, hown9, hhd9, hbl9⟩ := hS
        have hfin := ins_done (i := i) (l := l) HHD.out (by omega) hBR.out HHC.out (by rw [HLEN.out, HNN.out.1]) hOm.out hbl9 (by rw [HNN.out.1, HNN.out.2]; exact hown9) hE
        have HP9 : Hid (Rf X B0 pd bg n (wrS s i l)) := Lib.hid (by
          rw [HWR.out]
          refine ⟨hlo, ⟨cb, v0, ⟨hhd9⟩, hfin.1, ?_⟩, hRf.out.small, hRf.out.kl, ⟨by show (s.H.set i _).length = n; rw [List.length_set]; exact hRf.out.hb.1, HHB.out⟩⟩
          show HR _ B0 _ (hl (s.H.set i (true, l)) 0)
          rw [EL2.out]
          exact hfin.2.1)
        have HF9 : Hid (Fr B0 w X) := Lib.hid (Fr.trans HF3.out hfin.2.2)
        clear hfin hown9 hhd9 hbl9
        go_wp2
        go_ret
        exact ⟨rfl, HP9.out, HF9.out⟩
      · have d0 : decide (0 < (k : Int)) = false := decide_eq_false (by omega)
        obtain ⟨M, hMM⟩ : ∃ M, k = M := ⟨_, rfl⟩
        rw [hMM] at HRF HALL HNN d0 hMN ⊢
        go_upto_region 19 with (fail)
        have hpl9 := blk_lt HHD.out
        have hB0 : B0 ≤ w3.heap.size := by omega
        refine PredU.region_of (W := w3) (KC #[Value.int .i64 (i : Int), Value.slice (some ⟨g3, 0, none⟩) 32 c3]) (B0) hB0 [8, 13, 20, 23] [
            fun y => Below w3.heap.size w3 y,
            fun y => Below w3.heap.size w3 y,
            fun y => Below w3.heap.size w3 y,
            fun y => Below w3.heap.size w3 y,
            fun y => ∃ v0, w3.heap.size ≤ y.heap.size ∧ y.ownsRow w3.heap.size 71 2 v0 (N + 1) (hs.take (M * 2) ++ [Value.int .i64 (i : Int), Value.slice (some ⟨g3, 0, none⟩) 32 c3] ++ hs.drop (M * 2)) ∧ blk y pd = some (.cells #[.slice (some ⟨bg, 0, none⟩) n cb, v0, .int .i64 fu, .int .i64 s.ms, .bool s.dn, .int .i64 (s.wr + 1)] 50 (0, 0)) ∧ ∀ k, k < w3.heap.size → k ≠ pd → y.heap[k]? = w3.heap[k]?] [
            PredU.At 0 (.pointer (some ⟨pd, 0, none⟩)),
            PredU.When 0 (NoneH w3.heap.size),
            PredU.At 0 (.pointer (some ⟨pd, 0, none⟩)),
            PredU.At 0 (.pointer (some ⟨pd, 0, none⟩)),
            PredU.At 0 (.pointer (some ⟨pd, 1, none⟩)),
            PredU.At 0 (.slice a N cH),
            PredU.At 0 (.int .i64 (M : Int)),
            PredU.At 0 (.slice aF M cH),
            PredU.When 1 (fun u y => y.ownsRow w3.heap.size 71 2 u (M) (hs.take (M * 2))),
            PredU.At 0 (.int .i64 (i : Int)),
            PredU.At 0 (.slice (some ⟨g3, 0, none⟩) 32 c3),
            PredU.At 0 (.agg #[Value.int .i64 (i : Int), Value.slice (some ⟨g3, 0, none⟩) 32 c3]),
            PredU.Til 1 (OneC #[Value.int .i64 (i : Int), Value.slice (some ⟨g3, 0, none⟩) 32 c3]),
            PredU.When 2 (fun u y => y.ownsRow w3.heap.size 71 2 u (M + 1) (hs.take (M * 2) ++ [Value.int .i64 (i : Int), Value.slice (some ⟨g3, 0, none⟩) 32 c3])),
            PredU.At 0 (.pointer (some ⟨pd, 0, none⟩)),
            PredU.At 0 (.pointer (some ⟨pd, 0, none⟩)),
            PredU.At 0 (.pointer (some ⟨pd, 1, none⟩)),
            PredU.At 0 (.slice a N cH),
            PredU.At 0 (.int .i64 (M : Int)),
            PredU.At 0 (.slice aT (N - M) (cH - M)),
            PredU.When 3 (fun u y => y.ownsRow w3.heap.size 71 2 u (N + 1) (hs.take (M * 2) ++ [Value.int .i64 (i : Int), Value.slice (some ⟨g3, 0, none⟩) 32 c3] ++ hs.drop (M * 2))),
            PredU.At 0 (.pointer (some ⟨pd, 0, none⟩)),
            PredU.At 0 (.pointer (some ⟨pd, 1, none⟩)),
            PredU.At 0 (undef)] (by kernel_rfl) (by kernel_rfl) (by kernel_rfl) (by decide) (by decide) ?_ ?_ ?_ ?_ ?_ ?_
        · exact ⟨PredU.at_stab _ _ _ _ _, PredU.when_stab _ _ _ _ (fun u y y' h hb => noneh_below h hb), PredU.at_stab _ _ _ _ _, PredU.at_stab _ _ _ _ _, PredU.at_stab _ _ _ _ _, PredU.at_stab _ _ _ _ _, PredU.at_stab _ _ _ _ _, PredU.at_stab _ _ _ _ _, PredU.when_stab _ _ _ _ (fun u y y' h hb => own_below h hb), PredU.at_stab _ _ _ _ _, PredU.at_stab _ _ _ _ _, PredU.at_stab _ _ _ _ _, onec_stab _ _ _, PredU.when_stab _ _ _ _ (fun u y y' h hb => own_below h hb), PredU.at_stab _ _ _ _ _, PredU.at_stab _ _ _ _ _, PredU.at_stab _ _ _ _ _, PredU.at_stab _ _ _ _ _, PredU.at_stab _ _ _ _ _, PredU.at_stab _ _ _ _ _, PredU.when_stab _ _ _ _ (fun u y y' h hb => own_below h hb), PredU.at_stab _ _ _ _ _, PredU.at_stab _ _ _ _ _, PredU.at_stab _ _ _ _ _, trivial⟩
        · intro q hq
          rcases List.mem_cons.1 hq with rfl | hq
          · exact fun y y' h hb => h.trans (hb.mono h.size)
          rcases List.mem_cons.1 hq with rfl | hq
          · exact fun y y' h hb => h.trans (hb.mono h.size)
          rcases List.mem_cons.1 hq with rfl | hq
          · exact fun y y' h hb => h.trans (hb.mono h.size)
          rcases List.mem_cons.1 hq with rfl | hq
          · exact fun y y' h hb => h.trans (hb.mono h.size)
          rcases List.mem_cons.1 hq with rfl | hq
          · exact fun y y' ⟨u, h0, h1, h2, h3⟩ hb => ⟨u, Nat.le_trans h0 hb.size, own_below h1 hb, (blk_below hb pd (blk_lt h2)).trans h2, fun k hk hp => (hb.block k (by omega)).trans (h3 k hk hp)⟩
          cases hq
        · exact Below.refl _ _
        · refine ⟨.inr ?_, .inr ?_, .inr ?_, .inr ?_, .inr ?_, .inr ?_, .inr ?_, .inr ?_, .inl rfl, .inr ?_, .inr ?_, .inr ?_, .inr ?_, .inl rfl, .inr ?_, .inr ?_, .inr ?_, .inr ?_, .inr ?_, .inr ?_, .inl rfl, .inr ?_, .inr ?_, .inl rfl, trivial⟩
          · intro b9 X ph hE hd hn hS hV hI hF
            have r0 : b9.tmps[0]?.getD undef = .pointer (some ⟨pd, 0, none⟩) := (hn 0 (by kernel_rfl)).trans rfl
            exact Pred.yields_run (v := .pointer (some ⟨pd, 0, none⟩)) (Pred.wanted_none rfl) (by go_simp) ⟨Below.refl _ _, rfl, Nat.zero_le _⟩
          · intro b9 X ph hE hd hn hS hV hI hF
            have hp0 : ph = 0 := Nat.le_zero.1 (hF 0 8 rfl (Pred.waits_more 8 _ _ (Nat.le_of_ble_eq_true (by kernel_rfl)) (by kernel_rfl)))
            subst hp0
            have hb0 : Below w3.heap.size w3 X := hS
            have hXs := hb0.size
            exact Pred.yields_run (v := .slice (some ⟨X.heap.size, 0, none⟩) 0 0) (w' := X.alloc (.cells #[] 71)) (Pred.wanted_none rfl) (by go_simp) ⟨(Below.refl _ _).alloc (Nat.le_refl _) _, Nat.zero_le _, fun _ => ⟨X.heap.size, rfl, hXs, blk_alloc_at _ _ _ rfl⟩⟩
          · intro b9 X ph hE hd hn hS hV hI hF
            have r0 : b9.tmps[0]?.getD undef = .pointer (some ⟨pd, 0, none⟩) := (hn 0 (by kernel_rfl)).trans rfl
            exact Pred.yields_run (v := .pointer (some ⟨pd, 0, none⟩)) (Pred.wanted_none rfl) (by go_simp) ⟨Below.refl _ _, rfl, Nat.zero_le _⟩
          · intro b9 X ph hE hd hn hS hV hI hF
            obtain ⟨r97, j97⟩ : PredU.At 0 (.pointer (some ⟨pd, 0, none⟩)) (b9.tmps[97]?.getD undef) X ph := hV 2 _ 97 rfl rfl (Pred.waits_near (by kernel_rfl) (by kernel_rfl))
            exact Pred.yields_run (v := .pointer (some ⟨pd, 0, none⟩)) (Pred.wanted_none rfl) (by go_simp) ⟨Below.refl _ _, rfl, Nat.zero_le _⟩
          · intro b9 X ph hE hd hn hS hV hI hF
            obtain ⟨r98, j98⟩ : PredU.At 0 (.pointer (some ⟨pd, 0, none⟩)) (b9.tmps[98]?.getD undef) X ph := hV 3 _ 98 rfl rfl (Pred.waits_near (by kernel_rfl) (by kernel_rfl))
            exact Pred.yields_run (v := .pointer (some ⟨pd, 1, none⟩)) (Pred.wanted_none rfl) (by go_simp) ⟨Below.refl _ _, rfl, Nat.zero_le _⟩
          · intro b9 X ph hE hd hn hS hV hI hF
            obtain ⟨r99, j99⟩ : PredU.At 0 (.pointer (some ⟨pd, 1, none⟩)) (b9.tmps[99]?.getD undef) X ph := hV 4 _ 99 rfl rfl (Pred.waits_near (by kernel_rfl) (by kernel_rfl))
            have hp0 : ph = 0 := Nat.le_zero.1 (hF 0 8 rfl (Pred.waits_more 8 _ _ (Nat.le_of_ble_eq_true (by kernel_rfl)) (by kernel_rfl)))
            subst hp0
            have hb0 : Below w3.heap.size w3 X := hS
            have hXs := hb0.size
            have z : X.cell? ⟨pd, 1, none⟩ = some (.slice a N cH) := by rw [blk_cell ((blk_below hb0 pd (blk_lt HHD.out)).trans HHD.out)]; rfl
            exact Pred.yields_run (v := .slice a N cH) (Pred.wanted_none rfl) (by go_simp) ⟨Below.refl _ _, rfl, Nat.zero_le _⟩
          · intro b9 X ph hE hd hn hS hV hI hF
            have r9 : b9.tmps[9]?.getD undef = .int .i64 (M : Int) := (hn 9 (by kernel_rfl)).trans rfl
            exact Pred.yields_run (v := .int .i64 (M : Int)) (Pred.wanted_none rfl) (by go_simp) ⟨Below.refl _ _, rfl, Nat.zero_le _⟩
          · intro b9 X ph hE hd hn hS hV hI hF
            obtain ⟨r100, j100⟩ : PredU.At 0 (.slice a N cH) (b9.tmps[100]?.getD undef) X ph := hV 5 _ 100 rfl rfl (Pred.waits_near (by kernel_rfl) (by kernel_rfl))
            obtain ⟨r101, j101⟩ : PredU.At 0 (.int .i64 (M : Int)) (b9.tmps[101]?.getD undef) X ph := hV 6 _ 101 rfl rfl (Pred.waits_near (by kernel_rfl) (by kernel_rfl))
            exact Pred.yields_run (v := .slice aF M cH) (Pred.wanted_none rfl) (Eq.trans (run_front (by rfl) r100 r101 (Nat.le_trans hMN hch)) (by rw [HALL.out.2.2.2.1])) ⟨Below.refl _ _, rfl, Nat.zero_le _⟩
          · intro b9 X ph hE hd hn hS hV hI hF
            have r1 : b9.tmps[1]?.getD undef = .int .i64 (i : Int) := (hn 1 (by kernel_rfl)).trans rfl
            exact Pred.yields_run (v := .int .i64 (i : Int)) (Pred.wanted_none rfl) (by go_simp) ⟨Below.refl _ _, rfl, Nat.zero_le _⟩
          · intro b9 X ph hE hd hn hS hV hI hF
            have r7 : b9.tmps[7]?.getD undef = .slice (some ⟨g3, 0, none⟩) 32 c3 := (hn 7 (by kernel_rfl)).trans rfl
            exact Pred.yields_run (v := .slice (some ⟨g3, 0, none⟩) 32 c3) (Pred.wanted_none rfl) (by go_simp) ⟨Below.refl _ _, rfl, Nat.zero_le _⟩
          · intro b9 X ph hE hd hn hS hV hI hF
            obtain ⟨r104, j104⟩ : PredU.At 0 (.int .i64 (i : Int)) (b9.tmps[104]?.getD undef) X ph := hV 9 _ 104 rfl rfl (Pred.waits_near (by kernel_rfl) (by kernel_rfl))
            obtain ⟨r105, j105⟩ : PredU.At 0 (.slice (some ⟨g3, 0, none⟩) 32 c3) (b9.tmps[105]?.getD undef) X ph := hV 10 _ 105 rfl rfl (Pred.waits_near (by kernel_rfl) (by kernel_rfl))
            exact Pred.yields_run (v := .agg #[Value.int .i64 (i : Int), Value.slice (some ⟨g3, 0, none⟩) 32 c3]) (Pred.wanted_none rfl) (by go_simp) ⟨Below.refl _ _, rfl, Nat.zero_le _⟩
          · intro b9 X ph hE hd hn hS hV hI hF
            obtain ⟨r106, j106⟩ : PredU.At 0 (.agg #[Value.int .i64 (i : Int), Value.slice (some ⟨g3, 0, none⟩) 32 c3]) (b9.tmps[106]?.getD undef) X ph := hV 11 _ 106 rfl rfl (Pred.waits_near (by kernel_rfl) (by kernel_rfl))
            exact Pred.yields_run (v := .slice (some ⟨X.heap.size, 0, none⟩) 1 1) (w' := X.alloc (.cells #[Value.int .i64 (i : Int), Value.slice (some ⟨g3, 0, none⟩) 32 c3] 71)) (Pred.wanted_none rfl) (by go_simp) ⟨(Below.refl _ _).alloc (Nat.le_refl _) _, fun _ => ⟨X.heap.size, rfl, blk_alloc_at _ _ _ rfl⟩⟩
          · intro b9 X ph hE hd hn hS hV hI hF
            have r0 : b9.tmps[0]?.getD undef = .pointer (some ⟨pd, 0, none⟩) := (hn 0 (by kernel_rfl)).trans rfl
            exact Pred.yields_run (v := .pointer (some ⟨pd, 0, none⟩)) (Pred.wanted_none rfl) (by go_simp) ⟨Below.refl _ _, rfl, Nat.zero_le _⟩
          · intro b9 X ph hE hd hn hS hV hI hF
            obtain ⟨r109, j109⟩ : PredU.At 0 (.pointer (some ⟨pd, 0, none⟩)) (b9.tmps[109]?.getD undef) X ph := hV 14 _ 109 rfl rfl (Pred.waits_near (by kernel_rfl) (by kernel_rfl))
            exact Pred.yields_run (v := .pointer (some ⟨pd, 0, none⟩)) (Pred.wanted_none rfl) (by go_simp) ⟨Below.refl _ _, rfl, Nat.zero_le _⟩
          · intro b9 X ph hE hd hn hS hV hI hF
            obtain ⟨r110, j110⟩ : PredU.At 0 (.pointer (some ⟨pd, 0, none⟩)) (b9.tmps[110]?.getD undef) X ph := hV 15 _ 110 rfl rfl (Pred.waits_near (by kernel_rfl) (by kernel_rfl))
            exact Pred.yields_run (v := .pointer (some ⟨pd, 1, none⟩)) (Pred.wanted_none rfl) (by go_simp) ⟨Below.refl _ _, rfl, Nat.zero_le _⟩
          · intro b9 X ph hE hd hn hS hV hI hF
            obtain ⟨r111, j111⟩ : PredU.At 0 (.pointer (some ⟨pd, 1, none⟩)) (b9.tmps[111]?.getD undef) X ph := hV 16 _ 111 rfl rfl (Pred.waits_near (by kernel_rfl) (by kernel_rfl))
            have hp2 : ph ≤ 2 := hF 2 20 rfl (Pred.waits_more 8 _ _ (Nat.le_of_ble_eq_true (by kernel_rfl)) (by kernel_rfl))
            have hb0 : Below w3.heap.size w3 X := by
              rcases (show ph = 0 ∨ ph = 1 ∨ ph = 2 by omega) with rfl | rfl | rfl <;> exact hS
            have z : X.cell? ⟨pd, 1, none⟩ = some (.slice a N cH) := by rw [blk_cell ((blk_below hb0 pd (blk_lt HHD.out)).trans HHD.out)]; rfl
            exact Pred.yields_run (v := .slice a N cH) (Pred.wanted_none rfl) (by go_simp) ⟨Below.refl _ _, rfl, Nat.zero_le _⟩
          · intro b9 X ph hE hd hn hS hV hI hF
            have r9 : b9.tmps[9]?.getD undef = .int .i64 (M : Int) := (hn 9 (by kernel_rfl)).trans rfl
            exact Pred.yields_run (v := .int .i64 (M : Int)) (Pred.wanted_none rfl) (by go_simp) ⟨Below.refl _ _, rfl, Nat.zero_le _⟩
          · intro b9 X ph hE hd hn hS hV hI hF
            obtain ⟨r112, j112⟩ : PredU.At 0 (.slice a N cH) (b9.tmps[112]?.getD undef) X ph := hV 17 _ 112 rfl rfl (Pred.waits_near (by kernel_rfl) (by kernel_rfl))
            obtain ⟨r113, j113⟩ : PredU.At 0 (.int .i64 (M : Int)) (b9.tmps[113]?.getD undef) X ph := hV 18 _ 113 rfl rfl (Pred.waits_near (by kernel_rfl) (by kernel_rfl))
            exact Pred.yields_run (v := .slice aT (N - M) (cH - M)) (Pred.wanted_none rfl) (Eq.trans (run_back (by rfl) r112 r113 hMN) (by rw [HALL.out.2.2.2.2])) ⟨Below.refl _ _, rfl, Nat.zero_le _⟩
          · intro b9 X ph hE hd hn hS hV hI hF
            obtain ⟨r95, j95⟩ : PredU.At 0 (.pointer (some ⟨pd, 0, none⟩)) (b9.tmps[95]?.getD undef) X ph := hV 0 _ 95 rfl rfl (Pred.waits_near (by kernel_rfl) (by kernel_rfl))
            exact Pred.yields_run (v := .pointer (some ⟨pd, 0, none⟩)) (Pred.wanted_none rfl) (by go_simp) ⟨Below.refl _ _, rfl, Nat.zero_le _⟩
          · intro b9 X ph hE hd hn hS hV hI hF
            obtain ⟨r116, j116⟩ : PredU.At 0 (.pointer (some ⟨pd, 0, none⟩)) (b9.tmps[116]?.getD undef) X ph := hV 21 _ 116 rfl rfl (Pred.waits_near (by kernel_rfl) (by kernel_rfl))
            exact Pred.yields_run (v := .pointer (some ⟨pd, 1, none⟩)) (Pred.wanted_none rfl) (by go_simp) ⟨Below.refl _ _, rfl, Nat.zero_le _⟩
        · refine ⟨?_, ?_, ?_, ?_, trivial⟩
          · refine ⟨_, rfl, fun k hk => (by cases hk), fun b9 X hE hd hn hS hV hI => ?_⟩
            obtain ⟨j96, r96⟩ : PredU.When 0 (NoneH w3.heap.size) (b9.tmps[96]?.getD undef) X 0 := hV 1 _ 96 rfl rfl (Pred.waits_near (by kernel_rfl) (by kernel_rfl))
            obtain ⟨r102, j102⟩ : PredU.At 0 (.slice aF M cH) (b9.tmps[102]?.getD undef) X 0 := hV 7 _ 102 rfl rfl (Pred.waits_near (by kernel_rfl) (by kernel_rfl))
            replace hS : (fun y => Below w3.heap.size w3 y) X := hS
            obtain ⟨g9, hg9, hlo9, hb9⟩ := r96 rfl
            have hXs := hS.size
            have ho9 : X.ownsRow w3.heap.size 71 2 (.slice (some ⟨g9, 0, none⟩) 0 0) 0 [] := ⟨rfl, .inr ⟨g9, 0, _, rfl, hlo9, hb9, Nat.le_refl _, by decide, rfl, rfl⟩⟩
            refine yields_app_h rfl (.tmp 96) (.tmp 102) rfl w3.heap.size (.slice (some ⟨g9, 0, none⟩) 0 0) 0 [] (by simpa [Act.eval] using hg9) ho9 aF M cH _ (by simpa [Act.eval] using r102) (HRF.out.1.below hS (Nat.le_refl _)) HRF.out.2.2.1 (by omega) (by omega) ?_
            intro u y hown hgr
            rw [Nat.zero_add, List.nil_append] at hown
            have hbw := OctA.below_grownBy (B := w3.heap.size) hgr (by omega) (fun k hk => by cases hk; exact hlo9)
            refine ⟨⟨hbw.mono (by omega), fun _ g hg => hgr.block g (blk_lt hg) (fun e => ?_)⟩, hS.trans hbw, Nat.le_refl _, fun _ => hown⟩
            have e8 : some g = some g9 := e
            cases e8
            have e7 := hb9.symm.trans hg
            simp at e7
          · refine ⟨_, rfl, fun k hk => (by cases hk; exact Pred.waits_near (by kernel_rfl) (by kernel_rfl)), fun b9 X hE hd hn hS hV hI => ?_⟩
            obtain ⟨j103, r103⟩ : PredU.When 1 (fun u y => y.ownsRow w3.heap.size 71 2 u (M) (hs.take (M * 2))) (b9.tmps[103]?.getD undef) X 1 := hV 8 _ 103 rfl rfl (Pred.waits_near (by kernel_rfl) (by kernel_rfl))
            have r107 : (OneC #[Value.int .i64 (i : Int), Value.slice (some ⟨g3, 0, none⟩) 32 c3]) (b9.tmps[107]?.getD undef) X := (show PredU.Til 1 (OneC #[Value.int .i64 (i : Int), Value.slice (some ⟨g3, 0, none⟩) 32 c3]) (b9.tmps[107]?.getD undef) X 1 from hV 12 _ 107 rfl rfl (Pred.waits_near (by kernel_rfl) (by kernel_rfl))) (by omega)
            replace hS : (fun y => Below w3.heap.size w3 y) X := hS
            have ho9 := r103 rfl
            obtain ⟨g9, hg9, hb9⟩ := r107
            have hXs := hS.size
            refine yields_app_h rfl (.tmp 103) (.tmp 107) rfl w3.heap.size _ M _ rfl (by simpa [Act.eval] using ho9) (some ⟨g9, 0, none⟩) 1 1 [Value.int .i64 (i : Int), Value.slice (some ⟨g3, 0, none⟩) 32 c3] (by simpa [Act.eval] using hg9) ⟨rfl, .inr ⟨g9, 0, rfl, blk_lt hb9, fun j hj => by rw [Nat.zero_add, blk_cell hb9, List.getElem?_toArray]⟩⟩ (by intro u hu; simp at hu; rcases hu with rfl | rfl <;> rfl) (by omega) (by omega) ?_
            intro u y hown hgr
            have hbw := OctA.below_grownBy (B := w3.heap.size) hgr (by omega) (fun k hk => (ho9.lt k (by simpa [Act.eval] using hk)).1)
            exact ⟨⟨hbw.mono (by omega), fun e => absurd e (by decide)⟩, hS.trans hbw, Nat.le_refl _, fun _ => hown⟩
          · refine ⟨_, rfl, fun k hk => (by cases hk; exact Pred.waits_near (by kernel_rfl) (by kernel_rfl)), fun b9 X hE hd hn hS hV hI => ?_⟩
            obtain ⟨j108, r108⟩ : PredU.When 2 (fun u y => y.ownsRow w3.heap.size 71 2 u (M + 1) (hs.take (M * 2) ++ [Value.int .i64 (i : Int), Value.slice (some ⟨g3, 0, none⟩) 32 c3])) (b9.tmps[108]?.getD undef) X 2 := hV 13 _ 108 rfl rfl (Pred.waits_near (by kernel_rfl) (by kernel_rfl))
            obtain ⟨r114, j114⟩ : PredU.At 0 (.slice aT (N - M) (cH - M)) (b9.tmps[114]?.getD undef) X 2 := hV 19 _ 114 rfl rfl (Pred.waits_near (by kernel_rfl) (by kernel_rfl))
            replace hS : (fun y => Below w3.heap.size w3 y) X := hS
            have ho9 := r108 rfl
            have hXs := hS.size
            refine yields_app_h rfl (.tmp 108) (.tmp 114) rfl w3.heap.size _ (M + 1) _ rfl (by simpa [Act.eval] using ho9) aT (N - M) (cH - M) _ (by simpa [Act.eval] using r114) (HRF.out.2.1.below hS (Nat.le_refl _)) HRF.out.2.2.2 (by omega) (by omega) ?_
            intro u y hown hgr
            rw [show M + 1 + (N - M) = N + 1 by omega] at hown
            have hbw := OctA.below_grownBy (B := w3.heap.size) hgr (by omega) (fun k hk => (ho9.lt k (by simpa [Act.eval] using hk)).1)
            exact ⟨⟨hbw.mono (by omega), fun e => absurd e (by decide)⟩, hS.trans hbw, Nat.le_refl _, fun _ => hown⟩
          · refine ⟨_, rfl, fun k hk => (by cases hk; exact Pred.waits_near (by kernel_rfl) (by kernel_rfl)), fun b9 X hE hd hn hS hV hI => ?_⟩
            obtain ⟨r117, j117⟩ : PredU.At 0 (.pointer (some ⟨pd, 1, none⟩)) (b9.tmps[117]?.getD undef) X 3 := hV 22 _ 117 rfl rfl (Pred.waits_near (by kernel_rfl) (by kernel_rfl))
            obtain ⟨j115, r115⟩ : PredU.When 3 (fun u y => y.ownsRow w3.heap.size 71 2 u (N + 1) (hs.take (M * 2) ++ [Value.int .i64 (i : Int), Value.slice (some ⟨g3, 0, none⟩) 32 c3] ++ hs.drop (M * 2))) (b9.tmps[115]?.getD undef) X 3 := hV 20 _ 115 rfl rfl (Pred.waits_near (by kernel_rfl) (by kernel_rfl))
            replace hS : (fun y => Below w3.heap.size w3 y) X := hS
            have ho9 := r115 rfl
            clear r115
            obtain ⟨u, hu⟩ : ∃ u, b9.tmps[115]?.getD undef = u := ⟨_, rfl⟩
            rw [hu] at ho9
            obtain ⟨au, cu, rfl, hu1, hu2⟩ := owns_val ho9
            have hpx := (blk_below hS pd (blk_lt HHD.out)).trans HHD.out
            have f1 := blk_frozen hpx 1
            have cz : X.cell? ⟨pd, 1, none⟩ = some (.slice a N cH) := by rw [blk_cell hpx]; rfl
            have hpl := blk_lt HHD.out
            have hXs := hS.size
            refine yields_skip (w' := X.setCell ⟨pd, 1, none⟩ (.slice au (N + 1) cu)) (Pred.wanted_none rfl) (by go_simp) ⟨⟨?_, fun e => absurd e (by decide)⟩, ⟨.slice au (N + 1) cu, by simpa using hXs, own_head ho9 hpx (by decide), blk_set X pd 1 _ _ _ hpx, fun k hk hp => ?_⟩, rfl, Nat.zero_le _⟩
            · exact ⟨rfl, rfl, rfl, by simp, fun k1 h1 => heap_setCell_other _ _ _ _ (by show k1 ≠ pd; omega)⟩
            · exact (heap_setCell_other _ _ _ _ hp).trans (hS.block k hk)
        intro v X hE hS hv
        replace hS : (fun y => ∃ v0, w3.heap.size ≤ y.heap.size ∧ y.ownsRow w3.heap.size 71 2 v0 (N + 1) (hs.take (M * 2) ++ [Value.int .i64 (i : Int), Value.slice (some ⟨g3, 0, none⟩) 32 c3] ++ hs.drop (M * 2)) ∧ blk y pd = some (.cells #[.slice (some ⟨bg, 0, none⟩) n cb, v0, .int .i64 fu, .int .i64 s.ms, .bool s.dn, .int .i64 (s.wr + 1)] 50 (0, 0)) ∧ ∀ k, k < w3.heap.size → k ≠ pd → y.heap[k]? = w3.heap[k]?) X := hS
        have e0 : v 0 = .pointer (some ⟨pd, 0, none⟩) := (hv 0 _ 95 rfl rfl).1
        generalize hg1 : v 1 = vv1
        have e2 : v 2 = .pointer (some ⟨pd, 0, none⟩) := (hv 2 _ 97 rfl rfl).1
        have e3 : v 3 = .pointer (some ⟨pd, 0, none⟩) := (hv 3 _ 98 rfl rfl).1
        have e4 : v 4 = .pointer (some ⟨pd, 1, none⟩) := (hv 4 _ 99 rfl rfl).1
        have e5 : v 5 = .slice a N cH := (hv 5 _ 100 rfl rfl).1
        have e6 : v 6 = .int .i64 (M : Int) := (hv 6 _ 101 rfl rfl).1
        have e7 : v 7 = .slice aF M cH := (hv 7 _ 102 rfl rfl).1
        generalize hg8 : v 8 = vv8
        have e9 : v 9 = .int .i64 (i : Int) := (hv 9 _ 104 rfl rfl).1
        have e10 : v 10 = .slice (some ⟨g3, 0, none⟩) 32 c3 := (hv 10 _ 105 rfl rfl).1
        have e11 : v 11 = .agg #[Value.int .i64 (i : Int), Value.slice (some ⟨g3, 0, none⟩) 32 c3] := (hv 11 _ 106 rfl rfl).1
        generalize hg12 : v 12 = vv12
        generalize hg13 : v 13 = vv13
        have e14 : v 14 = .pointer (some ⟨pd, 0, none⟩) := (hv 14 _ 109 rfl rfl).1
        have e15 : v 15 = .pointer (some ⟨pd, 0, none⟩) := (hv 15 _ 110 rfl rfl).1
        have e16 : v 16 = .pointer (some ⟨pd, 1, none⟩) := (hv 16 _ 111 rfl rfl).1
        have e17 : v 17 = .slice a N cH := (hv 17 _ 112 rfl rfl).1
        have e18 : v 18 = .int .i64 (M : Int) := (hv 18 _ 113 rfl rfl).1
        have e19 : v 19 = .slice aT (N - M) (cH - M) := (hv 19 _ 114 rfl rfl).1
        generalize hg20 : v 20 = vv20
        have e21 : v 21 = .pointer (some ⟨pd, 0, none⟩) := (hv 21 _ 116 rfl rfl).1
        have e22 : v 22 = .pointer (some ⟨pd, 1, none⟩) := (hv 22 _ 117 rfl rfl).1
        simp only [Pred.putsF_cons, Pred.putsF_nil, Nat.zero_add, Nat.reduceAdd, e0, hg1, e2, e3, e4, e5, e6, e7, hg8, e9, e10, e11, hg12, hg13, e14, e15, e16, e17, e18, e19, hg20, e21, e22, Act.put, List.setIfInBounds_toArray, List.set_cons_zero, List.set_cons_succ]
        clear e0 hg1 e2 e3 e4 e5 e6 e7 hg8 e9 e10 e11 hg12 hg13 e14 e15 e16 e17 e18 e19 hg20 e21 e22 hv
        obtain ⟨v0, hz9, hown9, hhd9, hbl9⟩ := hS
        have hfin := ins_done (i := i) (l := l) HHD.out (by omega) hBR.out HHC.out (by rw [HLEN.out, HNN.out.1]) hOm.out hbl9 (by rw [HNN.out.1, HNN.out.2]; exact hown9) hE
        have HP9 : Hid (Rf X B0 pd bg n (wrS s i l)) := Lib.hid (by
          rw [HWR.out]
          refine ⟨hlo, ⟨cb, v0, ⟨hhd9⟩, hfin.1, ?_⟩, hRf.out.small, hRf.out.kl, ⟨by show (s.H.set i _).length = n; rw [List.length_set]; exact hRf.out.hb.1, HHB.out⟩⟩
          show HR _ B0 _ (hl (s.H.set i (true, l)) 0)
          rw [EL2.out]
          exact hfin.2.1)
        have HF9 : Hid (Fr B0 w X) := Lib.hid (Fr.trans HF3.out hfin.2.2)
        clear hfin hown9 hhd9 hbl9
        go_wp2
        go_ret
        exact ⟨rfl, HP9.out, HF9.out⟩
end Go.Proofs.Ytajoajblmaopjaa.DkX

/-
  Up of the disk, its row of numbers with its type; Read and Up, on either side.
-/
import Derived.Test.YtajoajblmaopjaaDkZs
namespace Go.Proofs.Ytajoajblmaopjaa.DkZu
open Go.RowKit Rd
open Go.Proofs.Ytajoajblmaopjaa.Row hiding cs blk3_0 blk3_1 blk3_2
open Mid DkM DkA DkB DkC DkO DkP DkS DkZ DkZs
open DkH (Bd)
set_option linter.unusedVariables false
set_option linter.unusedSimpArgs false
set_option maxRecDepth 10000
variable {w X Y : World} {b kg hg B0 pd bg n : Nat} {s : DS}
attribute [local go_sem ↓] load_sec store_sec load_held store_held
attribute [local go_sem] store_new held_new us_size us_len z32_len hv_at0 hv_get0 hv_len
set_option maxHeartbeats 4000000 in
theorem up_own (w : World) (h : Dk w b kg hg n s) (hd : s.dn = true) :
    Calls Try.prog 20 #[.pointer (some ⟨b, 0, none⟩)] w fun e w' => (∃ v, e = .returned v ∧ w'.ownsRow w.heap.size 3 1 v (upN s n).2.2.length (iv (upN s n).2.2)) ∧ Dk w' b kg hg n { (upN s n).1 with dn := false, lf := -1, ms := 0 } ∧ Tn [b, kg, hg] w w' := by
  have H := Lib.hid h
  have c4 := h.c4
  rw [hd] at c4
  have c1 := h.c1
  have hn := h.small.2
  have hbl := h.lt
  have HDN := Lib.hid hd
  clear h hd
  go_enter Try.func20, Try.ntmps20
  go_wp2_with fail
  clear c1 c4
  go_loopw [3, 4, 21] (fun v kc i X => ∃ (m c : Nat) (L : List Nat) (t : DS), m ≤ n ∧ c ≤ m ∧ L.length ≤ m ∧ i = .int .i64 m ∧ kc = .int .i64 c ∧ Hid (upN s m = (t, c, L)) ∧ Hid (Dk X b kg hg n t) ∧ Hid (X.ownsRow w.heap.size 3 1 v L.length (iv L)) ∧ Hid (Tn [b, kg, hg] w X)) (fun _ _ i _ => n - (intOf i).toNat)
  case atStart => exact ⟨0, 0, [], s, by omega, by omega, by simp, rfl, rfl, Lib.hid rfl, H, Lib.hid (World.ownsRow_nil _ _ _ _), Lib.hid (Tn.refl _ _)⟩
  case round =>
    obtain ⟨m, c, L, t, hm, hc, hLm, rfl, rfl, HU, HD, HO, HT⟩ := hrel
    rename World => X
    rename Value => v
    obtain ⟨va, vc, rfl, -, -⟩ := owns_val HO.out
    have hnums := up_dn s m
    rw [HU.out] at hnums
    have hms := hnums.2.1
    have HMS := Lib.hid hms
    have hszX := HT.out.2.1
    by_cases hlt : m < n
    · have hlt' : (m : Int) < n := by omega
      obtain ⟨q, l, eh⟩ : ∃ q l, t.H.getD m (false, []) = (q, l) := ⟨_, _, rfl⟩
      have hH := (HD.out.ldH hlt eh).2.1
      have m32 : l.length = 32 := by
        have hiK : m < t.H.length := by rw [HD.out.hl.1]; exact hlt
        have e9 : t.H[m] = (q, l) := by rw [← eh]; simp [List.getD, hiK]
        have h9 := HD.out.hl.2 _ (List.getElem_mem hiK)
        rw [e9] at h9; exact h9
      have HBL : Hid (∀ o : Obj, Below X.heap.size X (X.alloc o)) := Lib.hid fun o => (Below.refl X.heap.size X).alloc (Nat.le_refl _) o
      have HE : Hid (upN s (m + 1) = if q = true then (if bitX s.ms c then (kpS t m, c + 1, L ++ [m]) else (clS t m, c + 1, L)) else (t, c, L)) := Lib.hid (by
        show (if ((upN s m).1.H.getD m (false, [])).1 = true then (if bitX s.ms (upN s m).2.1 then (kpS (upN s m).1 m, (upN s m).2.1 + 1, (upN s m).2.2 ++ [m]) else (clS (upN s m).1 m, (upN s m).2.1 + 1, (upN s m).2.2)) else upN s m) = _
        rw [HU.out]
        simp only [eh])
      have c3 := HD.out.c3
      rw [hms] at c3
      have c1X := HD.out.c1
      have hblX := HD.out.lt
      clear eh hnums hms
      cases q with
      | false =>
        have H2 : Hid (∀ o, Dk (X.alloc o) b kg hg n t ∧ Tn [b, kg, hg] w (X.alloc o) ∧ (X.alloc o).ownsRow w.heap.size 3 1 (.slice va L.length vc) L.length (iv L)) := Lib.hid fun o => ⟨HD.out.bel (HBL.out o), HT.out.trans (Tn.of_below (HBL.out o)), HO.out.alloc _⟩
        have HE2 : Hid (upN s (m + 1) = (t, c, L)) := Lib.hid (by rw [HE.out, if_neg (by decide)])
        go_wp2
        exact ⟨⟨m + 1, c, L, t, by omega, by omega, by omega, by go_num, rfl, HE2, Lib.hid (H2.out _).1, Lib.hid (H2.out _).2.2, Lib.hid (H2.out _).2.1⟩, by simp [intOf]; omega⟩
      | true =>
        by_cases hbit : bitX s.ms c
        · have HE2 : Hid (upN s (m + 1) = (kpS t m, c + 1, L ++ [m])) := Lib.hid (by rw [HE.out, if_pos rfl, if_pos hbit])
          have hb1 : (bits .and .i64 (s.ms / 2 ^ (c % 32)) 1 == 1) = true := by
            unfold bitX at hbit
            simpa using hbit
          clear hbit HE
          go_wp2_with fail
          refine (keep_any m _ (HD.out.bel (HBL.out _)) hlt).mono ?_
          rintro e X2 ⟨⟨v9, rfl⟩, h2, t2⟩
          have H2 := Lib.hid h2
          have T2 : Hid (Tn [b, kg, hg] w X2) := Lib.hid ((HT.out.trans (Tn.of_below (HBL.out _))).trans t2)
          have O2 : Hid (X2.ownsRow w.heap.size 3 1 (.slice va L.length vc) L.length (iv L)) := Lib.hid (own_tn (HO.out.alloc _) t2 (by intro k hk; simp at hk; omega))
          have hszX2 := T2.out.2.1
          clear h2 t2 hH c3 c1X HO HD
          go_upto_region 11 with (fail)
          go_wp2_with (at_builtin; refine app_int rfl (.tmp 41) (.tmp 43) rfl w.heap.size _ _ _ rfl (O2.out.alloc _) X2.heap.size 1 m rfl (blk_alloc_at _ _ _ rfl) (by omega) (by simp; omega) ?_; intro v4 w4 ho4 hg4; obtain ⟨a4, k4, e4, -, -⟩ := owns_val ho4; subst e4; have HO4 := Lib.hid ho4; have hk4 : ∀ k, k ∈ [b, kg, hg] → blk w4 k = blk X2 k := (fun k hk => by simp at hk; exact (hg4.block k (by simp; omega) fun e => by have := (O2.out.lt k e.symm).1; omega).trans (blk_alloc_old _ _ _ (by omega))); have H4 := Lib.hid (H2.out.kept' (hk4 b (by simp)) (hk4 kg (by simp)) (hk4 hg (by simp))); have T4 : Hid (Tn [b, kg, hg] w w4) := Lib.hid (Tn.grown (T2.out.trans (Tn.of_below ((Below.refl _ _).alloc (Nat.le_refl _) _))) hg4 fun r e => (O2.out.lt r e).1); have c19 := H4.out.c1; have sth : (storeRow 68 (.pointer (some ⟨hg, m * 33, none⟩)) (.agg #[.bool false, .int .u8 0, .int .u8 0, .int .u8 0, .int .u8 0, .int .u8 0, .int .u8 0, .int .u8 0, .int .u8 0, .int .u8 0, .int .u8 0, .int .u8 0, .int .u8 0, .int .u8 0, .int .u8 0, .int .u8 0, .int .u8 0, .int .u8 0, .int .u8 0, .int .u8 0, .int .u8 0, .int .u8 0, .int .u8 0, .int .u8 0, .int .u8 0, .int .u8 0, .int .u8 0, .int .u8 0, .int .u8 0, .int .u8 0, .int .u8 0, .int .u8 0, .int .u8 0])).run Try.prog w4 = .ok () (w4.setRow hg (fl (((kpS t m).H.set m (false, z32)).map hv)).toArray) := H4.out.stH (q := false) (l := z32) hlt rfl; clear ho4 hg4 hk4)
          have H5 := H4.out.setHrow (q := false) (l := z32) hlt rfl
          have e5 : (kpS t m).setH m false z32 = kpS t m := by unfold DS.setH kpS; simp
          rw [e5] at H5
          have O5 := own_tn HO4.out (Tn.row (ks := [b, kg, hg]) w4 (g := hg) (fl (((kpS t m).H.set m (false, z32)).map hv)).toArray (by simp)) (by intro k hk; simp at hk; omega)
          refine ⟨⟨m + 1, c + 1, L ++ [m], kpS t m, by omega, by omega, by simp; omega, by go_num, by go_num, HE2, Lib.hid ?_, Lib.hid ?_, Lib.hid (T4.out.trans (Tn.row _ _ (by simp)))⟩, by simp [intOf]; omega⟩
          · first | exact H5 | (rw [List.map_set] at H5; exact H5)
          · rw [List.length_append, List.length_singleton]
            first | exact O5 | (rw [List.map_set] at O5; exact O5)
        · have HE2 : Hid (upN s (m + 1) = (clS t m, c + 1, L)) := Lib.hid (by rw [HE.out, if_pos rfl, if_neg hbit])
          have hb1 : (bits .and .i64 (s.ms / 2 ^ (c % 32)) 1 == 1) = false := by
            unfold bitX at hbit
            simpa using hbit
          have H2 : Hid (∀ o, Dk (X.alloc o) b kg hg n t ∧ Tn [b, kg, hg] w (X.alloc o) ∧ (X.alloc o).ownsRow w.heap.size 3 1 (.slice va L.length vc) L.length (iv L)) := Lib.hid fun o => ⟨HD.out.bel (HBL.out o), HT.out.trans (Tn.of_below (HBL.out o)), HO.out.alloc _⟩
          have sth : ∀ o, (storeRow 68 (.pointer (some ⟨hg, m * 33, none⟩)) (.agg #[.bool false, .int .u8 0, .int .u8 0, .int .u8 0, .int .u8 0, .int .u8 0, .int .u8 0, .int .u8 0, .int .u8 0, .int .u8 0, .int .u8 0, .int .u8 0, .int .u8 0, .int .u8 0, .int .u8 0, .int .u8 0, .int .u8 0, .int .u8 0, .int .u8 0, .int .u8 0, .int .u8 0, .int .u8 0, .int .u8 0, .int .u8 0, .int .u8 0, .int .u8 0, .int .u8 0, .int .u8 0, .int .u8 0, .int .u8 0, .int .u8 0, .int .u8 0, .int .u8 0])).run Try.prog (X.alloc o) = .ok () ((X.alloc o).setRow hg (fl ((t.H.set m (false, z32)).map hv)).toArray) := fun o => (H2.out o).1.stH (q := false) (l := z32) hlt rfl
          clear hbit HE
          go_wp2
          refine ⟨⟨m + 1, c + 1, L, clS t m, by omega, by omega, by omega, by go_num, by go_num, HE2, Lib.hid ?_, Lib.hid ?_, Lib.hid ((H2.out _).2.1.trans (Tn.row _ _ (by simp)))⟩, by simp [intOf]; omega⟩
          · have H5 := (H2.out (.cells (hv (true, l)).toArray 68)).1.setHrow (q := false) (l := z32) hlt rfl
            first | exact H5 | (rw [List.map_set] at H5; exact H5)
          · have O5 := own_tn (H2.out (.cells (hv (true, l)).toArray 68)).2.2 (Tn.row (ks := [b, kg, hg]) _ (g := hg) (fl ((t.H.set m (false, z32)).map hv)).toArray (by simp)) (by intro k hk; simp at hk; omega)
            first | exact O5 | (rw [List.map_set] at O5; exact O5)
    · obtain rfl : m = n := by omega
      have c4 := HD.out.c4
      have f4 := HD.out.fb 4
      have H1 : Hid (Dk (X.setCell ⟨b, 4, none⟩ (.bool false)) b kg hg m { t with dn := false }) := Lib.hid (HD.out.stHead rfl rfl rfl)
      have c2 := H1.out.c2
      have f2 := H1.out.fb 2
      have H2 : Hid (Dk ((X.setCell ⟨b, 4, none⟩ (.bool false)).setCell ⟨b, 2, none⟩ (.int .i64 (-1))) b kg hg m { t with dn := false, lf := -1 }) := Lib.hid (H1.out.stHead rfl rfl rfl)
      have c3 := H2.out.c3
      have f3 := H2.out.fb 3
      have H3 : Hid (Dk (((X.setCell ⟨b, 4, none⟩ (.bool false)).setCell ⟨b, 2, none⟩ (.int .i64 (-1))).setCell ⟨b, 3, none⟩ (.int .i64 0)) b kg hg m { t with dn := false, lf := -1, ms := 0 }) := Lib.hid (H2.out.stHead rfl rfl rfl)
      have HUS : Hid ((upN s m).1 = t ∧ (upN s m).2.2 = L) := Lib.hid (by rw [HU.out]; exact ⟨rfl, rfl⟩)
      have T3 : Hid (Tn [b, kg, hg] X (((X.setCell ⟨b, 4, none⟩ (.bool false)).setCell ⟨b, 2, none⟩ (.int .i64 (-1))).setCell ⟨b, 3, none⟩ (.int .i64 0))) := Lib.hid (((Tn.set _ _ _ (by simp)).trans (Tn.set _ _ _ (by simp))).trans (Tn.set _ _ _ (by simp)))
      go_wp2
      go_ret
      rw [HUS.out.1, HUS.out.2]
      exact ⟨⟨_, rfl, own_tn HO.out T3.out (by intro k hk; simp at hk; omega)⟩, H3.out, HT.out.trans T3.out⟩

/-! Up -/
theorem cup_all (w : World) (h : Dk w b kg hg n s) :
    Calls Try.prog 20 #[.pointer (some ⟨b, 0, none⟩)] w fun e w' => (∃ v, e = .returned v ∧ w'.ownsRow w.heap.size 3 1 v (uL n s).length (iv (uL n s))) ∧ Dk w' b kg hg n (uN n s) ∧ Tn [b, kg, hg] w w' := by
  unfold uL uN
  cases hd : s.dn with
  | true => exact up_own w h hd
  | false => exact (up_not w h hd).mono fun e w' ⟨h1, h2⟩ => ⟨⟨_, h1, World.ownsRow_nil _ _ _ _⟩, h2 ▸ h, h2 ▸ Tn.refl _ _⟩
theorem rup_all (w : World) (h : Rf w B0 pd bg n s) :
    Calls Try.prog 21 #[.pointer (some ⟨pd, 0, none⟩)] w fun e w' => (∃ ad c, e = .returned (.slice ad (uL n s).length c) ∧ Reads w' 1 ad (uL n s).length (iv (uL n s))) ∧ Rf w' B0 pd bg n (uR n s) ∧ Fr B0 w w' := by
  unfold uL uR
  cases hd : s.dn with
  | true => exact rup_any w h hd
  | false => exact (rup_not w h hd).mono fun e w' ⟨h1, h2⟩ => ⟨⟨_, _, h1, ⟨rfl, .inl rfl⟩⟩, h2 ▸ h, h2 ▸ DkR.Fr.refl _⟩
/-! Read -/
def rdL (n : Nat) (s : DS) (i : Int) : List Int := if mayE n s.dn i = 0 then rd s i.toNat else []
theorem Lk.rdL {c : Nat} {t : DS} (h : Lk c s t) (i : Int) : DkZu.rdL n t i = DkZu.rdL n s i := by
  obtain ⟨⟨m, rfl, -⟩, -⟩ := h
  rfl
theorem Lk.may {c : Nat} {t : DS} (h : Lk c s t) (i : Int) : mayE n t.dn i = mayE n s.dn i := by
  obtain ⟨⟨m, rfl, -⟩, -⟩ := h
  rfl
theorem rd_bd (h : Rf X B0 pd bg n s) {i : Nat} (hi : i < n) : Bd (rd s i) := by
  unfold rd
  have hK : i < s.K.length := by rw [h.kl.1]; exact hi
  have hH : i < s.H.length := by rw [h.hb.1]; exact hi
  split
  · rw [show s.H.getD i (false, []) = s.H[i] by simp [List.getD, hH]]; exact h.hb.2 _ (List.getElem_mem hH)
  · rw [show s.K.getD i [] = s.K[i] by simp [List.getD, hK]]; exact h.kl.2 _ (List.getElem_mem hK)
/-- bytes that are handed out -/
def Out (y : World) (v : Value) (l : List Int) : Prop := ∃ a c, v = .slice a l.length c ∧ Reads y 1 a l.length (us l)
theorem Out.below {v : Value} {l : List Int} (h : Out X v l) (hb : Below X.heap.size X Y) : Out Y v l := by
  obtain ⟨a, c, h1, h2⟩ := h
  exact ⟨a, c, h1, h2.below hb (Nat.le_refl _)⟩
theorem cread_all (i : Int) (w : World) (h : Dk w b kg hg n s) :
    Calls Try.prog 22 #[.pointer (some ⟨b, 0, none⟩), .int .i64 i] w fun e w' => (∃ v, e = .returned (.tuple #[v, .int .i64 (mayE n s.dn i)]) ∧ Out w' v (rdL n s i)) ∧ Below w.heap.size w w' := by
  by_cases hno : mayE n s.dn i ≠ 0
  · rw [show rdL n s i = [] by unfold rdL; rw [if_neg hno]]
    exact (read_no i w h hno).mono fun e w' ⟨h1, h2⟩ => ⟨⟨_, h1, none, 0, rfl, rfl, .inl rfl⟩, h2 ▸ Below.refl _ _⟩
  · have h0 : mayE n s.dn i = 0 := Decidable.not_not.1 hno
    obtain ⟨hd, j, rfl, hj⟩ := may_zero h0
    have e1 : rdL n s (j : Int) = rd s j := by unfold rdL; rw [if_pos h0]; rfl
    have e2 : (rd s j).length = 32 := by
      unfold rd
      have hK : j < s.K.length := by rw [h.kl.1]; exact hj
      have hH : j < s.H.length := by rw [h.hl.1]; exact hj
      split
      · rw [show s.H.getD j (false, []) = s.H[j] by simp [List.getD, hH]]; exact h.hl.2 _ (List.getElem_mem hH)
      · rw [show s.K.getD j [] = s.K[j] by simp [List.getD, hK]]; exact h.kl.2 _ (List.getElem_mem hK)
    rw [e1, h0]
    refine (read_any j w h hd hj).mono fun e w' ⟨h1, h2, h3⟩ => ⟨⟨_, h1, _, 32, by rw [e2], ?_⟩, h3⟩
    rw [e2]
    exact ⟨by simp [us, e2], .inr ⟨_, 0, rfl, blk_lt h2, fun k hk => by rw [Nat.zero_add, blk_cell h2, List.getElem?_toArray]⟩⟩
theorem rread_all (i : Int) (w : World) (h : Rf w B0 pd bg n s) :
    Calls Try.prog 23 #[.pointer (some ⟨pd, 0, none⟩), .int .i64 i] w fun e w' => (∃ v, e = .returned (.tuple #[v, .int .i64 (mayE n s.dn i)]) ∧ Out w' v (rdL n s i)) ∧ Below w.heap.size w w' := by
  by_cases hno : mayE n s.dn i ≠ 0
  · rw [show rdL n s i = [] by unfold rdL; rw [if_neg hno]]
    cases hd : s.dn with
    | true =>
      rw [show mayE n true i = 7 by unfold mayE; rw [if_pos rfl]]
      exact (rread_dn i w h hd).mono fun e w' ⟨h1, h2⟩ => ⟨⟨_, h1, none, 0, rfl, rfl, .inl rfl⟩, h2 ▸ Below.refl _ _⟩
    | false =>
      have hi : ¬ (0 ≤ i ∧ i < n) := fun hi => hno (by unfold mayE; rw [hd, if_neg (by decide), if_pos hi])
      rw [show mayE n false i = 1 by unfold mayE; rw [if_neg (by decide), if_neg hi]]
      exact (rread_bad i w h hd hi).mono fun e w' ⟨h1, h2⟩ => ⟨⟨_, h1, none, 0, rfl, rfl, .inl rfl⟩, h2 ▸ Below.refl _ _⟩
  · have h0 : mayE n s.dn i = 0 := Decidable.not_not.1 hno
    obtain ⟨hd, j, rfl, hj⟩ := may_zero h0
    have e1 : rdL n s (j : Int) = rd s j := by unfold rdL; rw [if_pos h0]; rfl
    have e2 := (rd_bd h hj).1
    rw [e1, h0]
    refine (rread_any j w h hd hj).mono fun e w' ⟨⟨v, h1, h2⟩, h3⟩ => ⟨⟨v, h1, ?_⟩, h3⟩
    obtain ⟨a, c, rfl, -, -⟩ := owns_val h2
    exact ⟨a, c, by rw [e2], by rw [e2]; exact Reads.of_owns h2⟩
theorem str_out {v : Value} {l : List Int} (h : Out X v l) (hb : ∀ z ∈ l, 0 ≤ z ∧ z ≤ 255) : (convert 32 9 v).run Try.prog X = .ok (.string (bytesOf l)) X := by
  obtain ⟨a, c, rfl, h1⟩ := h
  exact Rd.conv_reads Try.underlying32 Try.underlying5 Try.underlying9 h1 hb
end Go.Proofs.Ytajoajblmaopjaa.DkZu

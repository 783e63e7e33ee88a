/-
  A bit that is turned twice is as it was (DiskBits).
-/
import Derived.Test.YtajoajblmaopjaaDkG
import Derived.Test.YtajoajblmaopjaaDkH
import Derived.Deep.CutRange
import Derived.Deep.CutBlock
import Derived.Test.YtajoajblmaopjaaPred
namespace Go.Proofs.Ytajoajblmaopjaa.DkI
open Go.RowKit Rd
open Go.Proofs.Ytajoajblmaopjaa.Row hiding cs blk3_0 blk3_1 blk3_2
open Mid DkM DkA DkB DkC DkD DkE DkF DkG DkH
open Go.Proofs.Ytajoajblmaopjaa.Pred (Is is_stab Stab)
set_option linter.unusedVariables false
set_option linter.unusedSimpArgs false
set_option maxRecDepth 10000
def P1 (s : DS) (k : Nat) : Prop := s.lf = -1 ∧ s.dn = false ∧ s.wr = k ∧ ∀ j, j < k → rd s j = secL (j + 1)
def P2 (s : DS) : Prop := s.lf = -1 ∧ s.dn = false ∧ s.wr = 4 ∧ ∀ j, j < 4 → (H_ s j).1 = false ∧ K_ s j = secL (j + 1)
structure P3 (s : DS) (i : Nat) (A1 A0 : List Int) : Prop where
  lf : s.lf = -1
  dn : s.dn = false
  wr : s.wr = 5
  k : K_ s i = A1
  h : H_ s i = (true, A0)
  b1 : Bd A1
  b0 : Bd A0
  o : ∀ j, j < 4 → j ≠ i → (H_ s j).1 = false ∧ K_ s j = secL (j + 1)
theorem sec_bd (m : Nat) : Bd (secL m) := ⟨secL_len m, secL_bd m⟩
theorem p1_write {s : DS} {k : Nat} (h : P1 s k) (hk : k < s.H.length) : P1 (wrS s k (secL (k + 1))) (k + 1) := by
  obtain ⟨h1, h2, h3, h4⟩ := h
  refine ⟨?_, h2, ?_, fun j hj => ?_⟩
  · show (if s.lf = -1 then s.lf else s.lf - 1) = -1
    rw [if_pos h1]; exact h1
  · show s.wr + 1 = ((k + 1 : Nat) : Int)
    rw [h3]; omega
  · rw [rd_wr hk]
    by_cases e : j = k
    · rw [if_pos e, e]
    · rw [if_neg e]; exact h4 j (by omega)
theorem p2_start {s : DS} (h : P1 s 4) (hK : s.K.length = 4) (hH : s.H.length = 4) : P2 (flN s 4) := by
  obtain ⟨h1, h2, h3, h4⟩ := h
  have hn := fl_nums s 4
  have hfl : ∀ j, j < 4 → (H_ (flN s 4) j).1 = false := fun j hj => (fl_flags s 4 (by omega) j).1 hj
  have hr : ∀ j, j < 4 → rd (flN s 4) j = secL (j + 1) := fun j hj => (rd_fl (s := s) (by omega) 4 (by omega) j).trans (h4 j hj)
  have e0 := hn.1.trans h1
  have e1 := hn.2.2.1.trans h2
  have e2 := hn.2.2.2.1.trans h3
  clear hn
  generalize flN s 4 = t at hr hfl e0 e1 e2 ⊢
  refine ⟨e0, e1, e2, fun j hj => ⟨hfl j hj, ?_⟩⟩
  have := hr j hj
  rw [← this]
  unfold rd
  rw [show (t.H.getD j (false, [])).1 = false from hfl j hj, if_neg (by decide)]
  rfl
theorem p3_write {s : DS} {i : Nat} (h : P2 s) (hH : s.H.length = 4) (hi : i < 4) : P3 (wrS s i (secL 50)) i (secL (i + 1)) (secL 50) := by
  obtain ⟨h1, h2, h3, h4⟩ := h
  have hk : ∀ j, H_ (wrS s i (secL 50)) j = if j = i then (true, secL 50) else H_ s j := fun j => getD_set (by omega)
  refine ⟨?_, h2, ?_, (h4 i hi).2, by rw [hk, if_pos rfl], sec_bd _, sec_bd _, fun j hj hne => ⟨by rw [hk, if_neg hne]; exact (h4 j hj).1, (h4 j hj).2⟩⟩
  · show (if s.lf = -1 then s.lf else s.lf - 1) = -1
    rw [if_pos h1]; exact h1
  · show s.wr + 1 = 5
    rw [h3]; rfl
theorem p3_cor {s : DS} {i k : Nat} {A1 A0 : List Int} (h : P3 s i A1 A0) (hK : s.K.length = 4) (hH : s.H.length = 4) (hi : i < 4) : P3 (corS s i k) i (flip A1 k) (flip A0 k) := by
  have hc : corS s i k = (s.setK i (flip A1 k)).setH i true (flip A0 k) := by
    unfold corS
    rw [show s.H.getD i (false, []) = (true, A0) from h.h, show s.K.getD i [] = A1 from h.k]
    rfl
  have hk : ∀ j, H_ (corS s i k) j = if j = i then (true, flip A0 k) else H_ s j := fun j => by rw [hc]; exact getD_set (by show i < s.H.length; omega)
  have hk2 : ∀ j, K_ (corS s i k) j = if j = i then flip A1 k else K_ s j := fun j => by rw [hc]; exact getD_set (by omega)
  refine ⟨by rw [hc]; exact h.lf, by rw [hc]; exact h.dn, by rw [hc]; exact h.wr, by rw [hk2, if_pos rfl], by rw [hk, if_pos rfl], flip_bd h.b1 k, flip_bd h.b0 k, fun j hj hne => ?_⟩
  rw [hk, hk2, if_neg hne, if_neg hne]
  exact h.o j hj hne
theorem up_one {s : DS} {i : Nat} (hH : s.H.length = 4) (hi : i < 4) (ht : (H_ s i).1 = true) (hf : ∀ j, j < 4 → j ≠ i → (H_ s j).1 = false) :
    ∀ m, m ≤ 4 → upN s m = if i < m then (if bitX s.ms 0 then (kpS s i, 1, [i]) else (clS s i, 1, [])) else (s, 0, [])
  | 0, _ => by rw [if_neg (by omega)]; rfl
  | m + 1, h => by
    have h1 : ∀ j, H_ (kpS s i) j = if j = i then (false, z32) else H_ s j := fun j => getD_set (by omega)
    have h2 : ∀ j, H_ (clS s i) j = if j = i then (false, z32) else H_ s j := fun j => getD_set (by omega)
    rw [up_step, up_one hH hi ht hf m (by omega)]
    by_cases a : i < m
    · rw [if_pos a, if_pos (show i < m + 1 by omega)]
      by_cases c : bitX s.ms 0
      · rw [if_pos c]
        simp only
        rw [show (H_ (kpS s i) m).1 = false by rw [h1, if_neg (by omega)]; exact hf m (by omega) (by omega), if_neg (by decide)]
      · rw [if_neg c]
        simp only
        rw [show (H_ (clS s i) m).1 = false by rw [h2, if_neg (by omega)]; exact hf m (by omega) (by omega), if_neg (by decide)]
    · rw [if_neg a]
      simp only
      by_cases e : m = i
      · subst e
        rw [if_pos ht, if_pos (show m < m + 1 by omega)]
        rfl
      · rw [if_neg (show ¬ i < m + 1 by omega), hf m (by omega) e, if_neg (by decide)]
theorem bit1 : bitX 1 0 := by unfold bitX; rfl
theorem bit0 : ¬ bitX 0 0 := by unfold bitX; decide
theorem p4 {s : DS} {i mm : Nat} {A1 A0 WT : List Int} (h : P3 s i A1 A0) (hK : s.K.length = 4) (hH : s.H.length = 4) (hi : i < 4) (hm : (mm = 1 ∧ WT = A0) ∨ (mm = 0 ∧ WT = A1)) {s5 : DS} (eK : s5.K = s.K) (eH : s5.H = s.H) (e5 : s5.ms = (mm : Int)) :
    (upN s5 4).2.2.length = mm ∧ ∀ j, j < 4 → (H_ (upN s5 4).1 j).1 = false ∧ K_ (upN s5 4).1 j = if j = i then WT else secL (j + 1) := by
  have hh : ∀ j, H_ s5 j = H_ s j := fun j => by unfold H_; rw [eH]
  have hk : ∀ j, K_ s5 j = K_ s j := fun j => by unfold K_; rw [eK]
  have hu := up_one (s := s5) (i := i) (by rw [eH]; exact hH) hi (by rw [hh, h.h]) (fun j hj hne => by rw [hh]; exact (h.o j hj hne).1) 4 (Nat.le_refl _)
  rw [if_pos hi] at hu
  have h1 : ∀ j, H_ (kpS s5 i) j = if j = i then (false, z32) else H_ s5 j := fun j => getD_set (by rw [eH]; omega)
  have h2 : ∀ j, H_ (clS s5 i) j = if j = i then (false, z32) else H_ s5 j := fun j => getD_set (by rw [eH]; omega)
  have h3 : ∀ j, K_ (kpS s5 i) j = if j = i then (H_ s5 i).2 else K_ s5 j := fun j => getD_set (by rw [eK]; omega)
  rw [hu]
  rcases hm with ⟨em, ew⟩ | ⟨em, ew⟩
  · subst em ew
    have hb : bitX s5.ms 0 := by rw [e5]; exact bit1
    rw [if_pos hb]
    refine ⟨rfl, fun j hj => ?_⟩
    simp only
    rw [h1, h3]
    by_cases e : j = i
    · rw [if_pos e, if_pos e, if_pos e, hh, h.h]; exact ⟨rfl, rfl⟩
    · rw [if_neg e, if_neg e, if_neg e, hh, hk]; exact h.o j hj e
  · subst em ew
    have hb : ¬ bitX s5.ms 0 := by rw [e5]; exact bit0
    rw [if_neg hb]
    refine ⟨rfl, fun j hj => ?_⟩
    simp only
    rw [h2]
    by_cases e : j = i
    · rw [if_pos e, if_pos e]
      exact ⟨rfl, by show K_ s5 j = _; rw [hk, e]; exact h.k⟩
    · rw [if_neg e, if_neg e, hh]
      exact ⟨(h.o j hj e).1, by show K_ s5 j = _; rw [hk]; exact (h.o j hj e).2⟩
structure St (w X : World) (b kg hg p1 p2 : Nat) (s : DS) (i : Nat) (A1 A0 : List Int) : Prop where
  l : Lw w X b kg hg 4 s
  o : blk X p1 = some (.cells (us A0).toArray 5 (0, 0))
  n : blk X p2 = some (.cells (us A1).toArray 5 (0, 0))
  p : P3 s i A1 A0
  lo : w.heap.size ≤ p1 ∧ w.heap.size ≤ p2
  ne : p1 ≠ p2 ∧ (p1 ≠ b ∧ p1 ≠ kg ∧ p1 ≠ hg) ∧ p2 ≠ b ∧ p2 ≠ kg ∧ p2 ≠ hg
variable {w X Y : World} {b kg hg p1 p2 : Nat} {s s' : DS} {i : Nat} {A1 A0 : List Int}
theorem St.bel (f : St w X b kg hg p1 p2 s i A1 A0) (hb : Below X.heap.size X Y) : St w Y b kg hg p1 p2 s i A1 A0 :=
  ⟨f.l.bel hb, (blk_below hb _ (blk_lt f.o)).trans f.o, (blk_below hb _ (blk_lt f.n)).trans f.n, f.p, f.lo, f.ne⟩
set_option maxHeartbeats 8000000 in
theorem bits_gen (at_ bit_ : Int) (ag kp : Bool) (w : World) (h1 : -9223372036854775808 ≤ at_) (h2 : at_ ≤ 9223372036854775807) (h3 : -9223372036854775808 ≤ bit_) (h4 : bit_ ≤ 9223372036854775807) :
    Calls Try.prog 6 #[.int .i64 at_, .int .i64 bit_, .bool ag, .bool kp] w fun e w' => e = .returned (.bool true) ∧ Below w.heap.size w w' := by
  obtain ⟨ii, hii⟩ : ∃ q : Nat, at_ % 4 = q := ⟨(at_ % 4).toNat, by omega⟩
  have hi4 : ii < 4 := by omega
  obtain ⟨c, hc⟩ : ∃ q : Nat, bit_ % 256 = q := ⟨(bit_ % 256).toNat, by omega⟩
  have hc8 : c < 256 := by omega
  have HI := Lib.hid hii
  have HC := Lib.hid hc
  have HB4 := Lib.hid (And.intro h1 (And.intro h2 (And.intro h3 h4)))
  clear hii hc h1 h2 h3 h4
  go_enter Try.func6, Try.ntmps6
  go_wp2_with fail
  refine (new_any 4 (by decide) _).mono ?_
  rintro e w1 ⟨⟨db, kg, hg, rfl, hb, hk, hh, dd⟩, L1⟩
  have H1 : Hid (Lw w w1 db kg hg 4 (newS 4)) := Lib.hid ⟨dd, L1, hb, hk, hh⟩
  have HP : Hid (P1 (newS 4) 0) := Lib.hid ⟨rfl, rfl, rfl, fun j hj => absurd hj (by omega)⟩
  clear dd L1 hb hk hh
  go_wp2_with fail
  go_loopw [11] (fun i X => ∃ (k : Nat) (s : DS), k ≤ 4 ∧ i = .int .i64 k ∧ Hid (Lw w X db kg hg 4 s) ∧ Hid (P1 s k)) (fun i _ => 4 - (intOf i).toNat)
  case atStart => exact ⟨0, _, by omega, rfl, H1, HP⟩
  case round =>
    clear H1 HP
    obtain ⟨k, s, hk9, rfl, HS, HP⟩ := hrel
    rename World => X
    by_cases hlt : k < 4
    · have hlt' : (k : Int) < 4 := by omega
      obtain ⟨v, hv9⟩ : ∃ v : Nat, (k : Int) + 1 = (v : Int) := ⟨k + 1, by omega⟩
      have hvk : Hid (v = k + 1) := Lib.hid (by omega)
      have hv1 : 1 ≤ v := by omega
      have hv2 : v ≤ 400 := by omega
      go_wp2_with fail
      refine (sector_any v (by omega) _).mono ?_
      rintro e X1 ⟨rfl, hbl, hb1⟩
      have H1 := Lib.hid (HS.out.bel hb1)
      have hl := HS.out.d.lt
      have HB := Lib.hid hbl
      have hsz := blk_lt hbl
      obtain ⟨p, hp⟩ : ∃ p, X.heap.size = p := ⟨_, rfl⟩
      rw [hp] at HB hsz hl ⊢
      clear hbl hb1 hp HS
      go_wp2_with fail
      refine (write_any k (secL v) p 0 32 _ H1.out.d HP.out.2.1 hlt (secL_len v) (by rw [HP.out.1]; decide) (by rw [HP.out.1]; decide) (by rw [HP.out.2.2.1]; omega) hsz (by simp; omega) (src_of HB.out)).mono ?_
      rintro e X2 ⟨rfl, d2, t2⟩
      have H2 : Hid (Lw w X2 db kg hg 4 (wrS s k (secL v))) := Lib.hid (H1.out.tn d2 t2)
      have HP2 : Hid (P1 (wrS s k (secL v)) (k + 1)) := Lib.hid (by rw [hvk.out]; exact p1_write HP.out (by rw [H1.out.d.hl.1]; exact hlt))
      clear d2 t2 H1 HB hsz hl HP
      go_wp2
      exact ⟨⟨k + 1, _, by omega, by rw [hvk.out], H2, HP2⟩, by simp [intOf]; omega⟩
    · obtain rfl : k = 4 := by omega
      go_wp2_with fail
      refine (Alk.round_any at_ 4 _ HB4.out.1 HB4.out.2.1 (by omega) (by omega)).mono ?_
      rintro e _ ⟨rfl, rfl⟩
      rw [HI.out]
      go_wp2_with fail
      refine (Alk.round_any bit_ 256 _ HB4.out.2.2.1 HB4.out.2.2.2 (by omega) (by omega)).mono ?_
      rintro e _ ⟨rfl, rfl⟩
      rw [HC.out]
      go_upto_region 10 with (fail)
      obtain ⟨v, hv9⟩ : ∃ v : Nat, (ii : Int) + 1 = (v : Int) := ⟨ii + 1, by omega⟩
      have HVK : Hid (v = ii + 1) := Lib.hid (by omega)
      have hv1 : 1 ≤ v := by omega
      have hv2 : v ≤ 400 := by omega
      go_cut [74] from 48 to 74 (fun u Y => u = .bool false ∧ ∃ (s3 : DS) (A1 A0 : List Int), Hid (Lw w Y db kg hg 4 s3) ∧ Hid (P3 s3 ii A1 A0) ∧ Hid (A1 = (if ag = true then secL v else flip (secL v) c) ∧ A0 = (if ag = true then secL 50 else flip (secL 50) c)))
      case first =>
        go_wp2_with fail
        refine (flush_any _ HS.out.d HP.out.2.1).mono ?_
        rintro e X1 ⟨rfl, d2, t2⟩
        have H1 : Hid (Lw w X1 db kg hg 4 (flN s 4)) := Lib.hid (HS.out.tn d2 t2)
        have HP2 := Lib.hid (p2_start HP.out HS.out.d.kl.1 HS.out.d.hl.1)
        clear d2 t2 HS HP
        obtain ⟨s1, es1⟩ : ∃ t, flN s 4 = t := ⟨_, rfl⟩
        rw [es1] at H1 HP2
        clear es1
        go_wp2_with fail
        refine (sector_any 50 (by omega) _).mono ?_
        rintro e X2 ⟨rfl, hbl, hb1⟩
        have H2 := Lib.hid (H1.out.bel hb1)
        have hl := H1.out.d.lt
        have HB := Lib.hid hbl
        have hsz := blk_lt hbl
        obtain ⟨p, hp⟩ : ∃ p, X1.heap.size = p := ⟨_, rfl⟩
        rw [hp] at HB hsz hl ⊢
        clear hbl hb1 hp H1
        go_wp2_with fail
        refine (write_any ii (secL 50) p 0 32 _ H2.out.d HP2.out.2.1 hi4 (secL_len 50) (by rw [HP2.out.1]; decide) (by rw [HP2.out.1]; decide) (by rw [HP2.out.2.2.1]; omega) hsz (by simp; omega) (src_of HB.out)).mono ?_
        rintro e X3 ⟨rfl, d2, t2⟩
        have H3 : Hid (Lw w X3 db kg hg 4 (wrS s1 ii (secL 50))) := Lib.hid (H2.out.tn d2 t2)
        have HP3 := Lib.hid (p3_write HP2.out H2.out.d.hl.1 hi4)
        clear d2 t2 H2 HB hsz hl HP2
        obtain ⟨s2, es2⟩ : ∃ t, wrS s1 ii (secL 50) = t := ⟨_, rfl⟩
        rw [es2] at H3 HP3
        clear es2
        go_wp2_with fail
        refine (corrupt_any ii c _ H3.out.d HP3.out.dn hi4 hc8 (by rw [show s2.K.getD ii [] = secL (ii + 1) from HP3.out.k]; exact HP3.out.b1) (by rw [show s2.H.getD ii (false, []) = (true, secL 50) from HP3.out.h]; exact HP3.out.b0)).mono ?_
        rintro e X4 ⟨rfl, d2, t2⟩
        have H4 : Hid (Lw w X4 db kg hg 4 (corS s2 ii c)) := Lib.hid (H3.out.tn d2 t2)
        have HP4 := Lib.hid (p3_cor (k := c) HP3.out H3.out.d.kl.1 H3.out.d.hl.1 hi4)
        clear d2 t2 H3 HP3
        obtain ⟨s4, es4⟩ : ∃ t, corS s2 ii c = t := ⟨_, rfl⟩
        rw [es4] at H4 HP4
        clear es4
        rw [← HVK.out] at HP4
        cases ag with
        | true =>
          go_wp2_with fail
          refine (corrupt_any ii c _ H4.out.d HP4.out.dn hi4 hc8 (by rw [show s4.K.getD ii [] = _ from HP4.out.k]; exact HP4.out.b1) (by rw [show s4.H.getD ii (false, []) = (true, _) from HP4.out.h]; exact HP4.out.b0)).mono ?_
          rintro e X5 ⟨rfl, d2, t2⟩
          have H5 : Hid (Lw w X5 db kg hg 4 (corS s4 ii c)) := Lib.hid (H4.out.tn d2 t2)
          have HP5 := Lib.hid (p3_cor (k := c) HP4.out H4.out.d.kl.1 H4.out.d.hl.1 hi4)
          rw [flip_twice (sec_bd _) hc8, flip_twice (sec_bd _) hc8] at HP5
          clear d2 t2 H4 HP4
          go_wp2
          go_meet
          exact ⟨rfl, _, _, _, H5, HP5, Lib.hid ⟨rfl, rfl⟩⟩
        | false =>
          go_wp2
          go_meet
          exact ⟨rfl, _, _, _, H4, HP4, Lib.hid ⟨rfl, rfl⟩⟩
      case rest =>
      obtain ⟨rfl, s4, A1, A0, H4, HP4, HA⟩ := hcut
      obtain ⟨X4, e4⟩ : ∃ z : World, z = wc := ⟨_, rfl⟩
      subst e4
      clear HS HP
      go_wp2_with fail
      refine (sector_any 50 (by omega) _).mono ?_
      rintro e X6 ⟨rfl, hbl, hb1⟩
      have hl := H4.out.d.lt
      have H6 := Lib.hid (H4.out.bel hb1)
      have hlo : w.heap.size ≤ X4.heap.size := H4.out.below.size
      have HB := Lib.hid hbl
      have hsz := blk_lt hbl
      obtain ⟨p, hp⟩ : ∃ p, X4.heap.size = p := ⟨_, rfl⟩
      rw [hp] at HB hsz hl hlo ⊢
      clear hbl hb1 hp H4
      go_wp2_with fail
      refine (sector_any v (by omega) _).mono ?_
      rintro e X7 ⟨rfl, hbl, hb1⟩
      have H7 : Hid (Lw w X7 db kg hg 4 s4) := Lib.hid (H6.out.bel hb1)
      have HB1 : Hid (blk X7 p = some (.cells (us (secL 50)).toArray 5 (0, 0))) := Lib.hid ((blk_below hb1 _ hsz).trans HB.out)
      have HB2 := Lib.hid hbl
      have hp2 : p < X6.heap.size := hsz
      obtain ⟨p2, hq2⟩ : ∃ p, X6.heap.size = p := ⟨_, rfl⟩
      rw [hq2] at HB2 hp2 ⊢
      clear hbl hb1 H6 HB hsz hq2
      go_upto_if 80 with (fail)
      go_cut [] from 81 to 100 (fun Y => Hid (St w Y db kg hg p p2 s4 ii A1 A0))
      case first =>
        cases ag with
        | true =>
          have HA2 := Lib.hid HA.out
          obtain ⟨eA1, eA0⟩ := HA.out
          rw [if_pos rfl] at eA1 eA0
          have H9 : Hid (St w X7 db kg hg p p2 s4 ii A1 A0) := Lib.hid ⟨H7.out, by rw [eA0]; exact HB1.out, by rw [eA1]; exact HB2.out, HP4.out, ⟨hlo, by omega⟩, by omega, ⟨by omega, by omega, by omega⟩, by omega, by omega, by omega⟩
          clear eA1 eA0 HA HA2
          go_wp2
          go_meet
          exact H9
        | false =>
          have hA := HA.out
          rw [if_neg (by decide), if_neg (by decide)] at hA
          have HA3 := Lib.hid hA
          clear hA HA
          obtain ⟨r, hr⟩ : ∃ r, c / 8 = r := ⟨_, rfl⟩
          obtain ⟨r2, hr2⟩ : ∃ r, c % 8 = r := ⟨_, rfl⟩
          obtain ⟨t, ht⟩ : ∃ t, tb c = t := ⟨_, rfl⟩
          have hr8 : r < 32 := by omega
          have hy := (sec_bd 50).at r
          have hz := (sec_bd v).at r
          obtain ⟨y, ey⟩ := Int.eq_ofNat_of_zero_le hy.1
          obtain ⟨z, ez⟩ := Int.eq_ofNat_of_zero_le hz.1
          rw [ez] at hz
          rw [ey] at hy
          have ht8 : t < 256 := by rw [← ht]; exact tb_lt c
          have hxr : bits .xor .u8 (z : Int) (t : Int) = ((z ^^^ t : Nat) : Int) := u8_xor_nat z t (by omega) ht8
          have hyr : bits .xor .u8 (y : Int) (t : Int) = ((y ^^^ t : Nat) : Int) := u8_xor_nat y t (by omega) ht8
          have hsl := tb_shl c
          have hpw := tb_pow c
          rw [hr2, ht] at hsl hpw
          have hq' : (c : Int) / 8 = (r : Int) := by omega
          have hr' : (c : Int) % 8 = (r2 : Int) := by omega
          have hr8' : (r : Int) < 32 := by omega
          have hc' : (c : Int) < 256 := by omega
          have HF0 : Hid (flip (secL 50) c = (secL 50).set r ((y ^^^ t : Nat) : Int)) := Lib.hid (by unfold DkH.flip; rw [hr, ht, ey, Int.toNat_natCast])
          have HF1 : Hid (flip (secL v) c = (secL v).set r ((z ^^^ t : Nat) : Int)) := Lib.hid (by unfold DkH.flip; rw [hr, ht, ez, Int.toNat_natCast])
          have cy1 : X7.drew.cell? ⟨p, r, none⟩ = some (.int .u8 y) := by
            have := blk_cell HB1.out r
            rw [List.getElem?_toArray, us_at (by rw [secL_len]; exact hr8), ey] at this
            exact this
          have cy2 : X7.drew.frozen? ⟨p, r, none⟩ = false := blk_frozen HB1.out r
          have HO : Hid (∀ Z : World, Z = X7.drew.setCell ⟨p, r, none⟩ (.int .u8 ((y ^^^ t : Nat) : Int)) → Lw w Z db kg hg 4 s4 ∧ blk Z p = some (.cells (us (flip (secL 50) c)).toArray 5 (0, 0)) ∧ blk Z p2 = some (.cells (us (secL v)).toArray 5 (0, 0))) := Lib.hid (by
            rintro Z rfl
            refine ⟨⟨H7.out.d.kept' (heap_setCell_other _ _ _ _ (fun e => by have := e; simp at this; omega)) (heap_setCell_other _ _ _ _ (fun e => by have := e; simp at this; omega)) (heap_setCell_other _ _ _ _ (fun e => by have := e; simp at this; omega)), Below.setCell (H7.out.below.trans (show Below w.heap.size X7 X7.drew from ⟨rfl, rfl, rfl, Nat.le_refl _, fun _ _ => rfl⟩)) (by show w.heap.size ≤ p; exact hlo) _, H7.out.lo⟩, ?_, (heap_setCell_other _ _ _ _ (fun e => by have := e; simp at this; omega)).trans HB2.out⟩
            have := blk_set X7.drew p r (.int .u8 ((y ^^^ t : Nat) : Int)) _ _ HB1.out
            rw [List.setIfInBounds_toArray, us_set] at this
            rw [HF0.out]
            exact this)
          clear ht hr hr2 ey
          go_upto_region 14 with (fail)
          (refine Reg.quiet_tail 10 (by kernel_rfl) (by kernel_rfl) ?_; simp only [List.take_succ_cons, List.take_zero, List.drop_succ_cons, List.drop_zero]; (repeat go_big_quiet_step (fail)); refine wpQuiet_nil ?_)
          go_upto_region 15 with (fail)
          refine Rd.name_world ?_
          intro X8 hw
          obtain ⟨H8, B8, C8⟩ := HO.out X8 hw
          clear hw cy1 cy2 HO
          have cz1 : X8.drew.cell? ⟨p2, r, none⟩ = some (.int .u8 z) := by
            have := blk_cell C8 r
            rw [List.getElem?_toArray, us_at (by rw [secL_len]; exact hr8), ez] at this
            exact this
          have cz2 : X8.drew.frozen? ⟨p2, r, none⟩ = false := blk_frozen C8 r
          have HN : Hid (∀ Z : World, Z = X8.drew.setCell ⟨p2, r, none⟩ (.int .u8 ((z ^^^ t : Nat) : Int)) → St w Z db kg hg p p2 s4 ii A1 A0) := Lib.hid (by
            rintro Z rfl
            refine ⟨⟨H8.d.kept' (heap_setCell_other _ _ _ _ (fun e => by have := e; simp at this; omega)) (heap_setCell_other _ _ _ _ (fun e => by have := e; simp at this; omega)) (heap_setCell_other _ _ _ _ (fun e => by have := e; simp at this; omega)), Below.setCell (H8.below.trans (show Below w.heap.size X8 X8.drew from ⟨rfl, rfl, rfl, Nat.le_refl _, fun _ _ => rfl⟩)) (by show w.heap.size ≤ p2; omega) _, H8.lo⟩, (heap_setCell_other _ _ _ _ (fun e => by have := e; simp at this; omega)).trans (by rw [HA3.out.2]; exact B8), ?_, HP4.out, ⟨hlo, by omega⟩, by omega, ⟨by omega, by omega, by omega⟩, by omega, by omega, by omega⟩
            have := blk_set X8.drew p2 r (.int .u8 ((z ^^^ t : Nat) : Int)) _ _ C8
            rw [List.setIfInBounds_toArray, us_set] at this
            rw [HA3.out.1, HF1.out]
            exact this)
          clear H8 B8 C8 ez H7 HB1 HB2
          (refine Reg.quiet_tail 10 (by kernel_rfl) (by kernel_rfl) ?_; simp only [List.take_succ_cons, List.take_zero, List.drop_succ_cons, List.drop_zero]; (repeat go_big_quiet_step (fail)); refine wpQuiet_nil ?_)
          have h9 := HN.out _ rfl
          have H9 := Lib.hid h9
          clear HN h9
          go_wp2
          go_meet
          exact H9
      case rest =>
      have H8 := hcut
      obtain ⟨X8, e8⟩ : ∃ z : World, z = wc := ⟨_, rfl⟩
      subst e8
      clear H7 HB1 HB2 HP4 HA hcut hl hlo hp2
      go_wp2_with fail
      refine (read_any ii _ H8.out.l.d H8.out.p.dn hi4).mono ?_
      rintro e X9 ⟨rfl, hbl, hb1⟩
      have H9 := Lib.hid (H8.out.bel hb1)
      have hrd : rd s4 ii = A0 := by
        unfold rd
        rw [show s4.H.getD ii (false, []) = (true, A0) from H8.out.p.h]
        rfl
      rw [hrd] at hbl
      have HQ := Lib.hid hbl
      obtain ⟨q, hq⟩ : ∃ p, X8.heap.size = p := ⟨_, rfl⟩
      rw [hq] at HQ ⊢
      clear hbl hb1 hrd hq H8
      go_upto_if 108 with (fail)
      go_cut [18, 19] from 109 to 109 (fun u v Y => Y = X9 ∧ ∃ (mm pw : Nat) (WT : List Int), u = .int .i64 mm ∧ v = .slice (some ⟨pw, 0, none⟩) 32 32 ∧ mm ≤ 1 ∧ Hid (blk X9 pw = some (.cells (us WT).toArray 5 (0, 0)) ∧ ((mm = 1 ∧ WT = A0) ∨ (mm = 0 ∧ WT = A1)) ∧ pw ∉ [db, kg, hg] ∧ Bd WT))
      case first =>
        have hne := H9.out.ne
        cases kp with
        | true =>
          clear hne
          go_wp2
          go_meet
          exact ⟨rfl, 1, p, A0, rfl, rfl, by omega, Lib.hid ⟨H9.out.o, Or.inl ⟨rfl, rfl⟩, by have := H9.out.ne; simp; omega, H9.out.p.b0⟩⟩
        | false =>
          clear hne
          go_wp2
          go_meet
          exact ⟨rfl, 0, p2, A1, rfl, rfl, by omega, Lib.hid ⟨H9.out.n, Or.inr ⟨rfl, rfl⟩, by have := H9.out.ne; simp; omega, H9.out.p.b1⟩⟩
      case rest =>
      obtain ⟨rfl, mm, pw, WT, rfl, rfl, hmm, HW⟩ := hcut
      have sx := str_of (c := 32) HQ.out H9.out.p.b0.1 H9.out.p.b0.2
      have sy := str_of (c := 32) H9.out.o H9.out.p.b0.1 H9.out.p.b0.2
      have HP3 := Lib.hid H9.out.p
      clear HQ
      generalize bytesOf A0 = str at sx sy
      go_wp2_with fail
      refine (fuse_any 0 mm _ H9.out.l.d H9.out.p.dn (by omega)).mono ?_
      rintro e X10 ⟨rfl, d2, t2⟩
      have HL10 := Lib.hid (H9.out.l.tn d2 t2)
      have HW10 := Lib.hid (Tn.blk t2 HW.out.1 HW.out.2.2.1)
      clear d2 t2 sx sy H9
      go_wp2_with fail
      refine (sector_any 9 (by omega) _).mono ?_
      rintro e X11 ⟨rfl, hbl, hb1⟩
      have HL11 := Lib.hid (HL10.out.bel hb1)
      have HW11 := Lib.hid ((blk_below hb1 _ (blk_lt HW10.out)).trans HW10.out)
      clear hbl hb1 HL10 HW10
      go_wp2_with fail
      refine (write_down ii (secL 9) _ 32 _ HL11.out.d HP3.out.dn hi4 rfl).mono ?_
      rintro e X12 ⟨rfl, d2, t2⟩
      have HL12 := Lib.hid (HL11.out.tn d2 t2)
      have HW12 := Lib.hid (Tn.blk t2 HW11.out HW.out.2.2.1)
      clear d2 t2 HL11 HW11
      obtain ⟨s5, es5⟩ : ∃ t : DS, ({ ({ s4 with lf := 0, ms := (mm : Int) } : DS) with dn := true } : DS) = t := ⟨_, rfl⟩
      have hP5 := p4 (s5 := s5) HP3.out (by have := HL12.out.d.kl.1; exact this) (by have := HL12.out.d.hl.1; exact this) hi4 HW.out.2.1 (by rw [← es5]) (by rw [← es5]) (by rw [← es5])
      have HDN : Hid (s5.dn = true) := Lib.hid (by rw [← es5])
      have HL12' : Hid (Lw w X12 db kg hg 4 s5) := Lib.hid (by rw [← es5]; exact HL12.out)
      have CUP := up_any _ HL12'.out.d HDN.out
      rw [hP5.1] at CUP
      have HCUP := Lib.hid CUP
      have HRD : Hid (∀ j, j < 4 → rd ({ (upN s5 4).1 with dn := false, lf := -1, ms := 0 } : DS) j = if j = ii then WT else secL (j + 1)) := Lib.hid (fun j hj => by
        obtain ⟨e1, e2⟩ := hP5.2 j hj
        unfold rd
        rw [show (({ (upN s5 4).1 with dn := false, lf := -1, ms := 0 } : DS).H.getD j (false, [])).1 = false from e1, if_neg (by decide)]
        exact e2)
      clear CUP hP5 es5 HL12
      go_wp2_with fail
      refine HCUP.out.mono ?_
      rintro e X13 ⟨⟨ua, uc, rfl, -, -⟩, d2, t2⟩
      have HL13 := Lib.hid (HL12'.out.tn d2 t2)
      have HW13 := Lib.hid (Tn.blk t2 HW12.out HW.out.2.2.1)
      have HBW := Lib.hid HW.out.2.2.2
      obtain ⟨s6, es6⟩ : ∃ t : DS, ({ (upN s5 4).1 with dn := false, lf := -1, ms := 0 } : DS) = t := ⟨_, rfl⟩
      have HD6 : Hid (s6.dn = false) := Lib.hid (by rw [← es6])
      rw [es6] at HL13 HRD
      clear es6 d2 t2 HL12' HW12 HW HCUP HDN HP3
      go_wp2_with fail
      go_loopw [20] (fun i V => ∃ j : Nat, j ≤ 4 ∧ i = .int .i64 j ∧ Hid (Lw w V db kg hg 4 s6) ∧ Hid (blk V pw = some (.cells (us WT).toArray 5 (0, 0)))) (fun i _ => 4 - (intOf i).toNat)
      case atStart => exact ⟨0, by omega, rfl, HL13, HW13⟩
      case round =>
        clear HL13 HW13
        obtain ⟨j, hj9, rfl, HV, HW⟩ := hrel
        rename World => V
        by_cases hj : j < 4
        · have hj' : (j : Int) < 4 := by omega
          have CR := read_any j V HV.out.d HD6.out hj
          rw [HRD.out j hj] at CR
          have HCR := Lib.hid CR
          clear CR
          by_cases hji : j = ii
          · rw [if_pos hji] at HCR
            subst hji
            go_wp2_with fail
            refine HCR.out.mono ?_
            rintro e V1 ⟨rfl, hbl, hb1⟩
            have HV1 := Lib.hid (HV.out.bel hb1)
            have HW1 := Lib.hid ((blk_below hb1 _ (blk_lt HW.out)).trans HW.out)
            obtain ⟨q2, hq2⟩ : ∃ p, V.heap.size = p := ⟨_, rfl⟩
            rw [hq2] at hbl ⊢
            have sx := fun d => str_of (W := V1.drewN d) (c := 32) hbl HBW.out.1 HBW.out.2
            have sy := fun d => str_of (W := V1.drewN d) (c := 32) HW1.out HBW.out.1 HBW.out.2
            have HV2 : Hid (∀ d, Lw w (V1.drewN d) db kg hg 4 s6) := Lib.hid (fun d => HV1.out.bel ⟨rfl, rfl, rfl, Nat.le_refl _, fun _ _ => rfl⟩)
            have HW2 : Hid (∀ d, blk (V1.drewN d) pw = some (.cells (us WT).toArray 5 (0, 0))) := Lib.hid (fun d => HW1.out)
            generalize bytesOf WT = str at sx sy
            clear hbl hb1 hq2 HV1 HW1 HCR
            go_upto_region 27 with (fail)
            go_quiet (fail)
            go_wp2
            exact ⟨⟨j + 1, by omega, by go_num, HV2.out _, HW2.out _⟩, by simp [intOf]; omega⟩
          · rw [if_neg hji] at HCR
            have hji' : ¬ ((j : Int) = (ii : Int)) := by omega
            have f1 : ((j : Int) == (ii : Int)) = false := by simpa using hji'
            have f2 : ((j : Int) != (ii : Int)) = true := by simpa using hji'
            go_wp2_with fail
            refine HCR.out.mono ?_
            rintro e V1 ⟨rfl, hbl, hb1⟩
            have HV1 := Lib.hid (HV.out.bel hb1)
            have HW1 := Lib.hid ((blk_below hb1 _ (blk_lt HW.out)).trans HW.out)
            obtain ⟨q2, hq2⟩ : ∃ p, V.heap.size = p := ⟨_, rfl⟩
            rw [hq2] at hbl ⊢
            have HX := Lib.hid hbl
            obtain ⟨v2, hv2⟩ : ∃ v : Nat, (j : Int) + 1 = (v : Int) := ⟨j + 1, by omega⟩
            have hvj : v2 = j + 1 := by omega
            have HVJ := Lib.hid hvj
            have hvb : v2 ≤ 400 := by omega
            have hwr : IntKind.i64.wrap (v2 : Int) = (v2 : Int) := IntWalk.i64_in _ (by omega)
            rw [← hvj] at HX
            clear hbl hb1 hq2 HCR hvj
            go_upto_region 27 with (fail)
            refine Pred.region_vals (Pred.Of [
                Is (.int .i64 0),
                Is (.bool false),
                Is (.bool false),
                Is (.int .i64 (j : Int)),
                Is (.int .i64 (ii : Int)),
                Is (.bool false),
                Is (.bool false),
                Is (undef),
                Is (undef),
                Is (undef),
                Is (undef),
                Is (undef),
                Is (.bool false),
                Is (.bool false),
                Is (.bool false),
                Is (.int .i64 (j : Int)),
                Is (.int .i64 (ii : Int)),
                Is (.bool true),
                Is (.bool true),
                Is (.slice (some ⟨q2, 0, none⟩) 32 32),
                Is (.string (bytesOf (secL v2))),
                Is (.int .i64 (j : Int)),
                Is (.int .i64 (v2 : Int)),
                SecP (secL v2),
                Is (.string (bytesOf (secL v2))),
                Is (.bool false),
                Is (.bool false),
                Is (.bool false)]) (by kernel_rfl) (by kernel_rfl) (by kernel_rfl) (Pred.of_stab ?_) ?_ ?_
            · exact ⟨is_stab _, is_stab _, is_stab _, is_stab _, is_stab _, is_stab _, is_stab _, is_stab _, is_stab _, is_stab _, is_stab _, is_stab _, is_stab _, is_stab _, is_stab _, is_stab _, is_stab _, is_stab _, is_stab _, is_stab _, is_stab _, is_stab _, is_stab _, secp_stab _, is_stab _, is_stab _, is_stab _, is_stab _, trivial⟩
            · refine ⟨?_, ?_, ?_, ?_, ?_, ?_, ?_, ?_, ?_, ?_, ?_, ?_, ?_, ?_, ?_, ?_, ?_, ?_, ?_, ?_, ?_, ?_, ?_, ?_, ?_, ?_, ?_, ?_, trivial⟩
              · intro b X hE hd hn hV
                have r22 : b.tmps[22]?.getD undef = .int .i64 0 := (hn 22 (by kernel_rfl)).trans rfl
                exact Pred.yields_run (v := .int .i64 0) (Pred.wanted_none rfl) (by go_simp) ⟨Pred.ext_refl _ _, rfl⟩
              · intro b X hE hd hn hV
                have r149 : b.tmps[149]?.getD undef = .int .i64 0 := hV 0 _ 149 rfl rfl (Pred.waits_near (by kernel_rfl) (by kernel_rfl))
                exact Pred.yields_run (v := .bool false) (Pred.wanted_none rfl) (by go_simp) ⟨Pred.ext_refl _ _, rfl⟩
              · intro b X hE hd hn hV
                have r150 : b.tmps[150]?.getD undef = .bool false := hV 1 _ 150 rfl rfl (Pred.waits_near (by kernel_rfl) (by kernel_rfl))
                exact Pred.yields_run (v := .bool false) (Pred.wanted_none rfl) (by go_simp) ⟨Pred.ext_refl _ _, rfl⟩
              · intro b X hE hd hn hV
                have r20 : b.tmps[20]?.getD undef = .int .i64 (j : Int) := (hn 20 (by kernel_rfl)).trans rfl
                have r151 : b.tmps[151]?.getD undef = .bool false := hV 2 _ 151 rfl rfl (Pred.waits_near (by kernel_rfl) (by kernel_rfl))
                exact Pred.yields_run (v := .int .i64 (j : Int)) ((Pred.wanted_at (g := 2) (d := 151) (f := false) rfl rfl r151).trans rfl) (by go_simp) ⟨Pred.ext_refl _ _, rfl⟩
              · intro b X hE hd hn hV
                have r12 : b.tmps[12]?.getD undef = .int .i64 (ii : Int) := (hn 12 (by kernel_rfl)).trans rfl
                have r151 : b.tmps[151]?.getD undef = .bool false := hV 2 _ 151 rfl rfl (Pred.waits_near (by kernel_rfl) (by kernel_rfl))
                exact Pred.yields_run (v := .int .i64 (ii : Int)) ((Pred.wanted_at (g := 2) (d := 151) (f := false) rfl rfl r151).trans rfl) (by go_simp) ⟨Pred.ext_refl _ _, rfl⟩
              · intro b X hE hd hn hV
                have r152 : b.tmps[152]?.getD undef = .int .i64 (j : Int) := hV 3 _ 152 rfl rfl (Pred.waits_near (by kernel_rfl) (by kernel_rfl))
                have r153 : b.tmps[153]?.getD undef = .int .i64 (ii : Int) := hV 4 _ 153 rfl rfl (Pred.waits_near (by kernel_rfl) (by kernel_rfl))
                have r151 : b.tmps[151]?.getD undef = .bool false := hV 2 _ 151 rfl rfl (Pred.waits_near (by kernel_rfl) (by kernel_rfl))
                exact Pred.yields_run (v := .bool false) ((Pred.wanted_at (g := 2) (d := 151) (f := false) rfl rfl r151).trans rfl) (by go_simp) ⟨Pred.ext_refl _ _, rfl⟩
              · intro b X hE hd hn hV
                have r154 : b.tmps[154]?.getD undef = .bool false := hV 5 _ 154 rfl rfl (Pred.waits_near (by kernel_rfl) (by kernel_rfl))
                have r151 : b.tmps[151]?.getD undef = .bool false := hV 2 _ 151 rfl rfl (Pred.waits_near (by kernel_rfl) (by kernel_rfl))
                exact Pred.yields_run (v := .bool false) ((Pred.wanted_at (g := 2) (d := 151) (f := false) rfl rfl r151).trans rfl) (by go_simp) ⟨Pred.ext_refl _ _, rfl⟩
              · intro b X hE hd hn hV
                have r155 : b.tmps[155]?.getD undef = .bool false := hV 6 _ 155 rfl rfl (Pred.waits_near (by kernel_rfl) (by kernel_rfl))
                exact Pred.yields_not ((Pred.wanted_at (g := 6) (d := 155) (f := true) rfl rfl r155).trans rfl) ⟨Pred.ext_refl _ _, rfl⟩
              · intro b X hE hd hn hV
                have r155 : b.tmps[155]?.getD undef = .bool false := hV 6 _ 155 rfl rfl (Pred.waits_near (by kernel_rfl) (by kernel_rfl))
                exact Pred.yields_not ((Pred.wanted_at (g := 6) (d := 155) (f := true) rfl rfl r155).trans rfl) ⟨Pred.ext_refl _ _, rfl⟩
              · intro b X hE hd hn hV
                have r155 : b.tmps[155]?.getD undef = .bool false := hV 6 _ 155 rfl rfl (Pred.waits_near (by kernel_rfl) (by kernel_rfl))
                exact Pred.yields_not ((Pred.wanted_at (g := 6) (d := 155) (f := true) rfl rfl r155).trans rfl) ⟨Pred.ext_refl _ _, rfl⟩
              · intro b X hE hd hn hV
                have r155 : b.tmps[155]?.getD undef = .bool false := hV 6 _ 155 rfl rfl (Pred.waits_near (by kernel_rfl) (by kernel_rfl))
                exact Pred.yields_not ((Pred.wanted_at (g := 6) (d := 155) (f := true) rfl rfl r155).trans rfl) ⟨Pred.ext_refl _ _, rfl⟩
              · intro b X hE hd hn hV
                have r155 : b.tmps[155]?.getD undef = .bool false := hV 6 _ 155 rfl rfl (Pred.waits_near (by kernel_rfl) (by kernel_rfl))
                exact Pred.yields_not ((Pred.wanted_at (g := 6) (d := 155) (f := true) rfl rfl r155).trans rfl) ⟨Pred.ext_refl _ _, rfl⟩
              · intro b X hE hd hn hV
                have r155 : b.tmps[155]?.getD undef = .bool false := hV 6 _ 155 rfl rfl (Pred.waits_near (by kernel_rfl) (by kernel_rfl))
                have r160 : b.tmps[160]?.getD undef = undef := hV 11 _ 160 rfl rfl (Pred.waits_near (by kernel_rfl) (by kernel_rfl))
                have r151 : b.tmps[151]?.getD undef = .bool false := hV 2 _ 151 rfl rfl (Pred.waits_near (by kernel_rfl) (by kernel_rfl))
                exact Pred.yields_run (v := .bool false) ((Pred.wanted_at (g := 2) (d := 151) (f := false) rfl rfl r151).trans rfl) (by go_simp) ⟨Pred.ext_refl _ _, rfl⟩
              · intro b X hE hd hn hV
                have r151 : b.tmps[151]?.getD undef = .bool false := hV 2 _ 151 rfl rfl (Pred.waits_near (by kernel_rfl) (by kernel_rfl))
                have r161 : b.tmps[161]?.getD undef = .bool false := hV 12 _ 161 rfl rfl (Pred.waits_near (by kernel_rfl) (by kernel_rfl))
                exact Pred.yields_run (v := .bool false) (Pred.wanted_none rfl) (by go_simp) ⟨Pred.ext_refl _ _, rfl⟩
              · intro b X hE hd hn hV
                have r162 : b.tmps[162]?.getD undef = .bool false := hV 13 _ 162 rfl rfl (Pred.waits_near (by kernel_rfl) (by kernel_rfl))
                exact Pred.yields_run (v := .bool false) (Pred.wanted_none rfl) (by go_simp) ⟨Pred.ext_refl _ _, rfl⟩
              · intro b X hE hd hn hV
                have r20 : b.tmps[20]?.getD undef = .int .i64 (j : Int) := (hn 20 (by kernel_rfl)).trans rfl
                have r163 : b.tmps[163]?.getD undef = .bool false := hV 14 _ 163 rfl rfl (Pred.waits_near (by kernel_rfl) (by kernel_rfl))
                exact Pred.yields_run (v := .int .i64 (j : Int)) ((Pred.wanted_at (g := 14) (d := 163) (f := false) rfl rfl r163).trans rfl) (by go_simp) ⟨Pred.ext_refl _ _, rfl⟩
              · intro b X hE hd hn hV
                have r12 : b.tmps[12]?.getD undef = .int .i64 (ii : Int) := (hn 12 (by kernel_rfl)).trans rfl
                have r163 : b.tmps[163]?.getD undef = .bool false := hV 14 _ 163 rfl rfl (Pred.waits_near (by kernel_rfl) (by kernel_rfl))
                exact Pred.yields_run (v := .int .i64 (ii : Int)) ((Pred.wanted_at (g := 14) (d := 163) (f := false) rfl rfl r163).trans rfl) (by go_simp) ⟨Pred.ext_refl _ _, rfl⟩
              · intro b X hE hd hn hV
                have r164 : b.tmps[164]?.getD undef = .int .i64 (j : Int) := hV 15 _ 164 rfl rfl (Pred.waits_near (by kernel_rfl) (by kernel_rfl))
                have r165 : b.tmps[165]?.getD undef = .int .i64 (ii : Int) := hV 16 _ 165 rfl rfl (Pred.waits_near (by kernel_rfl) (by kernel_rfl))
                have r163 : b.tmps[163]?.getD undef = .bool false := hV 14 _ 163 rfl rfl (Pred.waits_near (by kernel_rfl) (by kernel_rfl))
                exact Pred.yields_run (v := .bool true) ((Pred.wanted_at (g := 14) (d := 163) (f := false) rfl rfl r163).trans rfl) (by go_simp) ⟨Pred.ext_refl _ _, rfl⟩
              · intro b X hE hd hn hV
                have r166 : b.tmps[166]?.getD undef = .bool true := hV 17 _ 166 rfl rfl (Pred.waits_near (by kernel_rfl) (by kernel_rfl))
                have r163 : b.tmps[163]?.getD undef = .bool false := hV 14 _ 163 rfl rfl (Pred.waits_near (by kernel_rfl) (by kernel_rfl))
                exact Pred.yields_run (v := .bool true) ((Pred.wanted_at (g := 14) (d := 163) (f := false) rfl rfl r163).trans rfl) (by go_simp) ⟨Pred.ext_refl _ _, rfl⟩
              · intro b X hE hd hn hV
                have r21 : b.tmps[21]?.getD undef = .slice (some ⟨q2, 0, none⟩) 32 32 := (hn 21 (by kernel_rfl)).trans rfl
                have r167 : b.tmps[167]?.getD undef = .bool true := hV 18 _ 167 rfl rfl (Pred.waits_near (by kernel_rfl) (by kernel_rfl))
                exact Pred.yields_run (v := .slice (some ⟨q2, 0, none⟩) 32 32) ((Pred.wanted_at (g := 18) (d := 167) (f := true) rfl rfl r167).trans rfl) (by go_simp) ⟨Pred.ext_refl _ _, rfl⟩
              · intro b X hE hd hn hV
                have r168 : b.tmps[168]?.getD undef = .slice (some ⟨q2, 0, none⟩) 32 32 := hV 19 _ 168 rfl rfl (Pred.waits_near (by kernel_rfl) (by kernel_rfl))
                have r167 : b.tmps[167]?.getD undef = .bool true := hV 18 _ 167 rfl rfl (Pred.waits_near (by kernel_rfl) (by kernel_rfl))
                have cz := str_of (c := 32) ((blk_below hE _ (blk_lt HX.out)).trans HX.out) (secL_len v2) (secL_bd v2)
                exact Pred.yields_run (v := .string (bytesOf (secL v2))) ((Pred.wanted_at (g := 18) (d := 167) (f := true) rfl rfl r167).trans rfl) (by go_simp) ⟨Pred.ext_refl _ _, rfl⟩
              · intro b X hE hd hn hV
                have r20 : b.tmps[20]?.getD undef = .int .i64 (j : Int) := (hn 20 (by kernel_rfl)).trans rfl
                have r167 : b.tmps[167]?.getD undef = .bool true := hV 18 _ 167 rfl rfl (Pred.waits_near (by kernel_rfl) (by kernel_rfl))
                exact Pred.yields_run (v := .int .i64 (j : Int)) ((Pred.wanted_at (g := 18) (d := 167) (f := true) rfl rfl r167).trans rfl) (by go_simp) ⟨Pred.ext_refl _ _, rfl⟩
              · intro b X hE hd hn hV
                have r170 : b.tmps[170]?.getD undef = .int .i64 (j : Int) := hV 21 _ 170 rfl rfl (Pred.waits_near (by kernel_rfl) (by kernel_rfl))
                have r167 : b.tmps[167]?.getD undef = .bool true := hV 18 _ 167 rfl rfl (Pred.waits_near (by kernel_rfl) (by kernel_rfl))
                exact Pred.yields_run (v := .int .i64 (v2 : Int)) ((Pred.wanted_at (g := 18) (d := 167) (f := true) rfl rfl r167).trans rfl) (by go_simp) ⟨Pred.ext_refl _ _, rfl⟩
              · intro b X hE hd hn hV
                have r171 : b.tmps[171]?.getD undef = .int .i64 (v2 : Int) := hV 22 _ 171 rfl rfl (Pred.waits_near (by kernel_rfl) (by kernel_rfl))
                have r167 : b.tmps[167]?.getD undef = .bool true := hV 18 _ 167 rfl rfl (Pred.waits_near (by kernel_rfl) (by kernel_rfl))
                refine Pred.yields_call (f := 10) (args := #[.int .i64 (v2 : Int)]) ((Pred.wanted_at (g := 18) (d := 167) (f := true) rfl rfl r167).trans rfl) (by go_simp) ?_
                exact (sector_any v2 (by omega) _).mono fun e w2 ⟨he, hbl, hb⟩ => ⟨_, he, Pred.ext_below hb hE.size, _, rfl, reads_of hbl (secL_len v2)⟩
              · intro b X hE hd hn hV
                obtain ⟨ga172, r172, hr172⟩ : SecP (secL v2) (b.tmps[172]?.getD undef) X := hV 23 _ 172 rfl rfl (Pred.waits_near (by kernel_rfl) (by kernel_rfl))
                have r167 : b.tmps[167]?.getD undef = .bool true := hV 18 _ 167 rfl rfl (Pred.waits_near (by kernel_rfl) (by kernel_rfl))
                have cz := str_reads (c := 32) hr172 (secL_bd v2)
                exact Pred.yields_run (v := .string (bytesOf (secL v2))) ((Pred.wanted_at (g := 18) (d := 167) (f := true) rfl rfl r167).trans rfl) (by go_simp) ⟨Pred.ext_refl _ _, rfl⟩
              · intro b X hE hd hn hV
                have r169 : b.tmps[169]?.getD undef = .string (bytesOf (secL v2)) := hV 20 _ 169 rfl rfl (Pred.waits_near (by kernel_rfl) (by kernel_rfl))
                have r173 : b.tmps[173]?.getD undef = .string (bytesOf (secL v2)) := hV 24 _ 173 rfl rfl (Pred.waits_near (by kernel_rfl) (by kernel_rfl))
                have r167 : b.tmps[167]?.getD undef = .bool true := hV 18 _ 167 rfl rfl (Pred.waits_near (by kernel_rfl) (by kernel_rfl))
                exact Pred.yields_run (v := .bool false) ((Pred.wanted_at (g := 18) (d := 167) (f := true) rfl rfl r167).trans rfl) (by go_simp) ⟨Pred.ext_refl _ _, rfl⟩
              · intro b X hE hd hn hV
                have r167 : b.tmps[167]?.getD undef = .bool true := hV 18 _ 167 rfl rfl (Pred.waits_near (by kernel_rfl) (by kernel_rfl))
                have r174 : b.tmps[174]?.getD undef = .bool false := hV 25 _ 174 rfl rfl (Pred.waits_near (by kernel_rfl) (by kernel_rfl))
                have r163 : b.tmps[163]?.getD undef = .bool false := hV 14 _ 163 rfl rfl (Pred.waits_near (by kernel_rfl) (by kernel_rfl))
                exact Pred.yields_run (v := .bool false) ((Pred.wanted_at (g := 14) (d := 163) (f := false) rfl rfl r163).trans rfl) (by go_simp) ⟨Pred.ext_refl _ _, rfl⟩
              · intro b X hE hd hn hV
                have r163 : b.tmps[163]?.getD undef = .bool false := hV 14 _ 163 rfl rfl (Pred.waits_near (by kernel_rfl) (by kernel_rfl))
                have r175 : b.tmps[175]?.getD undef = .bool false := hV 26 _ 175 rfl rfl (Pred.waits_near (by kernel_rfl) (by kernel_rfl))
                exact Pred.yields_run (v := .bool false) (Pred.wanted_none rfl) (by go_simp) ⟨Pred.ext_refl _ _, rfl⟩
            intro v X hE hv
            have e0 : v 0 = .int .i64 0 := hv 0 _ 149 rfl rfl
            have e1 : v 1 = .bool false := hv 1 _ 150 rfl rfl
            have e2 : v 2 = .bool false := hv 2 _ 151 rfl rfl
            have e3 : v 3 = .int .i64 (j : Int) := hv 3 _ 152 rfl rfl
            have e4 : v 4 = .int .i64 (ii : Int) := hv 4 _ 153 rfl rfl
            have e5 : v 5 = .bool false := hv 5 _ 154 rfl rfl
            have e6 : v 6 = .bool false := hv 6 _ 155 rfl rfl
            have e7 : v 7 = undef := hv 7 _ 156 rfl rfl
            have e8 : v 8 = undef := hv 8 _ 157 rfl rfl
            have e9 : v 9 = undef := hv 9 _ 158 rfl rfl
            have e10 : v 10 = undef := hv 10 _ 159 rfl rfl
            have e11 : v 11 = undef := hv 11 _ 160 rfl rfl
            have e12 : v 12 = .bool false := hv 12 _ 161 rfl rfl
            have e13 : v 13 = .bool false := hv 13 _ 162 rfl rfl
            have e14 : v 14 = .bool false := hv 14 _ 163 rfl rfl
            have e15 : v 15 = .int .i64 (j : Int) := hv 15 _ 164 rfl rfl
            have e16 : v 16 = .int .i64 (ii : Int) := hv 16 _ 165 rfl rfl
            have e17 : v 17 = .bool true := hv 17 _ 166 rfl rfl
            have e18 : v 18 = .bool true := hv 18 _ 167 rfl rfl
            have e19 : v 19 = .slice (some ⟨q2, 0, none⟩) 32 32 := hv 19 _ 168 rfl rfl
            have e20 : v 20 = .string (bytesOf (secL v2)) := hv 20 _ 169 rfl rfl
            have e21 : v 21 = .int .i64 (j : Int) := hv 21 _ 170 rfl rfl
            have e22 : v 22 = .int .i64 (v2 : Int) := hv 22 _ 171 rfl rfl
            obtain ⟨ga23, e23, hr23⟩ : SecP (secL v2) (v 23) X := hv 23 _ 172 rfl rfl
            have e24 : v 24 = .string (bytesOf (secL v2)) := hv 24 _ 173 rfl rfl
            have e25 : v 25 = .bool false := hv 25 _ 174 rfl rfl
            have e26 : v 26 = .bool false := hv 26 _ 175 rfl rfl
            have e27 : v 27 = .bool false := hv 27 _ 176 rfl rfl
            simp only [Pred.putsF_cons, Pred.putsF_nil, Nat.zero_add, Nat.reduceAdd, e0, e1, e2, e3, e4, e5, e6, e7, e8, e9, e10, e11, e12, e13, e14, e15, e16, e17, e18, e19, e20, e21, e22, e23, e24, e25, e26, e27, Act.put, List.setIfInBounds_toArray, List.set_cons_zero, List.set_cons_succ]
            clear e0 e1 e2 e3 e4 e5 e6 e7 e8 e9 e10 e11 e12 e13 e14 e15 e16 e17 e18 e19 e20 e21 e22 e23 e24 e25 e26 e27 hv
            have HV2 := Lib.hid (HV1.out.bel hE)
            have HW2 := Lib.hid ((blk_below hE _ (blk_lt HW1.out)).trans HW1.out)
            clear hE HV1 HW1 HX
            go_wp2
            exact ⟨⟨j + 1, by omega, by first | go_num | (rw [HVJ.out]), HV2, HW2⟩, by simp [intOf]; omega⟩
        · obtain rfl : j = 4 := by omega
          go_wp2_with fail
          refine (awake_any _).mono ?_
          rintro e V3 ⟨rfl, b1⟩
          have L5 : Below w.heap.size w V3 := HV.out.below.trans (b1.mono HV.out.below.size)
          clear b1
          go_wp2
          go_ret
          exact ⟨rfl, L5⟩
end Go.Proofs.Ytajoajblmaopjaa.DkI

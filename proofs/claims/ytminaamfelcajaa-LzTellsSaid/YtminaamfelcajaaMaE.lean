/-
  New: a finder of a row.
-/
import Derived.Test.YtminaamfelcajaaMaD
import Derived.BigRegion
import Derived.Deep.CutBlock
namespace Go.Proofs.Ytminaamfelcajaa.MaE
open Go.RowKit Rd Go.Proofs.Ytminaamfelcajaa.Row MaM MaA MaB MaC MaD
set_option linter.unusedVariables false
set_option linter.unusedSimpArgs false
set_option maxRecDepth 100000
attribute [local go_sem ↓] alloc_tab run_make_int
attribute [local go_sem] run_alloc_tab
structure St (w Y : World) (f : Nat) (ba : Option Addr) (cb g : Nat) (l bv : List Int) : Prop where
  hd : Hd Y f ba (some ⟨g, 0, none⟩) l.length cb l.length
  own : Y.ownsRow w.heap.size 5 1 (.slice ba l.length cb) l.length (us l)
  bef : blk Y g = some (.cells (iv bv).toArray 3 (0, 0))
  below : Below w.heap.size w Y
  lo : w.heap.size ≤ f ∧ w.heap.size ≤ g
def Tb (Y : World) (q : Nat) (tv : List Int) : Prop := blk Y q = some (.cells (iv tv).toArray 67 (0, 0))
theorem St.bel {w Y Z : World} {f : Nat} {ba : Option Addr} {cb g : Nat} {l bv : List Int} (h : St w Y f ba cb g l bv) (hb : Below Y.heap.size Y Z) : St w Z f ba cb g l bv :=
  ⟨h.hd.bel hb, own_bel h.own hb, (blk_below hb g (blk_lt h.bef)).trans h.bef, h.below.trans (hb.mono h.below.size), h.lo⟩
theorem Tb.bel {Y Z : World} {q : Nat} {tv : List Int} (h : Tb Y q tv) (hb : Below Y.heap.size Y Z) : Tb Z q tv := (blk_below hb q (blk_lt h)).trans h
theorem blk_set_ne (w : World) (a : Addr) (k : Nat) (v : Value) (h : k ≠ a.block) : blk (w.setCell a v) k = blk w k := by
  rcases Nat.lt_or_ge k a.block with h1 | h1
  · exact blk_set_far w a k v h1
  · exact blk_set_far' w a k v (by omega)
theorem ne_of_type {Y : World} {a b : Nat} {c d : Array Value} {T U : TypeId} (h1 : blk Y a = some (.cells c T (0, 0))) (h2 : blk Y b = some (.cells d U (0, 0))) (ht : T ≠ U) : a ≠ b := fun e => by
  subst e
  have := h1.symm.trans h2
  cases this
  exact ht rfl
/-- the table's cell is set -/
theorem St.tab {w Y : World} {f : Nat} {ba : Option Addr} {cb g q : Nat} {l bv tv : List Int} (h : St w Y f ba cb g l bv) (ht : Tb Y q tv) (hq : w.heap.size ≤ q) (i : Nat) (v : Value) : St w (Y.setCell ⟨q, i, none⟩ v) f ba cb g l bv :=
  ⟨⟨(blk_set_ne _ _ _ _ (ne_of_type h.hd.head (show blk Y q = some (.cells (iv tv).toArray 67 (0, 0)) from ht) (by decide))).trans h.hd.head, h.hd.cap, h.hd.big⟩, own_keep h.own fun k cur hk => blk_set_ne _ _ _ _ (ne_of_type (show blk Y k = _ from hk) (show blk Y q = some (.cells (iv tv).toArray 67 (0, 0)) from ht) (by decide)),
   (blk_set_ne _ _ _ _ (ne_of_type h.bef (show blk Y q = some (.cells (iv tv).toArray 67 (0, 0)) from ht) (by decide))).trans h.bef, Below.setCell h.below hq _, h.lo⟩
theorem Tb.set {Y : World} {q : Nat} {tv : List Int} (h : Tb Y q tv) (i : Nat) (z : Int) : Tb (Y.setCell ⟨q, i, none⟩ (.int .i64 z)) q (tv.set i z) := by
  refine (blk_set Y q i _ _ _ h).trans ?_
  simp [iv, List.map_set]
/-- the row's cell is set -/
theorem St.row {w Y : World} {f : Nat} {ba : Option Addr} {cb g : Nat} {l bv : List Int} (h : St w Y f ba cb g l bv) (i : Nat) (z : Int) : St w (Y.setCell ⟨g, i, none⟩ (.int .i64 z)) f ba cb g l (bv.set i z) :=
  ⟨⟨(blk_set_ne _ _ _ _ (ne_of_type h.hd.head h.bef (by decide))).trans h.hd.head, h.hd.cap, h.hd.big⟩, own_keep h.own fun k cur hk => blk_set_ne _ _ _ _ (ne_of_type (show blk Y k = _ from hk) h.bef (by decide)),
   by refine (blk_set Y g i _ _ _ h.bef).trans ?_; simp [iv, List.map_set], Below.setCell h.below h.lo.2 _, h.lo⟩
theorem Tb.row {w Y : World} {f : Nat} {ba : Option Addr} {cb g q : Nat} {l bv tv : List Int} (h : Tb Y q tv) (hs : St w Y f ba cb g l bv) (i : Nat) (v : Value) : Tb (Y.setCell ⟨g, i, none⟩ v) q tv :=
  (blk_set_ne _ _ _ _ (ne_of_type (show blk Y q = some (.cells (iv tv).toArray 67 (0, 0)) from h) hs.bef (by decide))).trans h
theorem St.reads {w Y : World} {f : Nat} {ba : Option Addr} {cb g : Nat} {l bv : List Int} (h : St w Y f ba cb g l bv) : Reads Y 1 ba l.length (us l) := Reads.of_owns h.own
theorem iv_cell {Y : World} {g : Nat} {bv : List Int} {T : TypeId} (h : blk Y g = some (.cells (iv bv).toArray T (0, 0))) {i : Nat} (hi : i < bv.length) : Y.cell? ⟨g, i, none⟩ = some (.int .i64 (bv.getD i 0)) := by
  rw [blk_cell h]
  simp [iv, List.getD, hi]
theorem fillK_at {n : Nat} {f : Nat → Int} {k i : Nat} (hi : i < n) : (fillK n f k).getD i 0 = if i < k then f i else 0 := by
  simp [fillK, List.getD, hi]
/-- the table behind so many places -/
def tabL (l : List Int) (k : Nat) : List Int := (List.range 4096).map fun h => lastOf l.length (hs l) h k
theorem tabL_len (l : List Int) (k : Nat) : (tabL l k).length = 4096 := by simp [tabL]
theorem tabL_at (l : List Int) (k : Nat) {h : Nat} (hh : h < 4096) : (tabL l k).getD h 0 = lastOf l.length (hs l) h k := by
  simp [tabL, List.getD, hh]
theorem tabL_start (l : List Int) : fillK 4096 (fun _ => -1) 4096 = tabL l 0 := by
  rw [fillK_all]; rfl
theorem tabL_step (l : List Int) (k : Nat) (hk : k + 3 ≤ l.length) : (tabL l k).set (hs l k) (k : Int) = tabL l (k + 1) := by
  apply List.ext_getElem
  · simp [tabL]
  · intro i h1 h2
    rw [List.getElem_set]
    simp only [tabL, List.getElem_map, List.getElem_range, last_succ]
    by_cases e : hs l k = i
    · rw [if_pos e, if_pos ⟨hk, e⟩]
    · rw [if_neg e, if_neg (fun h => e h.2)]
theorem tabL_stay (l : List Int) (k : Nat) (hk : ¬ k + 3 ≤ l.length) : tabL l k = tabL l (k + 1) := by
  unfold tabL
  apply List.map_congr_left
  intro h _
  rw [last_succ, if_neg (fun a => hk a.1)]
def befL (l : List Int) : List Int := (List.range l.length).map (bef l.length (hs l))
set_option maxHeartbeats 4000000 in
theorem new_any (ai : Option Addr) (c : Nat) (l : List Int) (w : World) (hr : Reads w 1 ai l.length (us l)) (hb : By l) (hl : l.length ≤ 1000000) :
    Calls Try.prog 17 #[.slice ai l.length c] w fun e w' => ∃ f ba cb g, e = .returned (.pointer (some ⟨f, 0, none⟩)) ∧ St w w' f ba cb g l (befL l) := by
  have HR := Lib.hid hr
  have HBY := Lib.hid hb
  have HC : Hid (∀ Z, Below w.heap.size w Z → Calls Try.prog 31 #[.slice ai l.length c] Z fun e w' => ∃ v', e = .returned v' ∧ w'.ownsRow Z.heap.size 5 1 v' l.length (us l) ∧ Below Z.heap.size Z w') := Lib.hid (fun Z hZ => clone_any ai l.length c l Z (hr.below hZ (Nat.le_refl _)) hl)
  obtain ⟨n, hn⟩ : ∃ n, l.length = n := ⟨_, rfl⟩
  have HN := Lib.hid hn
  rw [hn] at HC ⊢ hl
  clear hr hb hn
  go_enter Try.func17, Try.ntmps17
  go_upto_region 1 with (fail)
  go_cut [3] from 8 to 15 (fun v Y => ∃ f ba cb g, v = .pointer (some ⟨f, 0, none⟩) ∧ Hid (St w Y f ba cb g l (List.replicate l.length 0)))
  case first =>
    go_region_with (go_at_call 31; refine (HC.out _ ?_).mono ?_; (· repeat' (first | (with_reducible exact Below.refl _ _) | (with_reducible refine Rd.below_step ?_ (by assumption)) | (with_reducible refine Rd.below_alloc ?_ _) | (with_reducible refine Rd.below_drewN ?_ _) | (with_reducible refine Below.drew ?_) | (with_reducible refine Below.setCell ?_ ?_ _) | (with_reducible refine Rd.below_setRow ?_ ?_ _) | go_size | (simp only [World.size_alloc]; omega) | omega)); rintro e w2 ⟨v2, rfl, H3, H4⟩; obtain ⟨a2, c2, rfl, h21, h22⟩ := owns_val H3)
    · go_wp2_with fail
      go_meet
      obtain rfl := HN.out
      have e0 : (iv (List.replicate l.length 0)).toArray = Array.replicate l.length (Value.int .i64 0) := by simp [iv]
      have hb2 : Below w2.heap.size w2 ((w2.alloc (.cells (Array.replicate l.length (Value.int .i64 0)) 3)).alloc (.cells #[.slice a2 l.length c2, .slice (some ⟨w2.heap.size, 0, none⟩) l.length l.length] 66)) := by repeat' (first | (with_reducible exact Below.refl _ _) | (with_reducible refine Rd.below_step ?_ (by assumption)) | (with_reducible refine Rd.below_alloc ?_ _) | (with_reducible refine Rd.below_drewN ?_ _) | (with_reducible refine Below.drew ?_) | (with_reducible refine Below.setCell ?_ ?_ _) | (with_reducible refine Rd.below_setRow ?_ ?_ _) | go_size | (simp only [World.size_alloc]; omega) | omega)
      have h4 : Below w.heap.size w w2 := (Below.refl _ w).drew.trans H4
      exact ⟨w2.heap.size + 1, a2, c2, w2.heap.size, rfl, Lib.hid ⟨⟨blk2_1 _ _ _, h21, h22⟩, own_bel (own_mono H3 (Nat.le_refl _)) hb2, by rw [e0]; exact blk2_0 _ _ _, h4.trans (hb2.mono h4.size), Nat.le_succ_of_le h4.size, h4.size⟩⟩
    · go_wp2_with fail
      go_meet
      obtain rfl := HN.out
      have e0 : (iv (List.replicate l.length 0)).toArray = Array.replicate l.length (Value.int .i64 0) := by simp [iv]
      have h4 : Below (w.heap.size + 1) (w.alloc (.cells (Array.replicate l.length (Value.int .i64 0)) 3)) w2 := by
        have h9 := H4
        rw [show (w.alloc (.cells (Array.replicate l.length (Value.int .i64 0)) 3)).drew.heap.size = w.heap.size + 1 from World.size_alloc _ _] at h9
        exact (Below.refl _ _).drew.trans h9
      have h5 : Below w.heap.size w w2 := ((Below.refl _ w).alloc (Nat.le_refl _) _).trans (h4.mono (Nat.le_succ _))
      have hb2 : Below w2.heap.size w2 (w2.alloc (.cells #[.slice a2 l.length c2, .slice (some ⟨w.heap.size, 0, none⟩) l.length l.length] 66)) := (Below.refl _ _).alloc (Nat.le_refl _) _
      have hg : blk w2 w.heap.size = some (.cells (iv (List.replicate l.length 0)).toArray 3 (0, 0)) := by
        rw [e0]
        exact (h4.block w.heap.size (Nat.lt_succ_self _)).trans (blk_alloc_at _ _ _ rfl)
      exact ⟨w2.heap.size, a2, c2, w.heap.size, rfl, Lib.hid ⟨⟨blk_alloc_at _ _ _ rfl, h21, h22⟩, own_bel (own_mono H3 (by simp)) hb2, (blk_alloc_old _ _ _ (blk_lt hg)).trans hg, h5.trans (hb2.mono h5.size), h5.size, Nat.le_refl _⟩⟩
  case rest =>
  obtain ⟨f, ba, cb, g, rfl, HS⟩ := hcut
  rename World => Y0
  go_upto_region 3 with (fail)
  refine Rd.name_world ?_
  intro W hW
  obtain ⟨q, hq⟩ : ∃ x, Y0.heap.size = x := ⟨_, rfl⟩
  have HS1 : Hid (St w W f ba cb g l (List.replicate l.length 0)) := Lib.hid (by rw [hW]; exact HS.out.bel ((Below.refl _ _).alloc (Nat.le_refl _) _))
  have HT : Hid (Tb W q (fillK 4096 (fun _ => -1) 0)) := Lib.hid (by rw [hW, fillK_0, ← hq]; exact blk_alloc_at _ _ _ rfl)
  have HQ : Hid (w.heap.size ≤ q) := Lib.hid (by rw [← hq]; exact HS.out.below.size)
  rw [hq]
  clear hW HS hq
  go_wp2_with fail
  go_loopw [15] (fun i X => ∃ k : Nat, k ≤ 4096 ∧ i = .int .i64 k ∧ Hid (St w X f ba cb g l (List.replicate l.length 0)) ∧ Hid (Tb X q (fillK 4096 (fun _ => -1) k))) (fun i _ => 4096 - (intOf i).toNat)
  case atStart => exact ⟨0, by omega, rfl, HS1, HT⟩
  case round =>
    clear HS1 HT
    obtain ⟨k, hk9, rfl, HS, HT⟩ := hrel
    rename World => X
    by_cases hlt : k < 4096
    · have hlt' : (k : Int) < 4096 := by omega
      have ck := iv_cell HT.out (i := k) (by rw [fillK_len]; exact hlt)
      have fk := blk_frozen HT.out k
      go_wp2
      exact ⟨⟨k + 1, by omega, by go_num, Lib.hid (HS.out.tab HT.out HQ.out k _), Lib.hid (by rw [← fillK_set 4096 (fun _ => (-1 : Int)) k hlt]; exact HT.out.set k (-1))⟩, by simp [intOf]; omega⟩
    · obtain rfl : k = 4096 := by omega
      have HT0 : Hid (Tb X q (tabL l 0)) := Lib.hid (by rw [← tabL_start]; exact HT.out)
      have HS0 : Hid (St w X f ba cb g l (fillK l.length (bef l.length (hs l)) 0)) := Lib.hid (by rw [fillK_0]; exact HS.out)
      have c1 := HS.out.hd.c1
      rw [HN.out] at c1
      clear HT HS
      go_wp2_with fail
      go_loopw [26] (fun i X => ∃ k : Nat, k ≤ n ∧ i = .int .i64 k ∧ Hid (St w X f ba cb g l (fillK l.length (bef l.length (hs l)) k)) ∧ Hid (Tb X q (tabL l k))) (fun i _ => n - (intOf i).toNat)
      case atStart => exact ⟨0, by omega, rfl, HS0, HT0⟩
      case round =>
        clear HS0 HT0 c1
        obtain ⟨k, hk9, rfl, HS, HT⟩ := hrel
        rename World => X
        by_cases hlt : k < n
        · have hlt' : (k : Int) < n := by omega
          have c1 := HS.out.hd.c1
          rw [HN.out] at c1
          have ck := iv_cell HS.out.bef (i := k) (by rw [fillK_len, HN.out]; exact hlt)
          have fk := blk_frozen HS.out.bef k
          go_upto_block 3 with (fail)
          go_cut [6, 7] from 27 to 55 (fun v _ Y => v = .int .i64 k ∧ Hid (St w Y f ba cb g l (fillK l.length (bef l.length (hs l)) (k + 1))) ∧ Hid (Tb Y q (tabL l (k + 1))))
          case first =>
            go_upto_region 12 with (fail)
            refine Rd.name_world ?_
            intro V hV
            have HS2 : Hid (St w V f ba cb g l ((fillK l.length (bef l.length (hs l)) k).set k (-1))) := Lib.hid (by rw [hV]; exact HS.out.row k (-1))
            have HT2 : Hid (Tb V q (tabL l k)) := Lib.hid (by rw [hV]; exact HT.out.row HS.out k _)
            clear hV c1 ck fk HS HT
            by_cases h3 : k + 3 ≤ n
            · have h3' : (k : Int) + 3 ≤ (n : Int) := by omega
              go_wp2_with fail
              refine (hash_any f ba (some ⟨g, 0, none⟩) l cb l.length k V HS2.out.hd HS2.out.reads HBY.out (by rw [HN.out]; exact h3) (by rw [HN.out]; exact hl)).mono ?_
              rintro e _ ⟨rfl, rfl⟩
              obtain ⟨h, hh⟩ : ∃ h, hs l k = h := ⟨_, rfl⟩
              have HH := Lib.hid hh
              have hh4 : h < 4096 := by rw [← hh]; exact hs_lt l k
              rw [hh]
              have c1 := HS2.out.hd.c1
              rw [HN.out] at c1
              have ck := iv_cell HS2.out.bef (i := k) (by rw [List.length_set, fillK_len, HN.out]; exact hlt)
              have fk := blk_frozen HS2.out.bef k
              have ch := iv_cell HT2.out (i := h) (by rw [tabL_len]; exact hh4)
              have fh := blk_frozen HT2.out h
              rw [tabL_at l k hh4] at ch
              obtain ⟨z, hz⟩ : ∃ z, lastOf l.length (hs l) h k = z := ⟨_, rfl⟩
              have HZ := Lib.hid hz
              rw [hz] at ch
              have hgq : g ≠ q := ne_of_type HS2.out.bef HT2.out (by decide)
              have hqg : q ≠ g := Ne.symm hgq
              have hh5 : (h : Int) < 4096 := by omega
              clear hz hh
              go_upto_region 14 with (fail)
              go_region
              go_wp2_with fail
              go_meet
              have e1 : ((fillK l.length (bef l.length (hs l)) k).set k (-1)).set k z = fillK l.length (bef l.length (hs l)) (k + 1) := by
                rw [List.set_set, ← HZ.out, ← HH.out, ← walk_start (H := hs l) (by rw [HN.out]; exact h3), fillK_set _ _ k (by rw [HN.out]; exact hlt)]
              have e2 : (tabL l k).set h (k : Int) = tabL l (k + 1) := by rw [← HH.out]; exact tabL_step l k (by rw [HN.out]; exact h3)
              exact ⟨rfl, Lib.hid (e1 ▸ ((HS2.out.row k z).tab (HT2.out.row HS2.out k _) HQ.out h (.int .i64 k)).bel (Below.refl _ _).drew), Lib.hid (e2 ▸ ((HT2.out.row HS2.out k (.int .i64 z)).set h (k : Int)).bel (Below.refl _ _).drew)⟩
            · have h3' : ¬ (k : Int) + 3 ≤ (n : Int) := by omega
              go_wp2_with fail
              go_meet
              have e1 : (fillK l.length (bef l.length (hs l)) k).set k (-1) = fillK l.length (bef l.length (hs l)) (k + 1) := by
                rw [← fillK_set _ _ k (by rw [HN.out]; exact hlt), show bef l.length (hs l) k = -1 from if_neg (by rw [HN.out]; exact h3)]
              exact ⟨rfl, Lib.hid (e1 ▸ HS2.out), Lib.hid (by rw [← tabL_stay l k (by rw [HN.out]; exact h3)]; exact HT2.out)⟩
          case rest =>
          obtain ⟨rfl, HS3, HT3⟩ := hcut
          clear HS HT c1 ck fk
          go_wp2
          exact ⟨⟨k + 1, by omega, by go_num, HS3, HT3⟩, by simp [intOf]; omega⟩
        · obtain rfl : k = n := by omega
          go_wp2
          go_ret
          refine ⟨f, ba, cb, g, rfl, ?_⟩
          have := HS.out
          rw [HN.out.symm, fillK_all] at this
          exact this
end Go.Proofs.Ytminaamfelcajaa.MaE

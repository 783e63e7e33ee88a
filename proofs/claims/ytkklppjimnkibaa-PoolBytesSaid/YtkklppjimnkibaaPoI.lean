/-
  A pool: New.
-/
import Derived.Test.YtkklppjimnkibaaPoH
namespace Go.Proofs.Ytkklppjimnkibaa.PoI
open Go.RowKit Go.Shelf Rd Go.Proofs.Ytkklppjimnkibaa.Row Mid LrM LrA LrB LrP PgM PgA PgB PgN PoM PoA PoB PoE PoF PoG PoH
open Go.Proofs.Ytkklppjimnkibaa.PgC (three len3 eqL eq_pg3)
open Go.Proofs.Ytkklppjimnkibaa.PoD (us us_len By)
open It (get_lt)
open Go.Proofs.Ytkklppjimnkibaa.MpE (owns_mono)
set_option linter.unusedVariables false
set_option linter.unusedSimpArgs false
set_option maxRecDepth 10000
variable {X Y : World} {lo : Lo} {pb gw lb lg n d : Nat} {v : Value} {rs : List (List Value)} {o : List Nat} {pin : Nat → Bool} {wl : List Int} {Bb : Nat → Prop} {sl : List Ent} {R : List Ent}
theorem info_int : (Try.prog.info? 3).map (fun i => (i.zero, i.size, i.bytes)) = some (some (.int .i64 0), 1, 8) := by kernel_rfl
theorem run_make_int (n : Nat) (hn : n ≤ 1000000) (w : World) :
    (Instr.makeSlice 51 (.int .i64 (n : Int)) (.int .i64 (n : Int))).run Try.prog w = .ok (.slice (some ⟨w.heap.size, 0, none⟩) n n) (w.alloc (.cells (cs .i64 (List.replicate n 0)) 3)) := by
  obtain ⟨i, hi, hz, hs, hb⟩ := info_parts info_int
  have hr := run_make (P := Try.prog) w 51 3 i (.int .i64 0) Try.underlying51 hi hz .i64 .i64 (n : Int) (n : Int) (by omega) (by omega) (by rw [hb]; omega) (by omega)
  simp only [Int.toNat_natCast, hs, Nat.mul_one] at hr
  rw [hr]
  congr 2
  congr 1
  apply Array.ext
  · simp [size_madeCells, cs]
  · intro j h1 h2
    simp [madeCells, Value.cells, cs]
    rw [Nat.mod_one]
    rfl
/-- so many are set to none -/
def wlk (N k : Nat) : List Int := List.replicate k (-1) ++ List.replicate (N - k) 0
theorem wlk_len {N k : Nat} (h : k ≤ N) : (wlk N k).length = N := by simp [wlk]; omega
theorem wlk_set {N k : Nat} (h : k < N) : (wlk N k).set k (-1) = wlk N (k + 1) := by
  unfold wlk
  rw [List.set_append_right _ _ (by simp), List.length_replicate, Nat.sub_self, show N - k = (N - (k + 1)) + 1 by omega, List.replicate_succ, List.set_cons_zero, List.replicate_succ', List.append_assoc]
  rfl
theorem wlk_at {N i : Nat} : (wlk N N).getD i (-1) = -1 := by
  unfold wlk
  rw [Nat.sub_self, List.replicate_zero, List.append_nil, List.getD_eq_getElem?_getD, List.getElem?_replicate]
  split <;> rfl
theorem count_len (d : Nat) : countV (d : Int) = ((allV (d : Int)).length : Int) := (all_len _).symm
theorem count_pos {d : Nat} (h : d ≤ 3) : 1 ≤ (allV (d : Int)).length := by
  rcases n4 h with rfl | rfl | rfl | rfl <;> decide +kernel
theorem root_valid {d : Nat} (h : d ≤ 3) : validB d d 0 0 = true := by
  rcases n4 h with rfl | rfl | rfl | rfl <;> decide +kernel
theorem perm_range (n : Nat) : Perm n (List.range n) := ⟨List.nodup_range, fun x hx => List.mem_range.1 hx, fun x hx => List.mem_range.2 hx⟩
/-- a new pool's slots -/
theorem rel_start {n d : Nat} (hn : 1 ≤ n) (hd : d ≤ 3) {b : List Int} (hb : b.length = 144) : Rel n d [(rootL d, b)] (touchL (List.range n) 0) ((wlk (allV d).length (allV d).length).set (keyN d (rootL d)) 0) ∧ rowR [(rootL d, b)] (touchL (List.range n) 0) = [(rootL d, b)] := by
  have hpg : Pg d (rootL d) := pg_iff.2 (root_valid hd)
  obtain ⟨k1, k2⟩ := key_int hd hpg
  have e0 : ent [(rootL d, b)] 0 = (rootL d, b) := rfl
  have i0 : ∀ {i : Nat}, i < [(rootL d, b)].length → i = 0 := fun h => by simpa using h
  refine ⟨⟨hd, Nat.le_refl _, hn, fun i hi => ?_, fun i hi => ?_, fun i j hi hj _ => by rw [i0 hi, i0 hj], rfl, by rw [List.length_set, wlk_len (Nat.le_refl _)], fun i hi => ?_, fun v hv hno => ?_, touch_perm (perm_range n) (by omega)⟩, ?_⟩
  · rw [i0 hi, e0]; exact hpg
  · rw [i0 hi, e0]; exact hb
  · rw [i0 hi, e0, List.getD_eq_getElem?_getD, List.getElem?_set_self (by rw [wlk_len (Nat.le_refl _)]; exact k2)]; rfl
  · have hne := hno 0 (by simp)
    rw [e0] at hne
    rw [List.getD_eq_getElem?_getD, List.getElem?_set_ne (fun e => hne (key_inj3 hd hpg hv e)), ← List.getD_eq_getElem?_getD, wlk_at]
  · unfold rowR ri
    have : (touchL (List.range n) 0).filter (pm [(rootL d, b)].length) = [] := by
      rw [List.filter_eq_nil_iff]
      intro x _ h
      have := of_decide_eq_true h
      simp at this
      omega
    rw [this]
    rfl
attribute [local go_sem ↓] load_pg store_pg
attribute [local go_sem] one_slice one_int pc3 run_load_pg run_store_pg midLoad_eq rowLoad_eq rowStore_eq blk_alloc_at blk_alloc_old blk_drew blk_drewN blk_set_far blk_set_far' blk_grow setRow_alloc_at setRow_alloc_old setRow_drew setRow_drewN
theorem new_bad (n d : Int) (a : Option Addr) (m c : Nat) (w : World) (hm : m ≤ 1000000) (hno : ¬ (1 ≤ n ∧ n ≤ 128) ∨ depthB d = false ∨ m ≠ 144) :
    Calls Try.prog 8 #[.int .i64 n, .int .i64 d, .slice a m c] w fun e w' => e = .returned (.tuple #[.pointer none, .int .i64 1]) ∧ Below w.heap.size w w' := by
  by_cases hn : 1 ≤ n ∧ n ≤ 128
  · obtain ⟨k, rfl⟩ : ∃ k : Nat, n = (k : Int) := ⟨n.toNat, by omega⟩
    have CN := Lib.hid (new_any k (by omega))
    by_cases hd : depthB d = false
    · have CC : Hid (∀ X, Calls Try.prog 29 #[.int .i64 d] X fun e w' => e = .returned (.int .i64 0) ∧ Below X.heap.size X w') := Lib.hid fun X => by
        have := count_any d X
        unfold countV at this
        rw [hd] at this
        exact this
      clear hno hd hn
      go_enter Try.func8, Try.ntmps8
      go_wp2_with fail
      refine (CN.out _).mono ?_
      rintro e w1 ⟨⟨b, g, rfl, -⟩, hb1⟩
      have L1 : Below w.heap.size w w1 := by repeat' (first | (with_reducible exact Below.refl _ _) | (with_reducible refine Rd.below_step ?_ (by assumption)) | (with_reducible refine Rd.below_alloc ?_ _) | (with_reducible refine Rd.below_drewN ?_ _) | (with_reducible refine Below.drew ?_) | (with_reducible refine Below.setCell ?_ ?_ _) | (with_reducible refine Rd.below_setRow ?_ ?_ _) | go_size | (simp only [World.size_alloc]; omega) | omega)
      clear hb1
      go_wp2_with fail
      refine (CC.out _).mono ?_
      rintro e w2 ⟨rfl, hb2⟩
      have L2 : Below w.heap.size w w2 := by repeat' (first | (with_reducible exact Below.refl _ _) | (with_reducible refine Rd.below_step ?_ (by assumption)) | (with_reducible refine Rd.below_alloc ?_ _) | (with_reducible refine Rd.below_drewN ?_ _) | (with_reducible refine Below.drew ?_) | (with_reducible refine Below.setCell ?_ ?_ _) | (with_reducible refine Rd.below_setRow ?_ ?_ _) | go_size | (simp only [World.size_alloc]; omega) | omega)
      clear hb2
      go_wp2
      go_ret2
      exact ⟨rfl, L2⟩
    · have hd' : depthB d = true := by cases h : depthB d with | true => rfl | false => exact absurd h hd
      have hm1 : ¬ ((m : Int) = 144) := by
        rcases hno with h | h | h
        · exact absurd hn h
        · exact absurd h hd
        · omega
      obtain ⟨hd0, hd3⟩ := depth_yes hd'
      obtain ⟨D, rfl⟩ : ∃ D : Nat, d = (D : Int) := ⟨d.toNat, by omega⟩
      obtain ⟨N, hN⟩ : ∃ N, (allV (D : Int)).length = N := ⟨_, rfl⟩
      have hN1 : 1 ≤ N := by rw [← hN]; exact count_pos (by omega)
      have CC : Hid (∀ X, Calls Try.prog 29 #[.int .i64 (D : Int)] X fun e w' => e = .returned (.int .i64 (N : Int)) ∧ Below X.heap.size X w') := Lib.hid fun X => by
        have := count_any (D : Int) X
        rw [count_len, hN] at this
        exact this
      have hN2 : ¬ ((N : Int) = 0) := by omega
      clear hno hd hn hN hd'
      go_enter Try.func8, Try.ntmps8
      go_wp2_with fail
      refine (CN.out _).mono ?_
      rintro e w1 ⟨⟨b, g, rfl, -⟩, hb1⟩
      have L1 : Below w.heap.size w w1 := by repeat' (first | (with_reducible exact Below.refl _ _) | (with_reducible refine Rd.below_step ?_ (by assumption)) | (with_reducible refine Rd.below_alloc ?_ _) | (with_reducible refine Rd.below_drewN ?_ _) | (with_reducible refine Below.drew ?_) | (with_reducible refine Below.setCell ?_ ?_ _) | (with_reducible refine Rd.below_setRow ?_ ?_ _) | go_size | (simp only [World.size_alloc]; omega) | omega)
      clear hb1
      go_wp2_with fail
      refine (CC.out _).mono ?_
      rintro e w2 ⟨rfl, hb2⟩
      have L2 : Below w.heap.size w w2 := by repeat' (first | (with_reducible exact Below.refl _ _) | (with_reducible refine Rd.below_step ?_ (by assumption)) | (with_reducible refine Rd.below_alloc ?_ _) | (with_reducible refine Rd.below_drewN ?_ _) | (with_reducible refine Below.drew ?_) | (with_reducible refine Below.setCell ?_ ?_ _) | (with_reducible refine Rd.below_setRow ?_ ?_ _) | go_size | (simp only [World.size_alloc]; omega) | omega)
      clear hb2
      have t1 : ((N : Int) == 0) = false := beq_eq_false_iff_ne.2 hN2
      have t2 : ((m : Int) != 144) = true := bne_iff_ne.2 hm1
      go_wp2
      go_ret2
      exact ⟨rfl, L2⟩
  · have CN := Lib.hid (new_no n hn)
    clear hno
    go_enter Try.func8, Try.ntmps8
    go_wp2_with fail
    refine (CN.out _).mono ?_
    rintro e w1 ⟨rfl, rfl⟩
    go_wp2
    go_ret2
    exact ⟨rfl, by repeat' (first | (with_reducible exact Below.refl _ _) | (with_reducible refine Rd.below_step ?_ (by assumption)) | (with_reducible refine Rd.below_alloc ?_ _) | (with_reducible refine Rd.below_drewN ?_ _) | (with_reducible refine Below.drew ?_) | (with_reducible refine Below.setCell ?_ ?_ _) | (with_reducible refine Rd.below_setRow ?_ ?_ _) | go_size | (simp only [World.size_alloc]; omega) | omega)⟩
set_option maxHeartbeats 4000000 in
theorem new_ok (n d : Nat) (ad : Addr) (c : Nat) (b : List Int) (w : World) (hn : 1 ≤ n ∧ n ≤ 128) (hd : d ≤ 3) (hb : BIn w ad b) :
    Calls Try.prog 8 #[.int .i64 n, .int .i64 d, .slice (some ad) 144 c] w fun e w' => (∃ pb gw, e = .returned (.tuple #[.pointer (some ⟨pb, 0, none⟩), .int .i64 0]) ∧ Pl w' ⟨w.heap.size, 0, 0⟩ (fun a => w.heap.size ≤ a) pb gw n d [(rootL d, b)]) ∧ Below w.heap.size w w' := by
  have hbl : b.length = 144 := by have := hb.reads.1; simpa [us] using this
  obtain ⟨REL, ROW⟩ := rel_start (b := b) hn.1 hd hbl
  have HREL := Lib.hid REL
  have HROW := Lib.hid ROW
  obtain ⟨N, hN⟩ : ∃ N, (allV (d : Int)).length = N := ⟨_, rfl⟩
  have hN1 : 1 ≤ N := by rw [← hN]; exact count_pos hd
  have hN85 : N ≤ 85 := by rw [← hN]; exact all_small _
  have CC : Hid (∀ X, Calls Try.prog 29 #[.int .i64 (d : Int)] X fun e w' => e = .returned (.int .i64 (N : Int)) ∧ Below X.heap.size X w') := Lib.hid fun X => by
    have := count_any (d : Int) X
    rw [count_len, hN] at this
    exact this
  have hN2 : ¬ ((N : Int) = 0) := by omega
  have hpg : Pg d (rootL d) := pg_iff.2 (root_valid hd)
  obtain ⟨k1, k2⟩ := key_int hd hpg
  obtain ⟨kr, hkr⟩ : ∃ x, keyN d (rootL d) = x := ⟨_, rfl⟩
  rw [hkr] at k1 k2 HREL
  rw [hN] at k2 HREL
  have HV := Lib.hid (root_valid hd)
  have HK : Hid (keyV d d 0 0 = (kr : Int)) := Lib.hid k1
  have CR : Hid (∀ X, Calls Try.prog 30 #[.int .i64 (d : Int)] X fun e w' => e = .returned (pg d 0 0) ∧ Below X.heap.size X w') := Lib.hid fun X => by
    have := root_any (d : Int) X
    unfold rootV at this
    rw [if_pos (depth_mk (by omega) (by omega))] at this
    exact this
  have HB := Lib.hid hb
  have CN := Lib.hid (new_any n hn)
  clear REL ROW hpg k1 hkr hN hb
  go_enter Try.func8, Try.ntmps8
  go_wp2_with fail
  refine (CN.out _).mono ?_
  rintro e w1 ⟨⟨lb, lg, rfl, hlb, hlg, hst⟩, hb1⟩
  have L1 : Below w.heap.size w w1 := by repeat' (first | (with_reducible exact Below.refl _ _) | (with_reducible refine Rd.below_step ?_ (by assumption)) | (with_reducible refine Rd.below_alloc ?_ _) | (with_reducible refine Rd.below_drewN ?_ _) | (with_reducible refine Below.drew ?_) | (with_reducible refine Below.setCell ?_ ?_ _) | (with_reducible refine Rd.below_setRow ?_ ?_ _) | go_size | (simp only [World.size_alloc]; omega) | omega)
  have ST1 := Lib.hid hst
  clear hb1 hst
  go_wp2_with fail
  refine (CC.out _).mono ?_
  rintro e w2 ⟨rfl, hb2⟩
  have L2 : Below w.heap.size w w2 := by repeat' (first | (with_reducible exact Below.refl _ _) | (with_reducible refine Rd.below_step ?_ (by assumption)) | (with_reducible refine Rd.below_alloc ?_ _) | (with_reducible refine Rd.below_drewN ?_ _) | (with_reducible refine Below.drew ?_) | (with_reducible refine Below.setCell ?_ ?_ _) | (with_reducible refine Rd.below_setRow ?_ ?_ _) | go_size | (simp only [World.size_alloc]; omega) | omega)
  have ST2 := Lib.hid (ST1.out.bel hb2)
  clear hb2 ST1 L1
  go_wp2_with fail
  refine (CC.out _).mono ?_
  rintro e w3 ⟨rfl, hb3⟩
  have L3 : Below w.heap.size w w3 := by repeat' (first | (with_reducible exact Below.refl _ _) | (with_reducible refine Rd.below_step ?_ (by assumption)) | (with_reducible refine Rd.below_alloc ?_ _) | (with_reducible refine Rd.below_drewN ?_ _) | (with_reducible refine Below.drew ?_) | (with_reducible refine Below.setCell ?_ ?_ _) | (with_reducible refine Rd.below_setRow ?_ ?_ _) | go_size | (simp only [World.size_alloc]; omega) | omega)
  have ST3 := Lib.hid (ST2.out.bel hb3)
  clear hb3 ST2 L2
  have MK := fun w => run_make_int N (by omega) w
  go_upto_region 5 with (fail)
  refine Rd.name_world ?_
  intro W5 hW
  have L5 : Below w.heap.size w W5 := by rw [hW]; repeat' (first | (with_reducible exact Below.refl _ _) | (with_reducible refine Rd.below_step ?_ (by assumption)) | (with_reducible refine Rd.below_alloc ?_ _) | (with_reducible refine Rd.below_drewN ?_ _) | (with_reducible refine Below.drew ?_) | (with_reducible refine Below.setCell ?_ ?_ _) | (with_reducible refine Rd.below_setRow ?_ ?_ _) | go_size | (simp only [World.size_alloc]; omega) | omega)
  obtain ⟨gw, egw⟩ : ∃ x, w3.heap.size = x := ⟨_, rfl⟩
  obtain ⟨pb, epb⟩ : ∃ x, w3.heap.size + 1 = x := ⟨_, rfl⟩
  have hs3 := L3.size
  have hw0 : (wlk N 0).length = N := wlk_len (Nat.zero_le _)
  have P0 : PlR W5 ⟨w.heap.size, 0, 0⟩ pb gw lb lg n d (.slice none 0 0) [] (List.range n) (fun _ => false) (wlk N 0) := by
    refine ⟨?_, ?_, ⟨rfl, .inl ⟨rfl, rfl⟩⟩, fun k hk => (by cases hk), fun l hl => (by cases hl), ?_, ⟨⟨by show w.heap.size ≤ _; omega, .inr (Nat.zero_le _)⟩, ⟨by show w.heap.size ≤ _; omega, .inr (Nat.zero_le _)⟩, ⟨hlb, .inr (Nat.zero_le _)⟩, ⟨hlg, .inr (Nat.zero_le _)⟩⟩, L5.size, Nat.zero_le _⟩
    · rw [hW, hw0, ← epb, ← egw]
      exact blk_alloc_at _ _ _ (by simp)
    · rw [hW, ← egw, blk_alloc_old _ _ _ (by simp)]
      have e : wlk N 0 = List.replicate N 0 := by simp [wlk]
      rw [e]
      exact blk_alloc_at _ _ _ rfl
    · rw [hW]
      exact (ST3.out.bel ((Below.refl _ w3).alloc (Nat.le_refl _) _)).bel ((Below.refl _ _).alloc (Nat.le_refl _) _)
  have HP := Lib.hid P0
  rw [epb, egw]
  clear hW P0 ST3 L3 MK epb egw hs3 hw0
  have c3 := HP.out.c3
  have hl0 : (wlk N 0).length = N := wlk_len (Nat.zero_le _)
  rw [hl0] at c3
  go_wp2_with fail
  clear c3 hl0
  go_loopw [44, 11] (fun i j X => ∃ k : Nat, k ≤ N ∧ i = .int .i64 k ∧ Hid (PlR X ⟨w.heap.size, 0, 0⟩ pb gw lb lg n d (.slice none 0 0) [] (List.range n) (fun _ => false) (wlk N k)) ∧ Hid (Below w.heap.size w X)) (fun i _ _ => N - (intOf i).toNat)
  case atStart => exact ⟨0, Nat.zero_le _, rfl, HP, Lib.hid L5⟩
  case round =>
    obtain ⟨k, hk, rfl, HX, HL⟩ := hrel
    rename World => X
    clear HP L5
    by_cases hlt : k < N
    · have hlt' : (k : Int) < (N : Int) := by omega
      have hl0 : (wlk N k).length = N := wlk_len hk
      have c3 := HX.out.c3
      rw [hl0] at c3
      have cw := HX.out.cw (k := k) (by rw [hl0]; exact hlt)
      have fw := blk_frozen HX.out.w k
      go_wp2
      obtain ⟨q1, q2⟩ := PlR.set_w HX.out k (-1)
      rw [wlk_set hlt] at q1
      refine ⟨⟨k + 1, by omega, by go_num, Lib.hid q1, Lib.hid (HL.out.trans q2.below)⟩, by simp [intOf]; omega⟩
    · have ek : N = k := by omega
      subst ek
      have hlN : (wlk N N).length = N := wlk_len (Nat.le_refl _)
      have HLN := Lib.hid hlN
      clear hlN hlt hk
      go_wp2_with fail
      refine (CR.out _).mono ?_
      rintro e x1 ⟨rfl, hb1⟩
      have HX1 := Lib.hid (HX.out.bel hb1)
      have HL1 := Lib.hid (Rd.below_step HL.out hb1)
      clear hb1 HX HL
      go_wp2_with fail
      refine (put_more d 0 0 kr _ ad c b HX1.out HV.out HK.out (by rw [HLN.out]; exact k2) (by rw [HLN.out]; exact hN85) wlk_at (by show 0 < n; omega) (HB.out.bel HL1.out)).mono ?_
      rintro e x2 ⟨v', u, rfl, h1, h2, h3⟩
      have q1 : PlR x2 ⟨w.heap.size, 0, 0⟩ pb gw lb lg n d v' [slotV [(d : Int), 0, 0] u] (touchL (List.range n) 0) (fun _ => false) ((wlk N N).set kr 0) := h1
      have HX2 := Lib.hid q1
      have HL2 := Lib.hid (HL1.out.trans h3.below)
      have HU2 := Lib.hid (owns_mono h2 HL1.out.size)
      clear h1 h2 h3 q1 HX1 HL1
      go_wp2_with fail
      refine (CR.out _).mono ?_
      rintro e x3 ⟨rfl, hb3⟩
      have HX3 := Lib.hid (HX2.out.bel hb3)
      have HL3 := Lib.hid (Rd.below_step HL2.out hb3)
      have HU3 := Lib.hid (owns_below HU2.out hb3)
      clear hb3 HX2 HL2 HU2
      go_wp2_with fail
      refine (slot_yes d 0 0 0 kr _ HX3.out HV.out HK.out (by rw [List.length_set, HLN.out]; exact k2) (by rw [List.length_set, HLN.out]; exact hN85) (by rw [List.getD_eq_getElem?_getD, List.getElem?_set_self (by rw [HLN.out]; exact k2)]; rfl)).mono ?_
      rintro e x4 ⟨rfl, hb4⟩
      have HX4 := Lib.hid (HX3.out.bel hb4)
      have HL4 := Lib.hid (Rd.below_step HL3.out hb4)
      have HU4 := Lib.hid (owns_below HU3.out hb4)
      clear hb4 HX3 HL3 HU3
      go_wp2_with fail
      refine (pin_yes 0 _ HX4.out.l (by omega)).mono ?_
      rintro e x5 ⟨rfl, h5, g5⟩
      obtain ⟨q1, q2⟩ := PlR.touched HX4.out h5 g5
      have HX5 := Lib.hid q1
      have HL5 := Lib.hid (HL4.out.trans q2.below)
      have HU5 := Lib.hid (own_pf HU4.out HX4.out q2)
      clear q1 q2 h5 g5 HX4 HL4 HU4
      go_wp2
      go_ret2
      refine ⟨⟨pb, gw, rfl, lb, lg, v', [(rootL d, b)], _, _, ⟨[slotV [(d : Int), 0, 0] u], rfl, HX5.out, fun i hi => ?_⟩, HREL.out, HROW.out.symm⟩, HL5.out⟩
      obtain rfl : i = 0 := by simpa using hi
      exact ⟨u, rfl, owns_mono HU5.out (Nat.zero_le _), own_ge (w := w) HU5.out⟩
end Go.Proofs.Ytkklppjimnkibaa.PoI

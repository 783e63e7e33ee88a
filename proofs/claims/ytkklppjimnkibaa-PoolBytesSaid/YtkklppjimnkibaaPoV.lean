/-
  The document's own pool: New, Put refused, All; the law's page of a Key.
-/
import Derived.Test.YtkklppjimnkibaaPoU
import Derived.Test.YtkklppjimnkibaaPoQ
namespace Go.Proofs.Ytkklppjimnkibaa.PoV
open Go.RowKit Go.Shelf Rd Go.Proofs.Ytkklppjimnkibaa.Row Mid LrM PgM PgA PgB PgC PgN PoM PoA PoB PoH PoI PoL PoS PoT PoU PoQ
open Go.Proofs.Ytkklppjimnkibaa.PoK (allR)
open Go.Proofs.Ytkklppjimnkibaa.PoD (us us_len By dataL data_len data_B data_any)
open Go.Proofs.Ytkklppjimnkibaa.PoE (BIn yields_skip below_zero one_slice)
open Go.Proofs.Ytkklppjimnkibaa.Num (ret_int ret_bool)
open Go.Proofs.Ytkklppjimnkibaa.MpE (owns_mono)
open It (get_lt)
set_option linter.unusedVariables false
set_option linter.unusedSimpArgs false
set_option maxRecDepth 10000
variable {X Y : World} {base qb n d : Nat} {v : Value} {rs : List (List Value)} {R : List Ent}
attribute [local go_sem ↓] load_pg store_pg eq_pg3 load_rs store_rs
attribute [local go_sem] one_slice one_int pc3 pc4 run_load_pg run_store_pg run_load_rs run_store_rs midStore_eq midLoad_eq rowLoad_eq rowStore_eq blk_alloc_at blk_alloc_old blk_drew blk_drewN blk_set_far blk_set_far' blk_grow setRow_alloc_at setRow_alloc_old setRow_drew setRow_drewN
theorem win_any (n a b : Int) (W : World) :
    Calls Try.prog 33 #[.int .i64 n, .int .i64 a, .int .i64 b] W fun e w' => e = .returned (.bool (decide (a ≤ n ∧ n ≤ b))) ∧ Below W.heap.size W w' := by
  by_cases h1 : a ≤ n
  · by_cases h2 : n ≤ b
    · have E := Lib.hid (show decide (a ≤ n ∧ n ≤ b) = true from decide_eq_true ⟨h1, h2⟩)
      have d1 : decide (a ≤ n) = true := by simpa using h1
      have d2 : decide (n ≤ b) = true := by simpa using h2
      go_enter Try.func33, Try.ntmps33
      go_wp2
      go_ret
      exact ⟨by first | exact ret_bool E.out.symm | rfl, by repeat' (first | (with_reducible exact Below.refl _ _) | (with_reducible refine Rd.below_step ?_ (by assumption)) | (with_reducible refine Rd.below_alloc ?_ _) | (with_reducible refine Rd.below_drewN ?_ _) | (with_reducible refine Below.drew ?_) | (with_reducible refine Below.setCell ?_ ?_ _) | (with_reducible refine Rd.below_setRow ?_ ?_ _) | go_size | (simp only [World.size_alloc]; omega) | omega)⟩
    · have E := Lib.hid (show decide (a ≤ n ∧ n ≤ b) = false from decide_eq_false (by omega))
      have d1 : decide (a ≤ n) = true := by simpa using h1
      have d2 : decide (n ≤ b) = false := by simpa using h2
      go_enter Try.func33, Try.ntmps33
      go_wp2
      go_ret
      exact ⟨by first | exact ret_bool E.out.symm | rfl, by repeat' (first | (with_reducible exact Below.refl _ _) | (with_reducible refine Rd.below_step ?_ (by assumption)) | (with_reducible refine Rd.below_alloc ?_ _) | (with_reducible refine Rd.below_drewN ?_ _) | (with_reducible refine Below.drew ?_) | (with_reducible refine Below.setCell ?_ ?_ _) | (with_reducible refine Rd.below_setRow ?_ ?_ _) | go_size | (simp only [World.size_alloc]; omega) | omega)⟩
  · have E := Lib.hid (show decide (a ≤ n ∧ n ≤ b) = false from decide_eq_false (by omega))
    have d1 : decide (a ≤ n) = false := by simpa using h1
    go_enter Try.func33, Try.ntmps33
    go_wp2
    go_ret
    exact ⟨by first | exact ret_bool E.out.symm | rfl, by repeat' (first | (with_reducible exact Below.refl _ _) | (with_reducible refine Rd.below_step ?_ (by assumption)) | (with_reducible refine Rd.below_alloc ?_ _) | (with_reducible refine Rd.below_drewN ?_ _) | (with_reducible refine Below.drew ?_) | (with_reducible refine Below.setCell ?_ ?_ _) | (with_reducible refine Rd.below_setRow ?_ ?_ _) | go_size | (simp only [World.size_alloc]; omega) | omega)⟩
theorem win_false (a b : Int) {n : Int} (h : ¬ (a ≤ n ∧ n ≤ b)) : Hid (∀ W : World, Calls Try.prog 33 #[.int .i64 n, .int .i64 a, .int .i64 b] W fun e w' => e = .returned (.bool false) ∧ Below W.heap.size W w') := Lib.hid fun W => by
  have := win_any n a b W
  rwa [decide_eq_false h] at this
theorem win_true (a b : Int) {n : Int} (h : a ≤ n ∧ n ≤ b) : Hid (∀ W : World, Calls Try.prog 33 #[.int .i64 n, .int .i64 a, .int .i64 b] W fun e w' => e = .returned (.bool true) ∧ Below W.heap.size W w') := Lib.hid fun W => by
  have := win_any n a b W
  rwa [decide_eq_true h] at this
theorem rnew_bad (n d : Int) (a : Option Addr) (m c : Nat) (w : World) (hm : m ≤ 1000000) (hno : ¬ (1 ≤ n ∧ n ≤ 128) ∨ ¬ (0 ≤ d ∧ d ≤ 3) ∨ m ≠ 144) :
    Calls Try.prog 9 #[.int .i64 n, .int .i64 d, .slice a m c] w fun e w' => e = .returned (.pointer none) ∧ Below w.heap.size w w' := by
  by_cases hn : 1 ≤ n ∧ n ≤ 128
  · have C1 := win_true 1 128 hn
    by_cases hd : 0 ≤ d ∧ d ≤ 3
    · have C2 := win_true 0 3 hd
      have hm1 : ¬ ((m : Int) = 144) := by
        rcases hno with h | h | h
        · exact absurd hn h
        · exact absurd hd h
        · omega
      have t2 : ((m : Int) != 144) = true := bne_iff_ne.2 hm1
      clear hno hn hd
      go_enter Try.func9, Try.ntmps9
      go_wp2_with fail
      refine (C1.out _).mono ?_
      rintro e w1 ⟨rfl, hb1⟩
      have L1 : Below w.heap.size w w1 := by repeat' (first | (with_reducible exact Below.refl _ _) | (with_reducible refine Rd.below_step ?_ (by assumption)) | (with_reducible refine Rd.below_alloc ?_ _) | (with_reducible refine Rd.below_drewN ?_ _) | (with_reducible refine Below.drew ?_) | (with_reducible refine Below.setCell ?_ ?_ _) | (with_reducible refine Rd.below_setRow ?_ ?_ _) | go_size | (simp only [World.size_alloc]; omega) | omega)
      clear hb1
      go_wp2_with fail
      refine (C2.out _).mono ?_
      rintro e w2 ⟨rfl, hb2⟩
      have L2 : Below w.heap.size w w2 := by repeat' (first | (with_reducible exact Below.refl _ _) | (with_reducible refine Rd.below_step ?_ (by assumption)) | (with_reducible refine Rd.below_alloc ?_ _) | (with_reducible refine Rd.below_drewN ?_ _) | (with_reducible refine Below.drew ?_) | (with_reducible refine Below.setCell ?_ ?_ _) | (with_reducible refine Rd.below_setRow ?_ ?_ _) | go_size | (simp only [World.size_alloc]; omega) | omega)
      clear hb2
      go_wp2
      go_ret
      exact ⟨rfl, L2⟩
    · have C2 := win_false 0 3 hd
      clear hno hn hd
      go_enter Try.func9, Try.ntmps9
      go_wp2_with fail
      refine (C1.out _).mono ?_
      rintro e w1 ⟨rfl, hb1⟩
      have L1 : Below w.heap.size w w1 := by repeat' (first | (with_reducible exact Below.refl _ _) | (with_reducible refine Rd.below_step ?_ (by assumption)) | (with_reducible refine Rd.below_alloc ?_ _) | (with_reducible refine Rd.below_drewN ?_ _) | (with_reducible refine Below.drew ?_) | (with_reducible refine Below.setCell ?_ ?_ _) | (with_reducible refine Rd.below_setRow ?_ ?_ _) | go_size | (simp only [World.size_alloc]; omega) | omega)
      clear hb1
      go_wp2_with fail
      refine (C2.out _).mono ?_
      rintro e w2 ⟨rfl, hb2⟩
      have L2 : Below w.heap.size w w2 := by repeat' (first | (with_reducible exact Below.refl _ _) | (with_reducible refine Rd.below_step ?_ (by assumption)) | (with_reducible refine Rd.below_alloc ?_ _) | (with_reducible refine Rd.below_drewN ?_ _) | (with_reducible refine Below.drew ?_) | (with_reducible refine Below.setCell ?_ ?_ _) | (with_reducible refine Rd.below_setRow ?_ ?_ _) | go_size | (simp only [World.size_alloc]; omega) | omega)
      clear hb2
      go_wp2
      go_ret
      exact ⟨rfl, L2⟩
  · have C1 := win_false 1 128 hn
    clear hno hn
    go_enter Try.func9, Try.ntmps9
    go_wp2_with fail
    refine (C1.out _).mono ?_
    rintro e w1 ⟨rfl, hb1⟩
    have L1 : Below w.heap.size w w1 := by repeat' (first | (with_reducible exact Below.refl _ _) | (with_reducible refine Rd.below_step ?_ (by assumption)) | (with_reducible refine Rd.below_alloc ?_ _) | (with_reducible refine Rd.below_drewN ?_ _) | (with_reducible refine Below.drew ?_) | (with_reducible refine Below.setCell ?_ ?_ _) | (with_reducible refine Rd.below_setRow ?_ ?_ _) | go_size | (simp only [World.size_alloc]; omega) | omega)
    clear hb1
    go_wp2
    go_ret
    exact ⟨rfl, L1⟩
theorem app_b {ops : Array Oper} {rest : List Oper} {o : Oper} {a : Act} {W : World} {Q : Exit → Act → World → Prop} {ad : Addr} {c : Nat} {b : List Int} (hgd : o.guard = none) (s x : Operand) (ho : o.op = .call { callee := .builtin .append, args := #[s, x], argTypes := #[22, 22] })
    (h : BIn W ad b) (hs : a.eval s = .slice (some ⟨W.heap.size, 0, none⟩) 0 0) (hx : a.eval x = .slice (some ad) 144 c)
    (k : ∀ a4 c4 w4, w4.ownsRow W.heap.size 5 1 (.slice a4 144 c4) 144 (us b) → (W.alloc (.cells #[] 5)).grownBy w4 (Value.slice (some ⟨W.heap.size, 0, none⟩) 0 0).ownBlock → wpList Try.prog ops Q rest (a.put o.dst (.slice a4 144 c4)) w4) :
    wpList Try.prog ops Q (o :: rest) a (W.alloc (.cells #[] 5)) := by
  obtain ⟨i0, hi0, hz0, hz1, hz2⟩ := info_parts PoA.info_u8
  refine App.wpList_append_reads _ hgd s x 22 ho W.heap.size 5 i0 (.int .u8 0) 1 1 Try.underlying22 hi0 hz0 hz1 hz2 rfl (by decide) _ 0 [] hs (none_own (Nat.le_refl _) (blk_alloc_at _ _ _ rfl)) (some ad) 144 c (us b) hx ((h.bel (Below.alloc (Below.refl _ _) (Nat.le_refl _) _)).reads) (one_us b) (by decide) (by decide) (by simp) ?_
  intro v4 w4 ho4 hg4
  rw [Nat.zero_add, List.nil_append] at ho4
  obtain ⟨a4, c4, rfl, -⟩ := Rd.owns_val ho4
  exact k a4 c4 w4 ho4 hg4
set_option maxHeartbeats 1000000 in
theorem rnew_ok (n d : Nat) (ad : Addr) (c : Nat) (b : List Int) (w : World) (hn : 1 ≤ n ∧ n ≤ 128) (hd : d ≤ 3) (hb : BIn w ad b) :
    Calls Try.prog 9 #[.int .i64 n, .int .i64 d, .slice (some ad) 144 c] w fun e w' => (∃ qb v rs, e = .returned (.pointer (some ⟨qb, 0, none⟩)) ∧ Rp w' w.heap.size qb n d v rs [(rootL d, b)]) ∧ Below w.heap.size w w' := by
  have C1 := win_true 1 128 (n := (n : Int)) (by omega)
  have C2 := win_true 0 3 (n := (d : Int)) (by omega)
  have CR : Hid (∀ X, Calls Try.prog 34 #[.int .i64 (d : Int)] X fun e w' => e = .returned (.agg #[.int .i64 (d : Int), .int .i64 0, .int .i64 0]) ∧ Below X.heap.size X w') := Lib.hid fun X => by
    have := rroot_any (d : Int) X
    rwa [show rootV (d : Int) = [(d : Int), 0, 0] by unfold rootV; rw [depth_mk (by omega) (by omega)]; rfl] at this
  have HB := Lib.hid hb
  clear hb hn hd
  go_enter Try.func9, Try.ntmps9
  go_wp2_with fail
  refine (C1.out _).mono ?_
  rintro e w1 ⟨rfl, hb1⟩
  have L1 : Below w.heap.size w w1 := by repeat' (first | (with_reducible exact Below.refl _ _) | (with_reducible refine Rd.below_step ?_ (by assumption)) | (with_reducible refine Rd.below_alloc ?_ _) | (with_reducible refine Rd.below_drewN ?_ _) | (with_reducible refine Below.drew ?_) | (with_reducible refine Below.setCell ?_ ?_ _) | (with_reducible refine Rd.below_setRow ?_ ?_ _) | go_size | (simp only [World.size_alloc]; omega) | omega)
  clear hb1
  go_wp2_with fail
  refine (C2.out _).mono ?_
  rintro e w2 ⟨rfl, hb2⟩
  have L2 : Below w.heap.size w w2 := by repeat' (first | (with_reducible exact Below.refl _ _) | (with_reducible refine Rd.below_step ?_ (by assumption)) | (with_reducible refine Rd.below_alloc ?_ _) | (with_reducible refine Rd.below_drewN ?_ _) | (with_reducible refine Below.drew ?_) | (with_reducible refine Below.setCell ?_ ?_ _) | (with_reducible refine Rd.below_setRow ?_ ?_ _) | go_size | (simp only [World.size_alloc]; omega) | omega)
  clear hb2 L1
  go_wp2_with fail
  refine (CR.out _).mono ?_
  rintro e w3 ⟨rfl, hb3⟩
  have L3 : Below w.heap.size w w3 := by repeat' (first | (with_reducible exact Below.refl _ _) | (with_reducible refine Rd.below_step ?_ (by assumption)) | (with_reducible refine Rd.below_alloc ?_ _) | (with_reducible refine Rd.below_drewN ?_ _) | (with_reducible refine Below.drew ?_) | (with_reducible refine Below.setCell ?_ ?_ _) | (with_reducible refine Rd.below_setRow ?_ ?_ _) | go_size | (simp only [World.size_alloc]; omega) | omega)
  have HB3 := Lib.hid (HB.out.bel L3)
  clear hb3 L2 C1 C2 CR
  go_wp2_with (at_builtin; refine app_b rfl (.tmp 24) (.tmp 25) rfl HB3.out rfl rfl ?_; intro a4 c4 w4 ho4 hg4)
  have L4 : Below w3.heap.size w3 w4 := ((Below.refl _ w3).alloc (Nat.le_refl _) _).grown hg4 (by simp) (fun j hj => by
    have e7 : w3.heap.size = j := by simpa [Value.ownBlock] using hj
    omega)
  have hs3 := L3.size
  have hs4 := L4.size
  go_ret
  have e1 : (slotV (rootL d) (.slice a4 144 c4)) = [.int .i64 (d : Int), .int .i64 0, .int .i64 0, .slice a4 144 c4] := rfl
  refine ⟨⟨w4.heap.size + 1, .slice (some ⟨w4.heap.size, 0, none⟩) 1 1, [slotV (rootL d) (.slice a4 144 c4)], rfl, ?_⟩, by repeat' (first | (with_reducible exact Below.refl _ _) | (with_reducible refine Rd.below_step ?_ (by assumption)) | (with_reducible refine Rd.below_alloc ?_ _) | (with_reducible refine Rd.below_drewN ?_ _) | (with_reducible refine Below.drew ?_) | (with_reducible refine Below.setCell ?_ ?_ _) | (with_reducible refine Rd.below_setRow ?_ ?_ _) | go_size | (simp only [World.size_alloc]; omega) | omega)⟩
  have LA : Below w4.heap.size w4 ((w4.alloc (.cells #[.int .i64 (d : Int), .int .i64 0, .int .i64 0, .slice a4 144 c4] 77)).alloc (.cells #[.int .i64 (n : Int), .int .i64 (d : Int), .slice (some ⟨w4.heap.size, 0, none⟩) 1 1] 80)) := by repeat' (first | (with_reducible exact Below.refl _ _) | (with_reducible refine Rd.below_step ?_ (by assumption)) | (with_reducible refine Rd.below_alloc ?_ _) | (with_reducible refine Rd.below_drewN ?_ _) | (with_reducible refine Below.drew ?_) | (with_reducible refine Below.setCell ?_ ?_ _) | (with_reducible refine Rd.below_setRow ?_ ?_ _) | go_size | (simp only [World.size_alloc]; omega) | omega)
  have hu := PoE.owns_below ho4 LA
  refine ⟨blk_alloc_at _ _ _ (by simp), ⟨rfl, .inr ⟨w4.heap.size, 1, _, rfl, by omega, (blk_alloc_old _ _ _ (by simp)).trans (blk_alloc_at _ _ _ rfl), Nat.le_refl _, by decide, rfl, rfl⟩⟩, fun l hl => by rw [List.mem_singleton.1 hl]; rfl, rfl, ?_, ?_, by omega⟩
  · intro j hj
    obtain rfl : j = 0 := by simpa using hj
    exact ⟨_, rfl, owns_mono hu (Nat.zero_le _), fun k hk => Nat.le_trans hs3 (hu.lt k hk).1⟩
  · intro j hj
    obtain rfl : j = 0 := by simpa using hj
    rfl
set_option maxHeartbeats 1000000 in
theorem rput_no (L X0 Y0 : Int) (a : Option Addr) (m c : Nat) (w : World) (h : Rp w base qb n d v rs R) (hno : validB d L X0 Y0 = false ∨ m ≠ 144) :
    Calls Try.prog 13 #[.pointer (some ⟨qb, 0, none⟩), pg L X0 Y0, .slice a m c] w fun e w' => e = .returned (.tuple #[.slice none 0 0, .int .i64 1]) ∧ Below w.heap.size w w' := by
  obtain ⟨hv, ehv⟩ : ∃ q, validB d L X0 Y0 = q := ⟨_, rfl⟩
  have CV : Hid (∀ X, Calls Try.prog 40 #[.int .i64 d, pg L X0 Y0] X fun e w' => e = .returned (.bool hv) ∧ Below X.heap.size X w') := Lib.hid fun X => by
    have := rvalid_any d L X0 Y0 X
    rwa [ehv] at this
  rw [ehv] at hno
  have c1 := h.c1
  have hql := h.lt
  clear h ehv
  go_enter Try.func13, Try.ntmps13
  go_upto_region 1 with (fail)
  refine Rd.name_world ?_
  intro W hW
  have L0 : Below w.heap.size w W := by rw [hW]; repeat' (first | (with_reducible exact Below.refl _ _) | (with_reducible refine Rd.below_step ?_ (by assumption)) | (with_reducible refine Rd.below_alloc ?_ _) | (with_reducible refine Rd.below_drewN ?_ _) | (with_reducible refine Below.drew ?_) | (with_reducible refine Below.setCell ?_ ?_ _) | (with_reducible refine Rd.below_setRow ?_ ?_ _) | go_size | (simp only [World.size_alloc]; omega) | omega)
  have bP0 : blk W w.heap.size = some (.cells #[.int .i64 L, .int .i64 X0, .int .i64 Y0] 35 (0, 0)) := by rw [hW]; exact blk_alloc_at _ _ _ rfl
  clear hW
  have g1 := Go.cell_regrown (w := W) (a := ⟨qb, 1, none⟩) (by rw [L0.cell (by exact hql)]; exact c1)
  have gP := blk_regrown bP0
  cases hv with
  | false =>
    clear hno
    (refine wp_region_quiet_below (by kernel_rfl) (by kernel_rfl) ?_; (repeat (go_big_quiet_step (((with_reducible exact Calls.regrown_of (CV.out _)))))); refine wpQuiet_nil ?_)
    intro W1 hU
    have KU := Rd.below_of_regrown hU
    have L1 : Below w.heap.size w W1 := by repeat' (first | (with_reducible exact Below.refl _ _) | (with_reducible refine Rd.below_step ?_ (by assumption)) | (with_reducible refine Rd.below_alloc ?_ _) | (with_reducible refine Rd.below_drewN ?_ _) | (with_reducible refine Below.drew ?_) | (with_reducible refine Below.setCell ?_ ?_ _) | (with_reducible refine Rd.below_setRow ?_ ?_ _) | go_size | (simp only [World.size_alloc]; omega) | omega)
    clear hU KU g1 gP
    go_wp2_with fail
    go_ret2
    exact ⟨rfl, L1⟩
  | true =>
    have hm : ¬ ((m : Int) = 144) := by
      rcases hno with h | h
      · cases h
      · omega
    have t2 : ((m : Int) != 144) = true := bne_iff_ne.2 hm
    clear hno
    (refine wp_region_quiet_below (by kernel_rfl) (by kernel_rfl) ?_; (repeat (go_big_quiet_step (((with_reducible exact Calls.regrown_of (CV.out _)))))); refine wpQuiet_nil ?_)
    intro W1 hU
    have KU := Rd.below_of_regrown hU
    have L1 : Below w.heap.size w W1 := by repeat' (first | (with_reducible exact Below.refl _ _) | (with_reducible refine Rd.below_step ?_ (by assumption)) | (with_reducible refine Rd.below_alloc ?_ _) | (with_reducible refine Rd.below_drewN ?_ _) | (with_reducible refine Below.drew ?_) | (with_reducible refine Below.setCell ?_ ?_ _) | (with_reducible refine Rd.below_setRow ?_ ?_ _) | go_size | (simp only [World.size_alloc]; omega) | omega)
    clear hU KU g1 gP
    go_wp2_with fail
    go_ret2
    exact ⟨rfl, L1⟩
theorem filt_more (f : List Int → Bool) (A : PgM.Row) {k : Nat} (hk : k < A.length) : (A.take (k + 1)).filter f = (A.take k).filter f ++ if f (at_ A k) then [at_ A k] else [] := by
  rw [List.take_succ_eq_append_getElem hk, List.filter_append, at_eq hk]
  cases h : f A[k] <;> simp [h]
set_option maxHeartbeats 2000000 in
theorem rall_any (w : World) (h : Rp w base qb n d v rs R) (hn : R.length ≤ 1000) :
    Calls Try.prog 19 #[.pointer (some ⟨qb, 0, none⟩)] w fun e w' => (∃ ad' c', e = .returned (.slice ad' (allR d R).length c') ∧ (allR d R).length ≤ c' ∧ c' ≤ maxLen ∧ PgT w' ad' (allR d R)) ∧ Below w.heap.size w w' := by
  have H := Lib.hid h
  have CP := Lib.hid (fun X => rpages_own (d : Int) X)
  have CH := Lib.hid (fun (L X0 Y0 : Int) (X : World) (hX : Rp X base qb n d v rs R) => rhas_any L X0 Y0 X hX hn)
  have c1 := h.c1
  have hql := h.lt
  have hal := all_small (d : Int)
  have h3 := Lib.hid (three_all (d : Int))
  unfold allR
  obtain ⟨A, eA⟩ : ∃ A, allV (d : Int) = A := ⟨_, rfl⟩
  obtain ⟨F, eF⟩ : ∃ F : Nat → PgM.Row, F = fun k => (A.take k).filter (hasR R) := ⟨_, rfl⟩
  rw [eA] at CP hal h3 ⊢
  have F0 : F 0 = [] := by rw [eF]; rfl
  have FN : A.filter (hasR R) = F A.length := by rw [eF]; simp only [List.take_length]
  have FS : Hid (∀ k, k < A.length → F (k + 1) = F k ++ if hasR R (at_ A k) then [at_ A k] else []) := Lib.hid fun k hk => by rw [eF]; exact filt_more _ _ hk
  have FL : Hid (∀ k, k ≤ A.length → (F k).length ≤ 85) := Lib.hid fun k hk => by
    rw [eF]
    have := List.length_filter_le (hasR R) (A.take k)
    have := List.length_take_le k A
    show ((A.take k).filter (hasR R)).length ≤ 85
    omega
  have F3 : Hid (∀ v ∈ F A.length, v.length = 3) := Lib.hid fun v hv => by
    rw [← FN] at hv
    exact h3.out v (List.mem_filter.1 hv).1
  rw [FN]
  clear h eA eF FN hn
  go_enter Try.func19, Try.ntmps19
  go_wp2_with fail
  refine (CP.out _).mono ?_
  rintro e W ⟨⟨v5, rfl, hv5⟩, hb⟩
  obtain ⟨ga, ca, rfl, hca, -⟩ := Rd.owns_val hv5
  have HT : Hid (PgT W ga A) := Lib.hid (pgt_own hv5 h3.out)
  have L0 := hb
  have HW := Lib.hid (H.out.bel L0)
  clear hb hv5 CP h3 c1 H
  go_wp2_with fail
  go_loopw [3, 5] (fun v i X => ∃ k : Nat, k ≤ A.length ∧ i = .int .i64 k ∧ Hid (X.ownsRow W.heap.size 35 3 v (F k).length (fl (F k))) ∧ Hid (Below W.heap.size W X)) (fun _ i _ => A.length - (intOf i).toNat)
  case atStart => exact ⟨0, Nat.zero_le _, rfl, Lib.hid (by rw [F0]; exact World.ownsRow_nil _ _ _ _), Lib.hid (Below.refl _ _)⟩
  case round =>
    obtain ⟨k, hk, rfl, HO, HB⟩ := hrel
    rename World => X
    have HTX := Lib.hid (HT.out.bel HB.out)
    have HX := Lib.hid (HW.out.bel HB.out)
    have hws := L0.size
    have hwx := HB.out.size
    by_cases hlt : k < A.length
    · have hlt' : (k : Int) < (A.length : Int) := by omega
      obtain ⟨x0, x1, x2, hx⟩ := HTX.out.three hlt
      obtain ⟨b, o, cur, ea, hgb, hgs, hpc⟩ := HTX.out.at hlt
      have FSk := FS.out k hlt
      rw [hx] at hpc FSk
      subst ea
      have hpc' : Mid.piece cur (o + k * 3) 3 = #[.int .i64 x0, .int .i64 x1, .int .i64 x2] := hpc
      have hgl := blk_lt hgb
      have CHX := Lib.hid (CH.out x0 x1 x2 X HX.out)
      have FLk := FL.out k (by omega)
      clear hpc hx
      cases hr : hasR R [x0, x1, x2] with
      | false =>
        rw [hr] at CHX FSk
        have FSK := Lib.hid FSk
        clear hr FSk
        go_wp2_with fail
        refine CHX.out.mono ?_
        rintro e X2 ⟨rfl, hb2⟩
        have HB2 := Lib.hid (Rd.below_step HB.out hb2)
        have HO2 := Lib.hid (owns_below HO.out hb2)
        clear hb2
        go_wp2_with fail
        exact ⟨⟨k + 1, by omega, by go_num, Lib.hid (by rw [FSK.out]; simpa using HO2.out), HB2⟩, by simp [intOf]; omega⟩
      | true =>
        rw [hr] at CHX FSk
        have FSK := Lib.hid FSk
        clear hr FSk
        go_wp2_with fail
        refine CHX.out.mono ?_
        rintro e X2 ⟨rfl, hb2⟩
        have hgb2 := (blk_below hb2 _ hgl).trans hgb
        have L2 := Rd.below_step HB.out hb2
        have HO2 := Lib.hid (owns_below HO.out hb2)
        have hz2 := hb2.size
        clear hb2 hgb
        go_wp2_with (at_builtin; refine app_pg rfl (.tmp 23) (.tmp 28) rfl W.heap.size _ _ _ rfl (HO2.out.alloc _) X2.heap.size 1 [x0, x1, x2] rfl rfl (blk_alloc_at _ _ _ rfl) (by omega) (by simp; omega) ?_; intro v4 w4 ho4 hg4)
        have L5 : Below W.heap.size W w4 := (L2.alloc (by omega) _).grown hg4 (by simp; omega) (fun j hj => (HO2.out.lt j hj).1)
        exact ⟨⟨k + 1, by omega, by go_num, Lib.hid (by rw [FSK.out, List.length_append]; exact ho4), Lib.hid L5⟩, by simp [intOf]; omega⟩
    · obtain rfl : k = A.length := by omega
      obtain ⟨a', cap', e5, hca', hcb⟩ := Rd.owns_val HO.out
      subst e5
      have HBX := HB.out
      go_wp2_with fail
      go_ret
      exact ⟨⟨_, _, rfl, hca', hcb, pgt_own HO.out F3.out⟩, by repeat' (first | (with_reducible exact Below.refl _ _) | (with_reducible refine Rd.below_step ?_ (by assumption)) | (with_reducible refine Rd.below_alloc ?_ _) | (with_reducible refine Rd.below_drewN ?_ _) | (with_reducible refine Below.drew ?_) | (with_reducible refine Below.setCell ?_ ?_ _) | (with_reducible refine Rd.below_setRow ?_ ?_ _) | go_size | (simp only [World.size_alloc]; omega) | omega)⟩
end Go.Proofs.Ytkklppjimnkibaa.PoV

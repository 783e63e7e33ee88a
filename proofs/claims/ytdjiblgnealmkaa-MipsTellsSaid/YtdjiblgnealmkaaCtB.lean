/-
  cut.Texel: a texel out of a page's bytes.
-/
import Derived.Test.YtdjiblgnealmkaaCtA
import Derived.Laws.CopyOwn
namespace Go.Proofs.Ytdjiblgnealmkaa.CtB
open Go.RowKit Rd Go.Proofs.Ytdjiblgnealmkaa.Row Mid DkM HueA MpM MpA MpB MpC MpD MpE MpF MpG CtA
set_option linter.unusedVariables false
set_option linter.unusedSimpArgs false
set_option maxRecDepth 10000
theorem within_ct (x : Int) (w : World) : Calls Try.prog 58 #[.int .i64 x] w fun e w' => e = .returned (.bool (decide (-1 ≤ x ∧ x < 5))) ∧ w = w' := by
  by_cases h0 : -1 ≤ x
  · by_cases h1 : x < 5
    · rw [decide_eq_true (show -1 ≤ x ∧ x < 5 from ⟨h0, h1⟩)]
      have d0 : decide (-1 ≤ x) = true := decide_eq_true h0
      have d1 : decide (x < 5) = true := decide_eq_true h1
      go_enter Try.func58, Try.ntmps58
      go_wp2
      go_ret
      exact ⟨rfl, rfl⟩
    · rw [decide_eq_false (show ¬ (-1 ≤ x ∧ x < 5) from fun h => h1 h.2)]
      have d0 : decide (-1 ≤ x) = true := decide_eq_true h0
      have d1 : decide (x < 5) = false := decide_eq_false h1
      go_enter Try.func58, Try.ntmps58
      go_wp2
      go_ret
      exact ⟨rfl, rfl⟩
  · rw [decide_eq_false (show ¬ (-1 ≤ x ∧ x < 5) from fun h => h0 h.1)]
    have d0 : decide (-1 ≤ x) = false := decide_eq_false h0
    go_enter Try.func58, Try.ntmps58
    go_wp2
    go_ret
    exact ⟨rfl, rfl⟩
theorem ret_px2 {fn : Func} {R : Ending → World → Prop} {a : Act} {W : World} {p q : Tmp} (h : fn.results = #[.cell p 39, .tmp q]) (g : Nat) (c : Px) (hp : a.tmps.getD p undef = .pointer (some ⟨g, 0, none⟩))
    (hg : blk W g = some (.cells c.c 39 (0, 0))) (hd : a.defers = []) (hR : R (.returned (.tuple #[c.v, a.tmps.getD q undef])) W) : bodyPost Try.prog fn R .ret a W :=
  bodyPost_ret (results_row2 h _ _ g _ _ _ _ hp hg Try.underlying39 rfl (by rw [info_col]; rfl)) hd hR
attribute [local go_sem ↓] load_col store_col alloc_col
attribute [local go_sem] run_alloc_col MpC.fold_px run_store_col rowStore_eq rowLoad_eq blk_alloc_at blk_alloc_old blk_drew blk_drewN blk_grow setRow_alloc_at setRow_alloc_old setRow_drew setRow_drewN Px.c_size Px.c_all c_all4
theorem run_load_col (g o : Nat) (W : World) : (loadRow 39 (.pointer (some ⟨g, o, none⟩))).run Try.prog W = rowLoad Try.prog 39 4 g o W := run_loadRow Try.underlying39 rfl (by kernel_rfl) g o W
attribute [local go_sem] run_load_col
set_option maxHeartbeats 8000000 in
theorem Texel_no (a : Option Addr) (n c : Nat) (x y : Int) (w : World) (hno : n ≠ 144 ∨ ¬ (-1 ≤ x ∧ x < 5) ∨ ¬ (-1 ≤ y ∧ y < 5)) (hn : n ≤ 1000000) :
    Calls Try.prog 30 #[.slice a n c, .int .i64 x, .int .i64 y] w fun e w' => e = .returned (.tuple #[Px.z.v, .bool false]) ∧ Below w.heap.size w w' := by
  have CX := Lib.hid fun Z => within_ct x Z
  have CY := Lib.hid fun Z => within_ct y Z
  by_cases h1 : n = 144
  · subst h1
    by_cases h2 : -1 ≤ x ∧ x < 5
    · have h3 : ¬ (-1 ≤ y ∧ y < 5) := by
        rcases hno with h | h | h
        · exact absurd rfl h
        · exact absurd h2 h
        · exact h
      rw [decide_eq_true h2] at CX
      rw [decide_eq_false h3] at CY
      clear hno h2 h3
      go_enter Try.func30, Try.ntmps30
      go_wp2_with fail
      refine (CX.out _).mono ?_
      rintro e _ ⟨rfl, rfl⟩
      go_wp2_with fail
      refine (CY.out _).mono ?_
      rintro e _ ⟨rfl, rfl⟩
      go_wp2_with fail
      exact ret_px2 rfl w.heap.size Px.z rfl (blk_alloc_at _ _ _ rfl) rfl ⟨rfl, by repeat' (first | (with_reducible exact Below.refl _ _) | (with_reducible refine Rd.below_step ?_ (by assumption)) | (with_reducible refine Rd.below_alloc ?_ _) | (with_reducible refine Rd.below_drewN ?_ _) | (with_reducible refine Below.drew ?_) | (with_reducible refine Below.setCell ?_ ?_ _) | (with_reducible refine Rd.below_setRow ?_ ?_ _) | go_size | (simp only [World.size_alloc]; omega) | omega)⟩
    · rw [decide_eq_false h2] at CX
      clear hno h2
      go_enter Try.func30, Try.ntmps30
      go_wp2_with fail
      refine (CX.out _).mono ?_
      rintro e _ ⟨rfl, rfl⟩
      go_wp2_with fail
      exact ret_px2 rfl w.heap.size Px.z rfl (blk_alloc_at _ _ _ rfl) rfl ⟨rfl, by repeat' (first | (with_reducible exact Below.refl _ _) | (with_reducible refine Rd.below_step ?_ (by assumption)) | (with_reducible refine Rd.below_alloc ?_ _) | (with_reducible refine Rd.below_drewN ?_ _) | (with_reducible refine Below.drew ?_) | (with_reducible refine Below.setCell ?_ ?_ _) | (with_reducible refine Rd.below_setRow ?_ ?_ _) | go_size | (simp only [World.size_alloc]; omega) | omega)⟩
  · have h1' : ((n : Int) != 144) = true := by simp; omega
    have h2' : ¬ (n : Int) = 144 := by omega
    clear hno
    go_enter Try.func30, Try.ntmps30
    go_wp2_with fail
    exact ret_px2 rfl w.heap.size Px.z rfl (blk_alloc_at _ _ _ rfl) rfl ⟨rfl, by repeat' (first | (with_reducible exact Below.refl _ _) | (with_reducible refine Rd.below_step ?_ (by assumption)) | (with_reducible refine Rd.below_alloc ?_ _) | (with_reducible refine Rd.below_drewN ?_ _) | (with_reducible refine Below.drew ?_) | (with_reducible refine Below.setCell ?_ ?_ _) | (with_reducible refine Rd.below_setRow ?_ ?_ _) | go_size | (simp only [World.size_alloc]; omega) | omega)⟩
set_option maxHeartbeats 8000000 in
theorem Texel_any (b off c : Nat) (ps : List Px) (x y : Nat) (w : World) (hr : Reads w 1 (some ⟨b, off, none⟩) 144 (cp ps)) (hc : 144 ≤ c) (hl : ps.length = 36) (hx : x < 6) (hy : y < 6) :
    Calls Try.prog 30 #[.slice (some ⟨b, off, none⟩) 144 c, .int .i64 ((x : Int) - 1), .int .i64 ((y : Int) - 1)] w fun e w' => e = .returned (.tuple #[(at_ ps (6 * y + x)).v, .bool true]) ∧ Below w.heap.size w w' := by
  have CX : Hid (∀ Z : World, Calls Try.prog 58 #[.int .i64 ((x : Int) - 1)] Z fun e w' => e = .returned (.bool true) ∧ Z = w') := Lib.hid fun Z => by
    have := within_ct ((x : Int) - 1) Z
    rwa [decide_eq_true (show -1 ≤ (x : Int) - 1 ∧ (x : Int) - 1 < 5 by omega)] at this
  have CY : Hid (∀ Z : World, Calls Try.prog 58 #[.int .i64 ((y : Int) - 1)] Z fun e w' => e = .returned (.bool true) ∧ Z = w') := Lib.hid fun Z => by
    have := within_ct ((y : Int) - 1) Z
    rwa [decide_eq_true (show -1 ≤ (y : Int) - 1 ∧ (y : Int) - 1 < 5 by omega)] at this
  have hcl := (reads_off hr rfl (by omega)).2
  have hbl := (reads_off hr rfl (by omega)).1
  obtain ⟨a4, ha4⟩ : ∃ a4, a4 = (6 * y + x) * 4 := ⟨_, rfl⟩
  have e4 : (4 : Int) * (6 * ((y : Int) - 1 + 1) + ((x : Int) - 1) + 1) = (a4 : Int) := by omega
  have e4' : (4 : Int) * (6 * (y : Int) + ((x : Int) - 1) + 1) = (a4 : Int) := by omega
  have ha5 : a4 + 4 ≤ 144 := by omega
  have HA := Lib.hid ha4
  have HC := Lib.hid hcl
  obtain ⟨p, hp⟩ : ∃ p, at_ ps (6 * y + x) = p := ⟨_, rfl⟩
  have HP := Lib.hid hp
  rw [hp]
  clear ha4 hcl hr hp
  go_enter Try.func30, Try.ntmps30
  go_wp2_with fail
  refine (CX.out _).mono ?_
  rintro e _ ⟨rfl, rfl⟩
  go_wp2_with fail
  refine (CY.out _).mono ?_
  rintro e _ ⟨rfl, rfl⟩
  go_upto_region 5 with (fail)
  refine Rd.name_world ?_
  intro W hW
  have hB0 : blk W w.heap.size = some (.cells Px.z.c 39 (0, 0)) := by rw [hW]; exact blk2_0 _ _ _
  have hB1 : blk W (w.heap.size + 1) = some (.cells Px.z.c 39 (0, 0)) := by rw [hW]; exact blk2_1 _ _ _
  have L0 : Below w.heap.size w W := by rw [hW]; repeat' (first | (with_reducible exact Below.refl _ _) | (with_reducible refine Rd.below_step ?_ (by assumption)) | (with_reducible refine Rd.below_alloc ?_ _) | (with_reducible refine Rd.below_drewN ?_ _) | (with_reducible refine Below.drew ?_) | (with_reducible refine Below.setCell ?_ ?_ _) | (with_reducible refine Rd.below_setRow ?_ ?_ _) | go_size | (simp only [World.size_alloc]; omega) | omega)
  have f1 : (a4 : Int) ≤ (a4 : Int) + 4 := by omega
  have f2 : (a4 : Int) + 4 ≤ (c : Int) := by omega
  have f3 : (0 : Int) ≤ (a4 : Int) := by omega
  have f4 : ((a4 : Int) + 4).toNat - a4 = 4 := by omega
  have f5 : ¬ c = a4 := by omega
  have lW := L0.size
  clear hW e4 e4'
  (refine Reg.quiet_tail 6 (by kernel_rfl) (by kernel_rfl) ?_; simp only [List.take_succ_cons, List.take_zero, List.drop_succ_cons, List.drop_zero]; (repeat go_big_quiet_step (fail)); refine wpQuiet_nil ?_)
  refine wpList_copy_splice rfl (.tmp 31) (.tmp 36) 62 62 rfl 5 Try.underlying62 (by kernel_rfl) (some ⟨w.heap.size + 1, 0, none⟩) (some ⟨b, off + a4, none⟩) 4 4 4 (c - a4) ?d1 ?d2
      (w.heap.size + 1) 0 Px.z.l 39 hB1 p.l ?c1 ?c2 ?c3 ?c4 (w.heap.size + 1) W (Below.refl _ _).drew (Nat.le_refl _) ?_
  case d1 => first | rfl | (simp; done)
  case d2 => first | rfl | (simp [f4, f5]; done)
  case c1 => rfl
  case c2 =>
    intro _
    refine ⟨rfl, _, rfl, fun j v hj => ?_⟩
    have hj4 : j < 4 := (List.getElem?_eq_some_iff.1 hj).1
    rw [Addr.add_lit]
    show W.cell? _ = _
    rw [L0.cell (p := ⟨b, off + a4 + j, none⟩) hbl, Nat.add_assoc, HC.out _ (by rw [cp_len, hl]; omega), HA.out, cp_at (by omega) hj4, HP.out]
    exact hj
  case c3 => exact Nat.le_refl 4
  case c4 => exact Px.l_one p
  intro w5 hb5 hB5
  have hn5 : blk w5 (w.heap.size + 1) = some (.cells p.c 39 (0, 0)) := hb5.out
  have hz5 := (blk_below hB5 _ (Nat.lt_succ_self _)).trans hB0
  have L5 : Below w.heap.size w w5 := L0.trans (hB5.mono (Nat.le_succ _))
  clear hb5 hB5
  go_wp2_with fail
  exact ret_px2 rfl w.heap.size p rfl (blk_setRow_of hz5 _) rfl ⟨rfl, by repeat' (first | (with_reducible exact Below.refl _ _) | (with_reducible refine Rd.below_step ?_ (by assumption)) | (with_reducible refine Rd.below_alloc ?_ _) | (with_reducible refine Rd.below_drewN ?_ _) | (with_reducible refine Below.drew ?_) | (with_reducible refine Below.setCell ?_ ?_ _) | (with_reducible refine Rd.below_setRow ?_ ?_ _) | go_size | (simp only [World.size_alloc]; omega) | omega)⟩
end Go.Proofs.Ytdjiblgnealmkaa.CtB

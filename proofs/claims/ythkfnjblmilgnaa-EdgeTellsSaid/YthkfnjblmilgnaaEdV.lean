/-
  The walk of EdgeTells.
-/
import Derived.Test.YthkfnjblmilgnaaEdI
import Derived.Test.YthkfnjblmilgnaaEdC
import Derived.Test.YthkfnjblmilgnaaLex
import Derived.Test.YthkfnjblmilgnaaAlike
import Derived.Deep.CutRange
import Derived.Deep.CutBlock
import Derived.Deep.QuietTactic
import Derived.Lib.QuietBelow
import Derived.BigQuiet
import Derived.BigGuard
import Derived.IntWalk
namespace Go.Proofs.Ythkfnjblmilgnaa.EdV
open Go.RowKit FixA Num Rd Go.Proofs.Ythkfnjblmilgnaa.Row Mid EdM EdA EdB EdC EdD EdF EdE EdG EdN EdI
set_option linter.unusedVariables false
set_option linter.unusedSimpArgs false
set_option maxRecDepth 10000
/-! loads by their cells -/
def c5Load (P : Program) (t g o : Nat) (W : World) : Result Value := match W.cell? ⟨g, o, none⟩, W.cell? ⟨g, o + 1, none⟩, W.cell? ⟨g, o + 2, none⟩, W.cell? ⟨g, o + 3, none⟩, W.cell? ⟨g, o + 4, none⟩ with
  | some a, some b, some c, some d, some e => .ok (.agg #[a, b, c, d, e]) W
  | _, _, _, _, _ => fallLoad P t g o W
theorem c5Load_eq (P : Program) (t g o : Nat) (W : World) : c5Load P t g o W = match W.cell? ⟨g, o, none⟩, W.cell? ⟨g, o + 1, none⟩, W.cell? ⟨g, o + 2, none⟩, W.cell? ⟨g, o + 3, none⟩, W.cell? ⟨g, o + 4, none⟩ with
  | some a, some b, some c, some d, some e => .ok (.agg #[a, b, c, d, e]) W
  | _, _, _, _, _ => fallLoad P t g o W := rfl
theorem run_load_c5 (g o : Nat) (W : World) : (loadRow 31 (.pointer (some ⟨g, o, none⟩))).run Try.prog W = c5Load Try.prog 31 g o W := by
  unfold c5Load loadRow
  split
  · rename_i a b c d e h0 h1 h2 h3 h4
    exact run_loadAt_mid (P := Try.prog) W g o 31 [a, b, c, d, e] _ (fun j v hj => by
      have h5 : j < 5 := by have := (List.getElem?_eq_some_iff.1 hj).1; simpa using this
      have h6 : j = 0 ∨ j = 1 ∨ j = 2 ∨ j = 3 ∨ j = 4 := by omega
      rcases h6 with rfl | rfl | rfl | rfl | rfl <;> (simp at hj; subst hj; assumption)) Try.underlying31 rfl (by kernel_rfl)
  · simp [Instr.loadAt, Instr.sureAddr, fallLoad]
def c3Load (P : Program) (t g o : Nat) (W : World) : Result Value := match W.cell? ⟨g, o, none⟩, W.cell? ⟨g, o + 1, none⟩, W.cell? ⟨g, o + 2, none⟩ with
  | some a, some b, some c => .ok (.agg #[a, b, c]) W
  | _, _, _ => fallLoad P t g o W
theorem c3Load_eq (P : Program) (t g o : Nat) (W : World) : c3Load P t g o W = match W.cell? ⟨g, o, none⟩, W.cell? ⟨g, o + 1, none⟩, W.cell? ⟨g, o + 2, none⟩ with
  | some a, some b, some c => .ok (.agg #[a, b, c]) W
  | _, _, _ => fallLoad P t g o W := rfl
theorem run_load_c3 (g o : Nat) (W : World) : (loadRow 29 (.pointer (some ⟨g, o, none⟩))).run Try.prog W = c3Load Try.prog 29 g o W := by
  unfold c3Load loadRow
  split
  · rename_i a b c h0 h1 h2
    exact run_loadAt_mid (P := Try.prog) W g o 29 [a, b, c] _ (fun j v hj => by
      have h5 : j < 3 := by have := (List.getElem?_eq_some_iff.1 hj).1; simpa using this
      have h6 : j = 0 ∨ j = 1 ∨ j = 2 := by omega
      rcases h6 with rfl | rfl | rfl <;> (simp at hj; subst hj; assumption)) Try.underlying29 rfl (by kernel_rfl)
  · simp [Instr.loadAt, Instr.sureAddr, fallLoad]
theorem eqL_refl (l : List Int) : eqL l l = true := decide_eq_true rfl
theorem pc6x (a b c d e f : Value) : piece #[a, b, c, d, e, f] 0 6 = #[a, b, c, d, e, f] := rfl
/-! what is covered -/
theorem cov_shape (t : List Int) (px py : Int) : ∃ x0 x1 e0 e1 e2 : Int, covV t px py = [x0, x1, e0, e1, e2] ∧ rcovV t px py = [e0, e1, e2] ∧ (covT t px py = true → x0 = px ∧ x1 = py) ∧ (covT t px py = false → x0 = 0 ∧ x1 = 0 ∧ e0 = 0 ∧ e1 = 0 ∧ e2 = 0) := by
  unfold covV rcovV
  cases covT t px py
  · exact ⟨0, 0, 0, 0, 0, by simp [no5], by simp, by simp, by simp⟩
  · exact ⟨px, py, _, _, _, by simp [hitL]; exact ⟨rfl, rfl, rfl⟩, by simp [edL], by simp, by simp⟩
theorem hits_len (u : List Int) {s y x : Nat} (hs : s ≤ 32) (hy : y ≤ 32) (hx : x ≤ 32) : ((rowsP s y ++ lineP x y).filterMap (hitO u)).length ≤ 2048 := by
  have h1 := List.length_filterMap_le (hitO u) (rowsP s y ++ lineP x y)
  have h2 : y * s ≤ 32 * 32 := Nat.mul_le_mul hy hs
  have h3 : (lineP x y).length = x := by simp [lineP]
  rw [List.length_append, rowsP_len, h3] at h1
  omega
theorem rows_nil (u : List Int) (s : Nat) : (rowsP s 0).filterMap (hitO u) = [] := rfl
theorem line_nil (s y : Nat) : rowsP s y ++ lineP 0 y = rowsP s y := by simp [lineP]
theorem pix_in {t : List Int} {fw fh : Int} (h : 1 ≤ fw ∧ fw ≤ 32 ∧ 1 ≤ fh ∧ fh ≤ 32) (hb : turnedB t = true) : pixV t fw fh = (rowsP fw.toNat fh.toNat).filterMap (hitO (turnedV t)) := by
  unfold pixV frameP
  rw [if_pos hb, if_pos (show frameB fw fh = true from decide_eq_true h)]
theorem pix_out {t : List Int} {fw fh : Int} (h : ¬ ((1 ≤ fw ∧ fw ≤ 32 ∧ 1 ≤ fh ∧ fh ≤ 32) ∧ turnedB t = true)) : pixV t fw fh = [] := by
  unfold pixV frameP
  by_cases hb : turnedB t = true
  · rw [if_pos hb, if_neg]
    · rfl
    · intro e
      exact h ⟨of_decide_eq_true (p := _ ∧ _) e, hb⟩
  · rw [if_neg hb]
theorem hit_yes {u : List Int} {x y : Nat} {x0 x1 e0 e1 e2 : Int} (hc : covT u x y = true) (hv : covV u x y = [x0, x1, e0, e1, e2]) (h0 : x0 = x) (h1 : x1 = y) : hitO u ((x : Int), (y : Int)) = some [(x : Int), (y : Int), e0, e1, e2] := by
  unfold hitO
  unfold covV at hv
  simp only [hc, if_true] at hv ⊢
  rw [hv, h0, h1]
theorem hit_no {u : List Int} {x y : Nat} (hc : covT u x y = false) : hitO u ((x : Int), (y : Int)) = none := by
  unfold hitO
  simp [hc]
theorem cut_take {t : List Int} {fw fh : Int} {k : Nat} (h : k ≤ (pixV t fw fh).length) : cutV t fw fh (k : Int) = (pixV t fw fh).take k := by
  by_cases e : k = (pixV t fw fh).length
  · rw [cut_not fun i hi => by omega, e, List.take_length]
  · unfold cutV
    rw [if_pos (show cutB t fw fh (k : Int) = true from decide_eq_true ⟨by omega, by omega⟩)]
    rfl
theorem at_take {r : HRow} {k i : Nat} (h : i < k) : at_ (r.take k) i = at_ r i := by
  unfold at_
  rw [List.getD_eq_getElem?_getD, List.getElem?_take_of_lt h, List.getD_eq_getElem?_getD]
attribute [local go_sem ↓] load_tri store_tri load_w3 store_w3 load_spot store_spot load_hit store_hit
attribute [local go_sem] one_int c3Load_eq c5Load_eq eqL_refl pc6x run_load_spot run_load_tri run_load_c3 run_load_c5 run_store_tri run_store_w3 run_store_spot run_store_hit rowLoad_eq rowStore_eq midLoad_eq ext0 ext1 ext2 blk_alloc_at blk_alloc_old blk_drew blk_drewN blk_set_far blk_set_far' blk_grow setRow_alloc_at setRow_alloc_old setRow_drew setRow_drewN all_map
attribute [local go_sem ↓] eq_hit eq_w3e
set_option maxHeartbeats 8000000 in
theorem tells_out (t : List Int) (hl : t.length = 18) (fw fh px py most : Int) (w : World) (hw1 : -9223372036854775808 ≤ fw) (hw2 : fw ≤ 9223372036854775807) (hh1 : -9223372036854775808 ≤ fh) (hh2 : fh ≤ 9223372036854775807) (hm1 : -9223372036854775808 ≤ most) (hm2 : most ≤ 9223372036854775807) (hx1 : -9223372036854775808 ≤ px) (hx2 : px ≤ 9223372036854775807) (hy1 : -9223372036854775808 ≤ py) (hy2 : py ≤ 9223372036854775807) (ho : ¬ (smallB t = true ∧ (-100 ≤ px ∧ px ≤ 100) ∧ -100 ≤ py ∧ py ≤ 100)) :
    Calls Try.prog 3 #[.agg (cs .i64 t), .int .i64 fw, .int .i64 fh, .int .i64 px, .int .i64 py, .int .i64 most] w fun e w' => e = .returned (.bool true) ∧ Below w.heap.size w w' := by
  have CS : Hid (∀ X : World, Calls Try.prog 8 #[.agg (cs .i64 t)] X fun e w' => e = .returned (.bool (smallB t)) ∧ Below X.heap.size X w') := Lib.hid fun X => small_any t hl X
  obtain ⟨q, eq⟩ : ∃ q, smallB t = q := ⟨_, rfl⟩
  rw [eq] at CS ho
  clear eq
  cases q
  case false =>
    clear ho
    go_enter Try.func3, Try.ntmps3
    go_wp2_with fail
    refine (CS.out _).mono ?_
    rintro e w1 ⟨rfl, hb⟩
    have L1 : Below w.heap.size w w1 := by repeat' (first | (with_reducible exact Below.refl _ _) | (with_reducible refine Rd.below_step ?_ (by assumption)) | (with_reducible refine Rd.below_alloc ?_ _) | (with_reducible refine Rd.below_drewN ?_ _) | (with_reducible refine Below.drew ?_) | (with_reducible refine Below.setCell ?_ ?_ _) | (with_reducible refine Rd.below_setRow ?_ ?_ _) | go_size | (simp only [World.size_alloc]; omega) | omega)
    clear hb
    go_wp2_with fail
    refine (awake_any _).mono ?_
    rintro e w2 ⟨rfl, hb⟩
    have L2 : Below w.heap.size w w2 := L1.trans (hb.mono L1.size)
    clear hb
    go_wp2
    go_ret
    exact ⟨rfl, L2⟩
  case true =>
    by_cases h0 : px < -100
    · have d0 : decide (px < -100) = true := decide_eq_true h0
      clear ho h0
      go_enter Try.func3, Try.ntmps3
      go_wp2_with fail
      refine (CS.out _).mono ?_
      rintro e w1 ⟨rfl, hb⟩
      have L1 : Below w.heap.size w w1 := by repeat' (first | (with_reducible exact Below.refl _ _) | (with_reducible refine Rd.below_step ?_ (by assumption)) | (with_reducible refine Rd.below_alloc ?_ _) | (with_reducible refine Rd.below_drewN ?_ _) | (with_reducible refine Below.drew ?_) | (with_reducible refine Below.setCell ?_ ?_ _) | (with_reducible refine Rd.below_setRow ?_ ?_ _) | go_size | (simp only [World.size_alloc]; omega) | omega)
      clear hb
      go_wp2_with fail
      refine (awake_any _).mono ?_
      rintro e w2 ⟨rfl, hb⟩
      have L2 : Below w.heap.size w w2 := L1.trans (hb.mono L1.size)
      clear hb
      go_wp2
      go_ret
      exact ⟨rfl, L2⟩
    have d0 : decide (px < -100) = false := decide_eq_false h0
    by_cases h1 : 100 < px
    · have d1 : decide (100 < px) = true := decide_eq_true h1
      clear ho h0 h1
      go_enter Try.func3, Try.ntmps3
      go_wp2_with fail
      refine (CS.out _).mono ?_
      rintro e w1 ⟨rfl, hb⟩
      have L1 : Below w.heap.size w w1 := by repeat' (first | (with_reducible exact Below.refl _ _) | (with_reducible refine Rd.below_step ?_ (by assumption)) | (with_reducible refine Rd.below_alloc ?_ _) | (with_reducible refine Rd.below_drewN ?_ _) | (with_reducible refine Below.drew ?_) | (with_reducible refine Below.setCell ?_ ?_ _) | (with_reducible refine Rd.below_setRow ?_ ?_ _) | go_size | (simp only [World.size_alloc]; omega) | omega)
      clear hb
      go_wp2_with fail
      refine (awake_any _).mono ?_
      rintro e w2 ⟨rfl, hb⟩
      have L2 : Below w.heap.size w w2 := L1.trans (hb.mono L1.size)
      clear hb
      go_wp2
      go_ret
      exact ⟨rfl, L2⟩
    have d1 : decide (100 < px) = false := decide_eq_false h1
    by_cases h2 : py < -100
    · have d2 : decide (py < -100) = true := decide_eq_true h2
      clear ho h0 h1 h2
      go_enter Try.func3, Try.ntmps3
      go_wp2_with fail
      refine (CS.out _).mono ?_
      rintro e w1 ⟨rfl, hb⟩
      have L1 : Below w.heap.size w w1 := by repeat' (first | (with_reducible exact Below.refl _ _) | (with_reducible refine Rd.below_step ?_ (by assumption)) | (with_reducible refine Rd.below_alloc ?_ _) | (with_reducible refine Rd.below_drewN ?_ _) | (with_reducible refine Below.drew ?_) | (with_reducible refine Below.setCell ?_ ?_ _) | (with_reducible refine Rd.below_setRow ?_ ?_ _) | go_size | (simp only [World.size_alloc]; omega) | omega)
      clear hb
      go_wp2_with fail
      refine (awake_any _).mono ?_
      rintro e w2 ⟨rfl, hb⟩
      have L2 : Below w.heap.size w w2 := L1.trans (hb.mono L1.size)
      clear hb
      go_wp2
      go_ret
      exact ⟨rfl, L2⟩
    have d2 : decide (py < -100) = false := decide_eq_false h2
    have h3 : 100 < py := by
      rcases Int.lt_or_le 100 py with h | h
      · exact h
      · exact absurd ⟨rfl, ⟨by omega, by omega⟩, by omega, h⟩ ho
    have d3 : decide (100 < py) = true := decide_eq_true h3
    clear ho h0 h1 h2 h3
    go_enter Try.func3, Try.ntmps3
    go_wp2_with fail
    refine (CS.out _).mono ?_
    rintro e w1 ⟨rfl, hb⟩
    have L1 : Below w.heap.size w w1 := by repeat' (first | (with_reducible exact Below.refl _ _) | (with_reducible refine Rd.below_step ?_ (by assumption)) | (with_reducible refine Rd.below_alloc ?_ _) | (with_reducible refine Rd.below_drewN ?_ _) | (with_reducible refine Below.drew ?_) | (with_reducible refine Below.setCell ?_ ?_ _) | (with_reducible refine Rd.below_setRow ?_ ?_ _) | go_size | (simp only [World.size_alloc]; omega) | omega)
    clear hb
    go_wp2_with fail
    refine (awake_any _).mono ?_
    rintro e w2 ⟨rfl, hb⟩
    have L2 : Below w.heap.size w w2 := L1.trans (hb.mono L1.size)
    clear hb
    go_wp2
    go_ret
    exact ⟨rfl, L2⟩
set_option maxHeartbeats 16000000 in
theorem tells_in (t : List Int) (hl : t.length = 18) (fw fh px py most : Int) (w : World) (hw1 : -9223372036854775808 ≤ fw) (hw2 : fw ≤ 9223372036854775807) (hh1 : -9223372036854775808 ≤ fh) (hh2 : fh ≤ 9223372036854775807) (hm1 : -9223372036854775808 ≤ most) (hm2 : most ≤ 9223372036854775807) (h : Tri t) (hS : smallB t = true) (hx1 : -100 ≤ px) (hx2 : px ≤ 100) (hy1 : -100 ≤ py) (hy2 : py ≤ 100) :
    Calls Try.prog 3 #[.agg (cs .i64 t), .int .i64 fw, .int .i64 fh, .int .i64 px, .int .i64 py, .int .i64 most] w fun e w' => e = .returned (.bool true) ∧ Below w.heap.size w w' := by
  obtain ⟨u, eu⟩ : ∃ u, turnedV t = u := ⟨_, rfl⟩
  have hu : u.length = 18 := eu ▸ turned_len hl
  obtain ⟨is, ei⟩ : ∃ b, turnedB t = b := ⟨_, rfl⟩
  obtain ⟨m, em⟩ : ∃ b, covT t px py = b := ⟨_, rfl⟩
  obtain ⟨x0, x1, e0, e1, e2, ec, er, ht, hf⟩ := cov_shape t px py
  rw [em] at ht hf
  obtain ⟨a, ea⟩ : ∃ a, area t = a := ⟨_, rfl⟩
  obtain ⟨sd_, es⟩ : ∃ a, ed2 t px py = a := ⟨_, rfl⟩
  have hpx : Pt px := ⟨by omega, by omega⟩
  have hpy : Pt py := ⟨by omega, by omega⟩
  have CS : Hid (∀ X : World, Calls Try.prog 8 #[.agg (cs .i64 t)] X fun e w' => e = .returned (.bool true) ∧ Below X.heap.size X w') := Lib.hid fun X => by
    have := small_any t hl X
    rw [hS] at this
    exact this
  have CT : Hid (∀ X : World, Calls Try.prog 10 #[.agg (cs .i64 t)] X fun e w' => e = .returned (.tuple #[.agg (cs .i64 u), .bool is]) ∧ Below X.heap.size X w') := Lib.hid fun X => by
    have := turned_any t h X
    rw [eu, ei] at this
    exact this
  have CRT : Hid (∀ X : World, Calls Try.prog 11 #[.agg (cs .i64 t)] X fun e w' => e = .returned (.tuple #[.agg (cs .i64 u), .bool is]) ∧ Below X.heap.size X w') := Lib.hid fun X => by
    have := rturned_any t h X
    rw [eu, ei] at this
    exact this
  have CC : Hid (∀ X : World, Calls Try.prog 12 #[.agg (cs .i64 t), .int .i64 px, .int .i64 py] X fun e w' => e = .returned (.tuple #[.agg #[.int .i64 x0, .int .i64 x1, .int .i64 e0, .int .i64 e1, .int .i64 e2], .bool m]) ∧ Below X.heap.size X w') := Lib.hid fun X => by
    have := covers_any t h px py hx1 hx2 hy1 hy2 X
    rw [ec, em] at this
    exact this
  have CRC : Hid (∀ X : World, Calls Try.prog 13 #[.agg (cs .i64 t), .int .i64 px, .int .i64 py] X fun e w' => e = .returned (.tuple #[.agg #[.int .i64 e0, .int .i64 e1, .int .i64 e2], .bool m]) ∧ Below X.heap.size X w') := Lib.hid fun X => by
    have := rcovers_any t h px py hx1 hx2 hy1 hy2 X
    rw [er, em] at this
    exact this
  have CA : Hid (∀ X : World, Calls Try.prog 14 #[.agg (cs .i64 t)] X fun e w' => e = .returned (.int .i64 a) ∧ Below X.heap.size X w') := Lib.hid fun X => by
    have := area_any t h X
    rw [ea] at this
    exact this
  have CRA : Hid (∀ X : World, Calls Try.prog 15 #[.agg (cs .i64 t)] X fun e w' => e = .returned (.int .i64 a) ∧ Below X.heap.size X w') := Lib.hid fun X => by
    have := rarea_any t h X
    rw [ea] at this
    exact this
  have CSD : Hid (∀ X : World, Calls Try.prog 16 #[.agg (cs .i64 (sp t 0)), .agg (cs .i64 (sp t 1)), .int .i64 px, .int .i64 py] X fun e w' => e = .returned (.int .i64 sd_) ∧ Below X.heap.size X w') := Lib.hid fun X => by
    have := side01 t h px py hpx hpy X
    rw [es] at this
    exact this
  have CRS : Hid (∀ X : World, Calls Try.prog 17 #[.agg (cs .i64 (sp t 0)), .agg (cs .i64 (sp t 1)), .int .i64 px, .int .i64 py] X fun e w' => e = .returned (.int .i64 sd_) ∧ Below X.heap.size X w') := Lib.hid fun X => by
    have := rside01 t h px py hpx hpy X
    rw [es] at this
    exact this
  have EU := Lib.hid eu
  have EI := Lib.hid ei
  have HT := Lib.hid ht
  have HF := Lib.hid hf
  have HQ : Hid (∀ X : World, (Op.equalIn 10000 24 (.agg (cs .i64 u)) (.agg (cs .i64 u))).run Try.prog X = .ok true X) := Lib.hid fun X => by rw [eq_triL u u hu hu X, eqL_refl]
  have l0 := sp_len hl 0 (by omega)
  have l1 := sp_len hl 1 (by omega)
  clear eu ei em ec er ht hf ea es hpx hpy
  have d0 : decide (px < -100) = false := decide_eq_false (by omega)
  have d1 : decide (100 < px) = false := decide_eq_false (by omega)
  have d2 : decide (py < -100) = false := decide_eq_false (by omega)
  have d3 : decide (100 < py) = false := decide_eq_false (by omega)
  go_enter Try.func3, Try.ntmps3
  go_wp2_with fail
  refine (CS.out _).mono ?_
  rintro e w1 ⟨rfl, hb⟩
  have bT : blk w1 w.heap.size = some (.cells (cs .i64 t) 24 (0, 0)) := (blk_below hb _ (by simp)).trans (blk_alloc_at _ _ _ rfl)
  have L1 : Below w.heap.size w w1 := by repeat' (first | (with_reducible exact Below.refl _ _) | (with_reducible refine Rd.below_step ?_ (by assumption)) | (with_reducible refine Rd.below_alloc ?_ _) | (with_reducible refine Rd.below_drewN ?_ _) | (with_reducible refine Below.drew ?_) | (with_reducible refine Below.setCell ?_ ?_ _) | (with_reducible refine Rd.below_setRow ?_ ?_ _) | go_size | (simp only [World.size_alloc]; omega) | omega)
  clear hb CS
  go_wp2_with fail
  refine (CT.out _).mono ?_
  rintro e w2 ⟨rfl, hb⟩
  replace bT := (blk_below hb _ (blk_lt bT)).trans bT
  have L2 : Below w.heap.size w w2 := L1.trans (hb.mono L1.size)
  clear hb L1
  go_upto_region 4 with (fail)
  refine Rd.name_world ?_
  intro w3 hw
  have hb : Below w2.heap.size w2 w3 := by
    rw [hw]
    repeat' (first | (with_reducible exact Below.refl _ _) | (with_reducible refine Rd.below_step ?_ (by assumption)) | (with_reducible refine Rd.below_alloc ?_ _) | (with_reducible refine Rd.below_drewN ?_ _) | (with_reducible refine Below.drew ?_) | (with_reducible refine Below.setCell ?_ ?_ _) | (with_reducible refine Rd.below_setRow ?_ ?_ _) | go_size | (simp only [World.size_alloc]; omega) | omega)
  replace bT := (blk_below hb _ (blk_lt bT)).trans bT
  have bA : blk w3 w2.heap.size = some (.cells (cs .i64 u) 24 (0, 0)) := by rw [hw]; exact blk_alloc_at _ _ _ rfl
  have L3 : Below w.heap.size w w3 := L2.trans (hb.mono L2.size)
  obtain ⟨pA, hp⟩ : ∃ p, w2.heap.size = p := ⟨_, rfl⟩
  rw [hp] at bA ⊢
  clear hw hb L2 hp
  clear d0 d1 d2 d3
  go_wp2_with fail
  refine (CRT.out _).mono ?_
  rintro e w4 ⟨rfl, hb⟩
  replace bT := (blk_below hb _ (blk_lt bT)).trans bT
  replace bA := (blk_below hb _ (blk_lt bA)).trans bA
  have L4 : Below w.heap.size w w4 := L3.trans (hb.mono L3.size)
  clear hb L3
  go_upto_region 5 with (fail)
  refine Rd.name_world ?_
  intro w5 hw
  have hb : Below w4.heap.size w4 w5 := by
    rw [hw]
    repeat' (first | (with_reducible exact Below.refl _ _) | (with_reducible refine Rd.below_step ?_ (by assumption)) | (with_reducible refine Rd.below_alloc ?_ _) | (with_reducible refine Rd.below_drewN ?_ _) | (with_reducible refine Below.drew ?_) | (with_reducible refine Below.setCell ?_ ?_ _) | (with_reducible refine Rd.below_setRow ?_ ?_ _) | go_size | (simp only [World.size_alloc]; omega) | omega)
  replace bT := (blk_below hb _ (blk_lt bT)).trans bT
  replace bA := (blk_below hb _ (blk_lt bA)).trans bA
  have bB : blk w5 w4.heap.size = some (.cells (cs .i64 u) 24 (0, 0)) := by rw [hw]; exact blk_alloc_at _ _ _ rfl
  have L5 : Below w.heap.size w w5 := L4.trans (hb.mono L4.size)
  obtain ⟨pB, hp⟩ : ∃ p, w4.heap.size = p := ⟨_, rfl⟩
  rw [hp] at bB ⊢
  clear hw hb L4 hp
  go_wp2_with fail
  refine (CC.out _).mono ?_
  rintro e w6 ⟨rfl, hb⟩
  replace bT := (blk_below hb _ (blk_lt bT)).trans bT
  replace bA := (blk_below hb _ (blk_lt bA)).trans bA
  replace bB := (blk_below hb _ (blk_lt bB)).trans bB
  have L6 : Below w.heap.size w w6 := L5.trans (hb.mono L5.size)
  clear hb L5
  go_upto_region 6 with (fail)
  refine Rd.name_world ?_
  intro w7 hw
  have hb : Below w6.heap.size w6 w7 := by
    rw [hw]
    repeat' (first | (with_reducible exact Below.refl _ _) | (with_reducible refine Rd.below_step ?_ (by assumption)) | (with_reducible refine Rd.below_alloc ?_ _) | (with_reducible refine Rd.below_drewN ?_ _) | (with_reducible refine Below.drew ?_) | (with_reducible refine Below.setCell ?_ ?_ _) | (with_reducible refine Rd.below_setRow ?_ ?_ _) | go_size | (simp only [World.size_alloc]; omega) | omega)
  replace bT := (blk_below hb _ (blk_lt bT)).trans bT
  replace bA := (blk_below hb _ (blk_lt bA)).trans bA
  replace bB := (blk_below hb _ (blk_lt bB)).trans bB
  have bH : blk w7 w6.heap.size = some (.cells #[.int .i64 x0, .int .i64 x1, .int .i64 e0, .int .i64 e1, .int .i64 e2] 31 (0, 0)) := by rw [hw]; exact blk_alloc_at _ _ _ rfl
  have L7 : Below w.heap.size w w7 := L6.trans (hb.mono L6.size)
  obtain ⟨pH, hp⟩ : ∃ p, w6.heap.size = p := ⟨_, rfl⟩
  rw [hp] at bH ⊢
  clear hw hb L6 hp
  go_wp2_with fail
  refine (CRC.out _).mono ?_
  rintro e w8 ⟨rfl, hb⟩
  replace bT := (blk_below hb _ (blk_lt bT)).trans bT
  replace bA := (blk_below hb _ (blk_lt bA)).trans bA
  replace bB := (blk_below hb _ (blk_lt bB)).trans bB
  replace bH := (blk_below hb _ (blk_lt bH)).trans bH
  have L8 : Below w.heap.size w w8 := L7.trans (hb.mono L7.size)
  clear hb L7
  go_upto_region 7 with (fail)
  refine Rd.name_world ?_
  intro w9 hw
  have hb : Below w8.heap.size w8 w9 := by
    rw [hw]
    repeat' (first | (with_reducible exact Below.refl _ _) | (with_reducible refine Rd.below_step ?_ (by assumption)) | (with_reducible refine Rd.below_alloc ?_ _) | (with_reducible refine Rd.below_drewN ?_ _) | (with_reducible refine Below.drew ?_) | (with_reducible refine Below.setCell ?_ ?_ _) | (with_reducible refine Rd.below_setRow ?_ ?_ _) | go_size | (simp only [World.size_alloc]; omega) | omega)
  replace bT := (blk_below hb _ (blk_lt bT)).trans bT
  replace bA := (blk_below hb _ (blk_lt bA)).trans bA
  replace bB := (blk_below hb _ (blk_lt bB)).trans bB
  replace bH := (blk_below hb _ (blk_lt bH)).trans bH
  have bE : blk w9 w8.heap.size = some (.cells #[.int .i64 e0, .int .i64 e1, .int .i64 e2] 29 (0, 0)) := by rw [hw]; exact blk_alloc_at _ _ _ rfl
  have L9 : Below w.heap.size w w9 := L8.trans (hb.mono L8.size)
  obtain ⟨pE, hp⟩ : ∃ p, w8.heap.size = p := ⟨_, rfl⟩
  rw [hp] at bE ⊢
  clear hw hb L8 hp
  go_cut [140] from 74 to 140 (fun c X => c = .bool false ∧ Below w9.heap.size w9 X)
  case first =>
    have lT := blk_lt bT
    have lA := blk_lt bA
    have lB := blk_lt bB
    have hq := HQ.out
    have g0 := Go.cell_regrown (w := w9) (a := ⟨pH, 0, none⟩) (v := .int .i64 x0) (by rw [blk_cell bH]; rfl)
    have g1 := Go.cell_regrown (w := w9) (a := ⟨pH, 1, none⟩) (v := .int .i64 x1) (by rw [blk_cell bH]; rfl)
    have g2 := Go.cell_regrown (w := w9) (a := ⟨pH, 2, none⟩) (v := .int .i64 e0) (by rw [blk_cell bH]; rfl)
    have g3 := Go.cell_regrown (w := w9) (a := ⟨pH, 3, none⟩) (v := .int .i64 e1) (by rw [blk_cell bH]; rfl)
    have g4 := Go.cell_regrown (w := w9) (a := ⟨pH, 4, none⟩) (v := .int .i64 e2) (by rw [blk_cell bH]; rfl)
    have r0 := Go.cell_regrown (w := w9) (a := ⟨pE, 0, none⟩) (v := .int .i64 e0) (by rw [blk_cell bE]; rfl)
    have r1 := Go.cell_regrown (w := w9) (a := ⟨pE, 1, none⟩) (v := .int .i64 e1) (by rw [blk_cell bE]; rfl)
    have r2 := Go.cell_regrown (w := w9) (a := ⟨pE, 2, none⟩) (v := .int .i64 e2) (by rw [blk_cell bE]; rfl)
    clear bH bE EU EI HQ
    cases m
    case false =>
      obtain ⟨rfl, rfl, rfl, rfl, rfl⟩ := HF.out rfl
      clear HT HF
      simp only [List.append_eq, List.cons_append, List.nil_append]
      refine wp_region_quiet_below (by kernel_rfl) ?_ ?_
      · refine Lex.lex_of 72 (by as_aux_lemma => kernel_rfl) (by as_aux_lemma => kernel_rfl) ?_
        refine Lex.upto_more (a := 64) 8 ?_ (by as_aux_lemma => kernel_rfl)
        refine Lex.upto_more (a := 56) 8 ?_ (by as_aux_lemma => kernel_rfl)
        refine Lex.upto_more (a := 48) 8 ?_ (by as_aux_lemma => kernel_rfl)
        refine Lex.upto_more (a := 40) 8 ?_ (by as_aux_lemma => kernel_rfl)
        refine Lex.upto_more (a := 32) 8 ?_ (by as_aux_lemma => kernel_rfl)
        refine Lex.upto_more (a := 24) 8 ?_ (by as_aux_lemma => kernel_rfl)
        refine Lex.upto_more (a := 16) 8 ?_ (by as_aux_lemma => kernel_rfl)
        refine Lex.upto_more (a := 8) 8 ?_ (by as_aux_lemma => kernel_rfl)
        refine Lex.upto_more (a := 0) 8 ?_ (by as_aux_lemma => kernel_rfl)
        exact Lex.upto_zero _ _
      iterate 10 go_big_quiet_step ((first | (with_reducible exact Calls.regrown_of (CA.out _)) | (with_reducible exact Calls.regrown_of (CRA.out _)) | (with_reducible exact Calls.regrown_of (CSD.out _)) | (with_reducible exact Calls.regrown_of (CRS.out _))))
      as_aux_lemma =>
       iterate 10 go_big_quiet_step ((first | (with_reducible exact Calls.regrown_of (CA.out _)) | (with_reducible exact Calls.regrown_of (CRA.out _)) | (with_reducible exact Calls.regrown_of (CSD.out _)) | (with_reducible exact Calls.regrown_of (CRS.out _))))
       as_aux_lemma =>
        iterate 10 go_big_quiet_step ((first | (with_reducible exact Calls.regrown_of (CA.out _)) | (with_reducible exact Calls.regrown_of (CRA.out _)) | (with_reducible exact Calls.regrown_of (CSD.out _)) | (with_reducible exact Calls.regrown_of (CRS.out _))))
        as_aux_lemma =>
         iterate 10 go_big_quiet_step ((first | (with_reducible exact Calls.regrown_of (CA.out _)) | (with_reducible exact Calls.regrown_of (CRA.out _)) | (with_reducible exact Calls.regrown_of (CSD.out _)) | (with_reducible exact Calls.regrown_of (CRS.out _))))
         as_aux_lemma =>
          iterate 10 go_big_quiet_step ((first | (with_reducible exact Calls.regrown_of (CA.out _)) | (with_reducible exact Calls.regrown_of (CRA.out _)) | (with_reducible exact Calls.regrown_of (CSD.out _)) | (with_reducible exact Calls.regrown_of (CRS.out _))))
          as_aux_lemma =>
           iterate 10 go_big_quiet_step ((first | (with_reducible exact Calls.regrown_of (CA.out _)) | (with_reducible exact Calls.regrown_of (CRA.out _)) | (with_reducible exact Calls.regrown_of (CSD.out _)) | (with_reducible exact Calls.regrown_of (CRS.out _))))
           as_aux_lemma =>
            iterate 7 go_big_quiet_step ((first | (with_reducible exact Calls.regrown_of (CA.out _)) | (with_reducible exact Calls.regrown_of (CRA.out _)) | (with_reducible exact Calls.regrown_of (CSD.out _)) | (with_reducible exact Calls.regrown_of (CRS.out _))))
            as_aux_lemma =>
             refine wpQuiet_nil ?_
             intro U hU
             have KU := Rd.below_of_regrown hU
             clear hU
             go_wp2
             go_meet
             exact ⟨rfl, KU⟩
    
    case true =>
      obtain ⟨rfl, rfl⟩ := HT.out rfl
      clear HT HF
      simp only [List.append_eq, List.cons_append, List.nil_append]
      refine wp_region_quiet_below (by kernel_rfl) ?_ ?_
      · refine Lex.lex_of 72 (by as_aux_lemma => kernel_rfl) (by as_aux_lemma => kernel_rfl) ?_
        refine Lex.upto_more (a := 64) 8 ?_ (by as_aux_lemma => kernel_rfl)
        refine Lex.upto_more (a := 56) 8 ?_ (by as_aux_lemma => kernel_rfl)
        refine Lex.upto_more (a := 48) 8 ?_ (by as_aux_lemma => kernel_rfl)
        refine Lex.upto_more (a := 40) 8 ?_ (by as_aux_lemma => kernel_rfl)
        refine Lex.upto_more (a := 32) 8 ?_ (by as_aux_lemma => kernel_rfl)
        refine Lex.upto_more (a := 24) 8 ?_ (by as_aux_lemma => kernel_rfl)
        refine Lex.upto_more (a := 16) 8 ?_ (by as_aux_lemma => kernel_rfl)
        refine Lex.upto_more (a := 8) 8 ?_ (by as_aux_lemma => kernel_rfl)
        refine Lex.upto_more (a := 0) 8 ?_ (by as_aux_lemma => kernel_rfl)
        exact Lex.upto_zero _ _
      iterate 10 go_big_quiet_step ((first | (with_reducible exact Calls.regrown_of (CA.out _)) | (with_reducible exact Calls.regrown_of (CRA.out _)) | (with_reducible exact Calls.regrown_of (CSD.out _)) | (with_reducible exact Calls.regrown_of (CRS.out _))))
      as_aux_lemma =>
       iterate 10 go_big_quiet_step ((first | (with_reducible exact Calls.regrown_of (CA.out _)) | (with_reducible exact Calls.regrown_of (CRA.out _)) | (with_reducible exact Calls.regrown_of (CSD.out _)) | (with_reducible exact Calls.regrown_of (CRS.out _))))
       as_aux_lemma =>
        iterate 10 go_big_quiet_step ((first | (with_reducible exact Calls.regrown_of (CA.out _)) | (with_reducible exact Calls.regrown_of (CRA.out _)) | (with_reducible exact Calls.regrown_of (CSD.out _)) | (with_reducible exact Calls.regrown_of (CRS.out _))))
        as_aux_lemma =>
         iterate 10 go_big_quiet_step ((first | (with_reducible exact Calls.regrown_of (CA.out _)) | (with_reducible exact Calls.regrown_of (CRA.out _)) | (with_reducible exact Calls.regrown_of (CSD.out _)) | (with_reducible exact Calls.regrown_of (CRS.out _))))
         as_aux_lemma =>
          iterate 10 go_big_quiet_step ((first | (with_reducible exact Calls.regrown_of (CA.out _)) | (with_reducible exact Calls.regrown_of (CRA.out _)) | (with_reducible exact Calls.regrown_of (CSD.out _)) | (with_reducible exact Calls.regrown_of (CRS.out _))))
          as_aux_lemma =>
           iterate 10 go_big_quiet_step ((first | (with_reducible exact Calls.regrown_of (CA.out _)) | (with_reducible exact Calls.regrown_of (CRA.out _)) | (with_reducible exact Calls.regrown_of (CSD.out _)) | (with_reducible exact Calls.regrown_of (CRS.out _))))
           as_aux_lemma =>
            iterate 7 go_big_quiet_step ((first | (with_reducible exact Calls.regrown_of (CA.out _)) | (with_reducible exact Calls.regrown_of (CRA.out _)) | (with_reducible exact Calls.regrown_of (CSD.out _)) | (with_reducible exact Calls.regrown_of (CRS.out _))))
            as_aux_lemma =>
             refine wpQuiet_nil ?_
             intro U hU
             have KU := Rd.below_of_regrown hU
             clear hU
             go_wp2
             go_meet
             exact ⟨rfl, KU⟩
  case rest =>
  obtain ⟨rfl, hB7⟩ := hcut
  obtain ⟨wv, e9⟩ : ∃ z : World, z = wc := ⟨_, rfl⟩
  subst e9
  clear bA bH bE
  replace bT := (blk_below hB7 _ (blk_lt bT)).trans bT
  replace bB := (blk_below hB7 _ (blk_lt bB)).trans bB
  have LV : Below w.heap.size w wv := L9.trans (hB7.mono L9.size)
  clear hB7 L9 CA CRA CSD CRS HQ HT HF CT CRT CC CRC
  have lB := blk_lt bB
  go_upto_block 0 with (fail)
  go_cut [21] from 141 to 184 (fun v X => Hid (X.ownsRow wv.heap.size 31 5 v (pixV t fw fh).length (fl (pixV t fw fh))) ∧ Below wv.heap.size wv X)
  case first =>
    go_wp2_with fail
    by_cases hin : (1 ≤ fw ∧ fw ≤ 32 ∧ 1 ≤ fh ∧ fh ≤ 32) ∧ is = true
    · obtain ⟨hin, rfl⟩ := hin
      have HPX := Lib.hid (pix_in hin EI.out)
      rw [EU.out] at HPX
      have hTu : Tri u := EU.out ▸ (h.turned EI.out).1
      obtain ⟨a1, a2, a3, a4⟩ := hin
      obtain ⟨s, es⟩ : ∃ s : Nat, fw.toNat = s := ⟨_, rfl⟩
      obtain ⟨n, en⟩ : ∃ n : Nat, fh.toNat = n := ⟨_, rfl⟩
      rw [es, en] at HPX
      have s1 : (s : Int) ≤ fw := by omega
      have s2 : fw ≤ (s : Int) := by omega
      have n1 : (n : Int) ≤ fh := by omega
      have n2 : fh ≤ (n : Int) := by omega
      clear es en
      have k1 : decide (1 ≤ fw) = true := decide_eq_true a1
      have k2 : decide (fw ≤ 32) = true := decide_eq_true a2
      have k3 : decide (fh ≤ 32) = true := decide_eq_true a4
      go_loopw [21, 22] (fun v i X => ∃ y : Nat, (y : Int) ≤ fh ∧ i = .int .i64 y ∧ Hid (X.ownsRow wv.heap.size 31 5 v ((rowsP s y).filterMap (hitO u)).length (fl ((rowsP s y).filterMap (hitO u)))) ∧ Below wv.heap.size wv X) (fun _ i _ => n - (intOf i).toNat)
      case atStart => exact ⟨0, by omega, rfl, Lib.hid (World.ownsRow_nil _ _ _ _), Below.refl _ _⟩
      case round =>
        obtain ⟨y, hy, rfl, HO, hb⟩ := hrel
        rename World => X
        obtain ⟨wa, cw, ev, -, -⟩ := owns_val HO.out
        subst ev
        by_cases hlt : (y : Int) < fh
        · have c1 : decide ((y : Int) < fh) = true := decide_eq_true hlt
          have c2 : decide ((y : Int) < 32) = true := decide_eq_true (by omega)
          have yN : y < n := by omega
          go_wp2_with fail
          go_loopw [21, 23] (fun v i Y => ∃ x : Nat, (x : Int) ≤ fw ∧ i = .int .i64 x ∧ Hid (Y.ownsRow wv.heap.size 31 5 v ((rowsP s y ++ lineP x y).filterMap (hitO u)).length (fl ((rowsP s y ++ lineP x y).filterMap (hitO u)))) ∧ Below wv.heap.size wv Y) (fun _ i _ => s - (intOf i).toNat)
          case atStart => exact ⟨0, by omega, rfl, by rw [line_nil]; exact HO, hb⟩
          case round =>
            clear HO hb
            obtain ⟨x, hx, rfl, HO, hb⟩ := hrel
            rename World => Y
            obtain ⟨va, cv, ev, -, -⟩ := owns_val HO.out
            subst ev
            by_cases hxl : (x : Int) < fw
            · have c3 : decide ((x : Int) < fw) = true := decide_eq_true hxl
              have hlen := hits_len u (s := s) (y := y) (x := x) (by omega) (by omega) (by omega)
              obtain ⟨len, eL⟩ : ∃ len, ((rowsP s y ++ lineP x y).filterMap (hitO u)).length = len := ⟨_, rfl⟩
              rw [eL] at HO hlen ⊢
              have EL := Lib.hid eL
              clear eL
              obtain ⟨f0, f1, o0, o1, o2, fc, fr, ft, ff⟩ := cov_shape u (x : Int) (y : Int)
              obtain ⟨b, ebq⟩ : ∃ b, covT u (x : Int) (y : Int) = b := ⟨_, rfl⟩
              rw [ebq] at ft ff
              have CRC : Hid (∀ Z : World, Calls Try.prog 13 #[.agg (cs .i64 u), .int .i64 (x : Int), .int .i64 (y : Int)] Z fun e w' => e = .returned (.tuple #[.agg #[.int .i64 o0, .int .i64 o1, .int .i64 o2], .bool b]) ∧ Below Z.heap.size Z w') := Lib.hid fun Z => by
                have := rcovers_any u hTu (x : Int) (y : Int) (by omega) (by omega) (by omega) (by omega) Z
                rw [fr, ebq] at this
                exact this
              have bY := (blk_below hb _ lB).trans bB
              have EB := Lib.hid ebq
              have FC := Lib.hid fc
              have FT := Lib.hid ft
              have hyx := yN
              clear fr ff ebq fc ft
              go_wp2_with fail
              refine (CRC.out _).mono ?_
              rintro e y1 ⟨rfl, hb1⟩
              have HO1 := Lib.hid (owns_below HO.out hb1)
              have LY1 : Below wv.heap.size wv y1 := hb.trans (hb1.mono hb.size)
              clear hb1 HO hb bY CRC
              go_upto_region 17 with (fail)
              refine Rd.name_world ?_
              intro y2 hw
              have bO : blk y2 y1.heap.size = some (.cells #[.int .i64 o0, .int .i64 o1, .int .i64 o2] 29 (0, 0)) := by rw [hw]; exact blk_alloc_at _ _ _ rfl
              have HO2 : Hid (y2.ownsRow wv.heap.size 31 5 (.slice va len cv) len (fl ((rowsP s y ++ lineP x y).filterMap (hitO u)))) := by
                rw [hw]
                exact Lib.hid (HO1.out.alloc _)
              have LY2 : Below wv.heap.size wv y2 := by
                rw [hw]
                have := LY1.size
                repeat' (first | (with_reducible exact Below.refl _ _) | (with_reducible refine Rd.below_step ?_ (by assumption)) | (with_reducible refine Rd.below_alloc ?_ _) | (with_reducible refine Rd.below_drewN ?_ _) | (with_reducible refine Below.drew ?_) | (with_reducible refine Below.setCell ?_ ?_ _) | (with_reducible refine Rd.below_setRow ?_ ?_ _) | go_size | (simp only [World.size_alloc]; omega) | omega)
              obtain ⟨pq, hpq⟩ : ∃ p, y1.heap.size = p := ⟨_, rfl⟩
              rw [hpq] at bO ⊢
              clear hw hpq HO1 LY1
              cases b
              · have HN := Lib.hid (pre_hit0 (pre := rowsP s y ++ lineP x y) (hit_no EB.out))
                rw [List.append_assoc, ← line_succ] at HN
                clear bO
                go_wp2
                exact ⟨⟨x + 1, by omega, by go_num, Lib.hid (by rw [HN.out, EL.out]; exact HO2.out), LY2⟩, by simp [intOf]; omega⟩
              · obtain ⟨u0, u1⟩ := FT.out rfl
                have HN := Lib.hid (pre_hit1 (pre := rowsP s y ++ lineP x y) (hit_yes EB.out FC.out u0 u1))
                rw [List.append_assoc, ← line_succ] at HN
                clear u0 u1 FC FT
                have j0 : y2.cell? ⟨pq, 0, none⟩ = some (.int .i64 o0) := by rw [blk_cell bO]; rfl
                have j1 : y2.cell? ⟨pq, 1, none⟩ = some (.int .i64 o1) := by rw [blk_cell bO]; rfl
                have j2 : y2.cell? ⟨pq, 2, none⟩ = some (.int .i64 o2) := by rw [blk_cell bO]; rfl
                have hz2 := LY2.size
                clear bO
                go_wp2_with (at_builtin; refine app_hit rfl (.tmp 178) (.tmp 183) rfl wv.heap.size _ _ _ rfl (HO2.out.alloc _) y2.heap.size 1 [(x : Int), (y : Int), o0, o1, o2] rfl rfl (blk_alloc_at _ _ _ rfl) (by omega) (by simp; omega) ?_; intro v4 y4 ho4 hg4)
                have L4 : Below wv.heap.size wv y4 := (LY2.alloc (by omega) _).grown hg4 (by simp; omega) (fun j hj => (HO2.out.lt j hj).1)
                exact ⟨⟨x + 1, by omega, by go_num, Lib.hid (by rw [HN.out, List.length_append, EL.out]; exact ho4), L4⟩, by simp [intOf]; omega⟩
            · obtain rfl : x = s := by omega
              have c3 : decide ((x : Int) < fw) = false := decide_eq_false hxl
              go_wp2
              exact ⟨⟨y + 1, by omega, by go_num, HO, hb⟩, by simp [intOf]; omega⟩
        · obtain rfl : y = n := by omega
          have c1 : decide ((y : Int) < fh) = false := decide_eq_false hlt
          go_wp2
          go_meet
          exact ⟨by rw [HPX.out]; exact HO, hb⟩
    · have HPX := Lib.hid (pix_out (t := t) (fw := fw) (fh := fh) (by rw [EI.out]; exact hin))
      have HFin : Hid (wv.ownsRow wv.heap.size 31 5 (.slice none 0 0) (pixV t fw fh).length (fl (pixV t fw fh))) := by rw [HPX.out]; exact Lib.hid (World.ownsRow_nil _ _ _ _)
      go_loopw [21, 22] (fun v i X => v = .slice none 0 0 ∧ i = .int .i64 0 ∧ X = wv) (fun _ _ _ => 0)
      case atStart => exact ⟨rfl, rfl, rfl⟩
      case round =>
        obtain ⟨rfl, rfl, rfl⟩ := hrel
        by_cases z1 : 0 < fh
        · have j1 : decide (0 < fh) = true := decide_eq_true z1
          by_cases z2 : 1 ≤ fw
          · have j2 : decide (1 ≤ fw) = true := decide_eq_true z2
            by_cases z3 : fw ≤ 32
            · have j3 : decide (fw ≤ 32) = true := decide_eq_true z3
              by_cases z4 : fh ≤ 32
              · have j4 : decide (fh ≤ 32) = true := decide_eq_true z4
                cases is
                · go_wp2
                  go_meet
                  exact ⟨HFin, Below.refl _ _⟩
                · exact absurd ⟨⟨z2, z3, by omega, z4⟩, rfl⟩ hin
              · have j4 : decide (fh ≤ 32) = false := decide_eq_false z4
                go_wp2
                go_meet
                exact ⟨HFin, Below.refl _ _⟩
            · have j3 : decide (fw ≤ 32) = false := decide_eq_false z3
              go_wp2
              go_meet
              exact ⟨HFin, Below.refl _ _⟩
          · have j2 : decide (1 ≤ fw) = false := decide_eq_false z2
            go_wp2
            go_meet
            exact ⟨HFin, Below.refl _ _⟩
        · have j1 : decide (0 < fh) = false := decide_eq_false z1
          go_wp2
          go_meet
          exact ⟨HFin, Below.refl _ _⟩
  case rest =>
  obtain ⟨HO, hB⟩ := hcut
  obtain ⟨w10, e10⟩ : ∃ z : World, z = wc := ⟨_, rfl⟩
  subst e10
  obtain ⟨wa, cw, ev, -, -⟩ := owns_val HO.out
  subst ev
  have HW : Hid (HitAt w10 wa (pixV t fw fh)) := Lib.hid (hitAt_owns HO.out pix_five).2
  have hN := pix_small t fw fh
  replace bT := (blk_below hB _ (blk_lt bT)).trans bT
  have L10 : Below w.heap.size w w10 := LV.trans (hB.mono LV.size)
  obtain ⟨N, eN⟩ : ∃ N, (pixV t fw fh).length = N := ⟨_, rfl⟩
  have EN := Lib.hid eN
  rw [eN] at hN ⊢
  clear eN HO hB bB LV lB
  have CL : Hid (∀ X : World, Calls Try.prog 18 #[.agg (cs .i64 t), .int .i64 fw, .int .i64 fh, .int .i64 (-1)] X fun e w' => (∃ a c, e = .returned (.slice a N c) ∧ HitAt w' a (pixV t fw fh)) ∧ Below X.heap.size X w') := Lib.hid fun X => by
    have := all32 t h fw fh X
    rw [EN.out] at this
    exact this
  obtain ⟨k, hk⟩ : ∃ k : Nat, (k : Int) = most % ((N : Int) + 1) := ⟨(most % ((N : Int) + 1)).toNat, Int.toNat_of_nonneg (Int.emod_nonneg _ (by omega))⟩
  have hkN : k ≤ N := by have := Int.emod_lt_of_pos most (b := (N : Int) + 1) (by omega); omega
  have CR : Hid (∀ X : World, Calls Try.prog 19 #[.int .i64 most, .int .i64 ((N : Int) + 1)] X fun e w' => e = .returned (.int .i64 (k : Int)) ∧ X = w') := Lib.hid fun X => by
    have := Alk.round_any most ((N : Int) + 1) X hm1 hm2 (by omega) (by omega)
    rw [← hk] at this
    exact this
  have CK : Hid (∀ X : World, Calls Try.prog 18 #[.agg (cs .i64 t), .int .i64 fw, .int .i64 fh, .int .i64 (k : Int)] X fun e w' => (∃ a c, e = .returned (.slice a k c) ∧ HitAt w' a ((pixV t fw fh).take k)) ∧ Below X.heap.size X w') := Lib.hid fun X => by
    have := lall_any t h fw fh (k : Int) X
    rw [cut_take (by rw [EN.out]; exact hkN), List.length_take, EN.out, Nat.min_eq_left hkN] at this
    exact this
  clear hk
  go_wp2_with fail
  refine (CL.out _).mono ?_
  rintro e w11 ⟨⟨la, lc, rfl, HL⟩, hb⟩
  replace HL := Lib.hid HL
  replace HW := Lib.hid (HitAt.below (B := 0) HW.out hb)
  replace bT := (blk_below hb _ (blk_lt bT)).trans bT
  have L11 : Below w.heap.size w w11 := L10.trans (hb.mono L10.size)
  clear hb L10 CL
  go_wp2_with fail
  refine (CR.out _).mono ?_
  rintro e _ ⟨rfl, rfl⟩
  clear CR
  go_wp2_with fail
  refine (CK.out _).mono ?_
  rintro e w12 ⟨⟨sa, sc, rfl, HS⟩, hb⟩
  replace HS := Lib.hid HS
  replace HL := Lib.hid (HitAt.below (B := 0) HL.out hb)
  replace HW := Lib.hid (HitAt.below (B := 0) HW.out hb)
  have L12 : Below w.heap.size w w12 := L11.trans (hb.mono L11.size)
  clear hb L11 CK bT
  go_wp2_with fail
  go_loopw [29] (fun i X => ∃ j : Nat, j ≤ N ∧ i = .int .i64 j ∧ Below w12.heap.size w12 X) (fun i _ => N - (intOf i).toNat)
  case atStart => exact ⟨0, by omega, rfl, Below.refl _ _⟩
  case round =>
    obtain ⟨j, hj, rfl, hb⟩ := hrel
    rename World => X
    by_cases hlt : j < N
    · have hlt' : (j : Int) < N := by omega
      obtain ⟨gx, ox, ex, b1, c1⟩ := hit_some HL.out (by rw [EN.out]; omega)
      obtain ⟨gw, ow, ew, b2, c2⟩ := hit_some HW.out (by rw [EN.out]; omega)
      subst ex ew
      have hp : j < (pixV t fw fh).length := by rw [EN.out]; exact hlt
      obtain ⟨q0, q1, q2, q3, q4, eq⟩ := len5 (v := at_ (pixV t fw fh) j) (by rw [at_eq hp]; exact pix_five _ (List.getElem_mem hp))
      obtain ⟨f0, f1, f2, f3, f4⟩ := hit_five_at c1 hb b1 hp eq
      obtain ⟨y0, y1, y2, y3, y4⟩ := hit_five_at c2 hb b2 hp eq
      clear c1 c2 b1 b2 hp
      by_cases hjk : j < k
      · obtain ⟨gs, os, es, b3, c3⟩ := hit_some HS.out (by rw [List.length_take, EN.out]; omega)
        subst es
        obtain ⟨z0, z1, z2, z3, z4⟩ := hit_five_at c3 hb b3 (show j < ((pixV t fw fh).take k).length by rw [List.length_take, EN.out]; omega) (by rw [at_take hjk]; exact eq)
        have dk : decide (j < k) = true := decide_eq_true hjk
        clear c3 b3 eq
        as_aux_lemma =>
        go_wp2_with fail
        refine wp_region_quiet_lit (by kernel_rfl) (by kernel_rfl) ?_
        iterate 25 go_big_quiet_step (fail)
        refine wpQuiet_nil ?_
        intro _ hU
        obtain ⟨nq, hU'⟩ := hU
        subst hU'
        have L6 : Below w12.heap.size w12 (X.drewN nq) := Rd.below_drewN hb nq
        clear hb f0 f1 f2 f3 f4 y0 y1 y2 y3 y4 z0 z1 z2 z3 z4
        go_wp2
        exact ⟨⟨j + 1, by omega, by go_num, L6⟩, by simp [intOf]; omega⟩
      · have dk : decide (j < k) = false := decide_eq_false hjk
        clear eq
        as_aux_lemma =>
        go_wp2_with fail
        refine wp_region_quiet_lit (by kernel_rfl) (by kernel_rfl) ?_
        iterate 25 go_big_quiet_step (fail)
        refine wpQuiet_nil ?_
        intro _ hU
        obtain ⟨nq, hU'⟩ := hU
        subst hU'
        have L6 : Below w12.heap.size w12 (X.drewN nq) := Rd.below_drewN hb nq
        clear hb f0 f1 f2 f3 f4 y0 y1 y2 y3 y4
        go_wp2
        exact ⟨⟨j + 1, by omega, by go_num, L6⟩, by simp [intOf]; omega⟩
    · obtain rfl : j = N := by omega
      have LY : Below w.heap.size w X := L12.trans (hb.mono L12.size)
      go_wp2_with fail
      refine (awake_any _).mono ?_
      rintro e w13 ⟨rfl, hb5⟩
      have L13 : Below w.heap.size w w13 := LY.trans (hb5.mono LY.size)
      clear hb5
      go_wp2
      go_ret
      exact ⟨rfl, L13⟩
theorem tells_gen (t : List Int) (hl : t.length = 18) (fw fh px py most : Int) (w : World) (hw1 : -9223372036854775808 ≤ fw) (hw2 : fw ≤ 9223372036854775807) (hh1 : -9223372036854775808 ≤ fh) (hh2 : fh ≤ 9223372036854775807) (hm1 : -9223372036854775808 ≤ most) (hm2 : most ≤ 9223372036854775807) (hx1 : -9223372036854775808 ≤ px) (hx2 : px ≤ 9223372036854775807) (hy1 : -9223372036854775808 ≤ py) (hy2 : py ≤ 9223372036854775807) :
    Calls Try.prog 3 #[.agg (cs .i64 t), .int .i64 fw, .int .i64 fh, .int .i64 px, .int .i64 py, .int .i64 most] w fun e w' => e = .returned (.bool true) ∧ Below w.heap.size w w' := by
  by_cases hb : smallB t = true ∧ (-100 ≤ px ∧ px ≤ 100) ∧ -100 ≤ py ∧ py ≤ 100
  · exact tells_in t hl fw fh px py most w hw1 hw2 hh1 hh2 hm1 hm2 (small_tri hl hb.1) hb.1 hb.2.1.1 hb.2.1.2 hb.2.2.1 hb.2.2.2
  · exact tells_out t hl fw fh px py most w hw1 hw2 hh1 hh2 hm1 hm2 hx1 hx2 hy1 hy2 hb
end Go.Proofs.Ythkfnjblmilgnaa.EdV

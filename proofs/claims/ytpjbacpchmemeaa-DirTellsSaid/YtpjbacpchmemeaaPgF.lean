/-
  The page at a place.
-/
import Derived.Test.YtpjbacpchmemeaaPgE
namespace Go.Proofs.Ytpjbacpchmemeaa.PgF
open Go.RowKit Go.Shelf Rd Go.Proofs.Ytpjbacpchmemeaa.Row Mid PgM PgA PgB PgC It PgD PgE
open Go.Proofs.Ytpjbacpchmemeaa.Num (ret_int ret_bool)
set_option linter.unusedVariables false
set_option linter.unusedSimpArgs false
set_option maxRecDepth 10000
attribute [local go_sem] Oper.semAt_some
attribute [local go_sem ↓] load_pg store_pg
attribute [local go_sem] one_int pc3 run_load_pg run_store_pg midLoad_eq rowLoad_eq rowStore_eq blk_alloc_at blk_alloc_old blk_drew blk_drewN blk_set_far blk_set_far' blk_grow setRow_alloc_at setRow_alloc_old setRow_drew setRow_drewN
def atB (d key : Int) : Bool := decide (0 ≤ key ∧ key < countV d)
def atV (d key : Int) : List Int := if 0 ≤ key ∧ key < countV d then at_ (allV d) key.toNat else [0, 0, 0]
theorem at_found {d key : Int} {q : PgM.Row} {x : List Int} (h : q ++ [x] <+: allV d) (hk : (q.length : Int) = key) : atB d key = true ∧ atV d key = x := by
  have hl := h.length_le
  have e := all_len d
  simp only [List.length_append, List.length_singleton] at hl
  have hr : 0 ≤ key ∧ key < countV d := by omega
  refine ⟨decide_eq_true hr, ?_⟩
  unfold atV
  rw [if_pos hr]
  have hq : key.toNat = q.length := by omega
  rw [hq]
  obtain ⟨t, ht⟩ := h
  rw [← ht]
  unfold at_
  simp
theorem at_missed {d key : Int} (h : ∀ i, i < (allV d).length → (i : Int) ≠ key) : atB d key = false ∧ atV d key = [0, 0, 0] := by
  have e := all_len d
  have hr : ¬ (0 ≤ key ∧ key < countV d) := fun ⟨a, b⟩ => h key.toNat (by omega) (by omega)
  exact ⟨decide_eq_false hr, if_neg hr⟩
/-- the named results of At lie in two boxes -/
structure AtEnd (w : World) (r : List Int) (o : Bool) (X : World) : Prop where
  below : Below w.heap.size w X
  page : blk X (w.heap.size + 1) = some (.cells (cs .i64 r) 25 (0, 0))
  ok : blk X (w.heap.size + 2) = some (.cells #[.bool o] 4 (0, 0))
structure AtRun (w : World) (d key : Int) (pre : PgM.Row) (X : World) : Prop where
  fin : AtEnd w [0, 0, 0] false X
  k : blk X w.heap.size = some (.cells #[.int .i64 key] 3 (0, 0))
  i : blk X (w.heap.size + 3) = some (.cells #[.int .i64 pre.length] 3 (0, 0))
  b : Box1 (w.heap.size + 4) (.int .i64 d) X
  not : ∀ i, i < pre.length → (i : Int) ≠ key
  size : w.heap.size + 5 ≤ X.heap.size
theorem below_grown {B b : Nat} {w X Y : World} {row : Option Nat} (h : Below b w X) (hg : X.grownBy Y row) (hb : b ≤ w.heap.size) (hr : ∀ r, row = some r → b ≤ r) : Below b w Y :=
  ⟨hg.os.trans h.os, hg.tape.trans h.tape, hg.output.trans h.output, Nat.le_trans h.size hg.size, fun k hk => (hg.block k (by have := h.size; omega) fun e => by have := hr k e.symm; omega).trans (h.block k hk)⟩
theorem blk_grown {X Y : World} {row : Option Nat} {k : Nat} {o : Obj} (h : blk X k = some o) (hg : X.grownBy Y row) (hr : ∀ r, row = some r → k < r) : blk Y k = some o :=
  (hg.block k (get_lt h) fun e => by have := hr k e.symm; omega).trans h
theorem AtEnd.grown {w : World} {r : List Int} {o : Bool} {X Y : World} {row : Option Nat} (h : AtEnd w r o X) (hg : X.grownBy Y row) (hr : ∀ r, row = some r → w.heap.size + 5 ≤ r) : AtEnd w r o Y :=
  ⟨below_grown (B := 0) h.below hg (Nat.le_refl _) fun r e => by have := hr r e; omega, blk_grown h.page hg fun r e => by have := hr r e; omega, blk_grown h.ok hg fun r e => by have := hr r e; omega⟩
theorem AtRun.grown {w : World} {d key : Int} {pre : PgM.Row} {X Y : World} {row : Option Nat} (h : AtRun w d key pre X) (hg : X.grownBy Y row) (hr : ∀ r, row = some r → w.heap.size + 5 ≤ r) : AtRun w d key pre Y :=
  ⟨h.fin.grown hg hr, blk_grown h.k hg fun r e => by have := hr r e; omega, blk_grown h.i hg fun r e => by have := hr r e; omega, blk_grown h.b hg fun r e => by have := hr r e; omega, h.not, Nat.le_trans h.size hg.size⟩
theorem at_results {fn : Func} (hf : fn.results = #[.cell 4 25, .cell 5 4]) {w X : World} {r : List Int} {o : Bool} (h : AtEnd w r o X) (hl : r.length = 3) (tmps : Array Value) (h4 : tmps.getD 4 undef = .pointer (some ⟨w.heap.size + 1, 0, none⟩)) (h5 : tmps.getD 5 undef = .pointer (some ⟨w.heap.size + 2, 0, none⟩)) :
    (results fn tmps).run Try.prog X = .ok (.tuple #[.agg (cs .i64 r), .bool o]) X := by
  have hp4 : tmps[4]?.getD undef = .pointer (some ⟨w.heap.size + 1, 0, none⟩) := by simpa using h4
  have hp5 : tmps[5]?.getD undef = .pointer (some ⟨w.heap.size + 2, 0, none⟩) := by simpa using h5
  have hl := run_loadVar_row (P := Try.prog) X _ _ 25 _ _ _ h.page Try.underlying25 rfl (by rw [info_pg]; simp [hl])
  have hc : X.cell? ⟨w.heap.size + 2, 0, none⟩ = some (.bool o) := by rw [blk_cell h.ok]; rfl
  have hb : (loadVar 4 ⟨w.heap.size + 2, 0, none⟩).run Try.prog X = .ok (.bool o) X := by
    simp [go_sem, hc]
  simp [results, hf, hp4, hp5, asAddr, hl, hb]
theorem at_start (w : World) (d key : Int) : AtRun w d key [] (((((w.alloc (.cells #[.int .i64 key] 3)).alloc (.cells #[.int .i64 0, .int .i64 0, .int .i64 0] 25)).alloc (.cells #[.bool false] 4)).alloc (.cells #[.int .i64 0] 3)).alloc (.cells #[.int .i64 d] 3)) := by
  have b : Below w.heap.size w (((((w.alloc (.cells #[.int .i64 key] 3)).alloc (.cells #[.int .i64 0, .int .i64 0, .int .i64 0] 25)).alloc (.cells #[.bool false] 4)).alloc (.cells #[.int .i64 0] 3)).alloc (.cells #[.int .i64 d] 3)) := by
    refine (((((Below.refl _ w).alloc ?_ _).alloc ?_ _).alloc ?_ _).alloc ?_ _).alloc ?_ _ <;> (try simp only [World.size_alloc]) <;> omega
  have O : ∀ (X : World) (o : Obj) (k : Nat) {p : Obj}, k < X.heap.size → blk X k = some p → blk (X.alloc o) k = some p := fun X o k p h e => (blk_alloc_old X o k h).trans e
  refine ⟨⟨b, ?_, ?_⟩, ?_, ?_, ?_, fun i hi => absurd hi (by simp), by simp⟩
  · exact O _ _ _ (by simp) (O _ _ _ (by simp) (O _ _ _ (by simp) (blk_alloc_at _ _ _ (by simp))))
  · exact O _ _ _ (by simp) (O _ _ _ (by simp) (blk_alloc_at _ _ _ (by simp)))
  · exact O _ _ _ (by simp; omega) (O _ _ _ (by simp; omega) (O _ _ _ (by simp; omega) (O _ _ _ (by simp) (blk_alloc_at _ _ _ rfl))))
  · exact O _ _ _ (by simp) (blk_alloc_at _ _ _ (by simp))
  · exact blk_alloc_at _ _ _ (by simp)
/-- the named results are set -/
theorem AtEnd.set {w X : World} {r r' : List Int} {o o' : Bool} (h : AtEnd w r o X) : AtEnd w r' o' ((X.setRow (w.heap.size + 1) (cs .i64 r')).setCell ⟨w.heap.size + 2, 0, none⟩ (.bool o')) := by
  have hk : blk (X.setRow (w.heap.size + 1) (cs .i64 r')) (w.heap.size + 2) = some (.cells #[.bool o] 4 (0, 0)) := by rw [blk_setRow_other _ _ _ _ (by omega)]; exact h.ok
  refine ⟨Below.setCell ?_ (by simp) _, ?_, ?_⟩
  · refine ⟨h.below.os, h.below.tape, h.below.output, by rw [size_setRow]; exact h.below.size, fun k hk => ?_⟩
    exact (blk_setRow_other _ _ _ _ (by omega)).trans (h.below.block k hk)
  · rw [blk_set_far _ _ _ _ (by simp)]
    exact blk_setRow_of h.page _
  · exact blk_set _ _ _ _ _ _ hk
theorem AtRun.step {w X : World} {d key : Int} {pre : PgM.Row} (h : AtRun w d key pre X) (x : List Int) (hne : (pre.length : Int) ≠ key) : AtRun w d key (pre ++ [x]) (X.setCell ⟨w.heap.size + 3, 0, none⟩ (.int .i64 ((pre.length : Int) + 1))) := by
  have e : ((pre ++ [x]).length : Int) = (pre.length : Int) + 1 := by simp
  refine ⟨⟨Below.setCell h.fin.below (by simp) _, ?_, ?_⟩, ?_, ?_, ?_, fun i hi => ?_, by simpa using h.size⟩
  · rw [blk_set_far _ _ _ _ (by simp)]; exact h.fin.page
  · rw [blk_set_far _ _ _ _ (by simp)]; exact h.fin.ok
  · rw [blk_set_far _ _ _ _ (by simp)]; exact h.k
  · rw [e]; exact blk_set _ _ _ _ _ _ h.i
  · exact (blk_set_far' _ _ _ _ (by simp)).trans h.b
  · by_cases hl : i < pre.length
    · exact h.not i hl
    · simp only [List.length_append, List.length_singleton] at hi
      rw [show i = pre.length by omega]
      exact hne
theorem hold_low {B : Nat} {own : Nat → Prop} {X Y : World} (hs : X.heap.size ≤ Y.heap.size) (h : ∀ k, B ≤ k → blk Y k = blk X k) : Hold B own X Y := ⟨hs, fun k hk _ _ => h k hk⟩
theorem cell_setRow_far {X : World} {g k : Nat} {v : Value} {t : TypeId} (h : blk X g = some (.cells #[v] t (0, 0))) (hk : g ≠ k) (c : Array Value) : (X.setRow k c).cell? ⟨g, 0, none⟩ = some v := by
  rw [blk_cell (show blk (X.setRow k c) g = some (.cells #[v] t (0, 0)) by rw [blk_setRow_other _ _ _ _ hk]; exact h)]; rfl
theorem frozen_setRow_far {X : World} {g k : Nat} {v : Value} {t : TypeId} (h : blk X g = some (.cells #[v] t (0, 0))) (hk : g ≠ k) (c : Array Value) : (X.setRow k c).frozen? ⟨g, 0, none⟩ = false :=
  blk_frozen (show blk (X.setRow k c) g = some (.cells #[v] t (0, 0)) by rw [blk_setRow_other _ _ _ _ hk]; exact h) 0
set_option maxHeartbeats 4000000 in
theorem at_any (d key : Int) (w : World) :
    Calls Try.prog 53 #[.int .i64 d, .int .i64 key] w fun e w' => e = .returned (.tuple #[.agg (cs .i64 (atV d key)), .bool (atB d key)]) ∧ Below w.heap.size w w' := by
  refine callsIn_wide.1 (callsIn_of_wp_marks (F := Fence.wide) (n := 0) Try.func53 rfl trivial ?_ rfl)
  simp only [Try.ntmps53, List.size_toArray, List.length_cons, List.length_nil, Nat.reduceAdd, Nat.reduceSub, Array.replicate_succ, Array.replicate_zero, List.push_toArray, List.append_toArray, List.nil_append, List.cons_append]
  gi_wp2_with fail
  refine ⟨trivial, rfl, (callsIn_wide.2 (all_any d _)).mono ?_⟩
  rintro e W1 ⟨rfl, hW1⟩
  have R0 : AtRun w d key [] W1 := by rw [hW1]; exact at_start w d key
  have hs1 : W1.heap.size = w.heap.size + 5 := by rw [hW1]; simp
  have hsz : (((w.alloc (.cells #[.int .i64 key] 3)).alloc (.cells #[.int .i64 0, .int .i64 0, .int .i64 0] 25)).alloc (.cells #[.bool false] 4)).heap.size + 1 = w.heap.size + 4 := by simp
  have HR0 := Lib.hid R0
  clear hW1 R0
  gi_wp2_with fail
  simp only [Nat.add_assoc, Nat.reduceAdd]
  refine range_seq (gf := 75) (lb := #[.pointer (some ⟨w.heap.size + 4, 0, none⟩)]) rfl enters_all (all_seq d (w.heap.size + 4)) (fun _ => rfl)
    (fun pre Z => AtRun w d key pre Z)
    (fun c pre Z => c = .ret ∧ ∃ q x, pre = q ++ [x] ∧ (q.length : Int) = key ∧ AtEnd w x true Z)
    (fun _ _ _ => False) ?hI ?hIx (mine_none _ _) (fun _ _ h => h.b) HR0.out ?round ?done ?stop
  case hI => exact fun s X Y row h hg hr => h.grown hg fun r e => by have := (hr r e).1; omega
  case hIx => exact fun c s X Y row ⟨h1, q, x, h2, h3, h4⟩ hg hr => ⟨h1, q, x, h2, h3, h4.grown hg fun r e => by have := (hr r e).1; omega⟩
  case round =>
    intro l' pre x Z hl' hrec hI hpre
    obtain ⟨x0, x1, x2, rfl⟩ := len3 (three_all _ x (pre_mem hpre))
    have HI := Lib.hid hI
    have hsm : pre.length < 85 := by
      have h1 := hpre.length_le
      have h2 := all_small d
      simp only [List.length_append, List.length_singleton] at h1
      omega
    have HPR := Lib.hid hpre
    obtain ⟨rr, hrr⟩ := hrec
    have hlz := get_lt hrr
    have HRR := Lib.hid hrr
    clear hI hpre hrr
    simp only [encP, cs, List.map_cons, List.map_nil]
    gi_wp2_with fail
    refine ⟨World.grownBy_alloc _ _ none, fun X2 hg hI2 hl2 => ?_⟩
    have c2 : blk X2 Z.heap.size = some (.cells #[.int .i64 x0, .int .i64 x1, .int .i64 x2] 25 (0, 0)) := (hg.block _ (by simp) (fun e => by injection e with e; omega)).trans (World.alloc_heap_new _ _)
    have HI2 := Lib.hid hI2
    have c3 : X2.cell? ⟨w.heap.size + 3, 0, none⟩ = some (.int .i64 pre.length) := by rw [blk_cell hI2.i]; rfl
    have c4 : X2.cell? ⟨w.heap.size, 0, none⟩ = some (.int .i64 key) := by rw [blk_cell hI2.k]; rfl
    have f3 := blk_frozen hI2.i 0
    have f5 := fun c => frozen_setRow_far hI2.fin.ok (show w.heap.size + 2 ≠ w.heap.size + 1 by omega) c
    have c5 := fun c => cell_setRow_far hI2.fin.ok (show w.heap.size + 2 ≠ w.heap.size + 1 by omega) c
    have b1 : blk X2 (w.heap.size + 1) = some (.cells #[.int .i64 0, .int .i64 0, .int .i64 0] 25 (0, 0)) := hI2.fin.page
    clear hg hI2 hl2
    by_cases hke : (pre.length : Int) = key
    · gi_wp2
      refine ⟨hold_low (by simp) fun k hk => ?_, rfl, pre, [x0, x1, x2], rfl, hke, HI2.out.fin.set⟩
      rw [blk_set_far' _ _ _ _ (by simp; omega), blk_setRow_other _ _ _ _ (by omega)]
    · gi_wp2
      refine ⟨hold_low (by simp) fun k hk => ?_, HI2.out.step _ hke, fun _ h _ => h.elim⟩
      rw [blk_set_far' _ _ _ _ (by simp; omega)]
  case done =>
    intro D Z hD hI hdef
    have HI := Lib.hid hI
    have f5 := fun c => frozen_setRow_far hI.fin.ok (show w.heap.size + 2 ≠ w.heap.size + 1 by omega) c
    have c5 := fun c => cell_setRow_far hI.fin.ok (show w.heap.size + 2 ≠ w.heap.size + 1 by omega) c
    have b1 : blk Z (w.heap.size + 1) = some (.cells #[.int .i64 0, .int .i64 0, .int .i64 0] 25 (0, 0)) := hI.fin.page
    clear hI
    gi_wp2
    have hm := at_missed HI.out.not
    refine leaves_marks (B := w.heap.size + 5) (fun Y => AtEnd w [0, 0, 0] false Y) (fun E Y hE hY he => hY.grown (grownBy_putObj' _ _ _) fun r e => by injection e with e; omega) (fun Y hY => ⟨_, at_results rfl hY rfl _ rfl rfl, by rw [hm.1, hm.2], hY.below⟩) [D] (by simp) _ HI.out.fin.set fun E hp => ?_
    obtain rfl : E = D := by simpa using hp
    refine ⟨by omega, ?_⟩
    exact ((blk_set_far' _ _ _ _ (by simp; omega)).trans (blk_setRow_other _ _ _ _ (by omega))).trans hdef
  case stop =>
    intro D c pre Z hD hpre hx hdef
    obtain ⟨rfl, q, x, rfl, hq, hx⟩ := hx
    have hm := at_found hpre hq
    have h3 := three_all d x (hpre.subset (by simp))
    gi_wp2_with fail
    refine leaves_marks (B := w.heap.size + 5) (fun Y => AtEnd w x true Y) (fun E Y hE hY he => hY.grown (grownBy_putObj' _ _ _) fun r e => by injection e with e; omega) (fun Y hY => ⟨_, at_results rfl hY h3 _ rfl rfl, by rw [hm.1, hm.2], hY.below⟩) [D] (by simp) _ hx fun E hp => ?_
    obtain rfl : E = D := by simpa using hp
    exact ⟨by omega, hdef⟩
end Go.Proofs.Ytpjbacpchmemeaa.PgF

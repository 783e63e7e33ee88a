/-
  The queue: where a page stands; where a want belongs.
-/
import Derived.Test.YtpbdgkjlmijipaaQuF
namespace Go.Proofs.Ytpbdgkjlmijipaa.QuG
open Go.RowKit Go.Shelf Rd Go.Proofs.Ytpbdgkjlmijipaa.Row Mid PgM PgA PgB PgC QuA QuB QuC QuD QuE QuF It
open Go.Proofs.Ytpbdgkjlmijipaa.Num (ret_int ret_bool)
set_option linter.unusedVariables false
set_option linter.unusedSimpArgs false
set_option maxRecDepth 10000
attribute [local go_sem] Oper.semAt_some
attribute [local go_sem ↓] load_pg store_pg load_w store_w eq_pg3 eq_w4
attribute [local go_sem] one_int pc3 pc4 pc43 run_load_pg run_store_pg run_load_w run_store_w midLoad_eq rowLoad_eq rowStore_eq blk_alloc_at blk_alloc_old blk_drew blk_drewN blk_set_far blk_set_far' blk_grow setRow_alloc_at setRow_alloc_old setRow_drew setRow_drewN
def pgOf (x : List Int) : List Int := x.take 3
/-- how many stand ahead of a page -/
def idxP (r : PgM.Row) (pg : List Int) : Nat := (r.takeWhile fun y => !(decide (pgOf y = pg))).length
def fndV (r : PgM.Row) (pg : List Int) : Int := if idxP r pg < r.length then (idxP r pg : Int) else -1
theorem takeWhile_pre {f : List Int → Bool} {q : PgM.Row} {x : List Int} {r : PgM.Row} (h : q ++ [x] <+: r) (hq : ∀ y ∈ q, f y = true) (hx : f x = false) : (r.takeWhile f).length = q.length ∧ q.length < r.length := by
  obtain ⟨t, rfl⟩ := h
  constructor
  · rw [List.append_assoc, List.takeWhile_append_of_pos hq, List.length_append]
    simp [hx]
  · simp only [List.length_append, List.length_singleton]; omega
theorem takeWhile_whole {f : List Int → Bool} {r : PgM.Row} (h : ∀ y ∈ r, f y = true) : (r.takeWhile f).length = r.length := by
  have : r.takeWhile f = r := by
    have := List.takeWhile_append_of_pos (l₂ := []) h
    simpa using this
  rw [this]
theorem fnd_hit {r q : PgM.Row} {x pg : List Int} (h : q ++ [x] <+: r) (hq : ∀ y ∈ q, pgOf y ≠ pg) (hx : pgOf x = pg) : fndV r pg = (q.length : Int) := by
  obtain ⟨h1, h2⟩ := takeWhile_pre (f := fun y => !(decide (pgOf y = pg))) h (fun y hy => by simp [hq y hy]) (by simp [hx])
  unfold fndV idxP
  rw [h1, if_pos h2]
theorem fnd_not {r : PgM.Row} {pg : List Int} (h : ∀ y ∈ r, pgOf y ≠ pg) : fndV r pg = -1 := by
  have h1 := takeWhile_whole (f := fun y => !(decide (pgOf y = pg))) (r := r) (fun y hy => by simp [h y hy])
  unfold fndV idxP
  rw [h1, if_neg (by omega)]
structure FdEnd (w : World) (n : Int) (X : World) : Prop where
  below : Below w.heap.size w X
  res : blk X (w.heap.size + 1) = some (.cells #[.int .i64 n] 3 (0, 0))
structure FdRun (p : Option Addr) (w : World) (pg : List Int) (pre : PgM.Row) (X : World) : Prop where
  fin : FdEnd w 0 X
  page : blk X w.heap.size = some (.cells (cs .i64 pg) 24 (0, 0))
  at_ : blk X (w.heap.size + 2) = some (.cells #[.int .i64 pre.length] 3 (0, 0))
  b : BoxQ (w.heap.size + 3) p X
  not : ∀ y ∈ pre, pgOf y ≠ pg
  size : w.heap.size + 4 ≤ X.heap.size
theorem FdEnd.grown {w : World} {n : Int} {X Y : World} {row : Option Nat} (h : FdEnd w n X) (hg : X.grownBy Y row) (hr : ∀ r, row = some r → w.heap.size + 4 ≤ r) : FdEnd w n Y :=
  ⟨below_grown (B := 0) h.below hg (Nat.le_refl _) fun r e => by have := hr r e; omega, blk_grown h.res hg fun r e => by have := hr r e; omega⟩
theorem FdRun.grown {p : Option Addr} {w : World} {pg : List Int} {pre : PgM.Row} {X Y : World} {row : Option Nat} (h : FdRun p w pg pre X) (hg : X.grownBy Y row) (hr : ∀ r, row = some r → w.heap.size + 4 ≤ r) : FdRun p w pg pre Y :=
  ⟨h.fin.grown hg hr, blk_grown h.page hg fun r e => by have := hr r e; omega, blk_grown h.at_ hg fun r e => by have := hr r e; omega, blk_grown h.b hg fun r e => by have := hr r e; omega, h.not, Nat.le_trans h.size hg.size⟩
theorem fd_results {fn : Func} (hf : fn.results = #[.cell 4 3]) {w X : World} {n : Int} (h : FdEnd w n X) (tmps : Array Value) (h4 : tmps.getD 4 undef = .pointer (some ⟨w.heap.size + 1, 0, none⟩)) :
    (results fn tmps).run Try.prog X = .ok (.int .i64 n) X := by
  have hp4 : tmps[4]?.getD undef = .pointer (some ⟨w.heap.size + 1, 0, none⟩) := by simpa using h4
  have hc : X.cell? ⟨w.heap.size + 1, 0, none⟩ = some (.int .i64 n) := by rw [blk_cell h.res]; rfl
  have hb : (loadVar 3 ⟨w.heap.size + 1, 0, none⟩).run Try.prog X = .ok (.int .i64 n) X := by
    simp [go_sem, hc]
  simp [results, hf, hp4, asAddr, hb]
theorem fd_start (p : Option Addr) (w : World) (pg : List Int) : FdRun p w pg [] ((((w.alloc (.cells (cs .i64 pg) 24)).alloc (.cells #[.int .i64 0] 3)).alloc (.cells #[.int .i64 0] 3)).alloc (.cells #[.pointer p] 26)) := by
  have b : Below w.heap.size w ((((w.alloc (.cells (cs .i64 pg) 24)).alloc (.cells #[.int .i64 0] 3)).alloc (.cells #[.int .i64 0] 3)).alloc (.cells #[.pointer p] 26)) := by
    refine ((((Below.refl _ w).alloc ?_ _).alloc ?_ _).alloc ?_ _).alloc ?_ _ <;> (try simp only [World.size_alloc]) <;> omega
  have O : ∀ (X : World) (o : Obj) (k : Nat) {p : Obj}, k < X.heap.size → blk X k = some p → blk (X.alloc o) k = some p := fun X o k p h e => (blk_alloc_old X o k h).trans e
  refine ⟨⟨b, ?_⟩, ?_, ?_, ?_, fun y hy => absurd hy (by simp), by simp⟩
  · exact O _ _ _ (by simp <;> omega) (O _ _ _ (by simp <;> omega) (blk_alloc_at _ _ _ (by simp)))
  · exact O _ _ _ (by simp <;> omega) (O _ _ _ (by simp <;> omega) (O _ _ _ (by simp <;> omega) (blk_alloc_at _ _ _ rfl)))
  · exact O _ _ _ (by simp <;> omega) (blk_alloc_at _ _ _ (by simp))
  · exact blk_alloc_at _ _ _ (by simp)
theorem FdEnd.set {w X : World} {n : Int} (h : FdEnd w n X) (m : Int) : FdEnd w m (X.setCell ⟨w.heap.size + 1, 0, none⟩ (.int .i64 m)) :=
  ⟨Below.setCell h.below (by simp) _, blk_set _ _ _ _ _ _ h.res⟩
theorem FdRun.step {p : Option Addr} {w X : World} {pg : List Int} {pre : PgM.Row} (h : FdRun p w pg pre X) (x : List Int) (hne : pgOf x ≠ pg) : FdRun p w pg (pre ++ [x]) (X.setCell ⟨w.heap.size + 2, 0, none⟩ (.int .i64 ((pre.length : Int) + 1))) := by
  have e : ((pre ++ [x]).length : Int) = (pre.length : Int) + 1 := by simp
  refine ⟨⟨Below.setCell h.fin.below (by simp) _, ?_⟩, ?_, ?_, ?_, fun y hy => ?_, by simpa using h.size⟩
  · rw [blk_set_far _ _ _ _ (by simp)]; exact h.fin.res
  · rw [blk_set_far _ _ _ _ (by simp)]; exact h.page
  · rw [e]; exact blk_set _ _ _ _ _ _ h.at_
  · exact (blk_set_far' _ _ _ _ (by simp)).trans h.b
  · rcases List.mem_append.1 hy with h1 | h1
    · exact h.not y h1
    · rw [List.mem_singleton.1 h1]; exact hne
theorem hold_low {B : Nat} {own : Nat → Prop} {X Y : World} (hs : X.heap.size ≤ Y.heap.size) (h : ∀ k, B ≤ k → blk Y k = blk X k) : Hold B own X Y := ⟨hs, fun k hk _ _ => h k hk⟩
set_option maxHeartbeats 4000000 in
theorem find_gen (p : Option Addr) (xs : PgM.Row) (K : World → Prop) (w : World) (hsrc : ∀ b0 : Nat, Seq Try.prog 37 #[.pointer (some ⟨b0, 0, none⟩)] encW xs (fun X => (blk X b0 = some (.cells #[.pointer p] 26 (0, 0))) ∧ K X)) (hK : ∀ X, Below w.heap.size w X → K X) (hx : xs.length ≤ 100000) (h4 : W4 xs) (L X0 Y0 : Int) :
    Calls Try.prog 25 #[.pointer p, .agg #[.int .i64 L, .int .i64 X0, .int .i64 Y0]] w fun e w' => e = .returned (.int .i64 (fndV xs [L, X0, Y0])) ∧ Below w.heap.size w w' := by
  refine callsIn_wide.1 (callsIn_of_wp_marks (F := Fence.wide) (n := 0) Try.func25 rfl trivial ?_ rfl)
  simp only [Try.ntmps25, List.size_toArray, List.length_cons, List.length_nil, Nat.reduceAdd, Nat.reduceSub, Array.replicate_succ, Array.replicate_zero, List.push_toArray, List.append_toArray, List.nil_append, List.cons_append]
  gi_wp2_with fail
  refine ⟨trivial, rfl, (callsIn_wide.2 (all_any p _)).mono ?_⟩
  rintro e W1 ⟨rfl, hW1⟩
  have R0 : FdRun p w [L, X0, Y0] [] W1 := by rw [hW1]; exact fd_start p w [L, X0, Y0]
  have hs1 : W1.heap.size = w.heap.size + 4 := by rw [hW1]; simp
  have HR0 := Lib.hid R0
  have HSRC := Lib.hid hsrc
  have HKK := Lib.hid hK
  clear hW1 R0 hsrc hK
  gi_wp2_with fail
  simp only [World.size_alloc, Nat.add_assoc, Nat.reduceAdd]
  refine range_seq (gf := 37) (lb := #[.pointer (some ⟨w.heap.size + 3, 0, none⟩)]) rfl enters_all (HSRC.out (w.heap.size + 3)) (fun _ => rfl)
    (fun pre Z => FdRun p w [L, X0, Y0] pre Z)
    (fun c pre Z => c = .ret ∧ ∃ q x, pre = q ++ [x] ∧ pgOf x = [L, X0, Y0] ∧ (∀ y ∈ q, pgOf y ≠ [L, X0, Y0]) ∧ FdEnd w q.length Z)
    (fun _ _ _ => False) ?hI ?hIx (mine_none _ _) (fun _ _ h => ⟨h.b, HKK.out _ h.fin.below⟩) HR0.out ?round ?done ?stop
  case hI => exact fun s X Y row h hg hr => h.grown hg fun r e => by have := (hr r e).1; omega
  case hIx => exact fun c s X Y row ⟨h1, q, x, h2, h3, h5, h4⟩ hg hr => ⟨h1, q, x, h2, h3, h5, h4.grown hg fun r e => by have := (hr r e).1; omega⟩
  case round =>
    intro l' pre x Z hl' hrec hI hpre
    obtain ⟨x0, x1, x2, x3, rfl⟩ := len4 (h4 x (hpre.subset (by simp)))
    have HI := Lib.hid hI
    have hsm : pre.length < 100001 := by
      have h1 := hpre.length_le
      simp only [List.length_append, List.length_singleton] at h1
      omega
    have HPR := Lib.hid hpre
    obtain ⟨rr, hrr⟩ := hrec
    have hlz := get_lt hrr
    have HRR := Lib.hid hrr
    clear hI hpre hrr
    simp only [encW, cs, List.map_cons, List.map_nil]
    gi_wp2_with fail
    refine ⟨World.grownBy_alloc _ _ none, fun X2 hg hI2 hl2 => ?_⟩
    have c2 : blk X2 Z.heap.size = some (.cells #[.int .i64 x0, .int .i64 x1, .int .i64 x2, .int .i64 x3] 36 (0, 0)) := (hg.block _ (by simp) (fun e => by injection e with e; omega)).trans (World.alloc_heap_new _ _)
    have HI2 := Lib.hid hI2
    have c3 : X2.cell? ⟨w.heap.size + 2, 0, none⟩ = some (.int .i64 pre.length) := by rw [blk_cell hI2.at_]; rfl
    have f3 := blk_frozen hI2.at_ 0
    have f1 := blk_frozen hI2.fin.res 0
    have r1 : X2.cell? ⟨w.heap.size + 1, 0, none⟩ = some (.int .i64 0) := by rw [blk_cell hI2.fin.res]; rfl
    have b0 : blk X2 w.heap.size = some (.cells #[.int .i64 L, .int .i64 X0, .int .i64 Y0] 24 (0, 0)) := hI2.page
    clear hg hI2 hl2
    by_cases hke : pgOf [x0, x1, x2, x3] = [L, X0, Y0]
    · have he : eqL [x0, x1, x2] [L, X0, Y0] = true := decide_eq_true hke
      gi_wp2
      refine ⟨hold_low (by simp) fun k hk => ?_, rfl, pre, [x0, x1, x2, x3], rfl, hke, HI2.out.not, HI2.out.fin.set _⟩
      rw [blk_set_far' _ _ _ _ (by simp; omega)]
    · have he : eqL [x0, x1, x2] [L, X0, Y0] = false := decide_eq_false hke
      gi_wp2
      refine ⟨hold_low (by simp) fun k hk => ?_, HI2.out.step _ hke, fun _ h _ => h.elim⟩
      rw [blk_set_far' _ _ _ _ (by simp; omega)]
  case done =>
    intro D Z hD hI hdef
    have HI := Lib.hid hI
    have f1 := blk_frozen hI.fin.res 0
    have r1 : Z.cell? ⟨w.heap.size + 1, 0, none⟩ = some (.int .i64 0) := by rw [blk_cell hI.fin.res]; rfl
    clear hI
    gi_wp2
    have hm := fnd_not HI.out.not
    refine leaves_marks (B := w.heap.size + 4) (fun Y => FdEnd w (-1) Y) (fun E Y hE hY he => hY.grown (grownBy_putObj' _ _ _) fun r e => by injection e with e; omega) (fun Y hY => ⟨_, fd_results rfl hY _ rfl, by rw [hm], hY.below⟩) [D] (by simp) _ (HI.out.fin.set _) fun E hp => ?_
    obtain rfl : E = D := by simpa using hp
    exact ⟨by omega, (blk_set_far' _ _ _ _ (by simp; omega)).trans hdef⟩
  case stop =>
    intro D c pre Z hD hpre hx hdef
    obtain ⟨rfl, q, x, rfl, hq, hn, hx⟩ := hx
    have hm := fnd_hit hpre hn hq
    gi_wp2_with fail
    refine leaves_marks (B := w.heap.size + 4) (fun Y => FdEnd w q.length Y) (fun E Y hE hY he => hY.grown (grownBy_putObj' _ _ _) fun r e => by injection e with e; omega) (fun Y hY => ⟨_, fd_results rfl hY _ rfl, by rw [hm], hY.below⟩) [D] (by simp) _ hx fun E hp => ?_
    obtain rfl : E = D := by simpa using hp
    exact ⟨by omega, hdef⟩
theorem find_any (t base most d : Nat) (v : Value) (r : PgM.Row) (L X0 Y0 : Int) (w : World) (hq : Qu w t base most d v r) (hx : r.length ≤ 100000) :
    Calls Try.prog 25 #[.pointer (some ⟨t, 0, none⟩), .agg #[.int .i64 L, .int .i64 X0, .int .i64 Y0]] w fun e w' => e = .returned (.int .i64 (fndV r [L, X0, Y0])) ∧ Below w.heap.size w w' :=
  find_gen _ r (fun X => Qu X t base most d v r) w (fun b0 => all_seq b0 t base most d v r) (fun X h => hq.bel h) hx hq.w4 L X0 Y0
end Go.Proofs.Ytpbdgkjlmijipaa.QuG

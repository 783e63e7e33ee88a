/-
  The queue: where a want belongs.
-/
import Derived.Test.YtpbdgkjlmijipaaQuG
namespace Go.Proofs.Ytpbdgkjlmijipaa.QuH
open Go.RowKit Go.Shelf Rd Go.Proofs.Ytpbdgkjlmijipaa.Row Mid PgM PgA PgB PgC QuA QuB QuC QuD QuE QuF QuG It
open Go.Proofs.Ytpbdgkjlmijipaa.Num (ret_int ret_bool)
set_option linter.unusedVariables false
set_option linter.unusedSimpArgs false
set_option maxRecDepth 10000
attribute [local go_sem] Oper.semAt_some
attribute [local go_sem ↓] load_pg store_pg load_w store_w eq_pg3 eq_w4
attribute [local go_sem] one_int pc3 pc4 pc43 run_load_pg run_store_pg run_load_w run_store_w midLoad_eq rowLoad_eq rowStore_eq blk_alloc_at blk_alloc_old blk_drew blk_drewN blk_set_far blk_set_far' blk_grow setRow_alloc_at setRow_alloc_old setRow_drew setRow_drewN
def posV (d : Int) (r : PgM.Row) (x : List Int) : Nat := (r.takeWhile fun y => aheadB d y x).length
theorem pos_hit {d : Int} {r q : PgM.Row} {x y : List Int} (h : q ++ [y] <+: r) (hq : ∀ y ∈ q, aheadB d y x = true) (hx : aheadB d y x = false) : posV d r x = q.length := (takeWhile_pre h hq hx).1
theorem pos_not {d : Int} {r : PgM.Row} {x : List Int} (h : ∀ y ∈ r, aheadB d y x = true) : posV d r x = r.length := takeWhile_whole h
structure PlEnd (w : World) (n : Nat) (X : World) : Prop where
  below : Below w.heap.size w X
  at_ : blk X (w.heap.size + 2) = some (.cells #[.int .i64 n] 3 (0, 0))
structure PlRun (p : Option Addr) (d : Int) (w : World) (x : List Int) (pre : PgM.Row) (X : World) : Prop where
  fin : PlEnd w pre.length X
  q : blk X w.heap.size = some (.cells #[.pointer p] 26 (0, 0))
  want : blk X (w.heap.size + 1) = some (.cells (cs .i64 x) 36 (0, 0))
  b : BoxQ (w.heap.size + 3) p X
  all : ∀ y ∈ pre, aheadB d y x = true
  size : w.heap.size + 4 ≤ X.heap.size
theorem PlEnd.grown {w : World} {n : Nat} {X Y : World} {row : Option Nat} (h : PlEnd w n X) (hg : X.grownBy Y row) (hr : ∀ r, row = some r → w.heap.size + 4 ≤ r) : PlEnd w n Y :=
  ⟨below_grown (B := 0) h.below hg (Nat.le_refl _) fun r e => by have := hr r e; omega, blk_grown h.at_ hg fun r e => by have := hr r e; omega⟩
theorem PlRun.grown {p : Option Addr} {d : Int} {w : World} {x : List Int} {pre : PgM.Row} {X Y : World} {row : Option Nat} (h : PlRun p d w x pre X) (hg : X.grownBy Y row) (hr : ∀ r, row = some r → w.heap.size + 4 ≤ r) : PlRun p d w x pre Y :=
  ⟨h.fin.grown hg hr, blk_grown h.q hg fun r e => by have := hr r e; omega, blk_grown h.want hg fun r e => by have := hr r e; omega, blk_grown h.b hg fun r e => by have := hr r e; omega, h.all, Nat.le_trans h.size hg.size⟩
theorem pl_start (p : Option Addr) (d : Int) (w : World) (x : List Int) : PlRun p d w x [] ((((w.alloc (.cells #[.pointer p] 26)).alloc (.cells (cs .i64 x) 36)).alloc (.cells #[.int .i64 0] 3)).alloc (.cells #[.pointer p] 26)) := by
  have b : Below w.heap.size w ((((w.alloc (.cells #[.pointer p] 26)).alloc (.cells (cs .i64 x) 36)).alloc (.cells #[.int .i64 0] 3)).alloc (.cells #[.pointer p] 26)) := by
    refine ((((Below.refl _ w).alloc ?_ _).alloc ?_ _).alloc ?_ _).alloc ?_ _ <;> (try simp only [World.size_alloc]) <;> omega
  have O : ∀ (X : World) (o : Obj) (k : Nat) {p : Obj}, k < X.heap.size → blk X k = some p → blk (X.alloc o) k = some p := fun X o k p h e => (blk_alloc_old X o k h).trans e
  refine ⟨⟨b, ?_⟩, ?_, ?_, ?_, fun y hy => absurd hy (by simp), by simp⟩
  · exact O _ _ _ (by simp <;> omega) (blk_alloc_at _ _ _ (by simp))
  · exact O _ _ _ (by simp <;> omega) (O _ _ _ (by simp <;> omega) (O _ _ _ (by simp <;> omega) (blk_alloc_at _ _ _ rfl)))
  · exact O _ _ _ (by simp <;> omega) (O _ _ _ (by simp <;> omega) (blk_alloc_at _ _ _ (by simp)))
  · exact blk_alloc_at _ _ _ (by simp)
theorem PlRun.step {p : Option Addr} {d : Int} {w X : World} {x : List Int} {pre : PgM.Row} (h : PlRun p d w x pre X) (y : List Int) (hne : aheadB d y x = true) : PlRun p d w x (pre ++ [y]) (X.setCell ⟨w.heap.size + 2, 0, none⟩ (.int .i64 ((pre.length : Int) + 1))) := by
  have e : ((pre ++ [y]).length : Int) = (pre.length : Int) + 1 := by simp
  refine ⟨⟨Below.setCell h.fin.below (by simp) _, ?_⟩, ?_, ?_, ?_, fun z hz => ?_, by simpa using h.size⟩
  · rw [e]; exact blk_set _ _ _ _ _ _ h.fin.at_
  · rw [blk_set_far _ _ _ _ (by simp)]; exact h.q
  · rw [blk_set_far _ _ _ _ (by simp)]; exact h.want
  · exact (blk_set_far' _ _ _ _ (by simp)).trans h.b
  · rcases List.mem_append.1 hz with h1 | h1
    · exact h.all z h1
    · rw [List.mem_singleton.1 h1]; exact hne
theorem bel_grown {X Y : World} (h : Below X.heap.size X Y) : X.grownBy Y none := ⟨h.os, h.tape, h.output, h.size, fun k hk _ => h.block k hk⟩
set_option maxHeartbeats 4000000 in
theorem place_any (t base most d : Nat) (v : Value) (r : PgM.Row) (a0 a1 a2 a3 : Int) (w : World) (hq : Qu w t base most d v r) (hx : r.length ≤ 100000) :
    Calls Try.prog 27 #[.pointer (some ⟨t, 0, none⟩), .agg #[.int .i64 a0, .int .i64 a1, .int .i64 a2, .int .i64 a3]] w fun e w' => e = .returned (.int .i64 (posV d r [a0, a1, a2, a3] : Nat)) ∧ Below w.heap.size w w' := by
  have h4 := hq.w4
  have HQ := Lib.hid hq
  have HLT := hq.lt
  clear hq
  refine callsIn_wide.1 (callsIn_of_wp_marks (F := Fence.wide) (n := 0) Try.func27 rfl trivial ?_ rfl)
  simp only [Try.ntmps27, List.size_toArray, List.length_cons, List.length_nil, Nat.reduceAdd, Nat.reduceSub, Array.replicate_succ, Array.replicate_zero, List.push_toArray, List.append_toArray, List.nil_append, List.cons_append]
  gi_wp2_with fail
  refine ⟨trivial, rfl, (callsIn_wide.2 (all_any (some ⟨t, 0, none⟩) _)).mono ?_⟩
  rintro e W1 ⟨rfl, hW1⟩
  have R0 : PlRun (some ⟨t, 0, none⟩) d w [a0, a1, a2, a3] [] W1 := by rw [hW1]; exact pl_start _ d w [a0, a1, a2, a3]
  have hs1 : W1.heap.size = w.heap.size + 4 := by rw [hW1]; simp
  have HR0 := Lib.hid R0
  clear hW1 R0
  gi_wp2_with fail
  simp only [World.size_alloc, Nat.add_assoc, Nat.reduceAdd]
  refine range_seq (gf := 37) (lb := #[.pointer (some ⟨w.heap.size + 3, 0, none⟩)]) rfl enters_all (all_seq (w.heap.size + 3) t base most d v r) (fun _ => rfl)
    (fun pre Z => PlRun (some ⟨t, 0, none⟩) d w [a0, a1, a2, a3] pre Z)
    (fun c pre Z => c = .exit 0 ∧ ∃ q y, pre = q ++ [y] ∧ aheadB d y [a0, a1, a2, a3] = false ∧ (∀ y ∈ q, aheadB d y [a0, a1, a2, a3] = true) ∧ PlEnd w q.length Z)
    (fun _ _ _ => False) ?hI ?hIx (mine_none _ _) (fun _ _ h => ⟨h.b, HQ.out.bel h.fin.below⟩) HR0.out ?round ?done ?stop
  case hI => exact fun s X Y row h hg hr => h.grown hg fun r e => by have := (hr r e).1; omega
  case hIx => exact fun c s X Y row ⟨h1, q, x, h2, h3, h5, h4⟩ hg hr => ⟨h1, q, x, h2, h3, h5, h4.grown hg fun r e => by have := (hr r e).1; omega⟩
  case round =>
    intro l' pre x Z hl' hrec hI hpre
    obtain ⟨x0, x1, x2, x3, rfl⟩ := len4 (h4 x (hpre.subset (by simp)))
    have HI := Lib.hid hI
    have hsm : pre.length < 100001 := by
      have h1 := hpre.length_le
      simp only [List.length_append, List.length_singleton] at h1
      omega
    have HPR := Lib.hid hpre
    obtain ⟨rr, hrr⟩ := hrec
    have hlz := get_lt hrr
    have HRR := Lib.hid hrr
    clear hI hpre hrr
    simp only [encW, cs, List.map_cons, List.map_nil]
    gi_wp2_with fail
    refine ⟨World.grownBy_alloc _ _ none, fun X2 hg hI2 hl2 => ?_⟩
    have c2 : blk X2 Z.heap.size = some (.cells #[.int .i64 x0, .int .i64 x1, .int .i64 x2, .int .i64 x3] 36 (0, 0)) := (hg.block _ (by simp) (fun e => by injection e with e; omega)).trans (World.alloc_heap_new _ _)
    have HI2 := Lib.hid hI2
    have r1 : X2.cell? ⟨w.heap.size, 0, none⟩ = some (.pointer (some ⟨t, 0, none⟩)) := by rw [blk_cell hI2.q]; rfl
    have b0 : blk X2 (w.heap.size + 1) = some (.cells #[.int .i64 a0, .int .i64 a1, .int .i64 a2, .int .i64 a3] 36 (0, 0)) := hI2.want
    clear hg hI2 hl2
    gi_wp2_with fail
    refine ⟨trivial, rfl, (CallsIn.inRound _ (callsIn_wide.2 (ahead_any t base most d v r x0 x1 x2 x3 a0 a1 a2 a3 X2 (HQ.out.bel HI2.out.fin.below)))).mono ?_⟩
    rintro e X3 ⟨rfl, hb3⟩
    have HI3 := Lib.hid (HI2.out.grown (bel_grown hb3) (fun r e => by cases e))
    have hh3 : Hold W1.heap.size (fun _ => False) X2 X3 := ⟨hb3.size, fun k _ hk _ => hb3.block k hk⟩
    have HH3 := Lib.hid hh3
    have c3 : X3.cell? ⟨w.heap.size + 2, 0, none⟩ = some (.int .i64 pre.length) := by rw [blk_cell HI3.out.fin.at_]; rfl
    have f3 := blk_frozen HI3.out.fin.at_ 0
    clear hb3 hh3 r1 b0 c2
    by_cases hke : aheadB d [x0, x1, x2, x3] [a0, a1, a2, a3] = true
    · rw [hke]
      gi_wp2
      refine ⟨HH3.out.trans (hold_low (by simp) fun k hk => ?_), HI3.out.step _ hke, fun _ h _ => h.elim⟩
      rw [blk_set_far' _ _ _ _ (by simp; omega)]
    · rw [Bool.not_eq_true] at hke
      rw [hke]
      gi_wp2
      exact ⟨HH3.out, rfl, pre, [x0, x1, x2, x3], rfl, hke, HI3.out.all, HI3.out.fin⟩
  case done =>
    intro D Z hD hI hdef
    have HI := Lib.hid hI
    have c3 : Z.cell? ⟨w.heap.size + 2, 0, none⟩ = some (.int .i64 r.length) := by rw [blk_cell hI.fin.at_]; rfl
    clear hI
    gi_wp2
    have hm := pos_not HI.out.all
    refine leaves_marks (B := w.heap.size + 4) (fun Y => PlEnd w r.length Y) (fun E Y hE hY he => hY.grown (grownBy_putObj' _ _ _) fun r e => by injection e with e; omega) (fun Y hY => ⟨_, results_tmp rfl _ _ _, by rw [hm]; rfl, hY.below⟩) [D] (by simp) _ HI.out.fin fun E hp => ?_
    obtain rfl : E = D := by simpa using hp
    exact ⟨by omega, hdef⟩
  case stop =>
    intro D c pre Z hD hpre hx hdef
    obtain ⟨rfl, q, x, rfl, hq, hn, hx⟩ := hx
    have hm := pos_hit hpre hn hq
    have c3 : Z.cell? ⟨w.heap.size + 2, 0, none⟩ = some (.int .i64 q.length) := by rw [blk_cell hx.at_]; rfl
    have HX := Lib.hid hx
    clear hx
    gi_wp2_with fail
    refine leaves_marks (B := w.heap.size + 4) (fun Y => PlEnd w q.length Y) (fun E Y hE hY he => hY.grown (grownBy_putObj' _ _ _) fun r e => by injection e with e; omega) (fun Y hY => ⟨_, results_tmp rfl _ _ _, by rw [hm]; rfl, hY.below⟩) [D] (by simp) _ HX.out fun E hp => ?_
    obtain rfl : E = D := by simpa using hp
    exact ⟨by omega, hdef⟩
end Go.Proofs.Ytpbdgkjlmijipaa.QuH

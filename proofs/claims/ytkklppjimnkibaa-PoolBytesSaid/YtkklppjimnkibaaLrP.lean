/-
  The oldest of a list.
-/
import Derived.Test.YtkklppjimnkibaaLrB
namespace Go.Proofs.Ytkklppjimnkibaa.LrP
open Go.RowKit Go.Shelf Rd Go.Proofs.Ytkklppjimnkibaa.Row It LrM LrA LrB
set_option linter.unusedVariables false
set_option linter.unusedSimpArgs false
set_option maxRecDepth 10000
attribute [local go_sem] Oper.semAt_some
variable {b g n : Nat} {old yng : Nat → Nat} {pin : Nat → Bool}
/-! none -/
theorem order_seq_nil (bx : Nat) :
    Seq Try.prog 65 #[.pointer (some ⟨bx, 0, none⟩)] encI [] (fun X => BoxP bx none X ∧ True) := by
  intro lo J Jx Own W hJ hJx hM hK hY h0
  have HY := Lib.hid hY
  have HJ := Lib.hid hJ
  clear hY hJ
  have k0 := hK [] W h0
  have cb := k0.1.cell
  have H0 := Lib.hid h0
  clear h0 k0 hK
  refine callsIn_wide.1 (callsIn_of_wp (F := Fence.wide) (n := 0) Try.func65 rfl trivial ?_ rfl)
  simp only [Try.ntmps65, List.size_toArray, List.length_cons, List.length_nil, Nat.reduceAdd, Nat.reduceSub, Array.replicate_succ, Array.replicate_zero, List.push_toArray, List.append_toArray, List.nil_append, List.cons_append]
  gi_wp2
  refine bodyPost_ret (results_none rfl _ _ _) rfl ?_
  exact ⟨⟨_, rfl⟩, .inl H0.out⟩
theorem st_len {X : World} {o : List Nat} (h : St X b g n o pin) : o.length = n := by
  obtain ⟨h1, h2, h3⟩ := h.perm
  have hsub : o.Perm (List.range n) := (List.perm_ext_iff_of_nodup h1 List.nodup_range).2 fun x => ⟨fun hx => List.mem_range.2 (h2 x hx), fun hx => h3 x (List.mem_range.1 hx)⟩
  have := hsub.length_eq
  simpa using this
/-! the oldest -/
def oldO (o : List Nat) (pin : Nat → Bool) : Option Nat := o.find? fun x => !pin x
structure OlEnd (w : World) (r : Nat) (ok : Bool) (X : World) : Prop where
  below : Below w.heap.size w X
  num : blk X (w.heap.size + 1) = some (.cells #[.int .i64 r] 3 (0, 0))
  ok : blk X (w.heap.size + 2) = some (.cells #[.bool ok] 4 (0, 0))
structure OlRun (p : Option Addr) (pin : Nat → Bool) (w : World) (pre : List Nat) (X : World) : Prop where
  fin : OlEnd w 0 false X
  l : blk X w.heap.size = some (.cells #[.pointer p] 65 (0, 0))
  b : BoxP (w.heap.size + 3) p X
  not : ∀ x ∈ pre, pin x = true
  size : w.heap.size + 4 ≤ X.heap.size
theorem below_grown {B b : Nat} {w X Y : World} {row : Option Nat} (h : Below b w X) (hg : X.grownBy Y row) (hb : b ≤ w.heap.size) (hr : ∀ r, row = some r → b ≤ r) : Below b w Y :=
  ⟨hg.os.trans h.os, hg.tape.trans h.tape, hg.output.trans h.output, Nat.le_trans h.size hg.size, fun k hk => (hg.block k (by have := h.size; omega) fun e => by have := hr k e.symm; omega).trans (h.block k hk)⟩
theorem blk_grown {X Y : World} {row : Option Nat} {k : Nat} {o : Obj} (h : blk X k = some o) (hg : X.grownBy Y row) (hr : ∀ r, row = some r → k < r) : blk Y k = some o :=
  (hg.block k (get_lt h) fun e => by have := hr k e.symm; omega).trans h
theorem OlEnd.grown {w : World} {r : Nat} {o : Bool} {X Y : World} {row : Option Nat} (h : OlEnd w r o X) (hg : X.grownBy Y row) (hr : ∀ r, row = some r → w.heap.size + 4 ≤ r) : OlEnd w r o Y :=
  ⟨below_grown (B := 0) h.below hg (Nat.le_refl _) fun r e => by have := hr r e; omega, blk_grown h.num hg fun r e => by have := hr r e; omega, blk_grown h.ok hg fun r e => by have := hr r e; omega⟩
theorem OlRun.grown {p : Option Addr} {w : World} {pre : List Nat} {X Y : World} {row : Option Nat} (h : OlRun p pin w pre X) (hg : X.grownBy Y row) (hr : ∀ r, row = some r → w.heap.size + 4 ≤ r) : OlRun p pin w pre Y :=
  ⟨h.fin.grown hg hr, blk_grown h.l hg fun r e => by have := hr r e; omega, blk_grown h.b hg fun r e => by have := hr r e; omega, h.not, Nat.le_trans h.size hg.size⟩
theorem old_results {fn : Func} (hf : fn.results = #[.cell 2 3, .cell 3 4]) {w X : World} {r : Nat} {o : Bool} (h : OlEnd w r o X) (tmps : Array Value) (h2 : tmps.getD 2 undef = .pointer (some ⟨w.heap.size + 1, 0, none⟩)) (h3 : tmps.getD 3 undef = .pointer (some ⟨w.heap.size + 2, 0, none⟩)) :
    (results fn tmps).run Try.prog X = .ok (.tuple #[.int .i64 r, .bool o]) X := by
  have hp2 : tmps[2]?.getD undef = .pointer (some ⟨w.heap.size + 1, 0, none⟩) := by simpa using h2
  have hp3 : tmps[3]?.getD undef = .pointer (some ⟨w.heap.size + 2, 0, none⟩) := by simpa using h3
  have hc1 : X.cell? ⟨w.heap.size + 1, 0, none⟩ = some (.int .i64 r) := by rw [blk_cell h.num]; rfl
  have hc2 : X.cell? ⟨w.heap.size + 2, 0, none⟩ = some (.bool o) := by rw [blk_cell h.ok]; rfl
  have hb1 : (loadVar 3 ⟨w.heap.size + 1, 0, none⟩).run Try.prog X = .ok (.int .i64 r) X := by simp [go_sem, hc1]
  have hb2 : (loadVar 4 ⟨w.heap.size + 2, 0, none⟩).run Try.prog X = .ok (.bool o) X := by simp [go_sem, hc2]
  simp [results, hf, hp2, hp3, asAddr, hb1, hb2]
theorem old_start (p : Option Addr) (pin : Nat → Bool) (w : World) : OlRun p pin w [] ((((w.alloc (.cells #[.pointer p] 65)).alloc (.cells #[.int .i64 0] 3)).alloc (.cells #[.bool false] 4)).alloc (.cells #[.pointer p] 65)) := by
  have O : ∀ (X : World) (o : Obj) (k : Nat) {p : Obj}, k < X.heap.size → blk X k = some p → blk (X.alloc o) k = some p := fun X o k p h e => (blk_alloc_old X o k h).trans e
  refine ⟨⟨?_, ?_, ?_⟩, ?_, ?_, fun x hx => (by cases hx), by simp⟩
  · refine ((((Below.refl _ w).alloc ?_ _).alloc ?_ _).alloc ?_ _).alloc ?_ _ <;> (try simp only [World.size_alloc]) <;> omega
  · exact O _ _ _ (by simp) (O _ _ _ (by simp) (blk_alloc_at _ _ _ (by simp)))
  · exact O _ _ _ (by simp) (blk_alloc_at _ _ _ (by simp))
  · exact O _ _ _ (by simp <;> omega) (O _ _ _ (by simp <;> omega) (O _ _ _ (by simp) (blk_alloc_at _ _ _ rfl)))
  · exact blk_alloc_at _ _ _ (by simp)
theorem OlEnd.set {w X : World} {r r' : Nat} {o o' : Bool} (h : OlEnd w r o X) : OlEnd w r' o' ((X.setCell ⟨w.heap.size + 1, 0, none⟩ (.int .i64 r')).setCell ⟨w.heap.size + 2, 0, none⟩ (.bool o')) := by
  refine ⟨Below.setCell (Below.setCell h.below (by simp) _) (by simp) _, ?_, ?_⟩
  · rw [blk_set_far _ _ _ _ (by simp)]
    exact blk_set _ _ _ _ _ _ h.num
  · refine blk_set _ _ _ _ _ _ ((blk_set_far' _ _ _ _ (by simp)).trans h.ok)
theorem hold_low {B : Nat} {own : Nat → Prop} {X Y : World} (hs : X.heap.size ≤ Y.heap.size) (h : ∀ k, B ≤ k → blk Y k = blk X k) : Hold B own X Y := ⟨hs, fun k hk _ _ => h k hk⟩
theorem old_hit {o q : List Nat} {x : Nat} (h : q ++ [x] <+: o) (hq : ∀ y ∈ q, pin y = true) (hx : pin x = false) : oldO o pin = some x := by
  obtain ⟨t, rfl⟩ := h
  unfold oldO
  rw [List.append_assoc, List.find?_append, List.find?_eq_none.2 (fun y hy => by simp [hq y hy])]
  simp [hx]
theorem old_miss {o : List Nat} (hq : ∀ y ∈ o, pin y = true) : oldO o pin = none := List.find?_eq_none.2 fun y hy => by simp [hq y hy]
set_option maxHeartbeats 4000000 in
theorem oldest_gen (p : Option Addr) (o : List Nat) (pin : Nat → Bool) (K : World → Prop) (w : World) (hsrc : ∀ b0 : Nat, Seq Try.prog 65 #[.pointer (some ⟨b0, 0, none⟩)] encI o (fun X => (blk X b0 = some (.cells #[.pointer p] 65 (0, 0))) ∧ K X)) (hK : ∀ X, Below w.heap.size w X → K X)
    (hcell : ∀ x ∈ o, ∃ b g n, p = some ⟨b, 0, none⟩ ∧ x < n + 1 ∧ ∀ X, K X → X.cell? ⟨b, 0, none⟩ = some (.slice (some ⟨g, 0, none⟩) (n + 1) (n + 1)) ∧ X.cell? ⟨g, x * 3 + 2, none⟩ = some (.bool (pin x))) :
    Calls Try.prog 37 #[.pointer p] w fun e w' => e = .returned (.tuple #[.int .i64 ((oldO o pin).getD 0 : Nat), .bool (oldO o pin).isSome]) ∧ Below w.heap.size w w' := by
  refine callsIn_wide.1 (callsIn_of_wp_marks (F := Fence.wide) (n := 0) Try.func37 rfl trivial ?_ rfl)
  simp only [Try.ntmps37, List.size_toArray, List.length_cons, List.length_nil, Nat.reduceAdd, Nat.reduceSub, Array.replicate_succ, Array.replicate_zero, List.push_toArray, List.append_toArray, List.nil_append, List.cons_append]
  gi_wp2_with fail
  refine ⟨trivial, rfl, (callsIn_wide.2 (order_any p _)).mono ?_⟩
  rintro e W1 ⟨rfl, hW1⟩
  have R0 : OlRun p pin w [] W1 := by rw [hW1]; exact old_start p pin w
  have hs1 : W1.heap.size = w.heap.size + 4 := by rw [hW1]; simp
  have HR0 := Lib.hid R0
  have HSRC := Lib.hid hsrc
  have HKK := Lib.hid hK
  have HC := Lib.hid hcell
  clear hW1 R0 hsrc hK hcell
  gi_wp2_with fail
  simp only [World.size_alloc, Nat.add_assoc, Nat.reduceAdd]
  refine range_seq (gf := 65) (lb := #[.pointer (some ⟨w.heap.size + 3, 0, none⟩)]) rfl enters_order (HSRC.out (w.heap.size + 3)) (fun _ => rfl)
    (fun pre Z => OlRun p pin w pre Z)
    (fun c pre Z => c = .ret ∧ ∃ q x, pre = q ++ [x] ∧ (∀ y ∈ q, pin y = true) ∧ pin x = false ∧ OlEnd w x true Z)
    (fun _ _ _ => False) ?hI ?hIx (mine_none _ _) (fun _ _ h => ⟨h.b, HKK.out _ h.fin.below⟩) HR0.out ?round ?done ?stop
  case hI => exact fun s X Y row h hg hr => h.grown hg fun r e => by have := (hr r e).1; omega
  case hIx => exact fun c s X Y row ⟨h1, q, x, h2, h3, h5, h4⟩ hg hr => ⟨h1, q, x, h2, h3, h5, h4.grown hg fun r e => by have := (hr r e).1; omega⟩
  case round =>
    intro l' pre x Z hl' hrec hI hpre
    have HPR := Lib.hid hpre
    obtain ⟨b, g, n, hp, hxn, hc⟩ := HC.out x (hpre.subset (by simp))
    subst hp
    obtain ⟨rr, hrr⟩ := hrec
    have hlz := get_lt hrr
    clear hI hpre hrr
    simp only [encI]
    gi_wp2_with fail
    refine ⟨World.grownBy.refl _ _, fun X2 hg hI2 hl2 => ?_⟩
    have HI2 := Lib.hid hI2
    have c1 : X2.cell? ⟨w.heap.size, 0, none⟩ = some (.pointer (some ⟨b, 0, none⟩)) := by rw [blk_cell hI2.l]; rfl
    obtain ⟨c2, c3⟩ := hc X2 (HKK.out _ hI2.fin.below)
    have cn : X2.cell? ⟨w.heap.size + 1, 0, none⟩ = some (.int .i64 0) := by rw [blk_cell hI2.fin.num]; rfl
    have fn_ := blk_frozen hI2.fin.num 0
    have bo := fun (v : Value) => (blk_set_far' X2 ⟨w.heap.size + 1, 0, none⟩ (w.heap.size + 2) v (by simp)).trans hI2.fin.ok
    have co : ∀ v : Value, (X2.setCell ⟨w.heap.size + 1, 0, none⟩ v).cell? ⟨w.heap.size + 2, 0, none⟩ = some (.bool false) := fun v => by rw [blk_cell (bo v)]; rfl
    have fo : ∀ v : Value, (X2.setCell ⟨w.heap.size + 1, 0, none⟩ v).frozen? ⟨w.heap.size + 2, 0, none⟩ = false := fun v => blk_frozen (bo v) 0
    obtain ⟨px, epx⟩ : ∃ q, pin x = q := ⟨_, rfl⟩
    rw [epx] at c3
    have EPX := Lib.hid epx
    clear hg hI2 hl2 hc epx bo
    cases px
    · gi_wp2
      refine ⟨hold_low (by simp) fun k hk => ?_, rfl, pre, x, rfl, HI2.out.not, EPX.out, HI2.out.fin.set⟩
      rw [blk_set_far' _ _ _ _ (by simp; omega), blk_set_far' _ _ _ _ (by simp; omega)]
    · gi_wp2
      refine ⟨Hold.refl _ _ _, ⟨HI2.out.fin, HI2.out.l, HI2.out.b, fun y hy => ?_, HI2.out.size⟩, fun _ h _ => h.elim⟩
      rcases List.mem_append.1 hy with e | e
      · exact HI2.out.not y e
      · rw [List.mem_singleton.1 e]; exact EPX.out
  case done =>
    intro D Z hD hI hdef
    have HI := Lib.hid hI
    have cn : Z.cell? ⟨w.heap.size + 1, 0, none⟩ = some (.int .i64 0) := by rw [blk_cell hI.fin.num]; rfl
    have fn_ := blk_frozen hI.fin.num 0
    have bo := fun (v : Value) => (blk_set_far' Z ⟨w.heap.size + 1, 0, none⟩ (w.heap.size + 2) v (by simp)).trans hI.fin.ok
    have co : ∀ v : Value, (Z.setCell ⟨w.heap.size + 1, 0, none⟩ v).cell? ⟨w.heap.size + 2, 0, none⟩ = some (.bool false) := fun v => by rw [blk_cell (bo v)]; rfl
    have fo : ∀ v : Value, (Z.setCell ⟨w.heap.size + 1, 0, none⟩ v).frozen? ⟨w.heap.size + 2, 0, none⟩ = false := fun v => blk_frozen (bo v) 0
    clear hI bo
    gi_wp2
    have hm := old_miss HI.out.not
    refine leaves_marks (B := w.heap.size + 4) (fun Y => OlEnd w 0 false Y) (fun E Y hE hY he => hY.grown (grownBy_putObj' _ _ _) fun r e => by injection e with e; omega) (fun Y hY => ⟨_, old_results rfl hY _ rfl rfl, by rw [hm]; rfl, hY.below⟩) [D] (by simp) _ HI.out.fin.set fun E hp => ?_
    obtain rfl : E = D := by simpa using hp
    refine ⟨by omega, ?_⟩
    exact ((blk_set_far' _ _ _ _ (by simp; omega)).trans (blk_set_far' _ _ _ _ (by simp; omega))).trans hdef
  case stop =>
    intro D c pre Z hD hpre hx hdef
    obtain ⟨rfl, q, x, rfl, hq, hxp, hx⟩ := hx
    have hm := old_hit hpre hq hxp
    gi_wp2_with fail
    refine leaves_marks (B := w.heap.size + 4) (fun Y => OlEnd w x true Y) (fun E Y hE hY he => hY.grown (grownBy_putObj' _ _ _) fun r e => by injection e with e; omega) (fun Y hY => ⟨_, old_results rfl hY _ rfl rfl, by rw [hm]; rfl, hY.below⟩) [D] (by simp) _ hx fun E hp => ?_
    obtain rfl : E = D := by simpa using hp
    exact ⟨by omega, hdef⟩
theorem oldest_st {o : List Nat} (w : World) (h : St w b g n o pin) :
    Calls Try.prog 37 #[.pointer (some ⟨b, 0, none⟩)] w fun e w' => e = .returned (.tuple #[.int .i64 ((oldO o pin).getD 0 : Nat), .bool (oldO o pin).isSome]) ∧ Below w.heap.size w w' := by
  obtain ⟨old, yng, h1, h2⟩ := h
  have hl := h1.lt
  refine oldest_gen (some ⟨b, 0, none⟩) o pin (fun X => Lst X b g n old yng pin) w (fun bx => order_seq bx o h2) (fun X hb => h1.below hb hl.1 hl.2) fun x hx => ?_
  have hxn := h2.lt x hx
  exact ⟨b, g, n, rfl, by omega, fun X hX => ⟨hX.c0, hX.cP (by omega)⟩⟩
theorem oldest_nil (w : World) :
    Calls Try.prog 37 #[.pointer none] w fun e w' => e = .returned (.tuple #[.int .i64 0, .bool false]) ∧ Below w.heap.size w w' :=
  oldest_gen none [] (fun _ => true) (fun _ => True) w order_seq_nil (fun _ _ => trivial) (fun x hx => by cases hx)
end Go.Proofs.Ytkklppjimnkibaa.LrP

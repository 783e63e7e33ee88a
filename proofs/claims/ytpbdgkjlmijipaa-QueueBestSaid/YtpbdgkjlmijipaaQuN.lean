/-
  The document's own queue: Add.
-/
import Derived.Test.YtpbdgkjlmijipaaQuM
import Derived.Test.YtpbdgkjlmijipaaPredU
import Derived.Test.YtpbdgkjlmijipaaOctA
namespace Go.Proofs.Ytpbdgkjlmijipaa.QuN
open Go.RowKit Go.Shelf Rd Go.Proofs.Ytpbdgkjlmijipaa.Row Mid PgM PgA PgB PgC QuA QuB QuC QuD QuE QuF QuG QuH QuI QuJ QuK QuL QuM
open Go.Proofs.Ytpbdgkjlmijipaa.Num (ret_int ret_bool)
set_option linter.unusedVariables false
set_option linter.unusedSimpArgs false
set_option maxRecDepth 10000
attribute [local go_sem high] run_maxT
attribute [local go_sem ↓] load_pg store_pg load_w store_w eq_pg3 eq_w4
attribute [local go_sem] one_int pc3 pc4 pc43 run_load_pg run_store_pg run_load_w run_store_w midLoad_eq rowLoad_eq rowStore_eq blk_alloc_at blk_alloc_old blk_drew blk_drewN blk_set_far blk_set_far' blk_grow setRow_alloc_at setRow_alloc_old setRow_drew setRow_drewN
/-! What the document's Add does -/
def keepL (r : PgM.Row) (pg : List Int) : PgM.Row := r.filter fun y => !(decide (pgOf y = pg))
def maxN (r : PgM.Row) (pg : List Int) (n : Int) : Int := r.foldl (fun m y => if pgOf y = pg then max m (PgM.g y 3) else m) n
def posR (d : Int) (l : PgM.Row) (x : List Int) : Nat := l.length - (l.reverse.takeWhile fun y => aheadB d x y).length
def rall (d : Int) (r : PgM.Row) (pg : List Int) (n : Int) : PgM.Row :=
  (keepL r pg).take (posR d (keepL r pg) [PgM.g pg 0, PgM.g pg 1, PgM.g pg 2, maxN r pg n]) ++ [PgM.g pg 0, PgM.g pg 1, PgM.g pg 2, maxN r pg n] :: (keepL r pg).drop (posR d (keepL r pg) [PgM.g pg 0, PgM.g pg 1, PgM.g pg 2, maxN r pg n])
theorem keep_step {r : PgM.Row} {pg : List Int} {k : Nat} (hk : k < r.length) : keepL (r.take (k + 1)) pg = if pgOf (at_ r k) = pg then keepL (r.take k) pg else keepL (r.take k) pg ++ [at_ r k] := by
  rw [take_at hk]
  unfold keepL
  rw [List.filter_append]
  by_cases h : pgOf (at_ r k) = pg <;> simp [h]
theorem max_step {r : PgM.Row} {pg : List Int} {k : Nat} {n : Int} (hk : k < r.length) : maxN (r.take (k + 1)) pg n = if pgOf (at_ r k) = pg then max (maxN (r.take k) pg n) (PgM.g (at_ r k) 3) else maxN (r.take k) pg n := by
  rw [take_at hk]
  unfold maxN
  rw [List.foldl_append]
  rfl
theorem keep_w4 {r : PgM.Row} {pg : List Int} (h : W4 r) : W4 (keepL r pg) := fun v hv => h v (List.mem_filter.1 hv).1
theorem keep_len (r : PgM.Row) (pg : List Int) : (keepL r pg).length ≤ r.length := List.length_filter_le _ _
theorem posR_eq {d : Int} {l : PgM.Row} {x : List Int} {k : Nat} (hk : k ≤ l.length) (h1 : ∀ j, k ≤ j → j < l.length → aheadB d x (at_ l j) = true) (h2 : k = 0 ∨ aheadB d x (at_ l (k - 1)) = false) : posR d l x = k := by
  have e : l.reverse = (l.drop k).reverse ++ (l.take k).reverse := by rw [← List.reverse_append, List.take_append_drop]
  have ha : ∀ y ∈ (l.drop k).reverse, aheadB d x y = true := by
    intro y hy
    rw [List.mem_reverse] at hy
    obtain ⟨i, hi, rfl⟩ := List.mem_iff_getElem.1 hy
    rw [List.length_drop] at hi
    have := h1 (k + i) (by omega) (by omega)
    rw [at_eq (by omega)] at this
    rw [List.getElem_drop]
    exact this
  unfold posR
  rw [e, List.takeWhile_append_of_pos ha, List.length_append, List.length_reverse, List.length_drop]
  have : ((l.take k).reverse.takeWhile fun y => aheadB d x y) = [] := by
    rcases h2 with rfl | h2
    · simp
    · by_cases h0 : k = 0
      · subst h0; simp
      · have hs : l.take k = l.take (k - 1) ++ [at_ l (k - 1)] := by
          have := take_at (r := l) (k := k - 1) (by omega)
          rw [show k - 1 + 1 = k by omega] at this
          exact this
        rw [hs, List.reverse_append, List.reverse_singleton, List.singleton_append, List.takeWhile_cons, h2]
        rfl
  rw [this, List.length_nil]
  omega
theorem app_w {ops : Array Oper} {rest : List Oper} {o : Oper} {a : Act} {w : World} {Q : Exit → Act → World → Prop} (hgd : o.guard = none) (s x : Operand)
    (ho : o.op = .call { callee := .builtin .append, args := #[s, x], argTypes := #[39, 39] })
    (base : Nat) (v : Value) (m : Nat) (r : PgM.Row) (hs : a.eval s = v) (hown : w.ownsRow base 36 4 v m (fl r))
    (gx : Nat) (cx : Nat) (y : List Int) (hx : a.eval x = .slice (some ⟨gx, 0, none⟩) 1 cx) (hy : y.length = 4) (hg : blk w gx = some (.cells (cs .i64 y) 36 (0, 0))) (hm : m ≤ 1000000) (hbase : base ≤ w.heap.size)
    (h : ∀ v' w', w'.ownsRow base 36 4 v' (m + 1) (fl (r ++ [y])) → w.grownBy w' v.ownBlock → (v'.ownBlock = v.ownBlock ∨ v'.ownBlock = some w.heap.size) → wpList Try.prog ops Q rest (a.put o.dst v') w') : wpList Try.prog ops Q (o :: rest) a w := by
  obtain ⟨i0, hi, hz0, hz1, hz2⟩ := info_parts info_want
  refine wpList_append_own_at w hgd s x 39 ho base 36 i0 _ 4 32 Try.underlying39 hi hz0 hz1 hz2 rfl (by decide) v m (fl r) hs hown ⟨gx, 0, none⟩ 1 cx (fl [y]) hx ?_ ?_ ?_ (by unfold maxLen; omega) (by omega) hbase ?_
  · rw [fl_one, List.length_map, hy]
  · intro j u hj
    rw [Addr.add_mid, Nat.zero_add, blk_cell hg]
    rw [fl_one] at hj
    simpa [cs] using hj
  · exact fl_one_cell [y]
  · intro v' w' h1 h2 h3 h4
    exact h v' w' (by rw [fl_app]; exact h1) h2 h4
theorem yields_app_r {ops : Array Oper} {o : Oper} {b : Act} {w : World} {R : Value → World → Prop} (hgd : o.guard = none) (s x : Operand)
    (ho : o.op = .call { callee := .builtin .append, args := #[s, x], argTypes := #[39, 39] })
    (base : Nat) (v : Value) (n : Nat) (r : PgM.Row) (hs : b.eval s = v) (hown : w.ownsRow base 36 4 v n (fl r))
    (ad : Option Addr) (m c : Nat) (r2 : PgM.Row) (hx : b.eval x = .slice ad m c) (hr : Reads w 4 ad m (fl r2))
    (h63 : n + m ≤ 1000000) (hbase : base ≤ w.heap.size)
    (h : ∀ v' w', w'.ownsRow base 36 4 v' (n + m) (fl (r ++ r2)) → w.grownBy w' v.ownBlock → R v' w') : Pred.yields Try.prog ops o b w R := by
  obtain ⟨i0, hi, hz0, hz1, hz2⟩ := info_parts info_want
  obtain ⟨v', w', hrun, h2, h3⟩ := App.run_append_reads (P := Try.prog) w base 39 o.type 36 i0 _ 4 32 Try.underlying39 hi hz0 hz1 hz2 rfl (by decide) v n (fl r) hown ad m c (fl r2)
    hr (fl_one_cell r2) (by unfold maxLen; omega) (by omega) hbase
  rw [← fl_app] at h2
  refine Pred.yields_run (v := v') (w' := w') (Pred.wanted_none hgd) ?_ (h v' w' h2 h3)
  unfold execOp
  simp only [ho, resolve, invoke, builtin, Sem.run_bind, Sem.run_pure, Result.andThen_ok, List.map_toArray, List.map_cons, List.map_nil, hs, hx, hrun]
def Ever (q : Value → Prop) : PredU.Pr := fun v _ _ => q v
theorem ever_stab {K : Nat → World → World → Prop} (B m : Nat) (q : Value → Prop) : PredU.Stab K B m (Ever q) := ⟨fun _ _ _ _ h _ => h, fun _ _ _ _ _ h _ => h⟩
def NoneW (B : Nat) (u : Value) (y : World) : Prop := ∃ g, u = .slice (some ⟨g, 0, none⟩) 0 0 ∧ B ≤ g ∧ blk y g = some (.cells #[] 36 (0, 0))
theorem nonew_below {B : Nat} {u : Value} {y y' : World} (h : NoneW B u y) (hb : Below y.heap.size y y') : NoneW B u y' := by
  obtain ⟨g, h1, h2, h3⟩ := h
  exact ⟨g, h1, h2, (blk_below hb _ (blk_lt h3)).trans h3⟩
def OneW (C : Array Value) (u : Value) (y : World) : Prop := ∃ g, u = .slice (some ⟨g, 0, none⟩) 1 1 ∧ blk y g = some (.cells C 36 (0, 0))
theorem onew_stab (B m : Nat) (C : Array Value) : PredU.Stab (fun p9 y9 z9 => p9 = 0 → ∀ g9, blk y9 g9 = some (.cells C 36 (0, 0)) → blk z9 g9 = some (.cells C 36 (0, 0))) B m (PredU.Til 1 (OneW C)) :=
  PredU.til_stab (fun v w w' ⟨g, h1, h2⟩ hb => ⟨g, h1, (blk_below hb _ (blk_lt h2)).trans h2⟩) (fun p v w w' hp ⟨g, h1, h2⟩ hb => ⟨g, h1, hb.2 (by omega) g h2⟩)
theorem reads_one {w : World} {g : Nat} {x0 x1 x2 x3 : Int} (h : blk w g = some (.cells #[.int .i64 x0, .int .i64 x1, .int .i64 x2, .int .i64 x3] 36 (0, 0))) : Reads w 4 (some ⟨g, 0, none⟩) 1 (fl [[x0, x1, x2, x3]]) := by
  refine ⟨rfl, .inr ⟨g, 0, rfl, blk_lt h, fun i hi => ?_⟩⟩
  rw [Nat.zero_add, blk_cell h, fl_one]
  simp
theorem reads_take {w : World} {base n c : Nat} {a : Option Addr} {l : PgM.Row} (h : w.ownsRow base 36 4 (.slice a n c) n (fl l)) (hw : W4 l) (hn : n = l.length) (k : Nat) (hk : k ≤ n) : Reads w 4 a k (fl (l.take k)) := by
  have hl : (fl (l.take k)).length = k * 4 := by rw [fw_len (w4_take hw k), List.length_take]; congr 1; omega
  have hr := Reads.of_owns h
  refine ⟨hl, hr.2.elim (fun e => .inl (by omega)) fun ⟨b, o, e, hlt, hc⟩ => .inr ⟨b, o, e, hlt, fun i hi => ?_⟩⟩
  have e2 : fl l = fl (l.take k) ++ fl (l.drop k) := by rw [← fl_app, List.take_append_drop]
  rw [hc i (by rw [e2, List.length_append]; omega), e2, List.getElem?_append_left hi]
theorem reads_drop {w : World} {base n c : Nat} {a : Option Addr} {l : PgM.Row} (h : w.ownsRow base 36 4 (.slice a n c) n (fl l)) (hw : W4 l) (hn : n = l.length) (k : Nat) (hk : k ≤ n) (ad : Option Addr) (hd : n - k = 0 ∨ ∃ g9, a = some ⟨g9, 0, none⟩ ∧ ad = some ⟨g9, k * 4, none⟩) : Reads w 4 ad (n - k) (fl (l.drop k)) := by
  have hl : (fl (l.drop k)).length = (n - k) * 4 := by rw [fw_len (w4_drop hw k), List.length_drop, hn]
  have hl1 : (fl (l.take k)).length = k * 4 := by rw [fw_len (w4_take hw k), List.length_take]; congr 1; omega
  have hr := Reads.of_owns h
  refine ⟨hl, ?_⟩
  rcases hd with hd | ⟨g9, rfl, rfl⟩
  · exact .inl hd
  · rcases hr.2 with e | ⟨b, o, e, hlt, hc⟩
    · exact .inl (by omega)
    · injection e with e
      injection e with e1 e3
      subst e1
      subst e3
      refine .inr ⟨g9, k * 4, rfl, hlt, fun i hi => ?_⟩
      have e2 : fl l = fl (l.take k) ++ fl (l.drop k) := by rw [← fl_app, List.take_append_drop]
      have := hc (k * 4 + i) (by rw [e2, List.length_append]; omega)
      rw [Nat.zero_add] at this
      rw [this, e2, List.getElem?_append_right (by omega)]
      congr 1; omega
theorem own_addr {w : World} {base : Nat} {e n c : Nat} {a : Option Addr} {xs : List Value} (h : w.ownsRow base e 4 (.slice a n c) n xs) : (a = none ∧ n = 0 ∧ c = 0) ∨ ∃ g, a = some ⟨g, 0, none⟩ := by
  rcases h.2 with ⟨e, h0⟩ | ⟨g, cap, cur, e, _⟩
  · cases e; exact .inl ⟨rfl, h0, rfl⟩
  · cases e; exact .inr ⟨g, rfl⟩
structure Lp (w X : World) (tw : Nat) (L X0 Y0 n : Int) (r : PgM.Row) (k : Nat) (v : Value) : Prop where
  low : Below w.heap.size w X
  bW : blk X tw = some (.cells #[.int .i64 L, .int .i64 X0, .int .i64 Y0, .int .i64 (maxN (r.take k) [L, X0, Y0] n)] 36 (0, 0))
  bP : blk X w.heap.size = some (.cells #[.int .i64 L, .int .i64 X0, .int .i64 Y0] 24 (0, 0))
  own : X.ownsRow w.heap.size 36 4 v (keepL (r.take k) [L, X0, Y0]).length (fl (keepL (r.take k) [L, X0, Y0]))
  ntw : v.ownBlock ≠ some tw
  lo : w.heap.size < tw
theorem Lp.bel {w X Y : World} {tw : Nat} {L X0 Y0 n : Int} {r : PgM.Row} {k : Nat} {v : Value} (h : Lp w X tw L X0 Y0 n r k v) (hb : Below X.heap.size X Y) : Lp w Y tw L X0 Y0 n r k v :=
  ⟨h.low.trans (hb.mono h.low.size), (blk_below hb _ (blk_lt h.bW)).trans h.bW, (blk_below hb _ (blk_lt h.bP)).trans h.bP, owns_below h.own hb, h.ntw, h.lo⟩
theorem Lp.hit {w X : World} {tw : Nat} {L X0 Y0 n : Int} {r : PgM.Row} {k : Nat} {v : Value} (h : Lp w X tw L X0 Y0 n r k v) (hk : k < r.length) (hp : pgOf (at_ r k) = [L, X0, Y0]) :
    Lp w (X.setCell ⟨tw, 3, none⟩ (.int .i64 (max (maxN (r.take k) [L, X0, Y0] n) (PgM.g (at_ r k) 3)))).drew tw L X0 Y0 n r (k + 1) v := by
  have hg : X.grownBy (X.setCell ⟨tw, 3, none⟩ (.int .i64 (max (maxN (r.take k) [L, X0, Y0] n) (PgM.g (at_ r k) 3)))) (some tw) := setCell_grown X tw 3 _
  have hb : Below w.heap.size w (X.setCell ⟨tw, 3, none⟩ (.int .i64 (max (maxN (r.take k) [L, X0, Y0] n) (PgM.g (at_ r k) 3)))) := Below.setCell h.low (by show w.heap.size ≤ tw; have := h.lo; omega) _
  have hlo := h.lo
  refine ⟨⟨hb.os, hb.tape, hb.output, hb.size, hb.block⟩, ?_, ?_, ?_, h.ntw, h.lo⟩
  · rw [max_step hk, if_pos hp]
    exact blk_set _ _ _ _ _ _ h.bW
  · exact (heap_setCell_other _ _ _ _ (by show w.heap.size ≠ tw; omega)).trans h.bP
  · rw [keep_step hk, if_pos hp]
    exact h.own.kept (row := some tw) ⟨hg.os, hg.tape, hg.output, hg.size, hg.block⟩ (by
      cases e : v.ownBlock with
      | none => exact .inl rfl
      | some g => exact .inr (fun e2 => h.ntw (by rw [e]; exact e2)))
theorem Lp.miss {w X Y : World} {tw : Nat} {L X0 Y0 n : Int} {r : PgM.Row} {k : Nat} {v v' : Value} (h : Lp w X tw L X0 Y0 n r k v) (hk : k < r.length) (hp : pgOf (at_ r k) ≠ [L, X0, Y0])
    (ho : Y.ownsRow w.heap.size 36 4 v' ((keepL (r.take k) [L, X0, Y0]).length + 1) (fl (keepL (r.take k) [L, X0, Y0] ++ [at_ r k]))) (hg : X.grownBy Y v.ownBlock) (ha : v'.ownBlock = v.ownBlock ∨ ∃ g, v'.ownBlock = some g ∧ X.heap.size ≤ g) :
    Lp w Y tw L X0 Y0 n r (k + 1) v' := by
  have hlow : ∀ g, v.ownBlock = some g → w.heap.size ≤ g := fun g e => (h.own.lt g e).1
  refine ⟨⟨hg.os.trans h.low.os, hg.tape.trans h.low.tape, hg.output.trans h.low.output, Nat.le_trans h.low.size hg.size, fun j hj => (hg.block j (by have := h.low.size; omega) (fun e => by have := hlow _ e.symm; omega)).trans (h.low.block j hj)⟩, ?_, ?_, ?_, ?_, h.lo⟩
  · rw [max_step hk, if_neg hp]
    exact (hg.block tw (blk_lt h.bW) (fun e => h.ntw e.symm)).trans h.bW
  · refine (hg.block _ (blk_lt h.bP) (fun e => ?_)).trans h.bP
    rcases h.own.2 with ⟨rfl, _⟩ | ⟨g, cap, cur, rfl, _, hgb, _⟩
    · cases e
    · obtain rfl : w.heap.size = g := by simpa [Value.ownBlock] using e
      have := (show X.heap[w.heap.size]? = _ from h.bP).symm.trans hgb
      simp at this
  · rw [keep_step hk, if_neg hp, List.length_append, List.length_singleton]
    exact ho
  · have := blk_lt h.bW
    rcases ha with e | ⟨g, e, hg2⟩
    · rw [e]; exact h.ntw
    · rw [e]; intro e2; injection e2 with e2; omega
def RaddR (w : World) (t most d : Nat) (ad : Option Addr) (r : PgM.Row) (pg : List Int) (n : Int) (e : Ending) (w' : World) : Prop :=
  (w.grownBy w' (some t)) ∧ ∃ adp cp ad' c',
    ((rall d r pg n).length ≤ most → e = .returned (.tuple #[.slice none 0 0, .int .i64 0]) ∧ Rq w' t most d ad' c' (rall d r pg n)) ∧
    (most < (rall d r pg n).length → pgOf (at_ (rall d r pg n) ((rall d r pg n).length - 1)) = pg → e = .returned (.tuple #[.slice none 0 0, .int .i64 6]) ∧ Rq w' t most d ad' c' r) ∧
    (most < (rall d r pg n).length → pgOf (at_ (rall d r pg n) ((rall d r pg n).length - 1)) ≠ pg → e = .returned (.tuple #[.slice adp 1 cp, .int .i64 0]) ∧ PgAt w' adp [pgOf (at_ (rall d r pg n) ((rall d r pg n).length - 1))] ∧ Rq w' t most d ad' c' ((rall d r pg n).take ((rall d r pg n).length - 1))) ∧
    ∀ a, ad' = some a → ad' = ad ∨ (w.heap.size ≤ a.block ∧ a.block < w'.heap.size)
set_option maxHeartbeats 8000000 in
theorem radd_in (t most d c : Nat) (ad : Option Addr) (r : PgM.Row) (L X0 Y0 n : Int) (w : World) (hq : Rq w t most d ad c r) (hv : validB d L X0 Y0 = true) (hp : 1 ≤ n) (hsm : r.length ≤ 100000) :
    Calls Try.prog 13 #[.pointer (some ⟨t, 0, none⟩), .agg #[.int .i64 L, .int .i64 X0, .int .i64 Y0], .int .i64 n] w fun e w' => RaddR w t most d ad r [L, X0, Y0] n e w' := by
  have CV : Hid (∀ X : World, Calls Try.prog 28 #[.int .i64 d, .agg #[.int .i64 L, .int .i64 X0, .int .i64 Y0]] X fun e w' => e = .returned (.bool true) ∧ Below X.heap.size X w') := fun X => by
    have := rvalid_any d L X0 Y0 X
    rw [hv] at this
    exact this
  have HQ := Lib.hid hq
  have HT := blk_lt hq.t
  have hcap := hq.cap
  clear hq hv
  go_enter Try.func13, Try.ntmps13
  go_upto_region 1 with (fail)
  refine Rd.name_world ?_
  intro w1 hw
  have bP : blk w1 w.heap.size = some (.cells #[.int .i64 L, .int .i64 X0, .int .i64 Y0] 24 (0, 0)) := by rw [hw]; exact blk_alloc_at _ _ _ rfl
  have L1 : Below w.heap.size w w1 := by
    rw [hw]
    repeat' (first | (with_reducible exact Below.refl _ _) | (with_reducible refine Rd.below_step ?_ (by assumption)) | (with_reducible refine Rd.below_alloc ?_ _) | (with_reducible refine Rd.below_drewN ?_ _) | (with_reducible refine Below.drew ?_) | (with_reducible refine Below.setCell ?_ ?_ _) | (with_reducible refine Rd.below_setRow ?_ ?_ _) | go_size | (simp only [World.size_alloc]; omega) | omega)
  clear hw
  have lP := blk_lt bP
  have g1 := Go.cell_regrown (show w1.cell? ⟨t, 1, none⟩ = some (.int .i64 d) by rw [blk_cell (HQ.out.bel L1).t]; rfl)
  have hn1 : decide (n < 1) = false := decide_eq_false (by omega)
  have hn2 : (n < 1) = False := eq_false (by omega)
  (refine wp_region_quiet_below (by kernel_rfl) (by kernel_rfl) ?_; (repeat (go_big_quiet_step ((with_reducible exact Calls.regrown_of (CV.out _))))); refine wpQuiet_nil ?_)
  intro w2 hU
  have KU := Rd.below_of_regrown hU
  have L2 : Below w.heap.size w w2 := by repeat' (first | (with_reducible exact Below.refl _ _) | (with_reducible refine Rd.below_step ?_ (by assumption)) | (with_reducible refine Rd.below_alloc ?_ _) | (with_reducible refine Rd.below_drewN ?_ _) | (with_reducible refine Below.drew ?_) | (with_reducible refine Below.setCell ?_ ?_ _) | (with_reducible refine Rd.below_setRow ?_ ?_ _) | go_size | (simp only [World.size_alloc]; omega) | omega)
  have bP2 : blk w2 w.heap.size = some (.cells #[.int .i64 L, .int .i64 X0, .int .i64 Y0] 24 (0, 0)) := (blk_below KU _ lP).trans bP
  clear hU KU g1 L1 bP lP CV
  go_upto_region 4 with (fail)
  refine Rd.name_world ?_
  intro w3 hw
  obtain ⟨tw, etw⟩ : ∃ k, w2.heap.size = k := ⟨_, rfl⟩
  have hs2 := blk_lt bP2
  have HL : Hid (Lp w w3 tw L X0 Y0 n r 0 (.slice none 0 0)) := by
    refine Lib.hid ⟨?_, ?_, ?_, World.ownsRow_nil _ _ _ _, by simp [Value.ownBlock], by omega⟩
    · rw [hw]
      repeat' (first | (with_reducible exact Below.refl _ _) | (with_reducible refine Rd.below_step ?_ (by assumption)) | (with_reducible refine Rd.below_alloc ?_ _) | (with_reducible refine Rd.below_drewN ?_ _) | (with_reducible refine Below.drew ?_) | (with_reducible refine Below.setCell ?_ ?_ _) | (with_reducible refine Rd.below_setRow ?_ ?_ _) | go_size | (simp only [World.size_alloc]; omega) | omega)
    · rw [hw, ← etw]; exact blk_alloc_at _ _ _ rfl
    · rw [hw, blk_alloc_old _ _ _ hs2]; exact bP2
  rw [etw]
  clear hw bP2 L2 hs2 etw
  go_wp2_with fail
  go_loopw [9, 10] (fun v i X => ∃ k : Nat, k ≤ r.length ∧ i = .int .i64 k ∧ Hid (Lp w X tw L X0 Y0 n r k v)) (fun _ i _ => r.length - (intOf i).toNat)
  case atStart => exact ⟨0, by omega, rfl, HL⟩
  case round =>
    clear HL
    obtain ⟨k, hk, rfl, HL⟩ := hrel
    rename World => X
    have hqX := HQ.out.bel HL.out.low
    have c2 : X.cell? ⟨t, 2, none⟩ = some (.slice ad r.length c) := by rw [blk_cell hqX.t]; rfl
    by_cases hlt : k < r.length
    · have hlt' : (k : Int) < (r.length : Int) := by omega
      obtain ⟨b, o, cc, rfl, bG, hc, pw, pw3⟩ := hqX.row.row hlt
      obtain ⟨x0, x1, x2, x3, ex⟩ := len4 (hqX.row.1 (at_ r k) (by rw [at_eq hlt]; exact List.getElem_mem _))
      rw [ex] at pw pw3
      have px4 : Mid.piece cc (o + k * 4) 4 = #[.int .i64 x0, .int .i64 x1, .int .i64 x2, .int .i64 x3] := pw
      have px3 : Mid.piece cc (o + k * 4) 3 = #[.int .i64 x0, .int .i64 x1, .int .i64 x2] := pw3
      have hc3 : o + k * 4 + 3 ≤ cc.size := by omega
      have EX := Lib.hid ex
      have bP := HL.out.bP
      have lG := blk_lt bG
      have lP := blk_lt bP
      have g2 := Go.cell_regrown c2
      have HqX := Lib.hid hqX
      clear pw pw3 ex hqX
      go_upto_region 8 with (fail)
      (refine wp_region_quiet_below (by kernel_rfl) (by kernel_rfl) ?_; (repeat (go_big_quiet_step ((fail)))); refine wpQuiet_nil ?_)
      intro w5 hU
      have KU := Rd.below_of_regrown hU
      have HL5 := Lib.hid (HL.out.bel KU)
      have bG5 : blk w5 b = some (.cells cc 36 (0, 0)) := (blk_below KU _ lG).trans bG
      have c25 : w5.cell? ⟨t, 2, none⟩ = some (.slice (some ⟨b, o, none⟩) r.length c) := (KU.cell (p := ⟨t, 2, none⟩) (by show t < _; exact blk_lt HqX.out.t)).trans c2
      clear hU KU g2 c2 HL bP bG lG lP HqX
      by_cases hpe : pgOf [x0, x1, x2, x3] = [L, X0, Y0]
      · have he : eqL [x0, x1, x2] [L, X0, Y0] = true := decide_eq_true hpe
        have g2 : w5.drew.cell? ⟨t, 2, none⟩ = some (.slice (some ⟨b, o, none⟩) r.length c) := c25
        have g3 : w5.drew.cell? ⟨b, o + k * 4 + 3, none⟩ = some (.int .i64 x3) := by
          have h4 := congrArg (fun z => z[3]?) px4
          simp only [Mid.piece, Array.getElem?_extract] at h4
          rw [if_pos (by omega)] at h4
          exact (blk_cell bG5 _).trans h4
        have g4 : w5.drew.cell? ⟨tw, 3, none⟩ = some (.int .i64 (maxN (r.take k) [L, X0, Y0] n)) := (blk_cell HL5.out.bW 3).trans rfl
        have g5 : w5.drew.frozen? ⟨tw, 3, none⟩ = false := blk_frozen HL5.out.bW 3
        have HH := Lib.hid (HL5.out.hit hlt (by rw [EX.out]; exact hpe))
        rw [show PgM.g (at_ r k) 3 = x3 by rw [EX.out]; rfl] at HH
        obtain ⟨mm, em⟩ : ∃ z, maxN (r.take k) [L, X0, Y0] n = z := ⟨_, rfl⟩
        rw [em] at g4 HH
        clear em c25 bG5 HL5 px4 px3
        rw [he]
        go_upto_region 9 with (fail)
        (refine Reg.quiet_tail 12 (by kernel_rfl) (by kernel_rfl) ?_; simp only [List.take_succ_cons, List.take_zero, List.drop_succ_cons, List.drop_zero]; (repeat go_big_quiet_step (fail)); refine wpQuiet_nil ?_)
        go_wp2
        go_roundw
        case rel => exact ⟨k + 1, by omega, by go_num, HH⟩
        case measure => simp [intOf]; omega
      · have he : eqL [x0, x1, x2] [L, X0, Y0] = false := decide_eq_false hpe
        have hkb : (keepL (r.take k) [L, X0, Y0]).length ≤ 100000 := by
          have := keep_len (r.take k) [L, X0, Y0]
          rw [List.length_take] at this
          omega
        obtain ⟨a9, c9, rfl, hc9, hm9⟩ := Rd.owns_val HL5.out.own
        have HMS := Lib.hid (fun (Y : World) (v' : Value) => HL5.out.miss (Y := Y) (v' := v') hlt (by rw [EX.out]; exact hpe))
        rw [EX.out] at HMS
        have HO := HL5.out.own
        obtain ⟨m9, em9⟩ : ∃ z, (keepL (r.take k) [L, X0, Y0]).length = z := ⟨_, rfl⟩
        rw [em9] at HO hkb HMS hc9 ⊢
        rw [he]
        go_wp2_with (at_builtin; refine app_w rfl (.tmp 59) (.tmp 67) rfl w.heap.size _ _ _ rfl (HO.alloc _) w5.heap.size 1 [x0, x1, x2, x3] rfl rfl (blk_alloc_at _ _ _ rfl) (by omega) (by have := HL5.out.low.size; simp; omega) ?_)
        intro v' w' h1 h2 h3
        have HN := Lib.hid (HMS.out w' v' h1 ((World.grownBy_alloc w5 _ _).trans h2) (h3.imp id fun e => ⟨_, e, by simp⟩))
        clear h1 h2 h3 HMS HO HL5 c25 bG5 px3 px4 em9 EX
        go_wp2
        go_roundw
        case rel => exact ⟨k + 1, by omega, by go_num, HN⟩
        case measure => simp [intOf]; omega
    · obtain rfl : k = r.length := by omega
      have hL := HL.out
      have hlow := hL.low
      have hbW := hL.bW
      have hbP := hL.bP
      have hown := hL.own
      have hlo := hL.lo
      rw [List.take_length] at hbW hown
      have hNb : (keepL r [L, X0, Y0]).length ≤ 100000 := Nat.le_trans (keep_len r [L, X0, Y0]) hsm
      have EA : Hid (rall d r [L, X0, Y0] n = (keepL r [L, X0, Y0]).take (posR d (keepL r [L, X0, Y0]) [L, X0, Y0, maxN r [L, X0, Y0] n]) ++ [L, X0, Y0, maxN r [L, X0, Y0] n] :: (keepL r [L, X0, Y0]).drop (posR d (keepL r [L, X0, Y0]) [L, X0, Y0, maxN r [L, X0, Y0] n])) := Lib.hid rfl
      have hw4 := keep_w4 (pg := [L, X0, Y0]) hqX.row.1
      obtain ⟨l, el⟩ : ∃ l, keepL r [L, X0, Y0] = l := ⟨_, rfl⟩
      obtain ⟨mx, em⟩ : ∃ z, maxN r [L, X0, Y0] n = z := ⟨_, rfl⟩
      rw [el] at hown hNb EA hw4
      rw [em] at hbW EA
      obtain ⟨a9, c9, rfl, hc9, hm9⟩ := Rd.owns_val hown
      have hrow := rwAt_of_owns hown rfl hw4
      unfold maxLen at hm9
      clear el em hL HL
      have HLOW := Lib.hid hlow
      have HqX := Lib.hid hqX
      have hXs := hlow.size
      clear hlow hqX
      go_wp2_with fail
      clear c2
      go_loopw [11] (fun a Y => ∃ k : Nat, k ≤ l.length ∧ a = .int .i64 k ∧ Hid (∀ j, k ≤ j → j < l.length → aheadB d [L, X0, Y0, mx] (at_ l j) = true) ∧ Below X.heap.size X Y) (fun a _ => (intOf a).toNat)
      case atStart => exact ⟨l.length, by omega, rfl, Lib.hid fun j h1 h2 => absurd h2 (by omega), Below.refl _ _⟩
      case round =>
        obtain ⟨k, hk, rfl, HF, hb⟩ := hrel
        rename World => Y
        have hbWY := (blk_below hb _ (blk_lt hbW)).trans hbW
        have lW := blk_lt hbWY
        by_cases h0 : 0 < k
        · obtain ⟨j, rfl⟩ : ∃ j, k = j + 1 := ⟨k - 1, by omega⟩
          have hkl : j < l.length := by omega
          have hki : (j : Int) < (l.length : Int) := by omega
          obtain ⟨b, o, cc, ea9, bG, hc, pw, -⟩ := (hrow.bel hb).row hkl
          subst ea9
          obtain ⟨x0, x1, x2, x3, ex⟩ := len4 (hrow.1 (at_ l j) (by rw [at_eq hkl]; exact List.getElem_mem _))
          have CA : Hid (∀ Z : World, Below X.heap.size X Z → Calls Try.prog 29 #[.pointer (some ⟨t, 0, none⟩), .agg #[.int .i64 L, .int .i64 X0, .int .i64 Y0, .int .i64 mx], .agg #[.int .i64 x0, .int .i64 x1, .int .i64 x2, .int .i64 x3]] Z fun e w' => e = .returned (.bool (aheadB d [L, X0, Y0, mx] (at_ l j))) ∧ Below Z.heap.size Z w') := fun Z hZ => by
            rw [ex]
            exact rahead_any t most d c ad r L X0 Y0 mx x0 x1 x2 x3 Z (HqX.out.bel hZ)
          rw [ex] at pw
          have px4 : Mid.piece cc (o + j * 4) 4 = #[.int .i64 x0, .int .i64 x1, .int .i64 x2, .int .i64 x3] := pw
          have lG := blk_lt bG
          obtain ⟨q, eq⟩ : ∃ q, aheadB d [L, X0, Y0, mx] (at_ l j) = q := ⟨_, rfl⟩
          rw [eq] at CA
          have EQ := Lib.hid eq
          have hpos : (0 : Int) < (j : Int) + 1 := by omega
          have hposn : decide (0 < (j : Int) + 1) = true := decide_eq_true hpos
          have hwr : wrap64 (((j + 1 : Nat) : Int) - 1) = (j : Int) := by unfold wrap64; omega
          have hwr2 : IntKind.i64.wrap (((j + 1 : Nat) : Int) - 1) = (j : Int) := by rw [IntKind.wrap_i64]; omega
          clear pw ex eq
          go_upto_region 12 with (fail)
          (refine wp_region_quiet_below (by kernel_rfl) (by kernel_rfl) ?_; (repeat (go_big_quiet_step ((with_reducible exact Calls.regrown_of (CA.out _ (hb.trans ((below_regrown _ _ _).mono hb.size))))))); refine wpQuiet_nil ?_)
          intro w5 hU
          have KU := Rd.below_of_regrown hU
          have L5 : Below X.heap.size X w5 := by repeat' (first | (with_reducible exact Below.refl _ _) | (with_reducible refine Rd.below_step ?_ (by assumption)) | (with_reducible refine Rd.below_alloc ?_ _) | (with_reducible refine Rd.below_drewN ?_ _) | (with_reducible refine Below.drew ?_) | (with_reducible refine Below.setCell ?_ ?_ _) | (with_reducible refine Rd.below_setRow ?_ ?_ _) | go_size | (simp only [World.size_alloc]; omega) | omega)
          have bW5 := (blk_below L5 _ (blk_lt hbW)).trans hbW
          clear hU KU hbWY lW CA bG lG px4 hc
          cases q
          case true =>
            have HF2 : Hid (∀ i, j ≤ i → i < l.length → aheadB d [L, X0, Y0, mx] (at_ l i) = true) := Lib.hid fun i h1 h2 => by
              by_cases e : i = j
              · rw [e]; exact EQ.out
              · exact HF.out i (by omega) h2
            go_wp2
            go_roundw
            case rel => exact ⟨j, by omega, by go_num, HF2, L5⟩
            case measure => simp [intOf]
          case false =>
            have HP := Lib.hid (posR_eq (k := j + 1) (x := [L, X0, Y0, mx]) hk HF.out (.inr EQ.out))
            obtain ⟨k, ek⟩ : ∃ k, j + 1 = k := ⟨_, rfl⟩
            rw [ek] at HP hk ⊢
            have HA9 : Hid (((some (⟨b, o, none⟩ : Addr) : Option Addr) = none ∧ l.length = 0 ∧ c9 = 0) ∨ ∃ g9, (some (⟨b, o, none⟩ : Addr) : Option Addr) = some ⟨g9, 0, none⟩) := Lib.hid (own_addr hown)
            clear hpos hposn hwr hwr2 EQ ek hki HF hkl h0
            generalize hA : (some (⟨b, o, none⟩ : Addr)) = a9 at hown hrow HA9 ⊢
            clear hA
            have HR1 : Hid (Reads w5 4 a9 k (fl (l.take k))) := Lib.hid ((reads_take hown hw4 rfl k hk).below L5 (Nat.le_refl _))
            have HR2 : Hid (∀ ad9 : Option Addr, (l.length - k = 0 ∨ ∃ g9, a9 = some ⟨g9, 0, none⟩ ∧ ad9 = some ⟨g9, k * 4, none⟩) → Reads w5 4 ad9 (l.length - k) (fl (l.drop k))) := Lib.hid fun ad9 h9 => (reads_drop hown hw4 rfl k hk ad9 h9).below L5 (Nat.le_refl _)
            have hki9 : (k : Int) ≤ (l.length : Int) := by omega
            have hki8 : (k : Int) ≤ (c9 : Int) := by omega
            have hki7 : (l.length : Int) ≤ (c9 : Int) := by omega
            go_upto_region 14 with (fail)
            refine PredU.region_of (W := w5) (fun p9 y9 z9 => p9 = 0 → ∀ g9, blk y9 g9 = some (.cells #[.int .i64 L, .int .i64 X0, .int .i64 Y0, .int .i64 mx] 36 (0, 0)) → blk z9 g9 = some (.cells #[.int .i64 L, .int .i64 X0, .int .i64 Y0, .int .i64 mx] 36 (0, 0))) (w5.heap.size) (Nat.le_refl _) [4, 7, 11] [
                fun y9 => Below w5.heap.size w5 y9,
                fun y9 => Below w5.heap.size w5 y9,
                fun y9 => Below w5.heap.size w5 y9,
                fun y9 => Below w5.heap.size w5 y9] [
                PredU.When 0 (NoneW w5.heap.size),
                PredU.At 0 (.slice a9 l.length c9),
                PredU.At 0 (.int .i64 (k : Int)),
                PredU.At 0 (.slice a9 k c9),
                PredU.When 1 (fun u y9 => y9.ownsRow w5.heap.size 36 4 u (k) (fl (l.take k))),
                PredU.At 0 (.agg #[.int .i64 L, .int .i64 X0, .int .i64 Y0, .int .i64 mx]),
                PredU.Til 1 (OneW #[.int .i64 L, .int .i64 X0, .int .i64 Y0, .int .i64 mx]),
                PredU.When 2 (fun u y9 => y9.ownsRow w5.heap.size 36 4 u (k + 1) (fl (l.take k ++ [[L, X0, Y0, mx]]))),
                PredU.At 0 (.slice a9 l.length c9),
                PredU.At 0 (.int .i64 (k : Int)),
                Ever (fun u => ∃ (ad9 : Option Addr) (cd9 : Nat), u = .slice ad9 (l.length - k) cd9 ∧ Reads w5 4 ad9 (l.length - k) (fl (l.drop k))),
                PredU.When 3 (fun u y9 => y9.ownsRow w5.heap.size 36 4 u (l.length + 1) (fl (l.take k ++ [L, X0, Y0, mx] :: l.drop k))),
                PredU.When 3 (fun u y9 => y9.ownsRow w5.heap.size 36 4 u (l.length + 1) (fl (l.take k ++ [L, X0, Y0, mx] :: l.drop k)))] (by kernel_rfl) (by kernel_rfl) (by kernel_rfl) (by decide) (by decide) ?_ ?_ ?_ ?_ ?_ ?_
            · exact ⟨PredU.when_stab _ _ _ _ (fun u y y' h hb => nonew_below h hb), PredU.at_stab _ _ _ _ _, PredU.at_stab _ _ _ _ _, PredU.at_stab _ _ _ _ _, PredU.when_stab _ _ _ _ (fun u y y' h hb => owns_below h hb), PredU.at_stab _ _ _ _ _, onew_stab _ _ _, PredU.when_stab _ _ _ _ (fun u y y' h hb => owns_below h hb), PredU.at_stab _ _ _ _ _, PredU.at_stab _ _ _ _ _, ever_stab _ _ _, PredU.when_stab _ _ _ _ (fun u y y' h hb => owns_below h hb), PredU.when_stab _ _ _ _ (fun u y y' h hb => owns_below h hb), trivial⟩
            · intro q hq
              rcases List.mem_cons.1 hq with rfl | hq
              · exact fun y y' h hb => h.trans (hb.mono h.size)
              rcases List.mem_cons.1 hq with rfl | hq
              · exact fun y y' h hb => h.trans (hb.mono h.size)
              rcases List.mem_cons.1 hq with rfl | hq
              · exact fun y y' h hb => h.trans (hb.mono h.size)
              rcases List.mem_cons.1 hq with rfl | hq
              · exact fun y y' h hb => h.trans (hb.mono h.size)
              cases hq
            · exact Below.refl _ _
            · refine ⟨.inr ?_, .inr ?_, .inr ?_, .inr ?_, .inl rfl, .inr ?_, .inr ?_, .inl rfl, .inr ?_, .inr ?_, .inr ?_, .inl rfl, .inr ?_, trivial⟩
              · intro b9 X ph hE hd hn hS hV hI hF
                have hp0 : ph = 0 := Nat.le_zero.1 (hF 0 4 rfl (Pred.waits_near (by kernel_rfl) (by kernel_rfl)))
                subst hp0
                have hXs : w5.heap.size ≤ X.heap.size := hE.size
                exact Pred.yields_run (v := .slice (some ⟨X.heap.size, 0, none⟩) 0 0) (w' := X.alloc (.cells #[] 36)) (Pred.wanted_none rfl) (by go_simp) ⟨(Below.refl _ _).alloc (Nat.le_refl _) _, Nat.zero_le _, fun _ => ⟨X.heap.size, rfl, hXs, blk_alloc_at _ _ _ rfl⟩⟩
              · intro b9 X ph hE hd hn hS hV hI hF
                have r9 : b9.tmps[9]?.getD undef = .slice a9 l.length c9 := (hn 9 (by kernel_rfl)).trans rfl
                exact Pred.yields_run (v := .slice a9 l.length c9) (Pred.wanted_none rfl) (by go_simp) ⟨Below.refl _ _, rfl, Nat.zero_le _⟩
              · intro b9 X ph hE hd hn hS hV hI hF
                have r11 : b9.tmps[11]?.getD undef = .int .i64 (k : Int) := (hn 11 (by kernel_rfl)).trans rfl
                exact Pred.yields_run (v := .int .i64 (k : Int)) (Pred.wanted_none rfl) (by go_simp) ⟨Below.refl _ _, rfl, Nat.zero_le _⟩
              · intro b9 X ph hE hd hn hS hV hI hF
                obtain ⟨r86, j86⟩ : PredU.At 0 (.slice a9 l.length c9) (b9.tmps[86]?.getD undef) X ph := hV 1 _ 86 rfl rfl (Pred.waits_near (by kernel_rfl) (by kernel_rfl))
                obtain ⟨r87, j87⟩ : PredU.At 0 (.int .i64 (k : Int)) (b9.tmps[87]?.getD undef) X ph := hV 2 _ 87 rfl rfl (Pred.waits_near (by kernel_rfl) (by kernel_rfl))
                rcases HA9.out with ⟨h0, h1, h2⟩ | ⟨g9, h0⟩
                · subst h0
                  subst h2
                  obtain rfl : k = 0 := by omega
                  exact Pred.yields_run (v := .slice none 0 0) (Pred.wanted_none rfl) (by go_simp) ⟨Below.refl _ _, rfl, Nat.zero_le _⟩
                · subst h0
                  have h4 : k ≤ c9 := by omega
                  exact Pred.yields_run (v := .slice (some ⟨g9, 0, none⟩) k c9) (Pred.wanted_none rfl) (by go_simp) ⟨Below.refl _ _, rfl, Nat.zero_le _⟩
              · intro b9 X ph hE hd hn hS hV hI hF
                have r8 : b9.tmps[8]?.getD undef = .pointer (some ⟨tw, 0, none⟩) := (hn 8 (by kernel_rfl)).trans rfl
                have hp1 : ph ≤ 1 := hF 1 7 rfl (Pred.waits_near (by kernel_rfl) (by kernel_rfl))
                have hb0 : Below w5.heap.size w5 X := by
                  rcases (show ph = 0 ∨ ph = 1 by omega) with rfl | rfl <;> exact hS
                have z := (blk_below hb0 _ (blk_lt bW5)).trans bW5
                exact Pred.yields_run (v := .agg #[.int .i64 L, .int .i64 X0, .int .i64 Y0, .int .i64 mx]) (Pred.wanted_none rfl) (by go_simp) ⟨Below.refl _ _, rfl, Nat.zero_le _⟩
              · intro b9 X ph hE hd hn hS hV hI hF
                obtain ⟨r90, j90⟩ : PredU.At 0 (.agg #[.int .i64 L, .int .i64 X0, .int .i64 Y0, .int .i64 mx]) (b9.tmps[90]?.getD undef) X ph := hV 5 _ 90 rfl rfl (Pred.waits_near (by kernel_rfl) (by kernel_rfl))
                exact Pred.yields_run (v := .slice (some ⟨X.heap.size, 0, none⟩) 1 1) (w' := X.alloc (.cells #[.int .i64 L, .int .i64 X0, .int .i64 Y0, .int .i64 mx] 36)) (Pred.wanted_none rfl) (by go_simp) ⟨(Below.refl _ _).alloc (Nat.le_refl _) _, fun _ => ⟨X.heap.size, rfl, blk_alloc_at _ _ _ rfl⟩⟩
              · intro b9 X ph hE hd hn hS hV hI hF
                have r9 : b9.tmps[9]?.getD undef = .slice a9 l.length c9 := (hn 9 (by kernel_rfl)).trans rfl
                exact Pred.yields_run (v := .slice a9 l.length c9) (Pred.wanted_none rfl) (by go_simp) ⟨Below.refl _ _, rfl, Nat.zero_le _⟩
              · intro b9 X ph hE hd hn hS hV hI hF
                have r11 : b9.tmps[11]?.getD undef = .int .i64 (k : Int) := (hn 11 (by kernel_rfl)).trans rfl
                exact Pred.yields_run (v := .int .i64 (k : Int)) (Pred.wanted_none rfl) (by go_simp) ⟨Below.refl _ _, rfl, Nat.zero_le _⟩
              · intro b9 X ph hE hd hn hS hV hI hF
                obtain ⟨r93, j93⟩ : PredU.At 0 (.slice a9 l.length c9) (b9.tmps[93]?.getD undef) X ph := hV 8 _ 93 rfl rfl (Pred.waits_near (by kernel_rfl) (by kernel_rfl))
                obtain ⟨r94, j94⟩ : PredU.At 0 (.int .i64 (k : Int)) (b9.tmps[94]?.getD undef) X ph := hV 9 _ 94 rfl rfl (Pred.waits_near (by kernel_rfl) (by kernel_rfl))
                rcases HA9.out with ⟨h0, h1, h2⟩ | ⟨g9, h0⟩
                · subst h0
                  subst h2
                  obtain rfl : k = 0 := by omega
                  have h9 := HR2.out none (.inl (by omega))
                  rw [h1] at r93 h9 ⊢
                  exact Pred.yields_run (v := .slice none 0 0) (Pred.wanted_none rfl) (by go_simp) ⟨Below.refl _ _, none, 0, rfl, h9⟩
                · subst h0
                  have h4 : k ≤ l.length := by omega
                  by_cases h5 : c9 = k
                  · have h6 : l.length - k = 0 := by omega
                    subst h5
                    exact Pred.yields_run (v := .slice (some ⟨g9, 0, none⟩) (l.length - c9) 0) (Pred.wanted_none rfl) (by go_simp) ⟨Below.refl _ _, _, _, rfl, HR2.out _ (.inl h6)⟩
                  · exact Pred.yields_run (v := .slice (some ⟨g9, k * 4, none⟩) (l.length - k) (c9 - k)) (Pred.wanted_none rfl) (by go_simp) ⟨Below.refl _ _, _, _, rfl, HR2.out _ (.inr ⟨g9, rfl, rfl⟩)⟩
              · intro b9 X ph hE hd hn hS hV hI hF
                obtain ⟨j96, r96⟩ : PredU.When 3 (fun u y9 => y9.ownsRow w5.heap.size 36 4 u (l.length + 1) (fl (l.take k ++ [L, X0, Y0, mx] :: l.drop k))) (b9.tmps[96]?.getD undef) X ph := hV 11 _ 96 rfl rfl (Pred.waits_near (by kernel_rfl) (by kernel_rfl))
                have hown := r96
                exact Pred.yields_run (v := b9.tmps[96]?.getD undef) (Pred.wanted_none rfl) (by go_simp) ⟨Below.refl _ _, j96, hown⟩
            · refine ⟨?_, ?_, ?_, trivial⟩
              · refine ⟨_, rfl, fun k hk => (by cases hk), fun b9 X hE hd hn hS hV hI => ?_⟩
                obtain ⟨j85, r85⟩ : PredU.When 0 (NoneW w5.heap.size) (b9.tmps[85]?.getD undef) X 0 := hV 0 _ 85 rfl rfl (Pred.waits_near (by kernel_rfl) (by kernel_rfl))
                obtain ⟨r88, j88⟩ : PredU.At 0 (.slice a9 k c9) (b9.tmps[88]?.getD undef) X 0 := hV 3 _ 88 rfl rfl (Pred.waits_near (by kernel_rfl) (by kernel_rfl))
                replace hS : (fun y9 => Below w5.heap.size w5 y9) X := hS
                obtain ⟨g9, hg9, hlo9, hb9⟩ := r85 rfl
                have hXs := hS.size
                have ho9 : X.ownsRow w5.heap.size 36 4 (.slice (some ⟨g9, 0, none⟩) 0 0) 0 (fl []) := ⟨rfl, .inr ⟨g9, 0, _, rfl, hlo9, hb9, Nat.le_refl _, by decide, rfl, rfl⟩⟩
                refine yields_app_r rfl (.tmp 85) (.tmp 88) rfl w5.heap.size (.slice (some ⟨g9, 0, none⟩) 0 0) 0 [] (by simpa [Act.eval] using hg9) ho9 a9 k c9 (l.take k) (by simpa [Act.eval] using r88) (HR1.out.below hS (Nat.le_refl _)) (by omega) (by omega) ?_
                intro u y hown hgr
                rw [Nat.zero_add, List.nil_append] at hown
                have hbw := OctA.below_grownBy (B := w5.heap.size) hgr (by omega) (fun k hk => by cases hk; exact hlo9)
                refine ⟨⟨hbw, fun _ g hg => hgr.block g (blk_lt hg) (fun e => ?_) |>.trans hg⟩, hS.trans hbw, Nat.le_refl _, fun _ => hown⟩
                have e8 : some g = some g9 := e
                cases e8
                have e7 := hb9.symm.trans hg
                simp at e7
              · refine ⟨_, rfl, fun k hk => (by cases hk; exact Pred.waits_near (by kernel_rfl) (by kernel_rfl)), fun b9 X hE hd hn hS hV hI => ?_⟩
                obtain ⟨j89, r89⟩ : PredU.When 1 (fun u y9 => y9.ownsRow w5.heap.size 36 4 u (k) (fl (l.take k))) (b9.tmps[89]?.getD undef) X 1 := hV 4 _ 89 rfl rfl (Pred.waits_near (by kernel_rfl) (by kernel_rfl))
                have r91 : (OneW #[.int .i64 L, .int .i64 X0, .int .i64 Y0, .int .i64 mx]) (b9.tmps[91]?.getD undef) X := (show PredU.Til 1 (OneW #[.int .i64 L, .int .i64 X0, .int .i64 Y0, .int .i64 mx]) (b9.tmps[91]?.getD undef) X 1 from hV 6 _ 91 rfl rfl (Pred.waits_near (by kernel_rfl) (by kernel_rfl))) (by omega)
                replace hS : (fun y9 => Below w5.heap.size w5 y9) X := hS
                have ho9 := r89 rfl
                obtain ⟨g9, hg9, hb9⟩ := r91
                have hXs := hS.size
                refine yields_app_r rfl (.tmp 89) (.tmp 91) rfl w5.heap.size _ k _ rfl (by simpa [Act.eval] using ho9) (some ⟨g9, 0, none⟩) 1 1 [[L, X0, Y0, mx]] (by simpa [Act.eval] using hg9) (reads_one hb9) (by omega) (by omega) ?_
                intro u y hown hgr
                have hbw := OctA.below_grownBy (B := w5.heap.size) hgr (by omega) (fun k hk => (ho9.lt k (by simpa [Act.eval] using hk)).1)
                exact ⟨⟨hbw, fun e => absurd e (by decide)⟩, hS.trans hbw, Nat.le_refl _, fun _ => hown⟩
              · refine ⟨_, rfl, fun k hk => (by cases hk; exact Pred.waits_near (by kernel_rfl) (by kernel_rfl)), fun b9 X hE hd hn hS hV hI => ?_⟩
                obtain ⟨j92, r92⟩ : PredU.When 2 (fun u y9 => y9.ownsRow w5.heap.size 36 4 u (k + 1) (fl (l.take k ++ [[L, X0, Y0, mx]]))) (b9.tmps[92]?.getD undef) X 2 := hV 7 _ 92 rfl rfl (Pred.waits_near (by kernel_rfl) (by kernel_rfl))
                have r95 : (fun u => ∃ (ad9 : Option Addr) (cd9 : Nat), u = .slice ad9 (l.length - k) cd9 ∧ Reads w5 4 ad9 (l.length - k) (fl (l.drop k))) (b9.tmps[95]?.getD undef) := hV 10 _ 95 rfl rfl (Pred.waits_near (by kernel_rfl) (by kernel_rfl))
                replace hS : (fun y9 => Below w5.heap.size w5 y9) X := hS
                have ho9 := r92 rfl
                obtain ⟨ad9, cd9, hg9, hr9⟩ := r95
                have hXs := hS.size
                refine yields_app_r rfl (.tmp 92) (.tmp 95) rfl w5.heap.size _ (k + 1) _ rfl (by simpa [Act.eval] using ho9) ad9 (l.length - k) cd9 (l.drop k) (by simpa [Act.eval] using hg9) (hr9.below hS (Nat.le_refl _)) (by omega) (by omega) ?_
                intro u y hown hgr
                rw [show k + 1 + (l.length - k) = l.length + 1 by omega, List.append_assoc, List.singleton_append] at hown
                have hbw := OctA.below_grownBy (B := w5.heap.size) hgr (by omega) (fun k hk => (ho9.lt k (by simpa [Act.eval] using hk)).1)
                exact ⟨⟨hbw, fun e => absurd e (by decide)⟩, hS.trans hbw, Nat.le_refl _, fun _ => hown⟩
            intro v w6 hE hS hv
            replace hS : (fun y9 => Below w5.heap.size w5 y9) w6 := hS
            generalize hg0 : v 0 = vv0
            have e1 : v 1 = .slice a9 l.length c9 := (hv 1 _ 86 rfl rfl).1
            have e2 : v 2 = .int .i64 (k : Int) := (hv 2 _ 87 rfl rfl).1
            have e3 : v 3 = .slice a9 k c9 := (hv 3 _ 88 rfl rfl).1
            generalize hg4 : v 4 = vv4
            have e5 : v 5 = .agg #[.int .i64 L, .int .i64 X0, .int .i64 Y0, .int .i64 mx] := (hv 5 _ 90 rfl rfl).1
            generalize hg6 : v 6 = vv6
            generalize hg7 : v 7 = vv7
            have e8 : v 8 = .slice a9 l.length c9 := (hv 8 _ 93 rfl rfl).1
            have e9 : v 9 = .int .i64 (k : Int) := (hv 9 _ 94 rfl rfl).1
            generalize hg10 : v 10 = vv10
            generalize hg11 : v 11 = vv11
            have HQR : w6.ownsRow w5.heap.size 36 4 (v 12) (l.length + 1) (fl (l.take k ++ [L, X0, Y0, mx] :: l.drop k)) := (hv 12 _ 12 rfl rfl).2 rfl
            generalize hg12 : v 12 = vv12 at HQR
            simp only [Pred.putsF_cons, Pred.putsF_nil, Nat.zero_add, Nat.reduceAdd, hg0, e1, e2, e3, hg4, e5, hg6, hg7, e8, e9, hg10, hg11, hg12, Act.put, List.setIfInBounds_toArray, List.set_cons_zero, List.set_cons_succ]
            clear hg0 e1 e2 e3 hg4 e5 hg6 hg7 e8 e9 hg10 hg11 hg12 hv
            have HR : Hid (rall d r [L, X0, Y0] n = l.take k ++ [L, X0, Y0, mx] :: l.drop k) := Lib.hid (by rw [EA.out, HP.out])
            have hRl : (l.take k ++ [L, X0, Y0, mx] :: l.drop k).length = l.length + 1 := by simp; omega
            obtain ⟨R, eR⟩ : ∃ R, l.take k ++ [L, X0, Y0, mx] :: l.drop k = R := ⟨_, rfl⟩
            have hR4 : W4 R := by
              rw [← eR]
              intro v hv
              rcases List.mem_append.1 hv with h1 | h1
              · exact hw4 v (List.mem_of_mem_take h1)
              · rcases List.mem_cons.1 h1 with rfl | h1
                · rfl
                · exact hw4 v (List.mem_of_mem_drop h1)
            rw [eR] at HR HQR hRl
            obtain ⟨a7, c7, rfl, hc7, hm7⟩ := Rd.owns_val HQR
            have hrow7 := rwAt_of_owns HQR hRl.symm hR4
            obtain ⟨g7, c7', -, ea7, hlo7⟩ : ∃ g7 c7', c7' = c7 ∧ a7 = some ⟨g7, 0, none⟩ ∧ w5.heap.size ≤ g7 := by
              rcases HQR.2 with ⟨e, h0⟩ | ⟨g, cap, cur, e, hb, _⟩
              · omega
              · cases e; exact ⟨g, _, rfl, rfl, hb⟩
            subst ea7
            have L6 : Below w.heap.size w w6 := (HLOW.out.trans (L5.mono hXs)).trans (hE.mono (by have := L5.size; omega))
            have hw5 : w.heap.size ≤ w5.heap.size := by have := L5.size; omega
            have Hq6 := Lib.hid (HQ.out.bel L6)
            have bP6 : blk w6 w.heap.size = some (.cells #[.int .i64 L, .int .i64 X0, .int .i64 Y0] 24 (0, 0)) := (blk_below hE _ (by have := L5.size; have := blk_lt hbP; omega)).trans ((blk_below L5 _ (blk_lt hbP)).trans hbP)
            have c60 : w6.cell? ⟨t, 0, none⟩ = some (.int .i64 most) := by rw [blk_cell Hq6.out.t]; rfl
            have c62 : w6.cell? ⟨t, 2, none⟩ = some (.slice ad r.length c) := by rw [blk_cell Hq6.out.t]; rfl
            have f62 : w6.frozen? ⟨t, 2, none⟩ = false := blk_frozen Hq6.out.t 2
            unfold maxLen at hm7
            clear hS hE HR1 HR2 HQR HP EA eR bW5 hki9 hki8 hki7 hrow hown hbW hbP hlo L5 HA9 hb
            by_cases hle : l.length + 1 ≤ most
            · have hli : ((l.length + 1 : Nat) : Int) ≤ (most : Int) := by omega
              have hli2 : ((l.length : Int) + 1) ≤ (most : Int) := by omega
              go_wp2
              go_ret2
              refine ⟨⟨L6.os, L6.tape, L6.output, by simpa using L6.size, fun j h1 h2 => (heap_setCell_other _ _ _ _ (by show j ≠ t; intro e; exact h2 (by rw [e]))).trans (L6.block j h1)⟩, none, 0, some ⟨g7, 0, none⟩, c7, ?_⟩
              rw [HR.out]
              refine ⟨fun _ => ⟨rfl, ⟨?_, hrow7.kept fun a ea => ?_, by rw [hRl]; exact ⟨hc7, by omega⟩⟩⟩, fun h1 => absurd h1 (by omega), fun h1 => absurd h1 (by omega), fun a ea => .inr ?_⟩
              · rw [hRl]; exact blk_set _ _ _ _ _ _ Hq6.out.t
              · injection ea with ea
                subst ea
                exact heap_setCell_other _ _ _ _ (by show g7 ≠ t; omega)
              · injection ea with ea
                subst ea
                obtain ⟨b7, o7, cc, e7, bG, -⟩ := hrow7.row (i := l.length) (by omega)
                injection e7 with e7
                injection e7 with e7 e8
                subst e7
                have := blk_lt bG
                refine ⟨by show w.heap.size ≤ g7; omega, ?_⟩
                show g7 < _
                simpa using this
            · have hli : ¬ ((l.length + 1 : Nat) : Int) ≤ (most : Int) := by omega
              have hli2 : ¬ ((l.length : Int) + 1) ≤ (most : Int) := by omega
              obtain ⟨b7, o7, cc, e7, bG, hc, -, pw⟩ := hrow7.row (i := l.length) (by omega)
              obtain ⟨y0, y1, y2, y3, ey⟩ := len4 (hR4 (at_ R l.length) (by rw [at_eq (by omega)]; exact List.getElem_mem _))
              injection e7 with e7
              injection e7 with e7 e8
              subst e7
              subst e8
              rw [ey] at pw
              rw [Nat.zero_add] at pw hc
              have px3 : Mid.piece cc (l.length * 4) 3 = #[.int .i64 y0, .int .i64 y1, .int .i64 y2] := pw
              have hc3 : l.length * 4 + 3 ≤ cc.size := by omega
              have EY := Lib.hid ey
              have hll : ((l.length + 1 : Nat) : Int) - 1 = (l.length : Int) := by omega
              have hwr : wrap64 (((l.length + 1 : Nat) : Int) - 1) = (l.length : Int) := by unfold wrap64; omega
              have hwr2 : IntKind.i64.wrap (((l.length + 1 : Nat) : Int) - 1) = (l.length : Int) := by rw [IntKind.wrap_i64]; omega
              have hc7i : (l.length : Int) ≤ (c7 : Int) := by omega
              have hc7n : l.length ≤ c7 := by omega
              have lP6 := blk_lt bP6
              have lG := blk_lt bG
              have hT6 : t < w6.heap.size := blk_lt Hq6.out.t
              clear pw ey hc
              have hmost : most < R.length := by omega
              have hR1 : R.length - 1 = l.length := by omega
              by_cases hpe : pgOf [y0, y1, y2, y3] = [L, X0, Y0]
              · have he : eqL [y0, y1, y2] [L, X0, Y0] = true := decide_eq_true hpe
                go_wp2
                go_ret2
                have hba : Below w6.heap.size w6 (w6.alloc (.cells #[.int .i64 y0, .int .i64 y1, .int .i64 y2] 24)) := (Below.refl _ _).alloc (Nat.le_refl _) _
                have L8 := L6.trans (hba.mono L6.size)
                refine ⟨⟨L8.os, L8.tape, L8.output, L8.size, fun j h1 _ => L8.block j h1⟩, none, 0, ad, c, ?_⟩
                rw [HR.out, hR1, EY.out]
                exact ⟨fun h1 => absurd h1 (by omega), fun _ _ => ⟨rfl, Hq6.out.bel hba⟩, fun _ h1 => absurd hpe h1, fun a ea => .inl rfl⟩
              · have he : eqL [y0, y1, y2] [L, X0, Y0] = false := decide_eq_false hpe
                go_upto_region 22 with (fail)
                refine Rd.name_world ?_
                intro w8 hw
                obtain ⟨w7, e7⟩ : ∃ w7, w6.setCell ⟨t, 2, none⟩ (.slice (some ⟨g7, 0, none⟩) l.length c7) = w7 := ⟨_, rfl⟩
                have hG7 : w.grownBy w7 (some t) := by
                  rw [← e7]
                  exact ⟨L6.os, L6.tape, L6.output, by simpa using L6.size, fun j h1 h2 => (heap_setCell_other _ _ _ _ (by show j ≠ t; intro e; exact h2 (by rw [e]))).trans (L6.block j h1)⟩
                have hR7 : Rq w7 t most d (some ⟨g7, 0, none⟩) c7 (R.take l.length) := by
                  have hl : (R.take l.length).length = l.length := by rw [List.length_take]; omega
                  rw [← e7]
                  refine ⟨?_, (hrow7.take l.length).kept fun a ea => ?_, by rw [hl]; exact ⟨hc7n, by omega⟩⟩
                  · rw [hl]; exact blk_set _ _ _ _ _ _ Hq6.out.t
                  · injection ea with ea
                    subst ea
                    exact heap_setCell_other _ _ _ _ (by show g7 ≠ t; omega)
                have hz7 : w7.heap.size = w6.heap.size := by rw [← e7]; simp
                rw [e7] at hw
                have hba : Below w7.heap.size w7 w8 := by rw [hw]; exact (Below.refl _ _).alloc (Nat.le_refl _) _
                have hB8 : blk w8 w6.heap.size = some (.cells #[.int .i64 y0, .int .i64 y1, .int .i64 y2] 24 (0, 0)) := by
                  rw [hw]
                  exact blk_alloc_at _ _ _ hz7.symm
                have hG8 : w.grownBy w8 (some t) := ⟨hba.os.trans hG7.os, hba.tape.trans hG7.tape, hba.output.trans hG7.output, Nat.le_trans hG7.size hba.size, fun j h1 h2 => (hba.block j (by have := hG7.size; omega)).trans (hG7.block j h1 h2)⟩
                have hR8 := hR7.bel hba
                have hs8 : w6.heap.size ≤ w8.heap.size := by have := hba.size; omega
                have HG8 := Lib.hid hG8
                have HR8 := Lib.hid hR8
                clear hw hG7 hR7 hG8 hR8 e7 hba hz7
                go_wp2
                go_ret2
                have hbb : Below w8.heap.size w8 (w8.alloc (.cells #[.int .i64 y0, .int .i64 y1, .int .i64 y2] 24)) := (Below.refl _ _).alloc (Nat.le_refl _) _
                refine ⟨⟨hbb.os.trans HG8.out.os, hbb.tape.trans HG8.out.tape, hbb.output.trans HG8.out.output, Nat.le_trans HG8.out.size hbb.size, fun j h1 h2 => (hbb.block j (by have := HG8.out.size; omega)).trans (HG8.out.block j h1 h2)⟩, some ⟨w8.heap.size, 0, none⟩, 1, some ⟨g7, 0, none⟩, c7, ?_⟩
                rw [HR.out, hR1, EY.out]
                refine ⟨fun h1 => absurd h1 (by omega), fun _ h1 => absurd h1 hpe, fun _ _ => ⟨rfl, ⟨fun v hv => by rw [List.mem_singleton.1 hv]; rfl, .inr ⟨w8.heap.size, 0, rfl, by simp, fun i hi j hj => ?_⟩⟩, HR8.out.bel hbb⟩, fun a ea => .inr ?_⟩
                · obtain rfl : i = 0 := by simpa using hi
                  rw [blk_cell (blk_alloc_at _ _ _ rfl)]
                  match j, hj with
                  | 0, _ => rfl
                  | 1, _ => rfl
                  | 2, _ => rfl
                · injection ea with ea
                  subst ea
                  have h1 : g7 < w8.heap.size := by omega
                  refine ⟨by show w.heap.size ≤ g7; omega, ?_⟩
                  show g7 < _
                  have := hbb.size
                  omega
        · have HP := Lib.hid (posR_eq (k := k) (x := [L, X0, Y0, mx]) hk HF.out (.inl (by omega)))
          have h0i : decide (0 < (k : Int)) = false := decide_eq_false (by omega)
          have h0n : decide (0 < k) = false := decide_eq_false h0
          go_upto_region 12 with (fail)
          (refine wp_region_quiet_below (by kernel_rfl) (by kernel_rfl) ?_; (repeat (go_big_quiet_step ((fail)))); refine wpQuiet_nil ?_)
          intro w5 hU
          have KU := Rd.below_of_regrown hU
          have L5 : Below X.heap.size X w5 := by repeat' (first | (with_reducible exact Below.refl _ _) | (with_reducible refine Rd.below_step ?_ (by assumption)) | (with_reducible refine Rd.below_alloc ?_ _) | (with_reducible refine Rd.below_drewN ?_ _) | (with_reducible refine Below.drew ?_) | (with_reducible refine Below.setCell ?_ ?_ _) | (with_reducible refine Rd.below_setRow ?_ ?_ _) | go_size | (simp only [World.size_alloc]; omega) | omega)
          have bW5 := (blk_below L5 _ (blk_lt hbW)).trans hbW
          have HA9 := Lib.hid (own_addr hown)
          clear hU KU hbWY lW h0i h0n HF h0
          have HR1 : Hid (Reads w5 4 a9 k (fl (l.take k))) := Lib.hid ((reads_take hown hw4 rfl k hk).below L5 (Nat.le_refl _))
          have HR2 : Hid (∀ ad9 : Option Addr, (l.length - k = 0 ∨ ∃ g9, a9 = some ⟨g9, 0, none⟩ ∧ ad9 = some ⟨g9, k * 4, none⟩) → Reads w5 4 ad9 (l.length - k) (fl (l.drop k))) := Lib.hid fun ad9 h9 => (reads_drop hown hw4 rfl k hk ad9 h9).below L5 (Nat.le_refl _)
          have hki9 : (k : Int) ≤ (l.length : Int) := by omega
          have hki8 : (k : Int) ≤ (c9 : Int) := by omega
          have hki7 : (l.length : Int) ≤ (c9 : Int) := by omega
          go_upto_region 14 with (fail)
          refine PredU.region_of (W := w5) (fun p9 y9 z9 => p9 = 0 → ∀ g9, blk y9 g9 = some (.cells #[.int .i64 L, .int .i64 X0, .int .i64 Y0, .int .i64 mx] 36 (0, 0)) → blk z9 g9 = some (.cells #[.int .i64 L, .int .i64 X0, .int .i64 Y0, .int .i64 mx] 36 (0, 0))) (w5.heap.size) (Nat.le_refl _) [4, 7, 11] [
              fun y9 => Below w5.heap.size w5 y9,
              fun y9 => Below w5.heap.size w5 y9,
              fun y9 => Below w5.heap.size w5 y9,
              fun y9 => Below w5.heap.size w5 y9] [
              PredU.When 0 (NoneW w5.heap.size),
              PredU.At 0 (.slice a9 l.length c9),
              PredU.At 0 (.int .i64 (k : Int)),
              PredU.At 0 (.slice a9 k c9),
              PredU.When 1 (fun u y9 => y9.ownsRow w5.heap.size 36 4 u (k) (fl (l.take k))),
              PredU.At 0 (.agg #[.int .i64 L, .int .i64 X0, .int .i64 Y0, .int .i64 mx]),
              PredU.Til 1 (OneW #[.int .i64 L, .int .i64 X0, .int .i64 Y0, .int .i64 mx]),
              PredU.When 2 (fun u y9 => y9.ownsRow w5.heap.size 36 4 u (k + 1) (fl (l.take k ++ [[L, X0, Y0, mx]]))),
              PredU.At 0 (.slice a9 l.length c9),
              PredU.At 0 (.int .i64 (k : Int)),
              Ever (fun u => ∃ (ad9 : Option Addr) (cd9 : Nat), u = .slice ad9 (l.length - k) cd9 ∧ Reads w5 4 ad9 (l.length - k) (fl (l.drop k))),
              PredU.When 3 (fun u y9 => y9.ownsRow w5.heap.size 36 4 u (l.length + 1) (fl (l.take k ++ [L, X0, Y0, mx] :: l.drop k))),
              PredU.When 3 (fun u y9 => y9.ownsRow w5.heap.size 36 4 u (l.length + 1) (fl (l.take k ++ [L, X0, Y0, mx] :: l.drop k)))] (by kernel_rfl) (by kernel_rfl) (by kernel_rfl) (by decide) (by decide) ?_ ?_ ?_ ?_ ?_ ?_
          · exact ⟨PredU.when_stab _ _ _ _ (fun u y y' h hb => nonew_below h hb), PredU.at_stab _ _ _ _ _, PredU.at_stab _ _ _ _ _, PredU.at_stab _ _ _ _ _, PredU.when_stab _ _ _ _ (fun u y y' h hb => owns_below h hb), PredU.at_stab _ _ _ _ _, onew_stab _ _ _, PredU.when_stab _ _ _ _ (fun u y y' h hb => owns_below h hb), PredU.at_stab _ _ _ _ _, PredU.at_stab _ _ _ _ _, ever_stab _ _ _, PredU.when_stab _ _ _ _ (fun u y y' h hb => owns_below h hb), PredU.when_stab _ _ _ _ (fun u y y' h hb => owns_below h hb), trivial⟩
          · intro q hq
            rcases List.mem_cons.1 hq with rfl | hq
            · exact fun y y' h hb => h.trans (hb.mono h.size)
            rcases List.mem_cons.1 hq with rfl | hq
            · exact fun y y' h hb => h.trans (hb.mono h.size)
            rcases List.mem_cons.1 hq with rfl | hq
            · exact fun y y' h hb => h.trans (hb.mono h.size)
            rcases List.mem_cons.1 hq with rfl | hq
            · exact fun y y' h hb => h.trans (hb.mono h.size)
            cases hq
          · exact Below.refl _ _
          · refine ⟨.inr ?_, .inr ?_, .inr ?_, .inr ?_, .inl rfl, .inr ?_, .inr ?_, .inl rfl, .inr ?_, .inr ?_, .inr ?_, .inl rfl, .inr ?_, trivial⟩
            · intro b9 X ph hE hd hn hS hV hI hF
              have hp0 : ph = 0 := Nat.le_zero.1 (hF 0 4 rfl (Pred.waits_near (by kernel_rfl) (by kernel_rfl)))
              subst hp0
              have hXs : w5.heap.size ≤ X.heap.size := hE.size
              exact Pred.yields_run (v := .slice (some ⟨X.heap.size, 0, none⟩) 0 0) (w' := X.alloc (.cells #[] 36)) (Pred.wanted_none rfl) (by go_simp) ⟨(Below.refl _ _).alloc (Nat.le_refl _) _, Nat.zero_le _, fun _ => ⟨X.heap.size, rfl, hXs, blk_alloc_at _ _ _ rfl⟩⟩
            · intro b9 X ph hE hd hn hS hV hI hF
              have r9 : b9.tmps[9]?.getD undef = .slice a9 l.length c9 := (hn 9 (by kernel_rfl)).trans rfl
              exact Pred.yields_run (v := .slice a9 l.length c9) (Pred.wanted_none rfl) (by go_simp) ⟨Below.refl _ _, rfl, Nat.zero_le _⟩
            · intro b9 X ph hE hd hn hS hV hI hF
              have r11 : b9.tmps[11]?.getD undef = .int .i64 (k : Int) := (hn 11 (by kernel_rfl)).trans rfl
              exact Pred.yields_run (v := .int .i64 (k : Int)) (Pred.wanted_none rfl) (by go_simp) ⟨Below.refl _ _, rfl, Nat.zero_le _⟩
            · intro b9 X ph hE hd hn hS hV hI hF
              obtain ⟨r86, j86⟩ : PredU.At 0 (.slice a9 l.length c9) (b9.tmps[86]?.getD undef) X ph := hV 1 _ 86 rfl rfl (Pred.waits_near (by kernel_rfl) (by kernel_rfl))
              obtain ⟨r87, j87⟩ : PredU.At 0 (.int .i64 (k : Int)) (b9.tmps[87]?.getD undef) X ph := hV 2 _ 87 rfl rfl (Pred.waits_near (by kernel_rfl) (by kernel_rfl))
              rcases HA9.out with ⟨h0, h1, h2⟩ | ⟨g9, h0⟩
              · subst h0
                subst h2
                obtain rfl : k = 0 := by omega
                exact Pred.yields_run (v := .slice none 0 0) (Pred.wanted_none rfl) (by go_simp) ⟨Below.refl _ _, rfl, Nat.zero_le _⟩
              · subst h0
                have h4 : k ≤ c9 := by omega
                exact Pred.yields_run (v := .slice (some ⟨g9, 0, none⟩) k c9) (Pred.wanted_none rfl) (by go_simp) ⟨Below.refl _ _, rfl, Nat.zero_le _⟩
            · intro b9 X ph hE hd hn hS hV hI hF
              have r8 : b9.tmps[8]?.getD undef = .pointer (some ⟨tw, 0, none⟩) := (hn 8 (by kernel_rfl)).trans rfl
              have hp1 : ph ≤ 1 := hF 1 7 rfl (Pred.waits_near (by kernel_rfl) (by kernel_rfl))
              have hb0 : Below w5.heap.size w5 X := by
                rcases (show ph = 0 ∨ ph = 1 by omega) with rfl | rfl <;> exact hS
              have z := (blk_below hb0 _ (blk_lt bW5)).trans bW5
              exact Pred.yields_run (v := .agg #[.int .i64 L, .int .i64 X0, .int .i64 Y0, .int .i64 mx]) (Pred.wanted_none rfl) (by go_simp) ⟨Below.refl _ _, rfl, Nat.zero_le _⟩
            · intro b9 X ph hE hd hn hS hV hI hF
              obtain ⟨r90, j90⟩ : PredU.At 0 (.agg #[.int .i64 L, .int .i64 X0, .int .i64 Y0, .int .i64 mx]) (b9.tmps[90]?.getD undef) X ph := hV 5 _ 90 rfl rfl (Pred.waits_near (by kernel_rfl) (by kernel_rfl))
              exact Pred.yields_run (v := .slice (some ⟨X.heap.size, 0, none⟩) 1 1) (w' := X.alloc (.cells #[.int .i64 L, .int .i64 X0, .int .i64 Y0, .int .i64 mx] 36)) (Pred.wanted_none rfl) (by go_simp) ⟨(Below.refl _ _).alloc (Nat.le_refl _) _, fun _ => ⟨X.heap.size, rfl, blk_alloc_at _ _ _ rfl⟩⟩
            · intro b9 X ph hE hd hn hS hV hI hF
              have r9 : b9.tmps[9]?.getD undef = .slice a9 l.length c9 := (hn 9 (by kernel_rfl)).trans rfl
              exact Pred.yields_run (v := .slice a9 l.length c9) (Pred.wanted_none rfl) (by go_simp) ⟨Below.refl _ _, rfl, Nat.zero_le _⟩
            · intro b9 X ph hE hd hn hS hV hI hF
              have r11 : b9.tmps[11]?.getD undef = .int .i64 (k : Int) := (hn 11 (by kernel_rfl)).trans rfl
              exact Pred.yields_run (v := .int .i64 (k : Int)) (Pred.wanted_none rfl) (by go_simp) ⟨Below.refl _ _, rfl, Nat.zero_le _⟩
            · intro b9 X ph hE hd hn hS hV hI hF
              obtain ⟨r93, j93⟩ : PredU.At 0 (.slice a9 l.length c9) (b9.tmps[93]?.getD undef) X ph := hV 8 _ 93 rfl rfl (Pred.waits_near (by kernel_rfl) (by kernel_rfl))
              obtain ⟨r94, j94⟩ : PredU.At 0 (.int .i64 (k : Int)) (b9.tmps[94]?.getD undef) X ph := hV 9 _ 94 rfl rfl (Pred.waits_near (by kernel_rfl) (by kernel_rfl))
              rcases HA9.out with ⟨h0, h1, h2⟩ | ⟨g9, h0⟩
              · subst h0
                subst h2
                obtain rfl : k = 0 := by omega
                have h9 := HR2.out none (.inl (by omega))
                rw [h1] at r93 h9 ⊢
                exact Pred.yields_run (v := .slice none 0 0) (Pred.wanted_none rfl) (by go_simp) ⟨Below.refl _ _, none, 0, rfl, h9⟩
              · subst h0
                have h4 : k ≤ l.length := by omega
                by_cases h5 : c9 = k
                · have h6 : l.length - k = 0 := by omega
                  subst h5
                  exact Pred.yields_run (v := .slice (some ⟨g9, 0, none⟩) (l.length - c9) 0) (Pred.wanted_none rfl) (by go_simp) ⟨Below.refl _ _, _, _, rfl, HR2.out _ (.inl h6)⟩
                · exact Pred.yields_run (v := .slice (some ⟨g9, k * 4, none⟩) (l.length - k) (c9 - k)) (Pred.wanted_none rfl) (by go_simp) ⟨Below.refl _ _, _, _, rfl, HR2.out _ (.inr ⟨g9, rfl, rfl⟩)⟩
            · intro b9 X ph hE hd hn hS hV hI hF
              obtain ⟨j96, r96⟩ : PredU.When 3 (fun u y9 => y9.ownsRow w5.heap.size 36 4 u (l.length + 1) (fl (l.take k ++ [L, X0, Y0, mx] :: l.drop k))) (b9.tmps[96]?.getD undef) X ph := hV 11 _ 96 rfl rfl (Pred.waits_near (by kernel_rfl) (by kernel_rfl))
              have hown := r96
              exact Pred.yields_run (v := b9.tmps[96]?.getD undef) (Pred.wanted_none rfl) (by go_simp) ⟨Below.refl _ _, j96, hown⟩
          · refine ⟨?_, ?_, ?_, trivial⟩
            · refine ⟨_, rfl, fun k hk => (by cases hk), fun b9 X hE hd hn hS hV hI => ?_⟩
              obtain ⟨j85, r85⟩ : PredU.When 0 (NoneW w5.heap.size) (b9.tmps[85]?.getD undef) X 0 := hV 0 _ 85 rfl rfl (Pred.waits_near (by kernel_rfl) (by kernel_rfl))
              obtain ⟨r88, j88⟩ : PredU.At 0 (.slice a9 k c9) (b9.tmps[88]?.getD undef) X 0 := hV 3 _ 88 rfl rfl (Pred.waits_near (by kernel_rfl) (by kernel_rfl))
              replace hS : (fun y9 => Below w5.heap.size w5 y9) X := hS
              obtain ⟨g9, hg9, hlo9, hb9⟩ := r85 rfl
              have hXs := hS.size
              have ho9 : X.ownsRow w5.heap.size 36 4 (.slice (some ⟨g9, 0, none⟩) 0 0) 0 (fl []) := ⟨rfl, .inr ⟨g9, 0, _, rfl, hlo9, hb9, Nat.le_refl _, by decide, rfl, rfl⟩⟩
              refine yields_app_r rfl (.tmp 85) (.tmp 88) rfl w5.heap.size (.slice (some ⟨g9, 0, none⟩) 0 0) 0 [] (by simpa [Act.eval] using hg9) ho9 a9 k c9 (l.take k) (by simpa [Act.eval] using r88) (HR1.out.below hS (Nat.le_refl _)) (by omega) (by omega) ?_
              intro u y hown hgr
              rw [Nat.zero_add, List.nil_append] at hown
              have hbw := OctA.below_grownBy (B := w5.heap.size) hgr (by omega) (fun k hk => by cases hk; exact hlo9)
              refine ⟨⟨hbw, fun _ g hg => hgr.block g (blk_lt hg) (fun e => ?_) |>.trans hg⟩, hS.trans hbw, Nat.le_refl _, fun _ => hown⟩
              have e8 : some g = some g9 := e
              cases e8
              have e7 := hb9.symm.trans hg
              simp at e7
            · refine ⟨_, rfl, fun k hk => (by cases hk; exact Pred.waits_near (by kernel_rfl) (by kernel_rfl)), fun b9 X hE hd hn hS hV hI => ?_⟩
              obtain ⟨j89, r89⟩ : PredU.When 1 (fun u y9 => y9.ownsRow w5.heap.size 36 4 u (k) (fl (l.take k))) (b9.tmps[89]?.getD undef) X 1 := hV 4 _ 89 rfl rfl (Pred.waits_near (by kernel_rfl) (by kernel_rfl))
              have r91 : (OneW #[.int .i64 L, .int .i64 X0, .int .i64 Y0, .int .i64 mx]) (b9.tmps[91]?.getD undef) X := (show PredU.Til 1 (OneW #[.int .i64 L, .int .i64 X0, .int .i64 Y0, .int .i64 mx]) (b9.tmps[91]?.getD undef) X 1 from hV 6 _ 91 rfl rfl (Pred.waits_near (by kernel_rfl) (by kernel_rfl))) (by omega)
              replace hS : (fun y9 => Below w5.heap.size w5 y9) X := hS
              have ho9 := r89 rfl
              obtain ⟨g9, hg9, hb9⟩ := r91
              have hXs := hS.size
              refine yields_app_r rfl (.tmp 89) (.tmp 91) rfl w5.heap.size _ k _ rfl (by simpa [Act.eval] using ho9) (some ⟨g9, 0, none⟩) 1 1 [[L, X0, Y0, mx]] (by simpa [Act.eval] using hg9) (reads_one hb9) (by omega) (by omega) ?_
              intro u y hown hgr
              have hbw := OctA.below_grownBy (B := w5.heap.size) hgr (by omega) (fun k hk => (ho9.lt k (by simpa [Act.eval] using hk)).1)
              exact ⟨⟨hbw, fun e => absurd e (by decide)⟩, hS.trans hbw, Nat.le_refl _, fun _ => hown⟩
            · refine ⟨_, rfl, fun k hk => (by cases hk; exact Pred.waits_near (by kernel_rfl) (by kernel_rfl)), fun b9 X hE hd hn hS hV hI => ?_⟩
              obtain ⟨j92, r92⟩ : PredU.When 2 (fun u y9 => y9.ownsRow w5.heap.size 36 4 u (k + 1) (fl (l.take k ++ [[L, X0, Y0, mx]]))) (b9.tmps[92]?.getD undef) X 2 := hV 7 _ 92 rfl rfl (Pred.waits_near (by kernel_rfl) (by kernel_rfl))
              have r95 : (fun u => ∃ (ad9 : Option Addr) (cd9 : Nat), u = .slice ad9 (l.length - k) cd9 ∧ Reads w5 4 ad9 (l.length - k) (fl (l.drop k))) (b9.tmps[95]?.getD undef) := hV 10 _ 95 rfl rfl (Pred.waits_near (by kernel_rfl) (by kernel_rfl))
              replace hS : (fun y9 => Below w5.heap.size w5 y9) X := hS
              have ho9 := r92 rfl
              obtain ⟨ad9, cd9, hg9, hr9⟩ := r95
              have hXs := hS.size
              refine yields_app_r rfl (.tmp 92) (.tmp 95) rfl w5.heap.size _ (k + 1) _ rfl (by simpa [Act.eval] using ho9) ad9 (l.length - k) cd9 (l.drop k) (by simpa [Act.eval] using hg9) (hr9.below hS (Nat.le_refl _)) (by omega) (by omega) ?_
              intro u y hown hgr
              rw [show k + 1 + (l.length - k) = l.length + 1 by omega, List.append_assoc, List.singleton_append] at hown
              have hbw := OctA.below_grownBy (B := w5.heap.size) hgr (by omega) (fun k hk => (ho9.lt k (by simpa [Act.eval] using hk)).1)
              exact ⟨⟨hbw, fun e => absurd e (by decide)⟩, hS.trans hbw, Nat.le_refl _, fun _ => hown⟩
          intro v w6 hE hS hv
          replace hS : (fun y9 => Below w5.heap.size w5 y9) w6 := hS
          generalize hg0 : v 0 = vv0
          have e1 : v 1 = .slice a9 l.length c9 := (hv 1 _ 86 rfl rfl).1
          have e2 : v 2 = .int .i64 (k : Int) := (hv 2 _ 87 rfl rfl).1
          have e3 : v 3 = .slice a9 k c9 := (hv 3 _ 88 rfl rfl).1
          generalize hg4 : v 4 = vv4
          have e5 : v 5 = .agg #[.int .i64 L, .int .i64 X0, .int .i64 Y0, .int .i64 mx] := (hv 5 _ 90 rfl rfl).1
          generalize hg6 : v 6 = vv6
          generalize hg7 : v 7 = vv7
          have e8 : v 8 = .slice a9 l.length c9 := (hv 8 _ 93 rfl rfl).1
          have e9 : v 9 = .int .i64 (k : Int) := (hv 9 _ 94 rfl rfl).1
          generalize hg10 : v 10 = vv10
          generalize hg11 : v 11 = vv11
          have HQR : w6.ownsRow w5.heap.size 36 4 (v 12) (l.length + 1) (fl (l.take k ++ [L, X0, Y0, mx] :: l.drop k)) := (hv 12 _ 12 rfl rfl).2 rfl
          generalize hg12 : v 12 = vv12 at HQR
          simp only [Pred.putsF_cons, Pred.putsF_nil, Nat.zero_add, Nat.reduceAdd, hg0, e1, e2, e3, hg4, e5, hg6, hg7, e8, e9, hg10, hg11, hg12, Act.put, List.setIfInBounds_toArray, List.set_cons_zero, List.set_cons_succ]
          clear hg0 e1 e2 e3 hg4 e5 hg6 hg7 e8 e9 hg10 hg11 hg12 hv
          have HR : Hid (rall d r [L, X0, Y0] n = l.take k ++ [L, X0, Y0, mx] :: l.drop k) := Lib.hid (by rw [EA.out, HP.out])
          have hRl : (l.take k ++ [L, X0, Y0, mx] :: l.drop k).length = l.length + 1 := by simp; omega
          obtain ⟨R, eR⟩ : ∃ R, l.take k ++ [L, X0, Y0, mx] :: l.drop k = R := ⟨_, rfl⟩
          have hR4 : W4 R := by
            rw [← eR]
            intro v hv
            rcases List.mem_append.1 hv with h1 | h1
            · exact hw4 v (List.mem_of_mem_take h1)
            · rcases List.mem_cons.1 h1 with rfl | h1
              · rfl
              · exact hw4 v (List.mem_of_mem_drop h1)
          rw [eR] at HR HQR hRl
          obtain ⟨a7, c7, rfl, hc7, hm7⟩ := Rd.owns_val HQR
          have hrow7 := rwAt_of_owns HQR hRl.symm hR4
          obtain ⟨g7, c7', -, ea7, hlo7⟩ : ∃ g7 c7', c7' = c7 ∧ a7 = some ⟨g7, 0, none⟩ ∧ w5.heap.size ≤ g7 := by
            rcases HQR.2 with ⟨e, h0⟩ | ⟨g, cap, cur, e, hb, _⟩
            · omega
            · cases e; exact ⟨g, _, rfl, rfl, hb⟩
          subst ea7
          have L6 : Below w.heap.size w w6 := (HLOW.out.trans (L5.mono hXs)).trans (hE.mono (by have := L5.size; omega))
          have hw5 : w.heap.size ≤ w5.heap.size := by have := L5.size; omega
          have Hq6 := Lib.hid (HQ.out.bel L6)
          have bP6 : blk w6 w.heap.size = some (.cells #[.int .i64 L, .int .i64 X0, .int .i64 Y0] 24 (0, 0)) := (blk_below hE _ (by have := L5.size; have := blk_lt hbP; omega)).trans ((blk_below L5 _ (blk_lt hbP)).trans hbP)
          have c60 : w6.cell? ⟨t, 0, none⟩ = some (.int .i64 most) := by rw [blk_cell Hq6.out.t]; rfl
          have c62 : w6.cell? ⟨t, 2, none⟩ = some (.slice ad r.length c) := by rw [blk_cell Hq6.out.t]; rfl
          have f62 : w6.frozen? ⟨t, 2, none⟩ = false := blk_frozen Hq6.out.t 2
          unfold maxLen at hm7
          clear hS hE HR1 HR2 HQR HP EA eR bW5 hki9 hki8 hki7 hrow hown hbW hbP hlo L5 HA9 hb
          by_cases hle : l.length + 1 ≤ most
          · have hli : ((l.length + 1 : Nat) : Int) ≤ (most : Int) := by omega
            have hli2 : ((l.length : Int) + 1) ≤ (most : Int) := by omega
            go_wp2
            go_ret2
            refine ⟨⟨L6.os, L6.tape, L6.output, by simpa using L6.size, fun j h1 h2 => (heap_setCell_other _ _ _ _ (by show j ≠ t; intro e; exact h2 (by rw [e]))).trans (L6.block j h1)⟩, none, 0, some ⟨g7, 0, none⟩, c7, ?_⟩
            rw [HR.out]
            refine ⟨fun _ => ⟨rfl, ⟨?_, hrow7.kept fun a ea => ?_, by rw [hRl]; exact ⟨hc7, by omega⟩⟩⟩, fun h1 => absurd h1 (by omega), fun h1 => absurd h1 (by omega), fun a ea => .inr ?_⟩
            · rw [hRl]; exact blk_set _ _ _ _ _ _ Hq6.out.t
            · injection ea with ea
              subst ea
              exact heap_setCell_other _ _ _ _ (by show g7 ≠ t; omega)
            · injection ea with ea
              subst ea
              obtain ⟨b7, o7, cc, e7, bG, -⟩ := hrow7.row (i := l.length) (by omega)
              injection e7 with e7
              injection e7 with e7 e8
              subst e7
              have := blk_lt bG
              refine ⟨by show w.heap.size ≤ g7; omega, ?_⟩
              show g7 < _
              simpa using this
          · have hli : ¬ ((l.length + 1 : Nat) : Int) ≤ (most : Int) := by omega
            have hli2 : ¬ ((l.length : Int) + 1) ≤ (most : Int) := by omega
            obtain ⟨b7, o7, cc, e7, bG, hc, -, pw⟩ := hrow7.row (i := l.length) (by omega)
            obtain ⟨y0, y1, y2, y3, ey⟩ := len4 (hR4 (at_ R l.length) (by rw [at_eq (by omega)]; exact List.getElem_mem _))
            injection e7 with e7
            injection e7 with e7 e8
            subst e7
            subst e8
            rw [ey] at pw
            rw [Nat.zero_add] at pw hc
            have px3 : Mid.piece cc (l.length * 4) 3 = #[.int .i64 y0, .int .i64 y1, .int .i64 y2] := pw
            have hc3 : l.length * 4 + 3 ≤ cc.size := by omega
            have EY := Lib.hid ey
            have hll : ((l.length + 1 : Nat) : Int) - 1 = (l.length : Int) := by omega
            have hwr : wrap64 (((l.length + 1 : Nat) : Int) - 1) = (l.length : Int) := by unfold wrap64; omega
            have hwr2 : IntKind.i64.wrap (((l.length + 1 : Nat) : Int) - 1) = (l.length : Int) := by rw [IntKind.wrap_i64]; omega
            have hc7i : (l.length : Int) ≤ (c7 : Int) := by omega
            have hc7n : l.length ≤ c7 := by omega
            have lP6 := blk_lt bP6
            have lG := blk_lt bG
            have hT6 : t < w6.heap.size := blk_lt Hq6.out.t
            clear pw ey hc
            have hmost : most < R.length := by omega
            have hR1 : R.length - 1 = l.length := by omega
            by_cases hpe : pgOf [y0, y1, y2, y3] = [L, X0, Y0]
            · have he : eqL [y0, y1, y2] [L, X0, Y0] = true := decide_eq_true hpe
              go_wp2
              go_ret2
              have hba : Below w6.heap.size w6 (w6.alloc (.cells #[.int .i64 y0, .int .i64 y1, .int .i64 y2] 24)) := (Below.refl _ _).alloc (Nat.le_refl _) _
              have L8 := L6.trans (hba.mono L6.size)
              refine ⟨⟨L8.os, L8.tape, L8.output, L8.size, fun j h1 _ => L8.block j h1⟩, none, 0, ad, c, ?_⟩
              rw [HR.out, hR1, EY.out]
              exact ⟨fun h1 => absurd h1 (by omega), fun _ _ => ⟨rfl, Hq6.out.bel hba⟩, fun _ h1 => absurd hpe h1, fun a ea => .inl rfl⟩
            · have he : eqL [y0, y1, y2] [L, X0, Y0] = false := decide_eq_false hpe
              go_upto_region 22 with (fail)
              refine Rd.name_world ?_
              intro w8 hw
              obtain ⟨w7, e7⟩ : ∃ w7, w6.setCell ⟨t, 2, none⟩ (.slice (some ⟨g7, 0, none⟩) l.length c7) = w7 := ⟨_, rfl⟩
              have hG7 : w.grownBy w7 (some t) := by
                rw [← e7]
                exact ⟨L6.os, L6.tape, L6.output, by simpa using L6.size, fun j h1 h2 => (heap_setCell_other _ _ _ _ (by show j ≠ t; intro e; exact h2 (by rw [e]))).trans (L6.block j h1)⟩
              have hR7 : Rq w7 t most d (some ⟨g7, 0, none⟩) c7 (R.take l.length) := by
                have hl : (R.take l.length).length = l.length := by rw [List.length_take]; omega
                rw [← e7]
                refine ⟨?_, (hrow7.take l.length).kept fun a ea => ?_, by rw [hl]; exact ⟨hc7n, by omega⟩⟩
                · rw [hl]; exact blk_set _ _ _ _ _ _ Hq6.out.t
                · injection ea with ea
                  subst ea
                  exact heap_setCell_other _ _ _ _ (by show g7 ≠ t; omega)
              have hz7 : w7.heap.size = w6.heap.size := by rw [← e7]; simp
              rw [e7] at hw
              have hba : Below w7.heap.size w7 w8 := by rw [hw]; exact (Below.refl _ _).alloc (Nat.le_refl _) _
              have hB8 : blk w8 w6.heap.size = some (.cells #[.int .i64 y0, .int .i64 y1, .int .i64 y2] 24 (0, 0)) := by
                rw [hw]
                exact blk_alloc_at _ _ _ hz7.symm
              have hG8 : w.grownBy w8 (some t) := ⟨hba.os.trans hG7.os, hba.tape.trans hG7.tape, hba.output.trans hG7.output, Nat.le_trans hG7.size hba.size, fun j h1 h2 => (hba.block j (by have := hG7.size; omega)).trans (hG7.block j h1 h2)⟩
              have hR8 := hR7.bel hba
              have hs8 : w6.heap.size ≤ w8.heap.size := by have := hba.size; omega
              have HG8 := Lib.hid hG8
              have HR8 := Lib.hid hR8
              clear hw hG7 hR7 hG8 hR8 e7 hba hz7
              go_wp2
              go_ret2
              have hbb : Below w8.heap.size w8 (w8.alloc (.cells #[.int .i64 y0, .int .i64 y1, .int .i64 y2] 24)) := (Below.refl _ _).alloc (Nat.le_refl _) _
              refine ⟨⟨hbb.os.trans HG8.out.os, hbb.tape.trans HG8.out.tape, hbb.output.trans HG8.out.output, Nat.le_trans HG8.out.size hbb.size, fun j h1 h2 => (hbb.block j (by have := HG8.out.size; omega)).trans (HG8.out.block j h1 h2)⟩, some ⟨w8.heap.size, 0, none⟩, 1, some ⟨g7, 0, none⟩, c7, ?_⟩
              rw [HR.out, hR1, EY.out]
              refine ⟨fun h1 => absurd h1 (by omega), fun _ h1 => absurd h1 hpe, fun _ _ => ⟨rfl, ⟨fun v hv => by rw [List.mem_singleton.1 hv]; rfl, .inr ⟨w8.heap.size, 0, rfl, by simp, fun i hi j hj => ?_⟩⟩, HR8.out.bel hbb⟩, fun a ea => .inr ?_⟩
              · obtain rfl : i = 0 := by simpa using hi
                rw [blk_cell (blk_alloc_at _ _ _ rfl)]
                match j, hj with
                | 0, _ => rfl
                | 1, _ => rfl
                | 2, _ => rfl
              · injection ea with ea
                subst ea
                have h1 : g7 < w8.heap.size := by omega
                refine ⟨by show w.heap.size ≤ g7; omega, ?_⟩
                show g7 < _
                have := hbb.size
                omega
end Go.Proofs.Ytpbdgkjlmijipaa.QuN

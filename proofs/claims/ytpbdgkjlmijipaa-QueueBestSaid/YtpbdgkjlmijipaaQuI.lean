/-
  The queue: Add.
-/
import Derived.Test.YtpbdgkjlmijipaaQuH
import Derived.Test.YtpbdgkjlmijipaaPredT
import Derived.Test.YtpbdgkjlmijipaaPredS
import Derived.BigGuard
import Derived.Deep.CutRange
namespace Go.Proofs.Ytpbdgkjlmijipaa.QuI
open Go.RowKit Go.Shelf Rd Go.Proofs.Ytpbdgkjlmijipaa.Row Mid PgM PgA PgB PgC QuA QuB QuC QuD QuE QuF QuG QuH
open Go.Proofs.Ytpbdgkjlmijipaa.Pred (Is is_stab Stab)
open Go.Proofs.Ytpbdgkjlmijipaa.Num (ret_int ret_bool)
set_option linter.unusedVariables false
set_option linter.unusedSimpArgs false
set_option maxRecDepth 10000
attribute [local go_sem high] run_maxT
attribute [local go_sem ↓] load_pg store_pg load_w store_w eq_pg3 eq_w4
attribute [local go_sem] one_int pc3 pc4 pc43 run_load_pg run_store_pg run_load_w run_store_w midLoad_eq rowLoad_eq rowStore_eq blk_alloc_at blk_alloc_old blk_drew blk_drewN blk_set_far blk_set_far' blk_grow setRow_alloc_at setRow_alloc_old setRow_drew setRow_drewN
/-- what a queue's calls leave alone -/
structure TnB (X Y : World) (t : Nat) (v : Value) : Prop where
  os : Y.os = X.os
  tape : Y.tape = X.tape
  output : Y.output = X.output
  size : X.heap.size ≤ Y.heap.size
  block : ∀ k, k < X.heap.size → k ≠ t → some k ≠ v.ownBlock → Y.heap[k]? = X.heap[k]?
theorem TnB.refl (X : World) (t : Nat) (v : Value) : TnB X X t v := ⟨rfl, rfl, rfl, Nat.le_refl _, fun _ _ _ _ => rfl⟩
theorem TnB.below {X Y Z : World} {t : Nat} {v : Value} (h : TnB X Y t v) (hb : Below Y.heap.size Y Z) : TnB X Z t v :=
  ⟨hb.os.trans h.os, hb.tape.trans h.tape, hb.output.trans h.output, Nat.le_trans h.size hb.size, fun k h1 h2 h3 => (hb.block k (by have := h.size; omega)).trans (h.block k h1 h2 h3)⟩
theorem tnb_of {W X Y : World} {t : Nat} {v : Value} (h : Below W.heap.size W X) (hg : X.grownBy Y v.ownBlock) : TnB W Y t v :=
  ⟨hg.os.trans h.os, hg.tape.trans h.tape, hg.output.trans h.output, Nat.le_trans h.size hg.size, fun k h1 h2 h3 => (hg.block k (by have := h.size; omega) h3).trans (h.block k h1)⟩
theorem tnb_below {X Y : World} {t : Nat} {v : Value} (h : Below X.heap.size X Y) : TnB X Y t v := ⟨h.os, h.tape, h.output, h.size, fun k h1 _ _ => h.block k h1⟩
theorem tnb_set {W X : World} {t o : Nat} {v : Value} (h : TnB W X t v) (u : Value) : TnB W (X.setCell ⟨t, o, none⟩ u) t v :=
  ⟨h.os, h.tape, h.output, by simpa using h.size, fun k h1 h2 h3 => (heap_setCell_other _ _ _ _ (by show k ≠ t; exact h2)).trans (h.block k h1 h2 h3)⟩
theorem TnB.trans {X Y Z : World} {t : Nat} {v v' : Value} (h : TnB X Y t v) (h' : TnB Y Z t v') (ha : v'.ownBlock = v.ownBlock ∨ ∃ k, v'.ownBlock = some k ∧ X.heap.size ≤ k) : TnB X Z t v :=
  ⟨h'.os.trans h.os, h'.tape.trans h.tape, h'.output.trans h.output, Nat.le_trans h.size h'.size, fun k h1 h2 h3 => (h'.block k (by have := h.size; omega) h2 (by
    rcases ha with e | ⟨j, e, hj⟩
    · rw [e]; exact h3
    · rw [e]; intro e2; injection e2 with e2; omega)).trans (h.block k h1 h2 h3)⟩
def At (X : World) (v v' : Value) : Prop := v'.ownBlock = v.ownBlock ∨ ∃ k, v'.ownBlock = some k ∧ X.heap.size ≤ k
theorem at_trans {X Y : World} {v v' v'' : Value} (h : At X v v') (hs : X.heap.size ≤ Y.heap.size) (h' : At Y v' v'') : At X v v'' := by
  rcases h' with e | ⟨k, e, hk⟩
  · rcases h with e1 | ⟨j, e1, hj⟩
    · exact .inl (e.trans e1)
    · exact .inr ⟨j, e.trans e1, hj⟩
  · exact .inr ⟨k, e, by omega⟩
theorem setCell_grown (X : World) (g o : Nat) (v : Value) : X.grownBy (X.setCell ⟨g, o, none⟩ v) (some g) :=
  ⟨rfl, rfl, rfl, by simp, fun k _ hk => heap_setCell_other _ _ _ _ (by show k ≠ g; intro e; exact hk (by rw [e]))⟩
theorem below_zero {X Y : World} {row : Option Nat} (h : X.grownBy Y row) : Below 0 X Y := ⟨h.os, h.tape, h.output, h.size, fun k hk => absurd hk (by omega)⟩
theorem Qu.not_own {X : World} {t base most d : Nat} {v : Value} {r : PgM.Row} (h : Qu X t base most d v r) : some t ≠ v.ownBlock := fun e => by
  rcases h.own.2 with ⟨rfl, _⟩ | ⟨g, cap, cur, rfl, _, hgb, _⟩
  · cases e
  · obtain rfl : t = g := by simpa [Value.ownBlock] using e
    have := (show X.heap[t]? = _ from h.t).symm.trans hgb
    simp at this
theorem Qu.low {X : World} {t base most d : Nat} {v : Value} {r : PgM.Row} (h : Qu X t base most d v r) {k : Nat} (e : v.ownBlock = some k) : k < X.heap.size := (h.own.lt k e).2
theorem qu_set {X : World} {t most d : Nat} {v u : Value} {l : PgM.Row} (ht : blk X t = some (.cells #[.int .i64 most, .int .i64 d, v] 58 (0, 0))) (ho : X.ownsRow 0 36 4 u l.length (fl l)) (hw : W4 l) : Qu (X.setCell ⟨t, 2, none⟩ u) t 0 most d u l := by
  refine ⟨blk_set _ _ _ _ _ _ ht, ?_, hw⟩
  refine ho.kept (setCell_grown X t 2 u) ?_
  rcases ho.2 with ⟨rfl, _⟩ | ⟨g, cap, cur, rfl, _, hgb, _⟩
  · exact .inl rfl
  · refine .inr fun e => ?_
    obtain rfl : g = t := by simpa [Value.ownBlock] using e
    have := (show X.heap[g]? = _ from ht).symm.trans hgb
    simp at this
def insV (d : Int) (l : PgM.Row) (x : List Int) : PgM.Row := l.take (posV d l x) ++ x :: l.drop (posV d l x)
theorem pos_le (d : Int) (l : PgM.Row) (x : List Int) : posV d l x ≤ l.length := (List.takeWhile_prefix _).length_le
theorem insV_len (d : Int) (l : PgM.Row) (x : List Int) : (insV d l x).length = l.length + 1 := by
  have := pos_le d l x
  simp only [insV, List.length_append, List.length_take, List.length_cons, List.length_drop]
  omega
theorem insV_w4 {d : Int} {l : PgM.Row} {x0 x1 x2 x3 : Int} (h : W4 l) : W4 (insV d l [x0, x1, x2, x3]) := by
  intro v hv
  rcases List.mem_append.1 hv with h1 | h1
  · exact h v (List.mem_of_mem_take h1)
  · rcases List.mem_cons.1 h1 with rfl | h1
    · rfl
    · exact h v (List.mem_of_mem_drop h1)
theorem ins_any (t most d : Nat) (v : Value) (r : PgM.Row) (x0 x1 x2 x3 : Int) (vb : Nat) (w : World) (hq : Qu w t 0 most d v r) (hsm : r.length ≤ 100000) (hv : blk w vb = some (.cells #[.int .i64 x0, .int .i64 x1, .int .i64 x2, .int .i64 x3] 36 (0, 0))) (hne : v.ownBlock ≠ some vb) :
    Calls Try.prog 26 #[v, .int .i64 (posV d r [x0, x1, x2, x3] : Nat), .slice (some ⟨vb, 0, none⟩) 1 1] w fun e w' =>
      ∃ v', e = .returned v' ∧ w'.ownsRow 0 36 4 v' (insV d r [x0, x1, x2, x3]).length (fl (insV d r [x0, x1, x2, x3])) ∧ w.grownBy w' v.ownBlock ∧ (v'.ownBlock = v.ownBlock ∨ v'.ownBlock = some w.heap.size) := by
  have hp := pos_le d r [x0, x1, x2, x3]
  have ho := hq.own
  have e : r.take (posV d r [x0, x1, x2, x3]) ++ r.drop (posV d r [x0, x1, x2, x3]) = r := List.take_append_drop _ _
  exact insert_any 0 _ vb v (r.take (posV d r [x0, x1, x2, x3])) (r.drop (posV d r [x0, x1, x2, x3])) [x0, x1, x2, x3] w (by rw [List.length_take]; omega) rfl (w4_take hq.w4 _) (w4_drop hq.w4 _) (by rw [e]; exact hsm) (by rw [e]; exact ho) hv hne (Nat.zero_le _)
theorem s_keep {B : Nat} {w X : World} {k : Nat} {o : Obj} (hE : Below B w X) (hk : k < B) (h : blk w k = some o) : blk X k = some o := (blk_below hE _ hk).trans h
theorem owns_val {X : World} {base e s n : Nat} {u : Value} {xs : List Value} (h : X.ownsRow base e s u n xs) : ∃ a c, u = .slice a n c ∧ n ≤ c ∧ c ≤ maxLen := by
  rcases h.2 with ⟨rfl, rfl⟩ | ⟨g, cap, cur, rfl, _, hgb, h1, h2, _⟩
  · exact ⟨none, 0, rfl, Nat.le_refl _, by unfold maxLen; omega⟩
  · exact ⟨_, cap, rfl, h1, h2⟩
theorem yields_skip {ops : Array Oper} {o : Oper} {b : Act} {w w' : World} {R : Value → World → Prop} (hw : Region.wanted o (yielded ops b.tmps) = true) (hr : (execOp b.eval o).run Try.prog w = .ok .skip w') (h : R undef w') : Pred.yields Try.prog ops o b w R := by
  unfold Pred.yields
  rw [if_pos hw, hr]
  exact h
/-! What Add does -/
def restV (r : PgM.Row) (pg : List Int) : PgM.Row := if idxP r pg < r.length then r.eraseIdx (idxP r pg) else r
def numV (r : PgM.Row) (pg : List Int) (n : Int) : Int := if idxP r pg < r.length then max n (PgM.g (at_ r (idxP r pg)) 3) else n
def allA (d : Int) (r : PgM.Row) (pg : List Int) (n : Int) : PgM.Row := insV d (restV r pg) [PgM.g pg 0, PgM.g pg 1, PgM.g pg 2, numV r pg n]
def newQ (most : Nat) (d : Int) (r : PgM.Row) (pg : List Int) (n : Int) : PgM.Row := (allA d r pg n).take most
def outQ (most : Nat) (d : Int) (r : PgM.Row) (pg : List Int) (n : Int) : PgM.Row := if (allA d r pg n).length ≤ most then [] else if pgOf (at_ (allA d r pg n) most) = pg then [] else [pgOf (at_ (allA d r pg n) most)]
def errQ (most : Nat) (d : Int) (r : PgM.Row) (pg : List Int) (n : Int) : Int := if (allA d r pg n).length ≤ most then 0 else if pgOf (at_ (allA d r pg n) most) = pg then 6 else 0
theorem fnd_split {r : PgM.Row} {pg : List Int} {k : Nat} (h : idxP r pg = k) (hk : k < r.length) : fndV r pg = (k : Int) ∧ restV r pg = r.take k ++ r.drop (k + 1) ∧ r = r.take k ++ at_ r k :: r.drop (k + 1) := by
  subst h
  refine ⟨by unfold fndV; rw [if_pos hk], by unfold restV; rw [if_pos hk, List.eraseIdx_eq_take_drop_succ], ?_⟩
  rw [at_eq hk, ← List.drop_eq_getElem_cons hk, List.take_append_drop]
theorem own_take {X : World} {a : Option Addr} {c n m : Nat} {r : PgM.Row} (h : X.ownsRow 0 36 4 (.slice a n c) n (fl r)) (hw : W4 r) (hn : r.length = n) (hm : m ≤ n) (hm1 : 1 ≤ m) : X.ownsRow 0 36 4 (.slice a m c) (r.take m).length (fl (r.take m)) := by
  have hl : (r.take m).length = m := by rw [List.length_take]; omega
  rw [hl]
  refine ⟨by rw [fw_len (w4_take hw m), hl], ?_⟩
  rcases h.2 with ⟨e, h0⟩ | ⟨g, cap, cur, e, hb, hg, hnc, hc, hs, ht⟩
  · omega
  · cases e
    refine .inr ⟨g, c, cur, rfl, hb, hg, by omega, hc, hs, ?_⟩
    have e2 : fl r = fl (r.take m) ++ fl (r.drop m) := by rw [← fl_app, List.take_append_drop]
    have l2 : (fl (r.take m)).length = m * 4 := by rw [fw_len (w4_take hw m), hl]
    have := congrArg (List.take (m * 4)) ht
    rw [List.take_take, Nat.min_eq_left (by omega), e2, ← l2, List.take_left, l2] at this
    exact this
theorem del_any (t most d k : Nat) (v : Value) (r : PgM.Row) (g cap : Nat) (w : World) (hq : Qu w t 0 most d v r) (hv : v = .slice (some ⟨g, 0, none⟩) r.length cap) (hk : k < r.length) :
    Calls Try.prog 23 #[.slice (some ⟨g, 0, none⟩) r.length cap, .int .i64 (k : Int), .int .i64 ((k : Int) + 1)] w fun e w' =>
      ∃ m, m = (r.take k ++ r.drop (k + 1)).length ∧ e = .returned (.slice (some ⟨g, 0, none⟩) m cap) ∧ w'.ownsRow 0 36 4 (.slice (some ⟨g, 0, none⟩) m cap) m (fl (r.take k ++ r.drop (k + 1))) ∧ w.grownBy w' (some g) := by
  have ho := hq.own
  have hw := hq.w4
  have e3 : r.take k ++ at_ r k :: r.drop (k + 1) = r := by rw [at_eq hk, ← List.drop_eq_getElem_cons hk, List.take_append_drop]
  have hl : (at_ r k).length = 4 := by rw [at_eq hk]; exact hw _ (List.getElem_mem _)
  rw [hv] at ho
  have l1 : (r.take k).length = k := by rw [List.length_take]; omega
  have l2 : (r.drop (k + 1)).length = r.length - (k + 1) := List.length_drop ..
  refine (delete_any 0 g cap k (r.length - (k + 1)) r.length (k + 1) (r.take k) (r.drop (k + 1)) (at_ r k) w l1 l2 hl (w4_take hw k) (w4_drop hw (k + 1)) (by omega) rfl (by rw [e3]; exact ho)).mono ?_
  rintro e w' ⟨rfl, h1, h2⟩
  refine ⟨k + (r.length - (k + 1)), by rw [List.length_append, l1, l2], rfl, h1, h2⟩
def AddR (w : World) (t most d : Nat) (v : Value) (r : PgM.Row) (pg : List Int) (n : Int) (e : Ending) (w' : World) : Prop :=
  ∃ ad c v', e = .returned (.tuple #[.slice ad (outQ most d r pg n).length c, .int .i64 (errQ most d r pg n)]) ∧ PgAt w' ad (outQ most d r pg n) ∧ Qu w' t 0 most d v' (newQ most d r pg n) ∧ TnB w w' t v ∧ At w v v' ∧ ∀ a, ad = some a → w.heap.size ≤ a.block ∧ a.block ≠ t ∧ v'.ownBlock ≠ some a.block
set_option maxHeartbeats 8000000 in
theorem add_in (t most d : Nat) (vq : Value) (r : PgM.Row) (L X0 Y0 n : Int) (w : World) (hq : Qu w t 0 most d vq r) (hv : validB d L X0 Y0 = true) (hp : 1 ≤ n) (hm : 1 ≤ most) (hsm : r.length ≤ 100000) :
    Calls Try.prog 12 #[.pointer (some ⟨t, 0, none⟩), .agg #[.int .i64 L, .int .i64 X0, .int .i64 Y0], .int .i64 n] w fun e w' =>
      AddR w t most d vq r [L, X0, Y0] n e w' := by
  have CV : Hid (∀ X : World, Calls Try.prog 24 #[.int .i64 d, .agg #[.int .i64 L, .int .i64 X0, .int .i64 Y0]] X fun e w' => e = .returned (.bool true) ∧ Below X.heap.size X w') := fun X => by
    have := valid_any d L X0 Y0 X
    rw [hv] at this
    exact this
  have HQ := Lib.hid hq
  have HT := hq.lt
  have hlow : Hid (∀ k, vq.ownBlock = some k → k < w.heap.size) := Lib.hid fun k e => Qu.low hq e
  have hnt := Lib.hid (Qu.not_own hq)
  clear hq hv
  go_enter Try.func12, Try.ntmps12
  go_upto_region 1 with (fail)
  refine Rd.name_world ?_
  intro w1 hw
  have bP : blk w1 w.heap.size = some (.cells #[.int .i64 L, .int .i64 X0, .int .i64 Y0] 24 (0, 0)) := by rw [hw]; exact blk_alloc_at _ _ _ rfl
  have L1 : Below w.heap.size w w1 := by
    rw [hw]
    repeat' (first | (with_reducible exact Below.refl _ _) | (with_reducible refine Rd.below_step ?_ (by assumption)) | (with_reducible refine Rd.below_alloc ?_ _) | (with_reducible refine Rd.below_drewN ?_ _) | (with_reducible refine Below.drew ?_) | (with_reducible refine Below.setCell ?_ ?_ _) | (with_reducible refine Rd.below_setRow ?_ ?_ _) | go_size | (simp only [World.size_alloc]; omega) | omega)
  clear hw
  have lP := blk_lt bP
  have g1 := Go.cell_regrown (HQ.out.bel L1).c1
  have hn1 : decide (n < 1) = false := decide_eq_false (by omega)
  have hn2 : (n < 1) = False := eq_false (by omega)
  (refine wp_region_quiet_below (by kernel_rfl) (by kernel_rfl) ?_; (repeat (go_big_quiet_step ((with_reducible exact Calls.regrown_of (CV.out _))))); refine wpQuiet_nil ?_)
  intro w2 hU
  have KU := Rd.below_of_regrown hU
  have L2 : Below w.heap.size w w2 := by repeat' (first | (with_reducible exact Below.refl _ _) | (with_reducible refine Rd.below_step ?_ (by assumption)) | (with_reducible refine Rd.below_alloc ?_ _) | (with_reducible refine Rd.below_drewN ?_ _) | (with_reducible refine Below.drew ?_) | (with_reducible refine Below.setCell ?_ ?_ _) | (with_reducible refine Rd.below_setRow ?_ ?_ _) | go_size | (simp only [World.size_alloc]; omega) | omega)
  have bP2 : blk w2 w.heap.size = some (.cells #[.int .i64 L, .int .i64 X0, .int .i64 Y0] 24 (0, 0)) := (blk_below KU _ lP).trans bP
  clear hU KU g1 L1 bP lP CV
  go_upto_region 4 with (fail)
  refine Rd.name_world ?_
  intro w3 hw
  obtain ⟨tw, etw⟩ : ∃ k, w2.heap.size = k := ⟨_, rfl⟩
  have hs2 := L2.size
  have bW : blk w3 tw = some (.cells #[.int .i64 L, .int .i64 X0, .int .i64 Y0, .int .i64 n] 36 (0, 0)) := by rw [hw, ← etw]; exact blk_alloc_at _ _ _ rfl
  have bP : blk w3 w.heap.size = some (.cells #[.int .i64 L, .int .i64 X0, .int .i64 Y0] 24 (0, 0)) := by rw [hw, blk_alloc_old _ _ _ (blk_lt bP2)]; exact bP2
  have L3 : Below w.heap.size w w3 := by
    rw [hw]
    repeat' (first | (with_reducible exact Below.refl _ _) | (with_reducible refine Rd.below_step ?_ (by assumption)) | (with_reducible refine Rd.below_alloc ?_ _) | (with_reducible refine Rd.below_drewN ?_ _) | (with_reducible refine Below.drew ?_) | (with_reducible refine Below.setCell ?_ ?_ _) | (with_reducible refine Rd.below_setRow ?_ ?_ _) | go_size | (simp only [World.size_alloc]; omega) | omega)
  rw [etw]
  have htw : w.heap.size ≤ tw := by omega
  clear hw bP2 L2 hs2 etw
  go_wp2_with fail
  refine (find_any t 0 most d vq r L X0 Y0 w3 (HQ.out.bel L3) hsm).mono ?_
  rintro e w4 ⟨rfl, hb4⟩
  have bP4 : blk w4 w.heap.size = some (.cells #[.int .i64 L, .int .i64 X0, .int .i64 Y0] 24 (0, 0)) := (blk_below hb4 _ (blk_lt bP)).trans bP
  have bW4 : blk w4 tw = some (.cells #[.int .i64 L, .int .i64 X0, .int .i64 Y0, .int .i64 n] 36 (0, 0)) := (blk_below hb4 _ (blk_lt bW)).trans bW
  have L4 : Below w.heap.size w w4 := by repeat' (first | (with_reducible exact Below.refl _ _) | (with_reducible refine Rd.below_step ?_ (by assumption)) | (with_reducible refine Rd.below_alloc ?_ _) | (with_reducible refine Rd.below_drewN ?_ _) | (with_reducible refine Below.drew ?_) | (with_reducible refine Below.setCell ?_ ?_ _) | (with_reducible refine Rd.below_setRow ?_ ?_ _) | go_size | (simp only [World.size_alloc]; omega) | omega)
  clear hb4 L3 bP bW
  go_upto_if 33 with (fail)
  go_cut [9, 31, 32, 33] from 34 to 56 (fun _ _ _ _ X => Hid (∃ v1 n1, n1 = numV r [L, X0, Y0] n ∧ Qu X t 0 most d v1 (restV r [L, X0, Y0]) ∧ TnB w X t vq ∧ v1.ownBlock = vq.ownBlock ∧ blk X w.heap.size = some (.cells #[.int .i64 L, .int .i64 X0, .int .i64 Y0] 24 (0, 0)) ∧ blk X tw = some (.cells #[.int .i64 L, .int .i64 X0, .int .i64 Y0, .int .i64 n1] 36 (0, 0)) ∧ w.heap.size ≤ X.heap.size))
  case first =>
    by_cases hf : idxP r [L, X0, Y0] < r.length
    · obtain ⟨k, ek⟩ : ∃ k, idxP r [L, X0, Y0] = k := ⟨_, rfl⟩
      have hk := hf
      rw [ek] at hk
      obtain ⟨e1, e2, e3⟩ := fnd_split ek hk
      have en : numV r [L, X0, Y0] n = max n (PgM.g (at_ r k) 3) := by unfold numV; rw [if_pos hf, ek]
      have E2 := Lib.hid e2
      have E3 := Lib.hid e3
      have EN := Lib.hid en
      rw [e1]
      have hq4 := HQ.out.bel L4
      obtain ⟨ad, cap, ev, hcap, hrow⟩ := hq4.slice
      obtain ⟨g, rfl, -, -⟩ := hrow (fun e => by rw [e] at hk; exact absurd hk (by simp))
      obtain ⟨c, bG, hc, pw, -⟩ := Qu.row hq4 ev hk
      have cG : w4.cell? ⟨g, k * 4 + 3, none⟩ = some (.int .i64 (PgM.g (at_ r k) 3)) := by
        have h4 := congrArg (fun z => z[3]?) pw
        have hl : (at_ r k).length = 4 := by rw [at_eq hk]; exact hq4.w4 _ (List.getElem_mem _)
        obtain ⟨a0, a1, a2, a3, ea⟩ := len4 hl
        rw [ea] at h4 ⊢
        rw [blk_cell bG]
        simp only [Mid.piece, Array.getElem?_extract] at h4
        rw [if_pos (by omega)] at h4
        exact h4
      have hki : (k : Int) < (r.length : Int) := by omega
      have HV := Lib.hid ev
      have Hq4 := Lib.hid hq4
      have g2 : w4.drew.cell? ⟨t, 2, none⟩ = some (.slice (some ⟨g, 0, none⟩) r.length cap) := by
        have := hq4.c2
        rw [ev] at this
        exact this
      have g3 : w4.drew.cell? ⟨g, k * 4 + 3, none⟩ = some (.int .i64 (PgM.g (at_ r k) 3)) := cG
      have g4 : w4.drew.cell? ⟨tw, 3, none⟩ = some (.int .i64 n) := by
        have : w4.cell? ⟨tw, 3, none⟩ = some (.int .i64 n) := by rw [blk_cell bW4]; rfl
        exact this
      have g5 : w4.drew.frozen? ⟨tw, 3, none⟩ = false := blk_frozen bW4 3
      clear e1 e2 e3 en hq4 ev hcap hrow bG hc pw cG ek hf
      go_upto_region 6 with (fail)
      (refine Reg.quiet_tail 12 (by kernel_rfl) (by kernel_rfl) ?_; simp only [List.take_succ_cons, List.take_zero, List.drop_succ_cons, List.drop_zero]; (repeat go_big_quiet_step (fail)); refine wpQuiet_nil ?_)
      go_upto_region 7 with (fail)
      refine Rd.name_world ?_
      intro w5 hw
      have hlw := blk_lt bW4
      have bW5 : blk w5 tw = some (.cells #[.int .i64 L, .int .i64 X0, .int .i64 Y0, .int .i64 (max n (PgM.g (at_ r k) 3))] 36 (0, 0)) := by rw [hw]; exact blk_set _ _ _ _ _ _ bW4
      have bP5 : blk w5 w.heap.size = some (.cells #[.int .i64 L, .int .i64 X0, .int .i64 Y0] 24 (0, 0)) := by
        rw [hw]
        refine (heap_setCell_other _ _ _ _ ?_).trans bP4
        intro e
        have e : w.heap.size = tw := e
        rw [e] at bP4
        rw [bP4] at bW4
        simp at bW4
      have T5 : TnB w w5 t vq := by
        rw [hw]
        refine ⟨L4.os, L4.tape, L4.output, by simpa using L4.size, fun j h1 _ _ => (heap_setCell_other _ _ _ _ (by show j ≠ tw; omega)).trans (L4.block j h1)⟩
      have hq5 : Qu w5 t 0 most d vq r := by
        have h := Hq4.out
        rw [hw]
        refine ⟨(heap_setCell_other _ _ _ _ (by show t ≠ tw; omega)).trans h.t, h.own.kept (row := some tw) ⟨rfl, rfl, rfl, by simp, fun k _ hk => heap_setCell_other _ _ _ _ (by show k ≠ tw; intro e; exact hk (by rw [e]))⟩ (.inr fun e => ?_), h.w4⟩
        have := hlow.out _ e
        omega
      have HT5 := Lib.hid T5
      have HQ5 := Lib.hid hq5
      have g2 : w5.cell? ⟨t, 2, none⟩ = some (.slice (some ⟨g, 0, none⟩) r.length cap) := by
        have := hq5.c2
        rw [HV.out] at this
        exact this
      have f2 := blk_frozen hq5.t 2
      clear hw g3 g4 g5 T5 hq5 bW4 bP4 L4
      go_wp2_with fail
      refine (del_any t most d k vq r g cap w5 HQ5.out HV.out hk).mono ?_
      rintro e w6 ⟨m, em, rfl, ho6, hg6⟩
      have ow : vq.ownBlock = some g := by rw [HV.out]; rfl
      have htg : t ≠ g := fun e => Qu.not_own HQ5.out (by rw [ow, e])
      have hlg : g < w.heap.size := hlow.out _ ow
      have bT6 : blk w6 t = some (.cells #[.int .i64 most, .int .i64 d, vq] 58 (0, 0)) := (hg6.block _ (blk_lt HQ5.out.t) (fun e => htg (by injection e))).trans HQ5.out.t
      have bW6 : blk w6 tw = some (.cells #[.int .i64 L, .int .i64 X0, .int .i64 Y0, .int .i64 (max n (PgM.g (at_ r k) 3))] 36 (0, 0)) := (hg6.block _ (blk_lt bW5) (fun e => by injection e with e; omega)).trans bW5
      have bP6 : blk w6 w.heap.size = some (.cells #[.int .i64 L, .int .i64 X0, .int .i64 Y0] 24 (0, 0)) := (hg6.block _ (blk_lt bP5) (fun e => by injection e with e; omega)).trans bP5
      have T6 : TnB w w6 t vq := ⟨hg6.os.trans HT5.out.os, hg6.tape.trans HT5.out.tape, hg6.output.trans HT5.out.output, Nat.le_trans HT5.out.size hg6.size, fun j h1 h2 h3 => (hg6.block j (by have := HT5.out.size; omega) (by rw [← ow]; exact h3)).trans (HT5.out.block j h1 h2 h3)⟩
      have f6 := blk_frozen bT6 2
      have c6 : w6.cell? ⟨t, 2, none⟩ = some vq := by rw [blk_cell bT6]; rfl
      rw [HV.out] at c6
      rw [em] at ho6
      have hwr : W4 (r.take k ++ r.drop (k + 1)) := w4_app (w4_take HQ5.out.w4 k) (w4_drop HQ5.out.w4 (k + 1))
      have HF : Hid (∃ v1 n1, n1 = numV r [L, X0, Y0] n ∧ Qu (w6.setCell ⟨t, 2, none⟩ (.slice (some ⟨g, 0, none⟩) m cap)) t 0 most d v1 (restV r [L, X0, Y0]) ∧ TnB w (w6.setCell ⟨t, 2, none⟩ (.slice (some ⟨g, 0, none⟩) m cap)) t vq ∧ v1.ownBlock = vq.ownBlock ∧ blk (w6.setCell ⟨t, 2, none⟩ (.slice (some ⟨g, 0, none⟩) m cap)) w.heap.size = some (.cells #[.int .i64 L, .int .i64 X0, .int .i64 Y0] 24 (0, 0)) ∧ blk (w6.setCell ⟨t, 2, none⟩ (.slice (some ⟨g, 0, none⟩) m cap)) tw = some (.cells #[.int .i64 L, .int .i64 X0, .int .i64 Y0, .int .i64 n1] 36 (0, 0)) ∧ w.heap.size ≤ (w6.setCell ⟨t, 2, none⟩ (.slice (some ⟨g, 0, none⟩) m cap)).heap.size) := by
        refine Lib.hid ⟨.slice (some ⟨g, 0, none⟩) m cap, max n (PgM.g (at_ r k) 3), EN.out.symm, ?_, tnb_set T6 _, ?_, (heap_setCell_other _ _ _ _ (by show w.heap.size ≠ t; omega)).trans bP6, (heap_setCell_other _ _ _ _ (by show tw ≠ t; omega)).trans bW6, by simpa using T6.size⟩
        · rw [E2.out, em]
          exact qu_set bT6 ho6 hwr
        · rw [ow]; rfl
      clear hg6 ho6 bT6 bW6 bP6 T6 hwr em E2 E3 EN ow htg hlg bP5 bW5 HT5 HQ5 Hq4
      go_wp2
      go_meet
      case rel => exact HF
    · have e1 : fndV r [L, X0, Y0] = -1 := by unfold fndV; rw [if_neg hf]
      have HF : Hid (∃ v1 n1, n1 = numV r [L, X0, Y0] n ∧ Qu w4 t 0 most d v1 (restV r [L, X0, Y0]) ∧ TnB w w4 t vq ∧ v1.ownBlock = vq.ownBlock ∧ blk w4 w.heap.size = some (.cells #[.int .i64 L, .int .i64 X0, .int .i64 Y0] 24 (0, 0)) ∧ blk w4 tw = some (.cells #[.int .i64 L, .int .i64 X0, .int .i64 Y0, .int .i64 n1] 36 (0, 0)) ∧ w.heap.size ≤ w4.heap.size) :=
        Lib.hid ⟨vq, n, by unfold numV; rw [if_neg hf], by unfold restV; rw [if_neg hf]; exact HQ.out.bel L4, tnb_below L4, rfl, bP4, bW4, L4.size⟩
      rw [e1]
      clear e1 hf
      go_wp2
      go_meet
      case rel => exact HF
  clear hn1 hn2 bW4 bP4 L4
  obtain ⟨v1, n1, en, hq1, T1, A1, bP1, bW1, hs1⟩ := hcut.out
  obtain ⟨r1, er⟩ : ∃ r1, restV r [L, X0, Y0] = r1 := ⟨_, rfl⟩
  rw [er] at hq1
  have hsm1 : r1.length ≤ 100000 := by
    rw [← er]
    unfold restV
    split
    · rw [List.length_eraseIdx_of_lt (by assumption)]; omega
    · exact hsm
  have EA : Hid (allA d r [L, X0, Y0] n = insV d r1 [L, X0, Y0, n1]) := Lib.hid (by unfold allA; rw [er, en]; rfl)
  obtain ⟨a9, c9, rfl, hc9, -⟩ := hq1.slice
  have hlow1 : ∀ k, (Value.slice a9 r1.length c9).ownBlock = some k → k < wc.heap.size := fun k e => Qu.low hq1 e
  have hntw : (Value.slice a9 r1.length c9).ownBlock ≠ some tw := fun e => by
    have := hlow.out tw (A1 ▸ e)
    omega
  have htwt : tw ≠ t := by omega
  have HA1 := Lib.hid A1
  have HT1 := Lib.hid T1
  have HPB : Hid (blk wc w.heap.size = some (.cells #[.int .i64 L, .int .i64 X0, .int .i64 Y0] 24 (0, 0)) ∧ (Value.slice a9 r1.length c9).ownBlock ≠ some w.heap.size) := Lib.hid ⟨bP1, fun e => by
    have := hlow.out _ (A1 ▸ e)
    omega⟩
  have HQ1 := hq1
  have hw4 := hq1.w4
  clear hcut A1 T1 en er bP1 hq1
  go_upto_region 8 with (fail)
  refine PredT.region_of (W := wc) (0) (Nat.zero_le _) [10, 13] [
      fun y9 => Below wc.heap.size wc y9 ∧ Qu y9 t 0 most d (Value.slice a9 r1.length c9) r1 ∧ blk y9 tw = some (.cells #[.int .i64 L, .int .i64 X0, .int .i64 Y0, .int .i64 n1] 36 (0, 0)),
      fun y9 => TnB wc y9 t (Value.slice a9 r1.length c9) ∧ blk y9 t = some (.cells #[.int .i64 most, .int .i64 d, (Value.slice a9 r1.length c9)] 58 (0, 0)) ∧ blk y9 tw = some (.cells #[.int .i64 L, .int .i64 X0, .int .i64 Y0, .int .i64 n1] 36 (0, 0)),
      fun y9 => ∃ u : Value, TnB wc y9 t (Value.slice a9 r1.length c9) ∧ Qu y9 t 0 most d u (insV d r1 [L, X0, Y0, n1]) ∧ (u.ownBlock = (Value.slice a9 r1.length c9).ownBlock ∨ ∃ k, u.ownBlock = some k ∧ wc.heap.size ≤ k) ∧ blk y9 tw = some (.cells #[.int .i64 L, .int .i64 X0, .int .i64 Y0, .int .i64 n1] 36 (0, 0))] [
      PredT.At 0 (.pointer (some ⟨t, 0, none⟩)),
      PredT.At 0 (.pointer (some ⟨t, 0, none⟩)),
      PredT.At 0 (.pointer (some ⟨t, 0, none⟩)),
      PredT.At 0 (.pointer (some ⟨t, 2, none⟩)),
      PredT.At 0 (.slice a9 r1.length c9),
      PredT.At 0 (.pointer (some ⟨t, 0, none⟩)),
      PredT.At 0 (.agg #[.int .i64 L, .int .i64 X0, .int .i64 Y0, .int .i64 n1]),
      PredT.At 0 (.int .i64 (posV d r1 [L, X0, Y0, n1] : Nat)),
      PredT.At 0 (.agg #[.int .i64 L, .int .i64 X0, .int .i64 Y0, .int .i64 n1]),
      PredT.When 0 (fun u y9 => ∃ g9 : Nat, u = .slice (some ⟨g9, 0, none⟩) 1 1 ∧ wc.heap.size ≤ g9 ∧ blk y9 g9 = some (.cells #[.int .i64 L, .int .i64 X0, .int .i64 Y0, .int .i64 n1] 36 (0, 0))),
      PredT.When 1 (fun u y9 => y9.ownsRow 0 36 4 u (insV d r1 [L, X0, Y0, n1]).length (fl (insV d r1 [L, X0, Y0, n1])) ∧ (u.ownBlock = (Value.slice a9 r1.length c9).ownBlock ∨ ∃ k, u.ownBlock = some k ∧ wc.heap.size ≤ k)),
      PredT.At 0 (.pointer (some ⟨t, 0, none⟩)),
      PredT.At 0 (.pointer (some ⟨t, 2, none⟩)),
      PredT.At 0 (undef)] (by kernel_rfl) (by kernel_rfl) (by kernel_rfl) (by decide) (by decide) ?_ ?_ ?_ ?_ ?_ ?_
  · exact ⟨PredT.at_stab _ _ _ _, PredT.at_stab _ _ _ _, PredT.at_stab _ _ _ _, PredT.at_stab _ _ _ _, PredT.at_stab _ _ _ _, PredT.at_stab _ _ _ _, PredT.at_stab _ _ _ _, PredT.at_stab _ _ _ _, PredT.at_stab _ _ _ _, PredT.when_stab _ _ _ (fun u y y' ⟨g9, h1, h2, h3⟩ hb => ⟨g9, h1, h2, (blk_below hb _ (blk_lt h3)).trans h3⟩), PredT.when_stab _ _ _ (fun u y y' ⟨h1, h2⟩ hb => ⟨owns_below h1 hb, h2⟩), PredT.at_stab _ _ _ _, PredT.at_stab _ _ _ _, PredT.at_stab _ _ _ _, trivial⟩
  · intro q hq
    rcases List.mem_cons.1 hq with rfl | hq
    · exact fun y y' h hb => ⟨h.1.trans (hb.mono h.1.size), h.2.1.bel hb, (blk_below hb _ (blk_lt h.2.2)).trans h.2.2⟩
    rcases List.mem_cons.1 hq with rfl | hq
    · exact fun y y' h hb => ⟨h.1.below hb, (blk_below hb _ (blk_lt h.2.1)).trans h.2.1, (blk_below hb _ (blk_lt h.2.2)).trans h.2.2⟩
    rcases List.mem_cons.1 hq with rfl | hq
    · exact fun y y' ⟨u, h1, h2, h3, h4⟩ hb => ⟨u, h1.below hb, h2.bel hb, h3, (blk_below hb _ (blk_lt h4)).trans h4⟩
    cases hq
  · exact ⟨Below.refl _ _, HQ1, bW1⟩
  · refine ⟨.inr ?_, .inr ?_, .inr ?_, .inr ?_, .inr ?_, .inr ?_, .inr ?_, .inr ?_, .inr ?_, .inr ?_, .inl rfl, .inr ?_, .inr ?_, .inl rfl, trivial⟩
    · intro b9 X ph hE hd hn hS hV hI hF
      have r0 : b9.tmps[0]?.getD undef = .pointer (some ⟨t, 0, none⟩) := (hn 0 (by kernel_rfl)).trans rfl
      exact Pred.yields_run (v := .pointer (some ⟨t, 0, none⟩)) (Pred.wanted_none rfl) (by go_simp) ⟨Below.refl _ _, rfl, Nat.zero_le _⟩
    · intro b9 X ph hE hd hn hS hV hI hF
      have r0 : b9.tmps[0]?.getD undef = .pointer (some ⟨t, 0, none⟩) := (hn 0 (by kernel_rfl)).trans rfl
      exact Pred.yields_run (v := .pointer (some ⟨t, 0, none⟩)) (Pred.wanted_none rfl) (by go_simp) ⟨Below.refl _ _, rfl, Nat.zero_le _⟩
    · intro b9 X ph hE hd hn hS hV hI hF
      obtain ⟨r58, j58⟩ : PredT.At 0 (.pointer (some ⟨t, 0, none⟩)) (b9.tmps[58]?.getD undef) X ph := hV 1 _ 58 rfl rfl (Pred.waits_near (by kernel_rfl) (by kernel_rfl))
      exact Pred.yields_run (v := .pointer (some ⟨t, 0, none⟩)) (Pred.wanted_none rfl) (by go_simp) ⟨Below.refl _ _, rfl, Nat.zero_le _⟩
    · intro b9 X ph hE hd hn hS hV hI hF
      obtain ⟨r59, j59⟩ : PredT.At 0 (.pointer (some ⟨t, 0, none⟩)) (b9.tmps[59]?.getD undef) X ph := hV 2 _ 59 rfl rfl (Pred.waits_near (by kernel_rfl) (by kernel_rfl))
      exact Pred.yields_run (v := .pointer (some ⟨t, 2, none⟩)) (Pred.wanted_none rfl) (by go_simp) ⟨Below.refl _ _, rfl, Nat.zero_le _⟩
    · intro b9 X ph hE hd hn hS hV hI hF
      obtain ⟨r60, j60⟩ : PredT.At 0 (.pointer (some ⟨t, 2, none⟩)) (b9.tmps[60]?.getD undef) X ph := hV 3 _ 60 rfl rfl (Pred.waits_near (by kernel_rfl) (by kernel_rfl))
      have hp0 : ph = 0 := Nat.le_zero.1 (hF 0 10 rfl (Pred.waits_near (by kernel_rfl) (by kernel_rfl)))
      subst hp0
      have hb0 : (fun y9 => Below wc.heap.size wc y9 ∧ Qu y9 t 0 most d (Value.slice a9 r1.length c9) r1 ∧ blk y9 tw = some (.cells #[.int .i64 L, .int .i64 X0, .int .i64 Y0, .int .i64 n1] 36 (0, 0))) X := hS
      have z : X.cell? ⟨t, 2, none⟩ = some (.slice a9 r1.length c9) := hb0.2.1.c2
      exact Pred.yields_run (v := .slice a9 r1.length c9) (Pred.wanted_none rfl) (by go_simp) ⟨Below.refl _ _, rfl, Nat.zero_le _⟩
    · intro b9 X ph hE hd hn hS hV hI hF
      have r0 : b9.tmps[0]?.getD undef = .pointer (some ⟨t, 0, none⟩) := (hn 0 (by kernel_rfl)).trans rfl
      exact Pred.yields_run (v := .pointer (some ⟨t, 0, none⟩)) (Pred.wanted_none rfl) (by go_simp) ⟨Below.refl _ _, rfl, Nat.zero_le _⟩
    · intro b9 X ph hE hd hn hS hV hI hF
      have r8 : b9.tmps[8]?.getD undef = .pointer (some ⟨tw, 0, none⟩) := (hn 8 (by kernel_rfl)).trans rfl
      have hp0 : ph = 0 := Nat.le_zero.1 (hF 0 10 rfl (Pred.waits_near (by kernel_rfl) (by kernel_rfl)))
      subst hp0
      have hb0 : (fun y9 => Below wc.heap.size wc y9 ∧ Qu y9 t 0 most d (Value.slice a9 r1.length c9) r1 ∧ blk y9 tw = some (.cells #[.int .i64 L, .int .i64 X0, .int .i64 Y0, .int .i64 n1] 36 (0, 0))) X := hS
      have z := hb0.2.2
      exact Pred.yields_run (v := .agg #[.int .i64 L, .int .i64 X0, .int .i64 Y0, .int .i64 n1]) (Pred.wanted_none rfl) (by go_simp) ⟨Below.refl _ _, rfl, Nat.zero_le _⟩
    · intro b9 X ph hE hd hn hS hV hI hF
      obtain ⟨r62, j62⟩ : PredT.At 0 (.pointer (some ⟨t, 0, none⟩)) (b9.tmps[62]?.getD undef) X ph := hV 5 _ 62 rfl rfl (Pred.waits_near (by kernel_rfl) (by kernel_rfl))
      obtain ⟨r63, j63⟩ : PredT.At 0 (.agg #[.int .i64 L, .int .i64 X0, .int .i64 Y0, .int .i64 n1]) (b9.tmps[63]?.getD undef) X ph := hV 6 _ 63 rfl rfl (Pred.waits_near (by kernel_rfl) (by kernel_rfl))
      have hp0 : ph = 0 := Nat.le_zero.1 (hF 0 10 rfl (Pred.waits_near (by kernel_rfl) (by kernel_rfl)))
      subst hp0
      have hb0 : (fun y9 => Below wc.heap.size wc y9 ∧ Qu y9 t 0 most d (Value.slice a9 r1.length c9) r1 ∧ blk y9 tw = some (.cells #[.int .i64 L, .int .i64 X0, .int .i64 Y0, .int .i64 n1] 36 (0, 0))) X := hS
      refine Pred.yields_call (f := 27) (args := #[.pointer (some ⟨t, 0, none⟩), .agg #[.int .i64 L, .int .i64 X0, .int .i64 Y0, .int .i64 n1]]) (Pred.wanted_none rfl) (by go_simp) ?_
      refine (place_any t 0 most d _ r1 L X0 Y0 n1 X hb0.2.1 hsm1).mono ?_
      rintro e w9 ⟨rfl, hb⟩
      exact ⟨_, rfl, hb, rfl, Nat.zero_le _⟩
    · intro b9 X ph hE hd hn hS hV hI hF
      have r8 : b9.tmps[8]?.getD undef = .pointer (some ⟨tw, 0, none⟩) := (hn 8 (by kernel_rfl)).trans rfl
      have hp0 : ph = 0 := Nat.le_zero.1 (hF 0 10 rfl (Pred.waits_near (by kernel_rfl) (by kernel_rfl)))
      subst hp0
      have hb0 : (fun y9 => Below wc.heap.size wc y9 ∧ Qu y9 t 0 most d (Value.slice a9 r1.length c9) r1 ∧ blk y9 tw = some (.cells #[.int .i64 L, .int .i64 X0, .int .i64 Y0, .int .i64 n1] 36 (0, 0))) X := hS
      have z := hb0.2.2
      exact Pred.yields_run (v := .agg #[.int .i64 L, .int .i64 X0, .int .i64 Y0, .int .i64 n1]) (Pred.wanted_none rfl) (by go_simp) ⟨Below.refl _ _, rfl, Nat.zero_le _⟩
    · intro b9 X ph hE hd hn hS hV hI hF
      obtain ⟨r65, j65⟩ : PredT.At 0 (.agg #[.int .i64 L, .int .i64 X0, .int .i64 Y0, .int .i64 n1]) (b9.tmps[65]?.getD undef) X ph := hV 8 _ 65 rfl rfl (Pred.waits_near (by kernel_rfl) (by kernel_rfl))
      have hp0 : ph = 0 := Nat.le_zero.1 (hF 0 10 rfl (Pred.waits_near (by kernel_rfl) (by kernel_rfl)))
      subst hp0
      have hb0 : (fun y9 => Below wc.heap.size wc y9 ∧ Qu y9 t 0 most d (Value.slice a9 r1.length c9) r1 ∧ blk y9 tw = some (.cells #[.int .i64 L, .int .i64 X0, .int .i64 Y0, .int .i64 n1] 36 (0, 0))) X := hS
      have hz9 := hb0.1.size
      exact Pred.yields_run (v := .slice (some ⟨X.heap.size, 0, none⟩) 1 1) (w' := X.alloc (.cells #[.int .i64 L, .int .i64 X0, .int .i64 Y0, .int .i64 n1] 36)) (Pred.wanted_none rfl) (by go_simp) ⟨(Below.refl _ _).alloc (Nat.le_refl _) _, Nat.zero_le _, fun _ => ⟨X.heap.size, rfl, hz9, blk_alloc_at _ _ _ rfl⟩⟩
    · intro b9 X ph hE hd hn hS hV hI hF
      obtain ⟨r57, j57⟩ : PredT.At 0 (.pointer (some ⟨t, 0, none⟩)) (b9.tmps[57]?.getD undef) X ph := hV 0 _ 57 rfl rfl (Pred.waits_near (by kernel_rfl) (by kernel_rfl))
      exact Pred.yields_run (v := .pointer (some ⟨t, 0, none⟩)) (Pred.wanted_none rfl) (by go_simp) ⟨Below.refl _ _, rfl, Nat.zero_le _⟩
    · intro b9 X ph hE hd hn hS hV hI hF
      obtain ⟨r68, j68⟩ : PredT.At 0 (.pointer (some ⟨t, 0, none⟩)) (b9.tmps[68]?.getD undef) X ph := hV 11 _ 68 rfl rfl (Pred.waits_near (by kernel_rfl) (by kernel_rfl))
      exact Pred.yields_run (v := .pointer (some ⟨t, 2, none⟩)) (Pred.wanted_none rfl) (by go_simp) ⟨Below.refl _ _, rfl, Nat.zero_le _⟩
  · refine ⟨?_, ?_, trivial⟩
    · refine ⟨_, rfl, fun k hk => (by cases hk), fun b9 X hE hd hn hS hV hI => ?_⟩
      obtain ⟨r61, j61⟩ : PredT.At 0 (.slice a9 r1.length c9) (b9.tmps[61]?.getD undef) X 0 := hV 4 _ 61 rfl rfl (Pred.waits_near (by kernel_rfl) (by kernel_rfl))
      obtain ⟨r64, j64⟩ : PredT.At 0 (.int .i64 (posV d r1 [L, X0, Y0, n1] : Nat)) (b9.tmps[64]?.getD undef) X 0 := hV 7 _ 64 rfl rfl (Pred.waits_near (by kernel_rfl) (by kernel_rfl))
      obtain ⟨j66, r66⟩ : PredT.When 0 (fun u y9 => ∃ g9 : Nat, u = .slice (some ⟨g9, 0, none⟩) 1 1 ∧ wc.heap.size ≤ g9 ∧ blk y9 g9 = some (.cells #[.int .i64 L, .int .i64 X0, .int .i64 Y0, .int .i64 n1] 36 (0, 0))) (b9.tmps[66]?.getD undef) X 0 := hV 9 _ 66 rfl rfl (Pred.waits_near (by kernel_rfl) (by kernel_rfl))
      replace hS : (fun y9 => Below wc.heap.size wc y9 ∧ Qu y9 t 0 most d (Value.slice a9 r1.length c9) r1 ∧ blk y9 tw = some (.cells #[.int .i64 L, .int .i64 X0, .int .i64 Y0, .int .i64 n1] 36 (0, 0))) X := hS
      have hb0 : (fun y9 => Below wc.heap.size wc y9 ∧ Qu y9 t 0 most d (Value.slice a9 r1.length c9) r1 ∧ blk y9 tw = some (.cells #[.int .i64 L, .int .i64 X0, .int .i64 Y0, .int .i64 n1] 36 (0, 0))) X := hS
      obtain ⟨g9, hg9, hg1, hg2⟩ := r66 rfl
      refine Pred.yields_call (f := 26) (args := #[.slice a9 r1.length c9, .int .i64 (posV d r1 [L, X0, Y0, n1] : Nat), .slice (some ⟨g9, 0, none⟩) 1 1]) (Pred.wanted_none rfl) (by clear hS hb0 hI hV hn; go_simp) ?_
      refine (ins_any t most d _ r1 L X0 Y0 n1 g9 X hb0.2.1 hsm1 hg2 (fun e => by have := hlow1 _ e; omega)).mono ?_
      rintro e w9 ⟨u, rfl, h1, h2, h3⟩
      exact ⟨u, rfl, below_zero h2, ⟨tnb_of hb0.1 h2, (h2.block _ (blk_lt hb0.2.1.t) (Qu.not_own hb0.2.1)).trans hb0.2.1.t, (h2.block _ (blk_lt hb0.2.2) (fun e => hntw e.symm)).trans hb0.2.2⟩, by omega, fun _ => ⟨h1, h3.imp id fun e => ⟨_, e, hb0.1.size⟩⟩⟩
    · refine ⟨_, rfl, fun k hk => (by cases hk; exact Pred.waits_near (by kernel_rfl) (by kernel_rfl)), fun b9 X hE hd hn hS hV hI => ?_⟩
      obtain ⟨r69, j69⟩ : PredT.At 0 (.pointer (some ⟨t, 2, none⟩)) (b9.tmps[69]?.getD undef) X 1 := hV 12 _ 69 rfl rfl (Pred.waits_near (by kernel_rfl) (by kernel_rfl))
      obtain ⟨j67, r67⟩ : PredT.When 1 (fun u y9 => y9.ownsRow 0 36 4 u (insV d r1 [L, X0, Y0, n1]).length (fl (insV d r1 [L, X0, Y0, n1])) ∧ (u.ownBlock = (Value.slice a9 r1.length c9).ownBlock ∨ ∃ k, u.ownBlock = some k ∧ wc.heap.size ≤ k)) (b9.tmps[67]?.getD undef) X 1 := hV 10 _ 67 rfl rfl (Pred.waits_near (by kernel_rfl) (by kernel_rfl))
      replace hS : (fun y9 => TnB wc y9 t (Value.slice a9 r1.length c9) ∧ blk y9 t = some (.cells #[.int .i64 most, .int .i64 d, (Value.slice a9 r1.length c9)] 58 (0, 0)) ∧ blk y9 tw = some (.cells #[.int .i64 L, .int .i64 X0, .int .i64 Y0, .int .i64 n1] 36 (0, 0))) X := hS
      have hb1 : (fun y9 => TnB wc y9 t (Value.slice a9 r1.length c9) ∧ blk y9 t = some (.cells #[.int .i64 most, .int .i64 d, (Value.slice a9 r1.length c9)] 58 (0, 0)) ∧ blk y9 tw = some (.cells #[.int .i64 L, .int .i64 X0, .int .i64 Y0, .int .i64 n1] 36 (0, 0))) X := hS
      obtain ⟨hr1, hr2⟩ := r67 rfl
      clear r67
      obtain ⟨u, hu⟩ : ∃ u, b9.tmps[67]?.getD undef = u := ⟨_, rfl⟩
      rw [hu] at hr1 hr2
      obtain ⟨au, cu, rfl, hu1, hu2⟩ := owns_val hr1
      have f0 := blk_frozen hb1.2.1 2
      have cz : X.cell? ⟨t, 2, none⟩ = some (.slice a9 r1.length c9) := by rw [blk_cell hb1.2.1]; rfl
      refine yields_skip (w' := X.setCell ⟨t, 2, none⟩ (.slice au (insV d r1 [L, X0, Y0, n1]).length cu)) (Pred.wanted_none rfl) (by clear hS hb1 hI hV hn hr1 hr2; go_simp) ⟨below_zero (setCell_grown _ _ _ _), ⟨_, tnb_set hb1.1 _, qu_set hb1.2.1 hr1 (insV_w4 hw4) , hr2, ?_⟩, rfl, Nat.zero_le _⟩
      exact (heap_setCell_other _ _ _ _ (by show tw ≠ t; exact htwt)).trans hb1.2.2
  intro v X hE hS hv
  replace hS : (fun y9 => ∃ u : Value, TnB wc y9 t (Value.slice a9 r1.length c9) ∧ Qu y9 t 0 most d u (insV d r1 [L, X0, Y0, n1]) ∧ (u.ownBlock = (Value.slice a9 r1.length c9).ownBlock ∨ ∃ k, u.ownBlock = some k ∧ wc.heap.size ≤ k) ∧ blk y9 tw = some (.cells #[.int .i64 L, .int .i64 X0, .int .i64 Y0, .int .i64 n1] 36 (0, 0))) X := hS
  have e0 : v 0 = .pointer (some ⟨t, 0, none⟩) := (hv 0 _ 57 rfl rfl).1
  have e1 : v 1 = .pointer (some ⟨t, 0, none⟩) := (hv 1 _ 58 rfl rfl).1
  have e2 : v 2 = .pointer (some ⟨t, 0, none⟩) := (hv 2 _ 59 rfl rfl).1
  have e3 : v 3 = .pointer (some ⟨t, 2, none⟩) := (hv 3 _ 60 rfl rfl).1
  have e4 : v 4 = .slice a9 r1.length c9 := (hv 4 _ 61 rfl rfl).1
  have e5 : v 5 = .pointer (some ⟨t, 0, none⟩) := (hv 5 _ 62 rfl rfl).1
  have e6 : v 6 = .agg #[.int .i64 L, .int .i64 X0, .int .i64 Y0, .int .i64 n1] := (hv 6 _ 63 rfl rfl).1
  have e7 : v 7 = .int .i64 (posV d r1 [L, X0, Y0, n1] : Nat) := (hv 7 _ 64 rfl rfl).1
  have e8 : v 8 = .agg #[.int .i64 L, .int .i64 X0, .int .i64 Y0, .int .i64 n1] := (hv 8 _ 65 rfl rfl).1
  generalize hg9 : v 9 = vv9
  generalize hg10 : v 10 = vv10
  have e11 : v 11 = .pointer (some ⟨t, 0, none⟩) := (hv 11 _ 68 rfl rfl).1
  have e12 : v 12 = .pointer (some ⟨t, 2, none⟩) := (hv 12 _ 69 rfl rfl).1
  simp only [Pred.putsF_cons, Pred.putsF_nil, Nat.zero_add, Nat.reduceAdd, e0, e1, e2, e3, e4, e5, e6, e7, e8, hg9, hg10, e11, e12, Act.put, List.setIfInBounds_toArray, List.set_cons_zero, List.set_cons_succ]
  clear e0 e1 e2 e3 e4 e5 e6 e7 e8 hg9 hg10 e11 e12 hv


  obtain ⟨u, T2, hq2, A2, bW2⟩ := hS
  have hlen := insV_len d r1 [L, X0, Y0, n1]
  rw [← EA.out] at hq2 hlen
  have hlb : (allA d r [L, X0, Y0] n).length ≤ 200000 := by omega
  have EQn : Hid (newQ most d r [L, X0, Y0] n = (allA d r [L, X0, Y0] n).take most) := Lib.hid rfl
  have EO : Hid (outQ most d r [L, X0, Y0] n = if (allA d r [L, X0, Y0] n).length ≤ most then [] else if pgOf (at_ (allA d r [L, X0, Y0] n) most) = [L, X0, Y0] then [] else [pgOf (at_ (allA d r [L, X0, Y0] n) most)]) := Lib.hid rfl
  have EE : Hid (errQ most d r [L, X0, Y0] n = if (allA d r [L, X0, Y0] n).length ≤ most then 0 else if pgOf (at_ (allA d r [L, X0, Y0] n) most) = [L, X0, Y0] then 6 else 0) := Lib.hid rfl
  have HR : Hid (∀ X : World, TnB X X t u) := Lib.hid fun X => TnB.refl X t u
  have hAu : At w vq u := by
    rcases A2 with e | ⟨k, e, hk⟩
    · exact .inl (e.trans HA1.out)
    · exact .inr ⟨k, e, by omega⟩
  have hT2 : TnB w X t vq := HT1.out.trans T2 (.inl HA1.out)
  have bPX : blk X w.heap.size = some (.cells #[.int .i64 L, .int .i64 X0, .int .i64 Y0] 24 (0, 0)) := (T2.block _ (blk_lt HPB.out.1) (by omega) (fun e => HPB.out.2 e.symm)).trans HPB.out.1
  obtain ⟨l, el⟩ : ∃ l, allA d r [L, X0, Y0] n = l := ⟨_, rfl⟩
  rw [el] at hq2 hlen hlb EQn EO EE
  obtain ⟨ad, cap, rfl, hcap, hrow⟩ := hq2.slice
  have HT2 := Lib.hid hT2
  have HAU := Lib.hid hAu
  have HQ2 := Lib.hid hq2
  have g2 := Go.cell_regrown hq2.c2
  have g0 := Go.cell_regrown hq2.c0
  clear T2 A2 bW2 EA hT2 hAu el hlow1 hntw HA1 HT1 HPB HQ1 hw4 bW1 hq2
  go_upto_region 9 with (fail)
  (refine wp_region_quiet_below (by kernel_rfl) (by kernel_rfl) ?_; (repeat (go_big_quiet_step ((fail)))); refine wpQuiet_nil ?_)
  intro w7 hU
  have KU := Rd.below_of_regrown hU
  have hq7 := HQ2.out.bel KU
  have HQ7 := Lib.hid hq7
  have HT7 := Lib.hid (HT2.out.below KU)
  have bP7 : blk w7 w.heap.size = some (.cells #[.int .i64 L, .int .i64 X0, .int .i64 Y0] 24 (0, 0)) := (blk_below KU _ (blk_lt bPX)).trans bPX
  clear hU KU g2 g0 bPX HT2 HQ2
  by_cases hle : l.length ≤ most
  · have hli : (l.length : Int) ≤ (most : Int) := by omega
    have eo : outQ most d r [L, X0, Y0] n = [] := by rw [EO.out, if_pos hle]
    have ee : errQ most d r [L, X0, Y0] n = 0 := by rw [EE.out, if_pos hle]
    have eq' : newQ most d r [L, X0, Y0] n = l := by rw [EQn.out, List.take_of_length_le hle]
    have HE := Lib.hid (And.intro eo (And.intro ee eq'))
    clear eo ee eq'
    go_wp2
    go_ret2
    refine ⟨none, 0, .slice ad l.length cap, ?_, ?_, ?_, HT7.out, HAU.out, fun a ea => by cases ea⟩
    · rw [HE.out.1, HE.out.2.1]; rfl
    · rw [HE.out.1]
      exact ⟨fun v hv => absurd hv (by simp), .inl rfl⟩
    · rw [HE.out.2.2]; exact HQ7.out
  · have hli : ¬ (l.length : Int) ≤ (most : Int) := by omega
    have hml : most < l.length := by omega
    have hmi : (most : Int) < (l.length : Int) := by omega
    obtain ⟨g, rfl, -, -⟩ := hrow (fun e => by rw [e] at hml; exact absurd hml (by simp))
    obtain ⟨c, bG, hc, -, pw⟩ := Qu.row hq7 rfl hml
    have hl4 : (at_ l most).length = 4 := by rw [at_eq hml]; exact hq7.w4 _ (List.getElem_mem _)
    obtain ⟨y0, y1, y2, y3, ey⟩ := len4 hl4
    rw [ey] at pw EO EE
    have pw3 : Mid.piece c (most * 4) 3 = #[.int .i64 y0, .int .i64 y1, .int .i64 y2] := pw
    have hc3 : most * 4 + 3 ≤ c.size := by omega
    have bGd : blk w7.drew g = some (.cells c 36 (0, 0)) := bG
    have g2 : w7.drew.cell? ⟨t, 2, none⟩ = some (.slice (some ⟨g, 0, none⟩) l.length cap) := hq7.c2
    have g0 : w7.drew.cell? ⟨t, 0, none⟩ = some (.int .i64 most) := hq7.c0
    have hmc : most ≤ cap := by omega
    have hmci : (most : Int) ≤ (cap : Int) := by omega
    clear pw ey hl4 hq7 hc
    have bT7 := HQ7.out.t
    go_upto_region 11 with (fail)
    refine PredS.region_vals (W := w7) [⟨11, 12, 24, cs .i64 [0, 0, 0], #[.int .i64 y0, .int .i64 y1, .int .i64 y2]⟩] (PredS.Of [
        Is (.pointer (some ⟨t, 0, none⟩)),
        Is (.pointer (some ⟨t, 0, none⟩)),
        Is (.pointer (some ⟨t, 2, none⟩)),
        Is (.slice (some ⟨g, 0, none⟩) l.length cap),
        Is (.pointer (some ⟨t, 0, none⟩)),
        Is (.pointer (some ⟨t, 0, none⟩)),
        Is (.pointer (some ⟨t, 0, none⟩)),
        Is (.int .i64 (most : Int)),
        Is (.pointer (some ⟨g, most * 4, none⟩)),
        Is (.pointer (some ⟨g, most * 4, none⟩)),
        Is (.agg #[.int .i64 y0, .int .i64 y1, .int .i64 y2]),
        Is undef,
        Is undef]) (by kernel_rfl) (by kernel_rfl) (by kernel_rfl) (by kernel_rfl) (PredS.of_stab ?_) ?_ ?_ ?_
    · exact ⟨PredS.is_stab _, PredS.is_stab _, PredS.is_stab _, PredS.is_stab _, PredS.is_stab _, PredS.is_stab _, PredS.is_stab _, PredS.is_stab _, PredS.is_stab _, PredS.is_stab _, PredS.is_stab _, PredS.is_stab _, PredS.is_stab _, trivial⟩
    · refine ⟨.inr ?_, .inr ?_, .inr ?_, .inr ?_, .inr ?_, .inr ?_, .inr ?_, .inr ?_, .inr ?_, .inr ?_, .inr ?_, .inl rfl, .inl rfl, trivial⟩
      · intro b X hE hd hn hV
        have r0 : b.tmps[0]?.getD undef = .pointer (some ⟨t, 0, none⟩) := (hn 0 (by kernel_rfl)).trans rfl
        exact Pred.yields_run (v := .pointer (some ⟨t, 0, none⟩)) (Pred.wanted_none rfl) (by go_simp) ⟨PredS.ext_refl _ _ _, rfl⟩
      · intro b X hE hd hn hV
        have r80 : b.tmps[80]?.getD undef = .pointer (some ⟨t, 0, none⟩) := hV 0 _ 80 rfl rfl rfl (Pred.waits_near (by kernel_rfl) (by kernel_rfl))
        exact Pred.yields_run (v := .pointer (some ⟨t, 0, none⟩)) (Pred.wanted_none rfl) (by go_simp) ⟨PredS.ext_refl _ _ _, rfl⟩
      · intro b X hE hd hn hV
        have r81 : b.tmps[81]?.getD undef = .pointer (some ⟨t, 0, none⟩) := hV 1 _ 81 rfl rfl rfl (Pred.waits_near (by kernel_rfl) (by kernel_rfl))
        exact Pred.yields_run (v := .pointer (some ⟨t, 2, none⟩)) (Pred.wanted_none rfl) (by go_simp) ⟨PredS.ext_refl _ _ _, rfl⟩
      · intro b X hE hd hn hV
        have r82 : b.tmps[82]?.getD undef = .pointer (some ⟨t, 2, none⟩) := hV 2 _ 82 rfl rfl rfl (Pred.waits_near (by kernel_rfl) (by kernel_rfl))
        have z : X.cell? ⟨t, 2, none⟩ = some (.slice (some ⟨g, 0, none⟩) l.length cap) := by rw [blk_cell (s_keep hE (blk_lt bT7) bT7)]; rfl
        exact Pred.yields_run (v := .slice (some ⟨g, 0, none⟩) l.length cap) (Pred.wanted_none rfl) (by go_simp) ⟨PredS.ext_refl _ _ _, rfl⟩
      · intro b X hE hd hn hV
        have r0 : b.tmps[0]?.getD undef = .pointer (some ⟨t, 0, none⟩) := (hn 0 (by kernel_rfl)).trans rfl
        exact Pred.yields_run (v := .pointer (some ⟨t, 0, none⟩)) (Pred.wanted_none rfl) (by go_simp) ⟨PredS.ext_refl _ _ _, rfl⟩
      · intro b X hE hd hn hV
        have r84 : b.tmps[84]?.getD undef = .pointer (some ⟨t, 0, none⟩) := hV 4 _ 84 rfl rfl rfl (Pred.waits_near (by kernel_rfl) (by kernel_rfl))
        exact Pred.yields_run (v := .pointer (some ⟨t, 0, none⟩)) (Pred.wanted_none rfl) (by go_simp) ⟨PredS.ext_refl _ _ _, rfl⟩
      · intro b X hE hd hn hV
        have r85 : b.tmps[85]?.getD undef = .pointer (some ⟨t, 0, none⟩) := hV 5 _ 85 rfl rfl rfl (Pred.waits_near (by kernel_rfl) (by kernel_rfl))
        exact Pred.yields_run (v := .pointer (some ⟨t, 0, none⟩)) (Pred.wanted_none rfl) (by go_simp) ⟨PredS.ext_refl _ _ _, rfl⟩
      · intro b X hE hd hn hV
        have r86 : b.tmps[86]?.getD undef = .pointer (some ⟨t, 0, none⟩) := hV 6 _ 86 rfl rfl rfl (Pred.waits_near (by kernel_rfl) (by kernel_rfl))
        have z : X.cell? ⟨t, 0, none⟩ = some (.int .i64 (most : Int)) := by rw [blk_cell (s_keep hE (blk_lt bT7) bT7)]; rfl
        exact Pred.yields_run (v := .int .i64 (most : Int)) (Pred.wanted_none rfl) (by go_simp) ⟨PredS.ext_refl _ _ _, rfl⟩
      · intro b X hE hd hn hV
        have r83 : b.tmps[83]?.getD undef = .slice (some ⟨g, 0, none⟩) l.length cap := hV 3 _ 83 rfl rfl rfl (Pred.waits_near (by kernel_rfl) (by kernel_rfl))
        have r87 : b.tmps[87]?.getD undef = .int .i64 (most : Int) := hV 7 _ 87 rfl rfl rfl (Pred.waits_near (by kernel_rfl) (by kernel_rfl))
        exact Pred.yields_run (v := .pointer (some ⟨g, most * 4, none⟩)) (Pred.wanted_none rfl) (by go_simp) ⟨PredS.ext_refl _ _ _, rfl⟩
      · intro b X hE hd hn hV
        have r88 : b.tmps[88]?.getD undef = .pointer (some ⟨g, most * 4, none⟩) := hV 8 _ 88 rfl rfl rfl (Pred.waits_near (by kernel_rfl) (by kernel_rfl))
        exact Pred.yields_run (v := .pointer (some ⟨g, most * 4, none⟩)) (Pred.wanted_none rfl) (by go_simp) ⟨PredS.ext_refl _ _ _, rfl⟩
      · intro b X hE hd hn hV
        have r89 : b.tmps[89]?.getD undef = .pointer (some ⟨g, most * 4, none⟩) := hV 9 _ 89 rfl rfl rfl (Pred.waits_near (by kernel_rfl) (by kernel_rfl))
        have z := s_keep hE (blk_lt bG) bG
        exact Pred.yields_run (v := .agg #[.int .i64 y0, .int .i64 y1, .int .i64 y2]) (Pred.wanted_none rfl) (by go_simp) ⟨PredS.ext_refl _ _ _, rfl⟩
    · refine ⟨?_, trivial⟩
      · refine ⟨_, 10, _, rfl, rfl, by simp, rfl, fun ρ w => by first | (go_simp; done) | (go_simp; rfl), rfl, rfl, Pred.waits_near (by kernel_rfl) (by kernel_rfl), fun b X g hE hn hV hp hg hb => ?_⟩
        have r90 : b.tmps[90]?.getD undef = .agg #[.int .i64 y0, .int .i64 y1, .int .i64 y2] := hV 10 _ 90 rfl rfl rfl (Pred.waits_near (by kernel_rfl) (by kernel_rfl))
        simp only at hb
        exact PredS.yields_skip (Pred.wanted_none rfl) (by go_simp) rfl
    intro v w8 hE hv hL
    have e0 : v 0 = .pointer (some ⟨t, 0, none⟩) := hv 0 _ 80 rfl rfl rfl
    have e1 : v 1 = .pointer (some ⟨t, 0, none⟩) := hv 1 _ 81 rfl rfl rfl
    have e2 : v 2 = .pointer (some ⟨t, 2, none⟩) := hv 2 _ 82 rfl rfl rfl
    have e3 : v 3 = .slice (some ⟨g, 0, none⟩) l.length cap := hv 3 _ 83 rfl rfl rfl
    have e4 : v 4 = .pointer (some ⟨t, 0, none⟩) := hv 4 _ 84 rfl rfl rfl
    have e5 : v 5 = .pointer (some ⟨t, 0, none⟩) := hv 5 _ 85 rfl rfl rfl
    have e6 : v 6 = .pointer (some ⟨t, 0, none⟩) := hv 6 _ 86 rfl rfl rfl
    have e7 : v 7 = .int .i64 (most : Int) := hv 7 _ 87 rfl rfl rfl
    have e8 : v 8 = .pointer (some ⟨g, most * 4, none⟩) := hv 8 _ 88 rfl rfl rfl
    have e9 : v 9 = .pointer (some ⟨g, most * 4, none⟩) := hv 9 _ 89 rfl rfl rfl
    have e10 : v 10 = .agg #[.int .i64 y0, .int .i64 y1, .int .i64 y2] := hv 10 _ 90 rfl rfl rfl
    obtain ⟨⟨g11, e11, o11, q11, n11⟩, -⟩ := hL
    replace q11 : blk w8 g11 = some (.cells #[.int .i64 y0, .int .i64 y1, .int .i64 y2] 24 (0, 0)) := q11
    clear n11
    simp only [Pred.putsF_cons, Pred.putsF_nil, Nat.zero_add, Nat.reduceAdd, e0, e1, e2, e3, e4, e5, e6, e7, e8, e9, e10, e11, Act.put, List.setIfInBounds_toArray, List.set_cons_zero, List.set_cons_succ]
    clear e0 e1 e2 e3 e4 e5 e6 e7 e8 e9 e10 e11 hv

    have hq8 := HQ7.out.bel hE
    have HQ8 := Lib.hid hq8
    have HT8 := Lib.hid (HT7.out.below hE)
    have bP8 : blk w8 w.heap.size = some (.cells #[.int .i64 L, .int .i64 X0, .int .i64 Y0] 24 (0, 0)) := (blk_below hE _ (blk_lt bP7)).trans bP7
    have g2 : w8.drew.cell? ⟨t, 2, none⟩ = some (.slice (some ⟨g, 0, none⟩) l.length cap) := hq8.c2
    have g0 : w8.drew.cell? ⟨t, 0, none⟩ = some (.int .i64 most) := hq8.c0
    have f2 : w8.drew.frozen? ⟨t, 2, none⟩ = false := blk_frozen hq8.t 2
    have l11 := blk_lt q11
    clear hE bG bGd bT7 bP7 HQ7 HT7
    go_upto_region 12 with (fail)
    (refine Reg.quiet_tail 12 (by kernel_rfl) (by kernel_rfl) ?_; simp only [List.take_succ_cons, List.take_zero, List.drop_succ_cons, List.drop_zero]; (repeat go_big_quiet_step (fail)); refine wpQuiet_nil ?_)
    go_upto_region 13 with (fail)
    refine Rd.name_world ?_
    intro w9 hw
    have hlt : (l.take most).length = most := by rw [List.length_take]; omega
    have ho9 := own_take (m := most) HQ8.out.own HQ8.out.w4 rfl (by omega) hm
    have hq9 : Qu w9 t 0 most d (.slice (some ⟨g, 0, none⟩) most cap) (l.take most) := by
      rw [hw]
      have h := qu_set HQ8.out.t ho9 (w4_take HQ8.out.w4 most)
      exact ⟨h.t, h.own, h.w4⟩
    have T9 : TnB w w9 t vq := by
      rw [hw]
      have h := tnb_set (o := 2) HT8.out (.slice (some ⟨g, 0, none⟩) most cap)
      exact ⟨h.os, h.tape, h.output, h.size, h.block⟩
    have htP : g11 ≠ t := fun e => by
      have h1 := HQ8.out.t
      rw [← e] at h1
      have := q11.symm.trans h1
      simp at this
    have bN9 : blk w9 g11 = some (.cells #[.int .i64 y0, .int .i64 y1, .int .i64 y2] 24 (0, 0)) := by rw [hw]; exact (heap_setCell_other _ _ _ _ (by show g11 ≠ t; exact htP)).trans q11
    have bP9 : blk w9 w.heap.size = some (.cells #[.int .i64 L, .int .i64 X0, .int .i64 Y0] 24 (0, 0)) := by rw [hw]; exact (heap_setCell_other _ _ _ _ (by show w.heap.size ≠ t; omega)).trans bP8
    have HQ9 := Lib.hid hq9
    have HT9 := Lib.hid T9
    have HA9 : Hid (At w vq (.slice (some ⟨g, 0, none⟩) most cap)) := Lib.hid HAU.out
    have EN9 : Hid (newQ most d r [L, X0, Y0] n = l.take most) := EQn
    clear hw hq9 T9 q11 bP8 g2 g0 f2 HQ8 HT8 ho9 htP l11 hq8
    by_cases hpe : pgOf [y0, y1, y2, y3] = [L, X0, Y0]
    · have he : eqL [y0, y1, y2] [L, X0, Y0] = true := decide_eq_true hpe
      have eo : outQ most d r [L, X0, Y0] n = [] := by rw [EO.out, if_neg hle, if_pos hpe]
      have ee : errQ most d r [L, X0, Y0] n = 6 := by rw [EE.out, if_neg hle, if_pos hpe]
      have HE := Lib.hid (And.intro eo ee)
      clear eo ee
      go_wp2
      go_ret2
      refine ⟨none, 0, .slice (some ⟨g, 0, none⟩) most cap, ?_, ?_, ?_, HT9.out, HA9.out, fun a ea => by cases ea⟩
      · rw [HE.out.1, HE.out.2]; rfl
      · rw [HE.out.1]
        exact ⟨fun v hv => absurd hv (by simp), .inl rfl⟩
      · rw [EN9.out]; exact HQ9.out
    · have he : eqL [y0, y1, y2] [L, X0, Y0] = false := decide_eq_false hpe
      have eo : outQ most d r [L, X0, Y0] n = [[y0, y1, y2]] := by rw [EO.out, if_neg hle, if_neg hpe]; rfl
      have ee : errQ most d r [L, X0, Y0] n = 0 := by rw [EE.out, if_neg hle, if_neg hpe]
      have HE := Lib.hid (And.intro eo ee)
      clear eo ee
      go_wp2
      go_ret2
      have hba : Below w9.heap.size w9 (w9.alloc (.cells #[.int .i64 y0, .int .i64 y1, .int .i64 y2] 24)) := (Below.refl _ _).alloc (Nat.le_refl _) _
      refine ⟨some ⟨w9.heap.size, 0, none⟩, 1, .slice (some ⟨g, 0, none⟩) most cap, ?_, ?_, ?_, HT9.out.below hba, HA9.out, fun a ea => ?_⟩
      · rw [HE.out.1, HE.out.2]; rfl
      · rw [HE.out.1]
        refine ⟨fun v hv => by rw [List.mem_singleton.1 hv]; rfl, .inr ⟨w9.heap.size, 0, rfl, by simp, fun i hi j hj => ?_⟩⟩
        obtain rfl : i = 0 := by simpa using hi
        rw [blk_cell (blk_alloc_at _ _ _ rfl)]
        match j, hj with
        | 0, _ => rfl
        | 1, _ => rfl
        | 2, _ => rfl
      · rw [EN9.out]; exact HQ9.out.bel hba
      · injection ea with ea
        subst ea
        have h1 := HT9.out.size
        have h2 : g < w9.heap.size := Qu.low HQ9.out rfl
        refine ⟨h1, by show w9.heap.size ≠ t; omega, fun e => ?_⟩
        have e : some g = some w9.heap.size := e
        injection e with e
        omega
end Go.Proofs.Ytpbdgkjlmijipaa.QuI

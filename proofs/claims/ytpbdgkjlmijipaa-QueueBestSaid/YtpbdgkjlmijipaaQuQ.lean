/-
  QueueActs.
-/
import Derived.Test.YtpbdgkjlmijipaaQuP
import Derived.Test.YtpbdgkjlmijipaaInts
import Derived.Test.YtpbdgkjlmijipaaAlike
import Derived.IntWalk
namespace Go.Proofs.Ytpbdgkjlmijipaa.QuQ
open Go.RowKit Go.Shelf Rd Go.Proofs.Ytpbdgkjlmijipaa.Row Mid PgM PgA PgB PgC QuA QuB QuC QuD QuE QuF QuG QuH QuI QuJ QuK QuL QuN QuO QuP
open PgN (page_key)
open Go.Proofs.Ytpbdgkjlmijipaa.Num (ret_int ret_bool)
open PredT (sel_le)
set_option linter.unusedVariables false
set_option linter.unusedSimpArgs false
set_option maxRecDepth 10000
theorem eqL_refl (l : List Int) : eqL l l = true := decide_eq_true rfl
attribute [local go_sem high] run_minT
attribute [local go_sem ↓] store_pg load_w store_w eq_pg3 eq_w4
attribute [local go_sem] eqL_refl one_int pc3 pc4 pc43 run_store_pg run_load_w run_store_w midLoad_eq rowLoad_eq rowStore_eq blk_alloc_at blk_alloc_old blk_drew blk_drewN blk_set_far blk_set_far' blk_grow setRow_alloc_at setRow_alloc_old setRow_drew setRow_drewN
structure Pgs (X : World) (ga o n : Nat) : Prop where
  lt : ga < X.heap.size
  cell : ∀ i, i < (allV (n : Int)).length → ∀ j, j < 3 → X.cell? ⟨ga, o + i * 3 + j, none⟩ = some (.int .i64 (PgM.g (at_ (allV (n : Int)) i) j))
theorem Pgs.below {X Y : World} {ga o n : Nat} (h : Pgs X ga o n) (hb : Below X.heap.size X Y) : Pgs Y ga o n :=
  ⟨Nat.lt_of_lt_of_le h.lt hb.size, fun i hi j hj => (hb.cell (p := ⟨ga, o + i * 3 + j, none⟩) h.lt).trans (h.cell i hi j hj)⟩
theorem Pgs.kept {X Y : World} {ga o n : Nat} (h : Pgs X ga o n) (hs : X.heap.size ≤ Y.heap.size) (hk : Y.heap[ga]? = X.heap[ga]?) : Pgs Y ga o n :=
  ⟨Nat.lt_of_lt_of_le h.lt hs, fun i hi j hj => (World.cell?_of_block (a := ⟨ga, o + i * 3 + j, none⟩) hk).trans (h.cell i hi j hj)⟩
theorem Pgs.three {X : World} {ga o n i : Nat} {x0 x1 x2 : Int} (h : Pgs X ga o n) (hi : i < (allV (n : Int)).length) (e : at_ (allV (n : Int)) i = [x0, x1, x2]) :
    X.cell? ⟨ga, o + i * 3, none⟩ = some (.int .i64 x0) ∧ X.cell? ⟨ga, o + i * 3 + 1, none⟩ = some (.int .i64 x1) ∧ X.cell? ⟨ga, o + i * 3 + 2, none⟩ = some (.int .i64 x2) := by
  have h0 := h.cell i hi 0 (by omega)
  have h1 := h.cell i hi 1 (by omega)
  have h2 := h.cell i hi 2 (by omega)
  rw [e] at h0 h1 h2
  exact ⟨h0, h1, h2⟩
/-! the document's Add: refused; what it does to the same row -/
set_option maxHeartbeats 2000000 in
theorem radd_no (t most d c : Nat) (ad : Option Addr) (r : PgM.Row) (L X0 Y0 n : Int) (w : World) (hq : Rq w t most d ad c r) (hv : ¬ (validB d L X0 Y0 = true ∧ 1 ≤ n)) :
    Calls Try.prog 13 #[.pointer (some ⟨t, 0, none⟩), .agg #[.int .i64 L, .int .i64 X0, .int .i64 Y0], .int .i64 n] w fun e w' => e = .returned (.tuple #[.slice none 0 0, .int .i64 1]) ∧ Below w.heap.size w w' := by
  obtain ⟨q, eq⟩ : ∃ q, validB d L X0 Y0 = q := ⟨_, rfl⟩
  have CV : Hid (∀ X : World, Calls Try.prog 28 #[.int .i64 d, .agg #[.int .i64 L, .int .i64 X0, .int .i64 Y0]] X fun e w' => e = .returned (.bool q) ∧ Below X.heap.size X w') := fun X => by
    have := rvalid_any d L X0 Y0 X
    rw [eq] at this
    exact this
  have hn : q = true → n < 1 := fun e => Classical.byContradiction fun h => hv ⟨eq.trans e, by omega⟩
  clear eq hv
  have HQ := Lib.hid hq
  clear hq
  go_enter Try.func13, Try.ntmps13
  go_upto_region 1 with (fail)
  refine Rd.name_world ?_
  intro w1 hw
  have bP : blk w1 w.heap.size = some (.cells #[.int .i64 L, .int .i64 X0, .int .i64 Y0] 24 (0, 0)) := by rw [hw]; exact blk_alloc_at _ _ _ rfl
  have L1 : Below w.heap.size w w1 := by
    rw [hw]
    repeat' (first | (with_reducible exact Below.refl _ _) | (with_reducible refine Rd.below_step ?_ (by assumption)) | (with_reducible refine Rd.below_alloc ?_ _) | (with_reducible refine Rd.below_drewN ?_ _) | (with_reducible refine Below.drew ?_) | (with_reducible refine Below.setCell ?_ ?_ _) | (with_reducible refine Rd.below_setRow ?_ ?_ _) | go_size | (simp only [World.size_alloc]; omega) | omega)
  clear hw
  have lP := blk_lt bP
  have p0 := Go.cell_regrown (show w1.cell? ⟨w.heap.size, 0, none⟩ = some (.int .i64 L) by rw [blk_cell bP]; rfl)
  have p1 := Go.cell_regrown (show w1.cell? ⟨w.heap.size, 1, none⟩ = some (.int .i64 X0) by rw [blk_cell bP]; rfl)
  have p2 := Go.cell_regrown (show w1.cell? ⟨w.heap.size, 2, none⟩ = some (.int .i64 Y0) by rw [blk_cell bP]; rfl)
  have g1 := Go.cell_regrown (show w1.cell? ⟨t, 1, none⟩ = some (.int .i64 d) by rw [blk_cell (HQ.out.bel L1).t]; rfl)
  cases q
  case false =>
    clear hn
    (refine wp_region_quiet_below (by kernel_rfl) (by kernel_rfl) ?_; (repeat (go_big_quiet_step ((with_reducible exact Calls.regrown_of (CV.out _))))); refine wpQuiet_nil ?_)
    intro w2 hU
    have KU := Rd.below_of_regrown hU
    have L2 : Below w.heap.size w w2 := by repeat' (first | (with_reducible exact Below.refl _ _) | (with_reducible refine Rd.below_step ?_ (by assumption)) | (with_reducible refine Rd.below_alloc ?_ _) | (with_reducible refine Rd.below_drewN ?_ _) | (with_reducible refine Below.drew ?_) | (with_reducible refine Below.setCell ?_ ?_ _) | (with_reducible refine Rd.below_setRow ?_ ?_ _) | go_size | (simp only [World.size_alloc]; omega) | omega)
    clear hU KU g1 L1 bP lP CV p0 p1 p2
    go_wp2
    go_ret2
    exact ⟨rfl, L2⟩
  case true =>
    have hn0 := hn rfl
    have hn1 : decide (n < 1) = true := decide_eq_true hn0
    clear hn
    (refine wp_region_quiet_below (by kernel_rfl) (by kernel_rfl) ?_; (repeat (go_big_quiet_step ((with_reducible exact Calls.regrown_of (CV.out _))))); refine wpQuiet_nil ?_)
    intro w2 hU
    have KU := Rd.below_of_regrown hU
    have L2 : Below w.heap.size w w2 := by repeat' (first | (with_reducible exact Below.refl _ _) | (with_reducible refine Rd.below_step ?_ (by assumption)) | (with_reducible refine Rd.below_alloc ?_ _) | (with_reducible refine Rd.below_drewN ?_ _) | (with_reducible refine Below.drew ?_) | (with_reducible refine Below.setCell ?_ ?_ _) | (with_reducible refine Rd.below_setRow ?_ ?_ _) | go_size | (simp only [World.size_alloc]; omega) | omega)
    clear hU KU g1 L1 bP lP CV p0 p1 p2
    go_wp2
    go_ret2
    exact ⟨rfl, L2⟩
theorem radd_same (t most d c : Nat) (ad : Option Addr) (r : PgM.Row) (L X0 Y0 n : Int) (w : World) (hd : d ≤ 3) (hm : 1 ≤ most) (hi : Inv d r) (hl : r.length ≤ most) (hq : Rq w t most d ad c r) (hv : validB d L X0 Y0 = true) (hp : 1 ≤ n) (hsm : r.length ≤ 100000) :
    Calls Try.prog 13 #[.pointer (some ⟨t, 0, none⟩), .agg #[.int .i64 L, .int .i64 X0, .int .i64 Y0], .int .i64 n] w fun e w' =>
      ∃ adp cp ad' c', e = .returned (.tuple #[.slice adp (outQ most d r [L, X0, Y0] n).length cp, .int .i64 (errQ most d r [L, X0, Y0] n)]) ∧ PgAt w' adp (outQ most d r [L, X0, Y0] n) ∧ Rq w' t most d ad' c' (newQ most d r [L, X0, Y0] n) ∧ w.grownBy w' (some t) ∧ ∀ a, ad' = some a → ad' = ad ∨ (w.heap.size ≤ a.block ∧ a.block < w'.heap.size) := by
  have hall := all_all hd hi (pg := [L, X0, Y0]) rfl hv hp
  refine (radd_in t most d c ad r L X0 Y0 n w hq hv hp hsm).mono ?_
  rintro e w' ⟨hg, adp, cp, ad', c', h1, h2, h3, h4⟩
  rw [hall] at h1 h2 h3
  by_cases ho : (allA d r [L, X0, Y0] n).length ≤ most
  · obtain ⟨rfl, hr⟩ := h1 ho
    have eo : outQ most d r [L, X0, Y0] n = [] := by unfold outQ; rw [if_pos ho]
    have ee : errQ most d r [L, X0, Y0] n = 0 := by unfold errQ; rw [if_pos ho]
    have en : newQ most d r [L, X0, Y0] n = allA d r [L, X0, Y0] n := by unfold newQ; rw [List.take_of_length_le ho]
    rw [eo, ee, en]
    exact ⟨none, 0, ad', c', rfl, ⟨fun v hv => absurd hv (by simp), .inl rfl⟩, hr, hg, h4⟩
  · have ho' : most < (allA d r [L, X0, Y0] n).length := by omega
    obtain ⟨hl1, hl2, hl3⟩ := over_len hi hl ho'
    rw [show (allA d r [L, X0, Y0] n).length - 1 = most by omega] at h2 h3
    by_cases hpe : pgOf (at_ (allA d r [L, X0, Y0] n) most) = [L, X0, Y0]
    · obtain ⟨rfl, hr⟩ := h2 ho' hpe
      have eo : outQ most d r [L, X0, Y0] n = [] := by unfold outQ; rw [if_neg ho, if_pos hpe]
      have ee : errQ most d r [L, X0, Y0] n = 6 := by unfold errQ; rw [if_neg ho, if_pos hpe]
      have en : newQ most d r [L, X0, Y0] n = r := last_own hd hi hl (pg := [L, X0, Y0]) rfl hv hp ho' hpe
      rw [eo, ee, en]
      exact ⟨none, 0, ad', c', rfl, ⟨fun v hv => absurd hv (by simp), .inl rfl⟩, hr, hg, h4⟩
    · obtain ⟨rfl, hpg, hr⟩ := h3 ho' hpe
      have eo : outQ most d r [L, X0, Y0] n = [pgOf (at_ (allA d r [L, X0, Y0] n) most)] := by unfold outQ; rw [if_neg ho, if_neg hpe]
      have ee : errQ most d r [L, X0, Y0] n = 0 := by unfold errQ; rw [if_neg ho, if_neg hpe]
      rw [eo, ee]
      exact ⟨adp, cp, ad', c', rfl, hpg, hr, hg, h4⟩
theorem pg_not_own {X : World} {t base most d pg : Nat} {v : Value} {r : PgM.Row} {cc : Array Value} (h : Qu X t base most d v r) (hp : blk X pg = some (.cells cc 24 (0, 0))) : some pg ≠ v.ownBlock := fun e => by
  rcases h.own.2 with ⟨rfl, _⟩ | ⟨g, cap, cur, rfl, _, hgb, _⟩
  · cases e
  · obtain rfl : pg = g := by simpa [Value.ownBlock] using e
    have := (show X.heap[pg]? = _ from hp).symm.trans hgb
    simp at this
theorem pg_kept2 {X Y : World} {ad : Option Addr} {r : PgM.Row} (h : PgAt X ad r) (hs : X.heap.size ≤ Y.heap.size) (hk : ∀ a, ad = some a → a.block < X.heap.size → Y.heap[a.block]? = X.heap[a.block]?) : PgAt Y ad r := by
  refine ⟨h.1, h.2.imp id ?_⟩
  rintro ⟨b, o, e, hlt, hc⟩
  exact ⟨b, o, e, by omega, fun i hi j hj => (World.cell?_of_block (a := ⟨b, o + i * 3 + j, none⟩) (show Y.heap[b]? = X.heap[b]? from hk _ e hlt)).trans (hc i hi j hj)⟩
/-- both queues, the same row -/
theorem pgs_ne_of {X : World} {ga o n k : Nat} {a b : Int} {u : Value} {T : TypeId} (h : Pgs X ga o n) (hn : n ≤ 3) (ht : blk X k = some (.cells #[.int .i64 a, .int .i64 b, u] T (0, 0))) (hu : ∀ z, u ≠ .int .i64 z) : ga ≠ k := by
  rintro rfl
  have hp : 0 < (allV (n : Int)).length := by
    have : n = 0 ∨ n = 1 ∨ n = 2 ∨ n = 3 := by omega
    rcases this with rfl | rfl | rfl | rfl <;> decide +kernel
  have h2 := h.cell 0 hp 2 (by omega)
  have h0 := h.cell 0 hp 0 (by omega)
  rw [blk_cell ht] at h2 h0
  simp only [Nat.zero_mul, Nat.add_zero] at h2 h0
  match o, h2, h0 with
  | 0, h2, _ =>
    have : some u = some (.int .i64 (PgM.g (at_ (allV (n : Int)) 0) 2)) := h2
    injection this with this
    exact hu _ this
  | o + 1, h2, _ =>
    have h3 := (Array.getElem?_eq_some_iff.1 h2).1
    simp at h3
    omega
structure Ac (w X : World) (t tm most d : Nat) (v : Value) (ad : Option Addr) (c : Nat) (r : PgM.Row) (ga o B : Nat) (q0 q1 q2 : Int) : Prop where
  low : Below w.heap.size w X
  q : Qu X t 0 most d v r
  m : Rq X tm most d ad c r
  inv : Inv d r
  len : r.length ≤ most
  lt : (w.heap.size < t ∧ t < tm ∧ tm < B ∧ ga < B ∧ ga ≠ t ∧ ga ≠ tm) ∧ B ≤ X.heap.size
  lv : ∀ k, v.ownBlock = some k → B ≤ k
  ap : ∀ a, ad = some a → B ≤ a.block ∧ a.block < X.heap.size ∧ v.ownBlock ≠ some a.block
  pgs : Pgs X ga o d
  odd : blk X w.heap.size = some (.cells #[.int .i64 q0, .int .i64 q1, .int .i64 q2] 24 (0, 0))
section
variable {w X Y : World} {t tm most d : Nat} {v v' : Value} {ad ad' : Option Addr} {c c' : Nat} {r r' : PgM.Row} {ga o B : Nat} {q0 q1 q2 : Int}
theorem Ac.bel (h : Ac w X t tm most d v ad c r ga o B q0 q1 q2) (hb : Below X.heap.size X Y) : Ac w Y t tm most d v ad c r ga o B q0 q1 q2 :=
  ⟨h.low.trans (hb.mono h.low.size), h.q.bel hb, h.m.bel hb, h.inv, h.len, ⟨h.lt.1, Nat.le_trans h.lt.2 hb.size⟩, h.lv, fun a e => ⟨(h.ap a e).1, Nat.lt_of_lt_of_le (h.ap a e).2.1 hb.size, (h.ap a e).2.2⟩, h.pgs.below hb, (blk_below hb _ (blk_lt h.odd)).trans h.odd⟩
/-- the code's queue has turned: the document's stands -/
structure Ah (w X : World) (t tm most d : Nat) (v : Value) (r' : PgM.Row) (ad : Option Addr) (c : Nat) (r : PgM.Row) (ga o B : Nat) (q0 q1 q2 : Int) : Prop where
  low : Below w.heap.size w X
  q : Qu X t 0 most d v r'
  m : Rq X tm most d ad c r
  lt : (w.heap.size < t ∧ t < tm ∧ tm < B ∧ ga < B ∧ ga ≠ t ∧ ga ≠ tm) ∧ B ≤ X.heap.size
  lv : ∀ k, v.ownBlock = some k → B ≤ k
  ap : ∀ a, ad = some a → B ≤ a.block ∧ a.block < X.heap.size ∧ v.ownBlock ≠ some a.block
  pgs : Pgs X ga o d
  odd : blk X w.heap.size = some (.cells #[.int .i64 q0, .int .i64 q1, .int .i64 q2] 24 (0, 0))
theorem Ac.half (h : Ac w X t tm most d v ad c r ga o B q0 q1 q2) : Ah w X t tm most d v r ad c r ga o B q0 q1 q2 := ⟨h.low, h.q, h.m, h.lt, h.lv, h.ap, h.pgs, h.odd⟩
theorem Ah.full (h : Ah w X t tm most d v r ad c r ga o B q0 q1 q2) (hi : Inv d r) (hl : r.length ≤ most) : Ac w X t tm most d v ad c r ga o B q0 q1 q2 := ⟨h.low, h.q, h.m, hi, hl, h.lt, h.lv, h.ap, h.pgs, h.odd⟩
theorem Ah.bel (h : Ah w X t tm most d v r' ad c r ga o B q0 q1 q2) (hb : Below X.heap.size X Y) : Ah w Y t tm most d v r' ad c r ga o B q0 q1 q2 :=
  ⟨h.low.trans (hb.mono h.low.size), h.q.bel hb, h.m.bel hb, ⟨h.lt.1, Nat.le_trans h.lt.2 hb.size⟩, h.lv, fun a e => ⟨(h.ap a e).1, Nat.lt_of_lt_of_le (h.ap a e).2.1 hb.size, (h.ap a e).2.2⟩, h.pgs.below hb, (blk_below hb _ (blk_lt h.odd)).trans h.odd⟩
/-- the row of the document's queue stands while its block does -/
theorem Rq.kept {X Y : World} (h : Rq X tm most d ad c r) (ht : Y.heap[tm]? = X.heap[tm]?) (hk : ∀ a, ad = some a → Y.heap[a.block]? = X.heap[a.block]?) : Rq Y tm most d ad c r := ⟨ht.trans h.t, h.row.kept hk, h.cap⟩
theorem Ah.turn (h : Ah w X t tm most d v r ad c r ga o B q0 q1 q2) (hq : Qu Y t 0 most d v' r') (ht : TnB X Y t v) (ha : At X v v') : Ah w Y t tm most d v' r' ad c r ga o B q0 q1 q2 := by
  obtain ⟨⟨l1, l2, l3, l4, l6, l7⟩, l5⟩ := h.lt
  refine ⟨tn_low h.low ht (by omega) (fun k e => by have := h.lv k e; have := h.low.size; omega), hq, Rq.kept h.m ?_ fun a e => ?_, ⟨⟨l1, l2, l3, l4, l6, l7⟩, Nat.le_trans l5 ht.size⟩, fun k e => ?_, fun a e => ⟨(h.ap a e).1, Nat.lt_of_lt_of_le (h.ap a e).2.1 ht.size, fun e2 => ?_⟩, h.pgs.kept ht.size ?_, ?_⟩
  · exact ht.block tm (blk_lt h.m.t) (by omega) (fun e => by have := h.lv _ e.symm; omega)
  · exact ht.block _ (h.ap a e).2.1 (by have := (h.ap a e).1; omega) (fun e2 => (h.ap a e).2.2 e2.symm)
  · rcases ha with e2 | ⟨j, e2, hj⟩
    · exact h.lv k (e2 ▸ e)
    · rw [e2] at e
      injection e with e
      omega
  · rcases ha with e3 | ⟨j, e3, hj⟩
    · exact (h.ap a e).2.2 (e3 ▸ e2)
    · rw [e3] at e2
      injection e2 with e2
      have := (h.ap a e).2.1
      omega
  · exact ht.block ga h.pgs.lt (by omega) (fun e => by have := h.lv _ e.symm; omega)
  · exact (ht.block _ (blk_lt h.odd) (by omega) (fun e => by have := h.lv _ e.symm; omega)).trans h.odd
/-- the document's queue turns -/
theorem Ah.mturn {s : PgM.Row} (h : Ah w X t tm most d v r' ad c r ga o B q0 q1 q2) (hm : Rq Y tm most d ad' c' s) (hg : X.grownBy Y (some tm)) (ha : ∀ a, ad' = some a → ad' = ad ∨ (X.heap.size ≤ a.block ∧ a.block < Y.heap.size)) : Ah w Y t tm most d v r' ad' c' s ga o B q0 q1 q2 := by
  obtain ⟨⟨l1, l2, l3, l4, l6, l7⟩, l5⟩ := h.lt
  have hne : v.ownBlock = none ∨ v.ownBlock ≠ some tm := by
    cases e : v.ownBlock with
    | none => exact .inl rfl
    | some k => exact .inr (fun e2 => by injection e2 with e2; have := h.lv k e; omega)
  have hkeep : ∀ k, k < X.heap.size → k ≠ tm → Y.heap[k]? = X.heap[k]? := fun k h1 h2 => hg.block k h1 (fun e => h2 (by injection e))
  refine ⟨⟨hg.os.trans h.low.os, hg.tape.trans h.low.tape, hg.output.trans h.low.output, Nat.le_trans h.low.size hg.size, fun k hk => (hkeep k (by have := h.low.size; omega) (by omega)).trans (h.low.block k hk)⟩,
    ⟨(hkeep t (blk_lt h.q.t) (by omega)).trans h.q.t, h.q.own.kept hg hne, h.q.w4⟩, hm, ⟨⟨l1, l2, l3, l4, l6, l7⟩, Nat.le_trans l5 hg.size⟩, h.lv, fun a e => ?_, h.pgs.kept hg.size (hkeep ga h.pgs.lt (by omega)), (hkeep _ (blk_lt h.odd) (by omega)).trans h.odd⟩
  rcases ha a e with e2 | ⟨e2, e3⟩
  · have := h.ap a (e2 ▸ e)
    exact ⟨this.1, Nat.lt_of_lt_of_le this.2.1 hg.size, this.2.2⟩
  · refine ⟨by omega, e3, fun e4 => ?_⟩
    have := Qu.low h.q e4
    omega
def okF (d : Nat) (x0 x1 x2 z : Int) : Bool := validB d x0 x1 x2 && decide (1 ≤ z)
def outF (most d : Nat) (r : PgM.Row) (x0 x1 x2 z : Int) : PgM.Row := if okF d x0 x1 x2 z = true then outQ most d r [x0, x1, x2] z else []
def errF (most d : Nat) (r : PgM.Row) (x0 x1 x2 z : Int) : Int := if okF d x0 x1 x2 z = true then errQ most d r [x0, x1, x2] z else 1
def rowF (most d : Nat) (r : PgM.Row) (x0 x1 x2 z : Int) : PgM.Row := if okF d x0 x1 x2 z = true then newQ most d r [x0, x1, x2] z else r
theorem outF_len (most d : Nat) (r : PgM.Row) (x0 x1 x2 z : Int) : (outF most d r x0 x1 x2 z).length ≤ 1 := by
  unfold outF outQ
  split
  · split
    · simp
    · split <;> simp
  · simp
theorem ok_yes {d : Nat} {x0 x1 x2 z : Int} (h : okF d x0 x1 x2 z = true) : validB d x0 x1 x2 = true ∧ 1 ≤ z := by
  unfold okF at h
  rw [Bool.and_eq_true] at h
  exact ⟨h.1, of_decide_eq_true h.2⟩
theorem ok_no {d : Nat} {x0 x1 x2 z : Int} (h : okF d x0 x1 x2 z = false) : ¬ (validB d x0 x1 x2 = true ∧ 1 ≤ z) := fun ⟨a, b⟩ => by
  unfold okF at h
  rw [a, decide_eq_true b] at h
  cases h
theorem rowF_inv {d most : Nat} (hd : d ≤ 3) {r : PgM.Row} (h : Inv d r) (hl : r.length ≤ most) (x0 x1 x2 z : Int) : Inv d (rowF most d r x0 x1 x2 z) ∧ (rowF most d r x0 x1 x2 z).length ≤ most := by
  unfold rowF
  split
  · rename_i hk
    exact new_inv hd h (pg := [x0, x1, x2]) rfl (ok_yes hk).1 (ok_yes hk).2
  · exact ⟨h, hl⟩
/-- what a call hands out -/
def Post (W : World) (out : PgM.Row) (u : Value) (y : World) : Prop := ∃ (ad : Option Addr) (c : Nat), u = .slice ad out.length c ∧ PgAt y ad out ∧ ∀ a, ad = some a → W.heap.size ≤ a.block
theorem Post.below {W : World} {out : PgM.Row} {u : Value} {y y' : World} (h : Post W out u y) (hb : Below y.heap.size y y') : Post W out u y' := by
  obtain ⟨ad, c, h1, h2, h3⟩ := h
  exact ⟨ad, c, h1, h2.below (B := 0) hb, h3⟩
def Post2 (out : PgM.Row) (u : Value) (y : World) : Prop := ∃ (ad : Option Addr) (c : Nat), u = .slice ad out.length c ∧ PgAt y ad out
theorem post2_below {out : PgM.Row} {u : Value} {y y' : World} (h : Post2 out u y) (hb : Below y.heap.size y y') : Post2 out u y' := by
  obtain ⟨ad, c, h1, h2⟩ := h
  exact ⟨ad, c, h1, h2.below (B := 0) hb⟩
theorem grown_below {W X Y : World} {k : Nat} (h : Below W.heap.size W X) (hg : X.grownBy Y (some k)) : W.grownBy Y (some k) :=
  ⟨hg.os.trans h.os, hg.tape.trans h.tape, hg.output.trans h.output, Nat.le_trans h.size hg.size, fun j h1 h2 => (hg.block j (by have := h.size; omega) h2).trans (h.block j h1)⟩
theorem grown_trans_below {W X Y : World} {k : Nat} (hg : W.grownBy X (some k)) (h : Below X.heap.size X Y) : W.grownBy Y (some k) :=
  ⟨h.os.trans hg.os, h.tape.trans hg.tape, h.output.trans hg.output, Nat.le_trans hg.size h.size, fun j h1 h2 => (h.block j (by have := hg.size; omega)).trans (hg.block j h1 h2)⟩
theorem code_add (x0 x1 x2 z : Int) (hm : 1 ≤ most) (hrs : r.length ≤ 100000) (h : Ah w X t tm most d v r ad c r ga o B q0 q1 q2) :
    Calls Try.prog 12 #[.pointer (some ⟨t, 0, none⟩), .agg #[.int .i64 x0, .int .i64 x1, .int .i64 x2], .int .i64 z] X fun e Y =>
      ∃ u0 v', e = .returned (.tuple #[u0, .int .i64 (errF most d r x0 x1 x2 z)]) ∧ Post X (outF most d r x0 x1 x2 z) u0 Y ∧ Ah w Y t tm most d v' (rowF most d r x0 x1 x2 z) ad c r ga o B q0 q1 q2 ∧ TnB X Y t v := by
  cases hk : okF d x0 x1 x2 z with
  | true =>
    obtain ⟨hv, hz⟩ := ok_yes hk
    have e1 : outF most d r x0 x1 x2 z = outQ most d r [x0, x1, x2] z := by unfold outF; rw [if_pos hk]
    have e2 : errF most d r x0 x1 x2 z = errQ most d r [x0, x1, x2] z := by unfold errF; rw [if_pos hk]
    have e3 : rowF most d r x0 x1 x2 z = newQ most d r [x0, x1, x2] z := by unfold rowF; rw [if_pos hk]
    rw [e1, e2, e3]
    refine (add_in t most d v r x0 x1 x2 z X h.q hv hz hm hrs).mono ?_
    rintro e Y ⟨ad1, c1, v1, rfl, hp, hq, ht, ha, hx⟩
    exact ⟨_, v1, rfl, ⟨ad1, c1, rfl, hp, fun a e => (hx a e).1⟩, h.turn hq ht ha, ht⟩
  | false =>
    have e1 : outF most d r x0 x1 x2 z = [] := by unfold outF; rw [if_neg (by rw [hk]; decide)]
    have e2 : errF most d r x0 x1 x2 z = 1 := by unfold errF; rw [if_neg (by rw [hk]; decide)]
    have e3 : rowF most d r x0 x1 x2 z = r := by unfold rowF; rw [if_neg (by rw [hk]; decide)]
    rw [e1, e2, e3]
    refine (add_no t most d v r x0 x1 x2 z X h.q (ok_no hk)).mono ?_
    rintro e Y ⟨rfl, hb⟩
    exact ⟨_, v, rfl, ⟨none, 0, rfl, ⟨fun v hv => absurd hv (by simp), .inl rfl⟩, fun a e => by cases e⟩, h.bel hb, tnb_below hb⟩
theorem ref_add (x0 x1 x2 z : Int) (hd : d ≤ 3) (hm : 1 ≤ most) (hi : Inv d r) (hl : r.length ≤ most) (hrs : r.length ≤ 100000) (h : Ah w X t tm most d v r' ad c r ga o B q0 q1 q2) :
    Calls Try.prog 13 #[.pointer (some ⟨tm, 0, none⟩), .agg #[.int .i64 x0, .int .i64 x1, .int .i64 x2], .int .i64 z] X fun e Y =>
      ∃ u0 ad' c', e = .returned (.tuple #[u0, .int .i64 (errF most d r x0 x1 x2 z)]) ∧ (∃ a9 c9, u0 = .slice a9 (outF most d r x0 x1 x2 z).length c9 ∧ PgAt Y a9 (outF most d r x0 x1 x2 z)) ∧ Ah w Y t tm most d v r' ad' c' (rowF most d r x0 x1 x2 z) ga o B q0 q1 q2 ∧ X.grownBy Y (some tm) := by
  cases hk : okF d x0 x1 x2 z with
  | true =>
    obtain ⟨hv, hz⟩ := ok_yes hk
    have e1 : outF most d r x0 x1 x2 z = outQ most d r [x0, x1, x2] z := by unfold outF; rw [if_pos hk]
    have e2 : errF most d r x0 x1 x2 z = errQ most d r [x0, x1, x2] z := by unfold errF; rw [if_pos hk]
    have e3 : rowF most d r x0 x1 x2 z = newQ most d r [x0, x1, x2] z := by unfold rowF; rw [if_pos hk]
    rw [e1, e2, e3]
    refine (radd_same tm most d c ad r x0 x1 x2 z X hd hm hi hl h.m hv hz hrs).mono ?_
    rintro e Y ⟨adp, cp, ad', c', rfl, hp, hq, hg, ha⟩
    exact ⟨_, ad', c', rfl, ⟨adp, cp, rfl, hp⟩, h.mturn hq hg ha, hg⟩
  | false =>
    have e1 : outF most d r x0 x1 x2 z = [] := by unfold outF; rw [if_neg (by rw [hk]; decide)]
    have e2 : errF most d r x0 x1 x2 z = 1 := by unfold errF; rw [if_neg (by rw [hk]; decide)]
    have e3 : rowF most d r x0 x1 x2 z = r := by unfold rowF; rw [if_neg (by rw [hk]; decide)]
    rw [e1, e2, e3]
    refine (radd_no tm most d c ad r x0 x1 x2 z X h.m (ok_no hk)).mono ?_
    rintro e Y ⟨rfl, hb⟩
    exact ⟨_, ad, c, rfl, ⟨none, 0, rfl, ⟨fun v hv => absurd hv (by simp), .inl rfl⟩⟩, h.bel hb, ⟨hb.os, hb.tape, hb.output, hb.size, fun k hk _ => hb.block k hk⟩⟩
/-- the first one of the document's queue goes -/
theorem Ah.mpop {x : List Int} {s : PgM.Row} (h : Ah w X t tm most d v s ad c (x :: s) ga o B q0 q1 q2) (hi : Inv d (x :: s)) (hl : (x :: s).length ≤ most) (hd : ∀ a, ad' = some a → ∃ a0, ad = some a0 ∧ a.block = a0.block) (hr : RwAt X ad' s) :
    Ac w (X.setCell ⟨tm, 2, none⟩ (.slice ad' s.length (c - 1))) t tm most d v ad' (c - 1) s ga o B q0 q1 q2 := by
  have hg := setCell_grown X tm 2 (.slice ad' s.length (c - 1))
  have hcp := h.m.cap
  simp only [List.length_cons] at hcp hl
  have hm : Rq (X.setCell ⟨tm, 2, none⟩ (.slice ad' s.length (c - 1))) tm most d ad' (c - 1) s := by
    refine ⟨blk_set _ _ _ _ _ _ h.m.t, hr.kept fun a e => ?_, by omega⟩
    obtain ⟨a0, e0, e1⟩ := hd a e
    have h1 := h.ap a0 e0
    have h2 := h.lt.1.2.2.1
    exact heap_setCell_other _ _ _ _ (by show a.block ≠ tm; omega)
  obtain ⟨⟨l1, l2, l3, l4, l6, l7⟩, l5⟩ := h.lt
  have hne : v.ownBlock = none ∨ v.ownBlock ≠ some tm := by
    cases e : v.ownBlock with
    | none => exact .inl rfl
    | some k => exact .inr (fun e2 => by injection e2 with e2; have := h.lv k e; omega)
  have hkeep : ∀ k, k < X.heap.size → k ≠ tm → (X.setCell ⟨tm, 2, none⟩ (.slice ad' s.length (c - 1))).heap[k]? = X.heap[k]? := fun k h1 h2 => hg.block k h1 (fun e => h2 (by injection e))
  refine ⟨⟨hg.os.trans h.low.os, hg.tape.trans h.low.tape, hg.output.trans h.low.output, Nat.le_trans h.low.size hg.size, fun k hk => (hkeep k (by have := h.low.size; omega) (by omega)).trans (h.low.block k hk)⟩,
    ⟨(hkeep t (blk_lt h.q.t) (by omega)).trans h.q.t, h.q.own.kept hg hne, h.q.w4⟩, hm, hi.tail, by omega, ⟨⟨l1, l2, l3, l4, l6, l7⟩, Nat.le_trans l5 hg.size⟩, h.lv, fun a e => ?_, h.pgs.kept hg.size (hkeep ga h.pgs.lt (by omega)), (hkeep _ (blk_lt h.odd) (by omega)).trans h.odd⟩
  obtain ⟨a0, e0, e1⟩ := hd a e
  have h1 := h.ap a0 e0
  rw [e1]
  exact ⟨h1.1, Nat.lt_of_lt_of_le h1.2.1 hg.size, h1.2.2⟩
end
theorem cut_le (r : PgM.Row) (m : Int) : (cutV r m).length ≤ r.length := by
  unfold cutV
  split
  · rw [List.length_take]; omega
  · exact Nat.le_refl _
theorem cut_two (r : PgM.Row) : cutV r 2 = r.take 2 := by
  by_cases h : 2 ≤ r.length
  · exact cut_take (k := 2) h
  · rw [cut_not fun i hi => by omega, List.take_of_length_le (by omega)]
set_option maxHeartbeats 16000000 in
theorem acts_gen (a0 a1 : Int) (ai : Option Addr) (len cap : Nat) (zs : List Int) (q0 q1 q2 : Int) (w : World)
    (hz : ∀ z ∈ zs, Ints.In64 z) (hzl : zs.length = len * 2) (hR : Reads w 2 ai len (Ints.i64s zs)) :
    Calls Try.prog 3 #[.int .i64 a0, .int .i64 a1, .slice ai len cap, .agg #[.int .i64 q0, .int .i64 q1, .int .i64 q2]] w fun e w' => e = .returned (.bool true) ∧ Below w.heap.size w w' := by
  have HR := Lib.hid hR
  have HZ := Lib.hid hz
  have HZL := Lib.hid hzl
  clear hR hz hzl
  go_enter Try.func3, Try.ntmps3
  go_upto_region 1 with (fail)
  refine Rd.name_world ?_
  intro w1 hw
  have bO : blk w1 w.heap.size = some (.cells #[.int .i64 q0, .int .i64 q1, .int .i64 q2] 24 (0, 0)) := by rw [hw]; exact blk_alloc_at _ _ _ rfl
  have L1 : Below w.heap.size w w1 := by
    rw [hw]
    repeat' (first | (with_reducible exact Below.refl _ _) | (with_reducible refine Rd.below_step ?_ (by assumption)) | (with_reducible refine Rd.below_alloc ?_ _) | (with_reducible refine Rd.below_drewN ?_ _) | (with_reducible refine Below.drew ?_) | (with_reducible refine Below.setCell ?_ ?_ _) | (with_reducible refine Rd.below_setRow ?_ ?_ _) | go_size | (simp only [World.size_alloc]; omega) | omega)
  have hs1 : w.heap.size < w1.heap.size := blk_lt bO
  clear hw
  by_cases hlen : (80 : Int) < len
  · go_wp2_with fail
    refine (awake_any _).mono ?_
    rintro e w2 ⟨rfl, hb2⟩
    have L2 : Below w.heap.size w w2 := L1.trans (hb2.mono L1.size)
    go_wp2
    go_ret
    exact ⟨rfl, L2⟩
  have hl80 : len ≤ 80 := by omega
  by_cases hgood : 1 ≤ a0 ∧ a0 ≤ 128 ∧ 0 ≤ a1 ∧ a1 ≤ 3
  rotate_left
  · have CN := Lib.hid (fun X : World => new_no a0 a1 hgood X)
    have CM := Lib.hid (fun X : World => rnew_no a0 a1 hgood X)
    clear hgood
    go_wp2_with fail
    refine (CN.out _).mono ?_
    rintro e w2 ⟨rfl, hb2⟩
    have L2 : Below w.heap.size w w2 := L1.trans (hb2.mono L1.size)
    clear hb2
    go_wp2_with fail
    refine (CM.out _).mono ?_
    rintro e w3 ⟨rfl, hb3⟩
    have L3 : Below w.heap.size w w3 := L2.trans (hb3.mono L2.size)
    clear hb3
    go_wp2_with fail
    refine (awake_any _).mono ?_
    rintro e w4 ⟨rfl, hb4⟩
    have L4 : Below w.heap.size w w4 := L3.trans (hb4.mono L3.size)
    clear hb4
    go_wp2
    go_ret
    exact ⟨rfl, L4⟩
  obtain ⟨g1, g2, g3, g4⟩ := hgood
  obtain ⟨most, em⟩ : ∃ n : Nat, a0 = n := ⟨a0.toNat, by omega⟩
  obtain ⟨d, ed⟩ : ∃ n : Nat, a1 = n := ⟨a1.toNat, by omega⟩
  subst em
  subst ed
  have hm1 : 1 ≤ most := by omega
  have hm2 : most ≤ 128 := by omega
  have hd : d ≤ 3 := by omega
  have HD3 := Lib.hid hd
  clear g1 g2 g3 g4
  go_wp2_with fail
  refine (new_any most d ⟨hm1, hm2⟩ hd _).mono ?_
  rintro e w2 ⟨⟨t, rfl, ht, hq⟩, hb2⟩
  replace bO := (blk_below hb2 _ hs1).trans bO
  have L2 : Below w.heap.size w w2 := L1.trans (hb2.mono L1.size)
  have htl := hq.lt
  clear hb2 hlen
  go_wp2_with fail
  refine (rnew_any most d ⟨hm1, hm2⟩ hd _).mono ?_
  rintro e w3 ⟨⟨tm, rfl, htm, hm⟩, hb3⟩
  replace bO := (blk_below hb3 _ (blk_lt bO)).trans bO
  have hq3 := hq.bel hb3
  have L3 : Below w.heap.size w w3 := L2.trans (hb3.mono L2.size)
  have html := blk_lt hm.t
  clear hb3 hq L2
  go_wp2_with fail
  refine (rpages_any d _).mono ?_
  rintro e w4 ⟨⟨adp, cp, rfl, -, -, hP⟩, hb4⟩
  have hpos : 0 < (allV (d : Int)).length := by
    have : d = 0 ∨ d = 1 ∨ d = 2 ∨ d = 3 := by omega
    rcases this with rfl | rfl | rfl | rfl <;> decide +kernel
  have hsm := all_small (d : Int)
  obtain ⟨ga, o, ea, hb0, hc⟩ : ∃ ga o, adp = some ⟨ga, o, none⟩ ∧ ga < w4.heap.size ∧ ∀ i, i < (allV (d : Int)).length → ∀ j, j < 3 → w4.cell? ⟨ga, o + i * 3 + j, none⟩ = some (.int .i64 (PgM.g (at_ (allV (d : Int)) i) j)) := by
    rcases hP.2 with h | h
    · rw [h] at hpos; simp at hpos
    · exact h
  subst ea
  have HP4 : Pgs w4 ga o d := ⟨hb0, hc⟩
  have hq4 := hq3.bel hb4
  have hm4 := hm.bel hb4
  have L4 : Below w.heap.size w w4 := L3.trans (hb4.mono L3.size)
  replace bO := (blk_below hb4 _ (blk_lt bO)).trans bO
  have HA : Hid (Ac w w4 t tm most d (.slice none 0 0) none 0 [] ga o w4.heap.size q0 q1 q2) := Lib.hid
    ⟨L4, hq4, hm4, Inv.nil d, by simp, ⟨⟨by omega, by omega, by have := hb4.size; omega, hb0, pgs_ne_of HP4 hd hq4.t (fun z e => (by cases e)), pgs_ne_of HP4 hd hm4.t (fun z e => (by cases e))⟩, Nat.le_refl _⟩, fun k e => (by cases e), fun a e => (by cases e), HP4, bO⟩
  obtain ⟨N, hN⟩ : ∃ N, (allV (d : Int)).length = N := ⟨_, rfl⟩
  rw [hN] at hpos hsm ⊢
  have HN := Lib.hid hN
  obtain ⟨B, hB⟩ : ∃ B, w4.heap.size = B := ⟨_, rfl⟩
  rw [hB] at HA
  clear hb4 hP hc hb0 hq3 hm hN L3 L4 bO HP4 hq4 hm4 hB htl html htm ht L1 hs1
  go_wp2_with fail
  go_loopw [13] (fun i X => ∃ (k : Nat) (v : Value) (ad : Option Addr) (c : Nat) (r : PgM.Row), k ≤ len ∧ i = .int .i64 k ∧ Hid (Ac w X t tm most d v ad c r ga o B q0 q1 q2)) (fun i _ => len - (intOf i).toNat)
  case atStart => exact ⟨0, _, _, _, _, by omega, rfl, HA⟩
  case round =>
    clear HA
    obtain ⟨k, v, ad, c, r, hk, rfl, HA⟩ := hrel
    rename World => X
    by_cases hlt : k < len
    · have hlt' : (k : Int) < len := by omega
      obtain ⟨ab, ao, rfl, hab, hac⟩ := Ints.cell_of HR.out (k := k * 2) (by rw [HZL.out]; omega) (by omega)
      have hcell0 := (HA.out.low.cell (p := ⟨ab, ao + k * 2, none⟩) hab).trans (hac (k * 2) (by rw [HZL.out]; omega))
      have hcell1 := (HA.out.low.cell (p := ⟨ab, ao + k * 2 + 1, none⟩) hab).trans (hac (k * 2 + 1) (by rw [HZL.out]; omega))
      obtain ⟨z0, ez0⟩ : ∃ z, zs.getD (k * 2) 0 = z := ⟨_, rfl⟩
      obtain ⟨z1, ez1⟩ : ∃ z, zs.getD (k * 2 + 1) 0 = z := ⟨_, rfl⟩
      have hzz := Ints.getD_in HZ.out (k * 2)
      rw [ez0] at hcell0 hzz
      rw [ez1] at hcell1
      have hcell1' := hcell1
      clear ez0 ez1 hac
      go_upto_if 65 with (fail)
      go_cut [64, 65] from 66 to 159 (fun _ _ Y => Hid (∃ (v : Value) (ad : Option Addr) (c : Nat) (r : PgM.Row), Ac w Y t tm most d v ad c r ga o B q0 q1 q2))
      case first =>
        by_cases hmod : z1.tmod 7 = 6
        · cases r with
          | nil =>
            go_wp2_with fail
            refine (pop_none t most d v X HA.out.q).mono ?_
            rintro e X1 ⟨rfl, hb⟩
            have HA1 := Lib.hid (HA.out.bel (hb.trans ((Below.refl _ _).alloc hb.size (.cells (cs .i64 [0, 0, 0, 0]) 36))))
            have c2 : X1.cell? ⟨tm, 2, none⟩ = some (.slice ad 0 c) := by rw [blk_cell (HA.out.bel hb).m.t]; rfl
            have hc2 := (HA.out.bel hb).m.cap
            have hb1 : Below X1.heap.size X1 (X1.alloc (.cells (cs .i64 [0, 0, 0, 0]) 36)) := (Below.refl _ _).alloc (Nat.le_refl _) _
            have bw : blk (X1.alloc (.cells (cs .i64 [0, 0, 0, 0]) 36)) X1.heap.size = some (.cells #[.int .i64 0, .int .i64 0, .int .i64 0, .int .i64 0] 36 (0, 0)) := blk_alloc_at _ _ _ rfl
            have lw := blk_lt bw
            have g2 := Go.cell_regrown ((hb1.cell (p := ⟨tm, 2, none⟩) (blk_lt (HA.out.bel hb).m.t)).trans c2)
            clear hb hb1 hcell0 hcell1
            go_upto_region 15 with (fail)
            (refine wp_region_quiet_below (by kernel_rfl) (by kernel_rfl) ?_; (repeat (go_big_quiet_step ((fail)))); refine wpQuiet_nil ?_)
            intro X2 hU
            have KU := Rd.below_of_regrown hU
            have HA2 := Lib.hid (HA1.out.bel KU)
            clear hU KU HA1 g2 bw lw c2 HA
            go_wp2
            go_meet
            case rel => exact Lib.hid ⟨v, ad, c, [], HA2.out⟩
          | cons x s =>
            obtain ⟨x0, x1, x2, x3, rfl⟩ := len4 (HA.out.q.w4 _ (List.mem_cons_self ..))
            go_wp2_with fail
            refine (pop_some t most d v [x0, x1, x2, x3] s X HA.out.q).mono ?_
            rintro e X1 ⟨v1, rfl, hq1, ht1, ha1⟩
            have h1 := HA.out.half.turn hq1 ht1 ha1
            have hb1 : Below X1.heap.size X1 (X1.alloc (.cells (cs .i64 [x0, x1, x2, x3]) 36)) := (Below.refl _ _).alloc (Nat.le_refl _) _
            have HB := Lib.hid (h1.bel hb1)
            have HI := Lib.hid (And.intro HA.out.inv HA.out.len)
            clear hq1 ht1 ha1 h1 hb1
            go_upto_region 15 with (fail)
            refine Rd.name_world ?_
            intro W hw
            rw [← hw] at HB
            have bw : blk W X1.heap.size = some (.cells #[.int .i64 x0, .int .i64 x1, .int .i64 x2, .int .i64 x3] 36 (0, 0)) := by rw [hw]; exact blk_alloc_at _ _ _ rfl
            have lw := blk_lt bw
            obtain ⟨b, o9, cc, rfl, bG, hc, pw, -⟩ := HB.out.m.row.row (i := 0) (by simp)
            rw [Nat.zero_mul, Nat.add_zero] at pw hc
            have pw4 : Mid.piece cc o9 4 = #[.int .i64 x0, .int .i64 x1, .int .i64 x2, .int .i64 x3] := pw
            have lG := blk_lt bG
            have g2 := Go.cell_regrown (show W.cell? ⟨tm, 2, none⟩ = some (.slice (some ⟨b, o9, none⟩) ([x0, x1, x2, x3] :: s).length c) by rw [blk_cell HB.out.m.t]; rfl)
            have hcp := HB.out.m.cap
            obtain ⟨M, eM⟩ : ∃ M, ([x0, x1, x2, x3] :: s).length = M := ⟨_, rfl⟩
            rw [eM] at g2 hcp
            have hM : M = s.length + 1 := by rw [← eM]; rfl
            have hMp : (0 : Int) < (M : Int) := by omega
            have hMpd : decide ((0 : Int) < (M : Int)) = true := decide_eq_true hMp
            have EM := Lib.hid eM
            clear hw pw hcell0 hcell1 eM HA
            (refine wp_region_quiet_below (by kernel_rfl) (by kernel_rfl) ?_; (repeat (go_big_quiet_step ((fail)))); refine wpQuiet_nil ?_)
            intro X2 hU
            have KU := Rd.below_of_regrown hU
            have HB2 := Lib.hid (HB.out.bel KU)
            clear hU KU HB g2 bw lw bG lG pw4 hc
            have c2 : X2.cell? ⟨tm, 2, none⟩ = some (.slice (some ⟨b, o9, none⟩) M c) := by rw [blk_cell HB2.out.m.t, EM.out]; rfl
            have f2 := blk_frozen HB2.out.m.t 2
            have hMc : (M : Int) ≤ (c : Int) := by omega
            have hM1 : (1 : Int) ≤ (M : Int) := by omega
            have hM1n : 1 ≤ M := by omega
            have hMs : M - 1 = s.length := by omega
            obtain ⟨b', o', eb, hT⟩ := HB2.out.m.row.tail
            injection eb with eb
            injection eb with eb1 eb2
            subst eb1
            subst eb2
            by_cases hc1 : c = 1
            · have hs0 : s = [] := List.eq_nil_of_length_eq_zero (by omega)
              subst hs0
              have HF := Lib.hid (HB2.out.mpop (ad' := some ⟨b, o9, none⟩) HI.out.1 HI.out.2 (fun a e => ⟨a, e, rfl⟩) (rwAt_nil _ _))
              subst hc1
              obtain rfl : M = 1 := by omega
              clear hT hMp hMpd hMc hM1 hMs hM hcp
              go_wp2
              go_meet
              case rel => exact Lib.hid ⟨v1, _, _, [], HF.out⟩
            · have HF := Lib.hid (HB2.out.mpop (ad' := some ⟨b, o9 + 4, none⟩) HI.out.1 HI.out.2 (fun a e => ⟨⟨b, o9, none⟩, rfl, by injection e with e; rw [← e]⟩) hT)
              clear hT hM hcp
              go_wp2
              go_meet
              case rel => exact Lib.hid ⟨v1, _, _, s, HF.out⟩
        · go_wp2_with fail
          refine (Alk.round_any z0 N _ hzz.1 hzz.2 (by omega) (by omega)).mono ?_
          rintro e w5 ⟨rfl, rfl⟩
          obtain ⟨kk, ek⟩ : ∃ k : Nat, z0 % N = k := ⟨(z0 % N).toNat, by have := Int.emod_nonneg z0 (b := (N : Int)) (by omega); omega⟩
          have hkk : kk < N := by have := Int.emod_lt_of_pos z0 (b := (N : Int)) (by omega); omega
          rw [ek]
          obtain ⟨y0, y1, y2, eX, -⟩ := page_key hd (show kk < (allV (d : Int)).length by rw [HN.out]; exact hkk)
          obtain ⟨c0, c1, c2⟩ := HA.out.pgs.three (by rw [HN.out]; exact hkk) eX
          have hkk' : (kk : Int) < N := by omega
          clear ek eX
          go_upto_region 20 with (fail)
          refine Rd.name_world ?_
          intro w6 hw
          have bG : blk w6 X.heap.size = some (.cells #[.int .i64 y0, .int .i64 y1, .int .i64 y2] 24 (0, 0)) := by rw [hw]; exact blk_alloc_at _ _ _ rfl
          have hb : Below X.heap.size X w6 := by
            rw [hw]
            repeat' (first | (with_reducible exact Below.refl _ _) | (with_reducible refine Rd.below_step ?_ (by assumption)) | (with_reducible refine Rd.below_alloc ?_ _) | (with_reducible refine Rd.below_drewN ?_ _) | (with_reducible refine Below.drew ?_) | (with_reducible refine Below.setCell ?_ ?_ _) | (with_reducible refine Rd.below_setRow ?_ ?_ _) | go_size | (simp only [World.size_alloc]; omega) | omega)
          obtain ⟨pg, hpg⟩ : ∃ p, X.heap.size = p := ⟨_, rfl⟩
          have HPG := Lib.hid hpg
          rw [hpg] at bG ⊢
          have hcell0 := (hb.cell (p := ⟨ab, ao + k * 2, none⟩) (Nat.lt_of_lt_of_le hab HA.out.low.size)).trans hcell0
          have hcell1 := (hb.cell (p := ⟨ab, ao + k * 2 + 1, none⟩) (Nat.lt_of_lt_of_le hab HA.out.low.size)).trans hcell1
          have bO := (blk_below hb _ (blk_lt HA.out.odd)).trans HA.out.odd
          have o0 : w6.cell? ⟨w.heap.size, 0, none⟩ = some (.int .i64 q0) := by rw [blk_cell bO]; rfl
          have o1 : w6.cell? ⟨w.heap.size, 1, none⟩ = some (.int .i64 q1) := by rw [blk_cell bO]; rfl
          have o2 : w6.cell? ⟨w.heap.size, 2, none⟩ = some (.int .i64 q2) := by rw [blk_cell bO]; rfl
          clear hw hpg c0 c1 c2 hkk' hkk hzz bO
          go_upto_if 127 with (fail)
          go_cut [126, 127] from 128 to 128 (fun _ _ Y => ∃ x0 x1 x2 : Int, blk Y pg = some (.cells #[.int .i64 x0, .int .i64 x1, .int .i64 x2] 24 (0, 0)) ∧ Below X.heap.size X Y)
          case first =>
            go_wp2
            all_goals go_meet
            · exact ⟨q0, q1, q2, blk_setRow_of bG _, Rd.below_setRow hb (by have := HPG.out; omega) _⟩
            · exact ⟨y0, y1, y2, bG, hb⟩
          case rest =>
          obtain ⟨x0, x1, x2, bX, hbX⟩ := hcut
          have HA2 := Lib.hid (HA.out.bel hbX)
          have hpgB : B ≤ pg := by have := HA.out.lt.2; have := HPG.out; omega
          have HC1 : Hid (∀ Y : World, Below w.heap.size w Y → Y.cell? ⟨ab, ao + k * 2 + 1, none⟩ = some (.int .i64 z1)) := Lib.hid fun Y hY => (hY.cell (p := ⟨ab, ao + k * 2 + 1, none⟩) hab).trans ((HA.out.low.cell (p := ⟨ab, ao + k * 2 + 1, none⟩) hab).symm.trans hcell1')
          clear hb bG hcell0 hcell1 o0 o1 o2 hmod HA hbX HPG
          have hrs : r.length ≤ 100000 := by have := HA2.out.len; omega
          have hcl := HC1.out _ HA2.out.low
          have HLW := Lib.hid HA2.out.low
          have HBX := Lib.hid bX
          have HIV := Lib.hid (And.intro HA2.out.inv HA2.out.len)
          clear hcl bX
          go_upto_region 22 with (fail)
          refine PredT.region_of (W := wc) (0) (Nat.zero_le _) [7] [
              fun y9 => Below wc.heap.size wc y9,
              fun y9 => ∃ v1, Ah w y9 t tm most d v1 (rowF most d r x0 x1 x2 z1) ad c r ga o B q0 q1 q2 ∧ blk y9 pg = some (.cells #[.int .i64 x0, .int .i64 x1, .int .i64 x2] 24 (0, 0))] [
              PredT.At 0 (.pointer (some ⟨t, 0, none⟩)),
              PredT.At 0 (.agg #[.int .i64 x0, .int .i64 x1, .int .i64 x2]),
              PredT.At 0 (.slice (some ⟨ab, ao, none⟩) len cap),
              PredT.At 0 (.int .i64 (k : Int)),
              PredT.At 0 (.pointer (some ⟨ab, ao + k * 2, none⟩)),
              PredT.At 0 (.pointer (some ⟨ab, ao + k * 2 + 1, none⟩)),
              PredT.At 0 (.int .i64 z1),
              PredT.When 1 (fun u y9 => ∃ u0, u = .tuple #[u0, .int .i64 (errF most d r x0 x1 x2 z1)] ∧ (Post wc (outF most d r x0 x1 x2 z1)) u0 y9),
              PredT.When 1 (fun u y9 => ∃ u0, u = .tuple #[u0, .int .i64 (errF most d r x0 x1 x2 z1)] ∧ (Post wc (outF most d r x0 x1 x2 z1)) u0 y9),
              PredT.When 1 (Post wc (outF most d r x0 x1 x2 z1)),
              PredT.At 1 (.int .i64 (errF most d r x0 x1 x2 z1)),
              PredT.When 1 (Post wc (outF most d r x0 x1 x2 z1)),
              PredT.At 1 (.int .i64 (errF most d r x0 x1 x2 z1))] (by kernel_rfl) (by kernel_rfl) (by kernel_rfl) (by decide) (by decide) ?_ ?_ ?_ ?_ ?_ ?_
          · exact ⟨PredT.at_stab _ _ _ _, PredT.at_stab _ _ _ _, PredT.at_stab _ _ _ _, PredT.at_stab _ _ _ _, PredT.at_stab _ _ _ _, PredT.at_stab _ _ _ _, PredT.at_stab _ _ _ _, PredT.when_stab _ _ _ (fun u y y' ⟨u0, h1, h2⟩ hb => ⟨u0, h1, Post.below h2 hb⟩), PredT.when_stab _ _ _ (fun u y y' ⟨u0, h1, h2⟩ hb => ⟨u0, h1, Post.below h2 hb⟩), PredT.when_stab _ _ _ (fun u y y' h hb => Post.below h hb), PredT.at_stab _ _ _ _, PredT.when_stab _ _ _ (fun u y y' h hb => Post.below h hb), PredT.at_stab _ _ _ _, trivial⟩
          · intro q hq
            rcases List.mem_cons.1 hq with rfl | hq
            · exact fun y y' h hb => h.trans (hb.mono h.size)
            rcases List.mem_cons.1 hq with rfl | hq
            · exact fun y y' ⟨v1, h1, h2⟩ hb => ⟨v1, h1.bel hb, (blk_below hb _ (blk_lt h2)).trans h2⟩
            cases hq
          · exact Below.refl _ _
          · refine ⟨.inr ?_, .inr ?_, .inr ?_, .inr ?_, .inr ?_, .inr ?_, .inr ?_, .inl rfl, .inr ?_, .inr ?_, .inr ?_, .inr ?_, .inr ?_, trivial⟩
            · intro b9 X ph hE hd hn hS hV hI hF
              have r9 : b9.tmps[9]?.getD undef = .pointer (some ⟨t, 0, none⟩) := (hn 9 (by kernel_rfl)).trans rfl
              exact Pred.yields_run (v := .pointer (some ⟨t, 0, none⟩)) (Pred.wanted_none rfl) (by go_simp) ⟨Below.refl _ _, rfl, Nat.zero_le _⟩
            · intro b9 X ph hE hd hn hS hV hI hF
              have r16 : b9.tmps[16]?.getD undef = .pointer (some ⟨pg, 0, none⟩) := (hn 16 (by kernel_rfl)).trans rfl
              have hp0 : ph = 0 := Nat.le_zero.1 (hF 0 7 rfl (Pred.waits_near (by kernel_rfl) (by kernel_rfl)))
              subst hp0
              have hb0 : Below wc.heap.size wc X := hS
              have z := (blk_below hb0 _ (blk_lt HBX.out)).trans HBX.out
              have y0 : X.cell? ⟨pg, 0, none⟩ = some (.int .i64 x0) := by rw [blk_cell z]; rfl
              have y1 : X.cell? ⟨pg, 1, none⟩ = some (.int .i64 x1) := by rw [blk_cell z]; rfl
              have y2 : X.cell? ⟨pg, 2, none⟩ = some (.int .i64 x2) := by rw [blk_cell z]; rfl
              exact Pred.yields_run (v := .agg #[.int .i64 x0, .int .i64 x1, .int .i64 x2]) (Pred.wanted_none rfl) (by go_simp) ⟨Below.refl _ _, rfl, Nat.zero_le _⟩
            · intro b9 X ph hE hd hn hS hV hI hF
              have r2 : b9.tmps[2]?.getD undef = .slice (some ⟨ab, ao, none⟩) len cap := (hn 2 (by kernel_rfl)).trans rfl
              exact Pred.yields_run (v := .slice (some ⟨ab, ao, none⟩) len cap) (Pred.wanted_none rfl) (by go_simp) ⟨Below.refl _ _, rfl, Nat.zero_le _⟩
            · intro b9 X ph hE hd hn hS hV hI hF
              have r13 : b9.tmps[13]?.getD undef = .int .i64 (k : Int) := (hn 13 (by kernel_rfl)).trans rfl
              exact Pred.yields_run (v := .int .i64 (k : Int)) (Pred.wanted_none rfl) (by go_simp) ⟨Below.refl _ _, rfl, Nat.zero_le _⟩
            · intro b9 X ph hE hd hn hS hV hI hF
              obtain ⟨r132, j132⟩ : PredT.At 0 (.slice (some ⟨ab, ao, none⟩) len cap) (b9.tmps[132]?.getD undef) X ph := hV 2 _ 132 rfl rfl (Pred.waits_near (by kernel_rfl) (by kernel_rfl))
              obtain ⟨r133, j133⟩ : PredT.At 0 (.int .i64 (k : Int)) (b9.tmps[133]?.getD undef) X ph := hV 3 _ 133 rfl rfl (Pred.waits_near (by kernel_rfl) (by kernel_rfl))
              exact Pred.yields_run (v := .pointer (some ⟨ab, ao + k * 2, none⟩)) (Pred.wanted_none rfl) (by go_simp) ⟨Below.refl _ _, rfl, Nat.zero_le _⟩
            · intro b9 X ph hE hd hn hS hV hI hF
              obtain ⟨r134, j134⟩ : PredT.At 0 (.pointer (some ⟨ab, ao + k * 2, none⟩)) (b9.tmps[134]?.getD undef) X ph := hV 4 _ 134 rfl rfl (Pred.waits_near (by kernel_rfl) (by kernel_rfl))
              exact Pred.yields_run (v := .pointer (some ⟨ab, ao + k * 2 + 1, none⟩)) (Pred.wanted_none rfl) (by go_simp) ⟨Below.refl _ _, rfl, Nat.zero_le _⟩
            · intro b9 X ph hE hd hn hS hV hI hF
              obtain ⟨r135, j135⟩ : PredT.At 0 (.pointer (some ⟨ab, ao + k * 2 + 1, none⟩)) (b9.tmps[135]?.getD undef) X ph := hV 5 _ 135 rfl rfl (Pred.waits_near (by kernel_rfl) (by kernel_rfl))
              have hp0 : ph = 0 := Nat.le_zero.1 (hF 0 7 rfl (Pred.waits_near (by kernel_rfl) (by kernel_rfl)))
              subst hp0
              have hb0 : Below wc.heap.size wc X := hS
              have z := HC1.out X (HLW.out.trans (hb0.mono HLW.out.size))
              exact Pred.yields_run (v := .int .i64 z1) (Pred.wanted_none rfl) (by go_simp) ⟨Below.refl _ _, rfl, Nat.zero_le _⟩
            · intro b9 X ph hE hd hn hS hV hI hF
              obtain ⟨j137, r137⟩ : PredT.When 1 (fun u y9 => ∃ u0, u = .tuple #[u0, .int .i64 (errF most d r x0 x1 x2 z1)] ∧ (Post wc (outF most d r x0 x1 x2 z1)) u0 y9) (b9.tmps[137]?.getD undef) X ph := hV 7 _ 137 rfl rfl (Pred.waits_near (by kernel_rfl) (by kernel_rfl))
              have hown := r137
              exact Pred.yields_run (v := b9.tmps[137]?.getD undef) (Pred.wanted_none rfl) (by go_simp) ⟨Below.refl _ _, j137, hown⟩
            · intro b9 X ph hE hd hn hS hV hI hF
              obtain ⟨j129, r129⟩ : PredT.When 1 (fun u y9 => ∃ u0, u = .tuple #[u0, .int .i64 (errF most d r x0 x1 x2 z1)] ∧ (Post wc (outF most d r x0 x1 x2 z1)) u0 y9) (b9.tmps[129]?.getD undef) X ph := hV 8 _ 129 rfl rfl (Pred.waits_near (by kernel_rfl) (by kernel_rfl))
              have hp1 : ph = 1 := by have := sel_le hS; simp at this; omega
              obtain ⟨u0, h1, h2⟩ := r129 hp1
              have rde : b9.tmps[129]?.getD undef = .tuple #[u0, .int .i64 (errF most d r x0 x1 x2 z1)] := h1
              exact Pred.yields_run (v := u0) (Pred.wanted_none rfl) (by clear hV hI hn; go_simp) ⟨Below.refl _ _, j129, fun _ => h2⟩
            · intro b9 X ph hE hd hn hS hV hI hF
              obtain ⟨j129, r129⟩ : PredT.When 1 (fun u y9 => ∃ u0, u = .tuple #[u0, .int .i64 (errF most d r x0 x1 x2 z1)] ∧ (Post wc (outF most d r x0 x1 x2 z1)) u0 y9) (b9.tmps[129]?.getD undef) X ph := hV 8 _ 129 rfl rfl (Pred.waits_near (by kernel_rfl) (by kernel_rfl))
              have hp1 : ph = 1 := by have := sel_le hS; simp at this; omega
              obtain ⟨u0, h1, h2⟩ := r129 hp1
              have rde : b9.tmps[129]?.getD undef = .tuple #[u0, .int .i64 (errF most d r x0 x1 x2 z1)] := h1
              exact Pred.yields_run (v := .int .i64 (errF most d r x0 x1 x2 z1)) (Pred.wanted_none rfl) (by clear hV hI hn; go_simp) ⟨Below.refl _ _, rfl, j129⟩
            · intro b9 X ph hE hd hn hS hV hI hF
              obtain ⟨j138, r138⟩ : PredT.When 1 (Post wc (outF most d r x0 x1 x2 z1)) (b9.tmps[138]?.getD undef) X ph := hV 9 _ 138 rfl rfl (Pred.waits_near (by kernel_rfl) (by kernel_rfl))
              have hown := r138
              exact Pred.yields_run (v := b9.tmps[138]?.getD undef) (Pred.wanted_none rfl) (by go_simp) ⟨Below.refl _ _, j138, hown⟩
            · intro b9 X ph hE hd hn hS hV hI hF
              obtain ⟨r139, j139⟩ : PredT.At 1 (.int .i64 (errF most d r x0 x1 x2 z1)) (b9.tmps[139]?.getD undef) X ph := hV 10 _ 139 rfl rfl (Pred.waits_near (by kernel_rfl) (by kernel_rfl))
              exact Pred.yields_run (v := .int .i64 (errF most d r x0 x1 x2 z1)) (Pred.wanted_none rfl) (by go_simp) ⟨Below.refl _ _, rfl, (by omega)⟩
          · refine ⟨?_, trivial⟩
            · refine ⟨_, rfl, fun k hk => (by cases hk), fun b9 X hE hd hn hS hV hI => ?_⟩
              obtain ⟨r130, j130⟩ : PredT.At 0 (.pointer (some ⟨t, 0, none⟩)) (b9.tmps[130]?.getD undef) X 0 := hV 0 _ 130 rfl rfl (Pred.waits_near (by kernel_rfl) (by kernel_rfl))
              obtain ⟨r131, j131⟩ : PredT.At 0 (.agg #[.int .i64 x0, .int .i64 x1, .int .i64 x2]) (b9.tmps[131]?.getD undef) X 0 := hV 1 _ 131 rfl rfl (Pred.waits_near (by kernel_rfl) (by kernel_rfl))
              obtain ⟨r136, j136⟩ : PredT.At 0 (.int .i64 z1) (b9.tmps[136]?.getD undef) X 0 := hV 6 _ 136 rfl rfl (Pred.waits_near (by kernel_rfl) (by kernel_rfl))
              replace hS : (fun y9 => Below wc.heap.size wc y9) X := hS
              have hb0 : Below wc.heap.size wc X := hS
              refine Pred.yields_call (f := 12) (args := #[.pointer (some ⟨t, 0, none⟩), .agg #[.int .i64 x0, .int .i64 x1, .int .i64 x2], .int .i64 z1]) (Pred.wanted_none rfl) (by clear hS hb0 hI hV hn; go_simp) ?_
              refine (code_add x0 x1 x2 z1 hm1 hrs (HA2.out.half.bel hb0)).mono ?_
              rintro e w9 ⟨u0, v1, rfl, h1, h2, h3⟩
              obtain ⟨ad1, c1, rfl, h4, h5⟩ := h1
              exact ⟨_, rfl, ⟨h3.os, h3.tape, h3.output, h3.size, fun k hk => absurd hk (by omega)⟩, ⟨v1, h2, (h3.block _ (blk_lt ((blk_below hb0 _ (blk_lt HBX.out)).trans HBX.out)) (by have := HA2.out.lt.1; omega) (pg_not_own (HA2.out.q.bel hb0) ((blk_below hb0 _ (blk_lt HBX.out)).trans HBX.out))).trans ((blk_below hb0 _ (blk_lt HBX.out)).trans HBX.out)⟩, by omega, fun _ => ⟨_, rfl, ad1, c1, rfl, h4, fun a e => Nat.le_trans hb0.size (h5 a e)⟩⟩
          intro v9 w8 hE hS hv
          replace hS : (fun y9 => ∃ v1, Ah w y9 t tm most d v1 (rowF most d r x0 x1 x2 z1) ad c r ga o B q0 q1 q2 ∧ blk y9 pg = some (.cells #[.int .i64 x0, .int .i64 x1, .int .i64 x2] 24 (0, 0))) w8 := hS
          have e0 : v9 0 = .pointer (some ⟨t, 0, none⟩) := (hv 0 _ 130 rfl rfl).1
          have e1 : v9 1 = .agg #[.int .i64 x0, .int .i64 x1, .int .i64 x2] := (hv 1 _ 131 rfl rfl).1
          have e2 : v9 2 = .slice (some ⟨ab, ao, none⟩) len cap := (hv 2 _ 132 rfl rfl).1
          have e3 : v9 3 = .int .i64 (k : Int) := (hv 3 _ 133 rfl rfl).1
          have e4 : v9 4 = .pointer (some ⟨ab, ao + k * 2, none⟩) := (hv 4 _ 134 rfl rfl).1
          have e5 : v9 5 = .pointer (some ⟨ab, ao + k * 2 + 1, none⟩) := (hv 5 _ 135 rfl rfl).1
          have e6 : v9 6 = .int .i64 z1 := (hv 6 _ 136 rfl rfl).1
          generalize hg7 : v9 7 = vv7
          generalize hg8 : v9 8 = vv8
          generalize hg9 : v9 9 = vv9
          have e10 : v9 10 = .int .i64 (errF most d r x0 x1 x2 z1) := (hv 10 _ 139 rfl rfl).1
          have HP11 : (Post wc (outF most d r x0 x1 x2 z1)) (v9 11) w8 := (hv 11 _ 17 rfl rfl).2 rfl
          generalize hg11 : v9 11 = vv11 at HP11
          have e12 : v9 12 = .int .i64 (errF most d r x0 x1 x2 z1) := (hv 12 _ 18 rfl rfl).1
          simp only [Pred.putsF_cons, Pred.putsF_nil, Nat.zero_add, Nat.reduceAdd, e0, e1, e2, e3, e4, e5, e6, hg7, hg8, hg9, e10, hg11, e12, Act.put, List.setIfInBounds_toArray, List.set_cons_zero, List.set_cons_succ]
          clear e0 e1 e2 e3 e4 e5 e6 hg7 hg8 hg9 e10 hg11 e12 hv
          obtain ⟨v1, hA3, hBX⟩ := hS
          have HA3 := Lib.hid hA3
          have HBX := Lib.hid hBX
          have HLW := Lib.hid hA3.low
          have HP11 := Lib.hid HP11
          clear hA3 hBX hE
          go_upto_region 23 with (fail)
          refine PredT.region_of (W := w8) (0) (Nat.zero_le _) [7] [
              fun y9 => Below w8.heap.size w8 y9,
              fun y9 => ∃ ad1 c1, Ah w y9 t tm most d v1 (rowF most d r x0 x1 x2 z1) ad1 c1 (rowF most d r x0 x1 x2 z1) ga o B q0 q1 q2 ∧ w8.grownBy y9 (some tm)] [
              PredT.At 0 (.pointer (some ⟨tm, 0, none⟩)),
              PredT.At 0 (.agg #[.int .i64 x0, .int .i64 x1, .int .i64 x2]),
              PredT.At 0 (.slice (some ⟨ab, ao, none⟩) len cap),
              PredT.At 0 (.int .i64 (k : Int)),
              PredT.At 0 (.pointer (some ⟨ab, ao + k * 2, none⟩)),
              PredT.At 0 (.pointer (some ⟨ab, ao + k * 2 + 1, none⟩)),
              PredT.At 0 (.int .i64 z1),
              PredT.When 1 (fun u y9 => ∃ u0, u = .tuple #[u0, .int .i64 (errF most d r x0 x1 x2 z1)] ∧ (Post2 (outF most d r x0 x1 x2 z1)) u0 y9),
              PredT.When 1 (fun u y9 => ∃ u0, u = .tuple #[u0, .int .i64 (errF most d r x0 x1 x2 z1)] ∧ (Post2 (outF most d r x0 x1 x2 z1)) u0 y9),
              PredT.When 1 (Post2 (outF most d r x0 x1 x2 z1)),
              PredT.At 1 (.int .i64 (errF most d r x0 x1 x2 z1)),
              PredT.When 1 (Post2 (outF most d r x0 x1 x2 z1)),
              PredT.At 1 (.int .i64 (errF most d r x0 x1 x2 z1))] (by kernel_rfl) (by kernel_rfl) (by kernel_rfl) (by decide) (by decide) ?_ ?_ ?_ ?_ ?_ ?_
          · exact ⟨PredT.at_stab _ _ _ _, PredT.at_stab _ _ _ _, PredT.at_stab _ _ _ _, PredT.at_stab _ _ _ _, PredT.at_stab _ _ _ _, PredT.at_stab _ _ _ _, PredT.at_stab _ _ _ _, PredT.when_stab _ _ _ (fun u y y' ⟨u0, h1, h2⟩ hb => ⟨u0, h1, post2_below h2 hb⟩), PredT.when_stab _ _ _ (fun u y y' ⟨u0, h1, h2⟩ hb => ⟨u0, h1, post2_below h2 hb⟩), PredT.when_stab _ _ _ (fun u y y' h hb => post2_below h hb), PredT.at_stab _ _ _ _, PredT.when_stab _ _ _ (fun u y y' h hb => post2_below h hb), PredT.at_stab _ _ _ _, trivial⟩
          · intro q hq
            rcases List.mem_cons.1 hq with rfl | hq
            · exact fun y y' h hb => h.trans (hb.mono h.size)
            rcases List.mem_cons.1 hq with rfl | hq
            · exact fun y y' ⟨a1, c1, h1, h2⟩ hb => ⟨a1, c1, h1.bel hb, grown_trans_below h2 hb⟩
            cases hq
          · exact Below.refl _ _
          · refine ⟨.inr ?_, .inr ?_, .inr ?_, .inr ?_, .inr ?_, .inr ?_, .inr ?_, .inl rfl, .inr ?_, .inr ?_, .inr ?_, .inr ?_, .inr ?_, trivial⟩
            · intro b9 X ph hE hd hn hS hV hI hF
              have r11 : b9.tmps[11]?.getD undef = .pointer (some ⟨tm, 0, none⟩) := (hn 11 (by kernel_rfl)).trans rfl
              exact Pred.yields_run (v := .pointer (some ⟨tm, 0, none⟩)) (Pred.wanted_none rfl) (by go_simp) ⟨Below.refl _ _, rfl, Nat.zero_le _⟩
            · intro b9 X ph hE hd hn hS hV hI hF
              have r16 : b9.tmps[16]?.getD undef = .pointer (some ⟨pg, 0, none⟩) := (hn 16 (by kernel_rfl)).trans rfl
              have hp0 : ph = 0 := Nat.le_zero.1 (hF 0 7 rfl (Pred.waits_near (by kernel_rfl) (by kernel_rfl)))
              subst hp0
              have hb0 : Below w8.heap.size w8 X := hS
              have z := (blk_below hb0 _ (blk_lt HBX.out)).trans HBX.out
              have y0 : X.cell? ⟨pg, 0, none⟩ = some (.int .i64 x0) := by rw [blk_cell z]; rfl
              have y1 : X.cell? ⟨pg, 1, none⟩ = some (.int .i64 x1) := by rw [blk_cell z]; rfl
              have y2 : X.cell? ⟨pg, 2, none⟩ = some (.int .i64 x2) := by rw [blk_cell z]; rfl
              exact Pred.yields_run (v := .agg #[.int .i64 x0, .int .i64 x1, .int .i64 x2]) (Pred.wanted_none rfl) (by go_simp) ⟨Below.refl _ _, rfl, Nat.zero_le _⟩
            · intro b9 X ph hE hd hn hS hV hI hF
              have r2 : b9.tmps[2]?.getD undef = .slice (some ⟨ab, ao, none⟩) len cap := (hn 2 (by kernel_rfl)).trans rfl
              exact Pred.yields_run (v := .slice (some ⟨ab, ao, none⟩) len cap) (Pred.wanted_none rfl) (by go_simp) ⟨Below.refl _ _, rfl, Nat.zero_le _⟩
            · intro b9 X ph hE hd hn hS hV hI hF
              have r13 : b9.tmps[13]?.getD undef = .int .i64 (k : Int) := (hn 13 (by kernel_rfl)).trans rfl
              exact Pred.yields_run (v := .int .i64 (k : Int)) (Pred.wanted_none rfl) (by go_simp) ⟨Below.refl _ _, rfl, Nat.zero_le _⟩
            · intro b9 X ph hE hd hn hS hV hI hF
              obtain ⟨r143, j143⟩ : PredT.At 0 (.slice (some ⟨ab, ao, none⟩) len cap) (b9.tmps[143]?.getD undef) X ph := hV 2 _ 143 rfl rfl (Pred.waits_near (by kernel_rfl) (by kernel_rfl))
              obtain ⟨r144, j144⟩ : PredT.At 0 (.int .i64 (k : Int)) (b9.tmps[144]?.getD undef) X ph := hV 3 _ 144 rfl rfl (Pred.waits_near (by kernel_rfl) (by kernel_rfl))
              exact Pred.yields_run (v := .pointer (some ⟨ab, ao + k * 2, none⟩)) (Pred.wanted_none rfl) (by go_simp) ⟨Below.refl _ _, rfl, Nat.zero_le _⟩
            · intro b9 X ph hE hd hn hS hV hI hF
              obtain ⟨r145, j145⟩ : PredT.At 0 (.pointer (some ⟨ab, ao + k * 2, none⟩)) (b9.tmps[145]?.getD undef) X ph := hV 4 _ 145 rfl rfl (Pred.waits_near (by kernel_rfl) (by kernel_rfl))
              exact Pred.yields_run (v := .pointer (some ⟨ab, ao + k * 2 + 1, none⟩)) (Pred.wanted_none rfl) (by go_simp) ⟨Below.refl _ _, rfl, Nat.zero_le _⟩
            · intro b9 X ph hE hd hn hS hV hI hF
              obtain ⟨r146, j146⟩ : PredT.At 0 (.pointer (some ⟨ab, ao + k * 2 + 1, none⟩)) (b9.tmps[146]?.getD undef) X ph := hV 5 _ 146 rfl rfl (Pred.waits_near (by kernel_rfl) (by kernel_rfl))
              have hp0 : ph = 0 := Nat.le_zero.1 (hF 0 7 rfl (Pred.waits_near (by kernel_rfl) (by kernel_rfl)))
              subst hp0
              have hb0 : Below w8.heap.size w8 X := hS
              have z := HC1.out X (HLW.out.trans (hb0.mono HLW.out.size))
              exact Pred.yields_run (v := .int .i64 z1) (Pred.wanted_none rfl) (by go_simp) ⟨Below.refl _ _, rfl, Nat.zero_le _⟩
            · intro b9 X ph hE hd hn hS hV hI hF
              obtain ⟨j148, r148⟩ : PredT.When 1 (fun u y9 => ∃ u0, u = .tuple #[u0, .int .i64 (errF most d r x0 x1 x2 z1)] ∧ (Post2 (outF most d r x0 x1 x2 z1)) u0 y9) (b9.tmps[148]?.getD undef) X ph := hV 7 _ 148 rfl rfl (Pred.waits_near (by kernel_rfl) (by kernel_rfl))
              have hown := r148
              exact Pred.yields_run (v := b9.tmps[148]?.getD undef) (Pred.wanted_none rfl) (by go_simp) ⟨Below.refl _ _, j148, hown⟩
            · intro b9 X ph hE hd hn hS hV hI hF
              obtain ⟨j140, r140⟩ : PredT.When 1 (fun u y9 => ∃ u0, u = .tuple #[u0, .int .i64 (errF most d r x0 x1 x2 z1)] ∧ (Post2 (outF most d r x0 x1 x2 z1)) u0 y9) (b9.tmps[140]?.getD undef) X ph := hV 8 _ 140 rfl rfl (Pred.waits_near (by kernel_rfl) (by kernel_rfl))
              have hp1 : ph = 1 := by have := sel_le hS; simp at this; omega
              obtain ⟨u0, h1, h2⟩ := r140 hp1
              have rde : b9.tmps[140]?.getD undef = .tuple #[u0, .int .i64 (errF most d r x0 x1 x2 z1)] := h1
              exact Pred.yields_run (v := u0) (Pred.wanted_none rfl) (by clear hV hI hn; go_simp) ⟨Below.refl _ _, j140, fun _ => h2⟩
            · intro b9 X ph hE hd hn hS hV hI hF
              obtain ⟨j140, r140⟩ : PredT.When 1 (fun u y9 => ∃ u0, u = .tuple #[u0, .int .i64 (errF most d r x0 x1 x2 z1)] ∧ (Post2 (outF most d r x0 x1 x2 z1)) u0 y9) (b9.tmps[140]?.getD undef) X ph := hV 8 _ 140 rfl rfl (Pred.waits_near (by kernel_rfl) (by kernel_rfl))
              have hp1 : ph = 1 := by have := sel_le hS; simp at this; omega
              obtain ⟨u0, h1, h2⟩ := r140 hp1
              have rde : b9.tmps[140]?.getD undef = .tuple #[u0, .int .i64 (errF most d r x0 x1 x2 z1)] := h1
              exact Pred.yields_run (v := .int .i64 (errF most d r x0 x1 x2 z1)) (Pred.wanted_none rfl) (by clear hV hI hn; go_simp) ⟨Below.refl _ _, rfl, j140⟩
            · intro b9 X ph hE hd hn hS hV hI hF
              obtain ⟨j149, r149⟩ : PredT.When 1 (Post2 (outF most d r x0 x1 x2 z1)) (b9.tmps[149]?.getD undef) X ph := hV 9 _ 149 rfl rfl (Pred.waits_near (by kernel_rfl) (by kernel_rfl))
              have hown := r149
              exact Pred.yields_run (v := b9.tmps[149]?.getD undef) (Pred.wanted_none rfl) (by go_simp) ⟨Below.refl _ _, j149, hown⟩
            · intro b9 X ph hE hd hn hS hV hI hF
              obtain ⟨r150, j150⟩ : PredT.At 1 (.int .i64 (errF most d r x0 x1 x2 z1)) (b9.tmps[150]?.getD undef) X ph := hV 10 _ 150 rfl rfl (Pred.waits_near (by kernel_rfl) (by kernel_rfl))
              exact Pred.yields_run (v := .int .i64 (errF most d r x0 x1 x2 z1)) (Pred.wanted_none rfl) (by go_simp) ⟨Below.refl _ _, rfl, (by omega)⟩
          · refine ⟨?_, trivial⟩
            · refine ⟨_, rfl, fun k hk => (by cases hk), fun b9 X hE hd hn hS hV hI => ?_⟩
              obtain ⟨r141, j141⟩ : PredT.At 0 (.pointer (some ⟨tm, 0, none⟩)) (b9.tmps[141]?.getD undef) X 0 := hV 0 _ 141 rfl rfl (Pred.waits_near (by kernel_rfl) (by kernel_rfl))
              obtain ⟨r142, j142⟩ : PredT.At 0 (.agg #[.int .i64 x0, .int .i64 x1, .int .i64 x2]) (b9.tmps[142]?.getD undef) X 0 := hV 1 _ 142 rfl rfl (Pred.waits_near (by kernel_rfl) (by kernel_rfl))
              obtain ⟨r147, j147⟩ : PredT.At 0 (.int .i64 z1) (b9.tmps[147]?.getD undef) X 0 := hV 6 _ 147 rfl rfl (Pred.waits_near (by kernel_rfl) (by kernel_rfl))
              replace hS : (fun y9 => Below w8.heap.size w8 y9) X := hS
              have hb0 : Below w8.heap.size w8 X := hS
              refine Pred.yields_call (f := 13) (args := #[.pointer (some ⟨tm, 0, none⟩), .agg #[.int .i64 x0, .int .i64 x1, .int .i64 x2], .int .i64 z1]) (Pred.wanted_none rfl) (by clear hS hb0 hI hV hn; go_simp) ?_
              refine (ref_add x0 x1 x2 z1 HD3.out hm1 HIV.out.1 HIV.out.2 hrs (HA3.out.bel hb0)).mono ?_
              rintro e w9 ⟨u0, ad1, c1, rfl, ⟨a9, c9, rfl, h4⟩, h2, h3⟩
              exact ⟨_, rfl, below_zero h3, ⟨ad1, c1, h2, grown_below hb0 h3⟩, by omega, fun _ => ⟨_, rfl, a9, c9, rfl, h4⟩⟩
          intro v9 w9 hE hS hv
          replace hS : (fun y9 => ∃ ad1 c1, Ah w y9 t tm most d v1 (rowF most d r x0 x1 x2 z1) ad1 c1 (rowF most d r x0 x1 x2 z1) ga o B q0 q1 q2 ∧ w8.grownBy y9 (some tm)) w9 := hS
          have e0 : v9 0 = .pointer (some ⟨tm, 0, none⟩) := (hv 0 _ 141 rfl rfl).1
          have e1 : v9 1 = .agg #[.int .i64 x0, .int .i64 x1, .int .i64 x2] := (hv 1 _ 142 rfl rfl).1
          have e2 : v9 2 = .slice (some ⟨ab, ao, none⟩) len cap := (hv 2 _ 143 rfl rfl).1
          have e3 : v9 3 = .int .i64 (k : Int) := (hv 3 _ 144 rfl rfl).1
          have e4 : v9 4 = .pointer (some ⟨ab, ao + k * 2, none⟩) := (hv 4 _ 145 rfl rfl).1
          have e5 : v9 5 = .pointer (some ⟨ab, ao + k * 2 + 1, none⟩) := (hv 5 _ 146 rfl rfl).1
          have e6 : v9 6 = .int .i64 z1 := (hv 6 _ 147 rfl rfl).1
          generalize hg7 : v9 7 = ww7
          generalize hg8 : v9 8 = ww8
          generalize hg9 : v9 9 = ww9
          have e10 : v9 10 = .int .i64 (errF most d r x0 x1 x2 z1) := (hv 10 _ 150 rfl rfl).1
          have HQ11 : (Post2 (outF most d r x0 x1 x2 z1)) (v9 11) w9 := (hv 11 _ 19 rfl rfl).2 rfl
          generalize hg11 : v9 11 = ww11 at HQ11
          have e12 : v9 12 = .int .i64 (errF most d r x0 x1 x2 z1) := (hv 12 _ 20 rfl rfl).1
          simp only [Pred.putsF_cons, Pred.putsF_nil, Nat.zero_add, Nat.reduceAdd, e0, e1, e2, e3, e4, e5, e6, hg7, hg8, hg9, e10, hg11, e12, Act.put, List.setIfInBounds_toArray, List.set_cons_zero, List.set_cons_succ]
          clear e0 e1 e2 e3 e4 e5 e6 hg7 hg8 hg9 e10 hg11 e12 hv
          obtain ⟨ad1, c1, hA4, hg4⟩ := hS
          obtain ⟨a7, c7, rfl, hp7, hx7⟩ := HP11.out
          obtain ⟨a9, c9, rfl, hp9⟩ := HQ11
          have hl9 := outF_len most d r x0 x1 x2 z1
          have hp79 := pg_kept2 hp7 hg4.size (fun a e hl => hg4.block _ hl (fun e2 => by have := hx7 a e; have := HA2.out.lt; injection e2 with e2; omega))
          obtain ⟨hi4, hl4⟩ := rowF_inv HD3.out HIV.out.1 HIV.out.2 x0 x1 x2 z1
          have HA4 := Lib.hid (hA4.full hi4 hl4)
          generalize outF most d r x0 x1 x2 z1 = out at hp79 hp9 hl9 ⊢
          generalize errF most d r x0 x1 x2 z1 = er
          have CP : Hid (Calls Try.prog 14 #[.slice a7 out.length c7, .slice a9 out.length c9] w9 fun e w' => e = .returned (.bool true) ∧ Below w9.heap.size w9 w') := Lib.hid (by
            have := pages_any out out a7 a9 c7 c9 w9 hp79 hp9 (by omega) (by omega)
            rw [decide_eq_true rfl] at this
            exact this)
          have hee : (er == er) = true := by simp
          clear hE hA4 hg4 hp7 hx7 hp9 hp79 hi4 hl4 HA2 HA3 HP11 HIV HBX HLW
          go_wp2_with fail
          refine CP.out.mono ?_
          rintro e w10 ⟨rfl, hb⟩
          have HF := Lib.hid (HA4.out.bel hb)
          clear hb CP HA4
          go_wp2
          go_meet
          case rel => exact Lib.hid ⟨v1, ad1, c1, _, HF.out⟩
      case rest =>
      obtain ⟨v1, ad1, c1, r1, hA1⟩ := hcut.out
      clear hcut hcell0 hcell1 hcell1' HA
      obtain ⟨Y, eY⟩ : ∃ z : World, z = wc := ⟨_, rfl⟩
      subst eY
      clear v ad c r
      obtain ⟨v, ev⟩ : ∃ z, z = v1 := ⟨_, rfl⟩
      obtain ⟨ad, ead⟩ : ∃ z, z = ad1 := ⟨_, rfl⟩
      obtain ⟨c, ec⟩ : ∃ z, z = c1 := ⟨_, rfl⟩
      obtain ⟨r, er⟩ : ∃ z, z = r1 := ⟨_, rfl⟩
      subst ev
      subst ead
      subst ec
      subst er
      have HA := Lib.hid hA1
      have hrs : r.length ≤ 100000 := by have := hA1.len; omega
      have HL2 : Hid (min 2 (r.length : Int) = ((r.take 2).length : Int)) := Lib.hid (by rw [List.length_take]; omega)
      clear hA1
      go_upto_region 26 with (fail)
      refine PredT.region_of (W := Y) (Y.heap.size) (Nat.le_refl _) [] [
          fun _ => True] [
          PredT.At 0 (.pointer (some ⟨t, 0, none⟩)),
          PredT.At 0 (.int .i64 (r.length : Int)),
          PredT.At 0 (.pointer (some ⟨tm, 0, none⟩)),
          PredT.At 0 (.pointer (some ⟨tm, 0, none⟩)),
          PredT.At 0 (.pointer (some ⟨tm, 2, none⟩)),
          PredT.At 0 (.slice ad r.length c),
          PredT.At 0 (.int .i64 (r.length : Int)),
          PredT.At 0 (.bool false),
          PredT.At 0 (.bool false),
          PredT.At 0 (.pointer (some ⟨t, 0, none⟩)),
          PredT.When 0 (fun u y9 => ∃ (a9 : Option Addr) (c9 : Nat), u = .slice a9 (cutV r (-1)).length c9 ∧ RwAt y9 a9 (cutV r (-1))),
          PredT.At 0 (.pointer (some ⟨tm, 0, none⟩)),
          PredT.At 0 (.pointer (some ⟨tm, 0, none⟩)),
          PredT.At 0 (.pointer (some ⟨tm, 2, none⟩)),
          PredT.At 0 (.slice ad r.length c),
          PredT.At 0 (.bool true),
          PredT.At 0 (.bool false),
          PredT.At 0 (.bool false),
          PredT.At 0 (.bool false),
          PredT.At 0 (.pointer (some ⟨t, 0, none⟩)),
          PredT.When 0 (fun u y9 => ∃ (a9 : Option Addr) (c9 : Nat), u = .slice a9 (cutV r 2).length c9 ∧ RwAt y9 a9 (cutV r 2)),
          PredT.At 0 (.pointer (some ⟨tm, 0, none⟩)),
          PredT.At 0 (.pointer (some ⟨tm, 0, none⟩)),
          PredT.At 0 (.pointer (some ⟨tm, 2, none⟩)),
          PredT.At 0 (.slice ad r.length c),
          PredT.At 0 (.pointer (some ⟨tm, 0, none⟩)),
          PredT.At 0 (.pointer (some ⟨tm, 0, none⟩)),
          PredT.At 0 (.pointer (some ⟨tm, 2, none⟩)),
          PredT.At 0 (.slice ad r.length c),
          PredT.At 0 (.int .i64 (r.length : Int)),
          PredT.At 0 (.int .i64 (min 2 (r.length : Int))),
          PredT.At 0 (.slice ad (r.take 2).length c),
          PredT.At 0 (.bool true),
          PredT.At 0 (.bool false),
          PredT.At 0 (.bool false)] (by kernel_rfl) (by kernel_rfl) (by kernel_rfl) (by decide) (by decide) ?_ ?_ ?_ ?_ ?_ ?_
      · exact ⟨PredT.at_stab _ _ _ _, PredT.at_stab _ _ _ _, PredT.at_stab _ _ _ _, PredT.at_stab _ _ _ _, PredT.at_stab _ _ _ _, PredT.at_stab _ _ _ _, PredT.at_stab _ _ _ _, PredT.at_stab _ _ _ _, PredT.at_stab _ _ _ _, PredT.at_stab _ _ _ _, PredT.when_stab _ _ _ (fun u y y' ⟨a9, c9, h1, h2⟩ hb => ⟨a9, c9, h1, h2.bel hb⟩), PredT.at_stab _ _ _ _, PredT.at_stab _ _ _ _, PredT.at_stab _ _ _ _, PredT.at_stab _ _ _ _, PredT.at_stab _ _ _ _, PredT.at_stab _ _ _ _, PredT.at_stab _ _ _ _, PredT.at_stab _ _ _ _, PredT.at_stab _ _ _ _, PredT.when_stab _ _ _ (fun u y y' ⟨a9, c9, h1, h2⟩ hb => ⟨a9, c9, h1, h2.bel hb⟩), PredT.at_stab _ _ _ _, PredT.at_stab _ _ _ _, PredT.at_stab _ _ _ _, PredT.at_stab _ _ _ _, PredT.at_stab _ _ _ _, PredT.at_stab _ _ _ _, PredT.at_stab _ _ _ _, PredT.at_stab _ _ _ _, PredT.at_stab _ _ _ _, PredT.at_stab _ _ _ _, PredT.at_stab _ _ _ _, PredT.at_stab _ _ _ _, PredT.at_stab _ _ _ _, PredT.at_stab _ _ _ _, trivial⟩
      · intro q hq
        rcases List.mem_cons.1 hq with rfl | hq
        · exact fun _ _ h _ => trivial
        cases hq
      · exact trivial
      · refine ⟨.inr ?_, .inr ?_, .inr ?_, .inr ?_, .inr ?_, .inr ?_, .inr ?_, .inr ?_, .inr ?_, .inr ?_, .inr ?_, .inr ?_, .inr ?_, .inr ?_, .inr ?_, .inr ?_, .inr ?_, .inr ?_, .inr ?_, .inr ?_, .inr ?_, .inr ?_, .inr ?_, .inr ?_, .inr ?_, .inr ?_, .inr ?_, .inr ?_, .inr ?_, .inr ?_, .inr ?_, .inr ?_, .inr ?_, .inr ?_, .inr ?_, trivial⟩
        · intro b9 X ph hE hd hn hS hV hI hF
          have r9 : b9.tmps[9]?.getD undef = .pointer (some ⟨t, 0, none⟩) := (hn 9 (by kernel_rfl)).trans rfl
          exact Pred.yields_run (v := .pointer (some ⟨t, 0, none⟩)) (Pred.wanted_none rfl) (by go_simp) ⟨Below.refl _ _, rfl, Nat.zero_le _⟩
        · intro b9 X ph hE hd hn hS hV hI hF
          obtain ⟨r160, j160⟩ : PredT.At 0 (.pointer (some ⟨t, 0, none⟩)) (b9.tmps[160]?.getD undef) X ph := hV 0 _ 160 rfl rfl (Pred.waits_near (by kernel_rfl) (by kernel_rfl))
          have hA := HA.out.bel hE
          refine Pred.yields_call (f := 15) (args := #[.pointer (some ⟨t, 0, none⟩)]) (Pred.wanted_none rfl) (by go_simp) ?_
          refine (len_any t 0 most d v r X hA.q).mono ?_
          rintro e w9 ⟨rfl, rfl⟩
          exact ⟨_, rfl, Below.refl _ _, rfl, Nat.zero_le _⟩
        · intro b9 X ph hE hd hn hS hV hI hF
          have r11 : b9.tmps[11]?.getD undef = .pointer (some ⟨tm, 0, none⟩) := (hn 11 (by kernel_rfl)).trans rfl
          exact Pred.yields_run (v := .pointer (some ⟨tm, 0, none⟩)) (Pred.wanted_none rfl) (by go_simp) ⟨Below.refl _ _, rfl, Nat.zero_le _⟩
        · intro b9 X ph hE hd hn hS hV hI hF
          obtain ⟨r162, j162⟩ : PredT.At 0 (.pointer (some ⟨tm, 0, none⟩)) (b9.tmps[162]?.getD undef) X ph := hV 2 _ 162 rfl rfl (Pred.waits_near (by kernel_rfl) (by kernel_rfl))
          exact Pred.yields_run (v := .pointer (some ⟨tm, 0, none⟩)) (Pred.wanted_none rfl) (by go_simp) ⟨Below.refl _ _, rfl, Nat.zero_le _⟩
        · intro b9 X ph hE hd hn hS hV hI hF
          obtain ⟨r163, j163⟩ : PredT.At 0 (.pointer (some ⟨tm, 0, none⟩)) (b9.tmps[163]?.getD undef) X ph := hV 3 _ 163 rfl rfl (Pred.waits_near (by kernel_rfl) (by kernel_rfl))
          exact Pred.yields_run (v := .pointer (some ⟨tm, 2, none⟩)) (Pred.wanted_none rfl) (by go_simp) ⟨Below.refl _ _, rfl, Nat.zero_le _⟩
        · intro b9 X ph hE hd hn hS hV hI hF
          obtain ⟨r164, j164⟩ : PredT.At 0 (.pointer (some ⟨tm, 2, none⟩)) (b9.tmps[164]?.getD undef) X ph := hV 4 _ 164 rfl rfl (Pred.waits_near (by kernel_rfl) (by kernel_rfl))
          have hA := HA.out.bel hE
          have z : X.cell? ⟨tm, 2, none⟩ = some (.slice ad r.length c) := by rw [blk_cell hA.m.t]; rfl
          exact Pred.yields_run (v := .slice ad r.length c) (Pred.wanted_none rfl) (by go_simp) ⟨Below.refl _ _, rfl, Nat.zero_le _⟩
        · intro b9 X ph hE hd hn hS hV hI hF
          obtain ⟨r165, j165⟩ : PredT.At 0 (.slice ad r.length c) (b9.tmps[165]?.getD undef) X ph := hV 5 _ 165 rfl rfl (Pred.waits_near (by kernel_rfl) (by kernel_rfl))
          exact Pred.yields_run (v := .int .i64 (r.length : Int)) (Pred.wanted_none rfl) (by go_simp) ⟨Below.refl _ _, rfl, Nat.zero_le _⟩
        · intro b9 X ph hE hd hn hS hV hI hF
          obtain ⟨r161, j161⟩ : PredT.At 0 (.int .i64 (r.length : Int)) (b9.tmps[161]?.getD undef) X ph := hV 1 _ 161 rfl rfl (Pred.waits_near (by kernel_rfl) (by kernel_rfl))
          obtain ⟨r166, j166⟩ : PredT.At 0 (.int .i64 (r.length : Int)) (b9.tmps[166]?.getD undef) X ph := hV 6 _ 166 rfl rfl (Pred.waits_near (by kernel_rfl) (by kernel_rfl))
          exact Pred.yields_run (v := .bool false) (Pred.wanted_none rfl) (by go_simp) ⟨Below.refl _ _, rfl, Nat.zero_le _⟩
        · intro b9 X ph hE hd hn hS hV hI hF
          obtain ⟨r167, j167⟩ : PredT.At 0 (.bool false) (b9.tmps[167]?.getD undef) X ph := hV 7 _ 167 rfl rfl (Pred.waits_near (by kernel_rfl) (by kernel_rfl))
          exact Pred.yields_run (v := .bool false) (Pred.wanted_none rfl) (by go_simp) ⟨Below.refl _ _, rfl, Nat.zero_le _⟩
        · intro b9 X ph hE hd hn hS hV hI hF
          have r9 : b9.tmps[9]?.getD undef = .pointer (some ⟨t, 0, none⟩) := (hn 9 (by kernel_rfl)).trans rfl
          obtain ⟨r168, j168⟩ : PredT.At 0 (.bool false) (b9.tmps[168]?.getD undef) X ph := hV 8 _ 168 rfl rfl (Pred.waits_near (by kernel_rfl) (by kernel_rfl))
          exact Pred.yields_run (v := .pointer (some ⟨t, 0, none⟩)) ((Pred.wanted_at (g := 8) (d := 168) (f := false) rfl rfl r168).trans rfl) (by go_simp) ⟨Below.refl _ _, rfl, Nat.zero_le _⟩
        · intro b9 X ph hE hd hn hS hV hI hF
          obtain ⟨r169, j169⟩ : PredT.At 0 (.pointer (some ⟨t, 0, none⟩)) (b9.tmps[169]?.getD undef) X ph := hV 9 _ 169 rfl rfl (Pred.waits_near (by kernel_rfl) (by kernel_rfl))
          obtain ⟨r168, j168⟩ : PredT.At 0 (.bool false) (b9.tmps[168]?.getD undef) X ph := hV 8 _ 168 rfl rfl (Pred.waits_near (by kernel_rfl) (by kernel_rfl))
          have hA := HA.out.bel hE
          refine Pred.yields_call (f := 17) (args := #[.pointer (some ⟨t, 0, none⟩), .int .i64 (-1)]) ((Pred.wanted_at (g := 8) (d := 168) (f := false) rfl rfl r168).trans rfl) (by go_simp) ?_
          refine (lall_any' t most d v r (-1) X hA.q hrs).mono ?_
          rintro e w9 ⟨⟨a9, c9, rfl, hr9, -⟩, hb⟩
          exact ⟨_, rfl, hb, Nat.zero_le _, fun _ => ⟨a9, c9, rfl, hr9⟩⟩
        · intro b9 X ph hE hd hn hS hV hI hF
          have r11 : b9.tmps[11]?.getD undef = .pointer (some ⟨tm, 0, none⟩) := (hn 11 (by kernel_rfl)).trans rfl
          obtain ⟨r168, j168⟩ : PredT.At 0 (.bool false) (b9.tmps[168]?.getD undef) X ph := hV 8 _ 168 rfl rfl (Pred.waits_near (by kernel_rfl) (by kernel_rfl))
          exact Pred.yields_run (v := .pointer (some ⟨tm, 0, none⟩)) ((Pred.wanted_at (g := 8) (d := 168) (f := false) rfl rfl r168).trans rfl) (by go_simp) ⟨Below.refl _ _, rfl, Nat.zero_le _⟩
        · intro b9 X ph hE hd hn hS hV hI hF
          obtain ⟨r171, j171⟩ : PredT.At 0 (.pointer (some ⟨tm, 0, none⟩)) (b9.tmps[171]?.getD undef) X ph := hV 11 _ 171 rfl rfl (Pred.waits_near (by kernel_rfl) (by kernel_rfl))
          obtain ⟨r168, j168⟩ : PredT.At 0 (.bool false) (b9.tmps[168]?.getD undef) X ph := hV 8 _ 168 rfl rfl (Pred.waits_near (by kernel_rfl) (by kernel_rfl))
          exact Pred.yields_run (v := .pointer (some ⟨tm, 0, none⟩)) ((Pred.wanted_at (g := 8) (d := 168) (f := false) rfl rfl r168).trans rfl) (by go_simp) ⟨Below.refl _ _, rfl, Nat.zero_le _⟩
        · intro b9 X ph hE hd hn hS hV hI hF
          obtain ⟨r172, j172⟩ : PredT.At 0 (.pointer (some ⟨tm, 0, none⟩)) (b9.tmps[172]?.getD undef) X ph := hV 12 _ 172 rfl rfl (Pred.waits_near (by kernel_rfl) (by kernel_rfl))
          obtain ⟨r168, j168⟩ : PredT.At 0 (.bool false) (b9.tmps[168]?.getD undef) X ph := hV 8 _ 168 rfl rfl (Pred.waits_near (by kernel_rfl) (by kernel_rfl))
          exact Pred.yields_run (v := .pointer (some ⟨tm, 2, none⟩)) ((Pred.wanted_at (g := 8) (d := 168) (f := false) rfl rfl r168).trans rfl) (by go_simp) ⟨Below.refl _ _, rfl, Nat.zero_le _⟩
        · intro b9 X ph hE hd hn hS hV hI hF
          obtain ⟨r173, j173⟩ : PredT.At 0 (.pointer (some ⟨tm, 2, none⟩)) (b9.tmps[173]?.getD undef) X ph := hV 13 _ 173 rfl rfl (Pred.waits_near (by kernel_rfl) (by kernel_rfl))
          obtain ⟨r168, j168⟩ : PredT.At 0 (.bool false) (b9.tmps[168]?.getD undef) X ph := hV 8 _ 168 rfl rfl (Pred.waits_near (by kernel_rfl) (by kernel_rfl))
          have hA := HA.out.bel hE
          have z : X.cell? ⟨tm, 2, none⟩ = some (.slice ad r.length c) := by rw [blk_cell hA.m.t]; rfl
          exact Pred.yields_run (v := .slice ad r.length c) ((Pred.wanted_at (g := 8) (d := 168) (f := false) rfl rfl r168).trans rfl) (by go_simp) ⟨Below.refl _ _, rfl, Nat.zero_le _⟩
        · intro b9 X ph hE hd hn hS hV hI hF
          obtain ⟨j170, r170⟩ : PredT.When 0 (fun u y9 => ∃ (a9 : Option Addr) (c9 : Nat), u = .slice a9 (cutV r (-1)).length c9 ∧ RwAt y9 a9 (cutV r (-1))) (b9.tmps[170]?.getD undef) X ph := hV 10 _ 170 rfl rfl (Pred.waits_near (by kernel_rfl) (by kernel_rfl))
          obtain ⟨r174, j174⟩ : PredT.At 0 (.slice ad r.length c) (b9.tmps[174]?.getD undef) X ph := hV 14 _ 174 rfl rfl (Pred.waits_near (by kernel_rfl) (by kernel_rfl))
          obtain ⟨r168, j168⟩ : PredT.At 0 (.bool false) (b9.tmps[168]?.getD undef) X ph := hV 8 _ 168 rfl rfl (Pred.waits_near (by kernel_rfl) (by kernel_rfl))
          have hA := HA.out.bel hE
          have hp0 : ph = 0 := by have := sel_le hS; simp at this; omega
          obtain ⟨a9, c9, h1, h2⟩ := r170 hp0
          have rde : b9.tmps[170]?.getD undef = .slice a9 (cutV r (-1)).length c9 := h1
          clear r170
          refine Pred.yields_call (f := 16) (args := #[.slice a9 (cutV r (-1)).length c9, .slice ad r.length c]) ((Pred.wanted_at (g := 8) (d := 168) (f := false) rfl rfl r168).trans rfl) (by clear hV hI hn; go_simp) ?_
          have hsw := wants_any (cutV r (-1)) r a9 ad c9 c X h2 hA.m.row (by have := cut_le r (-1); omega) (by omega)
          rw [show cutV r (-1) = r from cut_m1 r, decide_eq_true rfl] at hsw
          rw [show cutV r (-1) = r from cut_m1 r]
          refine hsw.mono ?_
          rintro e w9 ⟨rfl, hb⟩
          exact ⟨_, rfl, hb, rfl, Nat.zero_le _⟩
        · intro b9 X ph hE hd hn hS hV hI hF
          obtain ⟨r175, j175⟩ : PredT.At 0 (.bool true) (b9.tmps[175]?.getD undef) X ph := hV 15 _ 175 rfl rfl (Pred.waits_near (by kernel_rfl) (by kernel_rfl))
          obtain ⟨r168, j168⟩ : PredT.At 0 (.bool false) (b9.tmps[168]?.getD undef) X ph := hV 8 _ 168 rfl rfl (Pred.waits_near (by kernel_rfl) (by kernel_rfl))
          exact Pred.yields_run (v := .bool false) ((Pred.wanted_at (g := 8) (d := 168) (f := false) rfl rfl r168).trans rfl) (by go_simp) ⟨Below.refl _ _, rfl, Nat.zero_le _⟩
        · intro b9 X ph hE hd hn hS hV hI hF
          obtain ⟨r168, j168⟩ : PredT.At 0 (.bool false) (b9.tmps[168]?.getD undef) X ph := hV 8 _ 168 rfl rfl (Pred.waits_near (by kernel_rfl) (by kernel_rfl))
          obtain ⟨r176, j176⟩ : PredT.At 0 (.bool false) (b9.tmps[176]?.getD undef) X ph := hV 16 _ 176 rfl rfl (Pred.waits_near (by kernel_rfl) (by kernel_rfl))
          exact Pred.yields_run (v := .bool false) (Pred.wanted_none rfl) (by go_simp) ⟨Below.refl _ _, rfl, Nat.zero_le _⟩
        · intro b9 X ph hE hd hn hS hV hI hF
          obtain ⟨r177, j177⟩ : PredT.At 0 (.bool false) (b9.tmps[177]?.getD undef) X ph := hV 17 _ 177 rfl rfl (Pred.waits_near (by kernel_rfl) (by kernel_rfl))
          exact Pred.yields_run (v := .bool false) (Pred.wanted_none rfl) (by go_simp) ⟨Below.refl _ _, rfl, Nat.zero_le _⟩
        · intro b9 X ph hE hd hn hS hV hI hF
          have r9 : b9.tmps[9]?.getD undef = .pointer (some ⟨t, 0, none⟩) := (hn 9 (by kernel_rfl)).trans rfl
          obtain ⟨r178, j178⟩ : PredT.At 0 (.bool false) (b9.tmps[178]?.getD undef) X ph := hV 18 _ 178 rfl rfl (Pred.waits_near (by kernel_rfl) (by kernel_rfl))
          exact Pred.yields_run (v := .pointer (some ⟨t, 0, none⟩)) ((Pred.wanted_at (g := 18) (d := 178) (f := false) rfl rfl r178).trans rfl) (by go_simp) ⟨Below.refl _ _, rfl, Nat.zero_le _⟩
        · intro b9 X ph hE hd hn hS hV hI hF
          obtain ⟨r179, j179⟩ : PredT.At 0 (.pointer (some ⟨t, 0, none⟩)) (b9.tmps[179]?.getD undef) X ph := hV 19 _ 179 rfl rfl (Pred.waits_near (by kernel_rfl) (by kernel_rfl))
          obtain ⟨r178, j178⟩ : PredT.At 0 (.bool false) (b9.tmps[178]?.getD undef) X ph := hV 18 _ 178 rfl rfl (Pred.waits_near (by kernel_rfl) (by kernel_rfl))
          have hA := HA.out.bel hE
          refine Pred.yields_call (f := 17) (args := #[.pointer (some ⟨t, 0, none⟩), .int .i64 2]) ((Pred.wanted_at (g := 18) (d := 178) (f := false) rfl rfl r178).trans rfl) (by go_simp) ?_
          refine (lall_any' t most d v r 2 X hA.q hrs).mono ?_
          rintro e w9 ⟨⟨a9, c9, rfl, hr9, -⟩, hb⟩
          exact ⟨_, rfl, hb, Nat.zero_le _, fun _ => ⟨a9, c9, rfl, hr9⟩⟩
        · intro b9 X ph hE hd hn hS hV hI hF
          have r11 : b9.tmps[11]?.getD undef = .pointer (some ⟨tm, 0, none⟩) := (hn 11 (by kernel_rfl)).trans rfl
          obtain ⟨r178, j178⟩ : PredT.At 0 (.bool false) (b9.tmps[178]?.getD undef) X ph := hV 18 _ 178 rfl rfl (Pred.waits_near (by kernel_rfl) (by kernel_rfl))
          exact Pred.yields_run (v := .pointer (some ⟨tm, 0, none⟩)) ((Pred.wanted_at (g := 18) (d := 178) (f := false) rfl rfl r178).trans rfl) (by go_simp) ⟨Below.refl _ _, rfl, Nat.zero_le _⟩
        · intro b9 X ph hE hd hn hS hV hI hF
          obtain ⟨r181, j181⟩ : PredT.At 0 (.pointer (some ⟨tm, 0, none⟩)) (b9.tmps[181]?.getD undef) X ph := hV 21 _ 181 rfl rfl (Pred.waits_near (by kernel_rfl) (by kernel_rfl))
          obtain ⟨r178, j178⟩ : PredT.At 0 (.bool false) (b9.tmps[178]?.getD undef) X ph := hV 18 _ 178 rfl rfl (Pred.waits_near (by kernel_rfl) (by kernel_rfl))
          exact Pred.yields_run (v := .pointer (some ⟨tm, 0, none⟩)) ((Pred.wanted_at (g := 18) (d := 178) (f := false) rfl rfl r178).trans rfl) (by go_simp) ⟨Below.refl _ _, rfl, Nat.zero_le _⟩
        · intro b9 X ph hE hd hn hS hV hI hF
          obtain ⟨r182, j182⟩ : PredT.At 0 (.pointer (some ⟨tm, 0, none⟩)) (b9.tmps[182]?.getD undef) X ph := hV 22 _ 182 rfl rfl (Pred.waits_near (by kernel_rfl) (by kernel_rfl))
          obtain ⟨r178, j178⟩ : PredT.At 0 (.bool false) (b9.tmps[178]?.getD undef) X ph := hV 18 _ 178 rfl rfl (Pred.waits_near (by kernel_rfl) (by kernel_rfl))
          exact Pred.yields_run (v := .pointer (some ⟨tm, 2, none⟩)) ((Pred.wanted_at (g := 18) (d := 178) (f := false) rfl rfl r178).trans rfl) (by go_simp) ⟨Below.refl _ _, rfl, Nat.zero_le _⟩
        · intro b9 X ph hE hd hn hS hV hI hF
          obtain ⟨r183, j183⟩ : PredT.At 0 (.pointer (some ⟨tm, 2, none⟩)) (b9.tmps[183]?.getD undef) X ph := hV 23 _ 183 rfl rfl (Pred.waits_near (by kernel_rfl) (by kernel_rfl))
          obtain ⟨r178, j178⟩ : PredT.At 0 (.bool false) (b9.tmps[178]?.getD undef) X ph := hV 18 _ 178 rfl rfl (Pred.waits_near (by kernel_rfl) (by kernel_rfl))
          have hA := HA.out.bel hE
          have z : X.cell? ⟨tm, 2, none⟩ = some (.slice ad r.length c) := by rw [blk_cell hA.m.t]; rfl
          exact Pred.yields_run (v := .slice ad r.length c) ((Pred.wanted_at (g := 18) (d := 178) (f := false) rfl rfl r178).trans rfl) (by go_simp) ⟨Below.refl _ _, rfl, Nat.zero_le _⟩
        · intro b9 X ph hE hd hn hS hV hI hF
          have r11 : b9.tmps[11]?.getD undef = .pointer (some ⟨tm, 0, none⟩) := (hn 11 (by kernel_rfl)).trans rfl
          obtain ⟨r178, j178⟩ : PredT.At 0 (.bool false) (b9.tmps[178]?.getD undef) X ph := hV 18 _ 178 rfl rfl (Pred.waits_near (by kernel_rfl) (by kernel_rfl))
          exact Pred.yields_run (v := .pointer (some ⟨tm, 0, none⟩)) ((Pred.wanted_at (g := 18) (d := 178) (f := false) rfl rfl r178).trans rfl) (by go_simp) ⟨Below.refl _ _, rfl, Nat.zero_le _⟩
        · intro b9 X ph hE hd hn hS hV hI hF
          obtain ⟨r185, j185⟩ : PredT.At 0 (.pointer (some ⟨tm, 0, none⟩)) (b9.tmps[185]?.getD undef) X ph := hV 25 _ 185 rfl rfl (Pred.waits_near (by kernel_rfl) (by kernel_rfl))
          obtain ⟨r178, j178⟩ : PredT.At 0 (.bool false) (b9.tmps[178]?.getD undef) X ph := hV 18 _ 178 rfl rfl (Pred.waits_near (by kernel_rfl) (by kernel_rfl))
          exact Pred.yields_run (v := .pointer (some ⟨tm, 0, none⟩)) ((Pred.wanted_at (g := 18) (d := 178) (f := false) rfl rfl r178).trans rfl) (by go_simp) ⟨Below.refl _ _, rfl, Nat.zero_le _⟩
        · intro b9 X ph hE hd hn hS hV hI hF
          obtain ⟨r186, j186⟩ : PredT.At 0 (.pointer (some ⟨tm, 0, none⟩)) (b9.tmps[186]?.getD undef) X ph := hV 26 _ 186 rfl rfl (Pred.waits_near (by kernel_rfl) (by kernel_rfl))
          obtain ⟨r178, j178⟩ : PredT.At 0 (.bool false) (b9.tmps[178]?.getD undef) X ph := hV 18 _ 178 rfl rfl (Pred.waits_near (by kernel_rfl) (by kernel_rfl))
          exact Pred.yields_run (v := .pointer (some ⟨tm, 2, none⟩)) ((Pred.wanted_at (g := 18) (d := 178) (f := false) rfl rfl r178).trans rfl) (by go_simp) ⟨Below.refl _ _, rfl, Nat.zero_le _⟩
        · intro b9 X ph hE hd hn hS hV hI hF
          obtain ⟨r187, j187⟩ : PredT.At 0 (.pointer (some ⟨tm, 2, none⟩)) (b9.tmps[187]?.getD undef) X ph := hV 27 _ 187 rfl rfl (Pred.waits_near (by kernel_rfl) (by kernel_rfl))
          obtain ⟨r178, j178⟩ : PredT.At 0 (.bool false) (b9.tmps[178]?.getD undef) X ph := hV 18 _ 178 rfl rfl (Pred.waits_near (by kernel_rfl) (by kernel_rfl))
          have hA := HA.out.bel hE
          have z : X.cell? ⟨tm, 2, none⟩ = some (.slice ad r.length c) := by rw [blk_cell hA.m.t]; rfl
          exact Pred.yields_run (v := .slice ad r.length c) ((Pred.wanted_at (g := 18) (d := 178) (f := false) rfl rfl r178).trans rfl) (by go_simp) ⟨Below.refl _ _, rfl, Nat.zero_le _⟩
        · intro b9 X ph hE hd hn hS hV hI hF
          obtain ⟨r188, j188⟩ : PredT.At 0 (.slice ad r.length c) (b9.tmps[188]?.getD undef) X ph := hV 28 _ 188 rfl rfl (Pred.waits_near (by kernel_rfl) (by kernel_rfl))
          obtain ⟨r178, j178⟩ : PredT.At 0 (.bool false) (b9.tmps[178]?.getD undef) X ph := hV 18 _ 178 rfl rfl (Pred.waits_near (by kernel_rfl) (by kernel_rfl))
          exact Pred.yields_run (v := .int .i64 (r.length : Int)) ((Pred.wanted_at (g := 18) (d := 178) (f := false) rfl rfl r178).trans rfl) (by go_simp) ⟨Below.refl _ _, rfl, Nat.zero_le _⟩
        · intro b9 X ph hE hd hn hS hV hI hF
          obtain ⟨r189, j189⟩ : PredT.At 0 (.int .i64 (r.length : Int)) (b9.tmps[189]?.getD undef) X ph := hV 29 _ 189 rfl rfl (Pred.waits_near (by kernel_rfl) (by kernel_rfl))
          obtain ⟨r178, j178⟩ : PredT.At 0 (.bool false) (b9.tmps[178]?.getD undef) X ph := hV 18 _ 178 rfl rfl (Pred.waits_near (by kernel_rfl) (by kernel_rfl))
          exact Pred.yields_run (v := .int .i64 (min 2 (r.length : Int))) ((Pred.wanted_at (g := 18) (d := 178) (f := false) rfl rfl r178).trans rfl) (by go_simp) ⟨Below.refl _ _, rfl, Nat.zero_le _⟩
        · intro b9 X ph hE hd hn hS hV hI hF
          obtain ⟨r184, j184⟩ : PredT.At 0 (.slice ad r.length c) (b9.tmps[184]?.getD undef) X ph := hV 24 _ 184 rfl rfl (Pred.waits_near (by kernel_rfl) (by kernel_rfl))
          obtain ⟨r190, j190⟩ : PredT.At 0 (.int .i64 (min 2 (r.length : Int))) (b9.tmps[190]?.getD undef) X ph := hV 30 _ 190 rfl rfl (Pred.waits_near (by kernel_rfl) (by kernel_rfl))
          obtain ⟨r178, j178⟩ : PredT.At 0 (.bool false) (b9.tmps[178]?.getD undef) X ph := hV 18 _ 178 rfl rfl (Pred.waits_near (by kernel_rfl) (by kernel_rfl))
          have h9 := HL2.out
          have hcp := HA.out.m.cap
          have h5 : (0 : Int) ≤ min 2 (r.length : Int) := by omega
          have h6 : min 2 (r.length : Int) ≤ (c : Int) := by omega
          rw [h9] at r190 h5 h6
          have h7 : (r.take 2).length ≤ c := by have := List.length_take_le 2 r; omega
          have h8 : (min 2 (r.length : Int)) = ((r.take 2).length : Int) := h9
          generalize (r.take 2).length = n2 at r190 h5 h6 h7 ⊢
          clear h8 h9 hV hI hn
          cases ad with
          | none => exact Pred.yields_run (v := .slice none n2 c) ((Pred.wanted_at (g := 18) (d := 178) (f := false) rfl rfl r178).trans rfl) (by go_simp) ⟨Below.refl _ _, rfl, Nat.zero_le _⟩
          | some a => exact Pred.yields_run (v := .slice (some a) n2 c) ((Pred.wanted_at (g := 18) (d := 178) (f := false) rfl rfl r178).trans rfl) (by go_simp) ⟨Below.refl _ _, rfl, Nat.zero_le _⟩
        · intro b9 X ph hE hd hn hS hV hI hF
          obtain ⟨j180, r180⟩ : PredT.When 0 (fun u y9 => ∃ (a9 : Option Addr) (c9 : Nat), u = .slice a9 (cutV r 2).length c9 ∧ RwAt y9 a9 (cutV r 2)) (b9.tmps[180]?.getD undef) X ph := hV 20 _ 180 rfl rfl (Pred.waits_near (by kernel_rfl) (by kernel_rfl))
          obtain ⟨r191, j191⟩ : PredT.At 0 (.slice ad (r.take 2).length c) (b9.tmps[191]?.getD undef) X ph := hV 31 _ 191 rfl rfl (Pred.waits_near (by kernel_rfl) (by kernel_rfl))
          obtain ⟨r178, j178⟩ : PredT.At 0 (.bool false) (b9.tmps[178]?.getD undef) X ph := hV 18 _ 178 rfl rfl (Pred.waits_near (by kernel_rfl) (by kernel_rfl))
          have hA := HA.out.bel hE
          have hp0 : ph = 0 := by have := sel_le hS; simp at this; omega
          obtain ⟨a9, c9, h1, h2⟩ := r180 hp0
          have rde : b9.tmps[180]?.getD undef = .slice a9 (cutV r 2).length c9 := h1
          clear r180
          refine Pred.yields_call (f := 16) (args := #[.slice a9 (cutV r 2).length c9, .slice ad (r.take 2).length c]) ((Pred.wanted_at (g := 18) (d := 178) (f := false) rfl rfl r178).trans rfl) (by clear hV hI hn; go_simp) ?_
          have hsw := wants_any (cutV r 2) (r.take 2) a9 ad c9 c X h2 (hA.m.row.take 2) (by have := cut_le r 2; omega) (by have := List.length_take_le 2 r; omega)
          rw [cut_two r, decide_eq_true rfl] at hsw
          rw [cut_two r]
          refine hsw.mono ?_
          rintro e w9 ⟨rfl, hb⟩
          exact ⟨_, rfl, hb, rfl, Nat.zero_le _⟩
        · intro b9 X ph hE hd hn hS hV hI hF
          obtain ⟨r192, j192⟩ : PredT.At 0 (.bool true) (b9.tmps[192]?.getD undef) X ph := hV 32 _ 192 rfl rfl (Pred.waits_near (by kernel_rfl) (by kernel_rfl))
          obtain ⟨r178, j178⟩ : PredT.At 0 (.bool false) (b9.tmps[178]?.getD undef) X ph := hV 18 _ 178 rfl rfl (Pred.waits_near (by kernel_rfl) (by kernel_rfl))
          exact Pred.yields_run (v := .bool false) ((Pred.wanted_at (g := 18) (d := 178) (f := false) rfl rfl r178).trans rfl) (by go_simp) ⟨Below.refl _ _, rfl, Nat.zero_le _⟩
        · intro b9 X ph hE hd hn hS hV hI hF
          obtain ⟨r178, j178⟩ : PredT.At 0 (.bool false) (b9.tmps[178]?.getD undef) X ph := hV 18 _ 178 rfl rfl (Pred.waits_near (by kernel_rfl) (by kernel_rfl))
          obtain ⟨r193, j193⟩ : PredT.At 0 (.bool false) (b9.tmps[193]?.getD undef) X ph := hV 33 _ 193 rfl rfl (Pred.waits_near (by kernel_rfl) (by kernel_rfl))
          exact Pred.yields_run (v := .bool false) (Pred.wanted_none rfl) (by go_simp) ⟨Below.refl _ _, rfl, Nat.zero_le _⟩
      · trivial
      intro v9 w9 hE hS hv
      replace hS : (fun _ => True) w9 := hS
      have e0 : v9 0 = .pointer (some ⟨t, 0, none⟩) := (hv 0 _ 160 rfl rfl).1
      have e1 : v9 1 = .int .i64 (r.length : Int) := (hv 1 _ 161 rfl rfl).1
      have e2 : v9 2 = .pointer (some ⟨tm, 0, none⟩) := (hv 2 _ 162 rfl rfl).1
      have e3 : v9 3 = .pointer (some ⟨tm, 0, none⟩) := (hv 3 _ 163 rfl rfl).1
      have e4 : v9 4 = .pointer (some ⟨tm, 2, none⟩) := (hv 4 _ 164 rfl rfl).1
      have e5 : v9 5 = .slice ad r.length c := (hv 5 _ 165 rfl rfl).1
      have e6 : v9 6 = .int .i64 (r.length : Int) := (hv 6 _ 166 rfl rfl).1
      have e7 : v9 7 = .bool false := (hv 7 _ 167 rfl rfl).1
      have e8 : v9 8 = .bool false := (hv 8 _ 168 rfl rfl).1
      have e9 : v9 9 = .pointer (some ⟨t, 0, none⟩) := (hv 9 _ 169 rfl rfl).1
      generalize hg10 : v9 10 = vv10
      have e11 : v9 11 = .pointer (some ⟨tm, 0, none⟩) := (hv 11 _ 171 rfl rfl).1
      have e12 : v9 12 = .pointer (some ⟨tm, 0, none⟩) := (hv 12 _ 172 rfl rfl).1
      have e13 : v9 13 = .pointer (some ⟨tm, 2, none⟩) := (hv 13 _ 173 rfl rfl).1
      have e14 : v9 14 = .slice ad r.length c := (hv 14 _ 174 rfl rfl).1
      have e15 : v9 15 = .bool true := (hv 15 _ 175 rfl rfl).1
      have e16 : v9 16 = .bool false := (hv 16 _ 176 rfl rfl).1
      have e17 : v9 17 = .bool false := (hv 17 _ 177 rfl rfl).1
      have e18 : v9 18 = .bool false := (hv 18 _ 178 rfl rfl).1
      have e19 : v9 19 = .pointer (some ⟨t, 0, none⟩) := (hv 19 _ 179 rfl rfl).1
      generalize hg20 : v9 20 = vv20
      have e21 : v9 21 = .pointer (some ⟨tm, 0, none⟩) := (hv 21 _ 181 rfl rfl).1
      have e22 : v9 22 = .pointer (some ⟨tm, 0, none⟩) := (hv 22 _ 182 rfl rfl).1
      have e23 : v9 23 = .pointer (some ⟨tm, 2, none⟩) := (hv 23 _ 183 rfl rfl).1
      have e24 : v9 24 = .slice ad r.length c := (hv 24 _ 184 rfl rfl).1
      have e25 : v9 25 = .pointer (some ⟨tm, 0, none⟩) := (hv 25 _ 185 rfl rfl).1
      have e26 : v9 26 = .pointer (some ⟨tm, 0, none⟩) := (hv 26 _ 186 rfl rfl).1
      have e27 : v9 27 = .pointer (some ⟨tm, 2, none⟩) := (hv 27 _ 187 rfl rfl).1
      have e28 : v9 28 = .slice ad r.length c := (hv 28 _ 188 rfl rfl).1
      have e29 : v9 29 = .int .i64 (r.length : Int) := (hv 29 _ 189 rfl rfl).1
      have e30 : v9 30 = .int .i64 (min 2 (r.length : Int)) := (hv 30 _ 190 rfl rfl).1
      have e31 : v9 31 = .slice ad (r.take 2).length c := (hv 31 _ 191 rfl rfl).1
      have e32 : v9 32 = .bool true := (hv 32 _ 192 rfl rfl).1
      have e33 : v9 33 = .bool false := (hv 33 _ 193 rfl rfl).1
      have e34 : v9 34 = .bool false := (hv 34 _ 194 rfl rfl).1
      simp only [Pred.putsF_cons, Pred.putsF_nil, Nat.zero_add, Nat.reduceAdd, e0, e1, e2, e3, e4, e5, e6, e7, e8, e9, hg10, e11, e12, e13, e14, e15, e16, e17, e18, e19, hg20, e21, e22, e23, e24, e25, e26, e27, e28, e29, e30, e31, e32, e33, e34, Act.put, List.setIfInBounds_toArray, List.set_cons_zero, List.set_cons_succ]
      clear e0 e1 e2 e3 e4 e5 e6 e7 e8 e9 hg10 e11 e12 e13 e14 e15 e16 e17 e18 e19 hg20 e21 e22 e23 e24 e25 e26 e27 e28 e29 e30 e31 e32 e33 e34 hv
      have HA5 := Lib.hid (HA.out.bel hE)
      clear hE hS HA
      go_wp2
      go_roundw
      case rel => exact ⟨k + 1, v, ad, c, r, by omega, by go_num, HA5⟩
      case measure => simp [intOf]; omega
    · obtain rfl : k = len := by omega
      have HLW := Lib.hid HA.out.low
      clear HA
      go_wp2_with fail
      refine (awake_any _).mono ?_
      rintro e w9 ⟨rfl, hb⟩
      have hlow := HLW.out.trans (hb.mono HLW.out.size)
      clear hb
      go_wp2
      go_ret
      exact ⟨rfl, hlow⟩
end Go.Proofs.Ytpbdgkjlmijipaa.QuQ

/-
  The document's own queue: a new one; who is ahead; two rows of wants.
-/
import Derived.Test.YtpbdgkjlmijipaaQuK
namespace Go.Proofs.Ytpbdgkjlmijipaa.QuL
open Go.RowKit Go.Shelf Rd Go.Proofs.Ytpbdgkjlmijipaa.Row Mid PgM PgA PgB PgC QuA QuB QuC QuD QuE QuF QuG QuH QuI QuJ QuK
open Go.Proofs.Ytpbdgkjlmijipaa.Num (ret_int ret_bool)
set_option linter.unusedVariables false
set_option linter.unusedSimpArgs false
set_option maxRecDepth 10000
attribute [local go_sem ↓] load_pg store_pg load_w store_w eq_pg3 eq_w4
attribute [local go_sem] one_int pc3 pc4 pc43 run_load_pg run_store_pg run_load_w run_store_w midLoad_eq rowLoad_eq rowStore_eq blk_alloc_at blk_alloc_old blk_drew blk_drewN blk_set_far blk_set_far' blk_grow setRow_alloc_at setRow_alloc_old setRow_drew setRow_drewN
set_option maxHeartbeats 2000000 in
theorem wants_any (r r' : PgM.Row) (ad ad' : Option Addr) (c c' : Nat) (w : World) (h : RwAt w ad r) (h' : RwAt w ad' r') (hm : r.length ≤ 1000000) (hm' : r'.length ≤ 1000000) :
    Calls Try.prog 16 #[.slice ad r.length c, .slice ad' r'.length c'] w fun e w' => e = .returned (.bool (decide (r = r'))) ∧ Below w.heap.size w w' := by
  obtain ⟨n, hn⟩ : ∃ n, r.length = n := ⟨_, rfl⟩
  obtain ⟨n', hn'⟩ : ∃ n, r'.length = n := ⟨_, rfl⟩
  rw [hn, hn']
  rw [hn] at hm
  rw [hn'] at hm'
  by_cases hl : n = n'
  · subst hl
    have HN := Lib.hid hn
    have HN' := Lib.hid hn'
    have H := Lib.hid h
    have H' := Lib.hid h'
    clear hn hn' h h' hm'
    go_enter Try.func16, Try.ntmps16
    go_wp2_with fail
    go_loopw [5] (fun i wr => ∃ k : Nat, k ≤ n ∧ i = .int .i64 k ∧ Hid (∀ j, j < k → at_ r j = at_ r' j) ∧ Below w.heap.size w wr) (fun i _ => n - (intOf i).toNat)
    case atStart => exact ⟨0, by omega, rfl, fun j hj => absurd hj (by omega), by repeat' (first | (with_reducible exact Below.refl _ _) | (with_reducible refine Rd.below_step ?_ (by assumption)) | (with_reducible refine Rd.below_alloc ?_ _) | (with_reducible refine Rd.below_drewN ?_ _) | (with_reducible refine Below.drew ?_) | (with_reducible refine Below.setCell ?_ ?_ _) | (with_reducible refine Rd.below_setRow ?_ ?_ _) | go_size | (simp only [World.size_alloc]; omega) | omega)⟩
    case round =>
      obtain ⟨k, hk, rfl, HF, hb⟩ := hrel
      by_cases hlt : k < n
      · have hlt' : (k : Int) < n := by omega
        obtain ⟨b, o, cc, rfl, hc1, hc2, hc3, -⟩ := (H.out.bel hb).row (i := k) (by rw [HN.out]; exact hlt)
        obtain ⟨b', o', cc', rfl, hd1, hd2, hd3, -⟩ := (H'.out.bel hb).row (i := k) (by rw [HN'.out]; exact hlt)
        obtain ⟨x0, x1, x2, x3, eX⟩ := len4 (H.out.1 (at_ r k) (by rw [at_eq (by rw [HN.out]; exact hlt)]; exact List.getElem_mem _))
        obtain ⟨y0, y1, y2, y3, eY⟩ := len4 (H'.out.1 (at_ r' k) (by rw [at_eq (by rw [HN'.out]; exact hlt)]; exact List.getElem_mem _))
        rw [eX] at hc3
        rw [eY] at hd3
        have px : Mid.piece cc (o + k * 4) 4 = #[.int .i64 x0, .int .i64 x1, .int .i64 x2, .int .i64 x3] := hc3
        have py : Mid.piece cc' (o' + k * 4) 4 = #[.int .i64 y0, .int .i64 y1, .int .i64 y2, .int .i64 y3] := hd3
        have EX := Lib.hid eX
        have EY := Lib.hid eY
        have hc1d : ∀ d, blk (wr.drewN d) b = some (.cells cc 36 (0, 0)) := fun d => hc1
        have hd1d : ∀ d, blk (wr.drewN d) b' = some (.cells cc' 36 (0, 0)) := fun d => hd1
        clear hc3 hd3 eX eY
        by_cases he : [x0, x1, x2, x3] = [y0, y1, y2, y3]
        · have HE := Lib.hid (show at_ r k = at_ r' k by rw [EX.out, EY.out]; exact he)
          have d0 : eqL [x0, x1, x2, x3] [y0, y1, y2, y3] = true := decide_eq_true he
          clear he
          go_wp2
          go_quiet (fail)
          go_wp2
          exact ⟨⟨k + 1, by omega, by go_num, Lib.hid (eq_step HF.out HE.out), by repeat' (first | (with_reducible exact Below.refl _ _) | (with_reducible refine Rd.below_step ?_ (by assumption)) | (with_reducible refine Rd.below_alloc ?_ _) | (with_reducible refine Rd.below_drewN ?_ _) | (with_reducible refine Below.drew ?_) | (with_reducible refine Below.setCell ?_ ?_ _) | (with_reducible refine Rd.below_setRow ?_ ?_ _) | go_size | (simp only [World.size_alloc]; omega) | omega)⟩, by simp [intOf]; omega⟩
        · have HR := Lib.hid (show ¬ r = r' from fun e => he (by rw [← EX.out, ← EY.out, e]))
          have d0 : eqL [x0, x1, x2, x3] [y0, y1, y2, y3] = false := decide_eq_false he
          clear he
          go_wp2
          go_quiet (fail)
          go_wp2
          go_ret
          exact ⟨by rw [decide_eq_false HR.out]; first | done | rfl, by repeat' (first | (with_reducible exact Below.refl _ _) | (with_reducible refine Rd.below_step ?_ (by assumption)) | (with_reducible refine Rd.below_alloc ?_ _) | (with_reducible refine Rd.below_drewN ?_ _) | (with_reducible refine Below.drew ?_) | (with_reducible refine Below.setCell ?_ ?_ _) | (with_reducible refine Rd.below_setRow ?_ ?_ _) | go_size | (simp only [World.size_alloc]; omega) | omega)⟩
      · obtain rfl : k = n := by omega
        have hr : r = r' := row_eq (by rw [HN.out, HN'.out]) (by rw [HN.out]; exact HF.out)
        go_wp2
        go_ret
        exact ⟨by rw [decide_eq_true hr]; first | done | rfl, hb⟩
  · have hr : ¬ r = r' := fun e => hl (by rw [← hn, ← hn', e])
    go_enter Try.func16, Try.ntmps16
    go_wp2
    go_ret
    exact ⟨by rw [decide_eq_false hr]; first | done | rfl, by repeat' (first | (with_reducible exact Below.refl _ _) | (with_reducible refine Rd.below_step ?_ (by assumption)) | (with_reducible refine Rd.below_alloc ?_ _) | (with_reducible refine Rd.below_drewN ?_ _) | (with_reducible refine Below.drew ?_) | (with_reducible refine Below.setCell ?_ ?_ _) | (with_reducible refine Rd.below_setRow ?_ ?_ _) | go_size | (simp only [World.size_alloc]; omega) | omega)⟩
/-! NewQueue -/
def inB (n a b : Int) : Bool := decide (a ≤ n ∧ n ≤ b)
set_option maxHeartbeats 1000000 in
theorem within17_any (n a b : Int) (w : World) :
    Calls Try.prog 20 #[.int .i64 n, .int .i64 a, .int .i64 b] w fun e w' => e = .returned (.bool (inB n a b)) ∧ Below w.heap.size w w' := by
  unfold inB
  by_cases h1 : a ≤ n
  · have d1 : decide (a ≤ n) = true := decide_eq_true h1
    by_cases h2 : n ≤ b
    · have d2 : decide (n ≤ b) = true := decide_eq_true h2
      rw [decide_eq_true (p := a ≤ n ∧ n ≤ b) ⟨h1, h2⟩]
      go_enter Try.func20, Try.ntmps20
      go_wp2
      go_ret
      exact ⟨rfl, Below.refl _ _⟩
    · have d2 : decide (n ≤ b) = false := decide_eq_false h2
      rw [decide_eq_false (p := a ≤ n ∧ n ≤ b) fun h => h2 h.2]
      go_enter Try.func20, Try.ntmps20
      go_wp2
      go_ret
      exact ⟨rfl, Below.refl _ _⟩
  · have d1 : decide (a ≤ n) = false := decide_eq_false h1
    rw [decide_eq_false (p := a ≤ n ∧ n ≤ b) fun h => h1 h.1]
    go_enter Try.func20, Try.ntmps20
    go_wp2
    go_ret
    exact ⟨rfl, Below.refl _ _⟩
structure Rq (X : World) (t most d : Nat) (ad : Option Addr) (c : Nat) (r : PgM.Row) : Prop where
  t : blk X t = some (.cells #[.int .i64 most, .int .i64 d, .slice ad r.length c] 41 (0, 0))
  row : RwAt X ad r
  cap : r.length ≤ c ∧ c ≤ 9223372036854775807
theorem Rq.bel {X Y : World} {t most d c : Nat} {ad : Option Addr} {r : PgM.Row} (h : Rq X t most d ad c r) (hb : Below X.heap.size X Y) : Rq Y t most d ad c r := ⟨(blk_below hb _ (blk_lt h.t)).trans h.t, h.row.bel hb, h.cap⟩
theorem rnew_any (m d : Nat) (hm : 1 ≤ m ∧ m ≤ 128) (hd : d ≤ 3) (w : World) :
    Calls Try.prog 8 #[.int .i64 m, .int .i64 d] w fun e w' => (∃ t, e = .returned (.pointer (some ⟨t, 0, none⟩)) ∧ w.heap.size ≤ t ∧ Rq w' t m d none 0 []) ∧ Below w.heap.size w w' := by
  have C1 : Hid (∀ X : World, Calls Try.prog 20 #[.int .i64 m, .int .i64 1, .int .i64 128] X fun e w' => e = .returned (.bool true) ∧ Below X.heap.size X w') := fun X => by
    have := within17_any m 1 128 X
    rw [show inB m 1 128 = true from decide_eq_true (by omega)] at this
    exact this
  have C2 : Hid (∀ X : World, Calls Try.prog 20 #[.int .i64 d, .int .i64 0, .int .i64 3] X fun e w' => e = .returned (.bool true) ∧ Below X.heap.size X w') := fun X => by
    have := within17_any d 0 3 X
    rw [show inB d 0 3 = true from decide_eq_true (by omega)] at this
    exact this
  go_enter Try.func8, Try.ntmps8
  go_wp2_with fail
  refine (C1.out _).mono ?_
  rintro e w1 ⟨rfl, hb1⟩
  go_wp2_with fail
  refine (C2.out _).mono ?_
  rintro e w2 ⟨rfl, hb2⟩
  have L2 : Below w.heap.size w w2 := by repeat' (first | (with_reducible exact Below.refl _ _) | (with_reducible refine Rd.below_step ?_ (by assumption)) | (with_reducible refine Rd.below_alloc ?_ _) | (with_reducible refine Rd.below_drewN ?_ _) | (with_reducible refine Below.drew ?_) | (with_reducible refine Below.setCell ?_ ?_ _) | (with_reducible refine Rd.below_setRow ?_ ?_ _) | go_size | (simp only [World.size_alloc]; omega) | omega)
  go_wp2
  go_ret
  exact ⟨⟨w2.heap.size, rfl, L2.size, blk_alloc_at _ _ _ rfl, rwAt_nil _ _, by simp⟩, L2.alloc L2.size _⟩
theorem rnew_no (m d : Int) (hm : ¬ (1 ≤ m ∧ m ≤ 128 ∧ 0 ≤ d ∧ d ≤ 3)) (w : World) :
    Calls Try.prog 8 #[.int .i64 m, .int .i64 d] w fun e w' => e = .returned (.pointer none) ∧ Below w.heap.size w w' := by
  by_cases h1 : 1 ≤ m ∧ m ≤ 128
  · have C1 : Hid (∀ X : World, Calls Try.prog 20 #[.int .i64 m, .int .i64 1, .int .i64 128] X fun e w' => e = .returned (.bool true) ∧ Below X.heap.size X w') := fun X => by
      have := within17_any m 1 128 X
      rw [show inB m 1 128 = true from decide_eq_true (by omega)] at this
      exact this
    have C2 : Hid (∀ X : World, Calls Try.prog 20 #[.int .i64 d, .int .i64 0, .int .i64 3] X fun e w' => e = .returned (.bool false) ∧ Below X.heap.size X w') := fun X => by
      have := within17_any d 0 3 X
      rw [show inB d 0 3 = false from decide_eq_false (by omega)] at this
      exact this
    go_enter Try.func8, Try.ntmps8
    go_wp2_with fail
    refine (C1.out _).mono ?_
    rintro e w1 ⟨rfl, hb1⟩
    go_wp2_with fail
    refine (C2.out _).mono ?_
    rintro e w2 ⟨rfl, hb2⟩
    have L2 : Below w.heap.size w w2 := by repeat' (first | (with_reducible exact Below.refl _ _) | (with_reducible refine Rd.below_step ?_ (by assumption)) | (with_reducible refine Rd.below_alloc ?_ _) | (with_reducible refine Rd.below_drewN ?_ _) | (with_reducible refine Below.drew ?_) | (with_reducible refine Below.setCell ?_ ?_ _) | (with_reducible refine Rd.below_setRow ?_ ?_ _) | go_size | (simp only [World.size_alloc]; omega) | omega)
    go_wp2
    go_ret
    exact ⟨rfl, L2⟩
  · have C1 : Hid (∀ X : World, Calls Try.prog 20 #[.int .i64 m, .int .i64 1, .int .i64 128] X fun e w' => e = .returned (.bool false) ∧ Below X.heap.size X w') := fun X => by
      have := within17_any m 1 128 X
      rw [show inB m 1 128 = false from decide_eq_false (by omega)] at this
      exact this
    go_enter Try.func8, Try.ntmps8
    go_wp2_with fail
    refine (C1.out _).mono ?_
    rintro e w1 ⟨rfl, hb1⟩
    have L2 : Below w.heap.size w w1 := by repeat' (first | (with_reducible exact Below.refl _ _) | (with_reducible refine Rd.below_step ?_ (by assumption)) | (with_reducible refine Rd.below_alloc ?_ _) | (with_reducible refine Rd.below_drewN ?_ _) | (with_reducible refine Below.drew ?_) | (with_reducible refine Below.setCell ?_ ?_ _) | (with_reducible refine Rd.below_setRow ?_ ?_ _) | go_size | (simp only [World.size_alloc]; omega) | omega)
    go_wp2
    go_ret
    exact ⟨rfl, L2⟩
end Go.Proofs.Ytpbdgkjlmijipaa.QuL

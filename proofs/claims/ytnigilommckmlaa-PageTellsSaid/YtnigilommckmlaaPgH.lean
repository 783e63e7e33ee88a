/-
  What the document fixes of pages.
-/
import Derived.Test.YtnigilommckmlaaPgG
import Derived.Test.YtnigilommckmlaaPred
namespace Go.Proofs.Ytnigilommckmlaa.PgH
open Go.RowKit Go.Shelf Rd Go.Proofs.Ytnigilommckmlaa.Row Mid PgM PgA PgB PgC It PgD PgE PgF PgG
open Go.Proofs.Ytnigilommckmlaa.Pred (Is is_stab Stab)
set_option linter.unusedVariables false
set_option linter.unusedSimpArgs false
set_option maxRecDepth 10000
theorem cell_ext {B : Nat} {w w' : World} (h : Pred.Ext B w w') {b o : Nat} {v : Value} (hc : w.cell? ⟨b, o, none⟩ = some v) : w'.cell? ⟨b, o, none⟩ = some v ∧ b < w'.heap.size := by
  unfold World.cell? at hc ⊢
  simp only at hc ⊢
  cases hb : w.heap[b]? with
  | none => rw [hb] at hc; cases hc
  | some ob =>
    rw [hb] at hc
    cases ob with
    | cells c t fr =>
      obtain ⟨fr', h2⟩ := h.2 b c t fr hb
      rw [h2]
      refine ⟨hc, ?_⟩
      rcases Nat.lt_or_ge b w'.heap.size with h3 | h3
      · exact h3
      · rw [Array.getElem?_eq_none h3] at h2; cases h2
    | _ => simp at hc
theorem pg_ext {B : Nat} {w w' : World} {a : Option Addr} {r : PgM.Row} (hb : Pred.Ext B w w') (h : PgAt w a r) : PgAt w' a r := by
  obtain ⟨h2, h3⟩ := h
  refine ⟨h2, ?_⟩
  rcases h3 with h3 | ⟨b, o, e, hlt, hc⟩
  · exact Or.inl h3
  · by_cases h0 : r = []
    · exact Or.inl h0
    · have hl : 0 < r.length := List.length_pos_iff.2 h0
      exact Or.inr ⟨b, o, e, (cell_ext hb (hc 0 hl 0 (by omega))).2, fun i hi j hj => (cell_ext hb (hc i hi j hj)).1⟩
/-- a slice that reads as these pages -/
def SP (n : Nat) (r : PgM.Row) : Value → World → Prop := fun v X => ∃ a c, v = .slice a n c ∧ PgAt X a r
theorem sp_stab (n : Nat) (r : PgM.Row) : Stab (SP n r) := by
  intro v w w' B ⟨a, c, h1, h2⟩ hb
  exact ⟨a, c, h1, pg_ext hb h2⟩
theorem a1 (w : World) : Calls Try.prog 7 #[.int .i64 1, .int .i64 2] w fun e w' => e = .returned (.tuple #[.agg #[.int .i64 0, .int .i64 1, .int .i64 0], .bool true]) ∧ Below w.heap.size w w' := by
  have := at_any 1 2 w
  rw [show atV 1 2 = [0, 1, 0] by decide +kernel, show atB 1 2 = true by decide +kernel] at this
  exact this
theorem a2 (w : World) : Calls Try.prog 8 #[.int .i64 3, pg 0 5 2, .int .i64 1] w fun e w' => e = .returned (.tuple #[.agg #[.int .i64 1, .int .i64 2, .int .i64 1], .bool true]) ∧ Below w.heap.size w w' := by
  have := up_any 3 0 5 2 1 w
  rw [show upV 3 0 5 2 1 = [1, 2, 1] by decide +kernel, show upB 3 0 5 2 1 = true by decide +kernel] at this
  exact this
theorem a3 (w : World) : Calls Try.prog 8 #[.int .i64 1, pg 1 0 0, .int .i64 0] w fun e w' => e = .returned (.tuple #[.agg #[.int .i64 0, .int .i64 0, .int .i64 0], .bool false]) ∧ Below w.heap.size w w' := by
  have := up_any 1 1 0 0 0 w
  rw [show upV 1 1 0 0 0 = [0, 0, 0] by decide +kernel, show upB 1 1 0 0 0 = false by decide +kernel] at this
  exact this
theorem a4 (w : World) : Calls Try.prog 16 #[.int .i64 1] w fun e w' => e = .returned (.int .i64 5) ∧ Below w.heap.size w w' := by
  have := count_any 1 w
  rw [show countV 1 = 5 by decide +kernel] at this
  exact this
theorem a5 (w : World) : Calls Try.prog 15 #[.int .i64 1, pg 0 1 0] w fun e w' => e = .returned (.int .i64 2) ∧ Below w.heap.size w w' := by
  have := key_any 1 0 1 0 w
  rw [show keyV 1 0 1 0 = 2 by decide +kernel] at this
  exact this
theorem a6 (w : World) : Calls Try.prog 17 #[.int .i64 2] w fun e w' => e = .returned (.agg #[.int .i64 2, .int .i64 0, .int .i64 0]) ∧ Below w.heap.size w w' := by
  have := root_any 2 w
  rw [show rootV 2 = [2, 0, 0] by decide +kernel] at this
  exact this
theorem a7 (w : World) : Calls Try.prog 13 #[.int .i64 1, pg 0 1 1] w fun e w' => e = .returned (.bool true) ∧ Below w.heap.size w w' := by
  have := valid_any 1 0 1 1 w
  rw [show validB 1 0 1 1 = true by decide +kernel] at this
  exact this
theorem a8 (w : World) : Calls Try.prog 13 #[.int .i64 1, pg 0 2 0] w fun e w' => e = .returned (.bool false) ∧ Below w.heap.size w w' := by
  have := valid_any 1 0 2 0 w
  rw [show validB 1 0 2 0 = false by decide +kernel] at this
  exact this
theorem a9 (w : World) : Calls Try.prog 15 #[.int .i64 4, pg 0 0 0] w fun e w' => e = .returned (.int .i64 (-1)) ∧ Below w.heap.size w w' := by
  have := key_any 4 0 0 0 w
  rw [show keyV 4 0 0 0 = -1 by decide +kernel] at this
  exact this
theorem a10 (w : World) : Calls Try.prog 20 #[.int .i64 4, .int .i64 (-1)] w fun e w' => (∃ ad c, e = .returned (.slice ad 0 c)) ∧ Below w.heap.size w w' := by
  have := lall_any 4 (-1) w
  rw [show cutV 4 (-1) = [] by decide +kernel] at this
  exact this.mono fun e w' ⟨⟨ad, c, h, _⟩, hb⟩ => ⟨⟨ad, c, h⟩, hb⟩
theorem a11 (w : World) : Calls Try.prog 12 #[.int .i64 1, pg 1 0 0, pg 0 0 0] w fun e w' => e = .returned (.int .i64 (-1)) ∧ Below w.heap.size w w' := by
  have := cmp_any 1 1 0 0 0 0 0 w
  rw [show cmpV (keyV 1 1 0 0) (keyV 1 0 0 0) = -1 by decide +kernel] at this
  exact this
attribute [local go_sem ↓] load_pg store_pg eq_pg3
attribute [local go_sem] one_int pc3 run_load_pg run_store_pg midLoad_eq rowLoad_eq rowStore_eq blk_alloc_at blk_alloc_old blk_drew blk_drewN blk_set_far blk_set_far' blk_grow setRow_alloc_at setRow_alloc_old setRow_drew setRow_drewN
set_option maxHeartbeats 4000000 in
theorem awake_any (w : World) : Calls Try.prog 21 #[] w fun e w' => e = .returned (.bool true) ∧ Below w.heap.size w w' := by
  go_enter Try.func21, Try.ntmps21
  go_wp2_with fail
  refine (a1 _).mono ?_
  rintro e w1 ⟨rfl, hb1⟩
  have L1 : Below w.heap.size w w1 := by repeat' (first | (with_reducible exact Below.refl _ _) | (with_reducible refine Rd.below_step ?_ (by assumption)) | (with_reducible refine Rd.below_alloc ?_ _) | (with_reducible refine Rd.below_drewN ?_ _) | (with_reducible refine Below.drew ?_) | (with_reducible refine Below.setCell ?_ ?_ _) | (with_reducible refine Rd.below_setRow ?_ ?_ _) | go_size | (simp only [World.size_alloc]; omega) | omega)
  clear hb1
  go_upto_region 2 with (fail)
  refine Rd.name_world ?_
  intro w2 hw
  have bA2 : blk w2 w1.heap.size = some (.cells #[.int .i64 0, .int .i64 1, .int .i64 0] 23 (0, 0)) := by rw [hw]; exact blk_alloc_at _ _ _ rfl
  have L2 : Below w.heap.size w w2 := by
    rw [hw]
    repeat' (first | (with_reducible exact Below.refl _ _) | (with_reducible refine Rd.below_step ?_ (by assumption)) | (with_reducible refine Rd.below_alloc ?_ _) | (with_reducible refine Rd.below_drewN ?_ _) | (with_reducible refine Below.drew ?_) | (with_reducible refine Below.setCell ?_ ?_ _) | (with_reducible refine Rd.below_setRow ?_ ?_ _) | go_size | (simp only [World.size_alloc]; omega) | omega)
  clear hw L1
  go_wp2_with fail
  refine (a2 _).mono ?_
  rintro e w3 ⟨rfl, hb3⟩
  have bA3 := (blk_below hb3 _ (blk_lt bA2)).trans bA2
  have L3 : Below w.heap.size w w3 := by repeat' (first | (with_reducible exact Below.refl _ _) | (with_reducible refine Rd.below_step ?_ (by assumption)) | (with_reducible refine Rd.below_alloc ?_ _) | (with_reducible refine Rd.below_drewN ?_ _) | (with_reducible refine Below.drew ?_) | (with_reducible refine Below.setCell ?_ ?_ _) | (with_reducible refine Rd.below_setRow ?_ ?_ _) | go_size | (simp only [World.size_alloc]; omega) | omega)
  clear hb3 bA2 L2
  go_upto_region 3 with (fail)
  refine Rd.name_world ?_
  intro w4 hw
  have bB4 : blk w4 w3.heap.size = some (.cells #[.int .i64 1, .int .i64 2, .int .i64 1] 23 (0, 0)) := by rw [hw]; exact blk_alloc_at _ _ _ rfl
  have bA4 : blk w4 w1.heap.size = some (.cells #[.int .i64 0, .int .i64 1, .int .i64 0] 23 (0, 0)) := by rw [hw]; exact (blk_alloc_old _ _ _ (blk_lt bA3)).trans bA3
  have L4 : Below w.heap.size w w4 := by
    rw [hw]
    repeat' (first | (with_reducible exact Below.refl _ _) | (with_reducible refine Rd.below_step ?_ (by assumption)) | (with_reducible refine Rd.below_alloc ?_ _) | (with_reducible refine Rd.below_drewN ?_ _) | (with_reducible refine Below.drew ?_) | (with_reducible refine Below.setCell ?_ ?_ _) | (with_reducible refine Rd.below_setRow ?_ ?_ _) | go_size | (simp only [World.size_alloc]; omega) | omega)
  clear hw bA3 L3
  go_wp2_with fail
  refine (a3 _).mono ?_
  rintro e w5 ⟨rfl, hb5⟩
  have bB5 := (blk_below hb5 _ (blk_lt bB4)).trans bB4
  have bA5 := (blk_below hb5 _ (blk_lt bA4)).trans bA4
  have L5 : Below w.heap.size w w5 := by repeat' (first | (with_reducible exact Below.refl _ _) | (with_reducible refine Rd.below_step ?_ (by assumption)) | (with_reducible refine Rd.below_alloc ?_ _) | (with_reducible refine Rd.below_drewN ?_ _) | (with_reducible refine Below.drew ?_) | (with_reducible refine Below.setCell ?_ ?_ _) | (with_reducible refine Rd.below_setRow ?_ ?_ _) | go_size | (simp only [World.size_alloc]; omega) | omega)
  clear hb5 bB4 bA4 L4
  go_upto_region 4 with (fail)
  refine Rd.name_world ?_
  intro w6 hw
  have bB6 : blk w6 w3.heap.size = some (.cells #[.int .i64 1, .int .i64 2, .int .i64 1] 23 (0, 0)) := by rw [hw]; exact (blk_alloc_old _ _ _ (blk_lt bB5)).trans bB5
  have bA6 : blk w6 w1.heap.size = some (.cells #[.int .i64 0, .int .i64 1, .int .i64 0] 23 (0, 0)) := by rw [hw]; exact (blk_alloc_old _ _ _ (blk_lt bA5)).trans bA5
  have L6 : Below w.heap.size w w6 := by
    rw [hw]
    repeat' (first | (with_reducible exact Below.refl _ _) | (with_reducible refine Rd.below_step ?_ (by assumption)) | (with_reducible refine Rd.below_alloc ?_ _) | (with_reducible refine Rd.below_drewN ?_ _) | (with_reducible refine Below.drew ?_) | (with_reducible refine Below.setCell ?_ ?_ _) | (with_reducible refine Rd.below_setRow ?_ ?_ _) | go_size | (simp only [World.size_alloc]; omega) | omega)
  clear hw bA5 bB5 L5
  go_wp2_with fail
  refine (a4 _).mono ?_
  rintro e w7 ⟨rfl, hb7⟩
  have bB7 := (blk_below hb7 _ (blk_lt bB6)).trans bB6
  have bA7 := (blk_below hb7 _ (blk_lt bA6)).trans bA6
  have L7 : Below w.heap.size w w7 := by repeat' (first | (with_reducible exact Below.refl _ _) | (with_reducible refine Rd.below_step ?_ (by assumption)) | (with_reducible refine Rd.below_alloc ?_ _) | (with_reducible refine Rd.below_drewN ?_ _) | (with_reducible refine Below.drew ?_) | (with_reducible refine Below.setCell ?_ ?_ _) | (with_reducible refine Rd.below_setRow ?_ ?_ _) | go_size | (simp only [World.size_alloc]; omega) | omega)
  clear hb7 bB6 bA6 L6
  go_wp2_with fail
  refine (a5 _).mono ?_
  rintro e w8 ⟨rfl, hb8⟩
  have bB8 := (blk_below hb8 _ (blk_lt bB7)).trans bB7
  have bA8 := (blk_below hb8 _ (blk_lt bA7)).trans bA7
  have L8 : Below w.heap.size w w8 := by repeat' (first | (with_reducible exact Below.refl _ _) | (with_reducible refine Rd.below_step ?_ (by assumption)) | (with_reducible refine Rd.below_alloc ?_ _) | (with_reducible refine Rd.below_drewN ?_ _) | (with_reducible refine Below.drew ?_) | (with_reducible refine Below.setCell ?_ ?_ _) | (with_reducible refine Rd.below_setRow ?_ ?_ _) | go_size | (simp only [World.size_alloc]; omega) | omega)
  clear hb8 bB7 bA7 L7
  have d1 : eqL [0, 1, 0] [0, 1, 0] = true := decide_eq_true rfl
  have d2 : eqL [1, 2, 1] [1, 2, 1] = true := decide_eq_true rfl
  have d3 : eqL [2, 0, 0] [2, 0, 0] = true := decide_eq_true rfl
  go_wp2_with fail
  refine (a6 _).mono ?_
  rintro e w9 ⟨rfl, hb9⟩
  have L9 : Below w.heap.size w w9 := by repeat' (first | (with_reducible exact Below.refl _ _) | (with_reducible refine Rd.below_step ?_ (by assumption)) | (with_reducible refine Rd.below_alloc ?_ _) | (with_reducible refine Rd.below_drewN ?_ _) | (with_reducible refine Below.drew ?_) | (with_reducible refine Below.setCell ?_ ?_ _) | (with_reducible refine Rd.below_setRow ?_ ?_ _) | go_size | (simp only [World.size_alloc]; omega) | omega)
  clear hb9 bB8 bA8 L8
  go_wp2_with fail
  refine (a7 _).mono ?_
  rintro e w10 ⟨rfl, hb10⟩
  have L10 : Below w.heap.size w w10 := by repeat' (first | (with_reducible exact Below.refl _ _) | (with_reducible refine Rd.below_step ?_ (by assumption)) | (with_reducible refine Rd.below_alloc ?_ _) | (with_reducible refine Rd.below_drewN ?_ _) | (with_reducible refine Below.drew ?_) | (with_reducible refine Below.setCell ?_ ?_ _) | (with_reducible refine Rd.below_setRow ?_ ?_ _) | go_size | (simp only [World.size_alloc]; omega) | omega)
  clear hb10 L9
  go_wp2_with fail
  refine (a8 _).mono ?_
  rintro e w11 ⟨rfl, hb11⟩
  have L11 : Below w.heap.size w w11 := by repeat' (first | (with_reducible exact Below.refl _ _) | (with_reducible refine Rd.below_step ?_ (by assumption)) | (with_reducible refine Rd.below_alloc ?_ _) | (with_reducible refine Rd.below_drewN ?_ _) | (with_reducible refine Below.drew ?_) | (with_reducible refine Below.setCell ?_ ?_ _) | (with_reducible refine Rd.below_setRow ?_ ?_ _) | go_size | (simp only [World.size_alloc]; omega) | omega)
  clear hb11 L10
  go_wp2_with fail
  refine (a9 _).mono ?_
  rintro e w12 ⟨rfl, hb12⟩
  have L12 : Below w.heap.size w w12 := by repeat' (first | (with_reducible exact Below.refl _ _) | (with_reducible refine Rd.below_step ?_ (by assumption)) | (with_reducible refine Rd.below_alloc ?_ _) | (with_reducible refine Rd.below_drewN ?_ _) | (with_reducible refine Below.drew ?_) | (with_reducible refine Below.setCell ?_ ?_ _) | (with_reducible refine Rd.below_setRow ?_ ?_ _) | go_size | (simp only [World.size_alloc]; omega) | omega)
  clear hb12 L11
  go_wp2_with fail
  refine (a10 _).mono ?_
  rintro e w13 ⟨⟨ad, cp, rfl⟩, hb13⟩
  have L13 : Below w.heap.size w w13 := by repeat' (first | (with_reducible exact Below.refl _ _) | (with_reducible refine Rd.below_step ?_ (by assumption)) | (with_reducible refine Rd.below_alloc ?_ _) | (with_reducible refine Rd.below_drewN ?_ _) | (with_reducible refine Below.drew ?_) | (with_reducible refine Below.setCell ?_ ?_ _) | (with_reducible refine Rd.below_setRow ?_ ?_ _) | go_size | (simp only [World.size_alloc]; omega) | omega)
  clear hb13 L12
  go_wp2_with fail
  refine (a11 _).mono ?_
  rintro e w14 ⟨rfl, hb14⟩
  have L14 : Below w.heap.size w w14 := by repeat' (first | (with_reducible exact Below.refl _ _) | (with_reducible refine Rd.below_step ?_ (by assumption)) | (with_reducible refine Rd.below_alloc ?_ _) | (with_reducible refine Rd.below_drewN ?_ _) | (with_reducible refine Below.drew ?_) | (with_reducible refine Below.setCell ?_ ?_ _) | (with_reducible refine Rd.below_setRow ?_ ?_ _) | go_size | (simp only [World.size_alloc]; omega) | omega)
  clear hb14 L13
  go_wp2
  go_ret
  exact ⟨rfl, L14⟩
end Go.Proofs.Ytnigilommckmlaa.PgH

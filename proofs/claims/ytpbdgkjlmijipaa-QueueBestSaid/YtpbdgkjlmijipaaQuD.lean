/-
  The queue: its state; how many wait; who is ahead of whom; a new one.
-/
import Derived.Test.YtpbdgkjlmijipaaQuC
import Derived.Test.YtpbdgkjlmijipaaPred
import Derived.Test.YtpbdgkjlmijipaaIt
import Derived.Deep.QuietTactic
import Derived.BigQuiet
import Derived.Sort.BigQuietIn
import Derived.Lib.QuietBelowIn
namespace Go.Proofs.Ytpbdgkjlmijipaa.QuD
open Go.RowKit Go.Shelf Rd Go.Proofs.Ytpbdgkjlmijipaa.Row Mid PgM PgA PgB PgC QuA QuB QuC
set_option linter.unusedVariables false
set_option linter.unusedSimpArgs false
set_option maxRecDepth 10000
/-- slices.Insert -/
theorem insert_any (base i vb : Nat) (v : Value) (p s : PgM.Row) (x : List Int) (w : World) (hi : p.length = i) (hx : x.length = 4) (hp : W4 p) (hs : W4 s) (hsm : (p ++ s).length ≤ 100000)
    (h : w.ownsRow base 36 4 v (p ++ s).length (fl (p ++ s))) (hv : blk w vb = some (.cells (fl [x]).toArray 36 (0, 0))) (hne : v.ownBlock ≠ some vb) (hbase : base ≤ w.heap.size) :
    Calls Try.prog 26 #[v, .int .i64 (i : Int), .slice (some ⟨vb, 0, none⟩) 1 1] w fun e w' =>
      ∃ v', e = .returned v' ∧ w'.ownsRow base 36 4 v' (p ++ x :: s).length (fl (p ++ x :: s)) ∧ w.grownBy w' v.ownBlock ∧ (v'.ownBlock = v.ownBlock ∨ v'.ownBlock = some w.heap.size) := by
  cases s with
  | nil =>
    rw [List.append_nil] at h hsm
    rw [hi] at h hsm
    have := insert_end base i vb v p x w hi hx hp hsm h hv hbase
    rw [show (p ++ [x]).length = i + 1 by simp [hi]]
    exact this
  | cons y s =>
    have hn : (p ++ y :: s).length = i + (s.length + 1) := by simp [hi]
    have hn2 : (p ++ x :: y :: s).length = i + (s.length + 1) + 1 := by simp [hi]; omega
    rw [hn] at h hsm
    rw [hn2]
    rcases h.2 with ⟨_, h0⟩ | ⟨g, c, cur, rfl, hb, hg, hnc, hc, hcs, ht⟩
    · omega
    · have hgv : vb ≠ g := fun e => hne (by rw [e]; rfl)
      by_cases hr : i + (s.length + 1) + 1 ≤ c
      · refine (insert_room base g c i (s.length + 1) _ vb p (y :: s) x w hi rfl (by omega) hx hp hs rfl hr h hv hgv).mono ?_
        rintro e w' ⟨rfl, h1, h2⟩
        exact ⟨_, rfl, h1, h2, .inl rfl⟩
      · refine (insert_grow base g c i (s.length + 1) _ vb p (y :: s) x w hi rfl (by omega) hx hp hs rfl hsm (by omega) h hv hgv hbase).mono ?_
        rintro e w' ⟨G, rfl, h1, h2⟩
        exact ⟨_, rfl, h1, ⟨h2.os, h2.tape, h2.output, h2.size, fun k hk _ => h2.block k hk (by simp)⟩, .inr rfl⟩
/-! A want by value -/
theorem load_w (x : Value) : Instr.loadAt 36 x = loadRow 36 x := rfl
theorem store_w (x v : Value) : Instr.storeAt 36 x v = storeRow 36 x v := rfl
theorem run_load_w (g o : Nat) (W : World) : (loadRow 36 (.pointer (some ⟨g, o, none⟩))).run Try.prog W = midLoad Try.prog 36 4 g o W := run_loadMid Try.underlying36 rfl (by kernel_rfl) g o W
theorem run_store_w (g o : Nat) (c : Array Value) (W : World) : (storeRow 36 (.pointer (some ⟨g, o, none⟩)) (.agg c)).run Try.prog W = rowStore Try.prog 36 4 g o c W := run_storeRow (by kernel_rfl) g o c W
theorem pc4 (a b c d : Value) : Mid.piece #[a, b, c, d] 0 4 = #[a, b, c, d] := rfl
theorem pc43 (a b c d : Value) : Mid.piece #[a, b, c, d] 0 3 = #[a, b, c] := rfl
theorem len4 {v : List Int} (h : v.length = 4) : ∃ a b c d, v = [a, b, c, d] := by
  match v, h with
  | [a, b, c, d], _ => exact ⟨a, b, c, d, rfl⟩
theorem eq_w4 (a0 a1 a2 a3 b0 b1 b2 b3 : Int) (w : World) : (Op.equalIn 10000 36 (.agg #[.int .i64 a0, .int .i64 a1, .int .i64 a2, .int .i64 a3]) (.agg #[.int .i64 b0, .int .i64 b1, .int .i64 b2, .int .i64 b3])).run Try.prog w = .ok (eqL [a0, a1, a2, a3] [b0, b1, b2, b3]) w := by
  unfold eqL
  go_simp
  by_cases h0 : a0 = b0 <;> by_cases h1 : a1 = b1 <;> by_cases h2 : a2 = b2 <;> by_cases h3 : a3 = b3 <;> simp [h0, h1, h2, h3]

attribute [local go_sem ↓] load_pg store_pg load_w store_w eq_pg3 eq_w4
attribute [local go_sem] one_int pc3 pc4 pc43 run_load_pg run_store_pg run_load_w run_store_w midLoad_eq rowLoad_eq rowStore_eq blk_alloc_at blk_alloc_old blk_drew blk_drewN blk_set_far blk_set_far' blk_grow setRow_alloc_at setRow_alloc_old setRow_drew setRow_drewN
structure Qu (X : World) (t base most d : Nat) (v : Value) (r : PgM.Row) : Prop where
  t : blk X t = some (.cells #[.int .i64 most, .int .i64 d, v] 58 (0, 0))
  own : X.ownsRow base 36 4 v r.length (fl r)
  w4 : W4 r
theorem Qu.below {B : Nat} {X Y : World} {t base most d : Nat} {v : Value} {r : PgM.Row} (h : Qu X t base most d v r) (hb : Below B X Y) (hB : B = X.heap.size) : Qu Y t base most d v r := by
  subst hB
  exact ⟨(blk_below hb _ (blk_lt h.t)).trans h.t, owns_below h.own hb, h.w4⟩
theorem Qu.bel {X Y : World} {t base most d : Nat} {v : Value} {r : PgM.Row} (h : Qu X t base most d v r) (hb : Below X.heap.size X Y) : Qu Y t base most d v r := h.below hb rfl
theorem Qu.lt {X : World} {t base most d : Nat} {v : Value} {r : PgM.Row} (h : Qu X t base most d v r) : t < X.heap.size := blk_lt h.t
theorem Qu.c0 {X : World} {t base most d : Nat} {v : Value} {r : PgM.Row} (h : Qu X t base most d v r) : X.cell? ⟨t, 0, none⟩ = some (.int .i64 most) := by rw [blk_cell h.t]; rfl
theorem Qu.c1 {X : World} {t base most d : Nat} {v : Value} {r : PgM.Row} (h : Qu X t base most d v r) : X.cell? ⟨t, 1, none⟩ = some (.int .i64 d) := by rw [blk_cell h.t]; rfl
theorem Qu.c2 {X : World} {t base most d : Nat} {v : Value} {r : PgM.Row} (h : Qu X t base most d v r) : X.cell? ⟨t, 2, none⟩ = some v := by rw [blk_cell h.t]; rfl
theorem Qu.slice {X : World} {t base most d : Nat} {v : Value} {r : PgM.Row} (h : Qu X t base most d v r) : ∃ a c, v = .slice a r.length c ∧ r.length ≤ c ∧ (r ≠ [] → ∃ g, a = some ⟨g, 0, none⟩ ∧ base ≤ g ∧ ∃ R, blk X g = some (.cells (fl r ++ R).toArray 36 (0, 0))) := by
  rcases h.own.2 with ⟨h1, h2⟩ | ⟨g, c, cur, h1, h3, h4, h5, h6, h7, h8⟩
  · exact ⟨none, 0, by rw [h1, h2], by omega, fun hn => absurd (List.eq_nil_of_length_eq_zero h2) hn⟩
  · refine ⟨_, c, h1, h5, fun _ => ⟨g, rfl, h3, cur.toList.drop (r.length * 4), ?_⟩⟩
    rw [← h8, List.take_append_drop, Array.toArray_toList]
    exact h4
theorem fr_at {X : World} {g : Nat} {r : PgM.Row} {R : List Value} (hr : W4 r) (h : blk X g = some (.cells (fl r ++ R).toArray 36 (0, 0))) {i : Nat} (hi : i < r.length) : ∃ c, blk X g = some (.cells c 36 (0, 0)) ∧ i * 4 + 4 ≤ c.size ∧ Mid.piece c (i * 4) 4 = cs .i64 (at_ r i) ∧ Mid.piece c (i * 4) 3 = cs .i64 ((at_ r i).take 3) := by
  have hl := fw_len hr
  have hv : (at_ r i).length = 4 := by rw [at_eq hi]; exact hr _ (List.getElem_mem _)
  obtain ⟨a0, a1, a2, a3, ea⟩ := len4 hv
  have hc : ∀ j, j < 4 → (fl r ++ R).toArray[i * 4 + j]? = some (.int .i64 (PgM.g (at_ r i) j)) := fun j hj => by
    rw [List.getElem?_toArray, List.getElem?_append_left (by omega)]
    exact fw_at hr i hi j hj
  have h0 := hc 0 (by omega)
  have h1 := hc 1 (by omega)
  have h2 := hc 2 (by omega)
  have h3 := hc 3 (by omega)
  rw [ea] at h0 h1 h2 h3 ⊢
  have hs : i * 4 + 4 ≤ (fl r ++ R).toArray.size := by
    have := (Array.getElem?_eq_some_iff.1 h3).1
    omega
  refine ⟨_, h, hs, ?_, ?_⟩
  · unfold Mid.piece
    apply Array.ext_getElem?
    intro k
    rw [Array.getElem?_extract]
    match k with
    | 0 => rw [if_pos (by omega), h0]; rfl
    | 1 => rw [if_pos (by omega), h1]; rfl
    | 2 => rw [if_pos (by omega), h2]; rfl
    | 3 => rw [if_pos (by omega), h3]; rfl
    | k + 4 => rw [if_neg (by omega)]; simp [cs]
  · unfold Mid.piece
    apply Array.ext_getElem?
    intro k
    rw [Array.getElem?_extract]
    match k with
    | 0 => rw [if_pos (by omega), h0]; rfl
    | 1 => rw [if_pos (by omega), h1]; rfl
    | 2 => rw [if_pos (by omega), h2]; rfl
    | k + 3 => rw [if_neg (by omega)]; simp [cs]
/-- who is ahead -/
def aheadB (d : Int) (a b : List Int) : Bool := if PgM.g a 3 = PgM.g b 3 then decide (keyV d (PgM.g a 0) (PgM.g a 1) (PgM.g a 2) < keyV d (PgM.g b 0) (PgM.g b 1) (PgM.g b 2)) else decide (PgM.g b 3 < PgM.g a 3)
theorem cmpV_lt (a b : Int) : decide (cmpV a b < 0) = decide (a < b) := by
  unfold cmpV
  by_cases h : a < b
  · rw [if_pos h]; simp [h]
  · rw [if_neg h]
    by_cases h2 : b < a
    · rw [if_pos h2]; simp [h]
    · rw [if_neg h2]; simp [h]
set_option maxHeartbeats 2000000 in
theorem ahead_any (t base most d : Nat) (v : Value) (r : PgM.Row) (a0 a1 a2 a3 b0 b1 b2 b3 : Int) (w : World) (hq : Qu w t base most d v r) :
    Calls Try.prog 36 #[.pointer (some ⟨t, 0, none⟩), .agg #[.int .i64 a0, .int .i64 a1, .int .i64 a2, .int .i64 a3], .agg #[.int .i64 b0, .int .i64 b1, .int .i64 b2, .int .i64 b3]] w fun e w' =>
      e = .returned (.bool (aheadB d [a0, a1, a2, a3] [b0, b1, b2, b3])) ∧ Below w.heap.size w w' := by
  have CC := Lib.hid (fun W => cmp_any d a0 a1 a2 b0 b1 b2 W)
  have ev : aheadB d [a0, a1, a2, a3] [b0, b1, b2, b3] = if a3 = b3 then decide (keyV d a0 a1 a2 < keyV d b0 b1 b2) else decide (b3 < a3) := rfl
  rw [ev, ← cmpV_lt]
  obtain ⟨z, ez⟩ : ∃ z, cmpV (keyV d a0 a1 a2) (keyV d b0 b1 b2) = z := ⟨_, rfl⟩
  rw [ez] at CC ⊢
  clear ez ev
  by_cases h3 : a3 = b3
  · subst h3
    rw [if_pos rfl]
    go_enter Try.func36, Try.ntmps36
    go_upto_region 1 with (fail)
    refine Rd.name_world ?_
    intro w1 hw
    have bA : blk w1 w.heap.size = some (.cells #[.int .i64 a0, .int .i64 a1, .int .i64 a2, .int .i64 a3] 36 (0, 0)) := by rw [hw]; exact blk2_0 _ _ _
    have bB : blk w1 (w.heap.size + 1) = some (.cells #[.int .i64 b0, .int .i64 b1, .int .i64 b2, .int .i64 a3] 36 (0, 0)) := by rw [hw]; exact blk2_1 _ _ _
    have L1 : Below w.heap.size w w1 := by
      rw [hw]
      repeat' (first | (with_reducible exact Below.refl _ _) | (with_reducible refine Rd.below_step ?_ (by assumption)) | (with_reducible refine Rd.below_alloc ?_ _) | (with_reducible refine Rd.below_drewN ?_ _) | (with_reducible refine Below.drew ?_) | (with_reducible refine Below.setCell ?_ ?_ _) | (with_reducible refine Rd.below_setRow ?_ ?_ _) | go_size | (simp only [World.size_alloc]; omega) | omega)
    clear hw
    have hq1 := hq.bel L1
    have cA : w1.cell? ⟨w.heap.size, 3, none⟩ = some (.int .i64 a3) := by rw [blk_cell bA]; rfl
    have cB : w1.cell? ⟨w.heap.size + 1, 3, none⟩ = some (.int .i64 a3) := by rw [blk_cell bB]; rfl
    have c1 := hq1.c1
    have l1 := blk_lt bA
    have l2 := blk_lt bB
    clear hq1 hq
    go_upto_region 3 with (fail)
    have g1 := Go.cell_regrown c1
    (refine wp_region_quiet_below (by kernel_rfl) (by kernel_rfl) ?_; (repeat (go_big_quiet_step ((with_reducible exact Calls.regrown_of (CC.out _))))); refine wpQuiet_nil ?_)
    intro w2 hU
    have KU := Rd.below_of_regrown hU
    have L2 : Below w.heap.size w w2 := by repeat' (first | (with_reducible exact Below.refl _ _) | (with_reducible refine Rd.below_step ?_ (by assumption)) | (with_reducible refine Rd.below_alloc ?_ _) | (with_reducible refine Rd.below_drewN ?_ _) | (with_reducible refine Below.drew ?_) | (with_reducible refine Below.setCell ?_ ?_ _) | (with_reducible refine Rd.below_setRow ?_ ?_ _) | go_size | (simp only [World.size_alloc]; omega) | omega)
    go_wp2
    go_ret
    exact ⟨rfl, L2⟩
  · rw [if_neg h3]
    go_enter Try.func36, Try.ntmps36
    go_upto_region 1 with (fail)
    refine Rd.name_world ?_
    intro w1 hw
    have bA : blk w1 w.heap.size = some (.cells #[.int .i64 a0, .int .i64 a1, .int .i64 a2, .int .i64 a3] 36 (0, 0)) := by rw [hw]; exact blk2_0 _ _ _
    have bB : blk w1 (w.heap.size + 1) = some (.cells #[.int .i64 b0, .int .i64 b1, .int .i64 b2, .int .i64 b3] 36 (0, 0)) := by rw [hw]; exact blk2_1 _ _ _
    have L1 : Below w.heap.size w w1 := by
      rw [hw]
      repeat' (first | (with_reducible exact Below.refl _ _) | (with_reducible refine Rd.below_step ?_ (by assumption)) | (with_reducible refine Rd.below_alloc ?_ _) | (with_reducible refine Rd.below_drewN ?_ _) | (with_reducible refine Below.drew ?_) | (with_reducible refine Below.setCell ?_ ?_ _) | (with_reducible refine Rd.below_setRow ?_ ?_ _) | go_size | (simp only [World.size_alloc]; omega) | omega)
    clear hw
    have hq1 := hq.bel L1
    have cA : w1.cell? ⟨w.heap.size, 3, none⟩ = some (.int .i64 a3) := by rw [blk_cell bA]; rfl
    have cB : w1.cell? ⟨w.heap.size + 1, 3, none⟩ = some (.int .i64 b3) := by rw [blk_cell bB]; rfl
    have c1 := hq1.c1
    have l1 := blk_lt bA
    have l2 := blk_lt bB
    clear hq1 hq
    go_wp2
    go_ret
    exact ⟨rfl, L1⟩
end Go.Proofs.Ytpbdgkjlmijipaa.QuD

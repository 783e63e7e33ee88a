/-
  The queue: what the document fixes.
-/
import Derived.Test.YtpbdgkjlmijipaaQuO
namespace Go.Proofs.Ytpbdgkjlmijipaa.QuP
open Go.RowKit Go.Shelf Rd Go.Proofs.Ytpbdgkjlmijipaa.Row Mid PgM PgA PgB PgC QuA QuB QuC QuD QuE QuF QuG QuH QuI QuJ QuK QuL QuN QuO
open Go.Proofs.Ytpbdgkjlmijipaa.Num (ret_int ret_bool)
set_option linter.unusedVariables false
set_option linter.unusedSimpArgs false
set_option maxRecDepth 10000
attribute [local go_sem ↓] load_pg store_pg load_w store_w eq_pg3 eq_w4
attribute [local go_sem] one_int pc3 pc4 pc43 run_load_pg run_store_pg run_load_w run_store_w midLoad_eq rowLoad_eq rowStore_eq blk_alloc_at blk_alloc_old blk_drew blk_drewN blk_set_far blk_set_far' blk_grow setRow_alloc_at setRow_alloc_old setRow_drew setRow_drewN
/-- a queue that a call made itself -/
structure Aw (w X : World) (t most d : Nat) (v : Value) (r : PgM.Row) : Prop where
  low : Below w.heap.size w X
  q : Qu X t 0 most d v r
  lt : w.heap.size ≤ t
  lv : ∀ k, v.ownBlock = some k → w.heap.size ≤ k
theorem tn_low {w X Y : World} {t : Nat} {v : Value} (h : Below w.heap.size w X) (ht : TnB X Y t v) (h1 : w.heap.size ≤ t) (h2 : ∀ k, v.ownBlock = some k → w.heap.size ≤ k) : Below w.heap.size w Y :=
  ⟨ht.os.trans h.os, ht.tape.trans h.tape, ht.output.trans h.output, Nat.le_trans h.size ht.size, fun k hk => (ht.block k (by have := h.size; omega) (by omega) (fun e => by have := h2 _ e.symm; omega)).trans (h.block k hk)⟩
theorem at_low {w X : World} {v v' : Value} (h : Below w.heap.size w X) (ha : At X v v') (h2 : ∀ k, v.ownBlock = some k → w.heap.size ≤ k) : ∀ k, v'.ownBlock = some k → w.heap.size ≤ k := fun k e => by
  rcases ha with e2 | ⟨j, e2, hj⟩
  · exact h2 k (e2 ▸ e)
  · rw [e2] at e
    injection e with e
    have := h.size
    omega
theorem Aw.bel {w X Y : World} {t most d : Nat} {v : Value} {r : PgM.Row} (h : Aw w X t most d v r) (hb : Below X.heap.size X Y) : Aw w Y t most d v r :=
  ⟨h.low.trans (hb.mono h.low.size), h.q.bel hb, h.lt, h.lv⟩
theorem aw_add {w : World} (t most d : Nat) (v : Value) (r : PgM.Row) (L X0 Y0 n : Int) (X : World) (h : Aw w X t most d v r) (hv : validB d L X0 Y0 = true) (hp : 1 ≤ n) (hm : 1 ≤ most) (hsm : r.length ≤ 100000)
    {r' out : PgM.Row} {er : Int} (h1 : newQ most d r [L, X0, Y0] n = r') (h2 : outQ most d r [L, X0, Y0] n = out) (h3 : errQ most d r [L, X0, Y0] n = er) :
    Calls Try.prog 12 #[.pointer (some ⟨t, 0, none⟩), .agg #[.int .i64 L, .int .i64 X0, .int .i64 Y0], .int .i64 n] X fun e Y =>
      ∃ ad c v', e = .returned (.tuple #[.slice ad out.length c, .int .i64 er]) ∧ PgAt Y ad out ∧ Aw w Y t most d v' r' ∧ TnB X Y t v ∧ ∀ a, ad = some a → X.heap.size ≤ a.block ∧ a.block ≠ t ∧ v'.ownBlock ≠ some a.block := by
  subst h1 h2 h3
  refine (add_in t most d v r L X0 Y0 n X h.q hv hp hm hsm).mono ?_
  rintro e Y ⟨ad, c, v', rfl, hpg, hq, ht, ha, hx⟩
  exact ⟨ad, c, v', rfl, hpg, ⟨tn_low h.low ht h.lt h.lv, hq, h.lt, at_low h.low ha h.lv⟩, ht, hx⟩
theorem pg_kept {X Y : World} {ad : Option Addr} {r : PgM.Row} (h : PgAt X ad r) (hs : X.heap.size ≤ Y.heap.size) (hk : ∀ a, ad = some a → Y.heap[a.block]? = X.heap[a.block]?) : PgAt Y ad r := by
  refine ⟨h.1, h.2.imp id ?_⟩
  rintro ⟨b, o, e, hlt, hc⟩
  exact ⟨b, o, e, by omega, fun i hi j hj => (World.cell?_of_block (a := ⟨b, o + i * 3 + j, none⟩) (show Y.heap[b]? = X.heap[b]? from hk _ e)).trans (hc i hi j hj)⟩
def q1 : PgM.Row := [[0, 0, 0, 5]]
def q2 : PgM.Row := [[0, 0, 0, 5], [0, 1, 0, 5]]
def q3 : PgM.Row := [[1, 0, 0, 5], [0, 0, 0, 5]]
theorem a1 : newQ 2 (1 : Nat) [] [0, 0, 0] 5 = q1 ∧ outQ 2 (1 : Nat) [] [0, 0, 0] 5 = [] ∧ errQ 2 (1 : Nat) [] [0, 0, 0] 5 = 0 := by decide +kernel
theorem a2 : newQ 2 (1 : Nat) q1 [0, 1, 0] 5 = q2 ∧ outQ 2 (1 : Nat) q1 [0, 1, 0] 5 = [] ∧ errQ 2 (1 : Nat) q1 [0, 1, 0] 5 = 0 := by decide +kernel
theorem a3 : newQ 2 (1 : Nat) q2 [0, 0, 1] 5 = q2 ∧ outQ 2 (1 : Nat) q2 [0, 0, 1] 5 = [] ∧ errQ 2 (1 : Nat) q2 [0, 0, 1] 5 = 6 := by decide +kernel
theorem a4 : newQ 2 (1 : Nat) q2 [1, 0, 0] 5 = q3 ∧ outQ 2 (1 : Nat) q2 [1, 0, 0] 5 = [[0, 1, 0]] ∧ errQ 2 (1 : Nat) q2 [1, 0, 0] 5 = 0 := by decide +kernel
theorem cut_m1 (r : PgM.Row) : cutV r (-1) = r := cut_all r
theorem lall_any' (t most d : Nat) (v : Value) (r : PgM.Row) (m : Int) (w : World) (hq : Qu w t 0 most d v r) (hx : r.length ≤ 100000) :
    Calls Try.prog 17 #[.pointer (some ⟨t, 0, none⟩), .int .i64 m] w fun e w' => (∃ ad' c', e = .returned (.slice ad' (cutV r m).length c') ∧ RwAt w' ad' (cutV r m) ∧ ∀ a, ad' = some a → w.heap.size ≤ a.block) ∧ Below w.heap.size w w' :=
  lall_any _ r (fun X => Qu X t 0 most d v r) w (fun b0 => all_seq b0 t 0 most d v r) (fun X h => hq.bel h) hx hq.w4 m
theorem lit_pg (X : World) (a b c : Int) : PgAt (X.alloc (.cells #[.int .i64 a, .int .i64 b, .int .i64 c] 24)) (some ⟨X.heap.size, 0, none⟩) [[a, b, c]] := by
  refine ⟨fun v hv => by rw [List.mem_singleton.1 hv]; rfl, .inr ⟨X.heap.size, 0, rfl, by simp, fun i hi j hj => ?_⟩⟩
  obtain rfl : i = 0 := by simpa using hi
  rw [blk_cell (blk_alloc_at _ _ _ rfl)]
  match j, hj with
  | 0, _ => rfl
  | 1, _ => rfl
  | 2, _ => rfl
theorem lit_w (X : World) (a b c d : Int) : RwAt (X.alloc (.cells #[.int .i64 a, .int .i64 b, .int .i64 c, .int .i64 d] 36)) (some ⟨X.heap.size, 0, none⟩) [[a, b, c, d]] := by
  refine ⟨fun v hv => by rw [List.mem_singleton.1 hv]; rfl, .inr ⟨X.heap.size, 0, _, rfl, blk_alloc_at _ _ _ rfl, by simp, fun i hi => ?_⟩⟩
  obtain rfl : i = 0 := by simpa using hi
  exact ⟨rfl, rfl⟩
set_option maxHeartbeats 4000000 in
theorem awake_any (w : World) : Calls Try.prog 6 #[] w fun e w' => e = .returned (.bool true) ∧ Below w.heap.size w w' := by
  have HW := Lib.hid (Below.refl w.heap.size w)
  go_enter Try.func6, Try.ntmps6
  go_wp2_with fail
  refine (new_any 2 1 (by omega) (by omega) _).mono ?_
  rintro e X0 ⟨⟨t, rfl, ht, hq⟩, hb⟩
  have H0 : Hid (Aw w X0 t 2 1 (.slice none 0 0) []) := Lib.hid ⟨hb, hq, ht, fun k e => by cases e⟩
  clear hb hq ht HW
  go_wp2_with fail
  refine (new_no 0 1 (by omega) _).mono ?_
  rintro e X1 ⟨rfl, hb⟩
  have H1 := Lib.hid (H0.out.bel hb)
  clear hb H0
  go_wp2_with fail
  refine (aw_add t 2 1 _ [] 0 0 0 5 X1 H1.out (by decide) (by decide) (by decide) (by decide) a1.1 a1.2.1 a1.2.2).mono ?_
  rintro e X2 ⟨ad2, c2, v2, rfl, -, h, -, -⟩
  have H2 := Lib.hid h
  clear h H1
  go_wp2_with fail
  refine (aw_add t 2 1 _ q1 0 1 0 5 X2 H2.out (by decide) (by decide) (by decide) (by decide) a2.1 a2.2.1 a2.2.2).mono ?_
  rintro e X3 ⟨ad3, c3, v3, rfl, -, h, -, -⟩
  have H3 := Lib.hid h
  clear h H2
  go_wp2_with fail
  refine (aw_add t 2 1 _ q2 0 0 1 5 X3 H3.out (by decide) (by decide) (by decide) (by decide) a3.1 a3.2.1 a3.2.2).mono ?_
  rintro e X4 ⟨ad4, c4, v4, rfl, -, h, -, -⟩
  have H4 := Lib.hid h
  clear h H3
  go_wp2_with fail
  refine (aw_add t 2 1 _ q2 1 0 0 5 X4 H4.out (by decide) (by decide) (by decide) (by decide) a4.1 a4.2.1 a4.2.2).mono ?_
  rintro e X5 ⟨ad5, c5, v5, rfl, hp, h, -, hx⟩
  have H5 := Lib.hid h
  have HP : Hid (PgAt X5 ad5 [[0, 1, 0]] ∧ ∀ a, ad5 = some a → a.block ≠ t ∧ v5.ownBlock ≠ some a.block) := Lib.hid ⟨hp, fun a e => (hx a e).2⟩
  clear h hp hx H4
  go_wp2_with fail
  refine (add_no t 2 1 v5 q3 2 0 0 5 X5 H5.out.q (by decide)).mono ?_
  rintro e X6 ⟨rfl, hb⟩
  have H6 := Lib.hid (H5.out.bel hb)
  have HP6 : Hid (PgAt X6 ad5 [[0, 1, 0]] ∧ ∀ a, ad5 = some a → a.block ≠ t ∧ v5.ownBlock ≠ some a.block) := Lib.hid ⟨HP.out.1.below (B := 0) hb, HP.out.2⟩
  clear hb H5 HP
  go_wp2_with fail
  refine (add_no t 2 1 v5 q3 0 0 0 0 X6 H6.out.q (by decide)).mono ?_
  rintro e X7 ⟨rfl, hb⟩
  have H7 := Lib.hid (H6.out.bel hb)
  have HP7 : Hid (PgAt X7 ad5 [[0, 1, 0]] ∧ ∀ a, ad5 = some a → a.block ≠ t ∧ v5.ownBlock ≠ some a.block) := Lib.hid ⟨HP6.out.1.below (B := 0) hb, HP6.out.2⟩
  clear hb H6 HP6
  go_wp2_with fail
  refine (pop_some t 2 1 v5 [1, 0, 0, 5] [[0, 0, 0, 5]] X7 H7.out.q).mono ?_
  rintro e X8 ⟨v8, rfl, hq8, ht8, ha8⟩
  have H8 : Hid (Aw w X8 t 2 1 v8 [[0, 0, 0, 5]]) := Lib.hid ⟨tn_low H7.out.low ht8 H7.out.lt H7.out.lv, hq8, H7.out.lt, at_low H7.out.low ha8 H7.out.lv⟩
  have HP8 : Hid (PgAt X8 ad5 [[0, 1, 0]]) := Lib.hid (pg_kept HP7.out.1 ht8.size fun a e => by
    have hlt : a.block < X7.heap.size := by
      rcases HP7.out.1.2 with h | ⟨b, o, e2, hl, _⟩
      · cases h
      · rw [e2] at e; injection e with e; subst e; exact hl
    exact ht8.block _ hlt (HP7.out.2 a e).1 (fun e2 => (HP7.out.2 a e).2 e2.symm))
  have hs8 := H8.out.low.size
  clear hq8 ht8 ha8 H7 HP7
  go_wp2_with fail
  refine (pop_nil _).mono ?_
  rintro e X9 ⟨rfl, hb⟩
  have bw : blk X9 X8.heap.size = some (.cells #[.int .i64 1, .int .i64 0, .int .i64 0, .int .i64 5] 36 (0, 0)) := (blk_below hb _ (by simp)).trans (blk_alloc_at _ _ _ rfl)
  have hb9 : Below X8.heap.size X8 X9 := ((Below.refl _ _).alloc (Nat.le_refl _) _).trans (hb.mono (by simp))
  have H9 := Lib.hid (H8.out.bel hb9)
  have HP9 := Lib.hid (HP8.out.below (B := 0) hb9)
  clear hb hb9 H8 HP8
  go_wp2_with fail
  have lw := blk_lt bw
  obtain ⟨Z, eZ⟩ : ∃ Z, (X9.alloc (.cells (cs .i64 [0, 0, 0, 0]) 36)) = Z := ⟨_, rfl⟩
  have hz : Z.heap.size = X9.heap.size + 1 := by rw [← eZ]; simp
  have hbz : Below X9.heap.size X9 Z := by rw [← eZ]; exact (Below.refl _ _).alloc (Nat.le_refl _) _
  have bz : blk Z X8.heap.size = some (.cells #[.int .i64 1, .int .i64 0, .int .i64 0, .int .i64 5] 36 (0, 0)) := (blk_below hbz _ lw).trans bw
  rw [eZ, ← hz]
  have HZ := Lib.hid (H9.out.bel hbz)
  have HPZ := Lib.hid (HP9.out.below (B := 0) hbz)
  clear eZ hz hbz bw lw H9 HP9
  have hbl : Below Z.heap.size Z (Z.alloc (.cells #[.int .i64 0, .int .i64 1, .int .i64 0] 24)) := (Below.refl _ _).alloc (Nat.le_refl _) _
  have hpc : Calls Try.prog 14 #[.slice ad5 1 c5, .slice (some ⟨Z.heap.size, 0, none⟩) 1 1] (Z.alloc (.cells #[.int .i64 0, .int .i64 1, .int .i64 0] 24)) fun e w' => e = .returned (.bool true) ∧ Below (Z.alloc (.cells #[.int .i64 0, .int .i64 1, .int .i64 0] 24)).heap.size (Z.alloc (.cells #[.int .i64 0, .int .i64 1, .int .i64 0] 24)) w' := by
    have := pages_any [[0, 1, 0]] [[0, 1, 0]] ad5 (some ⟨Z.heap.size, 0, none⟩) c5 1 _ (HPZ.out.below (B := 0) hbl) (lit_pg Z 0 1 0) (by decide) (by decide)
    exact this
  refine hpc.mono ?_
  rintro e Y1 ⟨rfl, hb⟩
  have hb1 : Below Z.heap.size Z Y1 := hbl.trans (hb.mono (by simp))
  have by1 : blk Y1 X8.heap.size = some (.cells #[.int .i64 1, .int .i64 0, .int .i64 0, .int .i64 5] 36 (0, 0)) := (blk_below hb1 _ (blk_lt bz)).trans bz
  have HY := Lib.hid (HZ.out.bel hb1)
  have he : eqL [1, 0, 0, 5] [1, 0, 0, 5] = true := by decide
  clear hb hb1 hbl hpc bz HZ HPZ
  go_wp2_with fail
  refine (len_any t 0 2 1 v8 [[0, 0, 0, 5]] Y1 HY.out.q).mono ?_
  rintro e _ ⟨rfl, rfl⟩
  go_wp2_with fail
  refine (lall_any' t 2 1 v8 [[0, 0, 0, 5]] (-1) Y1 HY.out.q (by decide)).mono ?_
  rw [cut_m1]
  rintro e Y2 ⟨⟨ad', c', rfl, hr, -⟩, hb⟩
  have HY2 := Lib.hid (HY.out.bel hb)
  have HR2 := Lib.hid hr
  clear hb hr HY by1
  go_wp2_with fail
  have hbl : Below Y2.heap.size Y2 (Y2.alloc (.cells #[.int .i64 0, .int .i64 0, .int .i64 0, .int .i64 5] 36)) := (Below.refl _ _).alloc (Nat.le_refl _) _
  have hwc : Calls Try.prog 16 #[.slice ad' 1 c', .slice (some ⟨Y2.heap.size, 0, none⟩) 1 1] (Y2.alloc (.cells #[.int .i64 0, .int .i64 0, .int .i64 0, .int .i64 5] 36)) fun e w' => e = .returned (.bool true) ∧ Below (Y2.alloc (.cells #[.int .i64 0, .int .i64 0, .int .i64 0, .int .i64 5] 36)).heap.size (Y2.alloc (.cells #[.int .i64 0, .int .i64 0, .int .i64 0, .int .i64 5] 36)) w' := by
    have := wants_any [[0, 0, 0, 5]] [[0, 0, 0, 5]] ad' (some ⟨Y2.heap.size, 0, none⟩) c' 1 _ (HR2.out.bel hbl) (lit_w Y2 0 0 0 5) (by decide) (by decide)
    exact this
  refine hwc.mono ?_
  rintro e Y3 ⟨rfl, hb⟩
  have hb3 : Below Y2.heap.size Y2 Y3 := hbl.trans (hb.mono (by simp))
  have HY3 := Lib.hid (HY2.out.bel hb3)
  clear hb hb3 hbl hwc HR2 HY2
  go_wp2_with fail
  refine (len_nil _).mono ?_
  rintro e _ ⟨rfl, rfl⟩
  go_wp2
  go_ret
  exact ⟨rfl, HY3.out.low⟩
end Go.Proofs.Ytpbdgkjlmijipaa.QuP

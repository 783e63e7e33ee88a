/-
  The queue: Pop.
-/
import Derived.Test.YtpbdgkjlmijipaaQuJ
namespace Go.Proofs.Ytpbdgkjlmijipaa.QuK
open Go.RowKit Go.Shelf Rd Go.Proofs.Ytpbdgkjlmijipaa.Row Mid PgM PgA PgB PgC QuA QuB QuC QuD QuE QuF QuG QuH QuI QuJ
open Go.Proofs.Ytpbdgkjlmijipaa.Num (ret_int ret_bool)
set_option linter.unusedVariables false
set_option linter.unusedSimpArgs false
set_option maxRecDepth 10000
attribute [local go_sem ↓] load_pg store_pg load_w store_w eq_pg3 eq_w4
attribute [local go_sem] one_int pc3 pc4 pc43 run_load_pg run_store_pg run_load_w run_store_w midLoad_eq rowLoad_eq rowStore_eq blk_alloc_at blk_alloc_old blk_drew blk_drewN blk_set_far blk_set_far' blk_grow setRow_alloc_at setRow_alloc_old setRow_drew setRow_drewN
theorem info_w : (Try.prog.info? 36).map (·.size) = some 4 := by kernel_rfl
theorem ret_w2 {fn : Func} {R : Ending → World → Prop} {a : Act} {W : World} {p q : Tmp} (h : fn.results = #[.cell p 36, .tmp q]) (g : Nat) (l : List Int) (hp : a.tmps.getD p undef = .pointer (some ⟨g, 0, none⟩)) (hl : l.length = 4)
    (hg : blk W g = some (.cells (cs .i64 l) 36 (0, 0))) (hd : a.defers = []) (hR : R (.returned (.tuple #[.agg (cs .i64 l), a.tmps.getD q undef])) W) : bodyPost Try.prog fn R .ret a W :=
  bodyPost_ret (results_row2 h _ _ g _ _ _ _ hp hg Try.underlying36 rfl (by rw [info_w]; simp [hl])) hd hR
theorem pop_nil (w : World) :
    Calls Try.prog 10 #[.pointer none] w fun e w' => e = .returned (.tuple #[.agg (cs .i64 [0, 0, 0, 0]), .bool false]) ∧ Below w.heap.size w w' := by
  go_enter Try.func10, Try.ntmps10
  go_wp2_with fail
  refine (len_nil _).mono ?_
  rintro e w1 ⟨rfl, rfl⟩
  go_wp2
  exact ret_w2 rfl w.heap.size [0, 0, 0, 0] rfl rfl (by first | exact blk_alloc_at _ _ _ rfl | exact blk_setRow_of (blk_alloc_at _ _ _ rfl) _) rfl ⟨rfl, by repeat' (first | (with_reducible exact Below.refl _ _) | (with_reducible refine Rd.below_step ?_ (by assumption)) | (with_reducible refine Rd.below_alloc ?_ _) | (with_reducible refine Rd.below_drewN ?_ _) | (with_reducible refine Below.drew ?_) | (with_reducible refine Below.setCell ?_ ?_ _) | (with_reducible refine Rd.below_setRow ?_ ?_ _) | go_size | (simp only [World.size_alloc]; omega) | omega)⟩
theorem pop_none (t most d : Nat) (v : Value) (w : World) (hq : Qu w t 0 most d v []) :
    Calls Try.prog 10 #[.pointer (some ⟨t, 0, none⟩)] w fun e w' => e = .returned (.tuple #[.agg (cs .i64 [0, 0, 0, 0]), .bool false]) ∧ Below w.heap.size w w' := by
  have HQ := Lib.hid hq
  clear hq
  go_enter Try.func10, Try.ntmps10
  go_wp2_with fail
  refine (len_any t 0 most d v [] _ (HQ.out.bel ((Below.refl _ _).alloc (Nat.le_refl _) _))).mono ?_
  rintro e w1 ⟨rfl, rfl⟩
  go_wp2
  exact ret_w2 rfl w.heap.size [0, 0, 0, 0] rfl rfl (by first | exact blk_alloc_at _ _ _ rfl | exact blk_setRow_of (blk_alloc_at _ _ _ rfl) _) rfl ⟨rfl, by repeat' (first | (with_reducible exact Below.refl _ _) | (with_reducible refine Rd.below_step ?_ (by assumption)) | (with_reducible refine Rd.below_alloc ?_ _) | (with_reducible refine Rd.below_drewN ?_ _) | (with_reducible refine Below.drew ?_) | (with_reducible refine Below.setCell ?_ ?_ _) | (with_reducible refine Rd.below_setRow ?_ ?_ _) | go_size | (simp only [World.size_alloc]; omega) | omega)⟩
def PopR (w : World) (t most d : Nat) (v : Value) (x : List Int) (s : PgM.Row) (e : Ending) (w' : World) : Prop :=
  ∃ v', e = .returned (.tuple #[.agg (cs .i64 x), .bool true]) ∧ Qu w' t 0 most d v' s ∧ TnB w w' t v ∧ At w v v'
set_option maxHeartbeats 4000000 in
theorem pop_some (t most d : Nat) (v : Value) (x : List Int) (s : PgM.Row) (w : World) (hq : Qu w t 0 most d v (x :: s)) :
    Calls Try.prog 10 #[.pointer (some ⟨t, 0, none⟩)] w fun e w' => PopR w t most d v x s e w' := by
  have HQ := Lib.hid hq
  have hx4 : x.length = 4 := hq.w4 _ (List.mem_cons_self ..)
  obtain ⟨x0, x1, x2, x3, rfl⟩ := len4 hx4
  obtain ⟨ad, cap, hv, hcap, hrow⟩ := hq.slice
  obtain ⟨g, rfl, -, -⟩ := hrow (by simp)
  have hlow : g < w.heap.size := Qu.low hq (by rw [hv]; rfl)
  have hT := hq.lt
  have htg : t ≠ g := fun e => Qu.not_own hq (by rw [hv, e]; rfl)
  have HV := Lib.hid hv
  clear hq hx4 hrow hcap hv
  have hpos : (0 : Int) < (([x0, x1, x2, x3] :: s).length : Int) := by simp only [List.length_cons]; omega
  have hnz : ((([x0, x1, x2, x3] :: s).length : Int) = 0) = False := eq_false (by omega)
  have hnz2 : (([x0, x1, x2, x3] :: s).length = 0) = False := eq_false (by simp)
  obtain ⟨N, hN⟩ : ∃ N, ([x0, x1, x2, x3] :: s).length = N := ⟨_, rfl⟩
  have HN := Lib.hid hN
  rw [hN] at hpos hnz hnz2
  clear hN
  go_enter Try.func10, Try.ntmps10
  go_wp2_with fail
  refine (len_any t 0 most d v ([x0, x1, x2, x3] :: s) _ (HQ.out.bel ((Below.refl _ _).alloc (Nat.le_refl _) _))).mono ?_
  rintro e w1 ⟨rfl, hw1⟩
  have L1 : Below w.heap.size w w1 := by rw [← hw1]; exact (Below.refl _ _).alloc (Nat.le_refl _) _
  have bR : blk w1 w.heap.size = some (.cells #[.int .i64 0, .int .i64 0, .int .i64 0, .int .i64 0] 36 (0, 0)) := by rw [← hw1]; exact blk_alloc_at _ _ _ rfl
  rw [HN.out]
  have hq1 := HQ.out.bel L1
  have hs1 := L1.size
  have lR := blk_lt bR
  have c2 := hq1.c2
  rw [HV.out] at c2
  obtain ⟨c, bG, hc, pw, -⟩ := Qu.row hq1 HV.out (i := 0) (by simp)
  have pw4 : Mid.piece c 0 4 = #[.int .i64 x0, .int .i64 x1, .int .i64 x2, .int .i64 x3] := by
    have e : Mid.piece c (0 * 4) 4 = cs .i64 [x0, x1, x2, x3] := pw
    rwa [Nat.zero_mul] at e
  have hc4 : 4 ≤ c.size := by omega
  rw [HN.out] at c2
  have HQ1 := Lib.hid hq1
  clear hw1 hq1 hc pw
  go_upto_region 4 with (fail)
  refine Rd.name_world ?_
  intro w2 hw
  obtain ⟨tb, etb⟩ : ∃ k, w1.heap.size = k := ⟨_, rfl⟩
  have bX2 : blk w2 tb = some (.cells #[.int .i64 x0, .int .i64 x1, .int .i64 x2, .int .i64 x3] 36 (0, 0)) := by rw [hw, ← etb]; exact blk_alloc_at _ _ _ rfl
  have bR2 : blk w2 w.heap.size = some (.cells #[.int .i64 0, .int .i64 0, .int .i64 0, .int .i64 0] 36 (0, 0)) := by rw [hw, blk_alloc_old _ _ _ lR]; exact bR
  have L2 : Below w.heap.size w w2 := by
    rw [hw]
    repeat' (first | (with_reducible exact Below.refl _ _) | (with_reducible refine Rd.below_step ?_ (by assumption)) | (with_reducible refine Rd.below_alloc ?_ _) | (with_reducible refine Rd.below_drewN ?_ _) | (with_reducible refine Below.drew ?_) | (with_reducible refine Below.setCell ?_ ?_ _) | (with_reducible refine Rd.below_setRow ?_ ?_ _) | go_size | (simp only [World.size_alloc]; omega) | omega)
  rw [etb]
  have htb : w.heap.size < tb := by omega
  have hq2 : Qu w2 t 0 most d v ([x0, x1, x2, x3] :: s) := HQ.out.bel L2
  have c2 := hq2.c2
  rw [HV.out, HN.out] at c2
  have hdel : Calls Try.prog 23 #[.slice (some ⟨g, 0, none⟩) N cap, .int .i64 0, .int .i64 1] w2 fun e w' =>
      ∃ m, m = s.length ∧ e = .returned (.slice (some ⟨g, 0, none⟩) m cap) ∧ w'.ownsRow 0 36 4 (.slice (some ⟨g, 0, none⟩) m cap) m (fl s) ∧ w2.grownBy w' (some g) := by
    have := del_any t most d 0 v ([x0, x1, x2, x3] :: s) g cap w2 hq2 HV.out (by simp)
    rw [HN.out] at this
    exact this
  have HQ2 := Lib.hid hq2
  clear hw bG pw4 hc4 bR lR L1 HQ1 hq2 etb hs1
  go_wp2_with fail
  refine hdel.mono ?_
  rintro e w6 ⟨m, em, rfl, ho6, hg6⟩
  have ow : v.ownBlock = some g := by rw [HV.out]; rfl
  have bT6 : blk w6 t = some (.cells #[.int .i64 most, .int .i64 d, v] 58 (0, 0)) := (hg6.block _ (blk_lt HQ2.out.t) (fun e => htg (by injection e))).trans HQ2.out.t
  have bX6 : blk w6 tb = some (.cells #[.int .i64 x0, .int .i64 x1, .int .i64 x2, .int .i64 x3] 36 (0, 0)) := (hg6.block _ (blk_lt bX2) (fun e => by injection e with e; omega)).trans bX2
  have bR6 : blk w6 w.heap.size = some (.cells #[.int .i64 0, .int .i64 0, .int .i64 0, .int .i64 0] 36 (0, 0)) := (hg6.block _ (blk_lt bR2) (fun e => by injection e with e; omega)).trans bR2
  have T6 : TnB w w6 t v := ⟨hg6.os.trans L2.os, hg6.tape.trans L2.tape, hg6.output.trans L2.output, Nat.le_trans L2.size hg6.size, fun j h1 h2 h3 => (hg6.block j (by have := L2.size; omega) (by rw [← ow]; exact h3)).trans (L2.block j h1)⟩
  have f6 := blk_frozen bT6 2
  have c6 : w6.cell? ⟨t, 2, none⟩ = some v := by rw [blk_cell bT6]; rfl
  rw [HV.out] at c6
  subst em
  have hq7 := qu_set bT6 ho6 (fun v hv => HQ2.out.w4 v (List.mem_cons_of_mem _ hv))
  have T7 := tnb_set (o := 2) T6 (.slice (some ⟨g, 0, none⟩) s.length cap)
  have bX7 : blk (w6.setCell ⟨t, 2, none⟩ (.slice (some ⟨g, 0, none⟩) s.length cap)) tb = some (.cells #[.int .i64 x0, .int .i64 x1, .int .i64 x2, .int .i64 x3] 36 (0, 0)) := (heap_setCell_other _ _ _ _ (by show tb ≠ t; omega)).trans bX6
  have bR7 : blk (w6.setCell ⟨t, 2, none⟩ (.slice (some ⟨g, 0, none⟩) s.length cap)) w.heap.size = some (.cells #[.int .i64 0, .int .i64 0, .int .i64 0, .int .i64 0] 36 (0, 0)) := (heap_setCell_other _ _ _ _ (by show w.heap.size ≠ t; omega)).trans bR6
  have HQ7 := Lib.hid hq7
  have HT7 := Lib.hid T7
  clear hq7 T7 hg6 ho6 bT6 bX6 bR6 T6 bX2 bR2 c2 hdel L2
  go_upto_region 5 with (fail)
  refine Rd.name_world ?_
  intro w7 hw
  rw [← hw] at bX7 bR7 HQ7 HT7
  clear hw f6 c6
  go_wp2
  refine ret_w2 rfl w.heap.size [x0, x1, x2, x3] rfl rfl (blk_setRow_of bR7 _) rfl ⟨.slice (some ⟨g, 0, none⟩) s.length cap, rfl, ?_, ?_, .inl (by rw [ow]; rfl)⟩
  · have h := HQ7.out
    have hgr : w7.grownBy (w7.setRow w.heap.size #[.int .i64 x0, .int .i64 x1, .int .i64 x2, .int .i64 x3]) (some w.heap.size) := ⟨rfl, rfl, rfl, by simp, fun k _ hk => blk_setRow_other _ _ _ _ (fun e => hk (by rw [e]))⟩
    refine ⟨(blk_setRow_other _ _ _ _ (by omega)).trans h.t, h.own.kept hgr (.inr fun e => ?_), h.w4⟩
    have e : some g = some w.heap.size := e
    injection e with e
    omega
  · have h := HT7.out
    refine ⟨h.os, h.tape, h.output, ?_, fun k h1 h2 h3 => (blk_setRow_other _ _ _ _ (by omega)).trans (h.block k h1 h2 h3)⟩
    have := h.size
    simpa using this
end Go.Proofs.Ytpbdgkjlmijipaa.QuK

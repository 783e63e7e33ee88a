/-
  What the document fixes of screens.
-/
import Derived.Test.YtimfjogallcgnaaScI
import Derived.Test.YtimfjogallcgnaaPred
namespace Go.Proofs.Ytimfjogallcgnaa.ScJ
open Go.RowKit FixA Num Rd Go.Proofs.Ytimfjogallcgnaa.Row Mid ClM ClC ClD ScM ScA ScB ScD ScE ScF ScG ScH ScI
open Go.Proofs.Ytimfjogallcgnaa.VecA (cellB Wf)
open Go.Proofs.Ytimfjogallcgnaa.VecD (oneL)
open Go.Proofs.Ytimfjogallcgnaa.Pred (Is is_stab Stab)
set_option linter.unusedVariables false
set_option linter.unusedSimpArgs false
set_option maxRecDepth 10000
/-- a slice that reads as these triangles; the same with an error's number -/
def SR (n : Nat) (r : ClM.Row) : Value → World → Prop := fun v X => ∃ a c, v = .slice a n c ∧ TriAt X a r
def PR (n : Nat) (e : Int) (r : ClM.Row) : Value → World → Prop := fun v X => ∃ a c, v = .tuple #[.slice a n c, .int .i64 e] ∧ TriAt X a r
theorem cell_ext {B : Nat} {w w' : World} (h : Pred.Ext B w w') {b o : Nat} {v : Value} (hc : w.cell? ⟨b, o, none⟩ = some v) : w'.cell? ⟨b, o, none⟩ = some v ∧ b < w'.heap.size := by
  unfold World.cell? at hc ⊢
  simp only at hc ⊢
  cases hb : w.heap[b]? with
  | none => rw [hb] at hc; cases hc
  | some ob =>
    rw [hb] at hc
    cases ob with
    | cells c t fr =>
      obtain ⟨fr', h2⟩ := h.2 b c t fr hb
      rw [h2]
      refine ⟨hc, ?_⟩
      rcases Nat.lt_or_ge b w'.heap.size with h3 | h3
      · exact h3
      · rw [Array.getElem?_eq_none h3] at h2; cases h2
    | _ => simp at hc
theorem tri_ext {B : Nat} {w w' : World} {a : Option Addr} {r : ClM.Row} (hb : Pred.Ext B w w') (h : TriAt w a r) : TriAt w' a r := by
  obtain ⟨h2, h3⟩ := h
  refine ⟨h2, ?_⟩
  rcases h3 with h3 | ⟨b, o, e, hlt, hc⟩
  · exact Or.inl h3
  · by_cases h0 : r = []
    · exact Or.inl h0
    · have hl : 0 < r.length := List.length_pos_iff.2 h0
      exact Or.inr ⟨b, o, e, (cell_ext hb (hc 0 hl 0 (by omega))).2, fun i hi j hj => (cell_ext hb (hc i hi j hj)).1⟩
theorem sr_stab (n : Nat) (r : ClM.Row) : Stab (SR n r) := by
  intro v w w' B ⟨a, c, h1, h2⟩ hb
  exact ⟨a, c, h1, tri_ext hb h2⟩
theorem pr_stab (n : Nat) (e : Int) (r : ClM.Row) : Stab (PR n e r) := by
  intro v w w' B ⟨a, c, h1, h2⟩ hb
  exact ⟨a, c, h1, tri_ext hb h2⟩
theorem oneL_len : oneL.length = 16 := rfl
theorem oneL_wf : Wf oneL := by
  intro x hx
  simp only [oneL, List.mem_cons, List.not_mem_nil, or_false] at hx
  rcases hx with h | h | h | h | h | h | h | h | h | h | h | h | h | h | h | h <;> (rw [h]; decide)
def tL : List Int := [0, 0, 0, 65536, 0, 0, 65536, 0, 0, 65536, 0, 0, 0, 65536, 0, 65536, 0, 0, 0]
def zL : List Int := List.replicate 19 0
def bigL : List Int := 2097152 :: List.replicate 15 0
theorem bigL_wf : Wf bigL := by
  intro x hx
  simp only [bigL, List.mem_cons, List.mem_replicate] at hx
  rcases hx with h | h
  · rw [h]; decide
  · rw [h.2]; decide
def rowT : ClM.Row := [[1280, 1280, 32767, 65536, 0, 0, 2560, 1280, 32767, 65536, 0, 0, 1280, 0, 32767, 65536, 0, 0]]
theorem placed1 : placeV oneL tL 10 10 = (rowT, 0) := by decide +kernel
theorem placed2 : placeV oneL zL 10 10 = ([], 2) := by decide +kernel
theorem placed3 : placeV bigL tL 10 10 = ([], 1) := by decide +kernel
theorem spot1 : spotV [0, 0, 0, 65536, 7, 0] 10 20 = ([1280, 2560, 32767, 65536, 7, 0], true) := by decide +kernel
theorem spot2 : spotV [0, 0, 0, 65536, 0, 0] 33 20 = ([0, 0, 0, 0, 0, 0], false) := by decide +kernel
theorem placeOne (X : World) : Calls Try.prog 10 #[.agg (cs .i64 oneL), .agg #[.int .i64 0, .int .i64 0, .int .i64 0, .int .i64 65536, .int .i64 0, .int .i64 0, .int .i64 65536, .int .i64 0, .int .i64 0, .int .i64 65536, .int .i64 0, .int .i64 0, .int .i64 0, .int .i64 65536, .int .i64 0, .int .i64 65536, .int .i64 0, .int .i64 0, .int .i64 0, .int .u8 0, .int .u8 0, .int .u8 0, .int .u8 0], .int .i64 10, .int .i64 10] X fun e w' => (∃ v, e = .returned v ∧ PR 1 0 rowT v w') ∧ Below X.heap.size X w' := by
  refine (place_any oneL 0 0 0 65536 0 0 65536 0 0 65536 0 0 0 65536 0 65536 0 0 0 0 0 0 0 10 10 X oneL_len oneL_wf).mono ?_
  rintro e w' ⟨⟨ad, c, he, hr⟩, hb⟩
  change e = .returned (.tuple #[.slice ad (placeV oneL tL 10 10).1.length c, .int .i64 (placeV oneL tL 10 10).2]) at he
  change TriAt w' ad (placeV oneL tL 10 10).1 at hr
  rw [placed1] at he hr
  exact ⟨⟨_, he, ad, c, rfl, hr⟩, hb⟩
attribute [local go_sem ↓] load_mat load_tri store_tri load_spot store_spot
attribute [local go_sem] one_int run_load_mat run_load_spot run_store_spot run_load_tri run_store_tri pcS pt_all midLoad_eq rowLoad_eq rowStore_eq blk_alloc_at blk_alloc_old blk_drew blk_drewN blk_set_far blk_set_far' blk_grow setRow_alloc_at setRow_alloc_old setRow_drew setRow_drewN
set_option maxHeartbeats 2000000 in
theorem awake_any (w : World) : Calls Try.prog 13 #[] w fun e w' => e = .returned (.bool true) ∧ Below w.heap.size w w' := by
  go_enter Try.func13, Try.ntmps13
  go_wp2_with fail
  refine (spot_any [0, 0, 0, 65536, 7, 0] rfl 10 20 _).mono ?_
  rintro e w1 ⟨he, hb1⟩
  rw [spot1] at he
  subst he
  have L1 : Below w.heap.size w w1 := by repeat' (first | (with_reducible exact Below.refl _ _) | (with_reducible refine Rd.below_step ?_ (by assumption)) | (with_reducible refine Rd.below_alloc ?_ _) | (with_reducible refine Rd.below_drewN ?_ _) | (with_reducible refine Below.drew ?_) | (with_reducible refine Below.setCell ?_ ?_ _) | (with_reducible refine Rd.below_setRow ?_ ?_ _) | go_size | (simp only [World.size_alloc]; omega) | omega)
  have s1 := hb1.size
  clear hb1
  go_upto_region 2 with (fail)
  refine Rd.name_world ?_
  intro w2 hw
  have bS2 : blk w2 w1.heap.size = some (.cells #[.int .i64 1280, .int .i64 2560, .int .i64 32767, .int .i64 65536, .int .i64 7, .int .i64 0] 33 (0, 0)) := by rw [hw]; exact blk_alloc_at _ _ _ rfl
  have L2 : Below w.heap.size w w2 := by
    rw [hw]
    repeat' (first | (with_reducible exact Below.refl _ _) | (with_reducible refine Rd.below_step ?_ (by assumption)) | (with_reducible refine Rd.below_alloc ?_ _) | (with_reducible refine Rd.below_drewN ?_ _) | (with_reducible refine Below.drew ?_) | (with_reducible refine Below.setCell ?_ ?_ _) | (with_reducible refine Rd.below_setRow ?_ ?_ _) | go_size | (simp only [World.size_alloc]; omega) | omega)
  clear hw L1
  go_wp2_with fail
  refine (spot_any [0, 0, 0, 65536, 0, 0] rfl 33 20 _).mono ?_
  rintro e w3 ⟨he, hb3⟩
  rw [spot2] at he
  subst he
  have bS3 := (blk_below hb3 _ (blk_lt bS2)).trans bS2
  have L3 : Below w.heap.size w w3 := by repeat' (first | (with_reducible exact Below.refl _ _) | (with_reducible refine Rd.below_step ?_ (by assumption)) | (with_reducible refine Rd.below_alloc ?_ _) | (with_reducible refine Rd.below_drewN ?_ _) | (with_reducible refine Below.drew ?_) | (with_reducible refine Below.setCell ?_ ?_ _) | (with_reducible refine Rd.below_setRow ?_ ?_ _) | go_size | (simp only [World.size_alloc]; omega) | omega)
  clear hb3 bS2 L2
  go_upto_region 4 with (fail)
  refine Rd.name_world ?_
  intro w4 hw
  have bS4 : blk w4 w1.heap.size = some (.cells #[.int .i64 1280, .int .i64 2560, .int .i64 32767, .int .i64 65536, .int .i64 7, .int .i64 0] 33 (0, 0)) := by rw [hw]; exact (blk_alloc_old _ _ _ (by simp; have := blk_lt bS3; omega)).trans ((blk_alloc_old _ _ _ (blk_lt bS3)).trans bS3)
  have bT4 : blk w4 (w3.heap.size + 1) = some (.cells #[.int .i64 0, .int .i64 0, .int .i64 0, .int .i64 65536, .int .i64 0, .int .i64 0, .int .i64 65536, .int .i64 0, .int .i64 0, .int .i64 65536, .int .i64 0, .int .i64 0, .int .i64 0, .int .i64 65536, .int .i64 0, .int .i64 65536, .int .i64 0, .int .i64 0, .int .i64 0, .int .u8 0, .int .u8 0, .int .u8 0, .int .u8 0] 31 (0, 0)) := by rw [hw]; exact blk2_1 _ _ _
  have L4 : Below w.heap.size w w4 := by
    rw [hw]
    repeat' (first | (with_reducible exact Below.refl _ _) | (with_reducible refine Rd.below_step ?_ (by assumption)) | (with_reducible refine Rd.below_alloc ?_ _) | (with_reducible refine Rd.below_drewN ?_ _) | (with_reducible refine Below.drew ?_) | (with_reducible refine Below.setCell ?_ ?_ _) | (with_reducible refine Rd.below_setRow ?_ ?_ _) | go_size | (simp only [World.size_alloc]; omega) | omega)
  have lT := blk_lt bT4
  have lS := blk_lt bS4
  clear hw bS3 L3
  refine Pred.region_vals (Pred.Of [
      Is (.agg (cs .i64 oneL)),
      Is (.agg #[.int .i64 0, .int .i64 0, .int .i64 0, .int .i64 65536, .int .i64 0, .int .i64 0, .int .i64 65536, .int .i64 0, .int .i64 0, .int .i64 65536, .int .i64 0, .int .i64 0, .int .i64 0, .int .i64 65536, .int .i64 0, .int .i64 65536, .int .i64 0, .int .i64 0, .int .i64 0, .int .u8 0, .int .u8 0, .int .u8 0, .int .u8 0]),
      PR 1 0 rowT,
      PR 1 0 rowT,
      SR 1 rowT,
      Is (.int .i64 0),
      SR 1 rowT,
      Is (.int .i64 0)]) (by kernel_rfl) (by kernel_rfl) (by kernel_rfl) (Pred.of_stab ?_) ?_ ?_
  · exact ⟨is_stab _, is_stab _, pr_stab _ _ _, pr_stab _ _ _, sr_stab _ _, is_stab _, sr_stab _ _, is_stab _, trivial⟩
  · refine ⟨?_, ?_, ?_, ?_, ?_, ?_, ?_, ?_, trivial⟩
    · intro b X hE hd hn hV
      refine Pred.yields_call (f := 14) (args := #[]) (Pred.wanted_none rfl) (by go_simp) ?_
      exact (VecF.rone_any _).mono fun e w2 ⟨he, hb⟩ => ⟨_, he, Pred.ext_below hb hE.size, rfl⟩
    · intro b X hE hd hn hV
      have r5 : b.tmps[5]?.getD undef = .pointer (some ⟨w3.heap.size + 1, 0, none⟩) := (hn 5 (by kernel_rfl)).trans rfl
      have q := (blk_below hE _ lT).trans bT4
      exact Pred.yields_run (v := .agg #[.int .i64 0, .int .i64 0, .int .i64 0, .int .i64 65536, .int .i64 0, .int .i64 0, .int .i64 65536, .int .i64 0, .int .i64 0, .int .i64 65536, .int .i64 0, .int .i64 0, .int .i64 0, .int .i64 65536, .int .i64 0, .int .i64 65536, .int .i64 0, .int .i64 0, .int .i64 0, .int .u8 0, .int .u8 0, .int .u8 0, .int .u8 0]) (Pred.wanted_none rfl) (by go_simp) ⟨Pred.ext_refl _ _, rfl⟩
    · intro b X hE hd hn hV
      have r32 : b.tmps[32]?.getD undef = .agg (cs .i64 oneL) := hV 0 _ 32 rfl rfl (Pred.waits_near (by kernel_rfl) (by kernel_rfl))
      have r33 : b.tmps[33]?.getD undef = .agg #[.int .i64 0, .int .i64 0, .int .i64 0, .int .i64 65536, .int .i64 0, .int .i64 0, .int .i64 65536, .int .i64 0, .int .i64 0, .int .i64 65536, .int .i64 0, .int .i64 0, .int .i64 0, .int .i64 65536, .int .i64 0, .int .i64 65536, .int .i64 0, .int .i64 0, .int .i64 0, .int .u8 0, .int .u8 0, .int .u8 0, .int .u8 0] := hV 1 _ 33 rfl rfl (Pred.waits_near (by kernel_rfl) (by kernel_rfl))
      refine Pred.yields_call (f := 10) (args := #[.agg (cs .i64 oneL), .agg #[.int .i64 0, .int .i64 0, .int .i64 0, .int .i64 65536, .int .i64 0, .int .i64 0, .int .i64 65536, .int .i64 0, .int .i64 0, .int .i64 65536, .int .i64 0, .int .i64 0, .int .i64 0, .int .i64 65536, .int .i64 0, .int .i64 65536, .int .i64 0, .int .i64 0, .int .i64 0, .int .u8 0, .int .u8 0, .int .u8 0, .int .u8 0], .int .i64 10, .int .i64 10]) (Pred.wanted_none rfl) (by go_simp) ?_
      exact (placeOne _).mono fun e w2 ⟨⟨v, he, hp⟩, hb⟩ => ⟨v, he, Pred.ext_below hb hE.size, hp⟩
    · intro b X hE hd hn hV
      obtain ⟨ga34, ca34, r34, hr34⟩ : PR 1 0 rowT (b.tmps[34]?.getD undef) X := hV 2 _ 34 rfl rfl (Pred.waits_near (by kernel_rfl) (by kernel_rfl))
      exact Pred.yields_run (v := .tuple #[.slice ga34 1 ca34, .int .i64 0]) (Pred.wanted_none rfl) (by go_simp) ⟨Pred.ext_refl _ _, ga34, ca34, rfl, hr34⟩
    · intro b X hE hd hn hV
      obtain ⟨ga31, ca31, r31, hr31⟩ : PR 1 0 rowT (b.tmps[31]?.getD undef) X := hV 3 _ 31 rfl rfl (Pred.waits_near (by kernel_rfl) (by kernel_rfl))
      exact Pred.yields_run (v := .slice ga31 1 ca31) (Pred.wanted_none rfl) (by go_simp) ⟨Pred.ext_refl _ _, ga31, ca31, rfl, hr31⟩
    · intro b X hE hd hn hV
      obtain ⟨ga31, ca31, r31, hr31⟩ : PR 1 0 rowT (b.tmps[31]?.getD undef) X := hV 3 _ 31 rfl rfl (Pred.waits_near (by kernel_rfl) (by kernel_rfl))
      exact Pred.yields_run (v := .int .i64 0) (Pred.wanted_none rfl) (by go_simp) ⟨Pred.ext_refl _ _, rfl⟩
    · intro b X hE hd hn hV
      obtain ⟨ga35, ca35, r35, hr35⟩ : SR 1 rowT (b.tmps[35]?.getD undef) X := hV 4 _ 35 rfl rfl (Pred.waits_near (by kernel_rfl) (by kernel_rfl))
      exact Pred.yields_run (v := .slice ga35 1 ca35) (Pred.wanted_none rfl) (by go_simp) ⟨Pred.ext_refl _ _, ga35, ca35, rfl, hr35⟩
    · intro b X hE hd hn hV
      have r36 : b.tmps[36]?.getD undef = .int .i64 0 := hV 5 _ 36 rfl rfl (Pred.waits_near (by kernel_rfl) (by kernel_rfl))
      exact Pred.yields_run (v := .int .i64 0) (Pred.wanted_none rfl) (by go_simp) ⟨Pred.ext_refl _ _, rfl⟩
  intro v w5 hE hv
  have e0 : v 0 = .agg (cs .i64 oneL) := hv 0 _ 32 rfl rfl
  have e1 : v 1 = .agg #[.int .i64 0, .int .i64 0, .int .i64 0, .int .i64 65536, .int .i64 0, .int .i64 0, .int .i64 65536, .int .i64 0, .int .i64 0, .int .i64 65536, .int .i64 0, .int .i64 0, .int .i64 0, .int .i64 65536, .int .i64 0, .int .i64 65536, .int .i64 0, .int .i64 0, .int .i64 0, .int .u8 0, .int .u8 0, .int .u8 0, .int .u8 0] := hv 1 _ 33 rfl rfl
  obtain ⟨ga2, ca2, e2, hr2⟩ : PR 1 0 rowT (v 2) w5 := hv 2 _ 34 rfl rfl
  obtain ⟨ga3, ca3, e3, hr3⟩ : PR 1 0 rowT (v 3) w5 := hv 3 _ 31 rfl rfl
  obtain ⟨ga4, ca4, e4, hr4⟩ : SR 1 rowT (v 4) w5 := hv 4 _ 35 rfl rfl
  have e5 : v 5 = .int .i64 0 := hv 5 _ 36 rfl rfl
  obtain ⟨ga4x, ca4x, e6, hr4x⟩ : SR 1 rowT (v 6) w5 := hv 6 _ 6 rfl rfl
  have e7 : v 7 = .int .i64 0 := hv 7 _ 7 rfl rfl
  simp only [Pred.putsF_cons, Pred.putsF_nil, Nat.zero_add, Nat.reduceAdd, e0, e1, e2, e3, e4, e5, e6, e7, Act.put, List.setIfInBounds_toArray, List.set_cons_zero, List.set_cons_succ]
  clear e0 e1 e2 e3 e4 e5 e6 e7 hv
  have bS5 := (blk_below hE _ lS).trans bS4
  have bT5 := (blk_below hE _ lT).trans bT4
  have L5 : Below w.heap.size w w5 := by repeat' (first | (with_reducible exact Below.refl _ _) | (with_reducible refine Rd.below_step ?_ (by assumption)) | (with_reducible refine Rd.below_alloc ?_ _) | (with_reducible refine Rd.below_drewN ?_ _) | (with_reducible refine Below.drew ?_) | (with_reducible refine Below.setCell ?_ ?_ _) | (with_reducible refine Rd.below_setRow ?_ ?_ _) | go_size | (simp only [World.size_alloc]; omega) | omega)
  have HR := Lib.hid hr4x
  clear hE bS4 bT4 L4 lT lS hr4x hr2 hr3 hr4
  go_wp2_with fail
  refine (VecF.rone_any _).mono ?_
  rintro e w6 ⟨rfl, hb6⟩
  have bS6 := (blk_below hb6 _ (blk_lt bS5)).trans bS5
  have bT6 := (blk_below hb6 _ (blk_lt bT5)).trans bT5
  have HR6 := Lib.hid (TriAt.below (B := 0) HR.out hb6)
  have L6 : Below w.heap.size w w6 := by repeat' (first | (with_reducible exact Below.refl _ _) | (with_reducible refine Rd.below_step ?_ (by assumption)) | (with_reducible refine Rd.below_alloc ?_ _) | (with_reducible refine Rd.below_drewN ?_ _) | (with_reducible refine Below.drew ?_) | (with_reducible refine Below.setCell ?_ ?_ _) | (with_reducible refine Rd.below_setRow ?_ ?_ _) | go_size | (simp only [World.size_alloc]; omega) | omega)
  clear hb6 bS5 bT5 HR L5
  go_wp2_with fail
  refine (place_any oneL 0 0 0 0 0 0 0 0 0 0 0 0 0 0 0 0 0 0 0 0 0 0 0 10 10 _ oneL_len oneL_wf).mono ?_
  rintro e w7 ⟨⟨ad7, c7, he, hr7⟩, hb7⟩
  change e = .returned (.tuple #[.slice ad7 (placeV oneL zL 10 10).1.length c7, .int .i64 (placeV oneL zL 10 10).2]) at he
  rw [placed2] at he
  subst he
  have bS7 := (blk_below hb7 _ (blk_lt bS6)).trans bS6
  have bT7 := (blk_below hb7 _ (blk_lt bT6)).trans bT6
  have HR7 := Lib.hid (TriAt.below (B := 0) HR6.out hb7)
  have L7 : Below w.heap.size w w7 := by repeat' (first | (with_reducible exact Below.refl _ _) | (with_reducible refine Rd.below_step ?_ (by assumption)) | (with_reducible refine Rd.below_alloc ?_ _) | (with_reducible refine Rd.below_drewN ?_ _) | (with_reducible refine Below.drew ?_) | (with_reducible refine Below.setCell ?_ ?_ _) | (with_reducible refine Rd.below_setRow ?_ ?_ _) | go_size | (simp only [World.size_alloc]; omega) | omega)
  clear hb7 bS6 bT6 HR6 L6 hr7
  go_wp2_with fail
  refine (place_any bigL 0 0 0 65536 0 0 65536 0 0 65536 0 0 0 65536 0 65536 0 0 0 0 0 0 0 10 10 _ rfl bigL_wf).mono ?_
  rintro e w8 ⟨⟨ad8, c8, he, hr8⟩, hb8⟩
  change e = .returned (.tuple #[.slice ad8 (placeV bigL tL 10 10).1.length c8, .int .i64 (placeV bigL tL 10 10).2]) at he
  rw [placed3] at he
  subst he
  have bS8 := (blk_below hb8 _ (blk_lt bS7)).trans bS7
  have HR8 := Lib.hid (TriAt.below (B := 0) HR7.out hb8)
  have L8 : Below w.heap.size w w8 := by repeat' (first | (with_reducible exact Below.refl _ _) | (with_reducible refine Rd.below_step ?_ (by assumption)) | (with_reducible refine Rd.below_alloc ?_ _) | (with_reducible refine Rd.below_drewN ?_ _) | (with_reducible refine Below.drew ?_) | (with_reducible refine Below.setCell ?_ ?_ _) | (with_reducible refine Rd.below_setRow ?_ ?_ _) | go_size | (simp only [World.size_alloc]; omega) | omega)
  clear hb8 bS7 bT7 HR7 L7 hr8
  obtain ⟨b, o, ea, hb0, hc⟩ : ∃ b o, ga4x = some ⟨b, o, none⟩ ∧ b < w8.heap.size ∧ ∀ i, i < rowT.length → ∀ j, j < 18 → w8.cell? ⟨b, o + i * 18 + j, none⟩ = some (.int .i64 (ClM.g (at_ rowT i) j)) := by
    rcases HR8.out.2 with h | h
    · cases h
    · exact h
  subst ea
  have k6 : w8.cell? ⟨b, o + 6, none⟩ = some (.int .i64 2560) := hc 0 (by decide) 6 (by omega)
  have k13 : w8.cell? ⟨b, o + 13, none⟩ = some (.int .i64 0) := hc 0 (by decide) 13 (by omega)
  clear hc
  go_wp2
  go_ret
  exact ⟨rfl, by repeat' (first | (with_reducible exact Below.refl _ _) | (with_reducible refine Rd.below_step ?_ (by assumption)) | (with_reducible refine Rd.below_alloc ?_ _) | (with_reducible refine Rd.below_drewN ?_ _) | (with_reducible refine Below.drew ?_) | (with_reducible refine Below.setCell ?_ ?_ _) | (with_reducible refine Rd.below_setRow ?_ ?_ _) | go_size | (simp only [World.size_alloc]; omega) | omega)⟩
end Go.Proofs.Ytimfjogallcgnaa.ScJ

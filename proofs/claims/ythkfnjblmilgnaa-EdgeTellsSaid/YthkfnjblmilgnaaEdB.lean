/-
  Covers.
-/
import Derived.Test.YthkfnjblmilgnaaEdA
import Derived.Test.YthkfnjblmilgnaaPredS
import Derived.BigGuard
namespace Go.Proofs.Ythkfnjblmilgnaa.EdB
open Go.RowKit FixA Num Rd Go.Proofs.Ythkfnjblmilgnaa.Row Mid EdM EdA
open Go.Proofs.Ythkfnjblmilgnaa.Pred (Is is_stab Stab)
set_option linter.unusedVariables false
set_option linter.unusedSimpArgs false
set_option maxRecDepth 10000
attribute [local go_sem ↓] load_tri store_tri load_w3 store_w3 load_spot store_spot load_hit store_hit
attribute [local go_sem] one_int run_load_spot run_load_tri run_load_w3 run_load_hit run_store_tri run_store_w3 run_store_spot run_store_hit rowLoad_eq rowStore_eq midLoad_eq ext0 ext1 ext2 blk_alloc_at blk_alloc_old blk_drew blk_drewN blk_set_far blk_set_far' blk_grow setRow_alloc_at setRow_alloc_old setRow_drew setRow_drewN all_map
theorem piece_six {l : List Int} (h : l.length = 6) : piece (cs .i64 l) 0 6 = cs .i64 l := by
  rw [piece_cs, List.drop_zero, List.take_of_length_le (by omega)]
theorem sp_sp (t : List Int) (i : Nat) : sp (sp t i) 0 = sp t i := by simp [sp, List.take_take]
theorem piece_five {l : List Int} (h : l.length = 5) : piece (cs .i64 l) 0 5 = cs .i64 l := by
  rw [piece_cs, List.drop_zero, List.take_of_length_le (by omega)]
attribute [local go_sem] sp_sp piece_five
theorem ul_any (a b : List Int) (ha : SpL a) (hb : SpL b) (w : World) :
    Calls Try.prog 20 #[.agg (cs .i64 a), .agg (cs .i64 b)] w fun e w' => e = .returned (.bool (ul (g a 0) (g a 1) (g b 0) (g b 1))) ∧ Below w.heap.size w w' := by
  obtain ⟨la, ⟨a0, a1, a2, a3⟩⟩ := ha
  obtain ⟨lb, ⟨b0, b1, b2, b3⟩⟩ := hb
  have la0 : 0 < a.length := by omega
  have la1 : 1 < a.length := by omega
  have lb0 : 0 < b.length := by omega
  have lb1 : 1 < b.length := by omega
  simp only [g, List.getD, la0, la1, lb0, lb1, List.getElem?_eq_getElem, Option.getD_some]
  clear a0 a1 a2 a3 b0 b1 b2 b3
  obtain ⟨x0, e0⟩ : ∃ x, a[0] = x := ⟨_, rfl⟩
  obtain ⟨x1, e1⟩ : ∃ x, a[1] = x := ⟨_, rfl⟩
  obtain ⟨y0, e2⟩ : ∃ x, b[0] = x := ⟨_, rfl⟩
  obtain ⟨y1, e3⟩ : ∃ x, b[1] = x := ⟨_, rfl⟩
  by_cases h1 : y1 < x1
  · rw [show ul a[0] a[1] b[0] b[1] = true by unfold ul; rw [e1, e3, decide_eq_true h1]; rfl]
    have d1 : decide (b[1] < a[1]) = true := by rw [e1, e3]; exact decide_eq_true h1
    clear e0 e1 e2 e3
    go_enter Try.func20, Try.ntmps20
    go_wp2
    go_ret
    exact ⟨rfl, by repeat' (first | (with_reducible exact Below.refl _ _) | (with_reducible refine Rd.below_step ?_ (by assumption)) | (with_reducible refine Rd.below_alloc ?_ _) | (with_reducible refine Rd.below_drewN ?_ _) | (with_reducible refine Below.drew ?_) | (with_reducible refine Below.setCell ?_ ?_ _) | (with_reducible refine Rd.below_setRow ?_ ?_ _) | go_size | (simp only [World.size_alloc]; omega) | omega)⟩
  · have d1 : decide (b[1] < a[1]) = false := by rw [e1, e3]; exact decide_eq_false h1
    by_cases h2 : y1 = x1
    · have d2 : (b[1] == a[1]) = true := by rw [e1, e3, h2]; simp
      obtain ⟨q, eq⟩ : ∃ q, decide (a[0] < b[0]) = q := ⟨_, rfl⟩
      rw [show ul a[0] a[1] b[0] b[1] = q by unfold ul; rw [d1, eq, show decide (b[1] = a[1]) = true by rw [e1, e3, h2]; exact decide_eq_true rfl]; rfl]
      clear e0 e1 e2 e3
      go_enter Try.func20, Try.ntmps20
      go_wp2
      go_ret
      exact ⟨rfl, by repeat' (first | (with_reducible exact Below.refl _ _) | (with_reducible refine Rd.below_step ?_ (by assumption)) | (with_reducible refine Rd.below_alloc ?_ _) | (with_reducible refine Rd.below_drewN ?_ _) | (with_reducible refine Below.drew ?_) | (with_reducible refine Below.setCell ?_ ?_ _) | (with_reducible refine Rd.below_setRow ?_ ?_ _) | go_size | (simp only [World.size_alloc]; omega) | omega)⟩
    · have d2 : (b[1] == a[1]) = false := by rw [e1, e3]; simpa using h2
      rw [show ul a[0] a[1] b[0] b[1] = false by unfold ul; rw [d1, show decide (b[1] = a[1]) = false by rw [e1, e3]; exact decide_eq_false h2]; rfl]
      clear e0 e1 e2 e3
      go_enter Try.func20, Try.ntmps20
      go_wp2
      go_ret
      exact ⟨rfl, by repeat' (first | (with_reducible exact Below.refl _ _) | (with_reducible refine Rd.below_step ?_ (by assumption)) | (with_reducible refine Rd.below_alloc ?_ _) | (with_reducible refine Rd.below_drewN ?_ _) | (with_reducible refine Below.drew ?_) | (with_reducible refine Below.setCell ?_ ?_ _) | (with_reducible refine Rd.below_setRow ?_ ?_ _) | go_size | (simp only [World.size_alloc]; omega) | omega)⟩
theorem ul12 (t : List Int) (h : Tri t) (w : World) : Calls Try.prog 20 #[.agg (cs .i64 (sp t 1)), .agg (cs .i64 (sp t 2))] w fun e w' => e = .returned (.bool (ul0 t)) ∧ Below w.heap.size w w' := by
  have := ul_any (sp t 1) (sp t 2) h.sp1 h.sp2 w
  rw [sp_g _ _ 0 (by omega), sp_g _ _ 1 (by omega), sp_g _ _ 0 (by omega), sp_g _ _ 1 (by omega)] at this
  exact this
theorem ul20 (t : List Int) (h : Tri t) (w : World) : Calls Try.prog 20 #[.agg (cs .i64 (sp t 2)), .agg (cs .i64 (sp t 0))] w fun e w' => e = .returned (.bool (ul1 t)) ∧ Below w.heap.size w w' := by
  have := ul_any (sp t 2) (sp t 0) h.sp2 h.sp0 w
  rw [sp_g _ _ 0 (by omega), sp_g _ _ 1 (by omega), sp_g _ _ 0 (by omega), sp_g _ _ 1 (by omega)] at this
  exact this
theorem ul01 (t : List Int) (h : Tri t) (w : World) : Calls Try.prog 20 #[.agg (cs .i64 (sp t 0)), .agg (cs .i64 (sp t 1))] w fun e w' => e = .returned (.bool (ul2 t)) ∧ Below w.heap.size w w' := by
  have := ul_any (sp t 0) (sp t 1) h.sp0 h.sp1 w
  rw [sp_g _ _ 0 (by omega), sp_g _ _ 1 (by omega), sp_g _ _ 0 (by omega), sp_g _ _ 1 (by omega)] at this
  exact this
/-! One edge after the other -/
def fOf (e : Int) (u : Bool) : Bool := decide (0 < e) || (decide (e = 0) && u)
def fT (t : List Int) (px py : Int) : Nat → Bool
  | 0 => fOf (ed0 t (mid px) (mid py)) (ul0 t)
  | 1 => fOf (ed1 t (mid px) (mid py)) (ul1 t)
  | _ => fOf (ed2 t (mid px) (mid py)) (ul2 t)
def hitK (t : List Int) (px py : Int) : Nat → List Int
  | 0 => [px, py, 0, 0, 0]
  | 1 => [px, py, ed0 t (mid px) (mid py), 0, 0]
  | 2 => [px, py, ed0 t (mid px) (mid py), ed1 t (mid px) (mid py), 0]
  | _ => hitL t px py
def no5 : List Int := [0, 0, 0, 0, 0]
def covV (t : List Int) (px py : Int) : List Int := if covT t px py = true then hitL t px py else no5
theorem cov_f (t : List Int) (px py : Int) : covT t px py = (decide (0 < area t) && (fT t px py 0 && (fT t px py 1 && fT t px py 2))) := rfl
theorem cov_area {t : List Int} {px py : Int} (h : area t ≤ 0) : covT t px py = false := by rw [cov_f, decide_eq_false (by omega)]; rfl
theorem cov_no {t : List Int} {px py : Int} {k : Nat} (hk : k < 3) (h : fT t px py k = false) : covT t px py = false := by
  rw [cov_f]
  have : k = 0 ∨ k = 1 ∨ k = 2 := by omega
  rcases this with rfl | rfl | rfl <;> rw [h] <;> simp
theorem cov_yes {t : List Int} {px py : Int} (ha : 0 < area t) (h : ∀ j, j < 3 → fT t px py j = true) : covT t px py = true := by
  rw [cov_f, decide_eq_true ha, h 0 (by omega), h 1 (by omega), h 2 (by omega)]; rfl
theorem f_step {t : List Int} {px py : Int} {k : Nat} (h : ∀ j, j < k → fT t px py j = true) (h2 : fT t px py k = true) : ∀ j, j < k + 1 → fT t px py j = true := by
  intro j hj
  by_cases e : j = k
  · subst e; exact h2
  · exact h j (by omega)
theorem no_eq {t : List Int} {px py : Int} (h : covT t px py = false) : Ending.returned (.tuple #[.agg (cs .i64 no5), .bool false]) = .returned (.tuple #[.agg (cs .i64 (covV t px py)), .bool (covT t px py)]) := by
  unfold covV
  rw [h, if_neg (by decide)]
theorem yes_eq {t : List Int} {px py : Int} (h : covT t px py = true) : Ending.returned (.tuple #[.agg (cs .i64 (hitL t px py)), .bool true]) = .returned (.tuple #[.agg (cs .i64 (covV t px py)), .bool (covT t px py)]) := by
  unfold covV
  rw [h, if_pos rfl]
theorem cov_len (t : List Int) (px py : Int) : (covV t px py).length = 5 := by unfold covV; split <;> rfl
theorem two_old {w : World} {A B : Obj} {k : Nat} {o : Option Obj} (h : blk w k = o) (hk : k < w.heap.size) : blk ((w.alloc A).alloc B) k = o := (blk_alloc_old _ _ _ (by simp; omega)).trans ((blk_alloc_old _ _ _ hk).trans h)
theorem name_then {c : Act → World → Prop} {Q : Exit → Act → World → Prop} {e : Exit} {a : Act} {w : World} (h : ∀ W, W = w → Exit.then c Q e a W) : Exit.then c Q e a w := h w rfl
theorem mid_pt {p : Int} (h0 : -100 ≤ p) (h1 : p ≤ 100) : Pt (mid p) := by unfold mid; exact ⟨by omega, by omega⟩
theorem fold_mid (p : Int) : 256 * p + 128 = mid p := rfl
attribute [local go_sem] fold_mid
theorem hit_set0 (t : List Int) (px py : Int) : (cs .i64 (hitK t px py 0)).setIfInBounds 2 (.int .i64 (ed0 t (mid px) (mid py))) = cs .i64 (hitK t px py 1) := rfl
theorem hit_set1 (t : List Int) (px py : Int) : (cs .i64 (hitK t px py 1)).setIfInBounds 3 (.int .i64 (ed1 t (mid px) (mid py))) = cs .i64 (hitK t px py 2) := rfl
theorem hit_set2 (t : List Int) (px py : Int) : (cs .i64 (hitK t px py 2)).setIfInBounds 4 (.int .i64 (ed2 t (mid px) (mid py))) = cs .i64 (hitK t px py 3) := rfl
set_option maxHeartbeats 8000000 in
theorem covers_any (t : List Int) (h : Tri t) (px py : Int) (hx0 : -100 ≤ px) (hx1 : px ≤ 100) (hy0 : -100 ≤ py) (hy1 : py ≤ 100) (w : World) :
    Calls Try.prog 12 #[.agg (cs .i64 t), .int .i64 px, .int .i64 py] w fun e w' => e = .returned (.tuple #[.agg (cs .i64 (covV t px py)), .bool (covT t px py)]) ∧ Below w.heap.size w w' := by
  have hl := h.len
  have l0 := sp_len hl 0 (by omega)
  have l1 := sp_len hl 1 (by omega)
  have l2 := sp_len hl 2 (by omega)
  have PX := mid_pt hx0 hx1
  have PY := mid_pt hy0 hy1
  have CA : Hid (∀ X : World, Calls Try.prog 14 #[.agg (cs .i64 t)] X fun e w' => e = .returned (.int .i64 (area t)) ∧ Below X.heap.size X w') := Lib.hid fun X => area_any t h X
  obtain ⟨n, en⟩ : ∃ n, area t = n := ⟨_, rfl⟩
  rw [en] at CA
  have EN := Lib.hid en
  clear en
  by_cases hn : n ≤ 0
  · go_enter Try.func12, Try.ntmps12
    go_wp2_with fail
    refine (CA.out _).mono ?_
    rintro e w1 ⟨rfl, hb⟩
    have z1 : blk w1 (w.heap.size + 1) = some (.cells (cs .i64 no5) 31 (0, 0)) := (blk_below hb _ (by simp)).trans (blk2_1 _ _ _)
    have L1 : Below w.heap.size w w1 := by repeat' (first | (with_reducible exact Below.refl _ _) | (with_reducible refine Rd.below_step ?_ (by assumption)) | (with_reducible refine Rd.below_alloc ?_ _) | (with_reducible refine Rd.below_drewN ?_ _) | (with_reducible refine Below.drew ?_) | (with_reducible refine Below.setCell ?_ ?_ _) | (with_reducible refine Rd.below_setRow ?_ ?_ _) | go_size | (simp only [World.size_alloc]; omega) | omega)
    clear hb
    go_wp2
    refine ret_hit2 rfl (w.heap.size + 1) no5 rfl rfl (blk_setRow_of z1 _) rfl ⟨no_eq (cov_area (by rw [EN.out]; exact hn)), ?_⟩
    exact Rd.below_setRow L1 (by omega) _
  go_enter Try.func12, Try.ntmps12
  go_wp2_with fail
  refine (CA.out _).mono ?_
  rintro e w1 ⟨rfl, hb⟩
  have b1 : blk w1 w.heap.size = some (.cells (cs .i64 t) 24 (0, 0)) := (blk_below hb _ (by simp; omega)).trans (blk2_0 _ _ _)
  have z1 : blk w1 (w.heap.size + 1) = some (.cells (cs .i64 no5) 31 (0, 0)) := (blk_below hb _ (by simp)).trans (blk2_1 _ _ _)
  have L1 : Below w.heap.size w w1 := by repeat' (first | (with_reducible exact Below.refl _ _) | (with_reducible refine Rd.below_step ?_ (by assumption)) | (with_reducible refine Rd.below_alloc ?_ _) | (with_reducible refine Rd.below_drewN ?_ _) | (with_reducible refine Below.drew ?_) | (with_reducible refine Below.setCell ?_ ?_ _) | (with_reducible refine Rd.below_setRow ?_ ?_ _) | go_size | (simp only [World.size_alloc]; omega) | omega)
  have s1 : w.heap.size + 1 < w1.heap.size := blk_lt z1
  clear hb
  go_upto_region 4 with (fail)
  refine Rd.name_world ?_
  intro w2 hw
  have b2 : blk w2 w.heap.size = some (.cells (cs .i64 t) 24 (0, 0)) := by rw [hw]; exact (blk_alloc_old _ _ _ (by omega)).trans b1
  have z2 : blk w2 (w.heap.size + 1) = some (.cells (cs .i64 no5) 31 (0, 0)) := by rw [hw]; exact (blk_alloc_old _ _ _ (by omega)).trans z1
  have h2 : blk w2 w1.heap.size = some (.cells (cs .i64 (hitK t px py 0)) 31 (0, 0)) := by rw [hw]; exact blk_alloc_at _ _ _ rfl
  have L2 : Below w.heap.size w w2 := by
    rw [hw]
    repeat' (first | (with_reducible exact Below.refl _ _) | (with_reducible refine Rd.below_step ?_ (by assumption)) | (with_reducible refine Rd.below_alloc ?_ _) | (with_reducible refine Rd.below_drewN ?_ _) | (with_reducible refine Below.drew ?_) | (with_reducible refine Below.setCell ?_ ?_ _) | (with_reducible refine Rd.below_setRow ?_ ?_ _) | go_size | (simp only [World.size_alloc]; omega) | omega)
  obtain ⟨hp, ehp⟩ : ∃ p, w1.heap.size = p := ⟨_, rfl⟩
  rw [ehp] at s1 h2 ⊢
  have k2 := blk_lt h2
  clear hw ehp b1 z1 L1
  go_wp2_with fail
  go_loopw [28] (fun i X => ∃ k : Nat, k ≤ 3 ∧ i = .int .i64 k ∧ Hid (∀ j, j < k → fT t px py j = true) ∧ Below w.heap.size w X ∧ blk X w.heap.size = some (.cells (cs .i64 t) 24 (0, 0)) ∧ blk X (w.heap.size + 1) = some (.cells (cs .i64 no5) 31 (0, 0)) ∧ blk X hp = some (.cells (cs .i64 (hitK t px py k)) 31 (0, 0)) ∧ hp < X.heap.size) (fun i _ => 3 - (intOf i).toNat)
  case atStart => exact ⟨0, by omega, rfl, Lib.hid fun j hj => absurd hj (by omega), L2, b2, z2, h2, k2⟩
  case round =>
    obtain ⟨k, hk, rfl, HF, hb, HB, HZ, HH, hk1⟩ := hrel
    rename World => Y
    clear b2 z2 h2 L2 k2
    have k3 : w.heap.size < Y.heap.size := by omega
    have k4 : w.heap.size + 1 < Y.heap.size := by omega
    by_cases hlt : k < 3
    · have e3 : k = 0 ∨ k = 1 ∨ k = 2 := by omega
      rcases e3 with rfl | rfl | rfl
      · have CS : Hid (∀ X : World, Calls Try.prog 16 #[.agg (cs .i64 (sp t 1)), .agg (cs .i64 (sp t 2)), .int .i64 (mid px), .int .i64 (mid py)] X fun e w' => e = .returned (.int .i64 (ed0 t (mid px) (mid py))) ∧ Below X.heap.size X w') := Lib.hid fun X => side12 t h _ _ PX PY X
        have CU : Hid (∀ X : World, Calls Try.prog 20 #[.agg (cs .i64 (sp t 1)), .agg (cs .i64 (sp t 2))] X fun e w' => e = .returned (.bool (ul0 t)) ∧ Below X.heap.size X w') := Lib.hid fun X => ul12 t h X
        have HS := Lib.hid (hit_set0 t px py)
        have FK0 : fT t px py 0 = fOf (ed0 t (mid px) (mid py)) (ul0 t) := rfl
        have lB := blk_lt HB
        have lZ := blk_lt HZ
        have lH := blk_lt HH
        go_wp2_with fail
        refine PredS.region_vals (W := Y) [⟨10, 12, 23, cs .i64 [0, 0, 0, 0, 0, 0], (cs .i64 (sp t 1))⟩, ⟨11, 13, 23, cs .i64 [0, 0, 0, 0, 0, 0], (cs .i64 (sp t 2))⟩] (PredS.Of [
            Is (.int .i64 0),
            Is (.int .i64 1),
            Is (.int .i64 1),
            Is (.pointer (some ⟨w.heap.size, 6, none⟩)),
            Is (.agg (cs .i64 (sp t 1))),
            Is (.int .i64 0),
            Is (.int .i64 2),
            Is (.int .i64 2),
            Is (.pointer (some ⟨w.heap.size, 12, none⟩)),
            Is (.agg (cs .i64 (sp t 2))),
            Is undef,
            Is undef,
            Is undef,
            Is undef]) (by kernel_rfl) (by kernel_rfl) (by kernel_rfl) (by kernel_rfl) (PredS.of_stab ?_) ?_ ?_ ?_
        · exact ⟨PredS.is_stab _, PredS.is_stab _, PredS.is_stab _, PredS.is_stab _, PredS.is_stab _, PredS.is_stab _, PredS.is_stab _, PredS.is_stab _, PredS.is_stab _, PredS.is_stab _, PredS.is_stab _, PredS.is_stab _, PredS.is_stab _, PredS.is_stab _, trivial⟩
        · refine ⟨.inr ?_, .inr ?_, .inr ?_, .inr ?_, .inr ?_, .inr ?_, .inr ?_, .inr ?_, .inr ?_, .inr ?_, .inl rfl, .inl rfl, .inl rfl, .inl rfl, trivial⟩
          · intro b X hE hd hn hV
            have r11 : b.tmps[11]?.getD undef = .int .i64 0 := (hn 11 (by kernel_rfl)).trans rfl
            exact Pred.yields_run (v := .int .i64 0) (Pred.wanted_none rfl) (by go_simp) ⟨PredS.ext_refl _ _ _, rfl⟩
          · intro b X hE hd hn hV
            have r31 : b.tmps[31]?.getD undef = .int .i64 0 := hV 0 _ 31 rfl rfl rfl (Pred.waits_near (by kernel_rfl) (by kernel_rfl))
            exact Pred.yields_run (v := .int .i64 1) (Pred.wanted_none rfl) (by go_simp; rfl) ⟨PredS.ext_refl _ _ _, rfl⟩
          · intro b X hE hd hn hV
            have r32 : b.tmps[32]?.getD undef = .int .i64 1 := hV 1 _ 32 rfl rfl rfl (Pred.waits_near (by kernel_rfl) (by kernel_rfl))
            exact Pred.yields_run (v := .int .i64 1) (Pred.wanted_none rfl) (by go_simp) ⟨PredS.ext_refl _ _ _, rfl⟩
          · intro b X hE hd hn hV
            have r3 : b.tmps[3]?.getD undef = .pointer (some ⟨w.heap.size, 0, none⟩) := (hn 3 (by kernel_rfl)).trans rfl
            have r33 : b.tmps[33]?.getD undef = .int .i64 1 := hV 2 _ 33 rfl rfl rfl (Pred.waits_near (by kernel_rfl) (by kernel_rfl))
            exact Pred.yields_run (v := .pointer (some ⟨w.heap.size, 6, none⟩)) (Pred.wanted_none rfl) (by go_simp) ⟨PredS.ext_refl _ _ _, rfl⟩
          · intro b X hE hd hn hV
            have r34 : b.tmps[34]?.getD undef = .pointer (some ⟨w.heap.size, 6, none⟩) := hV 3 _ 34 rfl rfl rfl (Pred.waits_near (by kernel_rfl) (by kernel_rfl))
            have q := (blk_below hE _ lB).trans HB
            exact Pred.yields_run (v := .agg (cs .i64 (sp t 1))) (Pred.wanted_none rfl) (by go_simp) ⟨PredS.ext_refl _ _ _, rfl⟩
          · intro b X hE hd hn hV
            have r11 : b.tmps[11]?.getD undef = .int .i64 0 := (hn 11 (by kernel_rfl)).trans rfl
            exact Pred.yields_run (v := .int .i64 0) (Pred.wanted_none rfl) (by go_simp) ⟨PredS.ext_refl _ _ _, rfl⟩
          · intro b X hE hd hn hV
            have r36 : b.tmps[36]?.getD undef = .int .i64 0 := hV 5 _ 36 rfl rfl rfl (Pred.waits_near (by kernel_rfl) (by kernel_rfl))
            exact Pred.yields_run (v := .int .i64 2) (Pred.wanted_none rfl) (by go_simp; rfl) ⟨PredS.ext_refl _ _ _, rfl⟩
          · intro b X hE hd hn hV
            have r37 : b.tmps[37]?.getD undef = .int .i64 2 := hV 6 _ 37 rfl rfl rfl (Pred.waits_near (by kernel_rfl) (by kernel_rfl))
            exact Pred.yields_run (v := .int .i64 2) (Pred.wanted_none rfl) (by go_simp) ⟨PredS.ext_refl _ _ _, rfl⟩
          · intro b X hE hd hn hV
            have r3 : b.tmps[3]?.getD undef = .pointer (some ⟨w.heap.size, 0, none⟩) := (hn 3 (by kernel_rfl)).trans rfl
            have r38 : b.tmps[38]?.getD undef = .int .i64 2 := hV 7 _ 38 rfl rfl rfl (Pred.waits_near (by kernel_rfl) (by kernel_rfl))
            exact Pred.yields_run (v := .pointer (some ⟨w.heap.size, 12, none⟩)) (Pred.wanted_none rfl) (by go_simp) ⟨PredS.ext_refl _ _ _, rfl⟩
          · intro b X hE hd hn hV
            have r39 : b.tmps[39]?.getD undef = .pointer (some ⟨w.heap.size, 12, none⟩) := hV 8 _ 39 rfl rfl rfl (Pred.waits_near (by kernel_rfl) (by kernel_rfl))
            have q := (blk_below hE _ lB).trans HB
            exact Pred.yields_run (v := .agg (cs .i64 (sp t 2))) (Pred.wanted_none rfl) (by go_simp) ⟨PredS.ext_refl _ _ _, rfl⟩
        · refine ⟨?_, ?_, trivial⟩
          · refine ⟨_, 12, _, rfl, rfl, by simp, rfl, fun ρ w => by first | (go_simp; done) | (go_simp; rfl), rfl, rfl, Pred.waits_near (by kernel_rfl) (by kernel_rfl), fun b X g hE hn hV hp hg hb => ?_⟩
            have r35 : b.tmps[35]?.getD undef = .agg (cs .i64 (sp t 1)) := hV 4 _ 35 rfl rfl rfl (Pred.waits_near (by kernel_rfl) (by kernel_rfl))
            simp only at hb
            exact PredS.yields_skip (Pred.wanted_none rfl) (by go_simp) rfl
          · refine ⟨_, 13, _, rfl, rfl, by simp, rfl, fun ρ w => by first | (go_simp; done) | (go_simp; rfl), rfl, rfl, Pred.waits_near (by kernel_rfl) (by kernel_rfl), fun b X g hE hn hV hp hg hb => ?_⟩
            have r40 : b.tmps[40]?.getD undef = .agg (cs .i64 (sp t 2)) := hV 9 _ 40 rfl rfl rfl (Pred.waits_near (by kernel_rfl) (by kernel_rfl))
            simp only at hb
            exact PredS.yields_skip (Pred.wanted_none rfl) (by go_simp) rfl
        intro v W hE hv hL
        have e0 : v 0 = .int .i64 0 := hv 0 _ 31 rfl rfl rfl
        have e1 : v 1 = .int .i64 1 := hv 1 _ 32 rfl rfl rfl
        have e2 : v 2 = .int .i64 1 := hv 2 _ 33 rfl rfl rfl
        have e3 : v 3 = .pointer (some ⟨w.heap.size, 6, none⟩) := hv 3 _ 34 rfl rfl rfl
        have e4 : v 4 = .agg (cs .i64 (sp t 1)) := hv 4 _ 35 rfl rfl rfl
        have e5 : v 5 = .int .i64 0 := hv 5 _ 36 rfl rfl rfl
        have e6 : v 6 = .int .i64 2 := hv 6 _ 37 rfl rfl rfl
        have e7 : v 7 = .int .i64 2 := hv 7 _ 38 rfl rfl rfl
        have e8 : v 8 = .pointer (some ⟨w.heap.size, 12, none⟩) := hv 8 _ 39 rfl rfl rfl
        have e9 : v 9 = .agg (cs .i64 (sp t 2)) := hv 9 _ 40 rfl rfl rfl
        obtain ⟨⟨g10, e10, o10, q10, n10⟩, ⟨⟨g11, e11, o11, q11, n11⟩, -⟩⟩ := hL
        replace q10 : blk W g10 = some (.cells (cs .i64 (sp t 1)) 23 (0, 0)) := q10
        have d11_10 : g11 ≠ g10 := fun e => n10 _ (by simp) (e11.trans (by rw [e]))
        replace q11 : blk W g11 = some (.cells (cs .i64 (sp t 2)) 23 (0, 0)) := q11
        clear n10 n11
        simp only [Pred.putsF_cons, Pred.putsF_nil, Nat.zero_add, Nat.reduceAdd, e0, e1, e2, e3, e4, e5, e6, e7, e8, e9, e10, e11, Act.put, List.setIfInBounds_toArray, List.set_cons_zero, List.set_cons_succ]
        clear e0 e1 e2 e3 e4 e5 e6 e7 e8 e9 e10 e11 hv
        have bW := (blk_below hE _ lB).trans HB
        have zW := (blk_below hE _ lZ).trans HZ
        have hW5 := (blk_below hE _ lH).trans HH
        have LW : Below w.heap.size w W := hb.trans (hE.mono hb.size)
        have p0 := q10
        have p1 := q11
        clear hE HB HZ HH hb lB lZ lH q10 q11
        trace "A"
        go_wp2_with fail
        refine (CS.out _).mono ?_
        rintro e w4 ⟨rfl, hb4⟩
        replace bW := (blk_below hb4 _ (blk_lt bW)).trans bW
        replace zW := (blk_below hb4 _ (blk_lt zW)).trans zW
        replace hW5 := (blk_below hb4 _ (blk_lt hW5)).trans hW5
        replace p0 := (blk_below hb4 _ (blk_lt p0)).trans p0
        replace p1 := (blk_below hb4 _ (blk_lt p1)).trans p1
        have kW : hp < w4.heap.size := blk_lt hW5
        replace LW : Below w.heap.size w w4 := LW.trans (hb4.mono LW.size)
        clear hb4 CS
        obtain ⟨e, ee⟩ : ∃ e, ed0 t (mid px) (mid py) = e := ⟨_, rfl⟩
        obtain ⟨u, eu⟩ : ∃ u, ul0 t = u := ⟨_, rfl⟩
        rw [ee, eu] at FK0
        rw [ee] at HS ⊢
        rw [eu] at CU
        clear ee eu
        by_cases hE : e < 0
        · have FK : Hid (fT t px py 0 = false) := Lib.hid (FK0.trans (by unfold fOf; rw [decide_eq_false (by omega), decide_eq_false (by omega)]; rfl))
          clear FK0
          go_wp2
          refine ret_hit2 rfl (w.heap.size + 1) no5 rfl rfl (blk_setRow_of zW _) rfl ⟨no_eq (cov_no (k := 0) (by omega) FK.out), ?_⟩
          exact Rd.below_setRow LW (by omega) _
        · by_cases h0 : e = 0
          · subst h0
            cases u
            · have FK : Hid (fT t px py 0 = false) := Lib.hid FK0
              clear FK0
              go_wp2_with fail
              refine (CU.out _).mono ?_
              rintro e w5 ⟨rfl, hb5⟩
              replace zW := (blk_below hb5 _ (blk_lt zW)).trans zW
              replace LW : Below w.heap.size w w5 := LW.trans (hb5.mono LW.size)
              clear hb5 bW hW5 p0 p1
              go_wp2
              refine ret_hit2 rfl (w.heap.size + 1) no5 rfl rfl (blk_setRow_of zW _) rfl ⟨no_eq (cov_no (k := 0) (by omega) FK.out), ?_⟩
              exact Rd.below_setRow LW (by omega) _
            · have FK : Hid (fT t px py 0 = true) := Lib.hid FK0
              clear FK0
              go_wp2_with fail
              refine (CU.out _).mono ?_
              rintro e w5 ⟨rfl, hb5⟩
              replace bW := (blk_below hb5 _ (blk_lt bW)).trans bW
              replace zW := (blk_below hb5 _ (blk_lt zW)).trans zW
              replace hW5 := (blk_below hb5 _ (blk_lt hW5)).trans hW5
              replace kW : hp < w5.heap.size := blk_lt hW5
              replace LW : Below w.heap.size w w5 := LW.trans (hb5.mono LW.size)
              clear hb5 p0 p1
              have c2 : w5.cell? ⟨hp, 2, none⟩ = some (.int .i64 0) := by rw [blk_cell hW5]; rfl
              have f2 := blk_frozen hW5 2
              go_wp2
              refine ⟨⟨1, by omega, by go_num, Lib.hid (f_step HF.out FK.out), Below.setCell LW (show w.heap.size ≤ hp by omega) _, ?_, ?_, ?_, ?_⟩, by simp [intOf]⟩
              · rw [blk_set_far _ _ _ _ (by simp; omega)]; exact bW
              · rw [blk_set_far _ _ _ _ (by simp; omega)]; exact zW
              · exact (blk_set _ _ _ _ _ _ hW5).trans (by rw [HS.out])
              · simpa using kW
          · have FK : Hid (fT t px py 0 = true) := Lib.hid (FK0.trans (by unfold fOf; rw [decide_eq_true (by omega)]; rfl))
            clear FK0
            have d0 : (e == 0) = false := by simpa using h0
            have c2 : w4.cell? ⟨hp, 2, none⟩ = some (.int .i64 0) := by rw [blk_cell hW5]; rfl
            have f2 := blk_frozen hW5 2
            go_wp2
            refine ⟨⟨1, by omega, by go_num, Lib.hid (f_step HF.out FK.out), Below.setCell LW (show w.heap.size ≤ hp by omega) _, ?_, ?_, ?_, ?_⟩, by simp [intOf]⟩
            · rw [blk_set_far _ _ _ _ (by simp; omega)]; exact bW
            · rw [blk_set_far _ _ _ _ (by simp; omega)]; exact zW
            · exact (blk_set _ _ _ _ _ _ hW5).trans (by rw [HS.out])
            · simpa using kW
      · have CS : Hid (∀ X : World, Calls Try.prog 16 #[.agg (cs .i64 (sp t 2)), .agg (cs .i64 (sp t 0)), .int .i64 (mid px), .int .i64 (mid py)] X fun e w' => e = .returned (.int .i64 (ed1 t (mid px) (mid py))) ∧ Below X.heap.size X w') := Lib.hid fun X => side20 t h _ _ PX PY X
        have CU : Hid (∀ X : World, Calls Try.prog 20 #[.agg (cs .i64 (sp t 2)), .agg (cs .i64 (sp t 0))] X fun e w' => e = .returned (.bool (ul1 t)) ∧ Below X.heap.size X w') := Lib.hid fun X => ul20 t h X
        have HS := Lib.hid (hit_set1 t px py)
        have FK0 : fT t px py 1 = fOf (ed1 t (mid px) (mid py)) (ul1 t) := rfl
        have lB := blk_lt HB
        have lZ := blk_lt HZ
        have lH := blk_lt HH
        go_wp2_with fail
        refine PredS.region_vals (W := Y) [⟨10, 12, 23, cs .i64 [0, 0, 0, 0, 0, 0], (cs .i64 (sp t 2))⟩, ⟨11, 13, 23, cs .i64 [0, 0, 0, 0, 0, 0], (cs .i64 (sp t 0))⟩] (PredS.Of [
            Is (.int .i64 1),
            Is (.int .i64 2),
            Is (.int .i64 2),
            Is (.pointer (some ⟨w.heap.size, 12, none⟩)),
            Is (.agg (cs .i64 (sp t 2))),
            Is (.int .i64 1),
            Is (.int .i64 3),
            Is (.int .i64 0),
            Is (.pointer (some ⟨w.heap.size, 0, none⟩)),
            Is (.agg (cs .i64 (sp t 0))),
            Is undef,
            Is undef,
            Is undef,
            Is undef]) (by kernel_rfl) (by kernel_rfl) (by kernel_rfl) (by kernel_rfl) (PredS.of_stab ?_) ?_ ?_ ?_
        · exact ⟨PredS.is_stab _, PredS.is_stab _, PredS.is_stab _, PredS.is_stab _, PredS.is_stab _, PredS.is_stab _, PredS.is_stab _, PredS.is_stab _, PredS.is_stab _, PredS.is_stab _, PredS.is_stab _, PredS.is_stab _, PredS.is_stab _, PredS.is_stab _, trivial⟩
        · refine ⟨.inr ?_, .inr ?_, .inr ?_, .inr ?_, .inr ?_, .inr ?_, .inr ?_, .inr ?_, .inr ?_, .inr ?_, .inl rfl, .inl rfl, .inl rfl, .inl rfl, trivial⟩
          · intro b X hE hd hn hV
            have r11 : b.tmps[11]?.getD undef = .int .i64 1 := (hn 11 (by kernel_rfl)).trans rfl
            exact Pred.yields_run (v := .int .i64 1) (Pred.wanted_none rfl) (by go_simp) ⟨PredS.ext_refl _ _ _, rfl⟩
          · intro b X hE hd hn hV
            have r31 : b.tmps[31]?.getD undef = .int .i64 1 := hV 0 _ 31 rfl rfl rfl (Pred.waits_near (by kernel_rfl) (by kernel_rfl))
            exact Pred.yields_run (v := .int .i64 2) (Pred.wanted_none rfl) (by go_simp; rfl) ⟨PredS.ext_refl _ _ _, rfl⟩
          · intro b X hE hd hn hV
            have r32 : b.tmps[32]?.getD undef = .int .i64 2 := hV 1 _ 32 rfl rfl rfl (Pred.waits_near (by kernel_rfl) (by kernel_rfl))
            exact Pred.yields_run (v := .int .i64 2) (Pred.wanted_none rfl) (by go_simp) ⟨PredS.ext_refl _ _ _, rfl⟩
          · intro b X hE hd hn hV
            have r3 : b.tmps[3]?.getD undef = .pointer (some ⟨w.heap.size, 0, none⟩) := (hn 3 (by kernel_rfl)).trans rfl
            have r33 : b.tmps[33]?.getD undef = .int .i64 2 := hV 2 _ 33 rfl rfl rfl (Pred.waits_near (by kernel_rfl) (by kernel_rfl))
            exact Pred.yields_run (v := .pointer (some ⟨w.heap.size, 12, none⟩)) (Pred.wanted_none rfl) (by go_simp) ⟨PredS.ext_refl _ _ _, rfl⟩
          · intro b X hE hd hn hV
            have r34 : b.tmps[34]?.getD undef = .pointer (some ⟨w.heap.size, 12, none⟩) := hV 3 _ 34 rfl rfl rfl (Pred.waits_near (by kernel_rfl) (by kernel_rfl))
            have q := (blk_below hE _ lB).trans HB
            exact Pred.yields_run (v := .agg (cs .i64 (sp t 2))) (Pred.wanted_none rfl) (by go_simp) ⟨PredS.ext_refl _ _ _, rfl⟩
          · intro b X hE hd hn hV
            have r11 : b.tmps[11]?.getD undef = .int .i64 1 := (hn 11 (by kernel_rfl)).trans rfl
            exact Pred.yields_run (v := .int .i64 1) (Pred.wanted_none rfl) (by go_simp) ⟨PredS.ext_refl _ _ _, rfl⟩
          · intro b X hE hd hn hV
            have r36 : b.tmps[36]?.getD undef = .int .i64 1 := hV 5 _ 36 rfl rfl rfl (Pred.waits_near (by kernel_rfl) (by kernel_rfl))
            exact Pred.yields_run (v := .int .i64 3) (Pred.wanted_none rfl) (by go_simp; rfl) ⟨PredS.ext_refl _ _ _, rfl⟩
          · intro b X hE hd hn hV
            have r37 : b.tmps[37]?.getD undef = .int .i64 3 := hV 6 _ 37 rfl rfl rfl (Pred.waits_near (by kernel_rfl) (by kernel_rfl))
            exact Pred.yields_run (v := .int .i64 0) (Pred.wanted_none rfl) (by go_simp) ⟨PredS.ext_refl _ _ _, rfl⟩
          · intro b X hE hd hn hV
            have r3 : b.tmps[3]?.getD undef = .pointer (some ⟨w.heap.size, 0, none⟩) := (hn 3 (by kernel_rfl)).trans rfl
            have r38 : b.tmps[38]?.getD undef = .int .i64 0 := hV 7 _ 38 rfl rfl rfl (Pred.waits_near (by kernel_rfl) (by kernel_rfl))
            exact Pred.yields_run (v := .pointer (some ⟨w.heap.size, 0, none⟩)) (Pred.wanted_none rfl) (by go_simp) ⟨PredS.ext_refl _ _ _, rfl⟩
          · intro b X hE hd hn hV
            have r39 : b.tmps[39]?.getD undef = .pointer (some ⟨w.heap.size, 0, none⟩) := hV 8 _ 39 rfl rfl rfl (Pred.waits_near (by kernel_rfl) (by kernel_rfl))
            have q := (blk_below hE _ lB).trans HB
            exact Pred.yields_run (v := .agg (cs .i64 (sp t 0))) (Pred.wanted_none rfl) (by go_simp) ⟨PredS.ext_refl _ _ _, rfl⟩
        · refine ⟨?_, ?_, trivial⟩
          · refine ⟨_, 12, _, rfl, rfl, by simp, rfl, fun ρ w => by first | (go_simp; done) | (go_simp; rfl), rfl, rfl, Pred.waits_near (by kernel_rfl) (by kernel_rfl), fun b X g hE hn hV hp hg hb => ?_⟩
            have r35 : b.tmps[35]?.getD undef = .agg (cs .i64 (sp t 2)) := hV 4 _ 35 rfl rfl rfl (Pred.waits_near (by kernel_rfl) (by kernel_rfl))
            simp only at hb
            exact PredS.yields_skip (Pred.wanted_none rfl) (by go_simp) rfl
          · refine ⟨_, 13, _, rfl, rfl, by simp, rfl, fun ρ w => by first | (go_simp; done) | (go_simp; rfl), rfl, rfl, Pred.waits_near (by kernel_rfl) (by kernel_rfl), fun b X g hE hn hV hp hg hb => ?_⟩
            have r40 : b.tmps[40]?.getD undef = .agg (cs .i64 (sp t 0)) := hV 9 _ 40 rfl rfl rfl (Pred.waits_near (by kernel_rfl) (by kernel_rfl))
            simp only at hb
            exact PredS.yields_skip (Pred.wanted_none rfl) (by go_simp) rfl
        intro v W hE hv hL
        have e0 : v 0 = .int .i64 1 := hv 0 _ 31 rfl rfl rfl
        have e1 : v 1 = .int .i64 2 := hv 1 _ 32 rfl rfl rfl
        have e2 : v 2 = .int .i64 2 := hv 2 _ 33 rfl rfl rfl
        have e3 : v 3 = .pointer (some ⟨w.heap.size, 12, none⟩) := hv 3 _ 34 rfl rfl rfl
        have e4 : v 4 = .agg (cs .i64 (sp t 2)) := hv 4 _ 35 rfl rfl rfl
        have e5 : v 5 = .int .i64 1 := hv 5 _ 36 rfl rfl rfl
        have e6 : v 6 = .int .i64 3 := hv 6 _ 37 rfl rfl rfl
        have e7 : v 7 = .int .i64 0 := hv 7 _ 38 rfl rfl rfl
        have e8 : v 8 = .pointer (some ⟨w.heap.size, 0, none⟩) := hv 8 _ 39 rfl rfl rfl
        have e9 : v 9 = .agg (cs .i64 (sp t 0)) := hv 9 _ 40 rfl rfl rfl
        obtain ⟨⟨g10, e10, o10, q10, n10⟩, ⟨⟨g11, e11, o11, q11, n11⟩, -⟩⟩ := hL
        replace q10 : blk W g10 = some (.cells (cs .i64 (sp t 2)) 23 (0, 0)) := q10
        have d11_10 : g11 ≠ g10 := fun e => n10 _ (by simp) (e11.trans (by rw [e]))
        replace q11 : blk W g11 = some (.cells (cs .i64 (sp t 0)) 23 (0, 0)) := q11
        clear n10 n11
        simp only [Pred.putsF_cons, Pred.putsF_nil, Nat.zero_add, Nat.reduceAdd, e0, e1, e2, e3, e4, e5, e6, e7, e8, e9, e10, e11, Act.put, List.setIfInBounds_toArray, List.set_cons_zero, List.set_cons_succ]
        clear e0 e1 e2 e3 e4 e5 e6 e7 e8 e9 e10 e11 hv
        have bW := (blk_below hE _ lB).trans HB
        have zW := (blk_below hE _ lZ).trans HZ
        have hW5 := (blk_below hE _ lH).trans HH
        have LW : Below w.heap.size w W := hb.trans (hE.mono hb.size)
        have p0 := q10
        have p1 := q11
        clear hE HB HZ HH hb lB lZ lH q10 q11
        trace "A"
        go_wp2_with fail
        refine (CS.out _).mono ?_
        rintro e w4 ⟨rfl, hb4⟩
        replace bW := (blk_below hb4 _ (blk_lt bW)).trans bW
        replace zW := (blk_below hb4 _ (blk_lt zW)).trans zW
        replace hW5 := (blk_below hb4 _ (blk_lt hW5)).trans hW5
        replace p0 := (blk_below hb4 _ (blk_lt p0)).trans p0
        replace p1 := (blk_below hb4 _ (blk_lt p1)).trans p1
        have kW : hp < w4.heap.size := blk_lt hW5
        replace LW : Below w.heap.size w w4 := LW.trans (hb4.mono LW.size)
        clear hb4 CS
        obtain ⟨e, ee⟩ : ∃ e, ed1 t (mid px) (mid py) = e := ⟨_, rfl⟩
        obtain ⟨u, eu⟩ : ∃ u, ul1 t = u := ⟨_, rfl⟩
        rw [ee, eu] at FK0
        rw [ee] at HS ⊢
        rw [eu] at CU
        clear ee eu
        by_cases hE : e < 0
        · have FK : Hid (fT t px py 1 = false) := Lib.hid (FK0.trans (by unfold fOf; rw [decide_eq_false (by omega), decide_eq_false (by omega)]; rfl))
          clear FK0
          go_wp2
          refine ret_hit2 rfl (w.heap.size + 1) no5 rfl rfl (blk_setRow_of zW _) rfl ⟨no_eq (cov_no (k := 1) (by omega) FK.out), ?_⟩
          exact Rd.below_setRow LW (by omega) _
        · by_cases h0 : e = 0
          · subst h0
            cases u
            · have FK : Hid (fT t px py 1 = false) := Lib.hid FK0
              clear FK0
              go_wp2_with fail
              refine (CU.out _).mono ?_
              rintro e w5 ⟨rfl, hb5⟩
              replace zW := (blk_below hb5 _ (blk_lt zW)).trans zW
              replace LW : Below w.heap.size w w5 := LW.trans (hb5.mono LW.size)
              clear hb5 bW hW5 p0 p1
              go_wp2
              refine ret_hit2 rfl (w.heap.size + 1) no5 rfl rfl (blk_setRow_of zW _) rfl ⟨no_eq (cov_no (k := 1) (by omega) FK.out), ?_⟩
              exact Rd.below_setRow LW (by omega) _
            · have FK : Hid (fT t px py 1 = true) := Lib.hid FK0
              clear FK0
              go_wp2_with fail
              refine (CU.out _).mono ?_
              rintro e w5 ⟨rfl, hb5⟩
              replace bW := (blk_below hb5 _ (blk_lt bW)).trans bW
              replace zW := (blk_below hb5 _ (blk_lt zW)).trans zW
              replace hW5 := (blk_below hb5 _ (blk_lt hW5)).trans hW5
              replace kW : hp < w5.heap.size := blk_lt hW5
              replace LW : Below w.heap.size w w5 := LW.trans (hb5.mono LW.size)
              clear hb5 p0 p1
              have c2 : w5.cell? ⟨hp, 3, none⟩ = some (.int .i64 0) := by rw [blk_cell hW5]; rfl
              have f2 := blk_frozen hW5 3
              go_wp2
              refine ⟨⟨2, by omega, by go_num, Lib.hid (f_step HF.out FK.out), Below.setCell LW (show w.heap.size ≤ hp by omega) _, ?_, ?_, ?_, ?_⟩, by simp [intOf]⟩
              · rw [blk_set_far _ _ _ _ (by simp; omega)]; exact bW
              · rw [blk_set_far _ _ _ _ (by simp; omega)]; exact zW
              · exact (blk_set _ _ _ _ _ _ hW5).trans (by rw [HS.out])
              · simpa using kW
          · have FK : Hid (fT t px py 1 = true) := Lib.hid (FK0.trans (by unfold fOf; rw [decide_eq_true (by omega)]; rfl))
            clear FK0
            have d0 : (e == 0) = false := by simpa using h0
            have c2 : w4.cell? ⟨hp, 3, none⟩ = some (.int .i64 0) := by rw [blk_cell hW5]; rfl
            have f2 := blk_frozen hW5 3
            go_wp2
            refine ⟨⟨2, by omega, by go_num, Lib.hid (f_step HF.out FK.out), Below.setCell LW (show w.heap.size ≤ hp by omega) _, ?_, ?_, ?_, ?_⟩, by simp [intOf]⟩
            · rw [blk_set_far _ _ _ _ (by simp; omega)]; exact bW
            · rw [blk_set_far _ _ _ _ (by simp; omega)]; exact zW
            · exact (blk_set _ _ _ _ _ _ hW5).trans (by rw [HS.out])
            · simpa using kW
      · have CS : Hid (∀ X : World, Calls Try.prog 16 #[.agg (cs .i64 (sp t 0)), .agg (cs .i64 (sp t 1)), .int .i64 (mid px), .int .i64 (mid py)] X fun e w' => e = .returned (.int .i64 (ed2 t (mid px) (mid py))) ∧ Below X.heap.size X w') := Lib.hid fun X => side01 t h _ _ PX PY X
        have CU : Hid (∀ X : World, Calls Try.prog 20 #[.agg (cs .i64 (sp t 0)), .agg (cs .i64 (sp t 1))] X fun e w' => e = .returned (.bool (ul2 t)) ∧ Below X.heap.size X w') := Lib.hid fun X => ul01 t h X
        have HS := Lib.hid (hit_set2 t px py)
        have FK0 : fT t px py 2 = fOf (ed2 t (mid px) (mid py)) (ul2 t) := rfl
        have lB := blk_lt HB
        have lZ := blk_lt HZ
        have lH := blk_lt HH
        go_wp2_with fail
        refine PredS.region_vals (W := Y) [⟨10, 12, 23, cs .i64 [0, 0, 0, 0, 0, 0], (cs .i64 (sp t 0))⟩, ⟨11, 13, 23, cs .i64 [0, 0, 0, 0, 0, 0], (cs .i64 (sp t 1))⟩] (PredS.Of [
            Is (.int .i64 2),
            Is (.int .i64 3),
            Is (.int .i64 0),
            Is (.pointer (some ⟨w.heap.size, 0, none⟩)),
            Is (.agg (cs .i64 (sp t 0))),
            Is (.int .i64 2),
            Is (.int .i64 4),
            Is (.int .i64 1),
            Is (.pointer (some ⟨w.heap.size, 6, none⟩)),
            Is (.agg (cs .i64 (sp t 1))),
            Is undef,
            Is undef,
            Is undef,
            Is undef]) (by kernel_rfl) (by kernel_rfl) (by kernel_rfl) (by kernel_rfl) (PredS.of_stab ?_) ?_ ?_ ?_
        · exact ⟨PredS.is_stab _, PredS.is_stab _, PredS.is_stab _, PredS.is_stab _, PredS.is_stab _, PredS.is_stab _, PredS.is_stab _, PredS.is_stab _, PredS.is_stab _, PredS.is_stab _, PredS.is_stab _, PredS.is_stab _, PredS.is_stab _, PredS.is_stab _, trivial⟩
        · refine ⟨.inr ?_, .inr ?_, .inr ?_, .inr ?_, .inr ?_, .inr ?_, .inr ?_, .inr ?_, .inr ?_, .inr ?_, .inl rfl, .inl rfl, .inl rfl, .inl rfl, trivial⟩
          · intro b X hE hd hn hV
            have r11 : b.tmps[11]?.getD undef = .int .i64 2 := (hn 11 (by kernel_rfl)).trans rfl
            exact Pred.yields_run (v := .int .i64 2) (Pred.wanted_none rfl) (by go_simp) ⟨PredS.ext_refl _ _ _, rfl⟩
          · intro b X hE hd hn hV
            have r31 : b.tmps[31]?.getD undef = .int .i64 2 := hV 0 _ 31 rfl rfl rfl (Pred.waits_near (by kernel_rfl) (by kernel_rfl))
            exact Pred.yields_run (v := .int .i64 3) (Pred.wanted_none rfl) (by go_simp; rfl) ⟨PredS.ext_refl _ _ _, rfl⟩
          · intro b X hE hd hn hV
            have r32 : b.tmps[32]?.getD undef = .int .i64 3 := hV 1 _ 32 rfl rfl rfl (Pred.waits_near (by kernel_rfl) (by kernel_rfl))
            exact Pred.yields_run (v := .int .i64 0) (Pred.wanted_none rfl) (by go_simp) ⟨PredS.ext_refl _ _ _, rfl⟩
          · intro b X hE hd hn hV
            have r3 : b.tmps[3]?.getD undef = .pointer (some ⟨w.heap.size, 0, none⟩) := (hn 3 (by kernel_rfl)).trans rfl
            have r33 : b.tmps[33]?.getD undef = .int .i64 0 := hV 2 _ 33 rfl rfl rfl (Pred.waits_near (by kernel_rfl) (by kernel_rfl))
            exact Pred.yields_run (v := .pointer (some ⟨w.heap.size, 0, none⟩)) (Pred.wanted_none rfl) (by go_simp) ⟨PredS.ext_refl _ _ _, rfl⟩
          · intro b X hE hd hn hV
            have r34 : b.tmps[34]?.getD undef = .pointer (some ⟨w.heap.size, 0, none⟩) := hV 3 _ 34 rfl rfl rfl (Pred.waits_near (by kernel_rfl) (by kernel_rfl))
            have q := (blk_below hE _ lB).trans HB
            exact Pred.yields_run (v := .agg (cs .i64 (sp t 0))) (Pred.wanted_none rfl) (by go_simp) ⟨PredS.ext_refl _ _ _, rfl⟩
          · intro b X hE hd hn hV
            have r11 : b.tmps[11]?.getD undef = .int .i64 2 := (hn 11 (by kernel_rfl)).trans rfl
            exact Pred.yields_run (v := .int .i64 2) (Pred.wanted_none rfl) (by go_simp) ⟨PredS.ext_refl _ _ _, rfl⟩
          · intro b X hE hd hn hV
            have r36 : b.tmps[36]?.getD undef = .int .i64 2 := hV 5 _ 36 rfl rfl rfl (Pred.waits_near (by kernel_rfl) (by kernel_rfl))
            exact Pred.yields_run (v := .int .i64 4) (Pred.wanted_none rfl) (by go_simp; rfl) ⟨PredS.ext_refl _ _ _, rfl⟩
          · intro b X hE hd hn hV
            have r37 : b.tmps[37]?.getD undef = .int .i64 4 := hV 6 _ 37 rfl rfl rfl (Pred.waits_near (by kernel_rfl) (by kernel_rfl))
            exact Pred.yields_run (v := .int .i64 1) (Pred.wanted_none rfl) (by go_simp) ⟨PredS.ext_refl _ _ _, rfl⟩
          · intro b X hE hd hn hV
            have r3 : b.tmps[3]?.getD undef = .pointer (some ⟨w.heap.size, 0, none⟩) := (hn 3 (by kernel_rfl)).trans rfl
            have r38 : b.tmps[38]?.getD undef = .int .i64 1 := hV 7 _ 38 rfl rfl rfl (Pred.waits_near (by kernel_rfl) (by kernel_rfl))
            exact Pred.yields_run (v := .pointer (some ⟨w.heap.size, 6, none⟩)) (Pred.wanted_none rfl) (by go_simp) ⟨PredS.ext_refl _ _ _, rfl⟩
          · intro b X hE hd hn hV
            have r39 : b.tmps[39]?.getD undef = .pointer (some ⟨w.heap.size, 6, none⟩) := hV 8 _ 39 rfl rfl rfl (Pred.waits_near (by kernel_rfl) (by kernel_rfl))
            have q := (blk_below hE _ lB).trans HB
            exact Pred.yields_run (v := .agg (cs .i64 (sp t 1))) (Pred.wanted_none rfl) (by go_simp) ⟨PredS.ext_refl _ _ _, rfl⟩
        · refine ⟨?_, ?_, trivial⟩
          · refine ⟨_, 12, _, rfl, rfl, by simp, rfl, fun ρ w => by first | (go_simp; done) | (go_simp; rfl), rfl, rfl, Pred.waits_near (by kernel_rfl) (by kernel_rfl), fun b X g hE hn hV hp hg hb => ?_⟩
            have r35 : b.tmps[35]?.getD undef = .agg (cs .i64 (sp t 0)) := hV 4 _ 35 rfl rfl rfl (Pred.waits_near (by kernel_rfl) (by kernel_rfl))
            simp only at hb
            exact PredS.yields_skip (Pred.wanted_none rfl) (by go_simp) rfl
          · refine ⟨_, 13, _, rfl, rfl, by simp, rfl, fun ρ w => by first | (go_simp; done) | (go_simp; rfl), rfl, rfl, Pred.waits_near (by kernel_rfl) (by kernel_rfl), fun b X g hE hn hV hp hg hb => ?_⟩
            have r40 : b.tmps[40]?.getD undef = .agg (cs .i64 (sp t 1)) := hV 9 _ 40 rfl rfl rfl (Pred.waits_near (by kernel_rfl) (by kernel_rfl))
            simp only at hb
            exact PredS.yields_skip (Pred.wanted_none rfl) (by go_simp) rfl
        intro v W hE hv hL
        have e0 : v 0 = .int .i64 2 := hv 0 _ 31 rfl rfl rfl
        have e1 : v 1 = .int .i64 3 := hv 1 _ 32 rfl rfl rfl
        have e2 : v 2 = .int .i64 0 := hv 2 _ 33 rfl rfl rfl
        have e3 : v 3 = .pointer (some ⟨w.heap.size, 0, none⟩) := hv 3 _ 34 rfl rfl rfl
        have e4 : v 4 = .agg (cs .i64 (sp t 0)) := hv 4 _ 35 rfl rfl rfl
        have e5 : v 5 = .int .i64 2 := hv 5 _ 36 rfl rfl rfl
        have e6 : v 6 = .int .i64 4 := hv 6 _ 37 rfl rfl rfl
        have e7 : v 7 = .int .i64 1 := hv 7 _ 38 rfl rfl rfl
        have e8 : v 8 = .pointer (some ⟨w.heap.size, 6, none⟩) := hv 8 _ 39 rfl rfl rfl
        have e9 : v 9 = .agg (cs .i64 (sp t 1)) := hv 9 _ 40 rfl rfl rfl
        obtain ⟨⟨g10, e10, o10, q10, n10⟩, ⟨⟨g11, e11, o11, q11, n11⟩, -⟩⟩ := hL
        replace q10 : blk W g10 = some (.cells (cs .i64 (sp t 0)) 23 (0, 0)) := q10
        have d11_10 : g11 ≠ g10 := fun e => n10 _ (by simp) (e11.trans (by rw [e]))
        replace q11 : blk W g11 = some (.cells (cs .i64 (sp t 1)) 23 (0, 0)) := q11
        clear n10 n11
        simp only [Pred.putsF_cons, Pred.putsF_nil, Nat.zero_add, Nat.reduceAdd, e0, e1, e2, e3, e4, e5, e6, e7, e8, e9, e10, e11, Act.put, List.setIfInBounds_toArray, List.set_cons_zero, List.set_cons_succ]
        clear e0 e1 e2 e3 e4 e5 e6 e7 e8 e9 e10 e11 hv
        have bW := (blk_below hE _ lB).trans HB
        have zW := (blk_below hE _ lZ).trans HZ
        have hW5 := (blk_below hE _ lH).trans HH
        have LW : Below w.heap.size w W := hb.trans (hE.mono hb.size)
        have p0 := q10
        have p1 := q11
        clear hE HB HZ HH hb lB lZ lH q10 q11
        trace "A"
        go_wp2_with fail
        refine (CS.out _).mono ?_
        rintro e w4 ⟨rfl, hb4⟩
        replace bW := (blk_below hb4 _ (blk_lt bW)).trans bW
        replace zW := (blk_below hb4 _ (blk_lt zW)).trans zW
        replace hW5 := (blk_below hb4 _ (blk_lt hW5)).trans hW5
        replace p0 := (blk_below hb4 _ (blk_lt p0)).trans p0
        replace p1 := (blk_below hb4 _ (blk_lt p1)).trans p1
        have kW : hp < w4.heap.size := blk_lt hW5
        replace LW : Below w.heap.size w w4 := LW.trans (hb4.mono LW.size)
        clear hb4 CS
        obtain ⟨e, ee⟩ : ∃ e, ed2 t (mid px) (mid py) = e := ⟨_, rfl⟩
        obtain ⟨u, eu⟩ : ∃ u, ul2 t = u := ⟨_, rfl⟩
        rw [ee, eu] at FK0
        rw [ee] at HS ⊢
        rw [eu] at CU
        clear ee eu
        by_cases hE : e < 0
        · have FK : Hid (fT t px py 2 = false) := Lib.hid (FK0.trans (by unfold fOf; rw [decide_eq_false (by omega), decide_eq_false (by omega)]; rfl))
          clear FK0
          go_wp2
          refine ret_hit2 rfl (w.heap.size + 1) no5 rfl rfl (blk_setRow_of zW _) rfl ⟨no_eq (cov_no (k := 2) (by omega) FK.out), ?_⟩
          exact Rd.below_setRow LW (by omega) _
        · by_cases h0 : e = 0
          · subst h0
            cases u
            · have FK : Hid (fT t px py 2 = false) := Lib.hid FK0
              clear FK0
              go_wp2_with fail
              refine (CU.out _).mono ?_
              rintro e w5 ⟨rfl, hb5⟩
              replace zW := (blk_below hb5 _ (blk_lt zW)).trans zW
              replace LW : Below w.heap.size w w5 := LW.trans (hb5.mono LW.size)
              clear hb5 bW hW5 p0 p1
              go_wp2
              refine ret_hit2 rfl (w.heap.size + 1) no5 rfl rfl (blk_setRow_of zW _) rfl ⟨no_eq (cov_no (k := 2) (by omega) FK.out), ?_⟩
              exact Rd.below_setRow LW (by omega) _
            · have FK : Hid (fT t px py 2 = true) := Lib.hid FK0
              clear FK0
              go_wp2_with fail
              refine (CU.out _).mono ?_
              rintro e w5 ⟨rfl, hb5⟩
              replace bW := (blk_below hb5 _ (blk_lt bW)).trans bW
              replace zW := (blk_below hb5 _ (blk_lt zW)).trans zW
              replace hW5 := (blk_below hb5 _ (blk_lt hW5)).trans hW5
              replace kW : hp < w5.heap.size := blk_lt hW5
              replace LW : Below w.heap.size w w5 := LW.trans (hb5.mono LW.size)
              clear hb5 p0 p1
              have c2 : w5.cell? ⟨hp, 4, none⟩ = some (.int .i64 0) := by rw [blk_cell hW5]; rfl
              have f2 := blk_frozen hW5 4
              go_wp2
              refine ⟨⟨3, by omega, by go_num, Lib.hid (f_step HF.out FK.out), Below.setCell LW (show w.heap.size ≤ hp by omega) _, ?_, ?_, ?_, ?_⟩, by simp [intOf]⟩
              · rw [blk_set_far _ _ _ _ (by simp; omega)]; exact bW
              · rw [blk_set_far _ _ _ _ (by simp; omega)]; exact zW
              · exact (blk_set _ _ _ _ _ _ hW5).trans (by rw [HS.out])
              · simpa using kW
          · have FK : Hid (fT t px py 2 = true) := Lib.hid (FK0.trans (by unfold fOf; rw [decide_eq_true (by omega)]; rfl))
            clear FK0
            have d0 : (e == 0) = false := by simpa using h0
            have c2 : w4.cell? ⟨hp, 4, none⟩ = some (.int .i64 0) := by rw [blk_cell hW5]; rfl
            have f2 := blk_frozen hW5 4
            go_wp2
            refine ⟨⟨3, by omega, by go_num, Lib.hid (f_step HF.out FK.out), Below.setCell LW (show w.heap.size ≤ hp by omega) _, ?_, ?_, ?_, ?_⟩, by simp [intOf]⟩
            · rw [blk_set_far _ _ _ _ (by simp; omega)]; exact bW
            · rw [blk_set_far _ _ _ _ (by simp; omega)]; exact zW
            · exact (blk_set _ _ _ _ _ _ hW5).trans (by rw [HS.out])
            · simpa using kW
    · obtain rfl : k = 3 := by omega
      have h5 : (hitK t px py 3).length = 5 := rfl
      go_wp2
      refine ret_hit2 rfl (w.heap.size + 1) (hitL t px py) rfl rfl (blk_setRow_of HZ _) rfl ⟨yes_eq (cov_yes (by rw [EN.out]; omega) HF.out), ?_⟩
      exact Rd.below_setRow hb (by omega) _
end Go.Proofs.Ythkfnjblmilgnaa.EdB

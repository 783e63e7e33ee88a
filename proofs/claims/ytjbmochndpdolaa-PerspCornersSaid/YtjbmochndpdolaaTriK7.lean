/-
  Covers, the document's own: what is known where it says yes.
-/
import Derived.Test.YtjbmochndpdolaaTriH
import Derived.BigGuard
import Derived.BigRegion
namespace Go.Proofs.Ytjbmochndpdolaa.TriK
open Go.RowKit FixA Num Rd Go.Proofs.Ytjbmochndpdolaa.Row TriA TriB TriC TriD TriE TriF TriG TriH
set_option linter.unusedVariables false
set_option linter.unusedSimpArgs false
set_option maxRecDepth 10000
theorem store_spot (x v : Value) : Instr.storeAt 23 x v = storeRow 23 x v := rfl
theorem run_store_spot (g o : Nat) (c : Array Value) (W : World) : (storeRow 23 (.pointer (some ⟨g, o, none⟩)) (.agg c)).run Try.prog W = rowStore Try.prog 23 6 g o c W := run_storeRow (by kernel_rfl) g o c W
attribute [local go_sem ↓] load_tri store_tri load_w3 store_w3 load_spot load_pl store_pl
attribute [local go_sem] one_int one_bool run_load_pl run_store_pl run_load_spot run_load_tri run_load_w3 run_store_tri run_store_w3 rowLoad_eq rowStore_eq midLoad_eq ext0 ext1 ext2 blk_alloc_at blk_alloc_old blk_drew blk_drewN blk_set_far blk_set_far' blk_grow setRow_alloc_at setRow_alloc_old setRow_drew setRow_drewN all_map
attribute [local go_sem high] run_maxT run_minT
attribute [local go_sem] eq_w3 eq_w3_lit fold_mid run_store_spot
attribute [local go_sem ↓] store_spot

def ed (t : List Int) (x y : Int) (k : Nat) : Int := g (edL t x y) k
theorem two_old {w : World} {A B : Obj} {k : Nat} {o : Option Obj} (h : blk w k = o) (hk : k < w.heap.size) : blk ((w.alloc A).alloc B) k = o := (blk_alloc_old _ _ _ (by simp; omega)).trans ((blk_alloc_old _ _ _ hk).trans h)
theorem name_then {c : Act → World → Prop} {Q : Exit → Act → World → Prop} {e : Exit} {a : Act} {w : World} (h : ∀ W, W = w → Exit.then c Q e a W) : Exit.then c Q e a w := h w rfl
theorem in_step {t : List Int} {x y : Int} {k : Nat} (h : ∀ j, j < k → 0 ≤ ed t x y j) (h2 : 0 ≤ ed t x y k) : ∀ j, j < k + 1 → 0 ≤ ed t x y j := by
  intro j hj
  by_cases e : j = k
  · subst e; exact h2
  · exact h j (by omega)
set_option maxHeartbeats 4000000 in
theorem covers_any (t : List Int) (h : Tri t) (ha : 1 ≤ area t) (px py : Int) (hx : P31 px) (hy : P31 py) (w : World) :
    Calls Try.prog 16 #[.agg (cs .i64 t), .int .i64 px, .int .i64 py] w fun e w' =>
      (e = .returned (.tuple #[.agg (cs .i64 [0, 0, 0]), .bool false]) ∨ e = .returned (.tuple #[.agg (cs .i64 (edL t (mid px) (mid py))), .bool true]) ∧ 0 ≤ ed0 t (mid px) (mid py) ∧ 0 ≤ ed1 t (mid px) (mid py) ∧ 0 ≤ ed2 t (mid px) (mid py)) ∧ Below w.heap.size w w' := by
  have hl := h.len
  have l0 := sp_len hl 0 (by omega)
  have l1 := sp_len hl 1 (by omega)
  have l2 := sp_len hl 2 (by omega)
  have m1 := mid_bd hx.1 hx.2
  have m2 := mid_bd hy.1 hy.2
  have hX : Pt (mid px) := by omega
  have hY : Pt (mid py) := by omega
  go_enter Try.func16, Try.ntmps16
  go_wp2_with fail
  refine (rarea_any t h _).mono ?_
  rintro e w1 ⟨rfl, hb⟩
  have hs := hb.size
  simp only [World.size_alloc] at hs
  have b1 : blk w1 w.heap.size = some (.cells (cs .i64 t) 24 (0, 0)) := (blk_below hb _ (by first | omega | (simp only [World.size_alloc]; omega))).trans (blk2_0 _ _ _)
  have z1 : blk w1 (w.heap.size + 1) = some (.cells (cs .i64 [0, 0, 0]) 27 (0, 0)) := (blk_below hb _ (by first | omega | (simp only [World.size_alloc]; omega))).trans (blk2_1 _ _ _)
  have L1 : Below w.heap.size w w1 := by repeat' (first | (with_reducible exact Below.refl _ _) | (with_reducible refine Rd.below_step ?_ (by assumption)) | (with_reducible refine Rd.below_alloc ?_ _) | (with_reducible refine Rd.below_drewN ?_ _) | (with_reducible refine Below.drew ?_) | (with_reducible refine Below.setCell ?_ ?_ _) | (with_reducible refine Rd.below_setRow ?_ ?_ _) | go_size | (simp only [World.size_alloc]; omega) | omega)
  have k0 : w.heap.size < w1.heap.size := by omega
  clear hb
  go_wp2_with fail
  refine (redges_any t h (mid px) (mid py) hX hY _).mono ?_
  rintro e w2 ⟨rfl, hb⟩
  have hs2 := hb.size
  have b2 := (blk_below hb _ k0).trans b1
  have z2 := (blk_below hb _ (by omega)).trans z1
  have L2 : Below w.heap.size w w2 := by repeat' (first | (with_reducible exact Below.refl _ _) | (with_reducible refine Rd.below_step ?_ (by assumption)) | (with_reducible refine Rd.below_alloc ?_ _) | (with_reducible refine Rd.below_drewN ?_ _) | (with_reducible refine Below.drew ?_) | (with_reducible refine Below.setCell ?_ ?_ _) | (with_reducible refine Rd.below_setRow ?_ ?_ _) | go_size | (simp only [World.size_alloc]; omega) | omega)
  have k1 : w.heap.size < w2.heap.size := by omega
  have k2 : w.heap.size + 1 < w2.heap.size := by omega
  clear hb b1 z1 L1 m1 m2
  go_wp2_with fail
  go_loopw [9] (fun i wr => ∃ k : Nat, k ≤ 3 ∧ i = .int .i64 k ∧ Hid (∀ j, j < k → 0 ≤ ed t (mid px) (mid py) j) ∧ Below w.heap.size w wr ∧ blk wr w.heap.size = some (.cells (cs .i64 t) 24 (0, 0)) ∧ blk wr (w.heap.size + 1) = some (.cells (cs .i64 [0, 0, 0]) 27 (0, 0)) ∧ blk wr w2.heap.size = some (.cells (cs .i64 (edL t (mid px) (mid py))) 27 (0, 0)) ∧ w2.heap.size < wr.heap.size) (fun i _ => 3 - (intOf i).toNat)
  case atStart => exact ⟨0, by omega, rfl, fun j hj => absurd hj (by omega), by repeat' (first | (with_reducible exact Below.refl _ _) | (with_reducible refine Rd.below_step ?_ (by assumption)) | (with_reducible refine Rd.below_alloc ?_ _) | (with_reducible refine Rd.below_drewN ?_ _) | (with_reducible refine Below.drew ?_) | (with_reducible refine Below.setCell ?_ ?_ _) | (with_reducible refine Rd.below_setRow ?_ ?_ _) | go_size | (simp only [World.size_alloc]; omega) | omega), (blk_alloc_old _ _ _ k1).trans b2, (blk_alloc_old _ _ _ k2).trans z2, blk_alloc_at _ _ _ rfl, by simp⟩
  case round =>
    obtain ⟨k, hk, rfl, HF, hb, HB, HZ, HE, hk1⟩ := hrel
    have k3 : w.heap.size < wr.heap.size := by omega
    have k4 : w.heap.size + 1 < wr.heap.size := by omega
    clear b2 z2 L2
    by_cases hlt : k < 3
    · have e3 : k = 0 ∨ k = 1 ∨ k = 2 := by omega
      rcases e3 with rfl | rfl | rfl
      · go_wp2
        go_big_region
        · refine name_then ?_
          intro W hW
          have bW : blk W w.heap.size = some (.cells (cs .i64 t) 24 (0, 0)) := by rw [hW, blk_drew]; exact two_old HB k3
          have zW : blk W (w.heap.size + 1) = some (.cells (cs .i64 [0, 0, 0]) 27 (0, 0)) := by rw [hW, blk_drew]; exact two_old HZ k4
          have eW : blk W w2.heap.size = some (.cells (cs .i64 (edL t (mid px) (mid py))) 27 (0, 0)) := by rw [hW, blk_drew]; exact two_old HE hk1
          have p0 : blk W wr.heap.size = some (.cells (cs .i64 (sp t 1)) 23 (0, 0)) := by rw [hW, blk_drew]; exact blk2_0 _ _ _
          have p1 : blk W (wr.heap.size + 1) = some (.cells (cs .i64 (sp t 2)) 23 (0, 0)) := by rw [hW, blk_drew]; exact blk2_1 _ _ _
          have kW : w2.heap.size < W.heap.size := by rw [hW]; simp; omega
          have LW : Below w.heap.size w W := by
            rw [hW]
            repeat' (first | (with_reducible exact Below.refl _ _) | (with_reducible refine Rd.below_step ?_ (by assumption)) | (with_reducible refine Rd.below_alloc ?_ _) | (with_reducible refine Rd.below_drewN ?_ _) | (with_reducible refine Below.drew ?_) | (with_reducible refine Below.setCell ?_ ?_ _) | (with_reducible refine Rd.below_setRow ?_ ?_ _) | go_size | (simp only [World.size_alloc]; omega) | omega)
          clear hW
          have c0 : W.cell? ⟨w2.heap.size, 0, none⟩ = some (.int .i64 (ed0 t (mid px) (mid py))) := by rw [blk_cell eW]; rfl
          have xa : W.cell? ⟨wr.heap.size, 0, none⟩ = some (.int .i64 (g (sp t 1) 0)) := by rw [blk_cell p0]; exact cs_at (at_of (by omega))
          have ya : W.cell? ⟨wr.heap.size, 1, none⟩ = some (.int .i64 (g (sp t 1) 1)) := by rw [blk_cell p0]; exact cs_at (at_of (by omega))
          have xb : W.cell? ⟨wr.heap.size + 1, 0, none⟩ = some (.int .i64 (g (sp t 2) 0)) := by rw [blk_cell p1]; exact cs_at (at_of (by omega))
          have yb : W.cell? ⟨wr.heap.size + 1, 1, none⟩ = some (.int .i64 (g (sp t 2) 1)) := by rw [blk_cell p1]; exact cs_at (at_of (by omega))
          clear p0 p1 HB HZ HE hb
          by_cases hE : ed0 t (mid px) (mid py) < 0
          · have dE : decide (ed0 t (mid px) (mid py) < 0) = true := by simpa using hE
            clear hE
            by_cases hY : g (sp t 1) 1 = g (sp t 2) 1
            · (try clear l0 l1 l2)
              as_aux_lemma => (go_wp2; exact ret_w3b rfl (w.heap.size + 1) [0, 0, 0] rfl rfl (blk_setRow_of zW _) rfl ⟨Or.inl rfl, by repeat' (first | (with_reducible exact Below.refl _ _) | (with_reducible refine Rd.below_step ?_ (by assumption)) | (with_reducible refine Rd.below_alloc ?_ _) | (with_reducible refine Rd.below_drewN ?_ _) | (with_reducible refine Below.drew ?_) | (with_reducible refine Below.setCell ?_ ?_ _) | (with_reducible refine Rd.below_setRow ?_ ?_ _) | go_size | (simp only [World.size_alloc]; omega) | omega)⟩)
            · (try clear l0 l1 l2)
              as_aux_lemma => (go_wp2; exact ret_w3b rfl (w.heap.size + 1) [0, 0, 0] rfl rfl (blk_setRow_of zW _) rfl ⟨Or.inl rfl, by repeat' (first | (with_reducible exact Below.refl _ _) | (with_reducible refine Rd.below_step ?_ (by assumption)) | (with_reducible refine Rd.below_alloc ?_ _) | (with_reducible refine Rd.below_drewN ?_ _) | (with_reducible refine Below.drew ?_) | (with_reducible refine Below.setCell ?_ ?_ _) | (with_reducible refine Rd.below_setRow ?_ ?_ _) | go_size | (simp only [World.size_alloc]; omega) | omega)⟩)
          · have dE : decide (ed0 t (mid px) (mid py) < 0) = false := by simpa using hE
            have HN := Lib.hid hE
            clear hE
            by_cases h0 : ed0 t (mid px) (mid py) = 0
            · (try clear l0 l1 l2)
              by_cases hY : g (sp t 1) 1 = g (sp t 2) 1
              · (try clear l0 l1 l2)
                have dL : decide (g (sp t 2) 1 < g (sp t 1) 1) = false := by simp; omega
                by_cases hX : g (sp t 1) 0 < g (sp t 2) 0
                · have dX : decide (g (sp t 1) 0 < g (sp t 2) 0) = true := by simpa using hX
                  clear hX
                  as_aux_lemma => (go_wp2; exact ⟨⟨1, by omega, by go_num, Lib.hid (in_step HF.out (show 0 ≤ ed0 t (mid px) (mid py) by have := HN.out; omega)), LW, bW, zW, eW, kW⟩, by simp [intOf]⟩)
                · have dX : decide (g (sp t 1) 0 < g (sp t 2) 0) = false := by simpa using hX
                  clear hX
                  as_aux_lemma => (go_wp2; exact ret_w3b rfl (w.heap.size + 1) [0, 0, 0] rfl rfl (blk_setRow_of zW _) rfl ⟨Or.inl rfl, by repeat' (first | (with_reducible exact Below.refl _ _) | (with_reducible refine Rd.below_step ?_ (by assumption)) | (with_reducible refine Rd.below_alloc ?_ _) | (with_reducible refine Rd.below_drewN ?_ _) | (with_reducible refine Below.drew ?_) | (with_reducible refine Below.setCell ?_ ?_ _) | (with_reducible refine Rd.below_setRow ?_ ?_ _) | go_size | (simp only [World.size_alloc]; omega) | omega)⟩)
              · (try clear l0 l1 l2)
                by_cases hL : g (sp t 2) 1 < g (sp t 1) 1
                · have dL : decide (g (sp t 2) 1 < g (sp t 1) 1) = true := by simpa using hL
                  clear hL
                  as_aux_lemma => (go_wp2; exact ⟨⟨1, by omega, by go_num, Lib.hid (in_step HF.out (show 0 ≤ ed0 t (mid px) (mid py) by have := HN.out; omega)), LW, bW, zW, eW, kW⟩, by simp [intOf]⟩)
                · have dL : decide (g (sp t 2) 1 < g (sp t 1) 1) = false := by simpa using hL
                  clear hL
                  as_aux_lemma => (go_wp2; exact ret_w3b rfl (w.heap.size + 1) [0, 0, 0] rfl rfl (blk_setRow_of zW _) rfl ⟨Or.inl rfl, by repeat' (first | (with_reducible exact Below.refl _ _) | (with_reducible refine Rd.below_step ?_ (by assumption)) | (with_reducible refine Rd.below_alloc ?_ _) | (with_reducible refine Rd.below_drewN ?_ _) | (with_reducible refine Below.drew ?_) | (with_reducible refine Below.setCell ?_ ?_ _) | (with_reducible refine Rd.below_setRow ?_ ?_ _) | go_size | (simp only [World.size_alloc]; omega) | omega)⟩)
            · (try clear l0 l1 l2)
              by_cases hY : g (sp t 1) 1 = g (sp t 2) 1
              · (try clear l0 l1 l2)
                as_aux_lemma => (go_wp2; exact ⟨⟨1, by omega, by go_num, Lib.hid (in_step HF.out (show 0 ≤ ed0 t (mid px) (mid py) by have := HN.out; omega)), LW, bW, zW, eW, kW⟩, by simp [intOf]⟩)
              · (try clear l0 l1 l2)
                as_aux_lemma => (go_wp2; exact ⟨⟨1, by omega, by go_num, Lib.hid (in_step HF.out (show 0 ≤ ed0 t (mid px) (mid py) by have := HN.out; omega)), LW, bW, zW, eW, kW⟩, by simp [intOf]⟩)
        · refine name_then ?_
          intro W hW
          have bW : blk W w.heap.size = some (.cells (cs .i64 t) 24 (0, 0)) := by rw [hW, blk_drew]; exact two_old HB k3
          have zW : blk W (w.heap.size + 1) = some (.cells (cs .i64 [0, 0, 0]) 27 (0, 0)) := by rw [hW, blk_drew]; exact two_old HZ k4
          have eW : blk W w2.heap.size = some (.cells (cs .i64 (edL t (mid px) (mid py))) 27 (0, 0)) := by rw [hW, blk_drew]; exact two_old HE hk1
          have p0 : blk W wr.heap.size = some (.cells (cs .i64 (sp t 2)) 23 (0, 0)) := by rw [hW, blk_drew]; exact blk2_0 _ _ _
          have p1 : blk W (wr.heap.size + 1) = some (.cells (cs .i64 (sp t 1)) 23 (0, 0)) := by rw [hW, blk_drew]; exact blk2_1 _ _ _
          have kW : w2.heap.size < W.heap.size := by rw [hW]; simp; omega
          have LW : Below w.heap.size w W := by
            rw [hW]
            repeat' (first | (with_reducible exact Below.refl _ _) | (with_reducible refine Rd.below_step ?_ (by assumption)) | (with_reducible refine Rd.below_alloc ?_ _) | (with_reducible refine Rd.below_drewN ?_ _) | (with_reducible refine Below.drew ?_) | (with_reducible refine Below.setCell ?_ ?_ _) | (with_reducible refine Rd.below_setRow ?_ ?_ _) | go_size | (simp only [World.size_alloc]; omega) | omega)
          clear hW
          have c0 : W.cell? ⟨w2.heap.size, 0, none⟩ = some (.int .i64 (ed0 t (mid px) (mid py))) := by rw [blk_cell eW]; rfl
          have xa : W.cell? ⟨wr.heap.size + 1, 0, none⟩ = some (.int .i64 (g (sp t 1) 0)) := by rw [blk_cell p1]; exact cs_at (at_of (by omega))
          have ya : W.cell? ⟨wr.heap.size + 1, 1, none⟩ = some (.int .i64 (g (sp t 1) 1)) := by rw [blk_cell p1]; exact cs_at (at_of (by omega))
          have xb : W.cell? ⟨wr.heap.size, 0, none⟩ = some (.int .i64 (g (sp t 2) 0)) := by rw [blk_cell p0]; exact cs_at (at_of (by omega))
          have yb : W.cell? ⟨wr.heap.size, 1, none⟩ = some (.int .i64 (g (sp t 2) 1)) := by rw [blk_cell p0]; exact cs_at (at_of (by omega))
          clear p0 p1 HB HZ HE hb
          by_cases hE : ed0 t (mid px) (mid py) < 0
          · have dE : decide (ed0 t (mid px) (mid py) < 0) = true := by simpa using hE
            clear hE
            by_cases hY : g (sp t 1) 1 = g (sp t 2) 1
            · (try clear l0 l1 l2)
              as_aux_lemma => (go_wp2; exact ret_w3b rfl (w.heap.size + 1) [0, 0, 0] rfl rfl (blk_setRow_of zW _) rfl ⟨Or.inl rfl, by repeat' (first | (with_reducible exact Below.refl _ _) | (with_reducible refine Rd.below_step ?_ (by assumption)) | (with_reducible refine Rd.below_alloc ?_ _) | (with_reducible refine Rd.below_drewN ?_ _) | (with_reducible refine Below.drew ?_) | (with_reducible refine Below.setCell ?_ ?_ _) | (with_reducible refine Rd.below_setRow ?_ ?_ _) | go_size | (simp only [World.size_alloc]; omega) | omega)⟩)
            · (try clear l0 l1 l2)
              as_aux_lemma => (go_wp2; exact ret_w3b rfl (w.heap.size + 1) [0, 0, 0] rfl rfl (blk_setRow_of zW _) rfl ⟨Or.inl rfl, by repeat' (first | (with_reducible exact Below.refl _ _) | (with_reducible refine Rd.below_step ?_ (by assumption)) | (with_reducible refine Rd.below_alloc ?_ _) | (with_reducible refine Rd.below_drewN ?_ _) | (with_reducible refine Below.drew ?_) | (with_reducible refine Below.setCell ?_ ?_ _) | (with_reducible refine Rd.below_setRow ?_ ?_ _) | go_size | (simp only [World.size_alloc]; omega) | omega)⟩)
          · have dE : decide (ed0 t (mid px) (mid py) < 0) = false := by simpa using hE
            have HN := Lib.hid hE
            clear hE
            by_cases h0 : ed0 t (mid px) (mid py) = 0
            · (try clear l0 l1 l2)
              by_cases hY : g (sp t 1) 1 = g (sp t 2) 1
              · (try clear l0 l1 l2)
                have dL : decide (g (sp t 2) 1 < g (sp t 1) 1) = false := by simp; omega
                by_cases hX : g (sp t 1) 0 < g (sp t 2) 0
                · have dX : decide (g (sp t 1) 0 < g (sp t 2) 0) = true := by simpa using hX
                  clear hX
                  as_aux_lemma => (go_wp2; exact ⟨⟨1, by omega, by go_num, Lib.hid (in_step HF.out (show 0 ≤ ed0 t (mid px) (mid py) by have := HN.out; omega)), LW, bW, zW, eW, kW⟩, by simp [intOf]⟩)
                · have dX : decide (g (sp t 1) 0 < g (sp t 2) 0) = false := by simpa using hX
                  clear hX
                  as_aux_lemma => (go_wp2; exact ret_w3b rfl (w.heap.size + 1) [0, 0, 0] rfl rfl (blk_setRow_of zW _) rfl ⟨Or.inl rfl, by repeat' (first | (with_reducible exact Below.refl _ _) | (with_reducible refine Rd.below_step ?_ (by assumption)) | (with_reducible refine Rd.below_alloc ?_ _) | (with_reducible refine Rd.below_drewN ?_ _) | (with_reducible refine Below.drew ?_) | (with_reducible refine Below.setCell ?_ ?_ _) | (with_reducible refine Rd.below_setRow ?_ ?_ _) | go_size | (simp only [World.size_alloc]; omega) | omega)⟩)
              · (try clear l0 l1 l2)
                by_cases hL : g (sp t 2) 1 < g (sp t 1) 1
                · have dL : decide (g (sp t 2) 1 < g (sp t 1) 1) = true := by simpa using hL
                  clear hL
                  as_aux_lemma => (go_wp2; exact ⟨⟨1, by omega, by go_num, Lib.hid (in_step HF.out (show 0 ≤ ed0 t (mid px) (mid py) by have := HN.out; omega)), LW, bW, zW, eW, kW⟩, by simp [intOf]⟩)
                · have dL : decide (g (sp t 2) 1 < g (sp t 1) 1) = false := by simpa using hL
                  clear hL
                  as_aux_lemma => (go_wp2; exact ret_w3b rfl (w.heap.size + 1) [0, 0, 0] rfl rfl (blk_setRow_of zW _) rfl ⟨Or.inl rfl, by repeat' (first | (with_reducible exact Below.refl _ _) | (with_reducible refine Rd.below_step ?_ (by assumption)) | (with_reducible refine Rd.below_alloc ?_ _) | (with_reducible refine Rd.below_drewN ?_ _) | (with_reducible refine Below.drew ?_) | (with_reducible refine Below.setCell ?_ ?_ _) | (with_reducible refine Rd.below_setRow ?_ ?_ _) | go_size | (simp only [World.size_alloc]; omega) | omega)⟩)
            · (try clear l0 l1 l2)
              by_cases hY : g (sp t 1) 1 = g (sp t 2) 1
              · (try clear l0 l1 l2)
                as_aux_lemma => (go_wp2; exact ⟨⟨1, by omega, by go_num, Lib.hid (in_step HF.out (show 0 ≤ ed0 t (mid px) (mid py) by have := HN.out; omega)), LW, bW, zW, eW, kW⟩, by simp [intOf]⟩)
              · (try clear l0 l1 l2)
                as_aux_lemma => (go_wp2; exact ⟨⟨1, by omega, by go_num, Lib.hid (in_step HF.out (show 0 ≤ ed0 t (mid px) (mid py) by have := HN.out; omega)), LW, bW, zW, eW, kW⟩, by simp [intOf]⟩)
      · go_wp2
        go_big_region
        · refine name_then ?_
          intro W hW
          have bW : blk W w.heap.size = some (.cells (cs .i64 t) 24 (0, 0)) := by rw [hW, blk_drew]; exact two_old HB k3
          have zW : blk W (w.heap.size + 1) = some (.cells (cs .i64 [0, 0, 0]) 27 (0, 0)) := by rw [hW, blk_drew]; exact two_old HZ k4
          have eW : blk W w2.heap.size = some (.cells (cs .i64 (edL t (mid px) (mid py))) 27 (0, 0)) := by rw [hW, blk_drew]; exact two_old HE hk1
          have p0 : blk W wr.heap.size = some (.cells (cs .i64 (sp t 2)) 23 (0, 0)) := by rw [hW, blk_drew]; exact blk2_0 _ _ _
          have p1 : blk W (wr.heap.size + 1) = some (.cells (cs .i64 (sp t 0)) 23 (0, 0)) := by rw [hW, blk_drew]; exact blk2_1 _ _ _
          have kW : w2.heap.size < W.heap.size := by rw [hW]; simp; omega
          have LW : Below w.heap.size w W := by
            rw [hW]
            repeat' (first | (with_reducible exact Below.refl _ _) | (with_reducible refine Rd.below_step ?_ (by assumption)) | (with_reducible refine Rd.below_alloc ?_ _) | (with_reducible refine Rd.below_drewN ?_ _) | (with_reducible refine Below.drew ?_) | (with_reducible refine Below.setCell ?_ ?_ _) | (with_reducible refine Rd.below_setRow ?_ ?_ _) | go_size | (simp only [World.size_alloc]; omega) | omega)
          clear hW
          have c0 : W.cell? ⟨w2.heap.size, 1, none⟩ = some (.int .i64 (ed1 t (mid px) (mid py))) := by rw [blk_cell eW]; rfl
          have xa : W.cell? ⟨wr.heap.size, 0, none⟩ = some (.int .i64 (g (sp t 2) 0)) := by rw [blk_cell p0]; exact cs_at (at_of (by omega))
          have ya : W.cell? ⟨wr.heap.size, 1, none⟩ = some (.int .i64 (g (sp t 2) 1)) := by rw [blk_cell p0]; exact cs_at (at_of (by omega))
          have xb : W.cell? ⟨wr.heap.size + 1, 0, none⟩ = some (.int .i64 (g (sp t 0) 0)) := by rw [blk_cell p1]; exact cs_at (at_of (by omega))
          have yb : W.cell? ⟨wr.heap.size + 1, 1, none⟩ = some (.int .i64 (g (sp t 0) 1)) := by rw [blk_cell p1]; exact cs_at (at_of (by omega))
          clear p0 p1 HB HZ HE hb
          by_cases hE : ed1 t (mid px) (mid py) < 0
          · have dE : decide (ed1 t (mid px) (mid py) < 0) = true := by simpa using hE
            clear hE
            by_cases hY : g (sp t 2) 1 = g (sp t 0) 1
            · (try clear l0 l1 l2)
              as_aux_lemma => (go_wp2; exact ret_w3b rfl (w.heap.size + 1) [0, 0, 0] rfl rfl (blk_setRow_of zW _) rfl ⟨Or.inl rfl, by repeat' (first | (with_reducible exact Below.refl _ _) | (with_reducible refine Rd.below_step ?_ (by assumption)) | (with_reducible refine Rd.below_alloc ?_ _) | (with_reducible refine Rd.below_drewN ?_ _) | (with_reducible refine Below.drew ?_) | (with_reducible refine Below.setCell ?_ ?_ _) | (with_reducible refine Rd.below_setRow ?_ ?_ _) | go_size | (simp only [World.size_alloc]; omega) | omega)⟩)
            · (try clear l0 l1 l2)
              as_aux_lemma => (go_wp2; exact ret_w3b rfl (w.heap.size + 1) [0, 0, 0] rfl rfl (blk_setRow_of zW _) rfl ⟨Or.inl rfl, by repeat' (first | (with_reducible exact Below.refl _ _) | (with_reducible refine Rd.below_step ?_ (by assumption)) | (with_reducible refine Rd.below_alloc ?_ _) | (with_reducible refine Rd.below_drewN ?_ _) | (with_reducible refine Below.drew ?_) | (with_reducible refine Below.setCell ?_ ?_ _) | (with_reducible refine Rd.below_setRow ?_ ?_ _) | go_size | (simp only [World.size_alloc]; omega) | omega)⟩)
          · have dE : decide (ed1 t (mid px) (mid py) < 0) = false := by simpa using hE
            have HN := Lib.hid hE
            clear hE
            by_cases h0 : ed1 t (mid px) (mid py) = 0
            · (try clear l0 l1 l2)
              by_cases hY : g (sp t 2) 1 = g (sp t 0) 1
              · (try clear l0 l1 l2)
                have dL : decide (g (sp t 0) 1 < g (sp t 2) 1) = false := by simp; omega
                by_cases hX : g (sp t 2) 0 < g (sp t 0) 0
                · have dX : decide (g (sp t 2) 0 < g (sp t 0) 0) = true := by simpa using hX
                  clear hX
                  as_aux_lemma => (go_wp2; exact ⟨⟨2, by omega, by go_num, Lib.hid (in_step HF.out (show 0 ≤ ed1 t (mid px) (mid py) by have := HN.out; omega)), LW, bW, zW, eW, kW⟩, by simp [intOf]⟩)
                · have dX : decide (g (sp t 2) 0 < g (sp t 0) 0) = false := by simpa using hX
                  clear hX
                  as_aux_lemma => (go_wp2; exact ret_w3b rfl (w.heap.size + 1) [0, 0, 0] rfl rfl (blk_setRow_of zW _) rfl ⟨Or.inl rfl, by repeat' (first | (with_reducible exact Below.refl _ _) | (with_reducible refine Rd.below_step ?_ (by assumption)) | (with_reducible refine Rd.below_alloc ?_ _) | (with_reducible refine Rd.below_drewN ?_ _) | (with_reducible refine Below.drew ?_) | (with_reducible refine Below.setCell ?_ ?_ _) | (with_reducible refine Rd.below_setRow ?_ ?_ _) | go_size | (simp only [World.size_alloc]; omega) | omega)⟩)
              · (try clear l0 l1 l2)
                by_cases hL : g (sp t 0) 1 < g (sp t 2) 1
                · have dL : decide (g (sp t 0) 1 < g (sp t 2) 1) = true := by simpa using hL
                  clear hL
                  as_aux_lemma => (go_wp2; exact ⟨⟨2, by omega, by go_num, Lib.hid (in_step HF.out (show 0 ≤ ed1 t (mid px) (mid py) by have := HN.out; omega)), LW, bW, zW, eW, kW⟩, by simp [intOf]⟩)
                · have dL : decide (g (sp t 0) 1 < g (sp t 2) 1) = false := by simpa using hL
                  clear hL
                  as_aux_lemma => (go_wp2; exact ret_w3b rfl (w.heap.size + 1) [0, 0, 0] rfl rfl (blk_setRow_of zW _) rfl ⟨Or.inl rfl, by repeat' (first | (with_reducible exact Below.refl _ _) | (with_reducible refine Rd.below_step ?_ (by assumption)) | (with_reducible refine Rd.below_alloc ?_ _) | (with_reducible refine Rd.below_drewN ?_ _) | (with_reducible refine Below.drew ?_) | (with_reducible refine Below.setCell ?_ ?_ _) | (with_reducible refine Rd.below_setRow ?_ ?_ _) | go_size | (simp only [World.size_alloc]; omega) | omega)⟩)
            · (try clear l0 l1 l2)
              by_cases hY : g (sp t 2) 1 = g (sp t 0) 1
              · (try clear l0 l1 l2)
                as_aux_lemma => (go_wp2; exact ⟨⟨2, by omega, by go_num, Lib.hid (in_step HF.out (show 0 ≤ ed1 t (mid px) (mid py) by have := HN.out; omega)), LW, bW, zW, eW, kW⟩, by simp [intOf]⟩)
              · (try clear l0 l1 l2)
                as_aux_lemma => (go_wp2; exact ⟨⟨2, by omega, by go_num, Lib.hid (in_step HF.out (show 0 ≤ ed1 t (mid px) (mid py) by have := HN.out; omega)), LW, bW, zW, eW, kW⟩, by simp [intOf]⟩)
        · refine name_then ?_
          intro W hW
          have bW : blk W w.heap.size = some (.cells (cs .i64 t) 24 (0, 0)) := by rw [hW, blk_drew]; exact two_old HB k3
          have zW : blk W (w.heap.size + 1) = some (.cells (cs .i64 [0, 0, 0]) 27 (0, 0)) := by rw [hW, blk_drew]; exact two_old HZ k4
          have eW : blk W w2.heap.size = some (.cells (cs .i64 (edL t (mid px) (mid py))) 27 (0, 0)) := by rw [hW, blk_drew]; exact two_old HE hk1
          have p0 : blk W wr.heap.size = some (.cells (cs .i64 (sp t 0)) 23 (0, 0)) := by rw [hW, blk_drew]; exact blk2_0 _ _ _
          have p1 : blk W (wr.heap.size + 1) = some (.cells (cs .i64 (sp t 2)) 23 (0, 0)) := by rw [hW, blk_drew]; exact blk2_1 _ _ _
          have kW : w2.heap.size < W.heap.size := by rw [hW]; simp; omega
          have LW : Below w.heap.size w W := by
            rw [hW]
            repeat' (first | (with_reducible exact Below.refl _ _) | (with_reducible refine Rd.below_step ?_ (by assumption)) | (with_reducible refine Rd.below_alloc ?_ _) | (with_reducible refine Rd.below_drewN ?_ _) | (with_reducible refine Below.drew ?_) | (with_reducible refine Below.setCell ?_ ?_ _) | (with_reducible refine Rd.below_setRow ?_ ?_ _) | go_size | (simp only [World.size_alloc]; omega) | omega)
          clear hW
          have c0 : W.cell? ⟨w2.heap.size, 1, none⟩ = some (.int .i64 (ed1 t (mid px) (mid py))) := by rw [blk_cell eW]; rfl
          have xa : W.cell? ⟨wr.heap.size + 1, 0, none⟩ = some (.int .i64 (g (sp t 2) 0)) := by rw [blk_cell p1]; exact cs_at (at_of (by omega))
          have ya : W.cell? ⟨wr.heap.size + 1, 1, none⟩ = some (.int .i64 (g (sp t 2) 1)) := by rw [blk_cell p1]; exact cs_at (at_of (by omega))
          have xb : W.cell? ⟨wr.heap.size, 0, none⟩ = some (.int .i64 (g (sp t 0) 0)) := by rw [blk_cell p0]; exact cs_at (at_of (by omega))
          have yb : W.cell? ⟨wr.heap.size, 1, none⟩ = some (.int .i64 (g (sp t 0) 1)) := by rw [blk_cell p0]; exact cs_at (at_of (by omega))
          clear p0 p1 HB HZ HE hb
          by_cases hE : ed1 t (mid px) (mid py) < 0
          · have dE : decide (ed1 t (mid px) (mid py) < 0) = true := by simpa using hE
            clear hE
            by_cases hY : g (sp t 2) 1 = g (sp t 0) 1
            · (try clear l0 l1 l2)
              as_aux_lemma => (go_wp2; exact ret_w3b rfl (w.heap.size + 1) [0, 0, 0] rfl rfl (blk_setRow_of zW _) rfl ⟨Or.inl rfl, by repeat' (first | (with_reducible exact Below.refl _ _) | (with_reducible refine Rd.below_step ?_ (by assumption)) | (with_reducible refine Rd.below_alloc ?_ _) | (with_reducible refine Rd.below_drewN ?_ _) | (with_reducible refine Below.drew ?_) | (with_reducible refine Below.setCell ?_ ?_ _) | (with_reducible refine Rd.below_setRow ?_ ?_ _) | go_size | (simp only [World.size_alloc]; omega) | omega)⟩)
            · (try clear l0 l1 l2)
              as_aux_lemma => (go_wp2; exact ret_w3b rfl (w.heap.size + 1) [0, 0, 0] rfl rfl (blk_setRow_of zW _) rfl ⟨Or.inl rfl, by repeat' (first | (with_reducible exact Below.refl _ _) | (with_reducible refine Rd.below_step ?_ (by assumption)) | (with_reducible refine Rd.below_alloc ?_ _) | (with_reducible refine Rd.below_drewN ?_ _) | (with_reducible refine Below.drew ?_) | (with_reducible refine Below.setCell ?_ ?_ _) | (with_reducible refine Rd.below_setRow ?_ ?_ _) | go_size | (simp only [World.size_alloc]; omega) | omega)⟩)
          · have dE : decide (ed1 t (mid px) (mid py) < 0) = false := by simpa using hE
            have HN := Lib.hid hE
            clear hE
            by_cases h0 : ed1 t (mid px) (mid py) = 0
            · (try clear l0 l1 l2)
              by_cases hY : g (sp t 2) 1 = g (sp t 0) 1
              · (try clear l0 l1 l2)
                have dL : decide (g (sp t 0) 1 < g (sp t 2) 1) = false := by simp; omega
                by_cases hX : g (sp t 2) 0 < g (sp t 0) 0
                · have dX : decide (g (sp t 2) 0 < g (sp t 0) 0) = true := by simpa using hX
                  clear hX
                  as_aux_lemma => (go_wp2; exact ⟨⟨2, by omega, by go_num, Lib.hid (in_step HF.out (show 0 ≤ ed1 t (mid px) (mid py) by have := HN.out; omega)), LW, bW, zW, eW, kW⟩, by simp [intOf]⟩)
                · have dX : decide (g (sp t 2) 0 < g (sp t 0) 0) = false := by simpa using hX
                  clear hX
                  as_aux_lemma => (go_wp2; exact ret_w3b rfl (w.heap.size + 1) [0, 0, 0] rfl rfl (blk_setRow_of zW _) rfl ⟨Or.inl rfl, by repeat' (first | (with_reducible exact Below.refl _ _) | (with_reducible refine Rd.below_step ?_ (by assumption)) | (with_reducible refine Rd.below_alloc ?_ _) | (with_reducible refine Rd.below_drewN ?_ _) | (with_reducible refine Below.drew ?_) | (with_reducible refine Below.setCell ?_ ?_ _) | (with_reducible refine Rd.below_setRow ?_ ?_ _) | go_size | (simp only [World.size_alloc]; omega) | omega)⟩)
              · (try clear l0 l1 l2)
                by_cases hL : g (sp t 0) 1 < g (sp t 2) 1
                · have dL : decide (g (sp t 0) 1 < g (sp t 2) 1) = true := by simpa using hL
                  clear hL
                  as_aux_lemma => (go_wp2; exact ⟨⟨2, by omega, by go_num, Lib.hid (in_step HF.out (show 0 ≤ ed1 t (mid px) (mid py) by have := HN.out; omega)), LW, bW, zW, eW, kW⟩, by simp [intOf]⟩)
                · have dL : decide (g (sp t 0) 1 < g (sp t 2) 1) = false := by simpa using hL
                  clear hL
                  as_aux_lemma => (go_wp2; exact ret_w3b rfl (w.heap.size + 1) [0, 0, 0] rfl rfl (blk_setRow_of zW _) rfl ⟨Or.inl rfl, by repeat' (first | (with_reducible exact Below.refl _ _) | (with_reducible refine Rd.below_step ?_ (by assumption)) | (with_reducible refine Rd.below_alloc ?_ _) | (with_reducible refine Rd.below_drewN ?_ _) | (with_reducible refine Below.drew ?_) | (with_reducible refine Below.setCell ?_ ?_ _) | (with_reducible refine Rd.below_setRow ?_ ?_ _) | go_size | (simp only [World.size_alloc]; omega) | omega)⟩)
            · (try clear l0 l1 l2)
              by_cases hY : g (sp t 2) 1 = g (sp t 0) 1
              · (try clear l0 l1 l2)
                as_aux_lemma => (go_wp2; exact ⟨⟨2, by omega, by go_num, Lib.hid (in_step HF.out (show 0 ≤ ed1 t (mid px) (mid py) by have := HN.out; omega)), LW, bW, zW, eW, kW⟩, by simp [intOf]⟩)
              · (try clear l0 l1 l2)
                as_aux_lemma => (go_wp2; exact ⟨⟨2, by omega, by go_num, Lib.hid (in_step HF.out (show 0 ≤ ed1 t (mid px) (mid py) by have := HN.out; omega)), LW, bW, zW, eW, kW⟩, by simp [intOf]⟩)
      · go_wp2
        go_big_region
        · refine name_then ?_
          intro W hW
          have bW : blk W w.heap.size = some (.cells (cs .i64 t) 24 (0, 0)) := by rw [hW, blk_drew]; exact two_old HB k3
          have zW : blk W (w.heap.size + 1) = some (.cells (cs .i64 [0, 0, 0]) 27 (0, 0)) := by rw [hW, blk_drew]; exact two_old HZ k4
          have eW : blk W w2.heap.size = some (.cells (cs .i64 (edL t (mid px) (mid py))) 27 (0, 0)) := by rw [hW, blk_drew]; exact two_old HE hk1
          have p0 : blk W wr.heap.size = some (.cells (cs .i64 (sp t 0)) 23 (0, 0)) := by rw [hW, blk_drew]; exact blk2_0 _ _ _
          have p1 : blk W (wr.heap.size + 1) = some (.cells (cs .i64 (sp t 1)) 23 (0, 0)) := by rw [hW, blk_drew]; exact blk2_1 _ _ _
          have kW : w2.heap.size < W.heap.size := by rw [hW]; simp; omega
          have LW : Below w.heap.size w W := by
            rw [hW]
            repeat' (first | (with_reducible exact Below.refl _ _) | (with_reducible refine Rd.below_step ?_ (by assumption)) | (with_reducible refine Rd.below_alloc ?_ _) | (with_reducible refine Rd.below_drewN ?_ _) | (with_reducible refine Below.drew ?_) | (with_reducible refine Below.setCell ?_ ?_ _) | (with_reducible refine Rd.below_setRow ?_ ?_ _) | go_size | (simp only [World.size_alloc]; omega) | omega)
          clear hW
          have c0 : W.cell? ⟨w2.heap.size, 2, none⟩ = some (.int .i64 (ed2 t (mid px) (mid py))) := by rw [blk_cell eW]; rfl
          have xa : W.cell? ⟨wr.heap.size, 0, none⟩ = some (.int .i64 (g (sp t 0) 0)) := by rw [blk_cell p0]; exact cs_at (at_of (by omega))
          have ya : W.cell? ⟨wr.heap.size, 1, none⟩ = some (.int .i64 (g (sp t 0) 1)) := by rw [blk_cell p0]; exact cs_at (at_of (by omega))
          have xb : W.cell? ⟨wr.heap.size + 1, 0, none⟩ = some (.int .i64 (g (sp t 1) 0)) := by rw [blk_cell p1]; exact cs_at (at_of (by omega))
          have yb : W.cell? ⟨wr.heap.size + 1, 1, none⟩ = some (.int .i64 (g (sp t 1) 1)) := by rw [blk_cell p1]; exact cs_at (at_of (by omega))
          clear p0 p1 HB HZ HE hb
          by_cases hE : ed2 t (mid px) (mid py) < 0
          · have dE : decide (ed2 t (mid px) (mid py) < 0) = true := by simpa using hE
            clear hE
            by_cases hY : g (sp t 0) 1 = g (sp t 1) 1
            · (try clear l0 l1 l2)
              as_aux_lemma => (go_wp2; exact ret_w3b rfl (w.heap.size + 1) [0, 0, 0] rfl rfl (blk_setRow_of zW _) rfl ⟨Or.inl rfl, by repeat' (first | (with_reducible exact Below.refl _ _) | (with_reducible refine Rd.below_step ?_ (by assumption)) | (with_reducible refine Rd.below_alloc ?_ _) | (with_reducible refine Rd.below_drewN ?_ _) | (with_reducible refine Below.drew ?_) | (with_reducible refine Below.setCell ?_ ?_ _) | (with_reducible refine Rd.below_setRow ?_ ?_ _) | go_size | (simp only [World.size_alloc]; omega) | omega)⟩)
            · (try clear l0 l1 l2)
              as_aux_lemma => (go_wp2; exact ret_w3b rfl (w.heap.size + 1) [0, 0, 0] rfl rfl (blk_setRow_of zW _) rfl ⟨Or.inl rfl, by repeat' (first | (with_reducible exact Below.refl _ _) | (with_reducible refine Rd.below_step ?_ (by assumption)) | (with_reducible refine Rd.below_alloc ?_ _) | (with_reducible refine Rd.below_drewN ?_ _) | (with_reducible refine Below.drew ?_) | (with_reducible refine Below.setCell ?_ ?_ _) | (with_reducible refine Rd.below_setRow ?_ ?_ _) | go_size | (simp only [World.size_alloc]; omega) | omega)⟩)
          · have dE : decide (ed2 t (mid px) (mid py) < 0) = false := by simpa using hE
            have HN := Lib.hid hE
            clear hE
            by_cases h0 : ed2 t (mid px) (mid py) = 0
            · (try clear l0 l1 l2)
              by_cases hY : g (sp t 0) 1 = g (sp t 1) 1
              · (try clear l0 l1 l2)
                have dL : decide (g (sp t 1) 1 < g (sp t 0) 1) = false := by simp; omega
                by_cases hX : g (sp t 0) 0 < g (sp t 1) 0
                · have dX : decide (g (sp t 0) 0 < g (sp t 1) 0) = true := by simpa using hX
                  clear hX
                  as_aux_lemma => (go_wp2; exact ⟨⟨3, by omega, by go_num, Lib.hid (in_step HF.out (show 0 ≤ ed2 t (mid px) (mid py) by have := HN.out; omega)), LW, bW, zW, eW, kW⟩, by simp [intOf]⟩)
                · have dX : decide (g (sp t 0) 0 < g (sp t 1) 0) = false := by simpa using hX
                  clear hX
                  as_aux_lemma => (go_wp2; exact ret_w3b rfl (w.heap.size + 1) [0, 0, 0] rfl rfl (blk_setRow_of zW _) rfl ⟨Or.inl rfl, by repeat' (first | (with_reducible exact Below.refl _ _) | (with_reducible refine Rd.below_step ?_ (by assumption)) | (with_reducible refine Rd.below_alloc ?_ _) | (with_reducible refine Rd.below_drewN ?_ _) | (with_reducible refine Below.drew ?_) | (with_reducible refine Below.setCell ?_ ?_ _) | (with_reducible refine Rd.below_setRow ?_ ?_ _) | go_size | (simp only [World.size_alloc]; omega) | omega)⟩)
              · (try clear l0 l1 l2)
                by_cases hL : g (sp t 1) 1 < g (sp t 0) 1
                · have dL : decide (g (sp t 1) 1 < g (sp t 0) 1) = true := by simpa using hL
                  clear hL
                  as_aux_lemma => (go_wp2; exact ⟨⟨3, by omega, by go_num, Lib.hid (in_step HF.out (show 0 ≤ ed2 t (mid px) (mid py) by have := HN.out; omega)), LW, bW, zW, eW, kW⟩, by simp [intOf]⟩)
                · have dL : decide (g (sp t 1) 1 < g (sp t 0) 1) = false := by simpa using hL
                  clear hL
                  as_aux_lemma => (go_wp2; exact ret_w3b rfl (w.heap.size + 1) [0, 0, 0] rfl rfl (blk_setRow_of zW _) rfl ⟨Or.inl rfl, by repeat' (first | (with_reducible exact Below.refl _ _) | (with_reducible refine Rd.below_step ?_ (by assumption)) | (with_reducible refine Rd.below_alloc ?_ _) | (with_reducible refine Rd.below_drewN ?_ _) | (with_reducible refine Below.drew ?_) | (with_reducible refine Below.setCell ?_ ?_ _) | (with_reducible refine Rd.below_setRow ?_ ?_ _) | go_size | (simp only [World.size_alloc]; omega) | omega)⟩)
            · (try clear l0 l1 l2)
              by_cases hY : g (sp t 0) 1 = g (sp t 1) 1
              · (try clear l0 l1 l2)
                as_aux_lemma => (go_wp2; exact ⟨⟨3, by omega, by go_num, Lib.hid (in_step HF.out (show 0 ≤ ed2 t (mid px) (mid py) by have := HN.out; omega)), LW, bW, zW, eW, kW⟩, by simp [intOf]⟩)
              · (try clear l0 l1 l2)
                as_aux_lemma => (go_wp2; exact ⟨⟨3, by omega, by go_num, Lib.hid (in_step HF.out (show 0 ≤ ed2 t (mid px) (mid py) by have := HN.out; omega)), LW, bW, zW, eW, kW⟩, by simp [intOf]⟩)
        · refine name_then ?_
          intro W hW
          have bW : blk W w.heap.size = some (.cells (cs .i64 t) 24 (0, 0)) := by rw [hW, blk_drew]; exact two_old HB k3
          have zW : blk W (w.heap.size + 1) = some (.cells (cs .i64 [0, 0, 0]) 27 (0, 0)) := by rw [hW, blk_drew]; exact two_old HZ k4
          have eW : blk W w2.heap.size = some (.cells (cs .i64 (edL t (mid px) (mid py))) 27 (0, 0)) := by rw [hW, blk_drew]; exact two_old HE hk1
          have p0 : blk W wr.heap.size = some (.cells (cs .i64 (sp t 1)) 23 (0, 0)) := by rw [hW, blk_drew]; exact blk2_0 _ _ _
          have p1 : blk W (wr.heap.size + 1) = some (.cells (cs .i64 (sp t 0)) 23 (0, 0)) := by rw [hW, blk_drew]; exact blk2_1 _ _ _
          have kW : w2.heap.size < W.heap.size := by rw [hW]; simp; omega
          have LW : Below w.heap.size w W := by
            rw [hW]
            repeat' (first | (with_reducible exact Below.refl _ _) | (with_reducible refine Rd.below_step ?_ (by assumption)) | (with_reducible refine Rd.below_alloc ?_ _) | (with_reducible refine Rd.below_drewN ?_ _) | (with_reducible refine Below.drew ?_) | (with_reducible refine Below.setCell ?_ ?_ _) | (with_reducible refine Rd.below_setRow ?_ ?_ _) | go_size | (simp only [World.size_alloc]; omega) | omega)
          clear hW
          have c0 : W.cell? ⟨w2.heap.size, 2, none⟩ = some (.int .i64 (ed2 t (mid px) (mid py))) := by rw [blk_cell eW]; rfl
          have xa : W.cell? ⟨wr.heap.size + 1, 0, none⟩ = some (.int .i64 (g (sp t 0) 0)) := by rw [blk_cell p1]; exact cs_at (at_of (by omega))
          have ya : W.cell? ⟨wr.heap.size + 1, 1, none⟩ = some (.int .i64 (g (sp t 0) 1)) := by rw [blk_cell p1]; exact cs_at (at_of (by omega))
          have xb : W.cell? ⟨wr.heap.size, 0, none⟩ = some (.int .i64 (g (sp t 1) 0)) := by rw [blk_cell p0]; exact cs_at (at_of (by omega))
          have yb : W.cell? ⟨wr.heap.size, 1, none⟩ = some (.int .i64 (g (sp t 1) 1)) := by rw [blk_cell p0]; exact cs_at (at_of (by omega))
          clear p0 p1 HB HZ HE hb
          by_cases hE : ed2 t (mid px) (mid py) < 0
          · have dE : decide (ed2 t (mid px) (mid py) < 0) = true := by simpa using hE
            clear hE
            by_cases hY : g (sp t 0) 1 = g (sp t 1) 1
            · (try clear l0 l1 l2)
              as_aux_lemma => (go_wp2; exact ret_w3b rfl (w.heap.size + 1) [0, 0, 0] rfl rfl (blk_setRow_of zW _) rfl ⟨Or.inl rfl, by repeat' (first | (with_reducible exact Below.refl _ _) | (with_reducible refine Rd.below_step ?_ (by assumption)) | (with_reducible refine Rd.below_alloc ?_ _) | (with_reducible refine Rd.below_drewN ?_ _) | (with_reducible refine Below.drew ?_) | (with_reducible refine Below.setCell ?_ ?_ _) | (with_reducible refine Rd.below_setRow ?_ ?_ _) | go_size | (simp only [World.size_alloc]; omega) | omega)⟩)
            · (try clear l0 l1 l2)
              as_aux_lemma => (go_wp2; exact ret_w3b rfl (w.heap.size + 1) [0, 0, 0] rfl rfl (blk_setRow_of zW _) rfl ⟨Or.inl rfl, by repeat' (first | (with_reducible exact Below.refl _ _) | (with_reducible refine Rd.below_step ?_ (by assumption)) | (with_reducible refine Rd.below_alloc ?_ _) | (with_reducible refine Rd.below_drewN ?_ _) | (with_reducible refine Below.drew ?_) | (with_reducible refine Below.setCell ?_ ?_ _) | (with_reducible refine Rd.below_setRow ?_ ?_ _) | go_size | (simp only [World.size_alloc]; omega) | omega)⟩)
          · have dE : decide (ed2 t (mid px) (mid py) < 0) = false := by simpa using hE
            have HN := Lib.hid hE
            clear hE
            by_cases h0 : ed2 t (mid px) (mid py) = 0
            · (try clear l0 l1 l2)
              by_cases hY : g (sp t 0) 1 = g (sp t 1) 1
              · (try clear l0 l1 l2)
                have dL : decide (g (sp t 1) 1 < g (sp t 0) 1) = false := by simp; omega
                by_cases hX : g (sp t 0) 0 < g (sp t 1) 0
                · have dX : decide (g (sp t 0) 0 < g (sp t 1) 0) = true := by simpa using hX
                  clear hX
                  as_aux_lemma => (go_wp2; exact ⟨⟨3, by omega, by go_num, Lib.hid (in_step HF.out (show 0 ≤ ed2 t (mid px) (mid py) by have := HN.out; omega)), LW, bW, zW, eW, kW⟩, by simp [intOf]⟩)
                · have dX : decide (g (sp t 0) 0 < g (sp t 1) 0) = false := by simpa using hX
                  clear hX
                  as_aux_lemma => (go_wp2; exact ret_w3b rfl (w.heap.size + 1) [0, 0, 0] rfl rfl (blk_setRow_of zW _) rfl ⟨Or.inl rfl, by repeat' (first | (with_reducible exact Below.refl _ _) | (with_reducible refine Rd.below_step ?_ (by assumption)) | (with_reducible refine Rd.below_alloc ?_ _) | (with_reducible refine Rd.below_drewN ?_ _) | (with_reducible refine Below.drew ?_) | (with_reducible refine Below.setCell ?_ ?_ _) | (with_reducible refine Rd.below_setRow ?_ ?_ _) | go_size | (simp only [World.size_alloc]; omega) | omega)⟩)
              · (try clear l0 l1 l2)
                by_cases hL : g (sp t 1) 1 < g (sp t 0) 1
                · have dL : decide (g (sp t 1) 1 < g (sp t 0) 1) = true := by simpa using hL
                  clear hL
                  as_aux_lemma => (go_wp2; exact ⟨⟨3, by omega, by go_num, Lib.hid (in_step HF.out (show 0 ≤ ed2 t (mid px) (mid py) by have := HN.out; omega)), LW, bW, zW, eW, kW⟩, by simp [intOf]⟩)
                · have dL : decide (g (sp t 1) 1 < g (sp t 0) 1) = false := by simpa using hL
                  clear hL
                  as_aux_lemma => (go_wp2; exact ret_w3b rfl (w.heap.size + 1) [0, 0, 0] rfl rfl (blk_setRow_of zW _) rfl ⟨Or.inl rfl, by repeat' (first | (with_reducible exact Below.refl _ _) | (with_reducible refine Rd.below_step ?_ (by assumption)) | (with_reducible refine Rd.below_alloc ?_ _) | (with_reducible refine Rd.below_drewN ?_ _) | (with_reducible refine Below.drew ?_) | (with_reducible refine Below.setCell ?_ ?_ _) | (with_reducible refine Rd.below_setRow ?_ ?_ _) | go_size | (simp only [World.size_alloc]; omega) | omega)⟩)
            · (try clear l0 l1 l2)
              by_cases hY : g (sp t 0) 1 = g (sp t 1) 1
              · (try clear l0 l1 l2)
                as_aux_lemma => (go_wp2; exact ⟨⟨3, by omega, by go_num, Lib.hid (in_step HF.out (show 0 ≤ ed2 t (mid px) (mid py) by have := HN.out; omega)), LW, bW, zW, eW, kW⟩, by simp [intOf]⟩)
              · (try clear l0 l1 l2)
                as_aux_lemma => (go_wp2; exact ⟨⟨3, by omega, by go_num, Lib.hid (in_step HF.out (show 0 ≤ ed2 t (mid px) (mid py) by have := HN.out; omega)), LW, bW, zW, eW, kW⟩, by simp [intOf]⟩)
    · obtain rfl : k = 3 := by omega
      have j0 : 0 ≤ ed0 t (mid px) (mid py) := HF.out 0 (by omega)
      have j1 : 0 ≤ ed1 t (mid px) (mid py) := HF.out 1 (by omega)
      have j2 : 0 ≤ ed2 t (mid px) (mid py) := HF.out 2 (by omega)
      go_wp2
      exact ret_w3b rfl (w.heap.size + 1) (edL t (mid px) (mid py)) rfl rfl (blk_setRow_of HZ _) rfl ⟨Or.inr ⟨rfl, j0, j1, j2⟩, by repeat' (first | (with_reducible exact Below.refl _ _) | (with_reducible refine Rd.below_step ?_ (by assumption)) | (with_reducible refine Rd.below_alloc ?_ _) | (with_reducible refine Rd.below_drewN ?_ _) | (with_reducible refine Below.drew ?_) | (with_reducible refine Below.setCell ?_ ?_ _) | (with_reducible refine Rd.below_setRow ?_ ?_ _) | go_size | (simp only [World.size_alloc]; omega) | omega)⟩
end Go.Proofs.Ytjbmochndpdolaa.TriK

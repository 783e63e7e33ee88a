/-
  The document's own directory: Get.
  The document's own directory: With.
-/
import Derived.Test.YtpjbacpchmemeaaDiRb
import Derived.Test.YtpjbacpchmemeaaDiN
import Derived.Test.YtpjbacpchmemeaaDiP
namespace Go.Proofs.Ytpjbacpchmemeaa.DiRc
open Go.RowKit Go.Shelf Rd Go.Proofs.Ytpjbacpchmemeaa.Row Mid PgM PgA PgB PgC DiM DiA DiC DiD DiE DiF DiJ DiK DiL DiN DiX DiRb
open Go.Proofs.Ytpjbacpchmemeaa.DiM (at_ at_get ce ce_len ce_app ce_one ce_ones ce_at)
set_option linter.unusedVariables false
set_option linter.unusedSimpArgs false
set_option maxRecDepth 10000
attribute [local go_sem ↓] load_pg store_pg load_en store_en alloc_en eq_pg3
attribute [local go_sem] one_int pc3 piece_en piece_p3 DiI.fold_en run_store_pg run_alloc_en run_store_en rowStore_eq blk_alloc_at blk_alloc_old blk_drew blk_drewN blk_set_far blk_set_far' blk_grow setRow_alloc_at setRow_alloc_old setRow_drew setRow_drewN En.c_size En.c_all all6
theorem ld_pg0 {W : World} {b : Nat} {x y z : Int} (h : blk W b = some (.cells #[.int .i64 x, .int .i64 y, .int .i64 z] 25 (0, 0))) : (loadRow 25 (.pointer (some ⟨b, 0, none⟩))).run Try.prog W = .ok (pg x y z) W := by
  rw [run_load_pg, midLoad_eq, h]
  rfl
theorem getO_no {r : List En} {P : List Int} (h : ∀ j, j < r.length → (at_ r j).P ≠ P) : getO r P = none := by
  unfold getO
  refine List.find?_eq_none.2 fun p hp => ?_
  obtain ⟨i, hi, rfl⟩ := List.mem_iff_getElem.1 hp
  have := h i hi
  rw [at_get hi] at this
  simpa using this
theorem getO_at {r : List En} {P : List Int} {k : Nat} (hk : k < r.length) (h : ∀ j, j < k → (at_ r j).P ≠ P) (he : (at_ r k).P = P) : getO r P = some (at_ r k) := by
  refine get_found (q := r.take k) (DiF.pre_at hk) (fun y hy => ?_) he
  obtain ⟨i, hi, rfl⟩ := List.mem_iff_getElem.1 hy
  rw [List.length_take] at hi
  have := h i (by omega)
  rw [at_get (by omega)] at this
  rw [List.getElem_take]
  exact this
set_option maxHeartbeats 4000000 in
theorem rget_any (t : Nat) (d : Int) (r : List En) (x y z : Int) (w : World) (h : Rf w t d r) (hsm : r.length ≤ 10000) :
    Calls Try.prog 16 #[.pointer (some ⟨t, 0, none⟩), pg x y z] w fun e w' => e = .returned (.tuple #[((getO r [x, y, z]).getD En.z).v, .bool (getO r [x, y, z]).isSome]) ∧ Below w.heap.size w w' := by
  have H := Lib.hid h
  have lT := h.lt
  obtain ⟨a, c, bT, hRL, hcL⟩ := h
  have HRL := Lib.hid hRL
  have BT := Lib.hid bT
  have HNO := Lib.hid (getO_no (r := r) (P := [x, y, z]))
  have HAT := Lib.hid (fun k => getO_at (r := r) (P := [x, y, z]) (k := k))
  obtain ⟨res, er⟩ : ∃ o, getO r [x, y, z] = o := ⟨_, rfl⟩
  rw [er] at HNO HAT ⊢
  obtain ⟨n, en⟩ : ∃ n, r.length = n := ⟨_, rfl⟩
  rw [en] at BT hcL hsm
  have HN := Lib.hid en
  clear er en hRL bT
  go_enter Try.func16, Try.ntmps16
  go_upto_region 1 with (fail)
  refine Rd.name_world ?_
  intro w2 hw
  have bP : blk w2 w.heap.size = some (.cells #[.int .i64 x, .int .i64 y, .int .i64 z] 25 (0, 0)) := by rw [hw]; exact (blk_alloc_old _ _ _ (by simp)).trans (blk_alloc_at _ _ _ rfl)
  have bZ : blk w2 (w.heap.size + 1) = some (.cells En.z.c 39 (0, 0)) := by rw [hw]; exact blk_alloc_at _ _ _ (by simp)
  have L2 : Below w.heap.size w w2 := by
    rw [hw]
    repeat' (first | (with_reducible exact Below.refl _ _) | (with_reducible refine Rd.below_step ?_ (by assumption)) | (with_reducible refine Rd.below_alloc ?_ _) | (with_reducible refine Rd.below_drewN ?_ _) | (with_reducible refine Below.drew ?_) | (with_reducible refine Below.setCell ?_ ?_ _) | (with_reducible refine Rd.below_setRow ?_ ?_ _) | go_size | (simp only [World.size_alloc]; omega) | omega)
  have BP := Lib.hid bP
  have BZ := Lib.hid bZ
  clear hw bP bZ
  go_wp2_with fail
  go_loopw [6] (fun i W => ∃ k : Nat, k ≤ n ∧ i = .int .i64 (k : Int) ∧ Hid (∀ j, j < k → (at_ r j).P ≠ [x, y, z]) ∧ Below w2.heap.size w2 W) (fun i _ => n - (intOf i).toNat)
  case atStart => exact ⟨0, Nat.zero_le _, rfl, Lib.hid (fun j hj => absurd hj (Nat.not_lt_zero _)), Below.refl _ _⟩
  case round =>
    obtain ⟨k, hk, rfl, HK, hb⟩ := hrel
    rename World => W
    have LW := L2.trans (hb.mono L2.size)
    have c1 : W.cell? ⟨t, 1, none⟩ = some (.slice a n c) := by rw [blk_cell ((blk_below LW t lT).trans BT.out)]; rfl
    have bPW := (blk_below hb _ (blk_lt BP.out)).trans BP.out
    have bZW := (blk_below hb _ (blk_lt BZ.out)).trans BZ.out
    by_cases hlt : k < n
    · have hlt' : (k : Int) < (n : Int) := by omega
      obtain ⟨g2, o2, e2⟩ := HRL.out.2 (fun e => by have := HN.out; rw [e] at this; simp at this; omega)
      have hkl : k < r.length := by rw [HN.out]; exact hlt
      have hrl : Reads W 6 (some ⟨g2, o2, none⟩) r.length (ce r) := e2 ▸ (HRL.out.bel LW).1
      rw [e2] at c1
      have gc := Go.cell_regrown c1
      have gX : ∀ dd os, (loadRow 25 (.pointer (some ⟨g2, o2 + k * 6, none⟩))).run Try.prog (Sort.grow (redrawn W dd) os) = .ok (pg (at_ r k).L (at_ r k).X (at_ r k).Y) (Sort.grow (redrawn W dd) os) := fun dd os => ld_pgen (hrl.below (below_regrown W dd os) (Nat.le_refl _)) hkl
      have gP : ∀ dd os, (loadRow 25 (.pointer (some ⟨w.heap.size, 0, none⟩))).run Try.prog (Sort.grow (redrawn W dd) os) = .ok (pg x y z) (Sort.grow (redrawn W dd) os) := fun dd os => ld_pg0 ((blk_below (below_regrown W dd os) _ (blk_lt bPW)).trans bPW)
      have HRW := Lib.hid hrl
      have HA := Lib.hid (HAT.out k hkl HK.out)
      obtain ⟨p, ep⟩ : ∃ p, at_ r k = p := ⟨_, rfl⟩
      rw [ep] at gX HA
      have EP := Lib.hid ep
      obtain ⟨q, eq⟩ : ∃ q, eqL [p.L, p.X, p.Y] [x, y, z] = q := ⟨_, rfl⟩
      have EQ : Hid (decide (p.P = [x, y, z]) = q) := Lib.hid eq
      clear ep
      go_upto_region 4 with (fail)
      (refine wp_region_quiet_below (by kernel_rfl) (by kernel_rfl) ?_; (repeat (go_big_quiet_step ((fail)))); refine wpQuiet_nil ?_)
      intro w3 hU
      have hW3 := Rd.below_of_regrown hU
      have L3 := Rd.below_step hb hW3
      have c13 : w3.cell? ⟨t, 1, none⟩ = some (.slice (some ⟨g2, o2, none⟩) n c) := (hW3.cell (p := ⟨t, 1, none⟩) (block_lt_of_cell c1)).trans c1
      have bZ3 := (blk_below hW3 _ (blk_lt bZW)).trans bZW
      have HR3 := Lib.hid (HRW.out.below hW3 (Nat.le_refl _))
      clear hU c1 gc gX gP bPW bZW hrl hb LW
      cases q
      case true =>
        have E := Lib.hid (HA.out (of_decide_eq_true EQ.out))
        have hld := ld_en HR3.out (i := k) hkl
        rw [EP.out] at hld
        clear hW3
        go_wp2
        refine ret_en2 rfl (w.heap.size + 1) p rfl ?_ rfl ⟨?_, ?_⟩
        · exact blk_setRow_of bZ3 _
        · rw [E.out]; rfl
        · have L4 := L2.trans (L3.mono L2.size)
          repeat' (first | (with_reducible exact Below.refl _ _) | (with_reducible refine Rd.below_step ?_ (by assumption)) | (with_reducible refine Rd.below_alloc ?_ _) | (with_reducible refine Rd.below_drewN ?_ _) | (with_reducible refine Below.drew ?_) | (with_reducible refine Below.setCell ?_ ?_ _) | (with_reducible refine Rd.below_setRow ?_ ?_ _) | go_size | (simp only [World.size_alloc]; omega) | omega)
      case false =>
        clear hW3
        go_wp2
        go_roundw
        case rel => exact ⟨k + 1, by omega, by go_num, Lib.hid (fun j hj => by
          rcases Nat.lt_or_ge j k with h | h
          · exact HK.out j h
          · rw [show j = k by omega, EP.out]; exact of_decide_eq_false EQ.out), L3⟩
        case measure => simp [intOf]; omega
    · obtain rfl : n = k := by omega
      have hlt' : ¬ (n : Int) < (n : Int) := by omega
      have E := Lib.hid (HNO.out (fun j hj => HK.out j (by rw [← HN.out]; exact hj)))
      clear bPW
      go_wp2
      refine ret_en2 rfl (w.heap.size + 1) En.z rfl ?_ rfl ⟨?_, ?_⟩
      · exact blk_setRow_of bZW _
      · rw [E.out]; rfl
      · repeat' (first | (with_reducible exact Below.refl _ _) | (with_reducible refine Rd.below_step ?_ (by assumption)) | (with_reducible refine Rd.below_alloc ?_ _) | (with_reducible refine Rd.below_drewN ?_ _) | (with_reducible refine Below.drew ?_) | (with_reducible refine Below.setCell ?_ ?_ _) | (with_reducible refine Rd.below_setRow ?_ ?_ _) | go_size | (simp only [World.size_alloc]; omega) | omega)
end Go.Proofs.Ytpjbacpchmemeaa.DiRc

namespace Go.Proofs.Ytpjbacpchmemeaa.DiRd
open Go.RowKit Go.Shelf Rd Go.Proofs.Ytpjbacpchmemeaa.Row Mid PgM PgA PgB PgC DiM DiA DiC DiD DiE DiF DiJ DiK DiL DiN DiO DiX DiRb DiRc
open Go.Proofs.Ytpjbacpchmemeaa.DiM (at_ at_get ce ce_len ce_app ce_one ce_ones ce_at)
set_option linter.unusedVariables false
set_option linter.unusedSimpArgs false
set_option maxRecDepth 10000
attribute [local go_sem ↓] load_pg store_pg load_en store_en alloc_en eq_pg3
attribute [local go_sem] one_int pc3 piece_en piece_p3 DiI.fold_en run_store_pg run_alloc_en run_store_en rowStore_eq blk_alloc_at blk_alloc_old blk_drew blk_drewN blk_set_far blk_set_far' blk_grow setRow_alloc_at setRow_alloc_old setRow_drew setRow_drewN En.c_size En.c_all all6
theorem has_step {l : List En} {P : List Int} {j : Nat} (hj : j < l.length) : hasP (l.take (j + 1)) P = (hasP (l.take j) P || decide ((at_ l j).P = P)) := by
  rw [take_snoc hj]
  simp [hasP]
theorem keep_step (l r : List En) {k : Nat} (hk : k < r.length) : keepP l (r.take (k + 1)) = if hasP l (at_ r k).P = true then keepP l (r.take k) else keepP l (r.take k) ++ [at_ r k] := by
  rw [take_snoc hk]
  unfold keepP
  rw [List.filter_append]
  cases h : hasP l (at_ r k).P <;> simp [h]
theorem rfo_below {X Y : World} {v : Value} {d : Int} {o : Option (List En)} (h : RfO X v d o) (hb : Below X.heap.size X Y) : RfO Y v d o := by
  cases o with
  | none => exact h
  | some r =>
    obtain ⟨t, h1, h2⟩ := h
    exact ⟨t, h1, h2.bel hb⟩
set_option maxHeartbeats 8000000 in
theorem rwith_any (t : Nat) (d : Int) (r : List En) (ad : Option Addr) (cap : Nat) (l : List En) (w : World) (h : Rf w t d r) (hR : RdE w ad l) (hsm : r.length ≤ 400) (hl : l.length ≤ 400) :
    Calls Try.prog 18 #[.pointer (some ⟨t, 0, none⟩), .slice ad l.length cap] w fun e w' => (∃ v, e = .returned v ∧ RfO w' v d (newV d (keepP l r ++ l))) ∧ Below w.heap.size w w' := by
  have lT := h.lt
  obtain ⟨a, c, bT, hRL, hcL⟩ := h
  have HRL := Lib.hid hRL
  have HR := Lib.hid hR
  have BT := Lib.hid bT
  have HKS := Lib.hid (fun k => keep_step l r (k := k))
  have HHS := Lib.hid (fun j P => has_step (l := l) (P := P) (j := j))
  have HKL := Lib.hid (fun k => DiO.keepP_len l (r.take k))
  obtain ⟨n, en⟩ : ∃ n, r.length = n := ⟨_, rfl⟩
  rw [en] at BT hcL hsm
  obtain ⟨m, em⟩ : ∃ n, l.length = n := ⟨_, rfl⟩
  rw [em] at hl ⊢
  have HN := Lib.hid en
  have HM := Lib.hid em
  obtain ⟨K0, ek0⟩ : ∃ K, keepP l r = K := ⟨_, rfl⟩
  rw [ek0]
  have EK0 := Lib.hid ek0
  clear en em hRL hR bT ek0
  go_enter Try.func18, Try.ntmps18
  go_wp2_with fail
  go_loopw [5, 6] (fun v i W => ∃ k q : Nat, k ≤ n ∧ q ≤ k ∧ i = .int .i64 (k : Int) ∧ Hid (Rown W w.heap.size v q (keepP l (r.take k))) ∧ Below w.heap.size w W) (fun _ i _ => n - (intOf i).toNat)
  case atStart => exact ⟨0, 0, Nat.zero_le _, Nat.le_refl _, rfl, Lib.hid (World.ownsRow_nil _ _ _ _), Below.refl _ _⟩
  case round =>
    obtain ⟨k, q, hk, hq, rfl, HW, hb⟩ := hrel
    rename World => W
    rename Value => v
    obtain ⟨av, cv, rfl, hcv⟩ := Rd.owns_val HW.out
    clear hcv
    have c1 : W.cell? ⟨t, 1, none⟩ = some (.slice a n c) := by rw [blk_cell ((blk_below hb t lT).trans BT.out)]; rfl
    by_cases hlt : k < n
    · have hlt' : (k : Int) < (n : Int) := by omega
      have hkl : k < r.length := by rw [HN.out]; exact hlt
      obtain ⟨g2, o2, e2⟩ := HRL.out.2 (fun e => by have := HN.out; rw [e] at this; simp at this; omega)
      rw [e2] at c1
      have HRX := Lib.hid (show RdE w (some ⟨g2, o2, none⟩) r from e2 ▸ HRL.out)
      have HK2 := Lib.hid (HKS.out k hkl)
      obtain ⟨x, ex⟩ : ∃ x, at_ r k = x := ⟨_, rfl⟩
      rw [ex] at HK2
      have EX := Lib.hid ex
      clear ex
      go_wp2_with fail
      clear c1
      go_loopw [7, 8] (fun gv i Y => ∃ j : Nat, j ≤ m ∧ i = .int .i64 (j : Int) ∧ gv = .bool (hasP (l.take j) x.P) ∧ Below W.heap.size W Y) (fun _ i _ => m - (intOf i).toNat)
      case atStart => exact ⟨0, Nat.zero_le _, rfl, rfl, Below.refl _ _⟩
      case round =>
        obtain ⟨j, hj, rfl, rfl, hb2⟩ := hrel
        rename World => Y
        have LY := Rd.below_step hb hb2
        have c1 : Y.cell? ⟨t, 1, none⟩ = some (.slice (some ⟨g2, o2, none⟩) n c) := by rw [blk_cell ((blk_below LY t lT).trans BT.out), e2]; rfl
        have gc := Go.cell_regrown c1
        by_cases hjm : j < m
        · have hjm' : (j : Int) < (m : Int) := by omega
          have hjl : j < l.length := by rw [HM.out]; exact hjm
          obtain ⟨g3, o3, rfl⟩ := HR.out.2 (fun e => by have := HM.out; rw [e] at this; simp at this; omega)
          have gX : ∀ dd os, (loadRow 25 (.pointer (some ⟨g2, o2 + k * 6, none⟩))).run Try.prog (Sort.grow (redrawn Y dd) os) = .ok (pg (at_ r k).L (at_ r k).X (at_ r k).Y) (Sort.grow (redrawn Y dd) os) := fun dd os => ld_pgen ((HRX.out.bel LY).1.below (below_regrown Y dd os) (Nat.le_refl _)) hkl
          have gL : ∀ dd os, (loadRow 25 (.pointer (some ⟨g3, o3 + j * 6, none⟩))).run Try.prog (Sort.grow (redrawn Y dd) os) = .ok (pg (at_ l j).L (at_ l j).X (at_ l j).Y) (Sort.grow (redrawn Y dd) os) := fun dd os => ld_pgen ((HR.out.bel LY).1.below (below_regrown Y dd os) (Nat.le_refl _)) hjl
          have HS := Lib.hid (HHS.out j x.P hjl)
          rw [EX.out] at gX
          obtain ⟨y, ey⟩ : ∃ y, at_ l j = y := ⟨_, rfl⟩
          rw [ey] at gL HS
          obtain ⟨q1, e1⟩ : ∃ z, hasP (l.take j) x.P = z := ⟨_, rfl⟩
          obtain ⟨q2, eq2⟩ : ∃ z, eqL [y.L, y.X, y.Y] [x.L, x.X, x.Y] = z := ⟨_, rfl⟩
          have HQ2 : Hid (decide (y.P = x.P) = q2) := Lib.hid eq2
          rw [e1] at HS ⊢
          clear ey e1 c1
          cases q1
          case true =>
            go_upto_region 9 with (fail)
            (refine wp_region_quiet_below (by kernel_rfl) (by kernel_rfl) ?_; (repeat (go_big_quiet_step ((fail)))); refine wpQuiet_nil ?_)
            intro w6 hU
            have L6 := Rd.below_step hb2 (Rd.below_of_regrown hU)
            clear hU gX gL gc
            go_wp2
            go_roundw
            case rel => exact ⟨j + 1, by omega, by go_num, by rw [HS.out]; rfl, L6⟩
            case measure => simp [intOf]; omega
          case false =>
            go_upto_region 9 with (fail)
            (refine wp_region_quiet_below (by kernel_rfl) (by kernel_rfl) ?_; (repeat (go_big_quiet_step ((fail)))); refine wpQuiet_nil ?_)
            intro w6 hU
            have L6 := Rd.below_step hb2 (Rd.below_of_regrown hU)
            clear hU gX gL gc
            go_wp2
            go_roundw
            case rel => exact ⟨j + 1, by omega, by go_num, by rw [HS.out, HQ2.out]; rfl, L6⟩
            case measure => simp [intOf]; omega
        · obtain rfl : m = j := by omega
          have hjm' : ¬ (m : Int) < (m : Int) := by omega
          have hfull : l.take m = l := by rw [← HM.out, List.take_length]
          obtain ⟨q1, e1⟩ : ∃ z, hasP (l.take m) x.P = z := ⟨_, rfl⟩
          rw [e1]
          rw [hfull] at e1
          rw [e1] at HK2
          have HWY := Lib.hid (DiC.Rown.below HW.out hb2)
          clear hfull e1 gc
          cases q1
          case true =>
            have hk2 := HK2.out
            rw [if_pos rfl] at hk2
            have HK3 := Lib.hid hk2
            clear c1 hk2
            go_wp2
            go_roundw
            case rel => exact ⟨k + 1, q, by omega, by omega, by go_num, Lib.hid (by rw [HK3.out]; exact HWY.out), LY⟩
            case measure => simp [intOf]; omega
          case false =>
            have hk2 := HK2.out
            rw [if_neg (by simp)] at hk2
            have HK3 := Lib.hid hk2
            have hld := ld_en (HRX.out.bel LY).1 (i := k) hkl
            rw [EX.out] at hld
            have sY := LY.size
            clear hk2
            go_wp2_with (at_builtin; refine app_en rfl (.tmp 43) (.tmp 51) rfl w.heap.size _ _ _ rfl (HWY.out.alloc _) Y.heap.size 1 x rfl (blk_alloc_at _ _ _ rfl) (by omega) (by simp; omega) ?_; intro v4 w4 ho4 hg4)
            go_roundw
            case rel => exact ⟨k + 1, q + 1, by omega, by omega, by go_num, Lib.hid (by rw [HK3.out]; exact ho4), DiI.below_grown (B := 0) (Below.alloc LY (by omega) _) hg4 (Nat.le_refl _) (fun r e => by have := (HWY.out.lt r e).1; omega)⟩
            case measure => simp [intOf]; omega
    · obtain rfl : n = k := by omega
      have hlt' : ¬ (n : Int) < (n : Int) := by omega
      have hfull : r.take n = r := by rw [← HN.out, List.take_length]
      have hWW := HW.out
      rw [hfull] at hWW
      have HRO := Lib.hid hWW
      have hql := DiC.Rown.len hWW
      have HBT := Lib.hid ((blk_below hb t lT).trans BT.out)
      have HRR := Lib.hid (HR.out.bel hb)
      have hbw := hb.size
      rw [EK0.out] at HRO hql
      clear hfull hWW HKS HHS HKL HRL HR
      go_upto_region 12 with (fail)
      refine PredT.region_of (W := W) (w.heap.size) hbw [6] [
          fun y => Below W.heap.size W y,
          fun _ => True] [
          PredT.At 0 (.pointer (some ⟨t, 0, none⟩)),
          PredT.At 0 (.pointer (some ⟨t, 0, none⟩)),
          PredT.At 0 (.pointer (some ⟨t, 0, none⟩)),
          PredT.At 0 (.int .i64 d),
          PredT.At 0 (.slice av q cv),
          PredT.At 0 (.slice ad m cap),
          PredT.When 1 (fun u y => Rown y w.heap.size u (q + m) (K0 ++ l)),
          PredT.When 1 (fun u y => RfO y u d (newV d (K0 ++ l))),
          PredT.When 1 (fun u y => RfO y u d (newV d (K0 ++ l)))] (by kernel_rfl) (by kernel_rfl) (by kernel_rfl) (by decide) (by decide) ?_ ?_ ?_ ?_ ?_ ?_
      · exact ⟨PredT.at_stab _ _ _ _, PredT.at_stab _ _ _ _, PredT.at_stab _ _ _ _, PredT.at_stab _ _ _ _, PredT.at_stab _ _ _ _, PredT.at_stab _ _ _ _, PredT.when_stab _ _ _ (fun u y y' h hb => DiC.Rown.below h hb), PredT.when_stab _ _ _ (fun u y y' h hb => rfo_below h hb), PredT.when_stab _ _ _ (fun u y y' h hb => rfo_below h hb), trivial⟩
      · intro q hq
        rcases List.mem_cons.1 hq with rfl | hq
        · exact fun y y' h hb => h.trans (hb.mono h.size)
        rcases List.mem_cons.1 hq with rfl | hq
        · exact fun _ _ _ _ => trivial
        cases hq
      · exact Below.refl _ _
      · refine ⟨.inr ?_, .inr ?_, .inr ?_, .inr ?_, .inr ?_, .inr ?_, .inl rfl, .inr ?_, .inr ?_, trivial⟩
        · intro b9 X ph hE hd hn hS hV hI hF
          have r0 : b9.tmps[0]?.getD undef = .pointer (some ⟨t, 0, none⟩) := (hn 0 (by kernel_rfl)).trans rfl
          exact Pred.yields_run (v := .pointer (some ⟨t, 0, none⟩)) (Pred.wanted_none rfl) (by go_simp) ⟨Below.refl _ _, rfl, Nat.zero_le _⟩
        · intro b9 X ph hE hd hn hS hV hI hF
          obtain ⟨r53, j53⟩ : PredT.At 0 (.pointer (some ⟨t, 0, none⟩)) (b9.tmps[53]?.getD undef) X ph := hV 0 _ 53 rfl rfl (Pred.waits_near (by kernel_rfl) (by kernel_rfl))
          exact Pred.yields_run (v := .pointer (some ⟨t, 0, none⟩)) (Pred.wanted_none rfl) (by go_simp) ⟨Below.refl _ _, rfl, Nat.zero_le _⟩
        · intro b9 X ph hE hd hn hS hV hI hF
          obtain ⟨r54, j54⟩ : PredT.At 0 (.pointer (some ⟨t, 0, none⟩)) (b9.tmps[54]?.getD undef) X ph := hV 1 _ 54 rfl rfl (Pred.waits_near (by kernel_rfl) (by kernel_rfl))
          exact Pred.yields_run (v := .pointer (some ⟨t, 0, none⟩)) (Pred.wanted_none rfl) (by go_simp) ⟨Below.refl _ _, rfl, Nat.zero_le _⟩
        · intro b9 X ph hE hd hn hS hV hI hF
          obtain ⟨r55, j55⟩ : PredT.At 0 (.pointer (some ⟨t, 0, none⟩)) (b9.tmps[55]?.getD undef) X ph := hV 2 _ 55 rfl rfl (Pred.waits_near (by kernel_rfl) (by kernel_rfl))
          have z : X.cell? ⟨t, 0, none⟩ = some (.int .i64 d) := by rw [blk_cell ((blk_below hE t lT).trans HBT.out)]; rfl
          exact Pred.yields_run (v := .int .i64 d) (Pred.wanted_none rfl) (by go_simp) ⟨Below.refl _ _, rfl, Nat.zero_le _⟩
        · intro b9 X ph hE hd hn hS hV hI hF
          have r5 : b9.tmps[5]?.getD undef = .slice av q cv := (hn 5 (by kernel_rfl)).trans rfl
          exact Pred.yields_run (v := .slice av q cv) (Pred.wanted_none rfl) (by go_simp) ⟨Below.refl _ _, rfl, Nat.zero_le _⟩
        · intro b9 X ph hE hd hn hS hV hI hF
          have r1 : b9.tmps[1]?.getD undef = .slice ad m cap := (hn 1 (by kernel_rfl)).trans rfl
          exact Pred.yields_run (v := .slice ad m cap) (Pred.wanted_none rfl) (by go_simp) ⟨Below.refl _ _, rfl, Nat.zero_le _⟩
        · intro b9 X ph hE hd hn hS hV hI hF
          obtain ⟨r56, j56⟩ : PredT.At 0 (.int .i64 d) (b9.tmps[56]?.getD undef) X ph := hV 3 _ 56 rfl rfl (Pred.waits_near (by kernel_rfl) (by kernel_rfl))
          obtain ⟨j59, r59⟩ : PredT.When 1 (fun u y => Rown y w.heap.size u (q + m) (K0 ++ l)) (b9.tmps[59]?.getD undef) X ph := hV 6 _ 59 rfl rfl (Pred.waits_near (by kernel_rfl) (by kernel_rfl))
          have hp1 : ph = 1 := by have := PredT.sel_le hS; simp at this; omega
          have ho9 := r59 hp1
          clear r59
          obtain ⟨u, hu⟩ : ∃ u, b9.tmps[59]?.getD undef = u := ⟨_, rfl⟩
          rw [hu] at ho9
          obtain ⟨a', c', rfl, hRd⟩ := DiJ.Rown.rd ho9
          have hlen : (K0 ++ l).length ≤ 1000 := by rw [List.length_append, hql, HM.out]; omega
          refine Pred.yields_call (f := 9) (args := #[.int .i64 d, .slice a' (K0 ++ l).length c']) (Pred.wanted_none rfl) (by go_simp) ?_
          exact (rnew_any d a' c' (K0 ++ l) X hRd hlen).mono fun e y9 ⟨⟨v9, he, hv9⟩, hb9⟩ => ⟨v9, he, hb9, j59, fun _ => hv9⟩
        · intro b9 X ph hE hd hn hS hV hI hF
          obtain ⟨j60, r60⟩ : PredT.When 1 (fun u y => RfO y u d (newV d (K0 ++ l))) (b9.tmps[60]?.getD undef) X ph := hV 7 _ 60 rfl rfl (Pred.waits_near (by kernel_rfl) (by kernel_rfl))
          have hown := r60
          exact Pred.yields_run (v := b9.tmps[60]?.getD undef) (Pred.wanted_none rfl) (by go_simp) ⟨Below.refl _ _, j60, hown⟩
      · refine ⟨?_, trivial⟩
        · refine ⟨_, rfl, fun k hk => (by cases hk), fun b9 X hE hd hn hS hV hI => ?_⟩
          obtain ⟨r57, j57⟩ : PredT.At 0 (.slice av q cv) (b9.tmps[57]?.getD undef) X 0 := hV 4 _ 57 rfl rfl (Pred.waits_near (by kernel_rfl) (by kernel_rfl))
          obtain ⟨r58, j58⟩ : PredT.At 0 (.slice ad m cap) (b9.tmps[58]?.getD undef) X 0 := hV 5 _ 58 rfl rfl (Pred.waits_near (by kernel_rfl) (by kernel_rfl))
          replace hS : (fun y => Below W.heap.size W y) X := hS
          have hXs := hS.size
          refine yields_app_e rfl (.tmp 57) (.tmp 58) rfl w.heap.size _ q K0 (by simpa [Act.eval] using r57) (DiC.Rown.below HRO.out hS) ad m cap l (by simpa [Act.eval] using r58) (by have h8 := (HRR.out.1.below hS (Nat.le_refl _)); rw [HM.out] at h8; exact h8) (by omega) (by omega) ?_
          intro u y hown hgr
          have hbq := OctA.below_grownBy (B := w.heap.size) hgr (by omega) (fun k hk => ((DiC.Rown.below HRO.out hS).lt k hk).1)
          exact ⟨hbq, trivial, Nat.le_refl _, fun _ => hown⟩
      intro v X hE hS hv
      replace hS : (fun _ => True) X := hS
      have e0 : v 0 = .pointer (some ⟨t, 0, none⟩) := (hv 0 _ 53 rfl rfl).1
      have e1 : v 1 = .pointer (some ⟨t, 0, none⟩) := (hv 1 _ 54 rfl rfl).1
      have e2 : v 2 = .pointer (some ⟨t, 0, none⟩) := (hv 2 _ 55 rfl rfl).1
      have e3 : v 3 = .int .i64 d := (hv 3 _ 56 rfl rfl).1
      have e4 : v 4 = .slice av q cv := (hv 4 _ 57 rfl rfl).1
      have e5 : v 5 = .slice ad m cap := (hv 5 _ 58 rfl rfl).1
      generalize hg6 : v 6 = vv6
      generalize hg7 : v 7 = vv7
      have HP8 : RfO X (v 8) d (newV d (K0 ++ l)) := (hv 8 _ 4 rfl rfl).2 rfl
      generalize hg8 : v 8 = vv8 at HP8
      simp only [Pred.putsF_cons, Pred.putsF_nil, Nat.zero_add, Nat.reduceAdd, e0, e1, e2, e3, e4, e5, hg6, hg7, hg8, Act.put, List.setIfInBounds_toArray, List.set_cons_zero, List.set_cons_succ]
      clear e0 e1 e2 e3 e4 e5 hg6 hg7 hg8 hv
      have LX : Below w.heap.size w X := hb.trans hE
      clear hE hS
      go_wp2
      go_ret
      exact ⟨⟨_, rfl, HP8⟩, LX⟩
end Go.Proofs.Ytpjbacpchmemeaa.DiRd

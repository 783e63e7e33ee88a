/-
  The document's own pool: its row in the store; find, Has, Get.
-/
import Derived.Test.YtkklppjimnkibaaPoL
import Derived.BigGuard
namespace Go.Proofs.Ytkklppjimnkibaa.PoS
open Go.RowKit Go.Shelf Rd Go.Proofs.Ytkklppjimnkibaa.Row Mid LrM PgM PgA PgB PgC PgN PoM PoA PoB PoE PoH PoI PoL
open Go.Proofs.Ytkklppjimnkibaa.PoD (us us_len By dataL data_len data_B data_any)
open Go.Proofs.Ytkklppjimnkibaa.Num (ret_int ret_bool)
open Go.Proofs.Ytkklppjimnkibaa.MpE (owns_mono)
open It (get_lt)
set_option linter.unusedVariables false
set_option linter.unusedSimpArgs false
set_option maxRecDepth 10000
/-- the document's pool -/
structure Rp (X : World) (base qb n d : Nat) (v : Value) (rs : List (List Value)) (R : List Ent) : Prop where
  p : blk X qb = some (.cells #[.int .i64 n, .int .i64 d, v] 80 (0, 0))
  r : X.ownsRow base 77 4 v rs.length (DkM.fl rs)
  r4 : ∀ l ∈ rs, l.length = 4
  len : rs.length = R.length
  sl : Sl X (fun k => base ≤ k) R rs
  p3 : ∀ i, i < R.length → (ent R i).1.length = 3
  lo : base ≤ qb
variable {X Y : World} {base qb n d : Nat} {v : Value} {rs : List (List Value)} {R : List Ent}
theorem Rp.same (h : Rp X base qb n d v rs R) (hk : ∀ k c t, X.heap[k]? = some (.cells c t (0, 0)) → base ≤ k → t = 80 ∨ t = 77 ∨ t = 5 → Y.heap[k]? = X.heap[k]?) : Rp Y base qb n d v rs R :=
  ⟨(hk qb _ _ h.p h.lo (.inl rfl)).trans h.p, own_same h.r fun k e => (by obtain ⟨c, hc, hb⟩ := own_pos' h.r e; exact hk k c _ hc hb (.inr (.inl rfl))), h.r4, h.len, h.sl.kept fun k c hb hc => hk k c _ hc hb (.inr (.inr rfl)), h.p3, h.lo⟩
theorem Rp.bel (h : Rp X base qb n d v rs R) (hb : Below X.heap.size X Y) : Rp Y base qb n d v rs R := h.same fun k c t hc _ _ => hb.block k (get_lt hc)
theorem Rp.pf {lo : Lo} {pb gw n' d' : Nat} {Bb : Nat → Prop} {R' : List Ent} (h : Rp X base qb n d v rs R) (hp : Pl X lo Bb pb gw n' d' R') (hf : PF lo gw X Y) : Rp Y base qb n d v rs R := h.same fun k c t hc _ ht => by
  obtain ⟨lb, lg, v, sl, o, wl, ⟨rs, hl, hq, hsl⟩, h2⟩ := hp
  rcases ht with rfl | rfl | rfl <;> exact hf.u8 hc (by decide) (hq.gw_int hc (by decide))
theorem Rp.lt (h : Rp X base qb n d v rs R) : qb < X.heap.size := blk_lt h.p
theorem Rp.c0 (h : Rp X base qb n d v rs R) : X.cell? ⟨qb, 0, none⟩ = some (.int .i64 n) := by rw [blk_cell h.p]; rfl
theorem Rp.c1 (h : Rp X base qb n d v rs R) : X.cell? ⟨qb, 1, none⟩ = some (.int .i64 d) := by rw [blk_cell h.p]; rfl
theorem Rp.c2 (h : Rp X base qb n d v rs R) : X.cell? ⟨qb, 2, none⟩ = some v := by rw [blk_cell h.p]; rfl
def fndI (R : List Ent) (v : List Int) : Int := match ixR R v with | some i => (i : Int) | none => -1
theorem fnd_no {R : List Ent} {v : List Int} (h : ∀ j, j < R.length → (ent R j).1 ≠ v) : fndI R v = -1 := by
  unfold fndI
  rw [ix_none.2 fun e he hv => ?_]
  obtain ⟨i, hi, rfl⟩ := List.getElem_of_mem he
  exact h i hi (by unfold ent; rw [List.getD_eq_getElem?_getD, List.getElem?_eq_getElem hi]; exact hv)
theorem fnd_yes {R : List Ent} {v : List Int} {i : Nat} (hi : i < R.length) (h : ∀ j, j < i → (ent R j).1 ≠ v) (he : (ent R i).1 = v) : fndI R v = (i : Int) := by
  have e : R = R.take i ++ R[i] :: R.drop (i + 1) := by rw [← List.drop_eq_getElem_cons hi, List.take_append_drop]
  have hei : ent R i = R[i] := by unfold ent; rw [List.getD_eq_getElem?_getD, List.getElem?_eq_getElem hi]; rfl
  have hP : ∀ x ∈ R.take i, x.1 ≠ R[i].1 := by
    intro x hx
    obtain ⟨j, hj, rfl⟩ := List.getElem_of_mem hx
    rw [List.length_take] at hj
    have := h j (by omega)
    rw [← hei, he]
    intro hv
    refine this ?_
    unfold ent
    rw [List.getD_eq_getElem?_getD, List.getElem?_eq_getElem (by omega)]
    rw [List.getElem_take] at hv
    exact hv
  have := ix_app (S := R.drop (i + 1)) hP
  rw [← e, List.length_take, Nat.min_eq_left (by omega), ← hei, he] at this
  unfold fndI
  rw [this]
attribute [local go_sem ↓] load_pg store_pg eq_pg3
attribute [local go_sem] one_slice one_int pc3 run_load_pg run_store_pg midLoad_eq rowLoad_eq rowStore_eq blk_alloc_at blk_alloc_old blk_drew blk_drewN blk_set_far blk_set_far' blk_grow setRow_alloc_at setRow_alloc_old setRow_drew setRow_drewN
set_option maxHeartbeats 2000000 in
theorem find_any (L X0 Y0 : Int) (w : World) (h : Rp w base qb n d v rs R) (hn : R.length ≤ 1000) :
    Calls Try.prog 41 #[.pointer (some ⟨qb, 0, none⟩), pg L X0 Y0] w fun e w' => e = .returned (.int .i64 (fndI R [L, X0, Y0])) ∧ Below w.heap.size w w' := by
  have H := Lib.hid h
  obtain ⟨av, cv, rfl, -⟩ := Rd.owns_val h.r
  have hlr := h.len
  clear h
  go_enter Try.func41, Try.ntmps41
  go_upto_region 1 with (fail)
  refine Rd.name_world ?_
  intro W hW
  have L0 : Below w.heap.size w W := by rw [hW]; repeat' (first | (with_reducible exact Below.refl _ _) | (with_reducible refine Rd.below_step ?_ (by assumption)) | (with_reducible refine Rd.below_alloc ?_ _) | (with_reducible refine Rd.below_drewN ?_ _) | (with_reducible refine Below.drew ?_) | (with_reducible refine Below.setCell ?_ ?_ _) | (with_reducible refine Rd.below_setRow ?_ ?_ _) | go_size | (simp only [World.size_alloc]; omega) | omega)
  have bP : blk W w.heap.size = some (.cells #[.int .i64 L, .int .i64 X0, .int .i64 Y0] 35 (0, 0)) := by rw [hW]; exact blk_alloc_at _ _ _ rfl
  clear hW
  go_wp2_with fail
  go_loopw [5] (fun i Y => ∃ k : Nat, k ≤ rs.length ∧ i = .int .i64 k ∧ Hid (∀ j, j < k → (ent R j).1 ≠ [L, X0, Y0]) ∧ Hid (Below W.heap.size W Y)) (fun i _ => rs.length - (intOf i).toNat)
  case atStart => exact ⟨0, Nat.zero_le _, rfl, Lib.hid (fun j hj => absurd hj (by omega)), Lib.hid (Below.refl _ _)⟩
  case round =>
    obtain ⟨k, hk, rfl, HN, HB⟩ := hrel
    rename World => Y
    have HY := Lib.hid ((H.out.bel L0).bel HB.out)
    have c2 := HY.out.c2
    by_cases hlt : k < rs.length
    · have hlt' : (k : Int) < (rs.length : Int) := by omega
      obtain ⟨u, hu1, -⟩ := HY.out.sl k (by omega)
      obtain ⟨g, cap, cur, ev, -, hgb, hgs, hpc, -⟩ := sl_at HY.out.r HY.out.r4 hlt hu1
      injection ev with ev1 ev2 ev3
      subst ev1
      subst ev3
      obtain ⟨y0, y1, y2, hy⟩ := len3 (HY.out.p3 k (by omega))
      rw [hy] at hpc
      have hpc' : Mid.piece cur (k * 4) 3 = #[.int .i64 y0, .int .i64 y1, .int .i64 y2] := hpc
      have bPY := (blk_below HB.out _ (blk_lt bP)).trans bP
      have hi3 : k * 4 + 3 ≤ cur.size := by omega
      have gA := blk_regrown hgb
      have gB := blk_regrown bPY
      have g2 := Go.cell_regrown c2
      clear hpc hu1 ev2
      by_cases hyg : [y0, y1, y2] = [L, X0, Y0]
      · have he : eqL [y0, y1, y2] [L, X0, Y0] = true := decide_eq_true hyg
        have HF := Lib.hid (fnd_yes (by omega) HN.out (hy.trans hyg))
        clear hyg hy
        go_upto_region 4 with (fail)
        (refine wp_region_quiet_below (by kernel_rfl) (by kernel_rfl) ?_; (repeat (go_big_quiet_step ((fail)))); refine wpQuiet_nil ?_)
        intro U hU
        have KU := Rd.below_of_regrown hU
        have LU := L0.trans ((HB.out.trans (KU.mono HB.out.size)).mono L0.size)
        clear hU KU gA gB g2 hgb bPY
        go_wp2_with fail
        go_ret
        exact ⟨by rw [HF.out]; rfl, LU⟩
      · have he : eqL [y0, y1, y2] [L, X0, Y0] = false := decide_eq_false hyg
        have HN' : Hid (∀ j, j < k + 1 → (ent R j).1 ≠ [L, X0, Y0]) := Lib.hid fun j hj => by
          by_cases e : j = k
          · rw [e, hy]; exact hyg
          · exact HN.out j (by omega)
        clear hyg hy
        go_upto_region 4 with (fail)
        (refine wp_region_quiet_below (by kernel_rfl) (by kernel_rfl) ?_; (repeat (go_big_quiet_step ((fail)))); refine wpQuiet_nil ?_)
        intro U hU
        have KU := Rd.below_of_regrown hU
        have HBU := Lib.hid (Rd.below_step HB.out KU)
        clear hU KU gA gB g2 hgb bPY
        go_wp2_with fail
        refine ⟨⟨k + 1, by omega, by go_num, HN', HBU⟩, by simp [intOf]; omega⟩
    · obtain rfl : k = rs.length := by omega
      have HF := Lib.hid (fnd_no (R := R) (by rw [← hlr]; exact HN.out))
      have LU := L0.trans (HB.out.mono L0.size)
      go_wp2_with fail
      go_ret
      exact ⟨by rw [HF.out]; rfl, LU⟩
theorem fnd_has (R : List Ent) (v : List Int) : decide (0 ≤ fndI R v) = hasR R v := by
  unfold fndI hasR
  cases h : ixR R v with
  | none => rfl
  | some i => simp
theorem rhas_any (L X0 Y0 : Int) (w : World) (h : Rp w base qb n d v rs R) (hn : R.length ≤ 1000) :
    Calls Try.prog 21 #[.pointer (some ⟨qb, 0, none⟩), pg L X0 Y0] w fun e w' => e = .returned (.bool (hasR R [L, X0, Y0])) ∧ Below w.heap.size w w' := by
  have H := Lib.hid h
  have CF := Lib.hid (fun (X : World) (hX : Rp X base qb n d v rs R) => find_any L X0 Y0 X hX hn)
  have FH := Lib.hid (fnd_has R [L, X0, Y0])
  obtain ⟨z, ez⟩ : ∃ z, fndI R [L, X0, Y0] = z := ⟨_, rfl⟩
  rw [ez] at CF FH
  clear h ez
  go_enter Try.func21, Try.ntmps21
  go_wp2_with fail
  refine (CF.out _ (H.out.bel (by repeat' (first | (with_reducible exact Below.refl _ _) | (with_reducible refine Rd.below_step ?_ (by assumption)) | (with_reducible refine Rd.below_alloc ?_ _) | (with_reducible refine Rd.below_drewN ?_ _) | (with_reducible refine Below.drew ?_) | (with_reducible refine Below.setCell ?_ ?_ _) | (with_reducible refine Rd.below_setRow ?_ ?_ _) | go_size | (simp only [World.size_alloc]; omega) | omega)))).mono ?_
  rintro e w1 ⟨rfl, hb1⟩
  have L1 : Below w.heap.size w w1 := by repeat' (first | (with_reducible exact Below.refl _ _) | (with_reducible refine Rd.below_step ?_ (by assumption)) | (with_reducible refine Rd.below_alloc ?_ _) | (with_reducible refine Rd.below_drewN ?_ _) | (with_reducible refine Below.drew ?_) | (with_reducible refine Below.setCell ?_ ?_ _) | (with_reducible refine Rd.below_setRow ?_ ?_ _) | go_size | (simp only [World.size_alloc]; omega) | omega)
  clear hb1 CF
  go_wp2
  go_ret
  exact ⟨by rw [← FH.out]; rfl, L1⟩
set_option maxHeartbeats 1000000 in
theorem rget_any (L X0 Y0 : Int) (w : World) (h : Rp w base qb n d v rs R) (hn : R.length ≤ 1000) :
    Calls Try.prog 18 #[.pointer (some ⟨qb, 0, none⟩), pg L X0 Y0] w fun e w' => (∃ u, e = .returned (.tuple #[u, .bool (hasR R [L, X0, Y0])]) ∧ (hasR R [L, X0, Y0] = true → w'.ownsRow 0 5 1 u 144 (us (bytesR R [L, X0, Y0]))) ∧ (hasR R [L, X0, Y0] = false → u = .slice none 0 0)) ∧ Below w.heap.size w w' := by
  have H := Lib.hid h
  have CF := Lib.hid (fun (X : World) (hX : Rp X base qb n d v rs R) => find_any L X0 Y0 X hX hn)
  cases hx : ixR R [L, X0, Y0] with
  | none =>
    have ez : fndI R [L, X0, Y0] = -1 := by unfold fndI; rw [hx]
    have eh : hasR R [L, X0, Y0] = false := by unfold hasR; rw [hx]; rfl
    have EH := Lib.hid eh
    rw [ez] at CF
    clear h ez eh hx
    go_enter Try.func18, Try.ntmps18
    go_wp2_with fail
    refine (CF.out _ (H.out.bel (by repeat' (first | (with_reducible exact Below.refl _ _) | (with_reducible refine Rd.below_step ?_ (by assumption)) | (with_reducible refine Rd.below_alloc ?_ _) | (with_reducible refine Rd.below_drewN ?_ _) | (with_reducible refine Below.drew ?_) | (with_reducible refine Below.setCell ?_ ?_ _) | (with_reducible refine Rd.below_setRow ?_ ?_ _) | go_size | (simp only [World.size_alloc]; omega) | omega)))).mono ?_
    rintro e w1 ⟨rfl, hb1⟩
    have L1 : Below w.heap.size w w1 := by repeat' (first | (with_reducible exact Below.refl _ _) | (with_reducible refine Rd.below_step ?_ (by assumption)) | (with_reducible refine Rd.below_alloc ?_ _) | (with_reducible refine Rd.below_drewN ?_ _) | (with_reducible refine Below.drew ?_) | (with_reducible refine Below.setCell ?_ ?_ _) | (with_reducible refine Rd.below_setRow ?_ ?_ _) | go_size | (simp only [World.size_alloc]; omega) | omega)
    clear hb1 CF
    go_wp2
    go_ret2
    rw [EH.out]
    exact ⟨⟨_, rfl, ⟨fun (e : false = true) => (by cases e), fun _ => rfl⟩⟩, L1⟩
  | some i =>
    have ez : fndI R [L, X0, Y0] = (i : Int) := by unfold fndI; rw [hx]
    have eh : hasR R [L, X0, Y0] = true := by unfold hasR; rw [hx]; rfl
    have eb : bytesR R [L, X0, Y0] = (ent R i).2 := by unfold bytesR; rw [hx]
    have hi : i < R.length := by
      unfold ixR at hx
      exact (List.findIdx?_eq_some_iff_getElem.1 hx).1
    have EH := Lib.hid eh
    have EB := Lib.hid eb
    rw [ez] at CF
    obtain ⟨u, hu1, hu2, -⟩ := h.sl i hi
    have hir : i < rs.length := by rw [h.len]; exact hi
    obtain ⟨g, cap, cur, rfl, -, hgb, -, -, hcu⟩ := sl_at h.r h.r4 hir hu1
    obtain ⟨ag, ac, rfl, -⟩ := owns_pos hu2 (by decide)
    have HU := Lib.hid hu2
    have hgl := blk_lt hgb
    have hql := h.lt
    have c2 := h.c2
    have hir' : (i : Int) < (rs.length : Int) := by omega
    have hnn : ¬ ((i : Int) < 0) := by omega
    clear h ez eh eb hx hu1 hu2 hgb hi
    go_enter Try.func18, Try.ntmps18
    go_wp2_with fail
    refine (CF.out _ (H.out.bel (by repeat' (first | (with_reducible exact Below.refl _ _) | (with_reducible refine Rd.below_step ?_ (by assumption)) | (with_reducible refine Rd.below_alloc ?_ _) | (with_reducible refine Rd.below_drewN ?_ _) | (with_reducible refine Below.drew ?_) | (with_reducible refine Below.setCell ?_ ?_ _) | (with_reducible refine Rd.below_setRow ?_ ?_ _) | go_size | (simp only [World.size_alloc]; omega) | omega)))).mono ?_
    rintro e w1 ⟨rfl, hb1⟩
    have L1 : Below w.heap.size w w1 := by repeat' (first | (with_reducible exact Below.refl _ _) | (with_reducible refine Rd.below_step ?_ (by assumption)) | (with_reducible refine Rd.below_alloc ?_ _) | (with_reducible refine Rd.below_drewN ?_ _) | (with_reducible refine Below.drew ?_) | (with_reducible refine Below.setCell ?_ ?_ _) | (with_reducible refine Rd.below_setRow ?_ ?_ _) | go_size | (simp only [World.size_alloc]; omega) | omega)
    have d2 := (L1.cell (p := ⟨qb, 2, none⟩) hql).trans c2
    have d3 := (L1.cell (p := ⟨g, i * 4 + 3, none⟩) hgl).trans hcu
    clear hb1 CF c2 hcu
    go_wp2
    go_ret2
    rw [EH.out, EB.out]
    exact ⟨⟨_, rfl, ⟨fun _ => PoE.owns_below HU.out L1, fun (e : true = false) => (by cases e)⟩⟩, L1⟩
end Go.Proofs.Ytkklppjimnkibaa.PoS

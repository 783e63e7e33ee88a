/-
  Bytes.
-/
import Derived.Test.YtpjbacpchmemeaaDiT
import Derived.Test.YtpjbacpchmemeaaRegR
import Derived.BigQuiet
namespace Go.Proofs.Ytpjbacpchmemeaa.DiU
open Go.RowKit Go.Shelf Rd Go.Proofs.Ytpjbacpchmemeaa.Row Mid PgM PgA PgB PgC DiM DiA DiC DiD DiE DiF DiK DiQ DiR DiT OctA OctB It
open Go.Proofs.Ytpjbacpchmemeaa.DiM (at_ at_get ce ce_len ce_app ce_one ce_ones ce_at)
open Go.Proofs.Ytpjbacpchmemeaa.DiI (below_grown blk_grown not_row own_lo own_hi)
open Go.Proofs.Ytpjbacpchmemeaa.DiO (boxed_eq)
set_option linter.unusedVariables false
set_option linter.unusedSimpArgs false
set_option maxRecDepth 10000
attribute [local go_sem] Oper.semAt_some
attribute [local go_sem ↓] load_pg store_pg load_en store_en alloc_en
attribute [local go_sem] one_int pc3 piece_en piece_p3 run_load_pg run_store_pg run_alloc_en run_load_en run_store_en midLoad_eq rowLoad_eq rowStore_eq blk_alloc_at blk_alloc_old blk_drew blk_drewN blk_set_far blk_set_far' blk_grow setRow_alloc_at setRow_alloc_old setRow_drew setRow_drewN En.c_size En.c_all all6
set_option maxHeartbeats 2000000 in
theorem bytes_any (t : Nat) (d : Int) (vd : Value) (r : List En) (w : World) (hd : Dv w t d vd r) (hm : ∀ p ∈ r, mayP d p) (hB : RB r) (hr : r.length ≤ 10000) :
    Calls Try.prog 21 #[.pointer (some ⟨t, 0, none⟩)] w fun e w' => (∃ v', e = .returned v' ∧ w'.ownsRow w.heap.size 5 1 v' (10 * r.length) (u8s (dirB d r))) ∧ Below w.heap.size w w' := by
  have HD := Lib.hid hd
  have HM := Lib.hid hm
  have HB := Lib.hid hB
  clear hd hm hB
  refine callsIn_wide.1 (callsIn_of_wp_marks (F := Fence.wide) (n := 0) Try.func21 rfl trivial ?_ rfl)
  simp only [Try.ntmps21, List.size_toArray, List.length_cons, List.length_nil, Nat.reduceAdd, Nat.reduceSub, Array.replicate_succ, Array.replicate_zero, List.push_toArray, List.append_toArray, List.nil_append, List.cons_append]
  gi_wp2_with fail
  refine ⟨trivial, rfl, (callsIn_wide.2 (all_any _ _)).mono ?_⟩
  rintro e W1 ⟨rfl, hW1⟩
  have R0 : BR t w d [] W1 := by
    rw [hW1]
    have O : ∀ (X : World) (o : Obj) (k : Nat) {p : Obj}, k < X.heap.size → blk X k = some p → blk (X.alloc o) k = some p := fun X o k p h e => (blk_alloc_old X o k h).trans e
    refine ⟨by repeat' (first | (with_reducible exact Below.refl _ _) | (with_reducible refine Rd.below_step ?_ (by assumption)) | (with_reducible refine Rd.below_alloc ?_ _) | (with_reducible refine Rd.below_drewN ?_ _) | (with_reducible refine Below.drew ?_) | (with_reducible refine Below.setCell ?_ ?_ _) | (with_reducible refine Rd.below_setRow ?_ ?_ _) | go_size | (simp only [World.size_alloc]; omega) | omega), ?_, ?_, ⟨.slice none 0 0, ?_, World.ownsRow_nil _ _ _ _⟩, by simp⟩
    · exact O _ _ _ (by simp <;> omega) (O _ _ _ (by simp) (blk_alloc_at _ _ _ rfl))
    · exact blk_alloc_at _ _ _ (by simp)
    · exact O _ _ _ (by simp) (blk_alloc_at _ _ _ (by simp))
  have hs1 : W1.heap.size = w.heap.size + 3 := by rw [hW1]; simp
  have HR0 := Lib.hid R0
  clear hW1 R0
  gi_wp2_with fail
  try simp only [World.size_alloc, Nat.add_assoc, Nat.reduceAdd]
  refine range_seq (gf := 56) (lb := #[.pointer (some ⟨w.heap.size + 2, 0, none⟩)]) rfl enters_all (all_seq (w.heap.size + 2) t d vd r) (fun _ => rfl)
    (fun pre Z => BR t w d pre Z) (fun _ _ _ => False)
    (fun _ Z k => BOwn w Z k) ?hI ?hIx (br_mine t w d _ (by omega)) (fun _ _ h => ⟨h.bx, HD.out.below h.below⟩) HR0.out ?round ?done ?stop
  case hI => exact fun s X Y row h hg hr => h.grown hg fun r e => ⟨by have := (hr r e).1; omega, (hr r e).2⟩
  case hIx => exact fun c s X Y row h hg hr => h.elim
  case stop => exact fun D c pre Z hD hpre hx hdef => hx.elim
  case round =>
    intro l' pre x Z hl' hrec hI hpre
    have hmx := HM.out x (hpre.subset (by simp))
    have hBx := HB.out x (hpre.subset (by simp))
    have hsm : pre.length ≤ 10000 := by
      have h1 := hpre.length_le
      simp only [List.length_append, List.length_singleton] at h1
      omega
    obtain ⟨rr, hrr⟩ := hrec
    have hlz := get_lt hrr
    have hsz := hI.size
    clear hI hpre hrr HR0
    simp only [encE]
    gi_wp2_with fail
    refine ⟨World.grownBy_alloc _ _ none, fun X2 hg hI2 hl2 => ?_⟩
    have c2 : blk X2 Z.heap.size = some (.cells x.c 39 (0, 0)) := (hg.block _ (by simp) (fun e => by injection e with e; omega)).trans (World.alloc_heap_new _ _)
    have HI2 := Lib.hid hI2
    obtain ⟨v0, hv, ow⟩ := hI2.row
    have HV := Lib.hid hv
    have OW := Lib.hid ow
    have M0 := Lib.hid (BM.start hv ow)
    have cb := hv.cell
    have cp := hI2.pb.cell
    have cd := (HD.out.below hI2.below).c0
    have ld := blk_lt (HD.out.below hI2.below).1
    have hs2 := hI2.size
    have hz2 : w.heap.size + 2 < Z.heap.size := by omega
    have lz := blk_lt c2
    have C2 := Lib.hid c2
    have NE : Hid (some Z.heap.size ≠ v0.ownBlock) := Lib.hid (by
      intro e
      rcases OW.out.2 with ⟨rfl, _⟩ | ⟨g, cap, cur, rfl, _, hgb, _⟩
      · cases e
      · obtain rfl : Z.heap.size = g := by simpa [Value.ownBlock] using e
        rw [show X2.heap[_]? = _ from C2.out] at hgb
        cases hgb)
    have KB := key_small hmx
    have KS := hmx.2.1
    have KN := hmx.2.2.1
    have CK := Lib.hid (fun X => key_any d x.L x.X x.Y X)
    have EK : Hid (keyV d x.L x.X x.Y = x.K d) := Lib.hid rfl
    rw [EK.out] at CK
    have hM0 := hBx.1
    have hM1 := hBx.2
    clear hg hI2 hl2 hv ow EK hmx
    obtain ⟨kk, ek⟩ : ∃ kk, x.K d = kk := ⟨_, rfl⟩
    rw [ek] at CK KB
    have EK := Lib.hid ek
    clear ek
    have gb := Go.cell_regrown cb
    have gp := Go.cell_regrown cp
    have gd := Go.cell_regrown cd
    gi_wp2_with fail
    (refine RegR.below_tail_in 8 (by kernel_rfl) (by kernel_rfl) (by kernel_rfl) ?_; simp only [List.take_succ_cons, List.take_zero, List.drop_succ_cons, List.drop_zero]; (repeat (go_big_quiet_step ((with_reducible exact Calls.regrown_of (CK.out _))))); refine wpQuiet_nil ?_)
    intro X4 hU
    have KU := Rd.below_of_regrown hU
    have M4 := Lib.hid (M0.out.below KU)
    clear hU gb gp gd cb cp cd
    have PU := Lib.hid (put_own (w.heap.size + 3) v0 (10 * pre.length) (dirB d pre) kk 2 X4 M4.out.row (by omega) (by omega) (by omega) (by have := M4.out.size; omega))
    gi_wp2_with fail
    refine ⟨trivial, rfl, (CallsIn.inRound _ (callsIn_wide.2 PU.out)).mono ?_⟩
    rintro e Y1 ⟨v1, rfl, ho1, st1⟩
    obtain ⟨av1, cap1, rfl, _⟩ := Rd.owns_val ho1
    have P1 := M4.out.put st1 ho1 (by omega)
    have N1 := Lib.hid P1.1
    have bx1 := P1.2.cell
    have fz1 := P1.2.frozen
    have g1 := P1.1.box.cell
    have D1 := (P1.1.keep Z.heap.size lz (by omega) NE.out).trans C2.out
    have E1 : (Y1.setCell ⟨w.heap.size + 1, 0, none⟩ (.slice av1 (10 * pre.length + 2) cap1)).cell? ⟨Z.heap.size, 3, none⟩ = some (.int .i64 x.S) := by rw [blk_cell (show blk _ _ = _ from D1)]; simp [En.c]
    have PU1 := Lib.hid (put_own (w.heap.size + 3) _ _ _ x.S 2 _ P1.1.row (by omega) (by omega) (by omega) (by have := P1.1.size; omega))
    clear ho1 st1 P1 D1
    clear PU
    gi_wp2_with fail
    refine ⟨trivial, rfl, (CallsIn.inRound _ (callsIn_wide.2 PU1.out)).mono ?_⟩
    rintro e Y2 ⟨v2, rfl, ho2, st2⟩
    obtain ⟨av2, cap2, rfl, _⟩ := Rd.owns_val ho2
    have P2 := N1.out.put st2 ho2 (by omega)
    have N2 := Lib.hid P2.1
    have bx2 := P2.2.cell
    have fz2 := P2.2.frozen
    have g2 := P2.1.box.cell
    have D2 := (P2.1.keep Z.heap.size lz (by omega) NE.out).trans C2.out
    have E2 : (Y2.setCell ⟨w.heap.size + 1, 0, none⟩ (.slice av2 (10 * pre.length + 2 + 2) cap2)).cell? ⟨Z.heap.size, 4, none⟩ = some (.int .i64 x.N) := by rw [blk_cell (show blk _ _ = _ from D2)]; simp [En.c]
    have PU2 := Lib.hid (put_own (w.heap.size + 3) _ _ _ x.N 2 _ P2.1.row (by omega) (by omega) (by omega) (by have := P2.1.size; omega))
    clear ho2 st2 P2 D2
    clear E1 g1
    clear bx1 fz1
    gi_wp2_with fail
    refine ⟨trivial, rfl, (CallsIn.inRound _ (callsIn_wide.2 PU2.out)).mono ?_⟩
    rintro e Y3 ⟨v3, rfl, ho3, st3⟩
    obtain ⟨av3, cap3, rfl, _⟩ := Rd.owns_val ho3
    have P3 := N2.out.put st3 ho3 (by omega)
    have N3 := Lib.hid P3.1
    have bx3 := P3.2.cell
    have fz3 := P3.2.frozen
    have g3 := P3.1.box.cell
    have D3 := (P3.1.keep Z.heap.size lz (by omega) NE.out).trans C2.out
    have E3 : (Y3.setCell ⟨w.heap.size + 1, 0, none⟩ (.slice av3 (10 * pre.length + 2 + 2 + 2) cap3)).cell? ⟨Z.heap.size, 5, none⟩ = some (.int .u32 x.M) := by rw [blk_cell (show blk _ _ = _ from D3)]; simp [En.c]
    have PU3 := Lib.hid (put_own (w.heap.size + 3) _ _ _ x.M 4 _ P3.1.row (by omega) (by omega) (by omega) (by have := P3.1.size; omega))
    clear ho3 st3 P3 D3
    clear E2 g2
    clear bx2 fz2
    gi_wp2_with fail
    refine ⟨trivial, rfl, (CallsIn.inRound _ (callsIn_wide.2 PU3.out)).mono ?_⟩
    rintro e Y4 ⟨v4, rfl, ho4, st4⟩
    obtain ⟨av4, cap4, rfl, _⟩ := Rd.owns_val ho4
    have P4 := N3.out.put st4 ho4 (by omega)
    have N4 := Lib.hid P4.1
    have bx4 := P4.2.cell
    have fz4 := P4.2.frozen
    have g4 := P4.1.box.cell
    clear ho4 st4 P4 E3 g3 bx3 fz3
    gi_wp2_with fail
    have N5 : BM w X2 v0 (10 * pre.length + 10) (dirB d pre ++ entB d x) (Y4.setCell ⟨w.heap.size + 1, 0, none⟩ (.slice av4 (10 * pre.length + 2 + 2 + 2 + 4) cap4)) (.slice av4 (10 * pre.length + 2 + 2 + 2 + 4) cap4) := by
      have := N4.out
      unfold entB
      rw [EK.out]
      simpa only [List.append_assoc, Nat.add_assoc, Nat.reduceAdd] using this
    exact BM.ends HI2.out HV.out OW.out N5 (by omega) _
  case done =>
    intro D Z hD hI hdef
    obtain ⟨v, hv, ow⟩ := hI.row
    obtain ⟨av2, cap2, rfl, _⟩ := Rd.owns_val ow
    have cv := hv.cell
    have HI := Lib.hid hI
    have HV := Lib.hid hv
    have HF := Lib.hid hdef
    have hsz := hI.size
    clear hI hdef hv ow HR0
    gi_wp2_with fail
    refine leaves_marks (Ds := [D]) (B := w.heap.size + 3) (fun Y => BR t w d r Y ∧ Boxed Y (w.heap.size + 1) 23 (.slice av2 (10 * r.length) cap2)) (fun E Y hE hY he => ⟨hY.1.grown (grownBy_putObj' _ _ _) fun r e => by injection e with e; subst e; exact ⟨hE, _, he, rfl⟩, hY.2.kept (grownBy_putObj' _ _ _) fun e => by injection e with e; omega⟩) (fun Y hY => ?_) (by simp) Z ⟨HI.out, HV.out⟩ fun E hp => ?_
    · obtain ⟨v', hv', ow'⟩ := hY.1.row
      obtain rfl := boxed_eq hY.2 hv'
      exact ⟨_, results_tmp rfl _ _ _, ⟨_, rfl, own_lo ow' (by omega)⟩, hY.1.below⟩
    · obtain rfl : E = D := by simpa using hp
      exact ⟨by omega, HF.out⟩
/-- none at all -/
structure BN (w X : World) : Prop where
  below : Below w.heap.size w X
  bx : BoxD (w.heap.size + 2) none X
  row : Boxed X (w.heap.size + 1) 23 (.slice none 0 0)
  size : w.heap.size + 3 ≤ X.heap.size
theorem BN.grown {w X Y : World} {row : Option Nat} (h : BN w X) (hg : X.grownBy Y row) (hr : ∀ r, row = some r → w.heap.size + 3 ≤ r ∧ ∃ o : Obj, X.heap[r]? = some o ∧ o.isCells = false) : BN w Y :=
  ⟨below_grown (B := 0) h.below hg (Nat.le_refl _) fun r e => by have := (hr r e).1; omega, blk_grown h.bx hg fun r e => by have := (hr r e).1; omega, h.row.kept hg fun e => by have := (hr _ e.symm).1; omega, Nat.le_trans h.size hg.size⟩
set_option maxHeartbeats 1000000 in
theorem bytes_nil (w : World) :
    Calls Try.prog 21 #[.pointer none] w fun e w' => e = .returned (.slice none 0 0) ∧ Below w.heap.size w w' := by
  refine callsIn_wide.1 (callsIn_of_wp_marks (F := Fence.wide) (n := 0) Try.func21 rfl trivial ?_ rfl)
  simp only [Try.ntmps21, List.size_toArray, List.length_cons, List.length_nil, Nat.reduceAdd, Nat.reduceSub, Array.replicate_succ, Array.replicate_zero, List.push_toArray, List.append_toArray, List.nil_append, List.cons_append]
  gi_wp2_with fail
  refine ⟨trivial, rfl, (callsIn_wide.2 (all_any _ _)).mono ?_⟩
  rintro e W1 ⟨rfl, hW1⟩
  have R0 : BN w W1 := by
    rw [hW1]
    have O : ∀ (X : World) (o : Obj) (k : Nat) {p : Obj}, k < X.heap.size → blk X k = some p → blk (X.alloc o) k = some p := fun X o k p h e => (blk_alloc_old X o k h).trans e
    exact ⟨by repeat' (first | (with_reducible exact Below.refl _ _) | (with_reducible refine Rd.below_step ?_ (by assumption)) | (with_reducible refine Rd.below_alloc ?_ _) | (with_reducible refine Rd.below_drewN ?_ _) | (with_reducible refine Below.drew ?_) | (with_reducible refine Below.setCell ?_ ?_ _) | (with_reducible refine Rd.below_setRow ?_ ?_ _) | go_size | (simp only [World.size_alloc]; omega) | omega), blk_alloc_at _ _ _ (by simp), O _ _ _ (by simp) (blk_alloc_at _ _ _ (by simp)), by simp⟩
  have HR0 := Lib.hid R0
  clear hW1 R0
  gi_wp2_with fail
  try simp only [World.size_alloc, Nat.add_assoc, Nat.reduceAdd]
  refine range_seq (gf := 56) (lb := #[.pointer (some ⟨w.heap.size + 2, 0, none⟩)]) rfl enters_all (all_seq_nil (w.heap.size + 2)) (fun _ => rfl)
    (fun pre Z => BN w Z) (fun _ _ _ => False) (fun _ _ _ => False) ?hI ?hIx ⟨fun _ _ _ _ h => h.elim, fun _ _ _ _ _ _ _ _ h => h.elim⟩ (fun _ _ h => ⟨h.bx, trivial⟩) HR0.out ?round ?done ?stop
  case hI => exact fun s X Y row h hg hr => h.grown hg fun r e => ⟨by have := (hr r e).1; have := HR0.out.size; omega, (hr r e).2⟩
  case hIx => exact fun c s X Y row h hg hr => h.elim
  case stop => exact fun D c pre Z hD hpre hx hdef => hx.elim
  case round => exact fun l' pre x Z hl' hrec hI hpre => absurd hpre (by intro h; have := h.length_le; simp at this)
  case done =>
    intro D Z hD hI hdef
    have cv := hI.row.cell
    have HI := Lib.hid hI
    have HF := Lib.hid hdef
    have hsz := hI.size
    have hs1 := HR0.out.size
    clear hI hdef HR0
    gi_wp2_with fail
    refine leaves_marks (Ds := [D]) (B := w.heap.size + 3) (fun Y => BN w Y) (fun E Y hE hY he => hY.grown (grownBy_putObj' _ _ _) fun r e => by injection e with e; subst e; exact ⟨hE, _, he, rfl⟩) (fun Y hY => ⟨_, results_tmp rfl _ _ _, rfl, hY.below⟩) (by simp) Z HI.out fun E hp => ?_
    obtain rfl : E = D := by simpa using hp
    exact ⟨by omega, HF.out⟩
end Go.Proofs.Ytpjbacpchmemeaa.DiU

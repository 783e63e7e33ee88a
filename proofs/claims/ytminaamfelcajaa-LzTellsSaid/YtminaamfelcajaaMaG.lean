/-
  The best match at a place.
-/
import Derived.Test.YtminaamfelcajaaMaF
import Derived.RangeFuncBox
import Derived.Stop.RegionWithIn
namespace Go.Proofs.Ytminaamfelcajaa.MaG
open Go.RowKit Go.Shelf Rd Go.Proofs.Ytminaamfelcajaa.Row MaM MaA MaB MaC MaD MaE MaF It
set_option linter.unusedVariables false
set_option linter.unusedSimpArgs false
set_option maxRecDepth 10000
attribute [local go_sem] Oper.semAt_some
theorem most_fx {X : World} {f : Nat} {ba : Option Addr} {cb g : Nat} {l : List Int} (h : Fx X f ba cb g l) (k : Nat) (hk : k < l.length) (hl : l.length ≤ 1000000) :
    Calls Try.prog 35 #[.pointer (some ⟨f, 0, none⟩), .int .i64 k] X fun e w' => e = .returned (.int .i64 (most l k)) ∧ Below X.heap.size X w' :=
  (most_any f ba _ l cb _ k X h.hd (by omega) hl).mono fun e w' ⟨he, hw⟩ => ⟨he, hw ▸ Below.refl _ _⟩
theorem below_grown {b : Nat} {w X Y : World} {row : Option Nat} (h : Below b w X) (hg : X.grownBy Y row) (hb : b ≤ w.heap.size) (hr : ∀ r, row = some r → b ≤ r) : Below b w Y :=
  ⟨hg.os.trans h.os, hg.tape.trans h.tape, hg.output.trans h.output, Nat.le_trans h.size hg.size, fun k hk => (hg.block k (by have := h.size; omega) fun e => by have := hr k e.symm; omega).trans (h.block k hk)⟩
def Nc (X : World) (row : Option Nat) : Prop := ∀ r, row = some r → ∃ o : Obj, X.heap[r]? = some o ∧ o.isCells = false
/-- the named results lie in two boxes -/
structure AtEnd (w : World) (r : Nat × Nat) (X : World) : Prop where
  below : Below w.heap.size w X
  d : Bx (w.heap.size + 2) (.int .i64 (r.1 : Int)) 3 X
  n : Bx (w.heap.size + 3) (.int .i64 (r.2 : Int)) 3 X
structure AtRun (w : World) (f : Nat) (ba : Option Addr) (cb g : Nat) (l : List Int) (k : Nat) (pre : List Nat) (X : World) : Prop where
  fin : AtEnd w (best l k pre) X
  bf : Bx w.heap.size (.pointer (some ⟨f, 0, none⟩)) 41 X
  bk : Bx (w.heap.size + 1) (.int .i64 (k : Int)) 3 X
  kf : Kf f ba cb g l k (w.heap.size + 4) (w.heap.size + 5) X
  lg : g < w.heap.size
theorem bx_grown {b : Nat} {v : Value} {T : TypeId} {X Y : World} {row : Option Nat} (h : Bx b v T X) (hg : X.grownBy Y row) (hr : Nc X row) : Bx b v T Y := blk_kept (show blk X b = _ from h) hg hr
theorem AtEnd.grown {w X Y : World} {r : Nat × Nat} {row : Option Nat} (h : AtEnd w r X) (hg : X.grownBy Y row) (hr : Nc X row) (hb : ∀ r, row = some r → w.heap.size ≤ r) : AtEnd w r Y :=
  ⟨below_grown h.below hg (Nat.le_refl _) hb, bx_grown h.d hg hr, bx_grown h.n hg hr⟩
theorem AtRun.grown {w X Y : World} {f : Nat} {ba : Option Addr} {cb g : Nat} {l : List Int} {k : Nat} {pre : List Nat} {row : Option Nat} (h : AtRun w f ba cb g l k pre X) (hg : X.grownBy Y row) (hr : Nc X row) (hb : ∀ r, row = some r → w.heap.size ≤ r) : AtRun w f ba cb g l k pre Y :=
  ⟨h.fin.grown hg hr hb, bx_grown h.bf hg hr, bx_grown h.bk hg hr, ⟨bx_grown h.kf.1 hg hr, bx_grown h.kf.2.1 hg hr, h.kf.2.2.grown hg hr⟩, h.lg⟩
theorem AtRun.bel {w X Y : World} {f : Nat} {ba : Option Addr} {cb g : Nat} {l : List Int} {k : Nat} {pre : List Nat} (h : AtRun w f ba cb g l k pre X) (hb : Below X.heap.size X Y) : AtRun w f ba cb g l k pre Y :=
  h.grown (grown_of hb) (fun r e => by cases e) (fun r e => by cases e)
theorem fx_far {X : World} {f : Nat} {ba : Option Addr} {cb g : Nat} {l : List Int} (h : Fx X f ba cb g l) (q : Nat) (v : Value) (hg : g ≠ q) (hqt : ∃ c : Array Value, blk X q = some (.cells c 3 (0, 0))) : Fx (X.setCell ⟨q, 0, none⟩ v) f ba cb g l := by
  obtain ⟨lo, ho⟩ := h.own
  obtain ⟨c, hc⟩ := hqt
  exact ⟨⟨(blk_set_ne _ _ _ _ (ne_of_type h.hd.head hc (by decide))).trans h.hd.head, h.hd.cap, h.hd.big⟩, ⟨lo, own_keep ho fun k cur hk => blk_set_ne _ _ _ _ (ne_of_type (show blk X k = _ from hk) hc (by decide))⟩,
    (blk_set_ne _ _ _ _ hg).trans h.bfr⟩
theorem bx_set {b : Nat} {v u : Value} {T : TypeId} {X : World} (h : Bx b v T X) : Bx b u T (X.setCell ⟨b, 0, none⟩ u) := by
  exact blk_set X b 0 u _ _ h
theorem bx_far {b q : Nat} {v u : Value} {T : TypeId} {X : World} (h : Bx b v T X) (hq : b ≠ q) : Bx b v T (X.setCell ⟨q, 0, none⟩ u) := (blk_set_ne X ⟨q, 0, none⟩ b u hq).trans h
/-- both results are set -/
theorem AtRun.set {w X : World} {f : Nat} {ba : Option Addr} {cb g : Nat} {l : List Int} {k : Nat} {pre : List Nat} (h : AtRun w f ba cb g l k pre X) {pre' : List Nat} {d m : Nat} (hb : best l k pre' = (d, m)) :
    AtRun w f ba cb g l k pre' ((X.setCell ⟨w.heap.size + 2, 0, none⟩ (.int .i64 (d : Int))).setCell ⟨w.heap.size + 3, 0, none⟩ (.int .i64 (m : Int))) := by
  have hg := h.lg
  have q1 : ∀ u, Bx (w.heap.size + 3) (.int .i64 ((best l k pre).2 : Int)) 3 (X.setCell ⟨w.heap.size + 2, 0, none⟩ u) := fun u => bx_far h.fin.n (by omega)
  refine ⟨⟨Below.setCell (Below.setCell h.fin.below (by show w.heap.size ≤ w.heap.size + 2; omega) _) (by show w.heap.size ≤ w.heap.size + 3; omega) _, ?_, ?_⟩, ?_, ?_, ⟨?_, ?_, ?_⟩, h.lg⟩
  · rw [hb]; exact bx_far (bx_set h.fin.d) (by omega)
  · rw [hb]; exact bx_set (q1 _)
  · exact bx_far (bx_far h.bf (by omega)) (by omega)
  · exact bx_far (bx_far h.bk (by omega)) (by omega)
  · exact bx_far (bx_far h.kf.1 (by omega)) (by omega)
  · exact bx_far (bx_far h.kf.2.1 (by omega)) (by omega)
  · exact fx_far (fx_far h.kf.2.2 _ _ (by omega) ⟨_, h.fin.d⟩) _ _ (by omega) ⟨_, q1 _⟩
theorem AtRun.same {w X : World} {f : Nat} {ba : Option Addr} {cb g : Nat} {l : List Int} {k : Nat} {pre pre' : List Nat} (h : AtRun w f ba cb g l k pre X) (hb : best l k pre' = best l k pre) : AtRun w f ba cb g l k pre' X :=
  ⟨hb ▸ h.fin, h.bf, h.bk, h.kf, h.lg⟩
theorem hold_low {B : Nat} {own : Nat → Prop} {X Y : World} (hs : X.heap.size ≤ Y.heap.size) (h : ∀ k, B ≤ k → k < X.heap.size → blk Y k = blk X k) : Hold B own X Y := ⟨hs, fun k hk h2 _ => h k hk h2⟩
theorem at_results {fn : Func} (hf : fn.results = #[.cell 4 3, .cell 5 3]) {w X : World} {r : Nat × Nat} (h : AtEnd w r X) (tmps : Array Value) (h4 : tmps.getD 4 undef = .pointer (some ⟨w.heap.size + 2, 0, none⟩)) (h5 : tmps.getD 5 undef = .pointer (some ⟨w.heap.size + 3, 0, none⟩)) :
    (results fn tmps).run Try.prog X = .ok (.tuple #[.int .i64 (r.1 : Int), .int .i64 (r.2 : Int)]) X := by
  have hp4 : tmps[4]?.getD undef = .pointer (some ⟨w.heap.size + 2, 0, none⟩) := by simpa using h4
  have hp5 : tmps[5]?.getD undef = .pointer (some ⟨w.heap.size + 3, 0, none⟩) := by simpa using h5
  have c4 := h.d.cell
  have c5 := h.n.cell
  have l4 : (loadVar 3 ⟨w.heap.size + 2, 0, none⟩).run Try.prog X = .ok (.int .i64 (r.1 : Int)) X := by simp [go_sem, c4]
  have l5 : (loadVar 3 ⟨w.heap.size + 3, 0, none⟩).run Try.prog X = .ok (.int .i64 (r.2 : Int)) X := by simp [go_sem, c5]
  simp [results, hf, hp4, hp5, asAddr, l4, l5]
def box (v : Value) (T : TypeId) : Obj := .cells #[v] T
theorem at_start {w : World} {f : Nat} {ba : Option Addr} {cb g : Nat} {l : List Int} (h : Fx w f ba cb g l) (k : Nat) :
    AtRun w f ba cb g l k [] ((((((w.alloc (.cells #[.pointer (some ⟨f, 0, none⟩)] 41)).alloc (.cells #[.int .i64 k] 3)).alloc (.cells #[.int .i64 0] 3)).alloc (.cells #[.int .i64 0] 3)).alloc (.cells #[.pointer (some ⟨f, 0, none⟩)] 41)).alloc (.cells #[.int .i64 k] 3)) := by
  have b : Below w.heap.size w ((((((w.alloc (.cells #[.pointer (some ⟨f, 0, none⟩)] 41)).alloc (.cells #[.int .i64 k] 3)).alloc (.cells #[.int .i64 0] 3)).alloc (.cells #[.int .i64 0] 3)).alloc (.cells #[.pointer (some ⟨f, 0, none⟩)] 41)).alloc (.cells #[.int .i64 k] 3)) := by
    refine ((((((Below.refl _ w).alloc ?_ _).alloc ?_ _).alloc ?_ _).alloc ?_ _).alloc ?_ _).alloc ?_ _ <;> (try simp only [World.size_alloc]) <;> omega
  have O : ∀ (X : World) (o : Obj) (k : Nat) {p : Obj}, k < X.heap.size → blk X k = some p → blk (X.alloc o) k = some p := fun X o k p h e => (blk_alloc_old X o k h).trans e
  refine ⟨⟨b, ?_, ?_⟩, ?_, ?_, ⟨?_, ?_, h.bel b⟩, blk_lt h.bfr⟩
  · exact O _ _ _ (by simp only [World.size_alloc] <;> omega) (O _ _ _ (by simp only [World.size_alloc] <;> omega) (O _ _ _ (by simp only [World.size_alloc] <;> omega) (blk_alloc_at _ _ _ (by simp only [World.size_alloc] <;> omega))))
  · exact O _ _ _ (by simp only [World.size_alloc] <;> omega) (O _ _ _ (by simp only [World.size_alloc] <;> omega) (blk_alloc_at _ _ _ (by simp only [World.size_alloc] <;> omega)))
  · exact O _ _ _ (by simp only [World.size_alloc] <;> omega) (O _ _ _ (by simp only [World.size_alloc] <;> omega) (O _ _ _ (by simp only [World.size_alloc] <;> omega) (O _ _ _ (by simp only [World.size_alloc] <;> omega) (O _ _ _ (by simp only [World.size_alloc] <;> omega) (blk_alloc_at _ _ _ rfl)))))
  · exact O _ _ _ (by simp only [World.size_alloc] <;> omega) (O _ _ _ (by simp only [World.size_alloc] <;> omega) (O _ _ _ (by simp only [World.size_alloc] <;> omega) (O _ _ _ (by simp only [World.size_alloc] <;> omega) (blk_alloc_at _ _ _ (by simp only [World.size_alloc] <;> omega)))))
  · exact O _ _ _ (by simp only [World.size_alloc] <;> omega) (blk_alloc_at _ _ _ (by simp only [World.size_alloc] <;> omega))
  · exact blk_alloc_at _ _ _ (by simp only [World.size_alloc] <;> omega)
set_option maxHeartbeats 4000000 in
theorem at_fx {w : World} {f : Nat} {ba : Option Addr} {cb g : Nat} {l : List Int} (h : Fx w f ba cb g l) (k : Nat) (hk : k < l.length) (hl : l.length ≤ 1000000) :
    Calls Try.prog 18 #[.pointer (some ⟨f, 0, none⟩), .int .i64 k] w fun e w' => e = .returned (.tuple #[.int .i64 ((best l k (all l k)).1 : Int), .int .i64 ((best l k (all l k)).2 : Int)]) ∧ Below w.heap.size w w' := by
  have HF := Lib.hid h
  have HKL := Lib.hid (And.intro hk hl)
  clear h hk hl
  refine callsIn_wide.1 (callsIn_of_wp_marks (F := Fence.wide) (n := 0) Try.func18 rfl trivial ?_ rfl)
  simp only [Try.ntmps18, List.size_toArray, List.length_cons, List.length_nil, Nat.reduceAdd, Nat.reduceSub, Array.replicate_succ, Array.replicate_zero, List.push_toArray, List.append_toArray, List.nil_append, List.cons_append]
  gi_wp2_with fail
  refine ⟨trivial, rfl, (callsIn_wide.2 (places_any _ k _ rfl)).mono ?_⟩
  rintro e W1 ⟨rfl, hW1⟩
  have R0 : AtRun w f ba cb g l k [] W1 := by rw [hW1]; exact at_start HF.out k
  have hs1 : W1.heap.size = w.heap.size + 6 := by rw [hW1]; simp
  have HR0 := Lib.hid R0
  clear hW1 R0
  gi_wp2_with fail
  simp only [World.size_alloc, Nat.add_assoc, Nat.reduceAdd]
  refine range_seq (gf := 41) (lb := #[.pointer (some ⟨w.heap.size + 4, 0, none⟩), .pointer (some ⟨w.heap.size + 5, 0, none⟩)]) rfl enters_places (places_seq f ba cb g l k (w.heap.size + 4) (w.heap.size + 5) HKL.out.1 HKL.out.2) (fun _ => rfl)
    (fun pre Z => AtRun w f ba cb g l k pre Z)
    (fun c pre Z => c = .exit 0 ∧ AtRun w f ba cb g l k pre Z ∧ (best l k pre).2 = most l k)
    (fun _ _ _ => False) ?hI ?hIx (mine_none _ _) (fun _ _ h => h.kf) HR0.out ?round ?done ?stop
  case hI => exact fun s X Y row h hg hr => h.grown hg (fun r e => (hr r e).2) fun r e => by have := (hr r e).1; omega
  case hIx => exact fun c s X Y row ⟨h1, h2, h3⟩ hg hr => ⟨h1, h2.grown hg (fun r e => (hr r e).2) fun r e => by have := (hr r e).1; omega, h3⟩
  case round =>
    intro l' pre d Z hl' hrec hI hpre
    have HI := Lib.hid hI
    have HPR := Lib.hid hpre
    clear hI hpre hrec
    simp only [encN]
    gi_wp2_with fail
    refine ⟨grown_of (Below.refl _ _), fun X2 hg hI2 hl2 => ?_⟩
    have HI2 := Lib.hid hI2
    obtain ⟨hd1, hd2, -, -⟩ := all_mat (HPR.out.subset (List.mem_append_right _ (List.mem_singleton.2 rfl)))
    obtain ⟨i, hik⟩ : ∃ i : Nat, (k : Int) - (d : Int) = i := ⟨k - d, by omega⟩
    have hid : k - i = d := by omega
    have c0 := hI2.bf.cell
    have c1 := hI2.bk.cell
    have CL := length_fx hI2.kf.2.2 i k (by omega) HKL.out.1 HKL.out.2
    rw [hid] at CL
    obtain ⟨m, hm⟩ : ∃ m, runL l k d = m := ⟨_, rfl⟩
    rw [hm] at CL
    have HM := Lib.hid hm
    have HCL := Lib.hid CL
    have hkm : k ≤ 1000000 := by have := HKL.out; omega
    clear hg hI2 hl2 CL hid hm HI
    gi_wp2_with fail
    refine ⟨trivial, rfl, (callsIn_wide.2 HCL.out).mono ?_⟩
    rintro e X3 ⟨rfl, hb3⟩
    have HI3 := Lib.hid (HI2.out.bel hb3)
    have HB3 := Lib.hid hb3
    obtain ⟨mb, hmb⟩ : ∃ m, (best l k pre).2 = m := ⟨_, rfl⟩
    have HMB := Lib.hid hmb
    have hbs := best_snoc l k pre d
    unfold try1 at hbs
    rw [hmb, HM.out] at hbs
    have c3 := HI3.out.fin.n.cell
    rw [hmb] at c3
    clear hb3 HCL c0 c1 hmb
    by_cases hlt : mb < m
    · have hlt' : (mb : Int) < (m : Int) := by omega
      rw [if_pos hlt] at hbs
      have HBS := Lib.hid hbs
      have HB2 : Hid ((best l k (pre ++ [d])).2 = m) := Lib.hid (by rw [hbs])
      have c2 := HI3.out.fin.d.cell
      have f2 := blk_frozen (show blk X3 (w.heap.size + 2) = some (.cells #[.int .i64 ((best l k pre).1 : Int)] 3 (0, 0)) from HI3.out.fin.d) 0
      have f3 := blk_frozen (show blk X3 (w.heap.size + 3) = some (.cells #[.int .i64 ((best l k pre).2 : Int)] 3 (0, 0)) from HI3.out.fin.n) 0
      clear hbs
      gi_wp2_with fail
      obtain ⟨X4, hX4⟩ : ∃ x, (X3.setCell ⟨w.heap.size + 2, 0, none⟩ (.int .i64 (d : Int))).setCell ⟨w.heap.size + 3, 0, none⟩ (.int .i64 (m : Int)) = x := ⟨_, rfl⟩
      rw [hX4]
      have HI4 : Hid (AtRun w f ba cb g l k (pre ++ [d]) X4) := Lib.hid (by rw [← hX4]; exact HI3.out.set HBS.out)
      have HS4 : Hid (X4.heap.size = X3.heap.size ∧ ∀ k, w.heap.size + 3 < k → blk X4 k = blk X3 k) := Lib.hid (by rw [← hX4]; exact ⟨by simp, fun k hk => (blk_set_far' _ _ _ _ (by show w.heap.size + 3 < k; omega)).trans (blk_set_far' _ _ _ _ (by show w.heap.size + 2 < k; omega))⟩)
      clear hX4 c2 c3 f2 f3
      have c0 := HI4.out.bf.cell
      have c1 := HI4.out.bk.cell
      have c3 := HI4.out.fin.n.cell
      rw [HB2.out] at c3
      have HMO : Hid (∀ Z, Below X4.heap.size X4 Z → Calls Try.prog 35 #[.pointer (some ⟨f, 0, none⟩), .int .i64 k] Z fun e w' => e = .returned (.int .i64 (most l k)) ∧ w' = Z) := Lib.hid (fun Z hZ => most_any f ba _ l cb _ k Z (HI4.out.kf.2.2.bel hZ).hd (Nat.le_of_lt HKL.out.1) HKL.out.2)
      have HFIN : Hid (∀ U, Below X4.heap.size X4 U → Hold W1.heap.size (fun _ => False) X2 U ∧ AtRun w f ba cb g l k (pre ++ [d]) U) := Lib.hid (fun U KU => ⟨hold_low (by have := KU.size; have := HS4.out.1; have := HB3.out.size; omega) fun k hk h2 => (KU.block k (by have := HS4.out.1; have := HB3.out.size; omega)).trans ((HS4.out.2 k (by omega)).trans (HB3.out.block k h2)), HI4.out.bel KU⟩)
      by_cases he : m = most l k
      · have e1 : ((m : Int) == ((most l k : Nat) : Int)) = true := beq_iff_eq.2 (by omega)
        gi_region_with (refine ⟨trivial, rfl, (callsIn_wide.2 (HMO.out _ ?_)).mono ?_⟩; (· repeat' (first | (with_reducible exact Below.refl _ _) | (with_reducible refine Rd.below_step ?_ (by assumption)) | (with_reducible refine Rd.below_alloc ?_ _) | (with_reducible refine Rd.below_drewN ?_ _) | (with_reducible refine Below.drew ?_) | (with_reducible refine Below.setCell ?_ ?_ _) | (with_reducible refine Rd.below_setRow ?_ ?_ _) | go_size | (simp only [World.size_alloc]; omega) | omega)); rintro e w9 ⟨rfl, rfl⟩)
        all_goals gi_wp2_with fail
        all_goals exact ⟨(HFIN.out _ (by repeat' (first | (with_reducible exact Below.refl _ _) | (with_reducible refine Rd.below_step ?_ (by assumption)) | (with_reducible refine Rd.below_alloc ?_ _) | (with_reducible refine Rd.below_drewN ?_ _) | (with_reducible refine Below.drew ?_) | (with_reducible refine Below.setCell ?_ ?_ _) | (with_reducible refine Rd.below_setRow ?_ ?_ _) | go_size | (simp only [World.size_alloc]; omega) | omega))).1, rfl, (HFIN.out _ (by repeat' (first | (with_reducible exact Below.refl _ _) | (with_reducible refine Rd.below_step ?_ (by assumption)) | (with_reducible refine Rd.below_alloc ?_ _) | (with_reducible refine Rd.below_drewN ?_ _) | (with_reducible refine Below.drew ?_) | (with_reducible refine Below.setCell ?_ ?_ _) | (with_reducible refine Rd.below_setRow ?_ ?_ _) | go_size | (simp only [World.size_alloc]; omega) | omega))).2, by rw [HB2.out]; exact he⟩
      · have e1 : ((m : Int) == ((most l k : Nat) : Int)) = false := beq_eq_false_iff_ne.2 (by omega)
        gi_region_with (refine ⟨trivial, rfl, (callsIn_wide.2 (HMO.out _ ?_)).mono ?_⟩; (· repeat' (first | (with_reducible exact Below.refl _ _) | (with_reducible refine Rd.below_step ?_ (by assumption)) | (with_reducible refine Rd.below_alloc ?_ _) | (with_reducible refine Rd.below_drewN ?_ _) | (with_reducible refine Below.drew ?_) | (with_reducible refine Below.setCell ?_ ?_ _) | (with_reducible refine Rd.below_setRow ?_ ?_ _) | go_size | (simp only [World.size_alloc]; omega) | omega)); rintro e w9 ⟨rfl, rfl⟩)
        all_goals gi_wp2_with fail
        all_goals exact ⟨(HFIN.out _ (by repeat' (first | (with_reducible exact Below.refl _ _) | (with_reducible refine Rd.below_step ?_ (by assumption)) | (with_reducible refine Rd.below_alloc ?_ _) | (with_reducible refine Rd.below_drewN ?_ _) | (with_reducible refine Below.drew ?_) | (with_reducible refine Below.setCell ?_ ?_ _) | (with_reducible refine Rd.below_setRow ?_ ?_ _) | go_size | (simp only [World.size_alloc]; omega) | omega))).1, (HFIN.out _ (by repeat' (first | (with_reducible exact Below.refl _ _) | (with_reducible refine Rd.below_step ?_ (by assumption)) | (with_reducible refine Rd.below_alloc ?_ _) | (with_reducible refine Rd.below_drewN ?_ _) | (with_reducible refine Below.drew ?_) | (with_reducible refine Below.setCell ?_ ?_ _) | (with_reducible refine Rd.below_setRow ?_ ?_ _) | go_size | (simp only [World.size_alloc]; omega) | omega))).2, fun _ h _ => h.elim⟩
    · have hlt' : ¬ (mb : Int) < (m : Int) := by omega
      rw [if_neg hlt] at hbs
      have HI4 : Hid (AtRun w f ba cb g l k (pre ++ [d]) X3) := Lib.hid (HI3.out.same hbs)
      have HB2 : Hid ((best l k (pre ++ [d])).2 = mb) := Lib.hid (by rw [hbs]; exact HMB.out)
      clear hbs
      gi_wp2_with fail
      clear c3
      have c0 := HI4.out.bf.cell
      have c1 := HI4.out.bk.cell
      have c3 := HI4.out.fin.n.cell
      rw [HB2.out] at c3
      have HMO : Hid (∀ Z, Below X3.heap.size X3 Z → Calls Try.prog 35 #[.pointer (some ⟨f, 0, none⟩), .int .i64 k] Z fun e w' => e = .returned (.int .i64 (most l k)) ∧ w' = Z) := Lib.hid (fun Z hZ => most_any f ba _ l cb _ k Z (HI4.out.kf.2.2.bel hZ).hd (Nat.le_of_lt HKL.out.1) HKL.out.2)
      have HFIN : Hid (∀ U, Below X3.heap.size X3 U → Hold W1.heap.size (fun _ => False) X2 U ∧ AtRun w f ba cb g l k (pre ++ [d]) U) := Lib.hid (fun U KU => ⟨hold_low (Nat.le_trans HB3.out.size KU.size) fun k hk h2 => (KU.block k (Nat.lt_of_lt_of_le h2 HB3.out.size)).trans (HB3.out.block k h2), HI4.out.bel KU⟩)
      by_cases he : mb = most l k
      · have e1 : ((mb : Int) == ((most l k : Nat) : Int)) = true := beq_iff_eq.2 (by omega)
        gi_region_with (refine ⟨trivial, rfl, (callsIn_wide.2 (HMO.out _ ?_)).mono ?_⟩; (· repeat' (first | (with_reducible exact Below.refl _ _) | (with_reducible refine Rd.below_step ?_ (by assumption)) | (with_reducible refine Rd.below_alloc ?_ _) | (with_reducible refine Rd.below_drewN ?_ _) | (with_reducible refine Below.drew ?_) | (with_reducible refine Below.setCell ?_ ?_ _) | (with_reducible refine Rd.below_setRow ?_ ?_ _) | go_size | (simp only [World.size_alloc]; omega) | omega)); rintro e w9 ⟨rfl, rfl⟩)
        all_goals gi_wp2_with fail
        all_goals exact ⟨(HFIN.out _ (by repeat' (first | (with_reducible exact Below.refl _ _) | (with_reducible refine Rd.below_step ?_ (by assumption)) | (with_reducible refine Rd.below_alloc ?_ _) | (with_reducible refine Rd.below_drewN ?_ _) | (with_reducible refine Below.drew ?_) | (with_reducible refine Below.setCell ?_ ?_ _) | (with_reducible refine Rd.below_setRow ?_ ?_ _) | go_size | (simp only [World.size_alloc]; omega) | omega))).1, rfl, (HFIN.out _ (by repeat' (first | (with_reducible exact Below.refl _ _) | (with_reducible refine Rd.below_step ?_ (by assumption)) | (with_reducible refine Rd.below_alloc ?_ _) | (with_reducible refine Rd.below_drewN ?_ _) | (with_reducible refine Below.drew ?_) | (with_reducible refine Below.setCell ?_ ?_ _) | (with_reducible refine Rd.below_setRow ?_ ?_ _) | go_size | (simp only [World.size_alloc]; omega) | omega))).2, by rw [HB2.out]; exact he⟩
      · have e1 : ((mb : Int) == ((most l k : Nat) : Int)) = false := beq_eq_false_iff_ne.2 (by omega)
        gi_region_with (refine ⟨trivial, rfl, (callsIn_wide.2 (HMO.out _ ?_)).mono ?_⟩; (· repeat' (first | (with_reducible exact Below.refl _ _) | (with_reducible refine Rd.below_step ?_ (by assumption)) | (with_reducible refine Rd.below_alloc ?_ _) | (with_reducible refine Rd.below_drewN ?_ _) | (with_reducible refine Below.drew ?_) | (with_reducible refine Below.setCell ?_ ?_ _) | (with_reducible refine Rd.below_setRow ?_ ?_ _) | go_size | (simp only [World.size_alloc]; omega) | omega)); rintro e w9 ⟨rfl, rfl⟩)
        all_goals gi_wp2_with fail
        all_goals exact ⟨(HFIN.out _ (by repeat' (first | (with_reducible exact Below.refl _ _) | (with_reducible refine Rd.below_step ?_ (by assumption)) | (with_reducible refine Rd.below_alloc ?_ _) | (with_reducible refine Rd.below_drewN ?_ _) | (with_reducible refine Below.drew ?_) | (with_reducible refine Below.setCell ?_ ?_ _) | (with_reducible refine Rd.below_setRow ?_ ?_ _) | go_size | (simp only [World.size_alloc]; omega) | omega))).1, (HFIN.out _ (by repeat' (first | (with_reducible exact Below.refl _ _) | (with_reducible refine Rd.below_step ?_ (by assumption)) | (with_reducible refine Rd.below_alloc ?_ _) | (with_reducible refine Rd.below_drewN ?_ _) | (with_reducible refine Below.drew ?_) | (with_reducible refine Below.setCell ?_ ?_ _) | (with_reducible refine Rd.below_setRow ?_ ?_ _) | go_size | (simp only [World.size_alloc]; omega) | omega))).2, fun _ h _ => h.elim⟩
  case done =>
    intro D Z hD hI hdef
    have HI := Lib.hid hI
    clear hI
    have c2 := HI.out.fin.d.cell
    have c3 := HI.out.fin.n.cell
    have f2 := blk_frozen (show blk Z (w.heap.size + 2) = some (.cells #[.int .i64 ((best l k (all l k)).1 : Int)] 3 (0, 0)) from HI.out.fin.d) 0
    have f3 := blk_frozen (show blk Z (w.heap.size + 3) = some (.cells #[.int .i64 ((best l k (all l k)).2 : Int)] 3 (0, 0)) from HI.out.fin.n) 0
    obtain ⟨r, hr⟩ : ∃ r, best l k (all l k) = r := ⟨_, rfl⟩
    obtain ⟨r1, r2⟩ := r
    have HFIN : Hid (∀ U, Below ((Z.setCell ⟨w.heap.size + 2, 0, none⟩ (.int .i64 (r1 : Int))).setCell ⟨w.heap.size + 3, 0, none⟩ (.int .i64 (r2 : Int))).heap.size ((Z.setCell ⟨w.heap.size + 2, 0, none⟩ (.int .i64 (r1 : Int))).setCell ⟨w.heap.size + 3, 0, none⟩ (.int .i64 (r2 : Int))) U → AtEnd w (r1, r2) U ∧ U.heap[D]? = some (.deferred (some []))) := Lib.hid (fun U hU => by
      have h9 := (HI.out.set hr).bel hU
      refine ⟨hr ▸ h9.fin, (hU.block D ?_).trans ((blk_set_far' _ _ _ _ (by show w.heap.size + 3 < D; omega)).trans ((blk_set_far' _ _ _ _ (by show w.heap.size + 2 < D; omega)).trans hdef))⟩
      have := get_lt hdef
      simpa using this)
    have HRR := Lib.hid hr
    rw [hr] at c2 c3
    clear hr hdef
    gi_wp2_with fail
    gi_region
    all_goals gi_wp2_with fail
    all_goals refine leaves_marks (B := w.heap.size + 6) (fun Y => AtEnd w (r1, r2) Y) (fun E Y hE hY he => hY.grown (grownBy_putObj' _ _ _) (fun r e => by injection e with e; subst e; exact ⟨_, he, rfl⟩) (fun r e => by injection e with e; omega)) (fun Y hY => ⟨_, at_results rfl hY _ rfl rfl, by rw [HRR.out], hY.below⟩) [D] (by simp) _ (HFIN.out _ (by repeat' (first | (with_reducible exact Below.refl _ _) | (with_reducible refine Rd.below_step ?_ (by assumption)) | (with_reducible refine Rd.below_alloc ?_ _) | (with_reducible refine Rd.below_drewN ?_ _) | (with_reducible refine Below.drew ?_) | (with_reducible refine Below.setCell ?_ ?_ _) | (with_reducible refine Rd.below_setRow ?_ ?_ _) | go_size | (simp only [World.size_alloc]; omega) | omega))).1 fun E hp => ?_
    all_goals (obtain rfl : E = D := by simpa using hp)
    all_goals exact ⟨by omega, (HFIN.out _ (by repeat' (first | (with_reducible exact Below.refl _ _) | (with_reducible refine Rd.below_step ?_ (by assumption)) | (with_reducible refine Rd.below_alloc ?_ _) | (with_reducible refine Rd.below_drewN ?_ _) | (with_reducible refine Below.drew ?_) | (with_reducible refine Below.setCell ?_ ?_ _) | (with_reducible refine Rd.below_setRow ?_ ?_ _) | go_size | (simp only [World.size_alloc]; omega) | omega))).2⟩
  case stop =>
    intro D c pre Z hD hpre hx hdef
    obtain ⟨rfl, hI, hm⟩ := hx
    have HI := Lib.hid hI
    have hbf := best_full hpre hm
    clear hI hm hpre
    have c2 := HI.out.fin.d.cell
    have c3 := HI.out.fin.n.cell
    have f2 := blk_frozen (show blk Z (w.heap.size + 2) = some (.cells #[.int .i64 ((best l k pre).1 : Int)] 3 (0, 0)) from HI.out.fin.d) 0
    have f3 := blk_frozen (show blk Z (w.heap.size + 3) = some (.cells #[.int .i64 ((best l k pre).2 : Int)] 3 (0, 0)) from HI.out.fin.n) 0
    obtain ⟨r, hr⟩ : ∃ r, best l k pre = r := ⟨_, rfl⟩
    obtain ⟨r1, r2⟩ := r
    have HFIN : Hid (∀ U, Below ((Z.setCell ⟨w.heap.size + 2, 0, none⟩ (.int .i64 (r1 : Int))).setCell ⟨w.heap.size + 3, 0, none⟩ (.int .i64 (r2 : Int))).heap.size ((Z.setCell ⟨w.heap.size + 2, 0, none⟩ (.int .i64 (r1 : Int))).setCell ⟨w.heap.size + 3, 0, none⟩ (.int .i64 (r2 : Int))) U → AtEnd w (r1, r2) U ∧ U.heap[D]? = some (.deferred (some []))) := Lib.hid (fun U hU => by
      have h9 := (HI.out.set hr).bel hU
      refine ⟨hr ▸ h9.fin, (hU.block D ?_).trans ((blk_set_far' _ _ _ _ (by show w.heap.size + 3 < D; omega)).trans ((blk_set_far' _ _ _ _ (by show w.heap.size + 2 < D; omega)).trans hdef))⟩
      have := get_lt hdef
      simpa using this)
    have HRR := Lib.hid (hbf.trans hr)
    rw [hr] at c2 c3
    clear hr hdef hbf
    gi_wp2_with fail
    gi_region
    all_goals gi_wp2_with fail
    all_goals refine leaves_marks (B := w.heap.size + 6) (fun Y => AtEnd w (r1, r2) Y) (fun E Y hE hY he => hY.grown (grownBy_putObj' _ _ _) (fun r e => by injection e with e; subst e; exact ⟨_, he, rfl⟩) (fun r e => by injection e with e; omega)) (fun Y hY => ⟨_, at_results rfl hY _ rfl rfl, by rw [HRR.out], hY.below⟩) [D] (by simp) _ (HFIN.out _ (by repeat' (first | (with_reducible exact Below.refl _ _) | (with_reducible refine Rd.below_step ?_ (by assumption)) | (with_reducible refine Rd.below_alloc ?_ _) | (with_reducible refine Rd.below_drewN ?_ _) | (with_reducible refine Below.drew ?_) | (with_reducible refine Below.setCell ?_ ?_ _) | (with_reducible refine Rd.below_setRow ?_ ?_ _) | go_size | (simp only [World.size_alloc]; omega) | omega))).1 fun E hp => ?_
    all_goals (obtain rfl : E = D := by simpa using hp)
    all_goals exact ⟨by omega, (HFIN.out _ (by repeat' (first | (with_reducible exact Below.refl _ _) | (with_reducible refine Rd.below_step ?_ (by assumption)) | (with_reducible refine Rd.below_alloc ?_ _) | (with_reducible refine Rd.below_drewN ?_ _) | (with_reducible refine Below.drew ?_) | (with_reducible refine Below.setCell ?_ ?_ _) | (with_reducible refine Rd.below_setRow ?_ ?_ _) | go_size | (simp only [World.size_alloc]; omega) | omega))).2⟩
end Go.Proofs.Ytminaamfelcajaa.MaG

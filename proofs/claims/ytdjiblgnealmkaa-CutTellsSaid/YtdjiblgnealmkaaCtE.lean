/-
  bytes.Equal; cut.alike.
-/
import Derived.Test.YtdjiblgnealmkaaCtA
import Derived.Test.YtdjiblgnealmkaaBytes
namespace Go.Proofs.Ytdjiblgnealmkaa.CtE
open Go.RowKit Rd Go.Proofs.Ytdjiblgnealmkaa.Row Mid DkM HueA MpM MpA MpB MpC MpD MpE MpF MpG CtA
set_option linter.unusedVariables false
set_option linter.unusedSimpArgs false
set_option maxRecDepth 10000
/-- two strings' test, as the model makes it -/
def eqB (xs ys : List Int) : Bool := (bytesOf xs).toList == (bytesOf ys).toList
theorem eqB_self (xs : List Int) : eqB xs xs = true := by unfold eqB; simp
theorem equal_any (a b : Option Addr) (n n' c c' : Nat) (xs ys : List Int) (w : World) (ha : Reads w 1 a n (xs.map (Value.int .u8))) (hb : Reads w 1 b n' (ys.map (Value.int .u8))) (hx : ∀ z ∈ xs, 0 ≤ z ∧ z ≤ 255) (hy : ∀ z ∈ ys, 0 ≤ z ∧ z ≤ 255) :
    Calls Try.prog 69 #[.slice a n c, .slice b n' c'] w fun e w' => e = .returned (.bool (eqB xs ys)) ∧ w = w' := by
  have c1 := conv_reads (cap := c) Try.underlying62 Try.underlying5 Try.underlying9 ha hx
  have c2 := conv_reads (cap := c') Try.underlying62 Try.underlying5 Try.underlying9 hb hy
  clear ha hb hx hy
  go_enter Try.func69, Try.ntmps69
  go_wp2
  go_ret
  exact ⟨rfl, rfl⟩
attribute [local go_sem ↓] PgA.load_pg PgA.store_pg
attribute [local go_sem] PgA.pc3 PgA.run_load_pg PgA.run_store_pg midLoad_eq rowLoad_eq rowStore_eq blk_alloc_at blk_alloc_old blk_drew blk_drewN blk_grow one_int
theorem alike_nil (b : Value) (L X Y : Int) (a : Option Addr) (n c : Nat) (w : World) :
    Calls Try.prog 60 #[.pointer none, b, PgA.pg L X Y, .slice a n c] w fun e w' => e = .returned (.bool false) ∧ Below w.heap.size w w' := by
  go_enter Try.func60, Try.ntmps60
  go_wp2
  go_ret
  exact ⟨rfl, by repeat' (first | (with_reducible exact Below.refl _ _) | (with_reducible refine Rd.below_step ?_ (by assumption)) | (with_reducible refine Rd.below_alloc ?_ _) | (with_reducible refine Rd.below_drewN ?_ _) | (with_reducible refine Below.drew ?_) | (with_reducible refine Below.setCell ?_ ?_ _) | (with_reducible refine Rd.below_setRow ?_ ?_ _) | go_size | (simp only [World.size_alloc]; omega) | omega)⟩
set_option maxHeartbeats 4000000 in
theorem alike_far (ba bb Da Db : Nat) (wa wb : Bool) (ta tb : List Px) (L X Y : Int) (a : Option Addr) (n c : Nat) (w : World) (hA : Pyr w ba Da wa ta) (hB : Pyr w bb Db wb tb) (hne : Da ≠ Db) :
    Calls Try.prog 60 #[.pointer (some ⟨ba, 0, none⟩), .pointer (some ⟨bb, 0, none⟩), PgA.pg L X Y, .slice a n c] w fun e w' => e = .returned (.bool false) ∧ Below w.heap.size w w' := by
  have CA := Lib.hid fun Z (hZ : Pyr Z ba Da wa ta) => Depth_any Z hZ
  have CB := Lib.hid fun Z (hZ : Pyr Z bb Db wb tb) => Depth_any Z hZ
  have h1 : ¬ (Da : Int) = (Db : Int) := by omega
  have h2 : ((Da : Int) != (Db : Int)) = true := by simp; omega
  go_enter Try.func60, Try.ntmps60
  go_wp2_with fail
  refine (CA.out _ (hA.below (by repeat' (first | (with_reducible exact Below.refl _ _) | (with_reducible refine Rd.below_step ?_ (by assumption)) | (with_reducible refine Rd.below_alloc ?_ _) | (with_reducible refine Rd.below_drewN ?_ _) | (with_reducible refine Below.drew ?_) | (with_reducible refine Below.setCell ?_ ?_ _) | (with_reducible refine Rd.below_setRow ?_ ?_ _) | go_size | (simp only [World.size_alloc]; omega) | omega)))).mono ?_
  rintro e _ ⟨rfl, rfl⟩
  go_wp2_with fail
  refine (CB.out _ (hB.below (by repeat' (first | (with_reducible exact Below.refl _ _) | (with_reducible refine Rd.below_step ?_ (by assumption)) | (with_reducible refine Rd.below_alloc ?_ _) | (with_reducible refine Rd.below_drewN ?_ _) | (with_reducible refine Below.drew ?_) | (with_reducible refine Below.setCell ?_ ?_ _) | (with_reducible refine Rd.below_setRow ?_ ?_ _) | go_size | (simp only [World.size_alloc]; omega) | omega)))).mono ?_
  rintro e _ ⟨rfl, rfl⟩
  go_wp2_with fail
  go_ret
  exact ⟨rfl, by repeat' (first | (with_reducible exact Below.refl _ _) | (with_reducible refine Rd.below_step ?_ (by assumption)) | (with_reducible refine Rd.below_alloc ?_ _) | (with_reducible refine Rd.below_drewN ?_ _) | (with_reducible refine Below.drew ?_) | (with_reducible refine Below.setCell ?_ ?_ _) | (with_reducible refine Rd.below_setRow ?_ ?_ _) | go_size | (simp only [World.size_alloc]; omega) | omega)⟩
set_option maxHeartbeats 4000000 in
theorem alike_any (ba bb D : Nat) (wa wb : Bool) (ta tb : List Px) (L X Y : Int) (a : Addr) (c : Nat) (w : World) (hA : Pyr w ba D wa ta) (hB : Pyr w bb D wb tb) (hv : PgM.validB D L X Y = true) (hr : Reads w 1 (some a) 144 (cp (pageP tb D wb L X Y))) :
    Calls Try.prog 60 #[.pointer (some ⟨ba, 0, none⟩), .pointer (some ⟨bb, 0, none⟩), PgA.pg L X Y, .slice (some a) 144 c] w fun e w' => e = .returned (.bool (eqB (fb (pageP ta D wa L X Y)) (fb (pageP tb D wb L X Y)))) ∧ Below w.heap.size w w' := by
  have CA := Lib.hid fun Z (hZ : Pyr Z ba D wa ta) => Depth_any Z hZ
  have CB := Lib.hid fun Z (hZ : Pyr Z bb D wb tb) => Depth_any Z hZ
  have bA := fb_bd (pageP_B (D := D) (wr := wa) hA.bb L X Y)
  have bB := fb_bd (pageP_B (D := D) (wr := wb) hB.bb L X Y)
  have hB0 := (Below.refl w.heap.size w).alloc (Nat.le_refl _) (.cells #[.int .i64 L, .int .i64 X, .int .i64 Y] 61)
  go_enter Try.func60, Try.ntmps60
  go_wp2_with fail
  refine (CA.out _ (hA.below hB0)).mono ?_
  rintro e _ ⟨rfl, rfl⟩
  go_wp2_with fail
  refine (CB.out _ (hB.below hB0)).mono ?_
  rintro e _ ⟨rfl, rfl⟩
  go_wp2_with fail
  refine (CtA.Page_any L X Y _ (hA.below hB0) hv).mono ?_
  rintro e w3 ⟨⟨v, rfl, ho⟩, hb3⟩
  have L3 : Below w.heap.size w w3 := hB0.trans (hb3.mono (by simp))
  have hr3 := hr.below L3 (Nat.le_refl _)
  rw [cp_fb] at hr3
  obtain ⟨g, cap, rfl, -, -, -, -, -⟩ := owns_pos ho (by omega)
  have hra := Reads.of_owns ho
  have CE := Lib.hid (equal_any (some ⟨g, 0, none⟩) (some a) 144 144 cap c _ _ w3 hra hr3 bA bB)
  clear hr hA hB hB0 hb3 hr3 hra ho bA bB
  go_wp2_with fail
  refine CE.out.mono ?_
  rintro e _ ⟨rfl, rfl⟩
  go_wp2_with fail
  go_ret
  exact ⟨rfl, L3⟩
end Go.Proofs.Ytdjiblgnealmkaa.CtE

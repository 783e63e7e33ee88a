/-
  What package super does: its parts.
-/
import Derived.Test.YtbicgcnlijgjmaaOctB
import Derived.Test.YtbicgcnlijgjmaaCrcD
import Derived.Test.YtbicgcnlijgjmaaEq
namespace Go.Proofs.Ytbicgcnlijgjmaa.SupA
open Go.RowKit Rd Go.Proofs.Ytbicgcnlijgjmaa.Row OctA
open CrcA (tblL tblL_len tblL_at tblF byteN)
open CrcB (onV onF)
set_option linter.unusedVariables false
set_option linter.unusedSimpArgs false
set_option maxRecDepth 100000
theorem load_tbl (x : Value) : Instr.loadAt 28 x = loadRow 28 x := rfl
theorem store_tbl (x v : Value) : Instr.storeAt 28 x v = storeRow 28 x v := rfl
theorem load_sup (x : Value) : Instr.loadAt 24 x = loadRow 24 x := rfl
theorem store_sup (x v : Value) : Instr.storeAt 24 x v = storeRow 24 x v := rfl
theorem alloc_sup : Instr.alloc 24 true (.tuple #[]) = allocRow 24 := rfl
/-- a block's cells -/
def blkV (g d : Int) (r : Bool) (s l m : Int) : Array Value := #[.int .i64 g, .int .i64 d, .bool r, .int .i64 s, .int .i64 l, .int .u32 m]
theorem blkV_size (g d : Int) (r : Bool) (s l m : Int) : (blkV g d r s l m).size = 6 := rfl
theorem blkV_all (g d : Int) (r : Bool) (s l m : Int) : (blkV g d r s l m).all (·.oneCell') = true := by simp [blkV, Value.oneCell']
theorem blkV_all6 (g d : Int) (r : Bool) (s l m : Int) : (blkV g d r s l m).all (fun a => a.oneCell') 0 6 = true := blkV_all g d r s l m
def zeroB : Array Value := blkV 0 0 false 0 0 0
theorem zeroB_size : zeroB.size = 6 := rfl
theorem zeroB_all6 : zeroB.all (fun a => a.oneCell') 0 6 = true := blkV_all 0 0 false 0 0 0
theorem one_bool (b : Bool) : (Value.bool b).oneCell' = true := rfl
theorem run_alloc_sup (w : World) : (allocRow 24).run Try.prog w = .ok (.pointer (some ⟨w.heap.size, 0, none⟩)) (w.alloc (.cells (blkV 0 0 false 0 0 0) 24)) := by kernel_rfl
theorem run_load_sup (g o : Nat) (W : World) : (loadRow 24 (.pointer (some ⟨g, o, none⟩))).run Try.prog W = rowLoad Try.prog 24 6 g o W := run_loadRow Try.underlying24 rfl (by kernel_rfl) g o W
theorem run_store_sup (g o : Nat) (c : Array Value) (W : World) : (storeRow 24 (.pointer (some ⟨g, o, none⟩)) (.agg c)).run Try.prog W = rowStore Try.prog 24 6 g o c W := run_storeRow (by kernel_rfl) g o c W
attribute [local go_sem ↓] CrcA.load_tbl CrcA.store_tbl load_sup store_sup alloc_sup
attribute [local go_sem] CrcA.run_load_tbl CrcA.run_store_tbl run_alloc_sup run_load_sup run_store_sup rowLoad_eq rowStore_eq blk_alloc_at blk_alloc_old blk_drew blk_drewN blk_set_far blk_set_far' blk_grow setRow_alloc_at setRow_alloc_old setRow_drew setRow_drewN all_map one_int blkV_size blkV_all blkV_all6 zeroB_size zeroB_all6 one_bool

theorem eq_sup (g d : Int) (r : Bool) (s l m g' d' : Int) (r' : Bool) (s' l' m' : Int) (w : World) : (Op.equalIn 10000 24 (.agg (blkV g d r s l m)) (.agg (blkV g' d' r' s' l' m'))).run Try.prog w =
    .ok (g == g' && (d == d' && (r == r' && (s == s' && (l == l' && m == m'))))) w := by
  unfold blkV
  go_simp
  cases h1 : g == g' <;> cases h2 : d == d' <;> cases h3 : r == r' <;> cases h4 : s == s' <;> cases h5 : l == l' <;> cases h6 : m == m' <;> simp_all
attribute [local go_sem] eq_sup
def wI (n m : Int) : Bool := decide (0 ≤ n) && decide (n ≤ m)
theorem wI_yes {n m : Int} (h : wI n m = true) : 0 ≤ n ∧ n ≤ m := by simpa [wI] using h
theorem within_any (n m : Int) (w : World) : Calls Try.prog 28 #[.int .i64 n, .int .i64 m] w fun e w' => e = .returned (.bool (wI n m)) ∧ w = w' := by
  by_cases h0 : 0 ≤ n
  · by_cases h1 : n ≤ m
    · have hw : wI n m = true := by simp [wI, h0, h1]
      go_enter Try.func28, Try.ntmps28
      go_wp2
      go_ret
      exact ⟨by simp [hw], by trivial⟩
    · have hw : wI n m = false := by simp [wI, h0, h1]
      go_enter Try.func28, Try.ntmps28
      go_wp2
      go_ret
      exact ⟨by simp [hw], by trivial⟩
  · have hw : wI n m = false := by simp [wI, h0]
    go_enter Try.func28, Try.ntmps28
    go_wp2
    go_ret
    exact ⟨by simp [hw], by trivial⟩
def mayB (g d s l : Int) : Bool := wI g 4294967295 && wI d 3 && wI s 65535 && wI l 65535
theorem may_any (g d : Int) (r : Bool) (s l m : Int) (w : World) :
    Calls Try.prog 20 #[.agg (blkV g d r s l m)] w fun e w' => e = .returned (.bool (mayB g d s l)) ∧ Below w.heap.size w w' := by
  unfold blkV mayB
  cases h1 : wI g 4294967295
  · go_enter Try.func20, Try.ntmps20
    go_wp2_with (go_at_call 28; refine (within_any _ _ _).mono ?_; rintro e w1 ⟨rfl, rfl⟩; try simp only [h1])
    go_ret
    exact ⟨rfl, by repeat' (first | (with_reducible exact Below.refl _ _) | (with_reducible refine Rd.below_step ?_ (by assumption)) | (with_reducible refine Rd.below_alloc ?_ _) | (with_reducible refine Rd.below_drewN ?_ _) | (with_reducible refine Below.drew ?_) | (with_reducible refine Below.setCell ?_ ?_ _) | (with_reducible refine Rd.below_setRow ?_ ?_ _) | go_size | (simp only [World.size_alloc]; omega) | omega)⟩
  cases h2 : wI d 3
  · go_enter Try.func20, Try.ntmps20
    go_wp2_with (go_at_call 28; refine (within_any _ _ _).mono ?_; rintro e w1 ⟨rfl, rfl⟩; try simp only [h1, h2])
    go_ret
    exact ⟨rfl, by repeat' (first | (with_reducible exact Below.refl _ _) | (with_reducible refine Rd.below_step ?_ (by assumption)) | (with_reducible refine Rd.below_alloc ?_ _) | (with_reducible refine Rd.below_drewN ?_ _) | (with_reducible refine Below.drew ?_) | (with_reducible refine Below.setCell ?_ ?_ _) | (with_reducible refine Rd.below_setRow ?_ ?_ _) | go_size | (simp only [World.size_alloc]; omega) | omega)⟩
  cases h3 : wI s 65535
  · go_enter Try.func20, Try.ntmps20
    go_wp2_with (go_at_call 28; refine (within_any _ _ _).mono ?_; rintro e w1 ⟨rfl, rfl⟩; try simp only [h1, h2, h3])
    go_ret
    exact ⟨rfl, by repeat' (first | (with_reducible exact Below.refl _ _) | (with_reducible refine Rd.below_step ?_ (by assumption)) | (with_reducible refine Rd.below_alloc ?_ _) | (with_reducible refine Rd.below_drewN ?_ _) | (with_reducible refine Below.drew ?_) | (with_reducible refine Below.setCell ?_ ?_ _) | (with_reducible refine Rd.below_setRow ?_ ?_ _) | go_size | (simp only [World.size_alloc]; omega) | omega)⟩
  cases h4 : wI l 65535
  all_goals
    go_enter Try.func20, Try.ntmps20
    go_wp2_with (go_at_call 28; refine (within_any _ _ _).mono ?_; rintro e w1 ⟨rfl, rfl⟩; try simp only [h1, h2, h3, h4])
    go_ret
    exact ⟨rfl, by repeat' (first | (with_reducible exact Below.refl _ _) | (with_reducible refine Rd.below_step ?_ (by assumption)) | (with_reducible refine Rd.below_alloc ?_ _) | (with_reducible refine Rd.below_drewN ?_ _) | (with_reducible refine Below.drew ?_) | (with_reducible refine Below.setCell ?_ ?_ _) | (with_reducible refine Rd.below_setRow ?_ ?_ _) | go_size | (simp only [World.size_alloc]; omega) | omega)⟩
end Go.Proofs.Ytbicgcnlijgjmaa.SupA

/-
  Triangles: the numbers of three spots as one row; parts of a row by value; Side, Edges, Area.
-/
import Derived.Test.YtjbmochndpdolaaNum
import Derived.Test.YtjbmochndpdolaaRd
import Derived.Test.YtjbmochndpdolaaEq
import Derived.Test.YtjbmochndpdolaaRow
import Derived.Deep.MidRow
namespace Go.Proofs.Ytjbmochndpdolaa.TriA
open Go.RowKit FixA Num Rd Go.Proofs.Ytjbmochndpdolaa.Row
set_option linter.unusedVariables false
set_option linter.unusedSimpArgs false
set_option maxRecDepth 10000

theorem prod_bd {a b A B : Int} (h1 : -A ≤ a) (h2 : a ≤ A) (h3 : -B ≤ b) (h4 : b ≤ B) : -(A * B) ≤ a * b ∧ a * b ≤ A * B := by
  rcases Int.le_total 0 a with ha | ha <;> rcases Int.le_total 0 b with hb | hb
  · have e1 := Int.mul_le_mul h2 h4 hb (by omega); have e2 := Int.mul_nonneg ha hb; have e3 : 0 ≤ A * B := Int.le_trans e2 e1; omega
  · have e1 := Int.mul_le_mul h2 (show -b ≤ B by omega) (by omega) (by omega); have e2 := Int.mul_nonneg ha (show 0 ≤ -b by omega); have e4 : a * -b = -(a * b) := Int.mul_neg ..; omega
  · have e1 := Int.mul_le_mul (show -a ≤ A by omega) h4 hb (by omega); have e2 := Int.mul_nonneg (show 0 ≤ -a by omega) hb; have e4 : -a * b = -(a * b) := Int.neg_mul ..; omega
  · have e1 := Int.mul_le_mul (show -a ≤ A by omega) (show -b ≤ B by omega) (by omega) (by omega); have e2 := Int.mul_nonneg (show 0 ≤ -a by omega) (show 0 ≤ -b by omega); have e4 : -a * -b = a * b := Int.neg_mul_neg ..; omega

/-! The greater and the smaller of two, in one goal -/
theorem run_maxT {P : Program} {w : World} (ts : Array TypeId) (t : TypeId) (k : IntKind) (x y : Int) : (Builtin.max_ ts t #[.int k x, .int k y]).run P w = .ok (.int k (max x y)) w := by
  have e : ∀ a b : Int, (if b > a then b else a) = max a b := fun a b => by split <;> omega
  simp [Builtin.max_, Builtin.max2, e]
  repeat' split
  all_goals (first | rfl | (congr 2; omega))
theorem run_minT {P : Program} {w : World} (ts : Array TypeId) (t : TypeId) (k : IntKind) (x y : Int) : (Builtin.min_ ts t #[.int k x, .int k y]).run P w = .ok (.int k (min x y)) w := by
  have e : ∀ a b : Int, (if b < a then b else a) = min a b := fun a b => by split <;> omega
  simp [Builtin.min_, Builtin.min2, e]
  repeat' split
  all_goals (first | rfl | (congr 2; omega))

/-! A part of a row, by value -/
section
variable {P : Program}
def piece (c : Array Value) (o n : Nat) : Array Value := c.extract o (o + n)
def midLoad (P : Program) (t n g o : Nat) (W : World) : Result Value :=
  match blk W g with
  | some (.cells c _ _) => if o + n ≤ c.size then .ok (.agg (piece c o n)) W else fallLoad P t g o W
  | _ => fallLoad P t g o W
theorem midLoad_eq (t n g o : Nat) (W : World) : midLoad P t n g o W = match blk W g with
  | some (.cells c _ _) => if o + n ≤ c.size then .ok (.agg (piece c o n)) W else fallLoad P t g o W
  | _ => fallLoad P t g o W := rfl
theorem run_loadMid {t n : Nat} {d : TypeDesc} (hu : P.underlying t = some d) (hd : d.isRow = true) (hi : (P.info? t).map (·.size) = some n) (g o : Nat) (W : World) :
    (loadRow t (.pointer (some ⟨g, o, none⟩))).run P W = midLoad P t n g o W := by
  unfold midLoad loadRow blk
  split
  · rename_i c t' fr h
    split
    · rename_i h0
      have := run_loadAt_mid (P := P) W g o t (c.extract o (o + n)).toList d (fun j v hj => by
        rw [cell_of_row W g (o + j) c t' fr h]
        rw [Array.getElem?_toList, Array.getElem?_extract] at hj
        split at hj
        · exact hj
        · cases hj) hu hd (by rw [hi]; simp; omega)
      rw [this, Array.toArray_toList]; rfl
    · simp [Instr.loadAt, Instr.sureAddr, fallLoad]
  · simp [Instr.loadAt, Instr.sureAddr, fallLoad]
end

/-! The numbers of three spots -/
def g (l : List Int) (i : Nat) : Int := l.getD i 0
def sp (t : List Int) (i : Nat) : List Int := (t.drop (6 * i)).take 6
theorem sp_len {t : List Int} (ht : t.length = 18) (i : Nat) (hi : i < 3) : (sp t i).length = 6 := by simp [sp, ht]; omega
theorem sp_g (t : List Int) (i j : Nat) (hj : j < 6) : g (sp t i) j = g t (6 * i + j) := by
  simp [g, sp, List.getD, List.getElem?_take, List.getElem?_drop, hj]
theorem cs_extract (t : List Int) (i : Nat) : (cs .i64 t).extract (6 * i) (6 * i + 6) = cs .i64 (sp t i) := by
  simp only [cs, sp, List.extract_toArray, List.map_take, List.map_drop]
  simp [List.extract_eq_take_drop]
/-- a spot such as may be: X, Y, Z, W, U, V -/
structure Sp (x y z q u v : Int) : Prop where
  x0 : 0 ≤ x
  x1 : x ≤ 16384
  y0 : 0 ≤ y
  y1 : y ≤ 16384
  z0 : 0 ≤ z
  z1 : z ≤ 65535
  w0 : 256 ≤ q
  w1 : q ≤ 536870912
  u0 : -134217728 ≤ u
  u1 : u ≤ 134217728
  v0 : -134217728 ≤ v
  v1 : v ≤ 134217728
abbrev SpL (l : List Int) : Prop := l.length = 6 ∧ Sp (g l 0) (g l 1) (g l 2) (g l 3) (g l 4) (g l 5)
structure Tri (t : List Int) : Prop where
  len : t.length = 18
  s0 : Sp (g t 0) (g t 1) (g t 2) (g t 3) (g t 4) (g t 5)
  s1 : Sp (g t 6) (g t 7) (g t 8) (g t 9) (g t 10) (g t 11)
  s2 : Sp (g t 12) (g t 13) (g t 14) (g t 15) (g t 16) (g t 17)
theorem Tri.sp0 {t : List Int} (h : Tri t) : SpL (sp t 0) := ⟨sp_len h.len 0 (by omega), by simpa only [sp_g, show (0:Nat) < 6 by omega, show (1:Nat) < 6 by omega, show (2:Nat) < 6 by omega, show (3:Nat) < 6 by omega, show (4:Nat) < 6 by omega, show (5:Nat) < 6 by omega] using h.s0⟩
theorem Tri.sp1 {t : List Int} (h : Tri t) : SpL (sp t 1) := ⟨sp_len h.len 1 (by omega), by simpa only [sp_g, show (0:Nat) < 6 by omega, show (1:Nat) < 6 by omega, show (2:Nat) < 6 by omega, show (3:Nat) < 6 by omega, show (4:Nat) < 6 by omega, show (5:Nat) < 6 by omega] using h.s1⟩
theorem Tri.sp2 {t : List Int} (h : Tri t) : SpL (sp t 2) := ⟨sp_len h.len 2 (by omega), by simpa only [sp_g, show (0:Nat) < 6 by omega, show (1:Nat) < 6 by omega, show (2:Nat) < 6 by omega, show (3:Nat) < 6 by omega, show (4:Nat) < 6 by omega, show (5:Nat) < 6 by omega] using h.s2⟩
abbrev Pt (x : Int) : Prop := -1024 ≤ x ∧ x ≤ 32768

def sideV (ax ay bx by_ x y : Int) : Int := (bx - ax) * (y - ay) - (by_ - ay) * (x - ax)
theorem sideV_bd {ax ay bx by_ x y : Int} (a0 : 0 ≤ ax) (a1 : ax ≤ 16384) (a2 : 0 ≤ ay) (a3 : ay ≤ 16384) (b0 : 0 ≤ bx) (b1 : bx ≤ 16384) (b2 : 0 ≤ by_) (b3 : by_ ≤ 16384) (hx : Pt x) (hy : Pt y) :
    -1073741824 ≤ sideV ax ay bx by_ x y ∧ sideV ax ay bx by_ x y ≤ 1073741824 := by
  have p := prod_bd (a := bx - ax) (b := y - ay) (A := 16384) (B := 32768) (by omega) (by omega) (by omega) (by omega)
  have q := prod_bd (a := by_ - ay) (b := x - ax) (A := 16384) (B := 32768) (by omega) (by omega) (by omega) (by omega)
  unfold sideV
  omega

theorem load_spot (x : Value) : Instr.loadAt 23 x = loadRow 23 x := rfl
theorem load_tri (x : Value) : Instr.loadAt 24 x = loadRow 24 x := rfl
theorem load_w3 (x : Value) : Instr.loadAt 27 x = loadRow 27 x := rfl
theorem store_tri (x v : Value) : Instr.storeAt 24 x v = storeRow 24 x v := rfl
theorem store_w3 (x v : Value) : Instr.storeAt 27 x v = storeRow 27 x v := rfl
theorem run_load_spot (g o : Nat) (W : World) : (loadRow 23 (.pointer (some ⟨g, o, none⟩))).run Try.prog W = midLoad Try.prog 23 6 g o W := run_loadMid Try.underlying23 rfl (by kernel_rfl) g o W
theorem run_load_tri (g o : Nat) (W : World) : (loadRow 24 (.pointer (some ⟨g, o, none⟩))).run Try.prog W = rowLoad Try.prog 24 18 g o W := run_loadRow Try.underlying24 rfl (by kernel_rfl) g o W
theorem run_load_w3 (g o : Nat) (W : World) : (loadRow 27 (.pointer (some ⟨g, o, none⟩))).run Try.prog W = rowLoad Try.prog 27 3 g o W := run_loadRow Try.underlying27 rfl (by kernel_rfl) g o W
theorem run_store_tri (g o : Nat) (c : Array Value) (W : World) : (storeRow 24 (.pointer (some ⟨g, o, none⟩)) (.agg c)).run Try.prog W = rowStore Try.prog 24 18 g o c W := run_storeRow (by kernel_rfl) g o c W
theorem run_store_w3 (g o : Nat) (c : Array Value) (W : World) : (storeRow 27 (.pointer (some ⟨g, o, none⟩)) (.agg c)).run Try.prog W = rowStore Try.prog 27 3 g o c W := run_storeRow (by kernel_rfl) g o c W
theorem ext0 (t : List Int) : piece (cs .i64 t) 0 6 = cs .i64 (sp t 0) := cs_extract t 0
theorem ext1 (t : List Int) : piece (cs .i64 t) 6 6 = cs .i64 (sp t 1) := cs_extract t 1
theorem ext2 (t : List Int) : piece (cs .i64 t) 12 6 = cs .i64 (sp t 2) := cs_extract t 2
theorem ret_int {k : IntKind} {a b : Int} (h : a = b) : Ending.returned (.int k a) = .returned (.int k b) := by rw [h]
attribute [local go_sem ↓] load_tri store_tri load_w3 store_w3 load_spot
attribute [local go_sem] one_int run_load_spot run_load_tri run_load_w3 run_store_tri run_store_w3 rowLoad_eq rowStore_eq midLoad_eq ext0 ext1 ext2 blk_alloc_at blk_alloc_old blk_drew blk_drewN blk_set_far blk_set_far' blk_grow setRow_alloc_at setRow_alloc_old setRow_drew setRow_drewN

theorem side_any (a b : List Int) (ha : SpL a) (hb : SpL b) (x y : Int) (hx : Pt x) (hy : Pt y) (w : World) :
    Calls Try.prog 34 #[.agg (cs .i64 a), .agg (cs .i64 b), .int .i64 x, .int .i64 y] w fun e w' => e = .returned (.int .i64 (sideV (g a 0) (g a 1) (g b 0) (g b 1) x y)) ∧ Below w.heap.size w w' := by
  obtain ⟨la, ⟨a0, a1, a2, a3, -, -, -, -, -, -, -, -⟩⟩ := ha
  obtain ⟨lb, ⟨b0, b1, b2, b3, -, -, -, -, -, -, -, -⟩⟩ := hb
  have la0 : 0 < a.length := by omega
  have la1 : 1 < a.length := by omega
  have lb0 : 0 < b.length := by omega
  have lb1 : 1 < b.length := by omega
  simp only [g, List.getD, la0, la1, lb0, lb1, List.getElem?_eq_getElem, Option.getD_some] at a0 a1 a2 a3 b0 b1 b2 b3 ⊢
  obtain ⟨p0, p1⟩ := prod_bd (a := b[0] - a[0]) (b := y - a[1]) (A := 16384) (B := 32768) (by omega) (by omega) (by omega) (by omega)
  obtain ⟨q0, q1⟩ := prod_bd (a := b[1] - a[1]) (b := x - a[0]) (A := 16384) (B := 32768) (by omega) (by omega) (by omega) (by omega)
  go_enter Try.func34, Try.ntmps34
  go_wp2
  go_ret
  exact ⟨rfl, by repeat' (first | (with_reducible exact Below.refl _ _) | (with_reducible refine Rd.below_step ?_ (by assumption)) | (with_reducible refine Rd.below_alloc ?_ _) | (with_reducible refine Rd.below_drewN ?_ _) | (with_reducible refine Below.drew ?_) | (with_reducible refine Below.setCell ?_ ?_ _) | (with_reducible refine Rd.below_setRow ?_ ?_ _) | go_size | (simp only [World.size_alloc]; omega) | omega)⟩

theorem rside_any (a b : List Int) (ha : SpL a) (hb : SpL b) (x y : Int) (hx : Pt x) (hy : Pt y) (w : World) :
    Calls Try.prog 33 #[.agg (cs .i64 a), .agg (cs .i64 b), .int .i64 x, .int .i64 y] w fun e w' => e = .returned (.int .i64 (sideV (g a 0) (g a 1) (g b 0) (g b 1) x y)) ∧ Below w.heap.size w w' := by
  obtain ⟨la, ⟨a0, a1, a2, a3, -, -, -, -, -, -, -, -⟩⟩ := ha
  obtain ⟨lb, ⟨b0, b1, b2, b3, -, -, -, -, -, -, -, -⟩⟩ := hb
  have la0 : 0 < a.length := by omega
  have la1 : 1 < a.length := by omega
  have lb0 : 0 < b.length := by omega
  have lb1 : 1 < b.length := by omega
  simp only [g, List.getD, la0, la1, lb0, lb1, List.getElem?_eq_getElem, Option.getD_some] at a0 a1 a2 a3 b0 b1 b2 b3 ⊢
  obtain ⟨p0, p1⟩ := prod_bd (a := b[0] - a[0]) (b := y - a[1]) (A := 16384) (B := 32768) (by omega) (by omega) (by omega) (by omega)
  obtain ⟨q0, q1⟩ := prod_bd (a := b[1] - a[1]) (b := x - a[0]) (A := 16384) (B := 32768) (by omega) (by omega) (by omega) (by omega)
  go_enter Try.func33, Try.ntmps33
  go_wp2
  go_ret
  exact ⟨rfl, by repeat' (first | (with_reducible exact Below.refl _ _) | (with_reducible refine Rd.below_step ?_ (by assumption)) | (with_reducible refine Rd.below_alloc ?_ _) | (with_reducible refine Rd.below_drewN ?_ _) | (with_reducible refine Below.drew ?_) | (with_reducible refine Below.setCell ?_ ?_ _) | (with_reducible refine Rd.below_setRow ?_ ?_ _) | go_size | (simp only [World.size_alloc]; omega) | omega)⟩
end Go.Proofs.Ytjbmochndpdolaa.TriA

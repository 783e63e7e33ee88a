/-
  Texels, rows of them, the levels of a pyramid: the mathematics.
  A pyramid in the store; has, Size, along, At, Depth, Wrap, May.
  At.
  A pyramid's texel by its numbers: the mathematics.
  A row of texels that grows; Clone; half.
  May: of both.
  Build.
  Texture; within.
  With.
-/
import Derived.Test.YtkklppjimnkibaaDkM
import Derived.Test.YtkklppjimnkibaaHueA
import Derived.Test.YtkklppjimnkibaaAlike
import Derived.Test.YtkklppjimnkibaaOctA
import Derived.BigQuiet
import Derived.BigGuard
import Derived.Deep.QuietTactic
import Derived.Test.YtkklppjimnkibaaApp
import Derived.Test.YtkklppjimnkibaaPredT
import Derived.Test.YtkklppjimnkibaaHueB
import Derived.Lib.SliceRun
import Derived.LoopTactic
import Derived.Laws.CopyRow
namespace Go.Proofs.Ytkklppjimnkibaa.MpM
open Go.RowKit Rd Go.Proofs.Ytkklppjimnkibaa.Row Mid DkM HueA
set_option linter.unusedVariables false
set_option linter.unusedSimpArgs false
set_option maxRecDepth 10000
/-- a texel -/
@[ext] structure Px where
  r : Int
  g : Int
  b : Int
  a : Int
deriving DecidableEq
def Px.z : Px := ⟨0, 0, 0, 0⟩
def Px.c (p : Px) : Array Value := #[.int .u8 p.r, .int .u8 p.g, .int .u8 p.b, .int .u8 p.a]
def Px.l (p : Px) : List Value := [.int .u8 p.r, .int .u8 p.g, .int .u8 p.b, .int .u8 p.a]
abbrev Px.v (p : Px) : Value := .agg p.c
def Px.B (p : Px) : Prop := B8 p.r ∧ B8 p.g ∧ B8 p.b ∧ B8 p.a
theorem Px.zB : Px.z.B := by unfold Px.B Px.z B8; simp
theorem Px.l_len (p : Px) : p.l.length = 4 := rfl
theorem Px.l_c (p : Px) : p.l.toArray = p.c := rfl
theorem Px.l_one (p : Px) : ∀ u ∈ p.l, u.oneCell' = true := by intro u hu; simp [Px.l] at hu; rcases hu with rfl | rfl | rfl | rfl <;> rfl
theorem Px.c_all (p : Px) : p.c.all (fun x => x.oneCell') = true := by simp [Px.c, Value.oneCell']
theorem Px.c_size (p : Px) : p.c.size = 4 := rfl
theorem Px.v_inj {p q : Px} (h : p.v = q.v) : p = q := by
  simp only [Px.v, Px.c, Value.agg.injEq, Array.mk.injEq, List.cons.injEq, Value.int.injEq, true_and, and_true] at h
  obtain ⟨h1, h2, h3, h4⟩ := h
  exact Px.ext h1 h2 h3 h4
/-- the mean of four -/
def mean (p q r s : Px) : Px := ⟨meanB p.r q.r r.r s.r, meanB p.g q.g r.g s.g, meanB p.b q.b r.b s.b, meanB p.a q.a r.a s.a⟩
theorem mean_B {p q r s : Px} (hp : p.B) (hq : q.B) (hr : r.B) (hs : s.B) : (mean p q r s).B :=
  ⟨meanB_bd hp.1 hq.1 hr.1 hs.1, meanB_bd hp.2.1 hq.2.1 hr.2.1 hs.2.1, meanB_bd hp.2.2.1 hq.2.2.1 hr.2.2.1 hs.2.2.1, meanB_bd hp.2.2.2 hq.2.2.2 hr.2.2.2 hs.2.2.2⟩
/-- a row's cells -/
def cp (ps : List Px) : List Value := fl (ps.map Px.l)
theorem cp_ls (ps : List Px) : ∀ l ∈ ps.map Px.l, l.length = 4 := by intro l hl; obtain ⟨p, _, rfl⟩ := List.mem_map.1 hl; rfl
theorem cp_len (ps : List Px) : (cp ps).length = ps.length * 4 := by unfold cp; rw [fl_len (cp_ls ps), List.length_map]
theorem cp_app (a b : List Px) : cp (a ++ b) = cp a ++ cp b := by unfold cp; rw [List.map_append, fl_app]
theorem cp_one (p : Px) : cp [p] = p.l := by simp [cp, fl]
theorem cp_ones (ps : List Px) : ∀ u ∈ cp ps, u.oneCell' = true := by
  intro u hu
  unfold cp fl at hu
  obtain ⟨l, hl, hu⟩ := List.mem_flatten.1 hu
  obtain ⟨p, _, rfl⟩ := List.mem_map.1 hl
  exact p.l_one u hu
/-- number i of a row -/
def at_ (ps : List Px) (i : Nat) : Px := ps.getD i Px.z
theorem at_get {ps : List Px} {i : Nat} (h : i < ps.length) : at_ ps i = ps[i] := by unfold at_; simp [List.getD, h]
theorem at_out {ps : List Px} {i : Nat} (h : ps.length ≤ i) : at_ ps i = Px.z := by unfold at_; rw [List.getD_eq_getElem?_getD, List.getElem?_eq_none h]; rfl
theorem cp_at {ps : List Px} {i j : Nat} (hi : i < ps.length) (hj : j < 4) : (cp ps)[i * 4 + j]? = (at_ ps i).l[j]? := by
  unfold cp
  rw [fl_at (cp_ls ps) (by simpa using hi) hj, List.getElem_map, at_get hi]
def RB (ps : List Px) : Prop := ∀ p ∈ ps, p.B
theorem RB.at {ps : List Px} (h : RB ps) (i : Nat) : (at_ ps i).B := by
  rcases Nat.lt_or_ge i ps.length with h1 | h1
  · rw [at_get h1]; exact h _ (List.getElem_mem h1)
  · rw [at_out h1]; exact Px.zB
/-- a texel out of a row, by value -/
theorem reads_off {X : World} {s n b off : Nat} {a : Option Addr} {cs : List Value} (h : Reads X s a n cs) (ha : a = some ⟨b, off, none⟩) (hn : 0 < n) : b < X.heap.size ∧ ∀ i, i < cs.length → X.cell? ⟨b, off + i, none⟩ = cs[i]? := by
  obtain ⟨_, h2⟩ := h
  rcases h2 with h2 | ⟨b', off', rfl, hlt, hc⟩
  · omega
  · cases ha
    exact ⟨hlt, hc⟩
theorem ld_px {X : World} {b off n : Nat} {ps : List Px} (h : Reads X 4 (some ⟨b, off, none⟩) n (cp ps)) {i : Nat} (hi : i < ps.length) :
    (loadRow 97 (.pointer (some ⟨b, off + i * 4, none⟩))).run Try.prog X = .ok (at_ ps i).v X := by
  have hn : 0 < n := by
    have := h.1
    rw [cp_len] at this
    omega
  have hc := (reads_off h rfl hn).2
  have := run_loadAt_mid (P := Try.prog) X b (off + i * 4) 97 (at_ ps i).l _ (fun j v hj => by
    have hj4 : j < 4 := by
      have := (List.getElem?_eq_some_iff.1 hj).1
      exact this
    have h1 := hc (i * 4 + j) (by rw [cp_len]; omega)
    rw [cp_at hi hj4, hj, ← Nat.add_assoc] at h1
    exact h1) Try.underlying97 rfl (by kernel_rfl)
  exact this
/-- the next level's texels -/
def half (ps : List Px) (m : Nat) : List Px := (List.range (m * m)).map fun i => mean (at_ ps (2 * m * (2 * (i / m)) + 2 * (i % m))) (at_ ps (2 * m * (2 * (i / m)) + 2 * (i % m) + 1)) (at_ ps (2 * m * (2 * (i / m)) + 2 * (i % m) + 2 * m)) (at_ ps (2 * m * (2 * (i / m)) + 2 * (i % m) + 2 * m + 1))
theorem half_len (ps : List Px) (m : Nat) : (half ps m).length = m * m := by simp [half]
theorem half_at (ps : List Px) {m i : Nat} (h : i < m * m) : at_ (half ps m) i = mean (at_ ps (2 * m * (2 * (i / m)) + 2 * (i % m))) (at_ ps (2 * m * (2 * (i / m)) + 2 * (i % m) + 1)) (at_ ps (2 * m * (2 * (i / m)) + 2 * (i % m) + 2 * m)) (at_ ps (2 * m * (2 * (i / m)) + 2 * (i % m) + 2 * m + 1)) := by
  rw [at_get (by rw [half_len]; exact h)]
  simp [half]
theorem half_xy (ps : List Px) {m x y : Nat} (hx : x < m) (hy : y < m) : at_ (half ps m) (m * y + x) = mean (at_ ps (2 * m * (2 * y) + 2 * x)) (at_ ps (2 * m * (2 * y) + 2 * x + 1)) (at_ ps (2 * m * (2 * y) + 2 * x + 2 * m)) (at_ ps (2 * m * (2 * y) + 2 * x + 2 * m + 1)) := by
  have h1 : m * y + x < m * m := by
    have h9 : m * (y + 1) ≤ m * m := Nat.mul_le_mul_left m (by omega)
    rw [Nat.mul_add] at h9
    omega
  have h2 : (m * y + x) / m = y := by rw [Nat.mul_add_div (by omega), Nat.div_eq_of_lt hx, Nat.add_zero]
  have h3 : (m * y + x) % m = x := by rw [Nat.mul_add_mod, Nat.mod_eq_of_lt hx]
  rw [half_at ps h1, h2, h3]
theorem half_B {ps : List Px} (h : RB ps) (m : Nat) : RB (half ps m) := by
  intro p hp
  obtain ⟨i, _, rfl⟩ := List.mem_map.1 hp
  exact mean_B (h.at _) (h.at _) (h.at _) (h.at _)
theorem half_take (ps : List Px) {m x y : Nat} (hx : x < m) (hy : y < m) : (half ps m).take (m * y + x + 1) = (half ps m).take (m * y + x) ++ [mean (at_ ps (2 * m * (2 * y) + 2 * x)) (at_ ps (2 * m * (2 * y) + 2 * x + 1)) (at_ ps (2 * m * (2 * y) + 2 * x + 2 * m)) (at_ ps (2 * m * (2 * y) + 2 * x + 2 * m + 1))] := by
  have h1 : m * y + x < m * m := by
    have h9 : m * (y + 1) ≤ m * m := Nat.mul_le_mul_left m (by omega)
    rw [Nat.mul_add] at h9
    omega
  rw [← half_xy ps hx hy, at_get (by rw [half_len]; exact h1), List.take_append_getElem (by rw [half_len]; exact h1)]
/-- the side of the level that is so many below the coarsest one -/
def sd (d : Nat) : Nat := 4 * 2 ^ d
theorem sd_succ (d : Nat) : sd (d + 1) = 2 * sd d := by unfold sd; rw [Nat.pow_succ]; omega
theorem sd_pos (d : Nat) : 4 ≤ sd d := by unfold sd; have := Nat.two_pow_pos d; omega
theorem sd_le {d : Nat} (h : d ≤ 3) : sd d ≤ 32 := by
  rcases (show d = 0 ∨ d = 1 ∨ d = 2 ∨ d = 3 by omega) with rfl | rfl | rfl | rfl <;> decide
theorem sd_cases {d : Nat} (h : d ≤ 3) : sd d = 4 ∨ sd d = 8 ∨ sd d = 16 ∨ sd d = 32 := by
  rcases (show d = 0 ∨ d = 1 ∨ d = 2 ∨ d = 3 by omega) with rfl | rfl | rfl | rfl <;> decide
theorem sq_le {n : Nat} (h : n ≤ 32) : n * n ≤ 1024 := Nat.mul_le_mul h h
/-- level l of a texture so deep -/
def lev (ps : List Px) (D : Nat) : Nat → List Px
  | 0 => ps
  | l + 1 => half (lev ps D l) (sd (D - (l + 1)))
theorem lev_len {ps : List Px} {D : Nat} (h : ps.length = sd D * sd D) : ∀ l, (lev ps D l).length = sd (D - l) * sd (D - l)
  | 0 => h
  | l + 1 => half_len _ _
theorem lev_B {ps : List Px} {D : Nat} (h : RB ps) : ∀ l, RB (lev ps D l)
  | 0 => h
  | l + 1 => half_B (lev_B h l) _
theorem lev_xy {ps : List Px} {D l x y : Nat} (hl : l < D) (hx : x < sd (D - (l + 1))) (hy : y < sd (D - (l + 1))) : at_ (lev ps D (l + 1)) (sd (D - (l + 1)) * y + x) =
    mean (at_ (lev ps D l) (sd (D - l) * (2 * y) + 2 * x)) (at_ (lev ps D l) (sd (D - l) * (2 * y) + (2 * x + 1))) (at_ (lev ps D l) (sd (D - l) * (2 * y + 1) + 2 * x)) (at_ (lev ps D l) (sd (D - l) * (2 * y + 1) + (2 * x + 1))) := by
  have e : sd (D - l) = 2 * sd (D - (l + 1)) := by rw [← sd_succ]; congr 1; omega
  show at_ (half _ _) _ = _
  rw [half_xy _ hx hy, e, Nat.mul_add (2 * sd (D - (l + 1))) (2 * y) 1]
  congr 2 <;> omega
/-- where a place stands on one way -/
def along (wr : Bool) (n : Nat) (x : Int) : Int := if wr = true then x % n else max 0 (min x (n - 1))
theorem along_bd {n : Nat} (hn : 0 < n) (wr : Bool) (x : Int) : 0 ≤ along wr n x ∧ along wr n x < n := by
  unfold along
  split
  · exact ⟨Int.emod_nonneg _ (by omega), Int.emod_lt_of_pos _ (by omega)⟩
  · omega
theorem along_in {n : Nat} (wr : Bool) {x : Int} (h0 : 0 ≤ x) (h1 : x < n) : along wr n x = x := by
  unfold along
  split
  · exact Int.emod_eq_of_lt h0 h1
  · omega
/-- a texel by the address -/
def atP (ps : List Px) (D : Nat) (wr : Bool) (l x y : Int) : Px :=
  if 0 ≤ l ∧ l ≤ D then at_ (lev ps D l.toNat) ((sd (D - l.toNat) * along wr (sd (D - l.toNat)) y + along wr (sd (D - l.toNat)) x).toNat) else Px.z
theorem atP_B {ps : List Px} (h : RB ps) (D : Nat) (wr : Bool) (l x y : Int) : (atP ps D wr l x y).B := by
  unfold atP
  split
  · exact (lev_B h _).at _
  · exact Px.zB
/-- other texels in a square of them -/
def put (ps : List Px) (n x y w : Nat) (cs : List Px) (k : Nat) : List Px := (List.range (n * n)).map fun i => if x ≤ i % n ∧ i % n < x + w ∧ y ≤ i / n ∧ i / n < y + k then at_ cs (w * (i / n - y) + (i % n - x)) else at_ ps i
end Go.Proofs.Ytkklppjimnkibaa.MpM

namespace Go.Proofs.Ytkklppjimnkibaa.MpA
open Go.RowKit Rd Go.Proofs.Ytkklppjimnkibaa.Row Mid DkM HueA MpM
set_option linter.unusedVariables false
set_option linter.unusedSimpArgs false
set_option maxRecDepth 10000
theorem load_col (x : Value) : Instr.loadAt 97 x = loadRow 97 x := rfl
theorem store_col (x v : Value) : Instr.storeAt 97 x v = storeRow 97 x v := rfl
theorem alloc_col : Instr.alloc 97 true (.tuple #[]) = allocRow 97 := rfl
theorem run_alloc_col (w : World) : (allocRow 97).run Try.prog w = .ok (.pointer (some ⟨w.heap.size, 0, none⟩)) (w.alloc (.cells Px.z.c 97)) := by kernel_rfl
theorem run_store_col (g o : Nat) (c : Array Value) (W : World) : (storeRow 97 (.pointer (some ⟨g, o, none⟩)) (.agg c)).run Try.prog W = rowStore Try.prog 97 4 g o c W := run_storeRow (by kernel_rfl) g o c W
/-- the levels' headers, the first k of them -/
def Lvs (X : World) (g D k : Nat) (ps : List Px) : Prop := ∀ l, l < k → ∃ c cap, X.cell? ⟨g, l, none⟩ = some (.slice (some ⟨c, 0, none⟩) ((sd (D - l) * sd (D - l) : Nat) : Int).toNat cap) ∧ c < X.heap.size ∧ sd (D - l) * sd (D - l) ≤ cap ∧ cap ≤ maxLen ∧ Reads X 4 (some ⟨c, 0, none⟩) (sd (D - l) * sd (D - l)) (cp (lev ps D l))
/-- a pyramid -/
structure Pyr (X : World) (b D : Nat) (wr : Bool) (ps : List Px) : Prop where
  d3 : D ≤ 3
  len : ps.length = sd D * sd D
  bb : RB ps
  lt : b < X.heap.size
  c0 : X.cell? ⟨b, 0, none⟩ = some (.int .i64 D)
  c1 : X.cell? ⟨b, 1, none⟩ = some (.bool wr)
  c2 : ∃ g cap, X.cell? ⟨b, 2, none⟩ = some (.slice (some ⟨g, 0, none⟩) (D + 1) cap) ∧ g < X.heap.size ∧ D + 1 ≤ cap ∧ cap ≤ maxLen ∧ Lvs X g D (D + 1) ps
variable {X Y : World} {b D : Nat} {wr : Bool} {ps : List Px}
theorem Lvs.below {g k : Nat} (h : Lvs X g D k ps) (hg : g < X.heap.size) (hb : Below X.heap.size X Y) : Lvs Y g D k ps := fun l hl => by
  obtain ⟨c, cap, h1, h2, h3, h4, h5⟩ := h l hl
  exact ⟨c, cap, by rw [hb.cell (p := ⟨g, l, none⟩) hg]; exact h1, Nat.lt_of_lt_of_le h2 hb.size, h3, h4, h5.below hb (Nat.le_refl _)⟩
theorem Pyr.below (h : Pyr X b D wr ps) (hb : Below X.heap.size X Y) : Pyr Y b D wr ps := by
  obtain ⟨g, cap, h1, h2, h3, h4, h5⟩ := h.c2
  exact ⟨h.d3, h.len, h.bb, Nat.lt_of_lt_of_le h.lt hb.size, by rw [hb.cell (p := ⟨b, 0, none⟩) h.lt]; exact h.c0, by rw [hb.cell (p := ⟨b, 1, none⟩) h.lt]; exact h.c1, g, cap, by rw [hb.cell (p := ⟨b, 2, none⟩) h.lt]; exact h1, Nat.lt_of_lt_of_le h2 hb.size, h3, h4, h5.below h2 hb⟩
theorem Pyr.regrown {W : World} (h : Pyr W b D wr ps) (d : Nat) (os : Array Obj) : Pyr (Sort.grow (redrawn W d) os) b D wr ps := h.below (below_regrown W d os)
/-! size -/
theorem shl_sd {d : Nat} (h : d ≤ 3) : Op.shift .shl .i64 4 .i64 (d : Int) = pure (.int .i64 (sd d)) := by
  rcases (show d = 0 ∨ d = 1 ∨ d = 2 ∨ d = 3 by omega) with rfl | rfl | rfl | rfl <;> rfl
/-! has -/
/-! Size -/
def szE (D : Nat) (l : Int) : Int := if 0 ≤ l ∧ l ≤ D then sd (D - l.toNat) else 0
theorem szE_in {l : Nat} (h : l ≤ D) : szE D (l : Int) = sd (D - l) := by unfold szE; rw [if_pos (by omega), Int.toNat_natCast]
/-! Depth, Wrap -/
/-! along -/
theorem tmod_wrap (k n : Int) (hn : 0 < n) : (k.tmod n + n) % n = k % n := by
  have h := Int.tdiv_mul_add_tmod k n
  rw [Int.add_emod_right]
  have e : k % n = (k.tdiv n * n + k.tmod n) % n := by rw [h]
  rw [e, Int.add_comm, Int.add_mul_emod_self_right]
def I64 (x : Int) : Prop := -9223372036854775808 ≤ x ∧ x ≤ 9223372036854775807
end Go.Proofs.Ytkklppjimnkibaa.MpA

namespace Go.Proofs.Ytkklppjimnkibaa.MpB
open Go.RowKit Rd Go.Proofs.Ytkklppjimnkibaa.Row Mid DkM HueA MpM MpA
set_option linter.unusedVariables false
set_option linter.unusedSimpArgs false
set_option maxRecDepth 10000
variable {X Y : World} {b D : Nat} {wr : Bool} {ps : List Px}
theorem ld_regrown {W : World} {c off n : Nat} {L : List Px} (h : Reads W 4 (some ⟨c, off, none⟩) n (cp L)) {i : Nat} (hi : i < L.length) (d : Nat) (os : Array Obj) :
    (loadRow 97 (.pointer (some ⟨c, off + i * 4, none⟩))).run Try.prog (Sort.grow (redrawn W d) os) = .ok (at_ L i).v (Sort.grow (redrawn W d) os) :=
  ld_px (h.below (below_regrown W d os) (Nat.le_refl _)) hi
theorem ld_regrown0 {W : World} {c n : Nat} {L : List Px} (h : Reads W 4 (some ⟨c, 0, none⟩) n (cp L)) {i : Nat} (hi : i < L.length) (d : Nat) (os : Array Obj) :
    (loadRow 97 (.pointer (some ⟨c, i * 4, none⟩))).run Try.prog (Sort.grow (redrawn W d) os) = .ok (at_ L i).v (Sort.grow (redrawn W d) os) := by
  have := ld_regrown h hi d os
  rwa [Nat.zero_add] at this
theorem reg_of_eq {f : FuncId} {args : Array Value} {w : World} {d : Nat} {os : Array Obj} {v : Value} (h : Calls Try.prog f args (Sort.grow (redrawn w d) os) fun e w' => e = .returned v ∧ Sort.grow (redrawn w d) os = w') :
    Calls Try.prog f args (Sort.grow (redrawn w d) os) fun e w'' => e = .returned v ∧ ∃ p : Regrown, w'' = Sort.grow (redrawn w p.d) p.os :=
  Calls.regrown_of (h.mono fun e w' ⟨he, hw⟩ => ⟨he, by rw [← hw]; exact Below.refl _ _⟩)
attribute [local go_sem ↓] load_col store_col alloc_col
attribute [local go_sem] run_alloc_col run_store_col rowStore_eq blk_alloc_at blk_alloc_old blk_drew blk_drewN blk_set_far blk_set_far' blk_grow setRow_alloc_at setRow_alloc_old setRow_drew setRow_drewN Px.c_size Px.c_all
theorem c_all4 (p : Px) : p.c.all (fun x => x.oneCell') 0 4 = true := by simp [Px.c, Value.oneCell']
attribute [local go_sem] c_all4
theorem info_col : (Try.prog.info? 97).map (·.size) = some 4 := by kernel_rfl
theorem ret_px {fn : Func} {R : Ending → World → Prop} {a : Act} {W : World} {p : Tmp} (h : fn.results = #[.cell p 97]) (g : Nat) (c : Px) (hp : a.tmps.getD p undef = .pointer (some ⟨g, 0, none⟩))
    (hg : blk W g = some (.cells c.c 97 (0, 0))) (hd : a.defers = []) (hR : R (.returned c.v) W) : bodyPost Try.prog fn R .ret a W :=
  bodyPost_ret (results_row1 h _ _ g _ _ _ _ hp hg Try.underlying97 rfl (by rw [info_col]; rfl)) hd hR
end Go.Proofs.Ytkklppjimnkibaa.MpB

namespace Go.Proofs.Ytkklppjimnkibaa.MpU
open Go.RowKit Rd Go.Proofs.Ytkklppjimnkibaa.Row Mid DkM HueA MpM MpA MpB
set_option linter.unusedVariables false
set_option linter.unusedSimpArgs false
set_option maxRecDepth 10000
theorem atP_in {ps : List Px} {D : Nat} {wr : Bool} {l : Nat} {x y : Int} (hl : l ≤ D) : atP ps D wr l x y = at_ (lev ps D l) ((sd (D - l) * along wr (sd (D - l)) y + along wr (sd (D - l)) x).toNat) := by
  unfold atP
  rw [if_pos (by omega), Int.toNat_natCast]
theorem atP_nat {ps : List Px} {D : Nat} {wr : Bool} {l x y : Nat} (hl : l ≤ D) (hx : x < sd (D - l)) (hy : y < sd (D - l)) : atP ps D wr l x y = at_ (lev ps D l) (sd (D - l) * y + x) := by
  rw [atP_in hl, along_in wr (by omega) (by omega), along_in wr (by omega) (by omega)]
  rw [show ((sd (D - l) : Int) * y + x) = ((sd (D - l) * y + x : Nat) : Int) by push_cast; rfl, Int.toNat_natCast]
theorem bd_keep {X Y : World} {t : Nat} {o : Obj} (h : blk X t = some o) (hb : Below X.heap.size X Y) : blk Y t = some o := (blk_below hb _ (blk_lt h)).trans h
end Go.Proofs.Ytkklppjimnkibaa.MpU

namespace Go.Proofs.Ytkklppjimnkibaa.MpC
open Go.RowKit Rd Go.Proofs.Ytkklppjimnkibaa.Row Mid DkM HueA MpM MpA MpB
set_option linter.unusedVariables false
set_option linter.unusedSimpArgs false
set_option maxRecDepth 10000
variable {X Y : World} {b D : Nat} {wr : Bool} {ps : List Px}
theorem info_colz : (Try.prog.info? 97).map (fun i => (i.zero, i.size, i.bytes)) = some (some Px.z.v, 4, 4) := by kernel_rfl
theorem app_px {ops : Array Oper} {rest : List Oper} {o : Oper} {a : Act} {w : World} {Q : Exit → Act → World → Prop} (hgd : o.guard = none) (s x : Operand)
    (ho : o.op = .call { callee := .builtin .append, args := #[s, x], argTypes := #[60, 60] })
    (base : Nat) (v : Value) (m : Nat) (r : List Px) (hs : a.eval s = v) (hown : w.ownsRow base 97 4 v m (cp r))
    (gx : Nat) (cx : Nat) (y : Px) (hx : a.eval x = .slice (some ⟨gx, 0, none⟩) 1 cx) (hg : blk w gx = some (.cells y.c 97 (0, 0))) (hm : m ≤ 1000000) (hbase : base ≤ w.heap.size)
    (h : ∀ v' w', w'.ownsRow base 97 4 v' (m + 1) (cp (r ++ [y])) → w.grownBy w' v.ownBlock → wpList Try.prog ops Q rest (a.put o.dst v') w') : wpList Try.prog ops Q (o :: rest) a w := by
  obtain ⟨i0, hi, hz0, hz1, hz2⟩ := info_parts info_colz
  refine App.wpList_append_reads w hgd s x 60 ho base 97 i0 _ 4 4 Try.underlying60 hi hz0 hz1 hz2 rfl (by decide) v m (cp r) hs hown (some ⟨gx, 0, none⟩) 1 cx (cp [y]) hx ?_ ?_ (by unfold maxLen; omega) (by omega) hbase ?_
  · refine ⟨by rw [cp_one]; rfl, Or.inr ⟨gx, 0, rfl, blk_lt hg, fun j hj => ?_⟩⟩
    rw [Nat.zero_add, blk_cell hg, cp_one]
    rw [← Px.l_c, List.getElem?_toArray]
  · exact cp_ones _
  · intro v' w' h1 h2
    rw [← cp_app] at h1
    exact h v' w' h1 h2
theorem rmean_px {p q r s : Px} (w : World) (hp : p.B) (hq : q.B) (hr : r.B) (hs : s.B) :
    Calls Try.prog 48 #[p.v, q.v, r.v, s.v] w fun e w' => e = .returned (mean p q r s).v ∧ Below w.heap.size w w' :=
  rmean_any _ _ _ _ _ _ _ _ _ _ _ _ _ _ _ _ w hp.1 hp.2.1 hp.2.2.1 hp.2.2.2 hq.1 hq.2.1 hq.2.2.1 hq.2.2.2 hr.1 hr.2.1 hr.2.2.1 hr.2.2.2 hs.1 hs.2.1 hs.2.2.1 hs.2.2.2
set_option maxHeartbeats 2000000 in
attribute [local go_sem ↓] load_col store_col alloc_col
attribute [local go_sem] run_alloc_col run_store_col rowStore_eq blk_alloc_at blk_alloc_old blk_drew blk_drewN blk_grow Px.c_size Px.c_all c_all4
theorem owns_below' {w w' : World} {base : Nat} {e : TypeId} {size : Nat} {v : Value} {n : Nat} {xs : List Value} (h : w.ownsRow base e size v n xs) (hb : Below w.heap.size w w') : w'.ownsRow base e size v n xs := by
  refine ⟨h.1, ?_⟩
  rcases h.2 with hn | ⟨g, cap, cur, rfl, h2, hg, rest⟩
  · exact .inl hn
  · refine .inr ⟨g, cap, cur, rfl, h2, ?_, rest⟩
    rw [hb.block g (Array.getElem?_eq_some_iff.1 hg).1]
    exact hg
theorem fold_px (p : Px) : Array.foldl (fun (cs : Array Value) (x : Value × Nat) => cs.setIfInBounds x.snd x.fst) #[.int .u8 0, .int .u8 0, .int .u8 0, .int .u8 0] p.c.zipIdx 0 4 = p.c := rfl
attribute [local go_sem] fold_px
theorem ld_px0 {X : World} {b n : Nat} {ps : List Px} (h : Reads X 4 (some ⟨b, 0, none⟩) n (cp ps)) {i : Nat} (hi : i < ps.length) :
    (loadRow 97 (.pointer (some ⟨b, i * 4, none⟩))).run Try.prog X = .ok (at_ ps i).v X := by
  have := ld_px h hi
  rwa [Nat.zero_add] at this
def OnePx (y : Px) : Value → World → Prop := fun v w => ∃ g, v = .slice (some ⟨g, 0, none⟩) 1 1 ∧ blk w g = some (.cells y.c 97 (0, 0))
theorem onepx_stab (y : Px) : ∀ v w w', OnePx y v w → Below w.heap.size w w' → OnePx y v w' := fun v w w' ⟨g, h1, h2⟩ hb => ⟨g, h1, (blk_below hb g (blk_lt h2)).trans h2⟩
theorem yields_app_px {ops : Array Oper} {o : Oper} {b : Act} {w : World} {R : Value → World → Prop} (hgd : o.guard = none) (s x : Operand)
    (ho : o.op = .call { callee := .builtin .append, args := #[s, x], argTypes := #[60, 60] })
    (base : Nat) (v : Value) (n : Nat) (r : List Px) (hs : b.eval s = v) (hown : w.ownsRow base 97 4 v n (cp r))
    (g c : Nat) (y : Px) (hx : b.eval x = .slice (some ⟨g, 0, none⟩) 1 c) (hg : blk w g = some (.cells y.c 97 (0, 0)))
    (h63 : n ≤ 1000000) (hbase : base ≤ w.heap.size)
    (h : ∀ v' w', w'.ownsRow base 97 4 v' (n + 1) (cp (r ++ [y])) → w.grownBy w' v.ownBlock → R v' w') : Pred.yields Try.prog ops o b w R := by
  obtain ⟨i0, hi, hz0, hz1, hz2⟩ := info_parts info_colz
  obtain ⟨v', w', hrun, h2, h3⟩ := App.run_append_reads (P := Try.prog) w base 60 o.type 97 i0 _ 4 4 Try.underlying60 hi hz0 hz1 hz2 rfl (by decide) v n (cp r) hown (some ⟨g, 0, none⟩) 1 c (cp [y])
    ⟨by rw [cp_one]; rfl, Or.inr ⟨g, 0, rfl, blk_lt hg, fun j hj => by rw [Nat.zero_add, blk_cell hg, cp_one, ← Px.l_c, List.getElem?_toArray]⟩⟩ (cp_ones _) (by unfold maxLen; omega) (by omega) hbase
  rw [← cp_app] at h2
  refine Pred.yields_run (v := v') (w' := w') (Pred.wanted_none hgd) ?_ (h v' w' h2 h3)
  unfold execOp
  simp only [ho, resolve, invoke, builtin, Sem.run_bind, Sem.run_pure, Result.andThen_ok, List.map_toArray, List.map_cons, List.map_nil, hs, hx, hrun]
end Go.Proofs.Ytkklppjimnkibaa.MpC

namespace Go.Proofs.Ytkklppjimnkibaa.MpD
open Go.RowKit Rd Go.Proofs.Ytkklppjimnkibaa.Row Mid DkM HueA MpM MpA MpB MpC
set_option linter.unusedVariables false
set_option linter.unusedSimpArgs false
set_option maxRecDepth 10000
/-- a texture of this depth may have so many texels -/
def mayT (D : Int) (n : Nat) : Bool := decide (0 ≤ D ∧ D ≤ 3 ∧ n = sd D.toNat * sd D.toNat)
theorem sd_mul {D : Nat} (h : D ≤ 3) : (sd D : Int) * (sd D : Int) = ((sd D * sd D : Nat) : Int) := by push_cast; rfl
end Go.Proofs.Ytkklppjimnkibaa.MpD

namespace Go.Proofs.Ytkklppjimnkibaa.MpE
open Go.RowKit Rd Go.Proofs.Ytkklppjimnkibaa.Row Mid DkM HueA MpM MpA MpB MpC MpD
set_option linter.unusedVariables false
set_option linter.unusedSimpArgs false
set_option maxRecDepth 10000
theorem info_sl : (Try.prog.info? 60).map (fun i => (i.zero, i.size, i.bytes)) = some (some (.slice none 0 0), 1, 24) := by kernel_rfl
theorem own_keep {w w' : World} {base s : Nat} {e : TypeId} {v : Value} {n : Nat} {xs : List Value} (h : w.ownsRow base e s v n xs) (hk : ∀ k, v.ownBlock = some k → w'.heap[k]? = w.heap[k]?) : w'.ownsRow base e s v n xs := by
  refine ⟨h.1, ?_⟩
  rcases h.2 with hn | ⟨g, cap, cur, rfl, hb, hg, rest⟩
  · exact .inl hn
  · exact .inr ⟨g, cap, cur, rfl, hb, by rw [hk g rfl]; exact hg, rest⟩
theorem owns_mono {w : World} {base base' : Nat} {e : TypeId} {size : Nat} {v : Value} {n : Nat} {xs : List Value} (h : w.ownsRow base e size v n xs) (hb : base' ≤ base) : w.ownsRow base' e size v n xs := by
  refine ⟨h.1, ?_⟩
  rcases h.2 with hn | ⟨g, cap, cur, rfl, h2, rest⟩
  · exact .inl hn
  · exact .inr ⟨g, cap, cur, rfl, Nat.le_trans hb h2, rest⟩
theorem own_new (w : World) (u : Value) {base : Nat} {e : TypeId} (hb : base ≤ w.heap.size) : (w.alloc (.cells #[u] e)).ownsRow base e 1 (.slice (some ⟨w.heap.size, 0, none⟩) 1 1) 1 [u] :=
  ⟨rfl, .inr ⟨_, 1, _, rfl, hb, blk_alloc_at _ _ _ rfl, Nat.le_refl _, by decide, rfl, rfl⟩⟩
theorem own_type {w : World} {base s : Nat} {e : TypeId} {v : Value} {n : Nat} {xs : List Value} (h : w.ownsRow base e s v n xs) {k : Nat} (hk : v.ownBlock = some k) : ∃ cur : Array Value, w.heap[k]? = some (Obj.cells cur e (0, 0)) := by
  rcases h.2 with ⟨rfl, _⟩ | ⟨g, cap, cur, rfl, hb, hg, rest⟩
  · cases hk
  · cases hk; exact ⟨cur, hg⟩
/-- the first K levels, each in a row of one's own -/
def LvO (X : World) (B D K : Nat) (ps : List Px) (hs : List Value) : Prop := hs.length = K ∧ ∀ l, l < K → ∃ u, hs[l]? = some u ∧ X.ownsRow B 97 4 u (sd (D - l) * sd (D - l)) (cp (lev ps D l))
variable {X Y : World} {B b D K : Nat} {wr : Bool} {ps : List Px} {v : Value}
theorem LvO.keep {hs : List Value} (h : LvO X B D K ps hs) (hk : ∀ (k : Nat) (cur : Array Value), X.heap[k]? = some (Obj.cells cur 97 (0, 0)) → Y.heap[k]? = X.heap[k]?) : LvO Y B D K ps hs :=
  ⟨h.1, fun l hl => by
    obtain ⟨u, h1, h2⟩ := h.2 l hl
    refine ⟨u, h1, own_keep h2 fun k hu => ?_⟩
    obtain ⟨cur, hc⟩ := own_type h2 hu
    exact hk k cur hc⟩
theorem LvO.below {hs : List Value} (h : LvO X B D K ps hs) (hb : Below X.heap.size X Y) : LvO Y B D K ps hs := LvO.keep h fun k cur hk => hb.block k (blk_lt (show blk X k = _ from hk))
theorem yields_app_sl {ops : Array Oper} {o : Oper} {b : Act} {w : World} {R : Value → World → Prop} (hgd : o.guard = none) (s x : Operand)
    (ho : o.op = .call { callee := .builtin .append, args := #[s, x], argTypes := #[93, 93] })
    (base : Nat) (v : Value) (n : Nat) (r : List Value) (hs : b.eval s = v) (hown : w.ownsRow base 60 1 v n r)
    (g c : Nat) (y : Value) (hx : b.eval x = .slice (some ⟨g, 0, none⟩) 1 c) (hg : blk w g = some (.cells #[y] 60 (0, 0))) (hy : y.oneCell' = true)
    (h63 : n ≤ 1000000) (hbase : base ≤ w.heap.size)
    (h : ∀ v' w', w'.ownsRow base 60 1 v' (n + 1) (r ++ [y]) → w.grownBy w' v.ownBlock → R v' w') : Pred.yields Try.prog ops o b w R := by
  obtain ⟨i0, hi, hz0, hz1, hz2⟩ := info_parts info_sl
  obtain ⟨v', w', hrun, h2, h3⟩ := App.run_append_reads (P := Try.prog) w base 93 o.type 60 i0 _ 1 24 Try.underlying93 hi hz0 hz1 hz2 rfl (by decide) v n r hown (some ⟨g, 0, none⟩) 1 c [y]
    ⟨rfl, Or.inr ⟨g, 0, rfl, blk_lt hg, fun j hj => by rw [Nat.zero_add, blk_cell hg, List.getElem?_toArray]⟩⟩ (by intro u hu; simp at hu; subst hu; exact hy) (by unfold maxLen; omega) (by omega) hbase
  refine Pred.yields_run (v := v') (w' := w') (Pred.wanted_none hgd) ?_ (h v' w' h2 h3)
  unfold execOp
  simp only [ho, resolve, invoke, builtin, Sem.run_bind, Sem.run_pure, Result.andThen_ok, List.map_toArray, List.map_cons, List.map_nil, hs, hx, hrun]
theorem yields_skip {ops : Array Oper} {o : Oper} {b : Act} {w w' : World} {R : Value → World → Prop} (hw : Region.wanted o (yielded ops b.tmps) = true) (hr : (execOp b.eval o).run Try.prog w = .ok .skip w') (h : R undef w') : Pred.yields Try.prog ops o b w R := by
  unfold Pred.yields; rw [if_pos hw, hr]; exact h
def OneSl (u : Value) (w : World) (y : Value) : Prop := ∃ g, u = .slice (some ⟨g, 0, none⟩) 1 1 ∧ blk w g = some (.cells #[y] 60 (0, 0))
theorem OneSl.below {u y : Value} (h : OneSl u X y) (hb : Below X.heap.size X Y) : OneSl u Y y := by
  obtain ⟨g, h1, h2⟩ := h
  exact ⟨g, h1, (blk_below hb g (blk_lt h2)).trans h2⟩
theorem own_one {u : Value} {B : Nat} {e : TypeId} {s n : Nat} {xs : List Value} (h : X.ownsRow B e s u n xs) : u.oneCell' = true := by
  obtain ⟨a, c, rfl, _⟩ := owns_val h
  rfl
end Go.Proofs.Ytkklppjimnkibaa.MpE

namespace Go.Proofs.Ytkklppjimnkibaa.MpF
open Go.RowKit Rd Go.Proofs.Ytkklppjimnkibaa.Row Mid DkM HueA MpM MpA MpB MpC MpD MpE
set_option linter.unusedVariables false
set_option linter.unusedSimpArgs false
set_option maxRecDepth 10000
variable {X Y : World} {B b D K : Nat} {wr : Bool} {ps : List Px} {v : Value}
theorem load_tex (x : Value) : Instr.loadAt 62 x = loadRow 62 x := rfl
theorem store_tex (x v : Value) : Instr.storeAt 62 x v = storeRow 62 x v := rfl
theorem run_load_tex (g o : Nat) (W : World) : (loadRow 62 (.pointer (some ⟨g, o, none⟩))).run Try.prog W = rowLoad Try.prog 62 3 g o W := run_loadRow Try.underlying62 rfl (by kernel_rfl) g o W
theorem run_store_tex (g o : Nat) (c : Array Value) (W : World) : (storeRow 62 (.pointer (some ⟨g, o, none⟩)) (.agg c)).run Try.prog W = rowStore Try.prog 62 3 g o c W := run_storeRow (by kernel_rfl) g o c W
theorem info_tex : (Try.prog.info? 62).map (·.size) = some 3 := by kernel_rfl
theorem ret_tex {fn : Func} {R : Ending → World → Prop} {a : Act} {W : World} {p : Tmp} (h : fn.results = #[.cell p 62]) (g : Nat) (x y z : Value) (hp : a.tmps.getD p undef = .pointer (some ⟨g, 0, none⟩))
    (hg : blk W g = some (.cells #[x, y, z] 62 (0, 0))) (hd : a.defers = []) (hR : R (.returned (.agg #[x, y, z])) W) : bodyPost Try.prog fn R .ret a W :=
  bodyPost_ret (results_row1 h _ _ g _ _ _ _ hp hg Try.underlying62 rfl (by rw [info_tex]; rfl)) hd hR
attribute [local go_sem ↓] load_tex store_tex
attribute [local go_sem] run_load_tex run_store_tex rowStore_eq rowLoad_eq one_int one_bool
/-! within -/
def withinV (n : Nat) (x y : Int) : Bool := decide (0 ≤ x ∧ 1 ≤ y ∧ x < n ∧ y ≤ n - x)
/-! copy of texels -/
theorem run_copy4 {P : Program} (w : World) (dT sT ty elem : TypeId) (g o dLen dCap : Nat) (a : Addr) (sLen sCap : Nat) (cur : Array Value) (t : TypeId) (cs : List Value)
    (hu : P.underlying dT = some (.slice elem)) (hs : (P.info? elem).map (·.size) = some 4)
    (hg : w.heap[g]? = some (.cells cur t (0, 0))) (hn : cs.length = Nat.min sLen dLen * 4)
    (hsrc : ∀ j v, cs[j]? = some v → w.cell? (a.add j) = some v) (hfit : o + cs.length ≤ cur.size) (h1 : ∀ v ∈ cs, v.oneCell' = true) :
    (Builtin.copy_ #[dT, sT] ty #[.slice (some ⟨g, o, none⟩) dLen dCap, .slice (some a) sLen sCap]).run P w =
      .ok (goInt (Nat.min sLen dLen)) (w.setRow g (cur.toList.take o ++ cs ++ cur.toList.drop (o + cs.length)).toArray) := by
  have hl := run_loadCells_list (P := P) w a cs hsrc
  have hst := run_storeCells_at P g o t cs 0 cur w hg (by simpa using hfit) h1
  cases hq : P.info? elem with
  | none => simp [hq] at hs
  | some i =>
    have hi : i.size = 4 := by simpa [hq] using hs
    simp [Builtin.copy_, run_underlying hu, Builtin.lenOf, Builtin.firstCells, sizeOf, typeInfo, hq, hi, ← hn, hl, hst]
end Go.Proofs.Ytkklppjimnkibaa.MpF

namespace Go.Proofs.Ytkklppjimnkibaa.MpG
open Go.RowKit Rd Go.Proofs.Ytkklppjimnkibaa.Row Mid DkM HueA MpM MpA MpB MpC MpD MpE MpF
set_option linter.unusedVariables false
set_option linter.unusedSimpArgs false
set_option maxRecDepth 10000
variable {X Y : World} {b D K : Nat} {wr : Bool} {ps : List Px} {v : Value}
theorem put_len (ps : List Px) (n x y w : Nat) (cs : List Px) (k : Nat) : (put ps n x y w cs k).length = n * n := by simp [put]
theorem put_B {ps cs : List Px} (h : RB ps) (h2 : RB cs) (n x y w k : Nat) : RB (put ps n x y w cs k) := by
  intro p hp
  obtain ⟨i, _, rfl⟩ := List.mem_map.1 hp
  split
  · exact h2.at _
  · exact h.at _
theorem put_0 {ps : List Px} {n : Nat} (h : ps.length = n * n) (x y w : Nat) (cs : List Px) : put ps n x y w cs 0 = ps := by
  refine List.ext_getElem (by rw [put_len, h]) fun i h1 h2 => ?_
  simp only [put, List.getElem_map, List.getElem_range]
  rw [if_neg (by omega), at_get h2]
theorem rows_iff {n r c R x w : Nat} (hc : c < n) (hx : x + w ≤ n) : (n * R + x ≤ n * r + c ∧ n * r + c < n * R + x + w) ↔ (r = R ∧ x ≤ c ∧ c < x + w) := by
  constructor
  · rintro ⟨h1, h2⟩
    rcases Nat.lt_trichotomy r R with h | h | h
    · have : n * (r + 1) ≤ n * R := Nat.mul_le_mul_left n h
      rw [Nat.mul_add] at this
      omega
    · subst h; omega
    · have : n * (R + 1) ≤ n * r := Nat.mul_le_mul_left n h
      rw [Nat.mul_add] at this
      omega
  · rintro ⟨rfl, h1, h2⟩
    omega
theorem put_at (ps : List Px) {n x y w : Nat} (cs : List Px) {k i : Nat} (hi : i < n * n) : at_ (put ps n x y w cs k) i = if x ≤ i % n ∧ i % n < x + w ∧ y ≤ i / n ∧ i / n < y + k then at_ cs (w * (i / n - y) + (i % n - x)) else at_ ps i := by
  rw [at_get (by rw [put_len]; exact hi)]
  simp [put]
theorem put_step {ps : List Px} {n x y w : Nat} {cs : List Px} {k h : Nat} (hx : x + w ≤ n) (hy : y + h ≤ n) (hk : k < h) (hcs : cs.length = w * h) (hw : 1 ≤ w) :
    (put ps n x y w cs k).take (n * (y + k) + x) ++ (cs.drop (w * k)).take w ++ (put ps n x y w cs k).drop (n * (y + k) + x + w) = put ps n x y w cs (k + 1) := by
  have hn : 0 < n := by omega
  have h1 : n * (y + k) + n ≤ n * n := by
    have := Nat.mul_le_mul_left n (show y + k + 1 ≤ n by omega)
    rw [Nat.mul_add n (y + k) 1] at this
    omega
  have h2 : w * k + w ≤ w * h := by
    have := Nat.mul_le_mul_left w (show k + 1 ≤ h by omega)
    rw [Nat.mul_add w k 1] at this
    omega
  have l1 : ((put ps n x y w cs k).take (n * (y + k) + x)).length = n * (y + k) + x := by rw [List.length_take, put_len]; omega
  have l2 : ((cs.drop (w * k)).take w).length = w := by rw [List.length_take, List.length_drop]; omega
  refine List.ext_getElem (by rw [List.length_append, List.length_append, l1, l2, List.length_drop, put_len, put_len]; omega) fun i h3 h4 => ?_
  have hi : i < n * n := by rw [put_len] at h4; exact h4
  have hdm := Nat.div_add_mod i n
  have hm := Nat.mod_lt i hn
  have key := rows_iff (n := n) (r := i / n) (c := i % n) (R := y + k) (x := x) (w := w) hm hx
  rw [hdm] at key
  rw [← at_get h4, put_at ps cs hi]
  by_cases ha : i < n * (y + k) + x
  · rw [List.getElem_append_left (by rw [List.length_append, l1]; omega), List.getElem_append_left (by rw [l1]; exact ha), List.getElem_take, ← at_get, put_at ps cs hi]
    have hno : ¬ (i / n = y + k ∧ x ≤ i % n ∧ i % n < x + w) := fun e => by have := key.2 e; omega
    by_cases hc : x ≤ i % n ∧ i % n < x + w ∧ y ≤ i / n ∧ i / n < y + k
    · rw [if_pos hc, if_pos (by omega)]
    · rw [if_neg hc, if_neg (by omega)]
  · by_cases hb : i < n * (y + k) + x + w
    · obtain ⟨e1, e2, e3⟩ := key.1 ⟨by omega, hb⟩
      rw [List.getElem_append_left (by rw [List.length_append, l1, l2]; omega), List.getElem_append_right (by rw [l1]; omega)]
      simp only [l1]
      rw [List.getElem_take, List.getElem_drop, ← at_get, if_pos (by omega), e1]
      congr 1
      rw [show y + k - y = k by omega]
      have : i = n * (y + k) + i % n := by rw [← e1]; exact hdm.symm
      omega
    · rw [List.getElem_append_right (by rw [List.length_append, l1, l2]; omega)]
      simp only [List.length_append, l1, l2]
      rw [List.getElem_drop, ← at_get]
      rw [show n * (y + k) + x + w + (i - (n * (y + k) + x + w)) = i by omega, put_at ps cs hi]
      have hno : ¬ (i / n = y + k ∧ x ≤ i % n ∧ i % n < x + w) := fun e => by have := key.2 e; omega
      by_cases hc : x ≤ i % n ∧ i % n < x + w ∧ y ≤ i / n ∧ i / n < y + k
      · rw [if_pos hc, if_pos (by omega)]
      · rw [if_neg hc, if_neg (by omega)]
theorem cp_take (ps : List Px) (k : Nat) : cp (ps.take k) = (cp ps).take (k * 4) := by
  rcases Nat.lt_or_ge k ps.length with h | h
  · have e : cp ps = cp (ps.take k) ++ cp (ps.drop k) := by rw [← cp_app, List.take_append_drop]
    rw [e, List.take_left' (by rw [cp_len, List.length_take, Nat.min_eq_left (by omega)])]
  · rw [List.take_of_length_le h, List.take_of_length_le (by rw [cp_len]; omega)]
theorem cp_drop (ps : List Px) (k : Nat) : cp (ps.drop k) = (cp ps).drop (k * 4) := by
  rcases Nat.lt_or_ge k ps.length with h | h
  · have e : cp ps = cp (ps.take k) ++ cp (ps.drop k) := by rw [← cp_app, List.take_append_drop]
    rw [e, List.drop_left' (by rw [cp_len, List.length_take, Nat.min_eq_left (by omega)])]
  · rw [List.drop_of_length_le h, List.drop_of_length_le (by rw [cp_len]; omega)]; simp [cp, fl]
theorem own_paste {w : World} {base g q cap : Nat} {e : TypeId} {xs v : List Value} {o : Nat} (h : w.ownsRow base e 4 (.slice (some ⟨g, 0, none⟩) q cap) q xs) (ho : o + v.length ≤ q * 4) :
    ∃ cur : Array Value, w.heap[g]? = some (.cells cur e (0, 0)) ∧ cur.size = cap * 4 ∧ q * 4 ≤ cur.size ∧ (w.setRow g (cur.toList.take o ++ v ++ cur.toList.drop (o + v.length)).toArray).ownsRow base e 4 (.slice (some ⟨g, 0, none⟩) q cap) q (xs.take o ++ v ++ xs.drop (o + v.length)) := by
  obtain ⟨hl, h2⟩ := h
  rcases h2 with ⟨h3, _⟩ | ⟨g', cap', cur, h3, hb, hg, hc, hm, hs, ht⟩
  · cases h3
  · cases h3
    have hsz : q * 4 ≤ cur.size := by rw [hs]; exact Nat.mul_le_mul_right 4 hc
    have hlen : cur.toList.length = cur.size := Array.length_toList
    refine ⟨cur, hg, hs, hsz, by simp only [List.length_append, List.length_take, List.length_drop]; omega, .inr ⟨g, cap, _, rfl, hb, blk_setRow_of hg _, hc, hm, by simp only [List.size_toArray, List.length_append, List.length_take, List.length_drop]; omega, ?_⟩⟩
    rw [← ht]
    have e1 : (cur.toList.take o ++ v).length = o + v.length := by rw [List.length_append, List.length_take]; omega
    rw [List.take_append, List.take_of_length_le (by rw [e1]; exact ho), e1, List.take_take, Nat.min_eq_left (by omega), List.drop_take]
theorem yields_copy4 {ops : Array Oper} {o : Oper} {b : Act} {w : World} {R : Value → World → Prop} (hgd : o.guard = none) (d s : Operand) (t : TypeId)
    (ho : o.op = .call { callee := .builtin .copy, args := #[d, s], argTypes := #[t, t] }) (elem : TypeId) (hu : Try.prog.underlying t = some (.slice elem)) (hs : (Try.prog.info? elem).map (·.size) = some 4)
    (g oo dLen dCap : Nat) (a : Addr) (sLen sCap : Nat) (cur : Array Value) (T : TypeId) (cs : List Value) (hd : b.eval d = .slice (some ⟨g, oo, none⟩) dLen dCap) (hsv : b.eval s = .slice (some a) sLen sCap)
    (hg : w.heap[g]? = some (.cells cur T (0, 0))) (hn : cs.length = Nat.min sLen dLen * 4)
    (hsrc : ∀ j v, cs[j]? = some v → w.cell? (a.add j) = some v) (hfit : oo + cs.length ≤ cur.size) (h1 : ∀ v ∈ cs, v.oneCell' = true)
    (h : R (goInt (Nat.min sLen dLen)) (w.setRow g (cur.toList.take oo ++ cs ++ cur.toList.drop (oo + cs.length)).toArray)) : Pred.yields Try.prog ops o b w R := by
  have hrun := run_copy4 (P := Try.prog) w t t o.type elem g oo dLen dCap a sLen sCap cur T cs hu hs hg hn hsrc hfit h1
  refine Pred.yields_run (v := goInt (Nat.min sLen dLen)) (w' := w.setRow g (cur.toList.take oo ++ cs ++ cur.toList.drop (oo + cs.length)).toArray) (Pred.wanted_none hgd) ?_ h
  unfold execOp
  simp only [ho, resolve, invoke, builtin, Sem.run_bind, Sem.run_pure, Result.andThen_ok, List.map_toArray, List.map_cons, List.map_nil, hd, hsv, hrun]
attribute [local go_sem ↓] load_tex store_tex
attribute [local go_sem] run_load_tex run_store_tex rowStore_eq rowLoad_eq one_int one_bool blk_alloc_at blk_alloc_old blk_drew blk_drewN blk_grow setRow_alloc_at setRow_alloc_old setRow_drew setRow_drewN
end Go.Proofs.Ytkklppjimnkibaa.MpG

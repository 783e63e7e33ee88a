/-
  Texels, rows of them, the levels of a pyramid: the mathematics.
-/
import Derived.Test.YtdjiblgnealmkaaDkM
import Derived.Test.YtdjiblgnealmkaaHueA
namespace Go.Proofs.Ytdjiblgnealmkaa.MpM
open Go.RowKit Rd Go.Proofs.Ytdjiblgnealmkaa.Row Mid DkM HueA
set_option linter.unusedVariables false
set_option linter.unusedSimpArgs false
set_option maxRecDepth 10000
/-- a texel -/
@[ext] structure Px where
  r : Int
  g : Int
  b : Int
  a : Int
deriving DecidableEq
def Px.z : Px := ⟨0, 0, 0, 0⟩
def Px.c (p : Px) : Array Value := #[.int .u8 p.r, .int .u8 p.g, .int .u8 p.b, .int .u8 p.a]
def Px.l (p : Px) : List Value := [.int .u8 p.r, .int .u8 p.g, .int .u8 p.b, .int .u8 p.a]
abbrev Px.v (p : Px) : Value := .agg p.c
def Px.B (p : Px) : Prop := B8 p.r ∧ B8 p.g ∧ B8 p.b ∧ B8 p.a
theorem Px.zB : Px.z.B := by unfold Px.B Px.z B8; simp
theorem Px.l_len (p : Px) : p.l.length = 4 := rfl
theorem Px.l_c (p : Px) : p.l.toArray = p.c := rfl
theorem Px.l_one (p : Px) : ∀ u ∈ p.l, u.oneCell' = true := by intro u hu; simp [Px.l] at hu; rcases hu with rfl | rfl | rfl | rfl <;> rfl
theorem Px.c_all (p : Px) : p.c.all (fun x => x.oneCell') = true := by simp [Px.c, Value.oneCell']
theorem Px.c_size (p : Px) : p.c.size = 4 := rfl
theorem Px.v_inj {p q : Px} (h : p.v = q.v) : p = q := by
  simp only [Px.v, Px.c, Value.agg.injEq, Array.mk.injEq, List.cons.injEq, Value.int.injEq, true_and, and_true] at h
  obtain ⟨h1, h2, h3, h4⟩ := h
  exact Px.ext h1 h2 h3 h4
/-- the mean of four -/
def mean (p q r s : Px) : Px := ⟨meanB p.r q.r r.r s.r, meanB p.g q.g r.g s.g, meanB p.b q.b r.b s.b, meanB p.a q.a r.a s.a⟩
theorem mean_B {p q r s : Px} (hp : p.B) (hq : q.B) (hr : r.B) (hs : s.B) : (mean p q r s).B :=
  ⟨meanB_bd hp.1 hq.1 hr.1 hs.1, meanB_bd hp.2.1 hq.2.1 hr.2.1 hs.2.1, meanB_bd hp.2.2.1 hq.2.2.1 hr.2.2.1 hs.2.2.1, meanB_bd hp.2.2.2 hq.2.2.2 hr.2.2.2 hs.2.2.2⟩
/-- a row's cells -/
def cp (ps : List Px) : List Value := fl (ps.map Px.l)
theorem cp_ls (ps : List Px) : ∀ l ∈ ps.map Px.l, l.length = 4 := by intro l hl; obtain ⟨p, _, rfl⟩ := List.mem_map.1 hl; rfl
theorem cp_len (ps : List Px) : (cp ps).length = ps.length * 4 := by unfold cp; rw [fl_len (cp_ls ps), List.length_map]
theorem cp_app (a b : List Px) : cp (a ++ b) = cp a ++ cp b := by unfold cp; rw [List.map_append, fl_app]
theorem cp_one (p : Px) : cp [p] = p.l := by simp [cp, fl]
theorem cp_ones (ps : List Px) : ∀ u ∈ cp ps, u.oneCell' = true := by
  intro u hu
  unfold cp fl at hu
  obtain ⟨l, hl, hu⟩ := List.mem_flatten.1 hu
  obtain ⟨p, _, rfl⟩ := List.mem_map.1 hl
  exact p.l_one u hu
/-- number i of a row -/
def at_ (ps : List Px) (i : Nat) : Px := ps.getD i Px.z
theorem at_get {ps : List Px} {i : Nat} (h : i < ps.length) : at_ ps i = ps[i] := by unfold at_; simp [List.getD, h]
theorem at_out {ps : List Px} {i : Nat} (h : ps.length ≤ i) : at_ ps i = Px.z := by unfold at_; rw [List.getD_eq_getElem?_getD, List.getElem?_eq_none h]; rfl
theorem cp_at {ps : List Px} {i j : Nat} (hi : i < ps.length) (hj : j < 4) : (cp ps)[i * 4 + j]? = (at_ ps i).l[j]? := by
  unfold cp
  rw [fl_at (cp_ls ps) (by simpa using hi) hj, List.getElem_map, at_get hi]
def RB (ps : List Px) : Prop := ∀ p ∈ ps, p.B
theorem RB.at {ps : List Px} (h : RB ps) (i : Nat) : (at_ ps i).B := by
  rcases Nat.lt_or_ge i ps.length with h1 | h1
  · rw [at_get h1]; exact h _ (List.getElem_mem h1)
  · rw [at_out h1]; exact Px.zB
/-- a texel out of a row, by value -/
theorem reads_off {X : World} {s n b off : Nat} {a : Option Addr} {cs : List Value} (h : Reads X s a n cs) (ha : a = some ⟨b, off, none⟩) (hn : 0 < n) : b < X.heap.size ∧ ∀ i, i < cs.length → X.cell? ⟨b, off + i, none⟩ = cs[i]? := by
  obtain ⟨_, h2⟩ := h
  rcases h2 with h2 | ⟨b', off', rfl, hlt, hc⟩
  · omega
  · cases ha
    exact ⟨hlt, hc⟩
theorem ld_px {X : World} {b off n : Nat} {ps : List Px} (h : Reads X 4 (some ⟨b, off, none⟩) n (cp ps)) {i : Nat} (hi : i < ps.length) :
    (loadRow 39 (.pointer (some ⟨b, off + i * 4, none⟩))).run Try.prog X = .ok (at_ ps i).v X := by
  have hn : 0 < n := by
    have := h.1
    rw [cp_len] at this
    omega
  have hc := (reads_off h rfl hn).2
  have := run_loadAt_mid (P := Try.prog) X b (off + i * 4) 39 (at_ ps i).l _ (fun j v hj => by
    have hj4 : j < 4 := by
      have := (List.getElem?_eq_some_iff.1 hj).1
      exact this
    have h1 := hc (i * 4 + j) (by rw [cp_len]; omega)
    rw [cp_at hi hj4, hj, ← Nat.add_assoc] at h1
    exact h1) Try.underlying39 rfl (by kernel_rfl)
  exact this
/-- the next level's texels -/
def half (ps : List Px) (m : Nat) : List Px := (List.range (m * m)).map fun i => mean (at_ ps (2 * m * (2 * (i / m)) + 2 * (i % m))) (at_ ps (2 * m * (2 * (i / m)) + 2 * (i % m) + 1)) (at_ ps (2 * m * (2 * (i / m)) + 2 * (i % m) + 2 * m)) (at_ ps (2 * m * (2 * (i / m)) + 2 * (i % m) + 2 * m + 1))
theorem half_len (ps : List Px) (m : Nat) : (half ps m).length = m * m := by simp [half]
theorem half_at (ps : List Px) {m i : Nat} (h : i < m * m) : at_ (half ps m) i = mean (at_ ps (2 * m * (2 * (i / m)) + 2 * (i % m))) (at_ ps (2 * m * (2 * (i / m)) + 2 * (i % m) + 1)) (at_ ps (2 * m * (2 * (i / m)) + 2 * (i % m) + 2 * m)) (at_ ps (2 * m * (2 * (i / m)) + 2 * (i % m) + 2 * m + 1)) := by
  rw [at_get (by rw [half_len]; exact h)]
  simp [half]
theorem half_xy (ps : List Px) {m x y : Nat} (hx : x < m) (hy : y < m) : at_ (half ps m) (m * y + x) = mean (at_ ps (2 * m * (2 * y) + 2 * x)) (at_ ps (2 * m * (2 * y) + 2 * x + 1)) (at_ ps (2 * m * (2 * y) + 2 * x + 2 * m)) (at_ ps (2 * m * (2 * y) + 2 * x + 2 * m + 1)) := by
  have h1 : m * y + x < m * m := by
    have h9 : m * (y + 1) ≤ m * m := Nat.mul_le_mul_left m (by omega)
    rw [Nat.mul_add] at h9
    omega
  have h2 : (m * y + x) / m = y := by rw [Nat.mul_add_div (by omega), Nat.div_eq_of_lt hx, Nat.add_zero]
  have h3 : (m * y + x) % m = x := by rw [Nat.mul_add_mod, Nat.mod_eq_of_lt hx]
  rw [half_at ps h1, h2, h3]
theorem half_B {ps : List Px} (h : RB ps) (m : Nat) : RB (half ps m) := by
  intro p hp
  obtain ⟨i, _, rfl⟩ := List.mem_map.1 hp
  exact mean_B (h.at _) (h.at _) (h.at _) (h.at _)
theorem half_take (ps : List Px) {m x y : Nat} (hx : x < m) (hy : y < m) : (half ps m).take (m * y + x + 1) = (half ps m).take (m * y + x) ++ [mean (at_ ps (2 * m * (2 * y) + 2 * x)) (at_ ps (2 * m * (2 * y) + 2 * x + 1)) (at_ ps (2 * m * (2 * y) + 2 * x + 2 * m)) (at_ ps (2 * m * (2 * y) + 2 * x + 2 * m + 1))] := by
  have h1 : m * y + x < m * m := by
    have h9 : m * (y + 1) ≤ m * m := Nat.mul_le_mul_left m (by omega)
    rw [Nat.mul_add] at h9
    omega
  rw [← half_xy ps hx hy, at_get (by rw [half_len]; exact h1), List.take_append_getElem (by rw [half_len]; exact h1)]
/-- the side of the level that is so many below the coarsest one -/
def sd (d : Nat) : Nat := 4 * 2 ^ d
theorem sd_succ (d : Nat) : sd (d + 1) = 2 * sd d := by unfold sd; rw [Nat.pow_succ]; omega
theorem sd_pos (d : Nat) : 4 ≤ sd d := by unfold sd; have := Nat.two_pow_pos d; omega
theorem sd_le {d : Nat} (h : d ≤ 3) : sd d ≤ 32 := by
  rcases (show d = 0 ∨ d = 1 ∨ d = 2 ∨ d = 3 by omega) with rfl | rfl | rfl | rfl <;> decide
theorem sd_cases {d : Nat} (h : d ≤ 3) : sd d = 4 ∨ sd d = 8 ∨ sd d = 16 ∨ sd d = 32 := by
  rcases (show d = 0 ∨ d = 1 ∨ d = 2 ∨ d = 3 by omega) with rfl | rfl | rfl | rfl <;> decide
theorem sq_le {n : Nat} (h : n ≤ 32) : n * n ≤ 1024 := Nat.mul_le_mul h h
/-- level l of a texture so deep -/
def lev (ps : List Px) (D : Nat) : Nat → List Px
  | 0 => ps
  | l + 1 => half (lev ps D l) (sd (D - (l + 1)))
theorem lev_len {ps : List Px} {D : Nat} (h : ps.length = sd D * sd D) : ∀ l, (lev ps D l).length = sd (D - l) * sd (D - l)
  | 0 => h
  | l + 1 => half_len _ _
theorem lev_B {ps : List Px} {D : Nat} (h : RB ps) : ∀ l, RB (lev ps D l)
  | 0 => h
  | l + 1 => half_B (lev_B h l) _
theorem lev_xy {ps : List Px} {D l x y : Nat} (hl : l < D) (hx : x < sd (D - (l + 1))) (hy : y < sd (D - (l + 1))) : at_ (lev ps D (l + 1)) (sd (D - (l + 1)) * y + x) =
    mean (at_ (lev ps D l) (sd (D - l) * (2 * y) + 2 * x)) (at_ (lev ps D l) (sd (D - l) * (2 * y) + (2 * x + 1))) (at_ (lev ps D l) (sd (D - l) * (2 * y + 1) + 2 * x)) (at_ (lev ps D l) (sd (D - l) * (2 * y + 1) + (2 * x + 1))) := by
  have e : sd (D - l) = 2 * sd (D - (l + 1)) := by rw [← sd_succ]; congr 1; omega
  show at_ (half _ _) _ = _
  rw [half_xy _ hx hy, e, Nat.mul_add (2 * sd (D - (l + 1))) (2 * y) 1]
  congr 2 <;> omega
/-- where a place stands on one way -/
def along (wr : Bool) (n : Nat) (x : Int) : Int := if wr = true then x % n else max 0 (min x (n - 1))
theorem along_bd {n : Nat} (hn : 0 < n) (wr : Bool) (x : Int) : 0 ≤ along wr n x ∧ along wr n x < n := by
  unfold along
  split
  · exact ⟨Int.emod_nonneg _ (by omega), Int.emod_lt_of_pos _ (by omega)⟩
  · omega
theorem along_in {n : Nat} (wr : Bool) {x : Int} (h0 : 0 ≤ x) (h1 : x < n) : along wr n x = x := by
  unfold along
  split
  · exact Int.emod_eq_of_lt h0 h1
  · omega
/-- a texel by the address -/
def atP (ps : List Px) (D : Nat) (wr : Bool) (l x y : Int) : Px :=
  if 0 ≤ l ∧ l ≤ D then at_ (lev ps D l.toNat) ((sd (D - l.toNat) * along wr (sd (D - l.toNat)) y + along wr (sd (D - l.toNat)) x).toNat) else Px.z
theorem atP_B {ps : List Px} (h : RB ps) (D : Nat) (wr : Bool) (l x y : Int) : (atP ps D wr l x y).B := by
  unfold atP
  split
  · exact (lev_B h _).at _
  · exact Px.zB
/-- other texels in a square of them -/
def put (ps : List Px) (n x y w : Nat) (cs : List Px) (k : Nat) : List Px := (List.range (n * n)).map fun i => if x ≤ i % n ∧ i % n < x + w ∧ y ≤ i / n ∧ i / n < y + k then at_ cs (w * (i / n - y) + (i % n - x)) else at_ ps i
end Go.Proofs.Ytdjiblgnealmkaa.MpM

/-
  What the functions that several laws share answer.
-/
import Derived.Test.YtfoghbbidmjopaaRd
namespace Go.Proofs.Ytfoghbbidmjopaa.Alk
open Go.RowKit Rd
set_option linter.unusedVariables false
set_option linter.unusedSimpArgs false
set_option maxRecDepth 4000

theorem ret_int {k : IntKind} {a b : Int} (h : a = b) : Ending.returned (.int k a) = .returned (.int k b) := by rw [h]
theorem ret_bool {a b : Bool} (h : a = b) : Ending.returned (.bool a) = .returned (.bool b) := by rw [h]

theorem round_eq (k n : Int) (hn : 0 < n) : (k.tmod n + n) % n = k % n := by
  have h := Int.tdiv_mul_add_tmod k n
  rw [Int.add_emod_right]
  have e : k % n = (k.tdiv n * n + k.tmod n) % n := by rw [h]
  rw [e, Int.add_comm, Int.add_mul_emod_self_right]
theorem round_any (k n : Int) (w : World) (h1 : -9223372036854775808 ≤ k) (h2 : k ≤ 9223372036854775807) (hn : 1 ≤ n) (hn2 : n ≤ 1099511627776) :
    Calls Try.prog 8 #[.int .i64 k, .int .i64 n] w fun e w' => e = .returned (.int .i64 (k % n)) ∧ w = w' := by
  have t1 := Int.tmod_lt_of_pos k (b := n) (by omega)
  have t2 : -n < k.tmod n := by
    have := Int.tmod_lt_of_pos (-k) (b := n) (by omega)
    rw [Int.neg_tmod] at this; omega
  have E := Lib.hid (round_eq k n (by omega))
  go_enter Try.func8, Try.ntmps8
  go_wp2
  go_ret
  exact ⟨ret_int E.out, rfl⟩

abbrev i64s (zs : List Int) : List Value := zs.map (Value.int .i64)
theorem i64s_at (zs : List Int) (j : Nat) (h : j < zs.length) : (i64s zs)[j]? = some (.int .i64 (zs.getD j 0)) := by simp [i64s, List.getD, h]

theorem ints_any (a b : Option Addr) (la ca lb cb : Nat) (xs ys : List Int) (w : World) (ha : Reads w 1 a la (i64s xs)) (hb : Reads w 1 b lb (i64s ys)) (hla : la ≤ 1000000) (hlb : lb ≤ 1000000) :
    Calls Try.prog 11 #[.slice a la ca, .slice b lb cb] w fun e w' => e = .returned (.bool (decide (xs = ys))) ∧ Below w.heap.size w w' := by
  obtain ⟨hal, har⟩ := ha
  obtain ⟨hbl, hbr⟩ := hb
  simp only [i64s, List.length_map, Nat.mul_one] at hal hbl
  by_cases hlen : la = lb
  · subst hlen
    have HAL := Lib.hid hal
    have HBL := Lib.hid hbl
    have HAR := Lib.hid har
    have HBR := Lib.hid hbr
    clear hal hbl har hbr
    go_enter Try.func11, Try.ntmps11
    go_wp2
    go_loopw [5] (fun i wr => ∃ k : Nat, k ≤ la ∧ i = .int .i64 k ∧ Hid (xs.take k = ys.take k) ∧ ∃ n, wr = w.drewN n) (fun i _ => la - (intOf i).toNat)
    case atStart => exact ⟨0, Nat.zero_le _, rfl, rfl, 0, rfl⟩
    case round =>
      obtain ⟨k, hk, rfl, HT, n, rfl⟩ := hrel
      by_cases hlt : k < la
      · rcases HAR.out with h0 | ⟨ab, ao, rfl, hab, hac⟩
        · omega
        rcases HBR.out with h0 | ⟨bb, bo, rfl, hbb, hbc⟩
        · omega
        have h1 := HAL.out
        have h2 := HBL.out
        obtain ⟨x, y, f1, f2, hx, hy⟩ : ∃ x y, w.cell? ⟨ab, ao + k, none⟩ = some (.int .i64 x) ∧ w.cell? ⟨bb, bo + k, none⟩ = some (.int .i64 y) ∧ xs[k]? = some x ∧ ys[k]? = some y := by
          refine ⟨xs.getD k 0, ys.getD k 0, ?_, ?_, ?_, ?_⟩
          · rw [hac k (by simp; omega), i64s_at _ _ (by omega)]
          · rw [hbc k (by simp; omega), i64s_at _ _ (by omega)]
          · simp [List.getD, show k < xs.length by omega]
          · simp [List.getD, show k < ys.length by omega]
        have HX := Lib.hid hx
        have HY := Lib.hid hy
        have hlt' : (k : Int) < (la : Int) := by omega
        clear hac hbc h1 h2 hx hy
        by_cases hxy : x = y
        · subst hxy
          go_wp2
          go_quiet (fail)
          go_wp2
          go_roundw
          case rel => exact ⟨k + 1, by omega, by go_num, (by rw [List.take_add_one, List.take_add_one, HT.out, HX.out, HY.out] : xs.take (k + 1) = ys.take (k + 1)), _, rfl⟩
          case measure => simp [intOf]; omega
        · have hne : (x == y) = false := by simpa using hxy
          have hne2 : (x != y) = true := by simpa using hxy
          have hd : decide (xs = ys) = false := decide_eq_false (fun e => by have a := HX.out; have b := HY.out; rw [e, b] at a; exact hxy (by simpa using a.symm))
          go_wp2
          go_quiet (fail)
          go_wp2
          go_ret
          exact ⟨ret_bool hd.symm, by repeat' (first | (with_reducible exact Below.refl _ _) | (with_reducible refine Rd.below_step ?_ (by assumption)) | (with_reducible refine Rd.below_alloc ?_ _) | (with_reducible refine Rd.below_drewN ?_ _) | (with_reducible refine Below.drew ?_) | (with_reducible refine Below.setCell ?_ ?_ _) | (with_reducible refine Rd.below_setRow ?_ ?_ _) | go_size | (simp only [World.size_alloc]; omega) | omega)⟩
      · obtain rfl : k = la := by omega
        have h1 := HAL.out
        have h2 := HBL.out
        have hd : decide (xs = ys) = true := decide_eq_true (by have := HT.out; rwa [List.take_of_length_le (by omega), List.take_of_length_le (by omega)] at this)
        clear h1 h2
        go_wp2
        go_ret
        exact ⟨ret_bool hd.symm, by repeat' (first | (with_reducible exact Below.refl _ _) | (with_reducible refine Rd.below_step ?_ (by assumption)) | (with_reducible refine Rd.below_alloc ?_ _) | (with_reducible refine Rd.below_drewN ?_ _) | (with_reducible refine Below.drew ?_) | (with_reducible refine Below.setCell ?_ ?_ _) | (with_reducible refine Rd.below_setRow ?_ ?_ _) | go_size | (simp only [World.size_alloc]; omega) | omega)⟩
  · have hne : ((la : Int) == (lb : Int)) = false := by simp; omega
    have hd : decide (xs = ys) = false := decide_eq_false (fun e => by subst e; omega)
    go_enter Try.func11, Try.ntmps11
    go_wp2
    go_ret
    exact ⟨ret_bool hd.symm, by repeat' (first | (with_reducible exact Below.refl _ _) | (with_reducible refine Rd.below_step ?_ (by assumption)) | (with_reducible refine Rd.below_alloc ?_ _) | (with_reducible refine Rd.below_drewN ?_ _) | (with_reducible refine Below.drew ?_) | (with_reducible refine Below.setCell ?_ ?_ _) | (with_reducible refine Rd.below_setRow ?_ ?_ _) | go_size | (simp only [World.size_alloc]; omega) | omega)⟩
end Go.Proofs.Ytfoghbbidmjopaa.Alk

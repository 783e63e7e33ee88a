/-
  A pyramid in the store; has, Size, along, At, Depth, Wrap, May.
-/
import Derived.Test.YtdjiblgnealmkaaMpM
import Derived.Test.YtdjiblgnealmkaaAlike
import Derived.Test.YtdjiblgnealmkaaOctA
import Derived.BigQuiet
import Derived.BigGuard
import Derived.Deep.QuietTactic
namespace Go.Proofs.Ytdjiblgnealmkaa.MpA
open Go.RowKit Rd Go.Proofs.Ytdjiblgnealmkaa.Row Mid DkM HueA MpM
set_option linter.unusedVariables false
set_option linter.unusedSimpArgs false
set_option maxRecDepth 10000
theorem load_col (x : Value) : Instr.loadAt 39 x = loadRow 39 x := rfl
theorem store_col (x v : Value) : Instr.storeAt 39 x v = storeRow 39 x v := rfl
theorem alloc_col : Instr.alloc 39 true (.tuple #[]) = allocRow 39 := rfl
theorem run_alloc_col (w : World) : (allocRow 39).run Try.prog w = .ok (.pointer (some ⟨w.heap.size, 0, none⟩)) (w.alloc (.cells Px.z.c 39)) := by kernel_rfl
theorem run_store_col (g o : Nat) (c : Array Value) (W : World) : (storeRow 39 (.pointer (some ⟨g, o, none⟩)) (.agg c)).run Try.prog W = rowStore Try.prog 39 4 g o c W := run_storeRow (by kernel_rfl) g o c W
/-- the levels' headers, the first k of them -/
def Lvs (X : World) (g D k : Nat) (ps : List Px) : Prop := ∀ l, l < k → ∃ c cap, X.cell? ⟨g, l, none⟩ = some (.slice (some ⟨c, 0, none⟩) ((sd (D - l) * sd (D - l) : Nat) : Int).toNat cap) ∧ c < X.heap.size ∧ sd (D - l) * sd (D - l) ≤ cap ∧ cap ≤ maxLen ∧ Reads X 4 (some ⟨c, 0, none⟩) (sd (D - l) * sd (D - l)) (cp (lev ps D l))
/-- a pyramid -/
structure Pyr (X : World) (b D : Nat) (wr : Bool) (ps : List Px) : Prop where
  d3 : D ≤ 3
  len : ps.length = sd D * sd D
  bb : RB ps
  lt : b < X.heap.size
  c0 : X.cell? ⟨b, 0, none⟩ = some (.int .i64 D)
  c1 : X.cell? ⟨b, 1, none⟩ = some (.bool wr)
  c2 : ∃ g cap, X.cell? ⟨b, 2, none⟩ = some (.slice (some ⟨g, 0, none⟩) (D + 1) cap) ∧ g < X.heap.size ∧ D + 1 ≤ cap ∧ cap ≤ maxLen ∧ Lvs X g D (D + 1) ps
variable {X Y : World} {b D : Nat} {wr : Bool} {ps : List Px}
theorem Lvs.below {g k : Nat} (h : Lvs X g D k ps) (hg : g < X.heap.size) (hb : Below X.heap.size X Y) : Lvs Y g D k ps := fun l hl => by
  obtain ⟨c, cap, h1, h2, h3, h4, h5⟩ := h l hl
  exact ⟨c, cap, by rw [hb.cell (p := ⟨g, l, none⟩) hg]; exact h1, Nat.lt_of_lt_of_le h2 hb.size, h3, h4, h5.below hb (Nat.le_refl _)⟩
theorem Pyr.below (h : Pyr X b D wr ps) (hb : Below X.heap.size X Y) : Pyr Y b D wr ps := by
  obtain ⟨g, cap, h1, h2, h3, h4, h5⟩ := h.c2
  exact ⟨h.d3, h.len, h.bb, Nat.lt_of_lt_of_le h.lt hb.size, by rw [hb.cell (p := ⟨b, 0, none⟩) h.lt]; exact h.c0, by rw [hb.cell (p := ⟨b, 1, none⟩) h.lt]; exact h.c1, g, cap, by rw [hb.cell (p := ⟨b, 2, none⟩) h.lt]; exact h1, Nat.lt_of_lt_of_le h2 hb.size, h3, h4, h5.below h2 hb⟩
theorem Pyr.regrown {W : World} (h : Pyr W b D wr ps) (d : Nat) (os : Array Obj) : Pyr (Sort.grow (redrawn W d) os) b D wr ps := h.below (below_regrown W d os)
/-! size -/
theorem shl_sd {d : Nat} (h : d ≤ 3) : Op.shift .shl .i64 4 .i64 (d : Int) = pure (.int .i64 (sd d)) := by
  rcases (show d = 0 ∨ d = 1 ∨ d = 2 ∨ d = 3 by omega) with rfl | rfl | rfl | rfl <;> rfl
theorem size_any (d : Nat) (w : World) (h : d ≤ 3) : Calls Try.prog 44 #[.int .i64 d] w fun e w' => e = .returned (.int .i64 (sd d)) ∧ w = w' := by
  have h0 : ¬ (d : Int) < 0 := by omega
  go_enter Try.func44, Try.ntmps44
  go_wp2
  go_ret
  refine ⟨Alk.ret_int ?_, rfl⟩
  rcases (show d = 0 ∨ d = 1 ∨ d = 2 ∨ d = 3 by omega) with rfl | rfl | rfl | rfl <;> first | decide | (rw [wrap64_eq]; decide) | (unfold wrap64; decide) | go_num
/-! has -/
theorem has_nil (l : Int) (w : World) : Calls Try.prog 46 #[.pointer none, .int .i64 l] w fun e w' => e = .returned (.bool false) ∧ w = w' := by
  go_enter Try.func46, Try.ntmps46
  go_wp2
  go_ret
  exact ⟨rfl, rfl⟩
theorem has_any (l : Int) (w : World) (h : Pyr w b D wr ps) : Calls Try.prog 46 #[.pointer (some ⟨b, 0, none⟩), .int .i64 l] w fun e w' => e = .returned (.bool (decide (0 ≤ l ∧ l ≤ D))) ∧ w = w' := by
  obtain ⟨g, cap, c2, _, hc1, hc2, _⟩ := h.c2
  have hd := h.d3
  clear h
  by_cases h0 : l < 0
  · have d0 : decide (l < 0) = true := decide_eq_true h0
    have hR : decide (0 ≤ l ∧ l ≤ D) = false := decide_eq_false (by omega)
    rw [hR]
    clear hR
    go_enter Try.func46, Try.ntmps46
    go_wp2
    go_ret
    exact ⟨rfl, rfl⟩
  · have d0 : decide (l < 0) = false := decide_eq_false h0
    by_cases h1 : l ≤ D
    · have d1 : decide (l < (D : Int) + 1) = true := decide_eq_true (by omega)
      have hR : decide (0 ≤ l ∧ l ≤ D) = true := decide_eq_true (by omega)
      rw [hR]
      clear hR
      go_enter Try.func46, Try.ntmps46
      go_wp2
      go_ret
      exact ⟨rfl, rfl⟩
    · have d1 : decide (l < (D : Int) + 1) = false := decide_eq_false (by omega)
      have hR : decide (0 ≤ l ∧ l ≤ D) = false := decide_eq_false (by omega)
      rw [hR]
      clear hR
      go_enter Try.func46, Try.ntmps46
      go_wp2
      go_ret
      exact ⟨rfl, rfl⟩
/-! Size -/
def szE (D : Nat) (l : Int) : Int := if 0 ≤ l ∧ l ≤ D then sd (D - l.toNat) else 0
theorem szE_in {l : Nat} (h : l ≤ D) : szE D (l : Int) = sd (D - l) := by unfold szE; rw [if_pos (by omega), Int.toNat_natCast]
theorem Size_nil (l : Int) (w : World) : Calls Try.prog 19 #[.pointer none, .int .i64 l] w fun e w' => e = .returned (.int .i64 0) ∧ w = w' := by
  go_enter Try.func19, Try.ntmps19
  go_wp2_with fail
  refine (has_nil _ _).mono ?_
  rintro e _ ⟨rfl, rfl⟩
  go_wp2
  go_ret
  exact ⟨rfl, rfl⟩
theorem Size_any (l : Int) (w : World) (h : Pyr w b D wr ps) : Calls Try.prog 19 #[.pointer (some ⟨b, 0, none⟩), .int .i64 l] w fun e w' => e = .returned (.int .i64 (szE D l)) ∧ w = w' := by
  have C := has_any l w h
  have c0 := h.c0
  have hd := h.d3
  clear h
  by_cases hl : 0 ≤ l ∧ l ≤ D
  · obtain ⟨k, rfl⟩ : ∃ k : Nat, l = k := ⟨l.toNat, by omega⟩
    rw [decide_eq_true hl] at C
    have CC := Lib.hid C
    rw [szE_in (by omega)]
    have C2 := size_any (D - k) w (by omega)
    rw [show ((D - k : Nat) : Int) = (D : Int) - k by omega] at C2
    have CC2 := Lib.hid C2
    clear C C2
    go_enter Try.func19, Try.ntmps19
    go_wp2_with fail
    refine CC.out.mono ?_
    rintro e _ ⟨rfl, rfl⟩
    go_wp2_with fail
    refine CC2.out.mono ?_
    rintro e _ ⟨rfl, rfl⟩
    go_wp2
    go_ret
    exact ⟨rfl, rfl⟩
  · rw [decide_eq_false hl] at C
    have CC := Lib.hid C
    have hR : szE D l = 0 := by unfold szE; rw [if_neg hl]
    rw [hR]
    clear C hR hl
    go_enter Try.func19, Try.ntmps19
    go_wp2_with fail
    refine CC.out.mono ?_
    rintro e _ ⟨rfl, rfl⟩
    go_wp2
    go_ret
    exact ⟨rfl, rfl⟩
/-! Depth, Wrap -/
theorem Depth_any (w : World) (h : Pyr w b D wr ps) : Calls Try.prog 23 #[.pointer (some ⟨b, 0, none⟩)] w fun e w' => e = .returned (.int .i64 D) ∧ w = w' := by
  have c0 := h.c0
  clear h
  go_enter Try.func23, Try.ntmps23
  go_wp2
  go_ret
  exact ⟨rfl, rfl⟩
theorem Depth_nil (w : World) : Calls Try.prog 23 #[.pointer none] w fun e w' => e = .returned (.int .i64 0) ∧ w = w' := by
  go_enter Try.func23, Try.ntmps23
  go_wp2
  go_ret
  exact ⟨rfl, rfl⟩
theorem Wrap_any (w : World) (h : Pyr w b D wr ps) : Calls Try.prog 24 #[.pointer (some ⟨b, 0, none⟩)] w fun e w' => e = .returned (.bool wr) ∧ w = w' := by
  have c1 := h.c1
  clear h
  go_enter Try.func24, Try.ntmps24
  go_wp2
  go_ret
  exact ⟨rfl, rfl⟩
/-! along -/
theorem tmod_wrap (k n : Int) (hn : 0 < n) : (k.tmod n + n) % n = k % n := by
  have h := Int.tdiv_mul_add_tmod k n
  rw [Int.add_emod_right]
  have e : k % n = (k.tdiv n * n + k.tmod n) % n := by rw [h]
  rw [e, Int.add_comm, Int.add_mul_emod_self_right]
def I64 (x : Int) : Prop := -9223372036854775808 ≤ x ∧ x ≤ 9223372036854775807
theorem along_any (l : Nat) (x : Int) (w : World) (h : Pyr w b D wr ps) (hl : l ≤ D) (hx : I64 x) :
    Calls Try.prog 47 #[.pointer (some ⟨b, 0, none⟩), .int .i64 l, .int .i64 x] w fun e w' => e = .returned (.int .i64 (along wr (sd (D - l)) x)) ∧ w = w' := by
  have C := Size_any (l : Int) w h
  rw [szE_in hl] at C
  have CC := Lib.hid C
  have c1 := h.c1
  have hd := h.d3
  obtain ⟨hx1, hx2⟩ := hx
  obtain ⟨n, hn⟩ : ∃ n, n = sd (D - l) := ⟨_, rfl⟩
  have hn1 : 4 ≤ n := by rw [hn]; exact sd_pos _
  have hn2 : n ≤ 32 := by rw [hn]; exact sd_le (by omega)
  rw [← hn] at CC ⊢
  clear C h hd hl hn
  cases wr with
  | true =>
    have t1 := Int.tmod_lt_of_pos x (b := n) (by omega)
    have t2 : -n < x.tmod n := by
      have := Int.tmod_lt_of_pos (-x) (b := n) (by omega)
      rw [Int.neg_tmod] at this; omega
    have E := Lib.hid (tmod_wrap x n (by omega))
    have hn3 : ¬ (n : Int) = 0 := by omega
    go_enter Try.func47, Try.ntmps47
    go_wp2_with fail
    refine CC.out.mono ?_
    rintro e _ ⟨rfl, rfl⟩
    go_wp2
    go_ret
    exact ⟨Alk.ret_int E.out, rfl⟩
  | false =>
    go_enter Try.func47, Try.ntmps47
    go_wp2_with fail
    refine CC.out.mono ?_
    rintro e _ ⟨rfl, rfl⟩
    go_wp2
    all_goals
      go_ret
      refine ⟨Alk.ret_int ?_, rfl⟩
      unfold along
      rw [if_neg (by decide)]
      clear CC c1
      repeat' split at *
      all_goals omega
end Go.Proofs.Ytdjiblgnealmkaa.MpA

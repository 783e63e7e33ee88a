/-
  The reference's disk: its head; Set.
-/
import Derived.Test.YtajoajblmaopjaaDkL
namespace Go.Proofs.Ytajoajblmaopjaa.DkN
open Go.RowKit Rd
open Go.Proofs.Ytajoajblmaopjaa.Row hiding cs blk3_0 blk3_1 blk3_2
open Mid DkM DkA DkL
set_option linter.unusedVariables false
set_option linter.unusedSimpArgs false
set_option maxRecDepth 10000
/-- the head: rows for good, rows held back, fuse, mask, down, writes -/
structure Rh (X : World) (pd : Nat) (bv hv : Value) (fu ms : Int) (dn : Bool) (nw : Int) : Prop where
  head : blk X pd = some (.cells #[bv, hv, .int .i64 fu, .int .i64 ms, .bool dn, .int .i64 nw] 50 (0, 0))
variable {X Y : World} {pd : Nat} {bv hv : Value} {fu ms nw : Int} {dn : Bool}
theorem Rh.c0 (h : Rh X pd bv hv fu ms dn nw) : X.cell? ⟨pd, 0, none⟩ = some bv := by rw [blk_cell h.head]; rfl
theorem Rh.c1 (h : Rh X pd bv hv fu ms dn nw) : X.cell? ⟨pd, 1, none⟩ = some hv := by rw [blk_cell h.head]; rfl
theorem Rh.c2 (h : Rh X pd bv hv fu ms dn nw) : X.cell? ⟨pd, 2, none⟩ = some (.int .i64 fu) := by rw [blk_cell h.head]; rfl
theorem Rh.c3 (h : Rh X pd bv hv fu ms dn nw) : X.cell? ⟨pd, 3, none⟩ = some (.int .i64 ms) := by rw [blk_cell h.head]; rfl
theorem Rh.c4 (h : Rh X pd bv hv fu ms dn nw) : X.cell? ⟨pd, 4, none⟩ = some (.bool dn) := by rw [blk_cell h.head]; rfl
theorem Rh.c5 (h : Rh X pd bv hv fu ms dn nw) : X.cell? ⟨pd, 5, none⟩ = some (.int .i64 nw) := by rw [blk_cell h.head]; rfl
theorem Rh.fz (h : Rh X pd bv hv fu ms dn nw) (k : Nat) : X.frozen? ⟨pd, k, none⟩ = false := blk_frozen h.head k
theorem Rh.set2 (h : Rh X pd bv hv fu ms dn nw) (v : Int) : Rh (X.setCell ⟨pd, 2, none⟩ (.int .i64 v)) pd bv hv v ms dn nw := ⟨blk_set X pd 2 (.int .i64 v) _ _ h.head⟩
theorem Rh.set3 (h : Rh X pd bv hv fu ms dn nw) (v : Int) : Rh (X.setCell ⟨pd, 3, none⟩ (.int .i64 v)) pd bv hv fu v dn nw := ⟨blk_set X pd 3 (.int .i64 v) _ _ h.head⟩
theorem Rh.set4 (h : Rh X pd bv hv fu ms dn nw) (v : Bool) : Rh (X.setCell ⟨pd, 4, none⟩ (.bool v)) pd bv hv fu ms v nw := ⟨blk_set X pd 4 (.bool v) _ _ h.head⟩
theorem Rh.set5 (h : Rh X pd bv hv fu ms dn nw) (v : Int) : Rh (X.setCell ⟨pd, 5, none⟩ (.int .i64 v)) pd bv hv fu ms dn v := ⟨blk_set X pd 5 (.int .i64 v) _ _ h.head⟩
set_option maxHeartbeats 1000000 in
theorem set_no (m mask : Int) (w : World) (h : Rh w pd bv hv fu ms true nw) :
    Calls Try.prog 16 #[.pointer (some ⟨pd, 0, none⟩), .int .i64 m, .int .i64 mask] w fun e w' => e = .returned (.int .i64 7) ∧ w = w' := by
  have c4 := h.c4
  clear h
  go_enter Try.func16, Try.ntmps16
  go_wp2
  go_ret
  exact ⟨rfl, rfl⟩
set_option maxHeartbeats 1000000 in
theorem set_bad (m mask : Int) (w : World) (h : Rh w pd bv hv fu ms false nw) (hm : m < 0 ∨ 1048576 < m) :
    Calls Try.prog 16 #[.pointer (some ⟨pd, 0, none⟩), .int .i64 m, .int .i64 mask] w fun e w' => e = .returned (.int .i64 1) ∧ w = w' := by
  have c4 := h.c4
  clear h
  by_cases h0 : m < 0
  · have d0 : decide (m < 0) = true := decide_eq_true h0
    go_enter Try.func16, Try.ntmps16
    go_wp2
    go_ret
    exact ⟨rfl, rfl⟩
  · have d0 : decide (m < 0) = false := decide_eq_false h0
    have d1 : decide (1048576 < m) = true := decide_eq_true (by omega)
    go_enter Try.func16, Try.ntmps16
    go_wp2
    go_ret
    exact ⟨rfl, rfl⟩
set_option maxHeartbeats 1000000 in
theorem set_any (m mask : Int) (w : World) (h : Rh w pd bv hv fu ms false nw) (hm : 0 ≤ m ∧ m ≤ 1048576) :
    Calls Try.prog 16 #[.pointer (some ⟨pd, 0, none⟩), .int .i64 m, .int .i64 mask] w fun e w' => e = .returned (.int .i64 0) ∧ Rh w' pd bv hv m mask false nw ∧ Tn [pd] w w' := by
  have c4 := h.c4
  have c2 := h.c2
  have f2 := h.fz 2
  have d0 : decide (m < 0) = false := decide_eq_false (by omega)
  have d1 : decide (1048576 < m) = false := decide_eq_false (by omega)
  have H2 := Lib.hid (h.set2 m)
  have c3 := H2.out.c3
  have f3 := H2.out.fz 3
  clear h hm
  go_enter Try.func16, Try.ntmps16
  go_wp2
  go_ret
  exact ⟨rfl, H2.out.set3 mask, (Tn.set _ _ _ (by simp)).trans (Tn.set _ _ _ (by simp))⟩
/-! back: where a sector stands in the list -/
set_option maxHeartbeats 1000000 in
theorem back_any (i : Int) (ha : Option Addr) (N c : Nat) (f : Nat → Int) (w : World) (h : Rh w pd bv (.slice ha N c) fu ms dn nw) (hN : N ≤ 2048)
    (hc : N = 0 ∨ ∃ hb ho, ha = some ⟨hb, ho, none⟩ ∧ ∀ k, k < N → w.cell? ⟨hb, ho + k * 2, none⟩ = some (.int .i64 (f k))) :
    Calls Try.prog 29 #[.pointer (some ⟨pd, 0, none⟩), .int .i64 i] w fun e w' => w = w' ∧ ((∃ k, k < N ∧ e = .returned (.int .i64 k) ∧ f k = i) ∨ (e = .returned (.int .i64 (-1)) ∧ ∀ k, k < N → f k ≠ i)) := by
  have c1 := h.c1
  have HC := Lib.hid hc
  clear h hc
  go_enter Try.func29, Try.ntmps29
  go_wp2_with fail
  go_loopw [5] (fun v X => ∃ k : Nat, k ≤ N ∧ v = .int .i64 k ∧ X = w ∧ Hid (∀ j, j < k → f j ≠ i)) (fun v _ => N - (intOf v).toNat)
  case atStart => exact ⟨0, by omega, rfl, rfl, Lib.hid (fun j hj => absurd hj (by omega))⟩
  case round =>
    obtain ⟨k, hk, rfl, rfl, HF⟩ := hrel
    by_cases hlt : k < N
    · have hlt' : (k : Int) < N := by omega
      obtain ⟨hb, ho, rfl, hcc⟩ := HC.out.resolve_left (by omega)
      have ck := hcc k hlt
      clear hcc
      obtain ⟨v, hv⟩ : ∃ v, f k = v := ⟨_, rfl⟩
      rw [hv] at ck
      by_cases he : v = i
      · have HE : Hid (f k = i) := Lib.hid (hv.trans he)
        subst he
        clear hv
        go_wp2
        go_ret
        exact ⟨rfl, Or.inl ⟨k, hlt, rfl, HE.out⟩⟩
      · have e1 : (v == i) = false := by simpa using he
        have HF2 : Hid (∀ j, j < k + 1 → f j ≠ i) := Lib.hid (fun j hj => by
          by_cases e : j = k
          · rw [e, hv]; exact he
          · exact HF.out j (by omega))
        clear hv
        go_wp2
        exact ⟨⟨k + 1, by omega, by go_num, by first | trivial | rfl, HF2⟩, by simp [intOf]; omega⟩
    · obtain rfl : k = N := by omega
      go_wp2
      go_ret
      exact ⟨rfl, Or.inr ⟨rfl, HF.out⟩⟩
end Go.Proofs.Ytajoajblmaopjaa.DkN

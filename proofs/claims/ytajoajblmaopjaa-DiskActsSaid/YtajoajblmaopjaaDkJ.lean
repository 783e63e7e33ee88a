/-
  What a disk refuses: Write, Fuse, Flush, Corrupt.
-/
import Derived.Test.YtajoajblmaopjaaDkH
namespace Go.Proofs.Ytajoajblmaopjaa.DkJ
open Go.RowKit Rd
open Go.Proofs.Ytajoajblmaopjaa.Row hiding cs blk3_0 blk3_1 blk3_2
open Mid DkM DkA DkB DkC DkD DkE DkF DkH
set_option linter.unusedVariables false
set_option linter.unusedSimpArgs false
set_option maxRecDepth 10000
variable {X Y : World} {b kg hg n : Nat} {s : DS}
theorem may_ok {i : Nat} (hd : s.dn = false) (hi : i < n) : mayE n s.dn (i : Int) = 0 := by unfold mayE; rw [hd, if_neg (by decide), if_pos (by omega)]
set_option maxHeartbeats 1000000 in
theorem write_no (i : Int) (ad : Option Addr) (len c : Nat) (w : World) (h : Dk w b kg hg n s) (hno : mayE n s.dn i ≠ 0) :
    Calls Try.prog 11 #[.pointer (some ⟨b, 0, none⟩), .int .i64 i, .slice ad len c] w fun e w' => e = .returned (.int .i64 (mayE n s.dn i)) ∧ w = w' := by
  have C := Lib.hid (may_any i w h)
  obtain ⟨m, hm⟩ : ∃ m, mayE n s.dn i = m := ⟨_, rfl⟩
  rw [hm] at C hno ⊢
  have d0 : (m != 0) = true := by simpa using hno
  have d1 : (m == 0) = false := by simpa using hno
  clear h hm hno
  go_enter Try.func11, Try.ntmps11
  go_wp2_with fail
  refine C.out.mono ?_
  rintro e _ ⟨rfl, rfl⟩
  go_wp2
  go_ret
  exact ⟨rfl, rfl⟩
set_option maxHeartbeats 1000000 in
theorem write_len (i : Nat) (ad : Option Addr) (len c : Nat) (w : World) (h : Dk w b kg hg n s) (hd : s.dn = false) (hi : i < n) (hl : len ≠ 32) :
    Calls Try.prog 11 #[.pointer (some ⟨b, 0, none⟩), .int .i64 i, .slice ad len c] w fun e w' => e = .returned (.int .i64 1) ∧ w = w' := by
  have C := may_any (i : Int) w h
  rw [may_ok hd hi] at C
  have CC := Lib.hid C
  have hl' : ¬ ((len : Int) = 32) := by omega
  have d0 : ((len : Int) != 32) = true := by simpa using hl'
  have d1 : ((len : Int) == 32) = false := by simpa using hl'
  clear h C
  go_enter Try.func11, Try.ntmps11
  go_wp2_with fail
  refine CC.out.mono ?_
  rintro e _ ⟨rfl, rfl⟩
  go_wp2
  go_ret
  exact ⟨rfl, rfl⟩
set_option maxHeartbeats 1000000 in
theorem fuse_no (m mask : Int) (w : World) (h : Dk w b kg hg n s) (hd : s.dn = true) :
    Calls Try.prog 15 #[.pointer (some ⟨b, 0, none⟩), .int .i64 m, .int .i64 mask] w fun e w' => e = .returned (.int .i64 7) ∧ w = w' := by
  have c4 := h.c4
  rw [hd] at c4
  clear h hd
  go_enter Try.func15, Try.ntmps15
  go_wp2
  go_ret
  exact ⟨rfl, rfl⟩
set_option maxHeartbeats 1000000 in
theorem fuse_bad (m mask : Int) (w : World) (h : Dk w b kg hg n s) (hd : s.dn = false) (hm : m < 0 ∨ 1048576 < m) :
    Calls Try.prog 15 #[.pointer (some ⟨b, 0, none⟩), .int .i64 m, .int .i64 mask] w fun e w' => e = .returned (.int .i64 1) ∧ w = w' := by
  have c4 := h.c4
  rw [hd] at c4
  clear h hd
  by_cases h0 : m < 0
  · have d0 : decide (m < 0) = true := decide_eq_true h0
    go_enter Try.func15, Try.ntmps15
    go_wp2
    go_ret
    exact ⟨rfl, rfl⟩
  · have d0 : decide (m < 0) = false := decide_eq_false h0
    have d1 : decide (1048576 < m) = true := decide_eq_true (by omega)
    go_enter Try.func15, Try.ntmps15
    go_wp2
    go_ret
    exact ⟨rfl, rfl⟩
set_option maxHeartbeats 1000000 in
theorem flush_no (w : World) (h : Dk w b kg hg n s) (hd : s.dn = true) :
    Calls Try.prog 13 #[.pointer (some ⟨b, 0, none⟩)] w fun e w' => e = .returned (.int .i64 7) ∧ w = w' := by
  have c4 := h.c4
  rw [hd] at c4
  clear h hd
  go_enter Try.func13, Try.ntmps13
  go_wp2
  go_ret
  exact ⟨rfl, rfl⟩
set_option maxHeartbeats 1000000 in
theorem corrupt_no (i k : Int) (w : World) (h : Dk w b kg hg n s) (hno : mayE n s.dn i ≠ 0) :
    Calls Try.prog 17 #[.pointer (some ⟨b, 0, none⟩), .int .i64 i, .int .i64 k] w fun e w' => e = .returned (.int .i64 (mayE n s.dn i)) ∧ w = w' := by
  have C := Lib.hid (may_any i w h)
  obtain ⟨m, hm⟩ : ∃ m, mayE n s.dn i = m := ⟨_, rfl⟩
  rw [hm] at C hno ⊢
  have d0 : (m != 0) = true := by simpa using hno
  have d1 : (m == 0) = false := by simpa using hno
  clear h hm hno
  go_enter Try.func17, Try.ntmps17
  go_wp2_with fail
  refine C.out.mono ?_
  rintro e _ ⟨rfl, rfl⟩
  go_wp2
  go_ret
  exact ⟨rfl, rfl⟩
set_option maxHeartbeats 1000000 in
theorem corrupt_bit (i : Nat) (k : Int) (w : World) (h : Dk w b kg hg n s) (hd : s.dn = false) (hi : i < n) (hk : k < 0 ∨ 256 ≤ k) :
    Calls Try.prog 17 #[.pointer (some ⟨b, 0, none⟩), .int .i64 i, .int .i64 k] w fun e w' => e = .returned (.int .i64 1) ∧ w = w' := by
  have C := may_any (i : Int) w h
  rw [may_ok hd hi] at C
  have CC := Lib.hid C
  clear h C
  by_cases h0 : k < 0
  · have d0 : decide (k < 0) = true := decide_eq_true h0
    go_enter Try.func17, Try.ntmps17
    go_wp2_with fail
    refine CC.out.mono ?_
    rintro e _ ⟨rfl, rfl⟩
    go_wp2
    go_ret
    exact ⟨rfl, rfl⟩
  · have d0 : decide (k < 0) = false := decide_eq_false h0
    have d1 : decide (256 ≤ k) = true := decide_eq_true (by omega)
    go_enter Try.func17, Try.ntmps17
    go_wp2_with fail
    refine CC.out.mono ?_
    rintro e _ ⟨rfl, rfl⟩
    go_wp2
    go_ret
    exact ⟨rfl, rfl⟩
end Go.Proofs.Ytajoajblmaopjaa.DkJ

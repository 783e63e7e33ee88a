/-
  The reference's Write: refused, the fuse, a sector that is held already.
-/
import Derived.Test.YtajoajblmaopjaaDkT
namespace Go.Proofs.Ytajoajblmaopjaa.DkV
open Go.RowKit Rd
open Go.Proofs.Ytajoajblmaopjaa.Row hiding cs blk3_0 blk3_1 blk3_2
open Mid DkM DkA DkL DkN DkO DkP DkQ DkR DkS DkT
open DkB (rd z32_len kpS wrS)
open DkG (getD_set H_)
open DkH (Bd)
set_option linter.unusedVariables false
set_option linter.unusedSimpArgs false
set_option maxRecDepth 10000
variable {X Y : World} {B0 pd bg n : Nat} {s : DS}
theorem Rh.set1 {bv hv nv : Value} {fu ms nw : Int} {dn : Bool} (h : Rh X pd bv hv fu ms dn nw) (v : Value) : Rh (X.setCell ⟨pd, 1, none⟩ v) pd bv v fu ms dn nw := ⟨blk_set X pd 1 v _ _ h.head⟩
theorem rwrite_dn (i : Int) (a : Option Addr) (m c : Nat) (w : World) (h : Rf w B0 pd bg n s) (hd : s.dn = true) :
    Calls Try.prog 12 #[.pointer (some ⟨pd, 0, none⟩), .int .i64 i, .slice a m c] w fun e w' => e = .returned (.int .i64 7) ∧ w = w' := by
  obtain ⟨cb, hv, h1, h2, h3⟩ := h.hd
  have c4 := h1.c4
  rw [hd] at c4
  clear h h1 h2 h3
  go_enter Try.func12, Try.ntmps12
  go_wp2
  go_ret
  exact ⟨rfl, rfl⟩
set_option maxHeartbeats 4000000 in
theorem rwrite_bad (i : Int) (a : Option Addr) (m c : Nat) (w : World) (h : Rf w B0 pd bg n s) (hd : s.dn = false) (hno : ¬ (0 ≤ i ∧ i < n) ∨ m ≠ 32) (hm : m ≤ 1000000) :
    Calls Try.prog 12 #[.pointer (some ⟨pd, 0, none⟩), .int .i64 i, .slice a m c] w fun e w' => e = .returned (.int .i64 1) ∧ w = w' := by
  obtain ⟨cb, hv, h1, h2, h3⟩ := h.hd
  have c4 := h1.c4
  have c0 := h1.c0
  rw [hd] at c4
  clear h h1 h2 h3
  by_cases h0 : i < 0
  · have d0 : decide (i < 0) = true := decide_eq_true h0
    clear hno
    go_enter Try.func12, Try.ntmps12
    go_wp2
    go_ret
    exact ⟨rfl, rfl⟩
  have d0 : decide (i < 0) = false := decide_eq_false h0
  by_cases h1 : (n : Int) ≤ i
  · have d1 : decide ((n : Int) ≤ i) = true := decide_eq_true h1
    clear hno
    go_enter Try.func12, Try.ntmps12
    go_wp2
    go_ret
    exact ⟨rfl, rfl⟩
  have d1 : decide ((n : Int) ≤ i) = false := decide_eq_false h1
  have hm2 : m ≠ 32 := by rcases hno with h | h <;> omega
  have hm3 : ¬ (m : Int) = 32 := by omega
  clear hno
  go_enter Try.func12, Try.ntmps12
  go_wp2
  all_goals (go_ret; exact ⟨rfl, rfl⟩)
set_option maxHeartbeats 4000000 in
theorem rwrite_down (i : Nat) (a : Option Addr) (c : Nat) (w : World) (h : Rf w B0 pd bg n s) (hd : s.dn = false) (hi : i < n) (hf : s.lf = 0) :
    Calls Try.prog 12 #[.pointer (some ⟨pd, 0, none⟩), .int .i64 i, .slice a 32 c] w fun e w' => e = .returned (.int .i64 7) ∧ Rf w' B0 pd bg n { s with dn := true } ∧ Fr B0 w w' := by
  obtain ⟨cb, hv, h1, h2, h3⟩ := h.hd
  have c4 := h1.c4
  have c0 := h1.c0
  have c2 := h1.c2
  have f4 := h1.fz 4
  rw [hd] at c4
  rw [hf] at c2
  have d0 : decide ((i : Int) < 0) = false := decide_eq_false (by omega)
  have d1 : decide ((n : Int) ≤ (i : Int)) = false := decide_eq_false (by omega)
  have s4 := same3_head (v := .bool true) (i := 4) h1.head
  have H : Hid (Rf (w.setCell ⟨pd, 4, none⟩ (.bool true)) B0 pd bg n { s with dn := true } ∧ Fr B0 w (w.setCell ⟨pd, 4, none⟩ (.bool true))) := Lib.hid ⟨⟨h.lo, ⟨cb, hv, h1.set4 true, h2.keep s4, h3.keep s4⟩, h.small, h.kl, h.hb⟩, fr_cell (.inl rfl) (show w.heap[pd]? = _ from h1.head) h.lo⟩
  clear h h1 h2 h3 s4
  go_enter Try.func12, Try.ntmps12
  go_wp2
  go_ret
  exact ⟨rfl, H.out.1, H.out.2⟩
end Go.Proofs.Ytajoajblmaopjaa.DkV

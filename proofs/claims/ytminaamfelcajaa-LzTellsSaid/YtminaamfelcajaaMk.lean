/-
  make([]byte, n): a row of noughts of one's own.
-/
import Derived.Test.YtminaamfelcajaaRow
namespace Go.Proofs.Ytminaamfelcajaa.Mk
open Go.RowKit Rd Go.Proofs.Ytminaamfelcajaa.Row
set_option linter.unusedVariables false
set_option linter.unusedSimpArgs false
theorem info_u8 : (Try.prog.info? 5).map (fun i => (i.zero, i.size, i.bytes)) = some (some (.int .u8 0), 1, 1) := by kernel_rfl
theorem made_u8 (n : Nat) : madeCells (Value.cells (.int .u8 0)) n = cs .u8 (List.replicate n 0) := by
  apply Array.ext
  · simp [madeCells]
  · intro i h1 h2
    simp only [madeCells, Value.cells, Nat.mod_one, cs, List.map_replicate, Array.getElem_map, List.getElem_toArray, List.getElem_replicate]
    show #[Value.int IntKind.u8 0][(Array.range n)[i]'(by simpa [madeCells] using h1) % 1]! = _
    rw [Nat.mod_one]
    rfl
theorem run_make_u8 (n : Nat) (hn : n ≤ 100000) (w : World) :
    (Instr.makeSlice 22 (.int .i64 (n : Int)) (.int .i64 (n : Int))).run Try.prog w = .ok (.slice (some ⟨w.heap.size, 0, none⟩) n n) (w.alloc (.cells (cs .u8 (List.replicate n 0)) 5)) := by
  obtain ⟨i, hi, hz, hs, hb⟩ := info_parts info_u8
  have hr := run_make (P := Try.prog) w 22 5 i (.int .u8 0) Try.underlying22 hi hz .i64 .i64 (n : Int) (n : Int) (by omega) (by omega) (by rw [hb]; omega) (by omega)
  simp only [Int.toNat_natCast, hs, Nat.mul_one] at hr
  rw [hr, made_u8]

end Go.Proofs.Ytminaamfelcajaa.Mk

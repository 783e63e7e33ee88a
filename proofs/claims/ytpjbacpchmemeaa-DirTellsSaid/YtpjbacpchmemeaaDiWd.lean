/-
  The walk of DirTells, as its claim wants it.
-/
import Derived.Test.YtpjbacpchmemeaaDiRk
import Derived.Test.YtpjbacpchmemeaaFlat
namespace Go.Proofs.Ytpjbacpchmemeaa.DiWd
open Go.RowKit Rd Go.Proofs.Ytpjbacpchmemeaa.Row DiRk
set_option linter.unusedVariables false
theorem DirTells_walk (a0 : Int) (a1 : Option Addr) (len1 cap1 : Nat) (x1 : List (List Value)) (a2 : Option Addr) (len2 cap2 : Nat) (x2 : List (List Value)) (a3 : Option Addr) (len3 cap3 : Nat) (x3 : List (List Value)) (a4_0 : Int) (a4_1 : Int) (a4_2 : Int) (a5 : Int) (w : World) (w0 : (Lit.int .i64 a0).wf = true) (w1 : Flat.IsRows [some .i64, some .i64, some .i64, some .i64, some .i64, some .u32] w a1 len1 cap1 x1) (w2 : Flat.IsRows [some .i64, some .i64, some .i64, some .i64, some .i64, some .u32] w a2 len2 cap2 x2) (w3 : Flat.IsRows [some .u8] w a3 len3 cap3 x3) (w4_0 : (Lit.int .i64 a4_0).wf = true) (w4_1 : (Lit.int .i64 a4_1).wf = true) (w4_2 : (Lit.int .i64 a4_2).wf = true) (w5 : (Lit.int .i64 a5).wf = true) :
    Calls Try.prog 3 #[.int .i64 a0, .slice a1 len1 cap1, .slice a2 len2 cap2, .slice a3 len3 cap3, .agg #[.int .i64 a4_0, .int .i64 a4_1, .int .i64 a4_2], .int .i64 a5] w fun e w' => e = .returned (.bool true) ∧ Below w.heap.size w w' := by
  obtain ⟨l, hl, hRl, hBl, -, -⟩ := DiZ0.rows_en w1
  obtain ⟨m, hm, hRm, hBm, -, -⟩ := DiZ0.rows_en w2
  obtain ⟨zs, -, hz, hRz, hc, -, -⟩ := Bytes.rows_bytes w3
  exact DiRk.tells_gen a0 a1 len1 cap1 l a2 len2 cap2 m a3 len3 cap3 zs a4_0 a4_1 a4_2 a5 w hl hRl hBl hm hRm hBm hRz hz hc (DiZ0.wf_bd w5)
end Go.Proofs.Ytpjbacpchmemeaa.DiWd

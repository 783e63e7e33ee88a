/-
  The law of package super: of any block the bytes, of any bytes the block, the newer one of two.
-/
import Derived.Test.YtbicgcnlijgjmaaSupG
import Derived.Test.YtbicgcnlijgjmaaSupH
import Derived.Test.YtbicgcnlijgjmaaSupI
namespace Go.Proofs.Ytbicgcnlijgjmaa.SupJ
open Go.RowKit Rd Go.Proofs.Ytbicgcnlijgjmaa.Row OctA OctB SupA SupB SupC SupD RefB RefC
open CrcA (tblL tblL_len tblL_at tblF byteN)
open CrcB (onV onF onF_lt)
open Go.Proofs.Ytbicgcnlijgjmaa.Pred (Is is_stab Stab)
set_option linter.unusedVariables false
set_option linter.unusedSimpArgs false
set_option maxRecDepth 100000
attribute [local go_sem ↓] load_rb store_rb alloc_rb load_sup store_sup alloc_sup CrcA.load_tbl CrcA.store_tbl CrcA.alloc_tbl
attribute [local go_sem] CrcA.run_alloc_tbl CrcA.run_load_tbl CrcA.run_store_tbl run_alloc_rb run_load_rb run_store_rb run_alloc_sup run_load_sup run_store_sup rowLoad_eq rowStore_eq blk_alloc_at blk_alloc_old blk_drew blk_drewN blk_set_far blk_set_far' blk_grow setRow_alloc_at setRow_alloc_old setRow_drew setRow_drewN all_map one_int blkV_size blkV_all blkV_all6 zeroB_size zeroB_all6 one_bool

theorem decV_all6 (zs : List Int) : (decV zs).all (fun a => a.oneCell') 0 6 = true := blkV_all _ _ _ _ _ _
theorem decV_size (zs : List Int) : (decV zs).size = 6 := rfl
attribute [local go_sem] decV_all6 decV_size
set_option maxHeartbeats 4000000 in
theorem SuperTells_walk (a0_0 : Int) (a0_1 : Int) (a0_2 : Bool) (a0_3 : Int) (a0_4 : Int) (a0_5 : Int) (a1_0 : Int) (a1_1 : Int) (a1_2 : Bool) (a1_3 : Int) (a1_4 : Int) (a1_5 : Int) (a2 : Option Addr) (len2 cap2 : Nat) (x2 : List (List Value)) (a3 : Bool) (a4 : Bool) (a5 : Bool) (w : World) (w0_0 : (Lit.int .i64 a0_0).wf = true) (w0_1 : (Lit.int .i64 a0_1).wf = true) (w0_3 : (Lit.int .i64 a0_3).wf = true) (w0_4 : (Lit.int .i64 a0_4).wf = true) (w0_5 : (Lit.int .u32 a0_5).wf = true) (w1_0 : (Lit.int .i64 a1_0).wf = true) (w1_1 : (Lit.int .i64 a1_1).wf = true) (w1_3 : (Lit.int .i64 a1_3).wf = true) (w1_4 : (Lit.int .i64 a1_4).wf = true) (w1_5 : (Lit.int .u32 a1_5).wf = true) (w2 : Flat.IsRows [some .u8] w a2 len2 cap2 x2) :
    Calls Try.prog 3 #[.agg #[.int .i64 a0_0, .int .i64 a0_1, .bool a0_2, .int .i64 a0_3, .int .i64 a0_4, .int .u32 a0_5], .agg #[.int .i64 a1_0, .int .i64 a1_1, .bool a1_2, .int .i64 a1_3, .int .i64 a1_4, .int .u32 a1_5], .slice a2 len2 cap2, .bool a3, .bool a4, .bool a5] w fun e w' => e = .returned (.bool true) ∧ Below w.heap.size w w' := by
  obtain ⟨zs, hzl, hz, hR, hlc, hcm, -⟩ := Bytes.rows_bytes w2
  by_cases hbig : 100 < len2
  · have hbig' : (100 : Int) < (len2 : Int) := by omega
    clear hzl w2
    go_enter Try.func3, Try.ntmps3
    go_wp2_with (go_at_call 6; refine (awake_any _).mono ?_; rintro e w3 ⟨rfl, hb⟩)
    go_ret
    exact ⟨rfl, by repeat' (first | (with_reducible exact Below.refl _ _) | (with_reducible refine Rd.below_step ?_ (by assumption)) | (with_reducible refine Rd.below_alloc ?_ _) | (with_reducible refine Rd.below_drewN ?_ _) | (with_reducible refine Below.drew ?_) | (with_reducible refine Below.setCell ?_ ?_ _) | (with_reducible refine Rd.below_setRow ?_ ?_ _) | go_size | (simp only [World.size_alloc]; omega) | omega)⟩
  · cases a5
    · exact SupG.tells_b a0_0 a0_1 a0_2 a0_3 a0_4 a0_5 a1_0 a1_1 a1_2 a1_3 a1_4 a1_5 a2 len2 cap2 a3 a4 zs w w0_0 w0_1 w0_3 w0_4 w0_5 w1_0 w1_1 w1_3 w1_4 w1_5 hzl hz hR hlc hcm (by omega)
    · by_cases h32 : len2 = 32
      · subst h32
        exact SupI.tells_a a0_0 a0_1 a0_2 a0_3 a0_4 a0_5 a1_0 a1_1 a1_2 a1_3 a1_4 a1_5 a2 cap2 a3 a4 zs w w0_0 w0_1 w0_3 w0_4 w0_5 w1_0 w1_1 w1_3 w1_4 w1_5 hzl hz hR hlc hcm (by omega)
      · exact SupH.tells_c a0_0 a0_1 a0_2 a0_3 a0_4 a0_5 a1_0 a1_1 a1_2 a1_3 a1_4 a1_5 a2 len2 cap2 a3 a4 zs w w0_0 w0_1 w0_3 w0_4 w0_5 w1_0 w1_1 w1_3 w1_4 w1_5 hzl hz hR hlc hcm (by omega) h32
end Go.Proofs.Ytbicgcnlijgjmaa.SupJ

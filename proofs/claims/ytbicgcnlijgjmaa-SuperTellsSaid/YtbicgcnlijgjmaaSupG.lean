/-
  The law of package super: of any block the bytes, of any bytes the block, the newer one of two.
-/
import Derived.Test.YtbicgcnlijgjmaaRefC
import Derived.Test.YtbicgcnlijgjmaaFlat
import Derived.Test.YtbicgcnlijgjmaaBytes
namespace Go.Proofs.Ytbicgcnlijgjmaa.SupG
open Go.RowKit Rd Go.Proofs.Ytbicgcnlijgjmaa.Row OctA OctB SupA SupB SupC SupD RefB RefC
open CrcA (tblL tblL_len tblL_at tblF byteN)
open CrcB (onV onF onF_lt)
open Go.Proofs.Ytbicgcnlijgjmaa.Pred (Is is_stab Stab)
set_option linter.unusedVariables false
set_option linter.unusedSimpArgs false
set_option maxRecDepth 100000
attribute [local go_sem ↓] load_rb store_rb alloc_rb load_sup store_sup alloc_sup CrcA.load_tbl CrcA.store_tbl CrcA.alloc_tbl
attribute [local go_sem] CrcA.run_alloc_tbl CrcA.run_load_tbl CrcA.run_store_tbl run_alloc_rb run_load_rb run_store_rb run_alloc_sup run_load_sup run_store_sup rowLoad_eq rowStore_eq blk_alloc_at blk_alloc_old blk_drew blk_drewN blk_set_far blk_set_far' blk_grow setRow_alloc_at setRow_alloc_old setRow_drew setRow_drewN all_map one_int blkV_size blkV_all blkV_all6 zeroB_size zeroB_all6 one_bool

theorem decV_all6 (zs : List Int) : (decV zs).all (fun a => a.oneCell') 0 6 = true := blkV_all _ _ _ _ _ _
theorem decV_size (zs : List Int) : (decV zs).size = 6 := rfl
attribute [local go_sem] decV_all6 decV_size
set_option maxHeartbeats 8000000 in
theorem tells_b (a0_0 : Int) (a0_1 : Int) (a0_2 : Bool) (a0_3 : Int) (a0_4 : Int) (a0_5 : Int) (a1_0 : Int) (a1_1 : Int) (a1_2 : Bool) (a1_3 : Int) (a1_4 : Int) (a1_5 : Int) (a2 : Option Addr) (len2 cap2 : Nat)  (a3 : Bool) (a4 : Bool) (zs : List Int) (w : World) (w0_0 : (Lit.int .i64 a0_0).wf = true) (w0_1 : (Lit.int .i64 a0_1).wf = true) (w0_3 : (Lit.int .i64 a0_3).wf = true) (w0_4 : (Lit.int .i64 a0_4).wf = true) (w0_5 : (Lit.int .u32 a0_5).wf = true) (w1_0 : (Lit.int .i64 a1_0).wf = true) (w1_1 : (Lit.int .i64 a1_1).wf = true) (w1_3 : (Lit.int .i64 a1_3).wf = true) (w1_4 : (Lit.int .i64 a1_4).wf = true) (w1_5 : (Lit.int .u32 a1_5).wf = true) (hzl : zs.length = len2) (hz : B8s zs) (hR : Reads w 1 a2 len2 (u8s zs)) (hlc : len2 ≤ cap2) (hcm : cap2 ≤ maxLen) (hlen : len2 ≤ 100) :
    Calls Try.prog 3 #[.agg (blkV a0_0 a0_1 a0_2 a0_3 a0_4 a0_5), .agg (blkV a1_0 a1_1 a1_2 a1_3 a1_4 a1_5), .slice a2 len2 cap2, .bool a3, .bool a4, .bool false] w fun e w' => e = .returned (.bool true) ∧ Below w.heap.size w w' := by
  have hm := bounds_u32 w0_5
  have bg := bounds_i64 w0_0
  have bd := bounds_i64 w0_1
  have bs := bounds_i64 w0_3
  have bl := bounds_i64 w0_4
  clear w0_0 w0_1 w0_3 w0_4 w0_5 w1_0 w1_1 w1_3 w1_4 w1_5
  have hsm : ¬ (100 : Int) < (len2 : Int) := by omega
  go_enter Try.func3, Try.ntmps3
  go_wp2_with fail
  refine (CrcA.make_any _).mono ?_
  rintro e w1 ⟨rfl, hb1⟩
  have s1 := hb1.size
  simp only [World.size_alloc] at s1
  have x1 := (blk_below hb1 w.heap.size (by simp <;> omega)).trans (blk2_0 w _ _)
  have y1 := (blk_below hb1 (w.heap.size + 1) (by simp)).trans (blk2_1 w _ _)
  have hR1 := hR.below (B := w.heap.size) (w' := w1) (by repeat' (first | (with_reducible exact Below.refl _ _) | (with_reducible refine Rd.below_step ?_ (by assumption)) | (with_reducible refine Rd.below_alloc ?_ _) | (with_reducible refine Rd.below_drewN ?_ _) | (with_reducible refine Below.drew ?_) | (with_reducible refine Below.setCell ?_ ?_ _) | (with_reducible refine Rd.below_setRow ?_ ?_ _) | go_size | (simp only [World.size_alloc]; omega) | omega)) (Nat.le_refl _)
  have L1 : Below w.heap.size w w1 := by repeat' (first | (with_reducible exact Below.refl _ _) | (with_reducible refine Rd.below_step ?_ (by assumption)) | (with_reducible refine Rd.below_alloc ?_ _) | (with_reducible refine Rd.below_drewN ?_ _) | (with_reducible refine Below.drew ?_) | (with_reducible refine Below.setCell ?_ ?_ _) | (with_reducible refine Rd.below_setRow ?_ ?_ _) | go_size | (simp only [World.size_alloc]; omega) | omega)
  clear hb1 hR
  go_upto_region 8 with (fail)
  refine Rd.name_world ?_
  intro W hW
  have x2 : blk W w.heap.size = some (.cells (blkV a0_0 a0_1 a0_2 a0_3 a0_4 a0_5) 24 (0, 0)) := by rw [hW, blk_alloc_old _ _ _ (blk_lt x1)]; exact x1
  have y2 : blk W (w.heap.size + 1) = some (.cells (blkV a1_0 a1_1 a1_2 a1_3 a1_4 a1_5) 24 (0, 0)) := by rw [hW, blk_alloc_old _ _ _ (blk_lt y1)]; exact y1
  have t2 : blk W w1.heap.size = some (.cells (cs .u32 tblL) 28 (0, 0)) := by rw [hW]; exact blk_alloc_at _ _ _ rfl
  have hR2 := hR1.below (B := w1.heap.size) (w' := W) (by rw [hW]; exact (Below.refl _ _).alloc (Nat.le_refl _) _) (Nat.le_refl _)
  have L2 : Below w.heap.size w W := by rw [hW]; repeat' (first | (with_reducible exact Below.refl _ _) | (with_reducible refine Rd.below_step ?_ (by assumption)) | (with_reducible refine Rd.below_alloc ?_ _) | (with_reducible refine Rd.below_drewN ?_ _) | (with_reducible refine Below.drew ?_) | (with_reducible refine Below.setCell ?_ ?_ _) | (with_reducible refine Rd.below_setRow ?_ ?_ _) | go_size | (simp only [World.size_alloc]; omega) | omega)
  clear hW x1 y1 hR1 L1
  cases hM : mayB a0_0 a0_1 a0_3 a0_4
  · cases hD : decOK (zs)
    · have l1 := blk_lt x2
      have l2 := blk_lt y2
      have l3 := blk_lt t2
      go_wp2_with fail
      refine (encode_no _ _ _ _ _ _ _ hM).mono ?_
      rintro e w3 ⟨rfl, hb3⟩
      have RA : Reads w3 1 none 0 (u8s []) := ⟨rfl, .inl rfl⟩
      have x3 := (blk_below hb3 _ l1).trans x2
      have y3 := (blk_below hb3 _ l2).trans y2
      have t3 := (blk_below hb3 _ l3).trans t2
      have hR3 := hR2.below hb3 (Nat.le_refl _)
      have s3 := hb3.size
      have L3 : Below w.heap.size w w3 := by repeat' (first | (with_reducible exact Below.refl _ _) | (with_reducible refine Rd.below_step ?_ (by assumption)) | (with_reducible refine Rd.below_alloc ?_ _) | (with_reducible refine Rd.below_drewN ?_ _) | (with_reducible refine Below.drew ?_) | (with_reducible refine Below.setCell ?_ ?_ _) | (with_reducible refine Rd.below_setRow ?_ ?_ _) | go_size | (simp only [World.size_alloc]; omega) | omega)
      clear x2 y2 t2 hR2 hb3 L2 l1 l2 l3
      have l1 := blk_lt x3
      have l2 := blk_lt y3
      have l3 := blk_lt t3
      go_wp2_with fail
      refine (flat_any _ _ _ _ _ _ _).mono ?_
      rintro e w4 ⟨rfl, hb4⟩
      have x4 := (blk_below hb4 _ l1).trans x3
      have y4 := (blk_below hb4 _ l2).trans y3
      have t4 := (blk_below hb4 _ l3).trans t3
      have hR4 := hR3.below hb4 (Nat.le_refl _)
      have RA4 := RA.below hb4 (Nat.le_refl _)
      have s4 := hb4.size
      have L4 : Below w.heap.size w w4 := by repeat' (first | (with_reducible exact Below.refl _ _) | (with_reducible refine Rd.below_step ?_ (by assumption)) | (with_reducible refine Rd.below_alloc ?_ _) | (with_reducible refine Rd.below_drewN ?_ _) | (with_reducible refine Below.drew ?_) | (with_reducible refine Below.setCell ?_ ?_ _) | (with_reducible refine Rd.below_setRow ?_ ?_ _) | go_size | (simp only [World.size_alloc]; omega) | omega)
      clear x3 y3 t3 hR3 RA hb4 L3 l1 l2 l3
      have l1 := blk_lt x4
      have l2 := blk_lt y4
      have l3 := blk_lt t4
      go_wp2_with fail
      refine (head_no _ _ _ _ _ _ _ hM).mono ?_
      rintro e w5 ⟨rfl, hb5⟩
      have RC : Reads w5 1 none 0 (u8s []) := ⟨rfl, .inl rfl⟩
      have x5 := (blk_below hb5 _ l1).trans x4
      have y5 := (blk_below hb5 _ l2).trans y4
      have t5 := (blk_below hb5 _ l3).trans t4
      have hR5 := hR4.below hb5 (Nat.le_refl _)
      have RA5 := RA4.below hb5 (Nat.le_refl _)
      have s5 := hb5.size
      have L5 : Below w.heap.size w w5 := by repeat' (first | (with_reducible exact Below.refl _ _) | (with_reducible refine Rd.below_step ?_ (by assumption)) | (with_reducible refine Rd.below_alloc ?_ _) | (with_reducible refine Rd.below_drewN ?_ _) | (with_reducible refine Below.drew ?_) | (with_reducible refine Below.setCell ?_ ?_ _) | (with_reducible refine Rd.below_setRow ?_ ?_ _) | go_size | (simp only [World.size_alloc]; omega) | omega)
      clear x4 y4 t4 hR4 RA4 hb5 L4 l1 l2 l3
      have l1 := blk_lt x5
      have l2 := blk_lt y5
      have l3 := blk_lt t5
      go_wp2_with fail
      refine (decode_all a2 len2 cap2 zs _ hR5 hz (by omega) (by omega) (by omega)).mono ?_
      rintro e w6 ⟨rfl, hb6⟩
      rw [decRes_no hD]
      have x6 := (blk_below hb6 _ l1).trans x5
      have y6 := (blk_below hb6 _ l2).trans y5
      have hR6 := hR5.below hb6 (Nat.le_refl _)
      have RA6 := RA5.below hb6 (Nat.le_refl _)
      have RC6 := RC.below hb6 (Nat.le_refl _)
      have s6 := hb6.size
      have L6 : Below w.heap.size w w6 := by repeat' (first | (with_reducible exact Below.refl _ _) | (with_reducible refine Rd.below_step ?_ (by assumption)) | (with_reducible refine Rd.below_alloc ?_ _) | (with_reducible refine Rd.below_drewN ?_ _) | (with_reducible refine Below.drew ?_) | (with_reducible refine Below.setCell ?_ ?_ _) | (with_reducible refine Rd.below_setRow ?_ ?_ _) | go_size | (simp only [World.size_alloc]; omega) | omega)
      clear x5 y5 t5 hR5 RA5 RC hb6 L5 l1 l2 l3
      have l1 := blk_lt x6
      have l2 := blk_lt y6
      go_upto_region 11 with (fail)
      refine Rd.name_world ?_
      intro V hV
      have x7 : blk V w.heap.size = some (.cells (blkV a0_0 a0_1 a0_2 a0_3 a0_4 a0_5) 24 (0, 0)) := by rw [hV, blk_alloc_old _ _ _ l1]; exact x6
      have y7 : blk V (w.heap.size + 1) = some (.cells (blkV a1_0 a1_1 a1_2 a1_3 a1_4 a1_5) 24 (0, 0)) := by rw [hV, blk_alloc_old _ _ _ l2]; exact y6
      have d7 : blk V w6.heap.size = some (.cells zeroB 24 (0, 0)) := by rw [hV]; exact blk_alloc_at _ _ _ rfl
      have BV : Below w6.heap.size w6 V := by rw [hV]; exact (Below.refl _ _).alloc (Nat.le_refl _) _
      have hR7 := hR6.below BV (Nat.le_refl _)
      have RA7 := RA6.below BV (Nat.le_refl _)
      have RC7 := RC6.below BV (Nat.le_refl _)
      have s7 := BV.size
      have L7 : Below w.heap.size w V := L6.trans (BV.mono L6.size)
      clear hV x6 y6 hR6 RA6 RC6 BV L6 l1 l2
      have l1 := blk_lt x7
      have l2 := blk_lt y7
      have l4 := blk_lt d7
      go_wp2_with fail
      refine (readHead_all a2 len2 cap2 zs _ hR7 hz (by omega) (by omega) (by omega)).mono ?_
      rintro e w8 ⟨rfl, hb8⟩
      rw [rdRes_no hD]
      have x8 := (blk_below hb8 _ l1).trans x7
      have y8 := (blk_below hb8 _ l2).trans y7
      have d8 := (blk_below hb8 _ l4).trans d7
      have RA8 := RA7.below hb8 (Nat.le_refl _)
      have RC8 := RC7.below hb8 (Nat.le_refl _)
      have s8 := hb8.size
      have L8 : Below w.heap.size w w8 := by repeat' (first | (with_reducible exact Below.refl _ _) | (with_reducible refine Rd.below_step ?_ (by assumption)) | (with_reducible refine Rd.below_alloc ?_ _) | (with_reducible refine Rd.below_drewN ?_ _) | (with_reducible refine Below.drew ?_) | (with_reducible refine Below.setCell ?_ ?_ _) | (with_reducible refine Rd.below_setRow ?_ ?_ _) | go_size | (simp only [World.size_alloc]; omega) | omega)
      clear x7 y7 d7 hR7 RA7 RC7 hb8 L7 l1 l2 l4
      have l1 := blk_lt x8
      have l2 := blk_lt y8
      have l4 := blk_lt d8
      go_upto_region 12 with (fail)
      refine Rd.name_world ?_
      intro W' hV
      have x9 : blk W' w.heap.size = some (.cells (blkV a0_0 a0_1 a0_2 a0_3 a0_4 a0_5) 24 (0, 0)) := by rw [hV, blk_alloc_old _ _ _ l1]; exact x8
      have y9 : blk W' (w.heap.size + 1) = some (.cells (blkV a1_0 a1_1 a1_2 a1_3 a1_4 a1_5) 24 (0, 0)) := by rw [hV, blk_alloc_old _ _ _ l2]; exact y8
      have d9 : blk W' w6.heap.size = some (.cells zeroB 24 (0, 0)) := by rw [hV, blk_alloc_old _ _ _ l4]; exact d8
      have f9 : blk W' w8.heap.size = some (.cells zeroB 37 (0, 0)) := by rw [hV]; exact blk_alloc_at _ _ _ rfl
      have BV : Below w8.heap.size w8 W' := by rw [hV]; exact (Below.refl _ _).alloc (Nat.le_refl _) _
      have RA9 := RA8.below BV (Nat.le_refl _)
      have RC9 := RC8.below BV (Nat.le_refl _)
      have L9 : Below w.heap.size w W' := L8.trans (BV.mono L8.size)
      clear hV x8 y8 d8 RA8 RC8 BV L8 l1 l2 l4
      have l1 := blk_lt x9
      have l2 := blk_lt y9
      have l4 := blk_lt d9
      have l5 := blk_lt f9
      refine Pred.region_vals (Pred.Of [
          Is (.slice (none) 0 0),
          Is (.string (bytesOf ([]))),
          Is (.slice (none) 0 0),
          Is (.string (bytesOf ([]))),
          Is (.bool true),
          Is (.bool true),
          Is (.int .i64 1),
          Is (.bool false),
          Is (.bool false),
          Is (.bool true),
          Is (.bool true),
          Is (.bool true),
          Is (.bool false),
          Is (.bool false),
          Is (.int .i64 1),
          Is (.bool true),
          Is (.bool true),
          Is (.bool true),
          Is (.bool true),
          Is (.agg (zeroB)),
          Is (.agg (zeroB)),
          Is (.bool true),
          Is (.bool true),
          Is (.bool true),
          Is (.int .i64 3),
          Is (.bool false),
          Is (.bool false),
          Is (.bool true),
          Is (.bool true),
          Is (.bool true),
          Is (.bool false),
          Is (.bool false),
          Is (.int .i64 3),
          Is (.bool true),
          Is (.bool true),
          Is (.bool true),
          Is (.bool true),
          Is (.agg (blkV a0_0 a0_1 a0_2 a0_3 a0_4 a0_5)),
          Is (.agg (blkV a1_0 a1_1 a1_2 a1_3 a1_4 a1_5)),
          Is (.bool a3),
          Is (.bool a4),
          Is (.int .i64 (newV a0_0 a1_0 a3 a4)),
          Is (.agg (blkV a0_0 a0_1 a0_2 a0_3 a0_4 a0_5)),
          Is (.agg (blkV a0_0 a0_1 a0_2 a0_3 a0_4 a0_5)),
          Is (.agg (blkV a1_0 a1_1 a1_2 a1_3 a1_4 a1_5)),
          Is (.agg (blkV a1_0 a1_1 a1_2 a1_3 a1_4 a1_5)),
          Is (.bool a3),
          Is (.bool a4),
          Is (.int .i64 (newV a0_0 a1_0 a3 a4)),
          Is (.bool true),
          Is (.bool true),
          Is (.bool true),
          Is (.bool true),
          Is (.bool true),
          Is (.bool true)]) (by kernel_rfl) (by kernel_rfl) (by kernel_rfl) (Pred.of_stab ?_) ?_ ?_
      · exact ⟨is_stab _, is_stab _, is_stab _, is_stab _, is_stab _, is_stab _, is_stab _, is_stab _, is_stab _, is_stab _, is_stab _, is_stab _, is_stab _, is_stab _, is_stab _, is_stab _, is_stab _, is_stab _, is_stab _, is_stab _, is_stab _, is_stab _, is_stab _, is_stab _, is_stab _, is_stab _, is_stab _, is_stab _, is_stab _, is_stab _, is_stab _, is_stab _, is_stab _, is_stab _, is_stab _, is_stab _, is_stab _, is_stab _, is_stab _, is_stab _, is_stab _, is_stab _, is_stab _, is_stab _, is_stab _, is_stab _, is_stab _, is_stab _, is_stab _, is_stab _, is_stab _, is_stab _, is_stab _, is_stab _, is_stab _, trivial⟩
      · refine ⟨?_, ?_, ?_, ?_, ?_, ?_, ?_, ?_, ?_, ?_, ?_, ?_, ?_, ?_, ?_, ?_, ?_, ?_, ?_, ?_, ?_, ?_, ?_, ?_, ?_, ?_, ?_, ?_, ?_, ?_, ?_, ?_, ?_, ?_, ?_, ?_, ?_, ?_, ?_, ?_, ?_, ?_, ?_, ?_, ?_, ?_, ?_, ?_, ?_, ?_, ?_, ?_, ?_, ?_, ?_, trivial⟩
        · intro b X hE hd hn hV
          have r16 : b.tmps[16]?.getD undef = .slice (none) 0 0 := (hn 16 (by kernel_rfl)).trans rfl
          exact Pred.yields_run (v := .slice (none) 0 0) (Pred.wanted_none rfl) (by go_simp) ⟨Pred.ext_refl _ _, rfl⟩
        · intro b X hE hd hn hV
          have r78 : b.tmps[78]?.getD undef = .slice (none) 0 0 := hV 0 _ 78 rfl rfl (Pred.waits_near (by kernel_rfl) (by kernel_rfl))
          have v1 := conv_reads (P := Try.prog) (cap := 0) Try.underlying25 Try.underlying5 Try.underlying9 (RA9.below hE (Nat.le_refl _)) (fun z hz => by cases hz)
          exact Pred.yields_run (v := .string (bytesOf ([]))) (Pred.wanted_none rfl) (by go_simp) ⟨Pred.ext_refl _ _, rfl⟩
        · intro b X hE hd hn hV
          have r18 : b.tmps[18]?.getD undef = .slice (none) 0 0 := (hn 18 (by kernel_rfl)).trans rfl
          exact Pred.yields_run (v := .slice (none) 0 0) (Pred.wanted_none rfl) (by go_simp) ⟨Pred.ext_refl _ _, rfl⟩
        · intro b X hE hd hn hV
          have r80 : b.tmps[80]?.getD undef = .slice (none) 0 0 := hV 2 _ 80 rfl rfl (Pred.waits_near (by kernel_rfl) (by kernel_rfl))
          have v1 := conv_reads (P := Try.prog) (cap := 0) Try.underlying25 Try.underlying5 Try.underlying9 (RC9.below hE (Nat.le_refl _)) (fun z hz => by cases hz)
          exact Pred.yields_run (v := .string (bytesOf ([]))) (Pred.wanted_none rfl) (by go_simp) ⟨Pred.ext_refl _ _, rfl⟩
        · intro b X hE hd hn hV
          have r79 : b.tmps[79]?.getD undef = .string (bytesOf ([])) := hV 1 _ 79 rfl rfl (Pred.waits_near (by kernel_rfl) (by kernel_rfl))
          have r81 : b.tmps[81]?.getD undef = .string (bytesOf ([])) := hV 3 _ 81 rfl rfl (Pred.waits_near (by kernel_rfl) (by kernel_rfl))
          exact Pred.yields_run (v := .bool true) (Pred.wanted_none rfl) (by go_simp) ⟨Pred.ext_refl _ _, rfl⟩
        · intro b X hE hd hn hV
          have r82 : b.tmps[82]?.getD undef = .bool true := hV 4 _ 82 rfl rfl (Pred.waits_near (by kernel_rfl) (by kernel_rfl))
          exact Pred.yields_run (v := .bool true) (Pred.wanted_none rfl) (by go_simp) ⟨Pred.ext_refl _ _, rfl⟩
        · intro b X hE hd hn hV
          have r17 : b.tmps[17]?.getD undef = .int .i64 1 := (hn 17 (by kernel_rfl)).trans rfl
          have r83 : b.tmps[83]?.getD undef = .bool true := hV 5 _ 83 rfl rfl (Pred.waits_near (by kernel_rfl) (by kernel_rfl))
          exact Pred.yields_run (v := .int .i64 1) ((Pred.wanted_at (g := 5) (d := 83) (f := true) rfl rfl r83).trans rfl) (by go_simp) ⟨Pred.ext_refl _ _, rfl⟩
        · intro b X hE hd hn hV
          have r84 : b.tmps[84]?.getD undef = .int .i64 1 := hV 6 _ 84 rfl rfl (Pred.waits_near (by kernel_rfl) (by kernel_rfl))
          have r83 : b.tmps[83]?.getD undef = .bool true := hV 5 _ 83 rfl rfl (Pred.waits_near (by kernel_rfl) (by kernel_rfl))
          exact Pred.yields_run (v := .bool false) ((Pred.wanted_at (g := 5) (d := 83) (f := true) rfl rfl r83).trans rfl) (by go_simp) ⟨Pred.ext_refl _ _, rfl⟩
        · intro b X hE hd hn hV
          have r19 : b.tmps[19]?.getD undef = .bool false := (hn 19 (by kernel_rfl)).trans rfl
          have r83 : b.tmps[83]?.getD undef = .bool true := hV 5 _ 83 rfl rfl (Pred.waits_near (by kernel_rfl) (by kernel_rfl))
          exact Pred.yields_run (v := .bool false) ((Pred.wanted_at (g := 5) (d := 83) (f := true) rfl rfl r83).trans rfl) (by go_simp) ⟨Pred.ext_refl _ _, rfl⟩
        · intro b X hE hd hn hV
          have r85 : b.tmps[85]?.getD undef = .bool false := hV 7 _ 85 rfl rfl (Pred.waits_near (by kernel_rfl) (by kernel_rfl))
          have r86 : b.tmps[86]?.getD undef = .bool false := hV 8 _ 86 rfl rfl (Pred.waits_near (by kernel_rfl) (by kernel_rfl))
          have r83 : b.tmps[83]?.getD undef = .bool true := hV 5 _ 83 rfl rfl (Pred.waits_near (by kernel_rfl) (by kernel_rfl))
          exact Pred.yields_run (v := .bool true) ((Pred.wanted_at (g := 5) (d := 83) (f := true) rfl rfl r83).trans rfl) (by go_simp) ⟨Pred.ext_refl _ _, rfl⟩
        · intro b X hE hd hn hV
          have r83 : b.tmps[83]?.getD undef = .bool true := hV 5 _ 83 rfl rfl (Pred.waits_near (by kernel_rfl) (by kernel_rfl))
          have r87 : b.tmps[87]?.getD undef = .bool true := hV 9 _ 87 rfl rfl (Pred.waits_near (by kernel_rfl) (by kernel_rfl))
          exact Pred.yields_run (v := .bool true) (Pred.wanted_none rfl) (by go_simp) ⟨Pred.ext_refl _ _, rfl⟩
        · intro b X hE hd hn hV
          have r88 : b.tmps[88]?.getD undef = .bool true := hV 10 _ 88 rfl rfl (Pred.waits_near (by kernel_rfl) (by kernel_rfl))
          exact Pred.yields_run (v := .bool true) (Pred.wanted_none rfl) (by go_simp) ⟨Pred.ext_refl _ _, rfl⟩
        · intro b X hE hd hn hV
          have r19 : b.tmps[19]?.getD undef = .bool false := (hn 19 (by kernel_rfl)).trans rfl
          have r89 : b.tmps[89]?.getD undef = .bool true := hV 11 _ 89 rfl rfl (Pred.waits_near (by kernel_rfl) (by kernel_rfl))
          exact Pred.yields_run (v := .bool false) ((Pred.wanted_at (g := 11) (d := 89) (f := true) rfl rfl r89).trans rfl) (by go_simp) ⟨Pred.ext_refl _ _, rfl⟩
        · intro b X hE hd hn hV
          have r90 : b.tmps[90]?.getD undef = .bool false := hV 12 _ 90 rfl rfl (Pred.waits_near (by kernel_rfl) (by kernel_rfl))
          have r89 : b.tmps[89]?.getD undef = .bool true := hV 11 _ 89 rfl rfl (Pred.waits_near (by kernel_rfl) (by kernel_rfl))
          exact Pred.yields_run (v := .bool false) ((Pred.wanted_at (g := 11) (d := 89) (f := true) rfl rfl r89).trans rfl) (by go_simp) ⟨Pred.ext_refl _ _, rfl⟩
        · intro b X hE hd hn hV
          have r17 : b.tmps[17]?.getD undef = .int .i64 1 := (hn 17 (by kernel_rfl)).trans rfl
          have r91 : b.tmps[91]?.getD undef = .bool false := hV 13 _ 91 rfl rfl (Pred.waits_near (by kernel_rfl) (by kernel_rfl))
          exact Pred.yields_run (v := .int .i64 1) ((Pred.wanted_at (g := 13) (d := 91) (f := false) rfl rfl r91).trans rfl) (by go_simp) ⟨Pred.ext_refl _ _, rfl⟩
        · intro b X hE hd hn hV
          have r92 : b.tmps[92]?.getD undef = .int .i64 1 := hV 14 _ 92 rfl rfl (Pred.waits_near (by kernel_rfl) (by kernel_rfl))
          have r91 : b.tmps[91]?.getD undef = .bool false := hV 13 _ 91 rfl rfl (Pred.waits_near (by kernel_rfl) (by kernel_rfl))
          exact Pred.yields_run (v := .bool true) ((Pred.wanted_at (g := 13) (d := 91) (f := false) rfl rfl r91).trans rfl) (by go_simp) ⟨Pred.ext_refl _ _, rfl⟩
        · intro b X hE hd hn hV
          have r91 : b.tmps[91]?.getD undef = .bool false := hV 13 _ 91 rfl rfl (Pred.waits_near (by kernel_rfl) (by kernel_rfl))
          have r93 : b.tmps[93]?.getD undef = .bool true := hV 15 _ 93 rfl rfl (Pred.waits_near (by kernel_rfl) (by kernel_rfl))
          have r89 : b.tmps[89]?.getD undef = .bool true := hV 11 _ 89 rfl rfl (Pred.waits_near (by kernel_rfl) (by kernel_rfl))
          exact Pred.yields_run (v := .bool true) ((Pred.wanted_at (g := 11) (d := 89) (f := true) rfl rfl r89).trans rfl) (by go_simp) ⟨Pred.ext_refl _ _, rfl⟩
        · intro b X hE hd hn hV
          have r89 : b.tmps[89]?.getD undef = .bool true := hV 11 _ 89 rfl rfl (Pred.waits_near (by kernel_rfl) (by kernel_rfl))
          have r94 : b.tmps[94]?.getD undef = .bool true := hV 16 _ 94 rfl rfl (Pred.waits_near (by kernel_rfl) (by kernel_rfl))
          exact Pred.yields_run (v := .bool true) (Pred.wanted_none rfl) (by go_simp) ⟨Pred.ext_refl _ _, rfl⟩
        · intro b X hE hd hn hV
          have r95 : b.tmps[95]?.getD undef = .bool true := hV 17 _ 95 rfl rfl (Pred.waits_near (by kernel_rfl) (by kernel_rfl))
          exact Pred.yields_run (v := .bool true) (Pred.wanted_none rfl) (by go_simp) ⟨Pred.ext_refl _ _, rfl⟩
        · intro b X hE hd hn hV
          have r20 : b.tmps[20]?.getD undef = .pointer (some ⟨w6.heap.size, 0, none⟩) := (hn 20 (by kernel_rfl)).trans rfl
          have r96 : b.tmps[96]?.getD undef = .bool true := hV 18 _ 96 rfl rfl (Pred.waits_near (by kernel_rfl) (by kernel_rfl))
          have q := (blk_below hE _ l4).trans d9
          exact Pred.yields_run (v := .agg (zeroB)) ((Pred.wanted_at (g := 18) (d := 96) (f := true) rfl rfl r96).trans rfl) (by go_simp) ⟨Pred.ext_refl _ _, rfl⟩
        · intro b X hE hd hn hV
          have r22 : b.tmps[22]?.getD undef = .pointer (some ⟨w8.heap.size, 0, none⟩) := (hn 22 (by kernel_rfl)).trans rfl
          have r96 : b.tmps[96]?.getD undef = .bool true := hV 18 _ 96 rfl rfl (Pred.waits_near (by kernel_rfl) (by kernel_rfl))
          have q := (blk_below hE _ l5).trans f9
          exact Pred.yields_run (v := .agg (zeroB)) ((Pred.wanted_at (g := 18) (d := 96) (f := true) rfl rfl r96).trans rfl) (by go_simp) ⟨Pred.ext_refl _ _, rfl⟩
        · intro b X hE hd hn hV
          have r97 : b.tmps[97]?.getD undef = .agg (zeroB) := hV 19 _ 97 rfl rfl (Pred.waits_near (by kernel_rfl) (by kernel_rfl))
          have r98 : b.tmps[98]?.getD undef = .agg (zeroB) := hV 20 _ 98 rfl rfl (Pred.waits_near (by kernel_rfl) (by kernel_rfl))
          have r96 : b.tmps[96]?.getD undef = .bool true := hV 18 _ 96 rfl rfl (Pred.waits_near (by kernel_rfl) (by kernel_rfl))
          refine Pred.yields_call (f := 14) (args := #[.agg (zeroB), .agg (zeroB)]) ((Pred.wanted_at (g := 18) (d := 96) (f := true) rfl rfl r96).trans rfl) (by go_simp) ?_
          exact (same_any 0 0 false 0 0 0 _).mono fun e w2 ⟨he, hb⟩ => ⟨_, he, Pred.ext_below hb hE.size, rfl⟩
        · intro b X hE hd hn hV
          have r96 : b.tmps[96]?.getD undef = .bool true := hV 18 _ 96 rfl rfl (Pred.waits_near (by kernel_rfl) (by kernel_rfl))
          have r99 : b.tmps[99]?.getD undef = .bool true := hV 21 _ 99 rfl rfl (Pred.waits_near (by kernel_rfl) (by kernel_rfl))
          exact Pred.yields_run (v := .bool true) (Pred.wanted_none rfl) (by go_simp) ⟨Pred.ext_refl _ _, rfl⟩
        · intro b X hE hd hn hV
          have r100 : b.tmps[100]?.getD undef = .bool true := hV 22 _ 100 rfl rfl (Pred.waits_near (by kernel_rfl) (by kernel_rfl))
          exact Pred.yields_run (v := .bool true) (Pred.wanted_none rfl) (by go_simp) ⟨Pred.ext_refl _ _, rfl⟩
        · intro b X hE hd hn hV
          have r21 : b.tmps[21]?.getD undef = .int .i64 3 := (hn 21 (by kernel_rfl)).trans rfl
          have r101 : b.tmps[101]?.getD undef = .bool true := hV 23 _ 101 rfl rfl (Pred.waits_near (by kernel_rfl) (by kernel_rfl))
          exact Pred.yields_run (v := .int .i64 3) ((Pred.wanted_at (g := 23) (d := 101) (f := true) rfl rfl r101).trans rfl) (by go_simp) ⟨Pred.ext_refl _ _, rfl⟩
        · intro b X hE hd hn hV
          have r102 : b.tmps[102]?.getD undef = .int .i64 3 := hV 24 _ 102 rfl rfl (Pred.waits_near (by kernel_rfl) (by kernel_rfl))
          have r101 : b.tmps[101]?.getD undef = .bool true := hV 23 _ 101 rfl rfl (Pred.waits_near (by kernel_rfl) (by kernel_rfl))
          exact Pred.yields_run (v := .bool false) ((Pred.wanted_at (g := 23) (d := 101) (f := true) rfl rfl r101).trans rfl) (by go_simp) ⟨Pred.ext_refl _ _, rfl⟩
        · intro b X hE hd hn hV
          have r23 : b.tmps[23]?.getD undef = .bool false := (hn 23 (by kernel_rfl)).trans rfl
          have r101 : b.tmps[101]?.getD undef = .bool true := hV 23 _ 101 rfl rfl (Pred.waits_near (by kernel_rfl) (by kernel_rfl))
          exact Pred.yields_run (v := .bool false) ((Pred.wanted_at (g := 23) (d := 101) (f := true) rfl rfl r101).trans rfl) (by go_simp) ⟨Pred.ext_refl _ _, rfl⟩
        · intro b X hE hd hn hV
          have r103 : b.tmps[103]?.getD undef = .bool false := hV 25 _ 103 rfl rfl (Pred.waits_near (by kernel_rfl) (by kernel_rfl))
          have r104 : b.tmps[104]?.getD undef = .bool false := hV 26 _ 104 rfl rfl (Pred.waits_near (by kernel_rfl) (by kernel_rfl))
          have r101 : b.tmps[101]?.getD undef = .bool true := hV 23 _ 101 rfl rfl (Pred.waits_near (by kernel_rfl) (by kernel_rfl))
          exact Pred.yields_run (v := .bool true) ((Pred.wanted_at (g := 23) (d := 101) (f := true) rfl rfl r101).trans rfl) (by go_simp) ⟨Pred.ext_refl _ _, rfl⟩
        · intro b X hE hd hn hV
          have r101 : b.tmps[101]?.getD undef = .bool true := hV 23 _ 101 rfl rfl (Pred.waits_near (by kernel_rfl) (by kernel_rfl))
          have r105 : b.tmps[105]?.getD undef = .bool true := hV 27 _ 105 rfl rfl (Pred.waits_near (by kernel_rfl) (by kernel_rfl))
          exact Pred.yields_run (v := .bool true) (Pred.wanted_none rfl) (by go_simp) ⟨Pred.ext_refl _ _, rfl⟩
        · intro b X hE hd hn hV
          have r106 : b.tmps[106]?.getD undef = .bool true := hV 28 _ 106 rfl rfl (Pred.waits_near (by kernel_rfl) (by kernel_rfl))
          exact Pred.yields_run (v := .bool true) (Pred.wanted_none rfl) (by go_simp) ⟨Pred.ext_refl _ _, rfl⟩
        · intro b X hE hd hn hV
          have r23 : b.tmps[23]?.getD undef = .bool false := (hn 23 (by kernel_rfl)).trans rfl
          have r107 : b.tmps[107]?.getD undef = .bool true := hV 29 _ 107 rfl rfl (Pred.waits_near (by kernel_rfl) (by kernel_rfl))
          exact Pred.yields_run (v := .bool false) ((Pred.wanted_at (g := 29) (d := 107) (f := true) rfl rfl r107).trans rfl) (by go_simp) ⟨Pred.ext_refl _ _, rfl⟩
        · intro b X hE hd hn hV
          have r108 : b.tmps[108]?.getD undef = .bool false := hV 30 _ 108 rfl rfl (Pred.waits_near (by kernel_rfl) (by kernel_rfl))
          have r107 : b.tmps[107]?.getD undef = .bool true := hV 29 _ 107 rfl rfl (Pred.waits_near (by kernel_rfl) (by kernel_rfl))
          exact Pred.yields_run (v := .bool false) ((Pred.wanted_at (g := 29) (d := 107) (f := true) rfl rfl r107).trans rfl) (by go_simp) ⟨Pred.ext_refl _ _, rfl⟩
        · intro b X hE hd hn hV
          have r21 : b.tmps[21]?.getD undef = .int .i64 3 := (hn 21 (by kernel_rfl)).trans rfl
          have r109 : b.tmps[109]?.getD undef = .bool false := hV 31 _ 109 rfl rfl (Pred.waits_near (by kernel_rfl) (by kernel_rfl))
          exact Pred.yields_run (v := .int .i64 3) ((Pred.wanted_at (g := 31) (d := 109) (f := false) rfl rfl r109).trans rfl) (by go_simp) ⟨Pred.ext_refl _ _, rfl⟩
        · intro b X hE hd hn hV
          have r110 : b.tmps[110]?.getD undef = .int .i64 3 := hV 32 _ 110 rfl rfl (Pred.waits_near (by kernel_rfl) (by kernel_rfl))
          have r109 : b.tmps[109]?.getD undef = .bool false := hV 31 _ 109 rfl rfl (Pred.waits_near (by kernel_rfl) (by kernel_rfl))
          exact Pred.yields_run (v := .bool true) ((Pred.wanted_at (g := 31) (d := 109) (f := false) rfl rfl r109).trans rfl) (by go_simp) ⟨Pred.ext_refl _ _, rfl⟩
        · intro b X hE hd hn hV
          have r109 : b.tmps[109]?.getD undef = .bool false := hV 31 _ 109 rfl rfl (Pred.waits_near (by kernel_rfl) (by kernel_rfl))
          have r111 : b.tmps[111]?.getD undef = .bool true := hV 33 _ 111 rfl rfl (Pred.waits_near (by kernel_rfl) (by kernel_rfl))
          have r107 : b.tmps[107]?.getD undef = .bool true := hV 29 _ 107 rfl rfl (Pred.waits_near (by kernel_rfl) (by kernel_rfl))
          exact Pred.yields_run (v := .bool true) ((Pred.wanted_at (g := 29) (d := 107) (f := true) rfl rfl r107).trans rfl) (by go_simp) ⟨Pred.ext_refl _ _, rfl⟩
        · intro b X hE hd hn hV
          have r107 : b.tmps[107]?.getD undef = .bool true := hV 29 _ 107 rfl rfl (Pred.waits_near (by kernel_rfl) (by kernel_rfl))
          have r112 : b.tmps[112]?.getD undef = .bool true := hV 34 _ 112 rfl rfl (Pred.waits_near (by kernel_rfl) (by kernel_rfl))
          exact Pred.yields_run (v := .bool true) (Pred.wanted_none rfl) (by go_simp) ⟨Pred.ext_refl _ _, rfl⟩
        · intro b X hE hd hn hV
          have r113 : b.tmps[113]?.getD undef = .bool true := hV 35 _ 113 rfl rfl (Pred.waits_near (by kernel_rfl) (by kernel_rfl))
          exact Pred.yields_run (v := .bool true) (Pred.wanted_none rfl) (by go_simp) ⟨Pred.ext_refl _ _, rfl⟩
        · intro b X hE hd hn hV
          have r6 : b.tmps[6]?.getD undef = .pointer (some ⟨w.heap.size, 0, none⟩) := (hn 6 (by kernel_rfl)).trans rfl
          have r114 : b.tmps[114]?.getD undef = .bool true := hV 36 _ 114 rfl rfl (Pred.waits_near (by kernel_rfl) (by kernel_rfl))
          have q := (blk_below hE _ l1).trans x9
          exact Pred.yields_run (v := .agg (blkV a0_0 a0_1 a0_2 a0_3 a0_4 a0_5)) ((Pred.wanted_at (g := 36) (d := 114) (f := true) rfl rfl r114).trans rfl) (by go_simp) ⟨Pred.ext_refl _ _, rfl⟩
        · intro b X hE hd hn hV
          have r7 : b.tmps[7]?.getD undef = .pointer (some ⟨w.heap.size + 1, 0, none⟩) := (hn 7 (by kernel_rfl)).trans rfl
          have r114 : b.tmps[114]?.getD undef = .bool true := hV 36 _ 114 rfl rfl (Pred.waits_near (by kernel_rfl) (by kernel_rfl))
          have q := (blk_below hE _ l2).trans y9
          exact Pred.yields_run (v := .agg (blkV a1_0 a1_1 a1_2 a1_3 a1_4 a1_5)) ((Pred.wanted_at (g := 36) (d := 114) (f := true) rfl rfl r114).trans rfl) (by go_simp) ⟨Pred.ext_refl _ _, rfl⟩
        · intro b X hE hd hn hV
          have r3 : b.tmps[3]?.getD undef = .bool a3 := (hn 3 (by kernel_rfl)).trans rfl
          have r114 : b.tmps[114]?.getD undef = .bool true := hV 36 _ 114 rfl rfl (Pred.waits_near (by kernel_rfl) (by kernel_rfl))
          exact Pred.yields_run (v := .bool a3) ((Pred.wanted_at (g := 36) (d := 114) (f := true) rfl rfl r114).trans rfl) (by go_simp) ⟨Pred.ext_refl _ _, rfl⟩
        · intro b X hE hd hn hV
          have r4 : b.tmps[4]?.getD undef = .bool a4 := (hn 4 (by kernel_rfl)).trans rfl
          have r114 : b.tmps[114]?.getD undef = .bool true := hV 36 _ 114 rfl rfl (Pred.waits_near (by kernel_rfl) (by kernel_rfl))
          exact Pred.yields_run (v := .bool a4) ((Pred.wanted_at (g := 36) (d := 114) (f := true) rfl rfl r114).trans rfl) (by go_simp) ⟨Pred.ext_refl _ _, rfl⟩
        · intro b X hE hd hn hV
          have r115 : b.tmps[115]?.getD undef = .agg (blkV a0_0 a0_1 a0_2 a0_3 a0_4 a0_5) := hV 37 _ 115 rfl rfl (Pred.waits_near (by kernel_rfl) (by kernel_rfl))
          have r116 : b.tmps[116]?.getD undef = .agg (blkV a1_0 a1_1 a1_2 a1_3 a1_4 a1_5) := hV 38 _ 116 rfl rfl (Pred.waits_near (by kernel_rfl) (by kernel_rfl))
          have r117 : b.tmps[117]?.getD undef = .bool a3 := hV 39 _ 117 rfl rfl (Pred.waits_near (by kernel_rfl) (by kernel_rfl))
          have r118 : b.tmps[118]?.getD undef = .bool a4 := hV 40 _ 118 rfl rfl (Pred.waits_near (by kernel_rfl) (by kernel_rfl))
          have r114 : b.tmps[114]?.getD undef = .bool true := hV 36 _ 114 rfl rfl (Pred.waits_near (by kernel_rfl) (by kernel_rfl))
          refine Pred.yields_call (f := 15) (args := #[.agg (blkV a0_0 a0_1 a0_2 a0_3 a0_4 a0_5), .agg (blkV a1_0 a1_1 a1_2 a1_3 a1_4 a1_5), .bool a3, .bool a4]) ((Pred.wanted_at (g := 36) (d := 114) (f := true) rfl rfl r114).trans rfl) (by go_simp) ?_
          exact (newer_any a0_0 a0_1 a0_2 a0_3 a0_4 a0_5 a1_0 a1_1 a1_2 a1_3 a1_4 a1_5 a3 a4 _).mono fun e w2 ⟨he, hb⟩ => ⟨_, he, Pred.ext_below hb hE.size, rfl⟩
        · intro b X hE hd hn hV
          have r6 : b.tmps[6]?.getD undef = .pointer (some ⟨w.heap.size, 0, none⟩) := (hn 6 (by kernel_rfl)).trans rfl
          have r114 : b.tmps[114]?.getD undef = .bool true := hV 36 _ 114 rfl rfl (Pred.waits_near (by kernel_rfl) (by kernel_rfl))
          have q := (blk_below hE _ l1).trans x9
          exact Pred.yields_run (v := .agg (blkV a0_0 a0_1 a0_2 a0_3 a0_4 a0_5)) ((Pred.wanted_at (g := 36) (d := 114) (f := true) rfl rfl r114).trans rfl) (by go_simp) ⟨Pred.ext_refl _ _, rfl⟩
        · intro b X hE hd hn hV
          have r120 : b.tmps[120]?.getD undef = .agg (blkV a0_0 a0_1 a0_2 a0_3 a0_4 a0_5) := hV 42 _ 120 rfl rfl (Pred.waits_near (by kernel_rfl) (by kernel_rfl))
          have r114 : b.tmps[114]?.getD undef = .bool true := hV 36 _ 114 rfl rfl (Pred.waits_near (by kernel_rfl) (by kernel_rfl))
          refine Pred.yields_call (f := 11) (args := #[.agg (blkV a0_0 a0_1 a0_2 a0_3 a0_4 a0_5)]) ((Pred.wanted_at (g := 36) (d := 114) (f := true) rfl rfl r114).trans rfl) (by go_simp) ?_
          exact (flat_any a0_0 a0_1 a0_2 a0_3 a0_4 a0_5 _).mono fun e w2 ⟨he, hb⟩ => ⟨_, he, Pred.ext_below hb hE.size, rfl⟩
        · intro b X hE hd hn hV
          have r7 : b.tmps[7]?.getD undef = .pointer (some ⟨w.heap.size + 1, 0, none⟩) := (hn 7 (by kernel_rfl)).trans rfl
          have r114 : b.tmps[114]?.getD undef = .bool true := hV 36 _ 114 rfl rfl (Pred.waits_near (by kernel_rfl) (by kernel_rfl))
          have q := (blk_below hE _ l2).trans y9
          exact Pred.yields_run (v := .agg (blkV a1_0 a1_1 a1_2 a1_3 a1_4 a1_5)) ((Pred.wanted_at (g := 36) (d := 114) (f := true) rfl rfl r114).trans rfl) (by go_simp) ⟨Pred.ext_refl _ _, rfl⟩
        · intro b X hE hd hn hV
          have r122 : b.tmps[122]?.getD undef = .agg (blkV a1_0 a1_1 a1_2 a1_3 a1_4 a1_5) := hV 44 _ 122 rfl rfl (Pred.waits_near (by kernel_rfl) (by kernel_rfl))
          have r114 : b.tmps[114]?.getD undef = .bool true := hV 36 _ 114 rfl rfl (Pred.waits_near (by kernel_rfl) (by kernel_rfl))
          refine Pred.yields_call (f := 11) (args := #[.agg (blkV a1_0 a1_1 a1_2 a1_3 a1_4 a1_5)]) ((Pred.wanted_at (g := 36) (d := 114) (f := true) rfl rfl r114).trans rfl) (by go_simp) ?_
          exact (flat_any a1_0 a1_1 a1_2 a1_3 a1_4 a1_5 _).mono fun e w2 ⟨he, hb⟩ => ⟨_, he, Pred.ext_below hb hE.size, rfl⟩
        · intro b X hE hd hn hV
          have r3 : b.tmps[3]?.getD undef = .bool a3 := (hn 3 (by kernel_rfl)).trans rfl
          have r114 : b.tmps[114]?.getD undef = .bool true := hV 36 _ 114 rfl rfl (Pred.waits_near (by kernel_rfl) (by kernel_rfl))
          exact Pred.yields_run (v := .bool a3) ((Pred.wanted_at (g := 36) (d := 114) (f := true) rfl rfl r114).trans rfl) (by go_simp) ⟨Pred.ext_refl _ _, rfl⟩
        · intro b X hE hd hn hV
          have r4 : b.tmps[4]?.getD undef = .bool a4 := (hn 4 (by kernel_rfl)).trans rfl
          have r114 : b.tmps[114]?.getD undef = .bool true := hV 36 _ 114 rfl rfl (Pred.waits_near (by kernel_rfl) (by kernel_rfl))
          exact Pred.yields_run (v := .bool a4) ((Pred.wanted_at (g := 36) (d := 114) (f := true) rfl rfl r114).trans rfl) (by go_simp) ⟨Pred.ext_refl _ _, rfl⟩
        · intro b X hE hd hn hV
          have r121 : b.tmps[121]?.getD undef = .agg (blkV a0_0 a0_1 a0_2 a0_3 a0_4 a0_5) := hV 43 _ 121 rfl rfl (Pred.waits_near (by kernel_rfl) (by kernel_rfl))
          have r123 : b.tmps[123]?.getD undef = .agg (blkV a1_0 a1_1 a1_2 a1_3 a1_4 a1_5) := hV 45 _ 123 rfl rfl (Pred.waits_near (by kernel_rfl) (by kernel_rfl))
          have r124 : b.tmps[124]?.getD undef = .bool a3 := hV 46 _ 124 rfl rfl (Pred.waits_near (by kernel_rfl) (by kernel_rfl))
          have r125 : b.tmps[125]?.getD undef = .bool a4 := hV 47 _ 125 rfl rfl (Pred.waits_near (by kernel_rfl) (by kernel_rfl))
          have r114 : b.tmps[114]?.getD undef = .bool true := hV 36 _ 114 rfl rfl (Pred.waits_near (by kernel_rfl) (by kernel_rfl))
          refine Pred.yields_call (f := 16) (args := #[.agg (blkV a0_0 a0_1 a0_2 a0_3 a0_4 a0_5), .agg (blkV a1_0 a1_1 a1_2 a1_3 a1_4 a1_5), .bool a3, .bool a4]) ((Pred.wanted_at (g := 36) (d := 114) (f := true) rfl rfl r114).trans rfl) (by go_simp) ?_
          exact (rnewer_any a0_0 a0_1 a0_2 a0_3 a0_4 a0_5 a1_0 a1_1 a1_2 a1_3 a1_4 a1_5 a3 a4 _).mono fun e w2 ⟨he, hb⟩ => ⟨_, he, Pred.ext_below hb hE.size, rfl⟩
        · intro b X hE hd hn hV
          have r119 : b.tmps[119]?.getD undef = .int .i64 (newV a0_0 a1_0 a3 a4) := hV 41 _ 119 rfl rfl (Pred.waits_near (by kernel_rfl) (by kernel_rfl))
          have r126 : b.tmps[126]?.getD undef = .int .i64 (newV a0_0 a1_0 a3 a4) := hV 48 _ 126 rfl rfl (Pred.waits_near (by kernel_rfl) (by kernel_rfl))
          have r114 : b.tmps[114]?.getD undef = .bool true := hV 36 _ 114 rfl rfl (Pred.waits_near (by kernel_rfl) (by kernel_rfl))
          exact Pred.yields_run (v := .bool true) ((Pred.wanted_at (g := 36) (d := 114) (f := true) rfl rfl r114).trans rfl) (by go_simp) ⟨Pred.ext_refl _ _, rfl⟩
        · intro b X hE hd hn hV
          have r114 : b.tmps[114]?.getD undef = .bool true := hV 36 _ 114 rfl rfl (Pred.waits_near (by kernel_rfl) (by kernel_rfl))
          have r127 : b.tmps[127]?.getD undef = .bool true := hV 49 _ 127 rfl rfl (Pred.waits_near (by kernel_rfl) (by kernel_rfl))
          exact Pred.yields_run (v := .bool true) (Pred.wanted_none rfl) (by go_simp) ⟨Pred.ext_refl _ _, rfl⟩
        · intro b X hE hd hn hV
          have r128 : b.tmps[128]?.getD undef = .bool true := hV 50 _ 128 rfl rfl (Pred.waits_near (by kernel_rfl) (by kernel_rfl))
          exact Pred.yields_run (v := .bool true) (Pred.wanted_none rfl) (by go_simp) ⟨Pred.ext_refl _ _, rfl⟩
        · intro b X hE hd hn hV
          have r129 : b.tmps[129]?.getD undef = .bool true := hV 51 _ 129 rfl rfl (Pred.waits_near (by kernel_rfl) (by kernel_rfl))
          refine Pred.yields_call (f := 6) (args := #[]) ((Pred.wanted_at (g := 51) (d := 129) (f := true) rfl rfl r129).trans rfl) (by go_simp) ?_
          exact (awake_any _).mono fun e w2 ⟨he, hb⟩ => ⟨_, he, Pred.ext_below hb hE.size, rfl⟩
        · intro b X hE hd hn hV
          have r129 : b.tmps[129]?.getD undef = .bool true := hV 51 _ 129 rfl rfl (Pred.waits_near (by kernel_rfl) (by kernel_rfl))
          have r130 : b.tmps[130]?.getD undef = .bool true := hV 52 _ 130 rfl rfl (Pred.waits_near (by kernel_rfl) (by kernel_rfl))
          exact Pred.yields_run (v := .bool true) (Pred.wanted_none rfl) (by go_simp) ⟨Pred.ext_refl _ _, rfl⟩
        · intro b X hE hd hn hV
          have r131 : b.tmps[131]?.getD undef = .bool true := hV 53 _ 131 rfl rfl (Pred.waits_near (by kernel_rfl) (by kernel_rfl))
          exact Pred.yields_run (v := .bool true) (Pred.wanted_none rfl) (by go_simp) ⟨Pred.ext_refl _ _, rfl⟩
      intro v X hE hv
      have e0 : v 0 = .slice (none) 0 0 := hv 0 _ 78 rfl rfl
      have e1 : v 1 = .string (bytesOf ([])) := hv 1 _ 79 rfl rfl
      have e2 : v 2 = .slice (none) 0 0 := hv 2 _ 80 rfl rfl
      have e3 : v 3 = .string (bytesOf ([])) := hv 3 _ 81 rfl rfl
      have e4 : v 4 = .bool true := hv 4 _ 82 rfl rfl
      have e5 : v 5 = .bool true := hv 5 _ 83 rfl rfl
      have e6 : v 6 = .int .i64 1 := hv 6 _ 84 rfl rfl
      have e7 : v 7 = .bool false := hv 7 _ 85 rfl rfl
      have e8 : v 8 = .bool false := hv 8 _ 86 rfl rfl
      have e9 : v 9 = .bool true := hv 9 _ 87 rfl rfl
      have e10 : v 10 = .bool true := hv 10 _ 88 rfl rfl
      have e11 : v 11 = .bool true := hv 11 _ 89 rfl rfl
      have e12 : v 12 = .bool false := hv 12 _ 90 rfl rfl
      have e13 : v 13 = .bool false := hv 13 _ 91 rfl rfl
      have e14 : v 14 = .int .i64 1 := hv 14 _ 92 rfl rfl
      have e15 : v 15 = .bool true := hv 15 _ 93 rfl rfl
      have e16 : v 16 = .bool true := hv 16 _ 94 rfl rfl
      have e17 : v 17 = .bool true := hv 17 _ 95 rfl rfl
      have e18 : v 18 = .bool true := hv 18 _ 96 rfl rfl
      have e19 : v 19 = .agg (zeroB) := hv 19 _ 97 rfl rfl
      have e20 : v 20 = .agg (zeroB) := hv 20 _ 98 rfl rfl
      have e21 : v 21 = .bool true := hv 21 _ 99 rfl rfl
      have e22 : v 22 = .bool true := hv 22 _ 100 rfl rfl
      have e23 : v 23 = .bool true := hv 23 _ 101 rfl rfl
      have e24 : v 24 = .int .i64 3 := hv 24 _ 102 rfl rfl
      have e25 : v 25 = .bool false := hv 25 _ 103 rfl rfl
      have e26 : v 26 = .bool false := hv 26 _ 104 rfl rfl
      have e27 : v 27 = .bool true := hv 27 _ 105 rfl rfl
      have e28 : v 28 = .bool true := hv 28 _ 106 rfl rfl
      have e29 : v 29 = .bool true := hv 29 _ 107 rfl rfl
      have e30 : v 30 = .bool false := hv 30 _ 108 rfl rfl
      have e31 : v 31 = .bool false := hv 31 _ 109 rfl rfl
      have e32 : v 32 = .int .i64 3 := hv 32 _ 110 rfl rfl
      have e33 : v 33 = .bool true := hv 33 _ 111 rfl rfl
      have e34 : v 34 = .bool true := hv 34 _ 112 rfl rfl
      have e35 : v 35 = .bool true := hv 35 _ 113 rfl rfl
      have e36 : v 36 = .bool true := hv 36 _ 114 rfl rfl
      have e37 : v 37 = .agg (blkV a0_0 a0_1 a0_2 a0_3 a0_4 a0_5) := hv 37 _ 115 rfl rfl
      have e38 : v 38 = .agg (blkV a1_0 a1_1 a1_2 a1_3 a1_4 a1_5) := hv 38 _ 116 rfl rfl
      have e39 : v 39 = .bool a3 := hv 39 _ 117 rfl rfl
      have e40 : v 40 = .bool a4 := hv 40 _ 118 rfl rfl
      have e41 : v 41 = .int .i64 (newV a0_0 a1_0 a3 a4) := hv 41 _ 119 rfl rfl
      have e42 : v 42 = .agg (blkV a0_0 a0_1 a0_2 a0_3 a0_4 a0_5) := hv 42 _ 120 rfl rfl
      have e43 : v 43 = .agg (blkV a0_0 a0_1 a0_2 a0_3 a0_4 a0_5) := hv 43 _ 121 rfl rfl
      have e44 : v 44 = .agg (blkV a1_0 a1_1 a1_2 a1_3 a1_4 a1_5) := hv 44 _ 122 rfl rfl
      have e45 : v 45 = .agg (blkV a1_0 a1_1 a1_2 a1_3 a1_4 a1_5) := hv 45 _ 123 rfl rfl
      have e46 : v 46 = .bool a3 := hv 46 _ 124 rfl rfl
      have e47 : v 47 = .bool a4 := hv 47 _ 125 rfl rfl
      have e48 : v 48 = .int .i64 (newV a0_0 a1_0 a3 a4) := hv 48 _ 126 rfl rfl
      have e49 : v 49 = .bool true := hv 49 _ 127 rfl rfl
      have e50 : v 50 = .bool true := hv 50 _ 128 rfl rfl
      have e51 : v 51 = .bool true := hv 51 _ 129 rfl rfl
      have e52 : v 52 = .bool true := hv 52 _ 130 rfl rfl
      have e53 : v 53 = .bool true := hv 53 _ 131 rfl rfl
      have e54 : v 54 = .bool true := hv 54 _ 12 rfl rfl
      simp only [Pred.putsF_cons, Pred.putsF_nil, Nat.zero_add, Nat.reduceAdd, e0, e1, e2, e3, e4, e5, e6, e7, e8, e9, e10, e11, e12, e13, e14, e15, e16, e17, e18, e19, e20, e21, e22, e23, e24, e25, e26, e27, e28, e29, e30, e31, e32, e33, e34, e35, e36, e37, e38, e39, e40, e41, e42, e43, e44, e45, e46, e47, e48, e49, e50, e51, e52, e53, e54, Act.put, List.setIfInBounds_toArray, List.set_cons_zero, List.set_cons_succ]
      clear e0 e1 e2 e3 e4 e5 e6 e7 e8 e9 e10 e11 e12 e13 e14 e15 e16 e17 e18 e19 e20 e21 e22 e23 e24 e25 e26 e27 e28 e29 e30 e31 e32 e33 e34 e35 e36 e37 e38 e39 e40 e41 e42 e43 e44 e45 e46 e47 e48 e49 e50 e51 e52 e53 e54 hv
      have sZ := hE.size
      have L10 : Below w.heap.size w X := L9.trans (hE.mono L9.size)
      go_wp2
      go_ret
      exact ⟨rfl, L10⟩
    · have l1 := blk_lt x2
      have l2 := blk_lt y2
      have l3 := blk_lt t2
      go_wp2_with fail
      refine (encode_no _ _ _ _ _ _ _ hM).mono ?_
      rintro e w3 ⟨rfl, hb3⟩
      have RA : Reads w3 1 none 0 (u8s []) := ⟨rfl, .inl rfl⟩
      have x3 := (blk_below hb3 _ l1).trans x2
      have y3 := (blk_below hb3 _ l2).trans y2
      have t3 := (blk_below hb3 _ l3).trans t2
      have hR3 := hR2.below hb3 (Nat.le_refl _)
      have s3 := hb3.size
      have L3 : Below w.heap.size w w3 := by repeat' (first | (with_reducible exact Below.refl _ _) | (with_reducible refine Rd.below_step ?_ (by assumption)) | (with_reducible refine Rd.below_alloc ?_ _) | (with_reducible refine Rd.below_drewN ?_ _) | (with_reducible refine Below.drew ?_) | (with_reducible refine Below.setCell ?_ ?_ _) | (with_reducible refine Rd.below_setRow ?_ ?_ _) | go_size | (simp only [World.size_alloc]; omega) | omega)
      clear x2 y2 t2 hR2 hb3 L2 l1 l2 l3
      have l1 := blk_lt x3
      have l2 := blk_lt y3
      have l3 := blk_lt t3
      go_wp2_with fail
      refine (flat_any _ _ _ _ _ _ _).mono ?_
      rintro e w4 ⟨rfl, hb4⟩
      have x4 := (blk_below hb4 _ l1).trans x3
      have y4 := (blk_below hb4 _ l2).trans y3
      have t4 := (blk_below hb4 _ l3).trans t3
      have hR4 := hR3.below hb4 (Nat.le_refl _)
      have RA4 := RA.below hb4 (Nat.le_refl _)
      have s4 := hb4.size
      have L4 : Below w.heap.size w w4 := by repeat' (first | (with_reducible exact Below.refl _ _) | (with_reducible refine Rd.below_step ?_ (by assumption)) | (with_reducible refine Rd.below_alloc ?_ _) | (with_reducible refine Rd.below_drewN ?_ _) | (with_reducible refine Below.drew ?_) | (with_reducible refine Below.setCell ?_ ?_ _) | (with_reducible refine Rd.below_setRow ?_ ?_ _) | go_size | (simp only [World.size_alloc]; omega) | omega)
      clear x3 y3 t3 hR3 RA hb4 L3 l1 l2 l3
      have l1 := blk_lt x4
      have l2 := blk_lt y4
      have l3 := blk_lt t4
      go_wp2_with fail
      refine (head_no _ _ _ _ _ _ _ hM).mono ?_
      rintro e w5 ⟨rfl, hb5⟩
      have RC : Reads w5 1 none 0 (u8s []) := ⟨rfl, .inl rfl⟩
      have x5 := (blk_below hb5 _ l1).trans x4
      have y5 := (blk_below hb5 _ l2).trans y4
      have t5 := (blk_below hb5 _ l3).trans t4
      have hR5 := hR4.below hb5 (Nat.le_refl _)
      have RA5 := RA4.below hb5 (Nat.le_refl _)
      have s5 := hb5.size
      have L5 : Below w.heap.size w w5 := by repeat' (first | (with_reducible exact Below.refl _ _) | (with_reducible refine Rd.below_step ?_ (by assumption)) | (with_reducible refine Rd.below_alloc ?_ _) | (with_reducible refine Rd.below_drewN ?_ _) | (with_reducible refine Below.drew ?_) | (with_reducible refine Below.setCell ?_ ?_ _) | (with_reducible refine Rd.below_setRow ?_ ?_ _) | go_size | (simp only [World.size_alloc]; omega) | omega)
      clear x4 y4 t4 hR4 RA4 hb5 L4 l1 l2 l3
      have l1 := blk_lt x5
      have l2 := blk_lt y5
      have l3 := blk_lt t5
      go_wp2_with fail
      refine (decode_all a2 len2 cap2 zs _ hR5 hz (by omega) (by omega) (by omega)).mono ?_
      rintro e w6 ⟨rfl, hb6⟩
      rw [decRes_yes hD]
      have x6 := (blk_below hb6 _ l1).trans x5
      have y6 := (blk_below hb6 _ l2).trans y5
      have hR6 := hR5.below hb6 (Nat.le_refl _)
      have RA6 := RA5.below hb6 (Nat.le_refl _)
      have RC6 := RC.below hb6 (Nat.le_refl _)
      have s6 := hb6.size
      have L6 : Below w.heap.size w w6 := by repeat' (first | (with_reducible exact Below.refl _ _) | (with_reducible refine Rd.below_step ?_ (by assumption)) | (with_reducible refine Rd.below_alloc ?_ _) | (with_reducible refine Rd.below_drewN ?_ _) | (with_reducible refine Below.drew ?_) | (with_reducible refine Below.setCell ?_ ?_ _) | (with_reducible refine Rd.below_setRow ?_ ?_ _) | go_size | (simp only [World.size_alloc]; omega) | omega)
      clear x5 y5 t5 hR5 RA5 RC hb6 L5 l1 l2 l3
      have l1 := blk_lt x6
      have l2 := blk_lt y6
      go_upto_region 11 with (fail)
      refine Rd.name_world ?_
      intro V hV
      have x7 : blk V w.heap.size = some (.cells (blkV a0_0 a0_1 a0_2 a0_3 a0_4 a0_5) 24 (0, 0)) := by rw [hV, blk_alloc_old _ _ _ l1]; exact x6
      have y7 : blk V (w.heap.size + 1) = some (.cells (blkV a1_0 a1_1 a1_2 a1_3 a1_4 a1_5) 24 (0, 0)) := by rw [hV, blk_alloc_old _ _ _ l2]; exact y6
      have d7 : blk V w6.heap.size = some (.cells (decV (zs)) 24 (0, 0)) := by rw [hV]; exact blk_alloc_at _ _ _ rfl
      have BV : Below w6.heap.size w6 V := by rw [hV]; exact (Below.refl _ _).alloc (Nat.le_refl _) _
      have hR7 := hR6.below BV (Nat.le_refl _)
      have RA7 := RA6.below BV (Nat.le_refl _)
      have RC7 := RC6.below BV (Nat.le_refl _)
      have s7 := BV.size
      have L7 : Below w.heap.size w V := L6.trans (BV.mono L6.size)
      clear hV x6 y6 hR6 RA6 RC6 BV L6 l1 l2
      have l1 := blk_lt x7
      have l2 := blk_lt y7
      have l4 := blk_lt d7
      go_wp2_with fail
      refine (readHead_all a2 len2 cap2 zs _ hR7 hz (by omega) (by omega) (by omega)).mono ?_
      rintro e w8 ⟨rfl, hb8⟩
      rw [rdRes_yes hD]
      have x8 := (blk_below hb8 _ l1).trans x7
      have y8 := (blk_below hb8 _ l2).trans y7
      have d8 := (blk_below hb8 _ l4).trans d7
      have RA8 := RA7.below hb8 (Nat.le_refl _)
      have RC8 := RC7.below hb8 (Nat.le_refl _)
      have s8 := hb8.size
      have L8 : Below w.heap.size w w8 := by repeat' (first | (with_reducible exact Below.refl _ _) | (with_reducible refine Rd.below_step ?_ (by assumption)) | (with_reducible refine Rd.below_alloc ?_ _) | (with_reducible refine Rd.below_drewN ?_ _) | (with_reducible refine Below.drew ?_) | (with_reducible refine Below.setCell ?_ ?_ _) | (with_reducible refine Rd.below_setRow ?_ ?_ _) | go_size | (simp only [World.size_alloc]; omega) | omega)
      clear x7 y7 d7 hR7 RA7 RC7 hb8 L7 l1 l2 l4
      have l1 := blk_lt x8
      have l2 := blk_lt y8
      have l4 := blk_lt d8
      go_upto_region 12 with (fail)
      refine Rd.name_world ?_
      intro W' hV
      have x9 : blk W' w.heap.size = some (.cells (blkV a0_0 a0_1 a0_2 a0_3 a0_4 a0_5) 24 (0, 0)) := by rw [hV, blk_alloc_old _ _ _ l1]; exact x8
      have y9 : blk W' (w.heap.size + 1) = some (.cells (blkV a1_0 a1_1 a1_2 a1_3 a1_4 a1_5) 24 (0, 0)) := by rw [hV, blk_alloc_old _ _ _ l2]; exact y8
      have d9 : blk W' w6.heap.size = some (.cells (decV (zs)) 24 (0, 0)) := by rw [hV, blk_alloc_old _ _ _ l4]; exact d8
      have f9 : blk W' w8.heap.size = some (.cells (decV (zs)) 37 (0, 0)) := by rw [hV]; exact blk_alloc_at _ _ _ rfl
      have BV : Below w8.heap.size w8 W' := by rw [hV]; exact (Below.refl _ _).alloc (Nat.le_refl _) _
      have RA9 := RA8.below BV (Nat.le_refl _)
      have RC9 := RC8.below BV (Nat.le_refl _)
      have L9 : Below w.heap.size w W' := L8.trans (BV.mono L8.size)
      clear hV x8 y8 d8 RA8 RC8 BV L8 l1 l2 l4
      have l1 := blk_lt x9
      have l2 := blk_lt y9
      have l4 := blk_lt d9
      have l5 := blk_lt f9
      refine Pred.region_vals (Pred.Of [
          Is (.slice (none) 0 0),
          Is (.string (bytesOf ([]))),
          Is (.slice (none) 0 0),
          Is (.string (bytesOf ([]))),
          Is (.bool true),
          Is (.bool true),
          Is (.int .i64 1),
          Is (.bool false),
          Is (.bool false),
          Is (.bool true),
          Is (.bool true),
          Is (.bool true),
          Is (.bool false),
          Is (.bool false),
          Is (.int .i64 1),
          Is (.bool true),
          Is (.bool true),
          Is (.bool true),
          Is (.bool true),
          Is (.agg (decV (zs))),
          Is (.agg (decV (zs))),
          Is (.bool true),
          Is (.bool true),
          Is (.bool true),
          Is (.int .i64 0),
          Is (.bool true),
          Is (.bool true),
          Is (.bool true),
          Is (.bool true),
          Is (.bool true),
          Is (.bool true),
          Is (.bool true),
          Is (undef),
          Is (undef),
          Is (.bool true),
          Is (.bool true),
          Is (.bool true),
          Is (.agg (blkV a0_0 a0_1 a0_2 a0_3 a0_4 a0_5)),
          Is (.agg (blkV a1_0 a1_1 a1_2 a1_3 a1_4 a1_5)),
          Is (.bool a3),
          Is (.bool a4),
          Is (.int .i64 (newV a0_0 a1_0 a3 a4)),
          Is (.agg (blkV a0_0 a0_1 a0_2 a0_3 a0_4 a0_5)),
          Is (.agg (blkV a0_0 a0_1 a0_2 a0_3 a0_4 a0_5)),
          Is (.agg (blkV a1_0 a1_1 a1_2 a1_3 a1_4 a1_5)),
          Is (.agg (blkV a1_0 a1_1 a1_2 a1_3 a1_4 a1_5)),
          Is (.bool a3),
          Is (.bool a4),
          Is (.int .i64 (newV a0_0 a1_0 a3 a4)),
          Is (.bool true),
          Is (.bool true),
          Is (.bool true),
          Is (.bool true),
          Is (.bool true),
          Is (.bool true)]) (by kernel_rfl) (by kernel_rfl) (by kernel_rfl) (Pred.of_stab ?_) ?_ ?_
      · exact ⟨is_stab _, is_stab _, is_stab _, is_stab _, is_stab _, is_stab _, is_stab _, is_stab _, is_stab _, is_stab _, is_stab _, is_stab _, is_stab _, is_stab _, is_stab _, is_stab _, is_stab _, is_stab _, is_stab _, is_stab _, is_stab _, is_stab _, is_stab _, is_stab _, is_stab _, is_stab _, is_stab _, is_stab _, is_stab _, is_stab _, is_stab _, is_stab _, is_stab _, is_stab _, is_stab _, is_stab _, is_stab _, is_stab _, is_stab _, is_stab _, is_stab _, is_stab _, is_stab _, is_stab _, is_stab _, is_stab _, is_stab _, is_stab _, is_stab _, is_stab _, is_stab _, is_stab _, is_stab _, is_stab _, is_stab _, trivial⟩
      · refine ⟨?_, ?_, ?_, ?_, ?_, ?_, ?_, ?_, ?_, ?_, ?_, ?_, ?_, ?_, ?_, ?_, ?_, ?_, ?_, ?_, ?_, ?_, ?_, ?_, ?_, ?_, ?_, ?_, ?_, ?_, ?_, ?_, ?_, ?_, ?_, ?_, ?_, ?_, ?_, ?_, ?_, ?_, ?_, ?_, ?_, ?_, ?_, ?_, ?_, ?_, ?_, ?_, ?_, ?_, ?_, trivial⟩
        · intro b X hE hd hn hV
          have r16 : b.tmps[16]?.getD undef = .slice (none) 0 0 := (hn 16 (by kernel_rfl)).trans rfl
          exact Pred.yields_run (v := .slice (none) 0 0) (Pred.wanted_none rfl) (by go_simp) ⟨Pred.ext_refl _ _, rfl⟩
        · intro b X hE hd hn hV
          have r78 : b.tmps[78]?.getD undef = .slice (none) 0 0 := hV 0 _ 78 rfl rfl (Pred.waits_near (by kernel_rfl) (by kernel_rfl))
          have v1 := conv_reads (P := Try.prog) (cap := 0) Try.underlying25 Try.underlying5 Try.underlying9 (RA9.below hE (Nat.le_refl _)) (fun z hz => by cases hz)
          exact Pred.yields_run (v := .string (bytesOf ([]))) (Pred.wanted_none rfl) (by go_simp) ⟨Pred.ext_refl _ _, rfl⟩
        · intro b X hE hd hn hV
          have r18 : b.tmps[18]?.getD undef = .slice (none) 0 0 := (hn 18 (by kernel_rfl)).trans rfl
          exact Pred.yields_run (v := .slice (none) 0 0) (Pred.wanted_none rfl) (by go_simp) ⟨Pred.ext_refl _ _, rfl⟩
        · intro b X hE hd hn hV
          have r80 : b.tmps[80]?.getD undef = .slice (none) 0 0 := hV 2 _ 80 rfl rfl (Pred.waits_near (by kernel_rfl) (by kernel_rfl))
          have v1 := conv_reads (P := Try.prog) (cap := 0) Try.underlying25 Try.underlying5 Try.underlying9 (RC9.below hE (Nat.le_refl _)) (fun z hz => by cases hz)
          exact Pred.yields_run (v := .string (bytesOf ([]))) (Pred.wanted_none rfl) (by go_simp) ⟨Pred.ext_refl _ _, rfl⟩
        · intro b X hE hd hn hV
          have r79 : b.tmps[79]?.getD undef = .string (bytesOf ([])) := hV 1 _ 79 rfl rfl (Pred.waits_near (by kernel_rfl) (by kernel_rfl))
          have r81 : b.tmps[81]?.getD undef = .string (bytesOf ([])) := hV 3 _ 81 rfl rfl (Pred.waits_near (by kernel_rfl) (by kernel_rfl))
          exact Pred.yields_run (v := .bool true) (Pred.wanted_none rfl) (by go_simp) ⟨Pred.ext_refl _ _, rfl⟩
        · intro b X hE hd hn hV
          have r82 : b.tmps[82]?.getD undef = .bool true := hV 4 _ 82 rfl rfl (Pred.waits_near (by kernel_rfl) (by kernel_rfl))
          exact Pred.yields_run (v := .bool true) (Pred.wanted_none rfl) (by go_simp) ⟨Pred.ext_refl _ _, rfl⟩
        · intro b X hE hd hn hV
          have r17 : b.tmps[17]?.getD undef = .int .i64 1 := (hn 17 (by kernel_rfl)).trans rfl
          have r83 : b.tmps[83]?.getD undef = .bool true := hV 5 _ 83 rfl rfl (Pred.waits_near (by kernel_rfl) (by kernel_rfl))
          exact Pred.yields_run (v := .int .i64 1) ((Pred.wanted_at (g := 5) (d := 83) (f := true) rfl rfl r83).trans rfl) (by go_simp) ⟨Pred.ext_refl _ _, rfl⟩
        · intro b X hE hd hn hV
          have r84 : b.tmps[84]?.getD undef = .int .i64 1 := hV 6 _ 84 rfl rfl (Pred.waits_near (by kernel_rfl) (by kernel_rfl))
          have r83 : b.tmps[83]?.getD undef = .bool true := hV 5 _ 83 rfl rfl (Pred.waits_near (by kernel_rfl) (by kernel_rfl))
          exact Pred.yields_run (v := .bool false) ((Pred.wanted_at (g := 5) (d := 83) (f := true) rfl rfl r83).trans rfl) (by go_simp) ⟨Pred.ext_refl _ _, rfl⟩
        · intro b X hE hd hn hV
          have r19 : b.tmps[19]?.getD undef = .bool false := (hn 19 (by kernel_rfl)).trans rfl
          have r83 : b.tmps[83]?.getD undef = .bool true := hV 5 _ 83 rfl rfl (Pred.waits_near (by kernel_rfl) (by kernel_rfl))
          exact Pred.yields_run (v := .bool false) ((Pred.wanted_at (g := 5) (d := 83) (f := true) rfl rfl r83).trans rfl) (by go_simp) ⟨Pred.ext_refl _ _, rfl⟩
        · intro b X hE hd hn hV
          have r85 : b.tmps[85]?.getD undef = .bool false := hV 7 _ 85 rfl rfl (Pred.waits_near (by kernel_rfl) (by kernel_rfl))
          have r86 : b.tmps[86]?.getD undef = .bool false := hV 8 _ 86 rfl rfl (Pred.waits_near (by kernel_rfl) (by kernel_rfl))
          have r83 : b.tmps[83]?.getD undef = .bool true := hV 5 _ 83 rfl rfl (Pred.waits_near (by kernel_rfl) (by kernel_rfl))
          exact Pred.yields_run (v := .bool true) ((Pred.wanted_at (g := 5) (d := 83) (f := true) rfl rfl r83).trans rfl) (by go_simp) ⟨Pred.ext_refl _ _, rfl⟩
        · intro b X hE hd hn hV
          have r83 : b.tmps[83]?.getD undef = .bool true := hV 5 _ 83 rfl rfl (Pred.waits_near (by kernel_rfl) (by kernel_rfl))
          have r87 : b.tmps[87]?.getD undef = .bool true := hV 9 _ 87 rfl rfl (Pred.waits_near (by kernel_rfl) (by kernel_rfl))
          exact Pred.yields_run (v := .bool true) (Pred.wanted_none rfl) (by go_simp) ⟨Pred.ext_refl _ _, rfl⟩
        · intro b X hE hd hn hV
          have r88 : b.tmps[88]?.getD undef = .bool true := hV 10 _ 88 rfl rfl (Pred.waits_near (by kernel_rfl) (by kernel_rfl))
          exact Pred.yields_run (v := .bool true) (Pred.wanted_none rfl) (by go_simp) ⟨Pred.ext_refl _ _, rfl⟩
        · intro b X hE hd hn hV
          have r19 : b.tmps[19]?.getD undef = .bool false := (hn 19 (by kernel_rfl)).trans rfl
          have r89 : b.tmps[89]?.getD undef = .bool true := hV 11 _ 89 rfl rfl (Pred.waits_near (by kernel_rfl) (by kernel_rfl))
          exact Pred.yields_run (v := .bool false) ((Pred.wanted_at (g := 11) (d := 89) (f := true) rfl rfl r89).trans rfl) (by go_simp) ⟨Pred.ext_refl _ _, rfl⟩
        · intro b X hE hd hn hV
          have r90 : b.tmps[90]?.getD undef = .bool false := hV 12 _ 90 rfl rfl (Pred.waits_near (by kernel_rfl) (by kernel_rfl))
          have r89 : b.tmps[89]?.getD undef = .bool true := hV 11 _ 89 rfl rfl (Pred.waits_near (by kernel_rfl) (by kernel_rfl))
          exact Pred.yields_run (v := .bool false) ((Pred.wanted_at (g := 11) (d := 89) (f := true) rfl rfl r89).trans rfl) (by go_simp) ⟨Pred.ext_refl _ _, rfl⟩
        · intro b X hE hd hn hV
          have r17 : b.tmps[17]?.getD undef = .int .i64 1 := (hn 17 (by kernel_rfl)).trans rfl
          have r91 : b.tmps[91]?.getD undef = .bool false := hV 13 _ 91 rfl rfl (Pred.waits_near (by kernel_rfl) (by kernel_rfl))
          exact Pred.yields_run (v := .int .i64 1) ((Pred.wanted_at (g := 13) (d := 91) (f := false) rfl rfl r91).trans rfl) (by go_simp) ⟨Pred.ext_refl _ _, rfl⟩
        · intro b X hE hd hn hV
          have r92 : b.tmps[92]?.getD undef = .int .i64 1 := hV 14 _ 92 rfl rfl (Pred.waits_near (by kernel_rfl) (by kernel_rfl))
          have r91 : b.tmps[91]?.getD undef = .bool false := hV 13 _ 91 rfl rfl (Pred.waits_near (by kernel_rfl) (by kernel_rfl))
          exact Pred.yields_run (v := .bool true) ((Pred.wanted_at (g := 13) (d := 91) (f := false) rfl rfl r91).trans rfl) (by go_simp) ⟨Pred.ext_refl _ _, rfl⟩
        · intro b X hE hd hn hV
          have r91 : b.tmps[91]?.getD undef = .bool false := hV 13 _ 91 rfl rfl (Pred.waits_near (by kernel_rfl) (by kernel_rfl))
          have r93 : b.tmps[93]?.getD undef = .bool true := hV 15 _ 93 rfl rfl (Pred.waits_near (by kernel_rfl) (by kernel_rfl))
          have r89 : b.tmps[89]?.getD undef = .bool true := hV 11 _ 89 rfl rfl (Pred.waits_near (by kernel_rfl) (by kernel_rfl))
          exact Pred.yields_run (v := .bool true) ((Pred.wanted_at (g := 11) (d := 89) (f := true) rfl rfl r89).trans rfl) (by go_simp) ⟨Pred.ext_refl _ _, rfl⟩
        · intro b X hE hd hn hV
          have r89 : b.tmps[89]?.getD undef = .bool true := hV 11 _ 89 rfl rfl (Pred.waits_near (by kernel_rfl) (by kernel_rfl))
          have r94 : b.tmps[94]?.getD undef = .bool true := hV 16 _ 94 rfl rfl (Pred.waits_near (by kernel_rfl) (by kernel_rfl))
          exact Pred.yields_run (v := .bool true) (Pred.wanted_none rfl) (by go_simp) ⟨Pred.ext_refl _ _, rfl⟩
        · intro b X hE hd hn hV
          have r95 : b.tmps[95]?.getD undef = .bool true := hV 17 _ 95 rfl rfl (Pred.waits_near (by kernel_rfl) (by kernel_rfl))
          exact Pred.yields_run (v := .bool true) (Pred.wanted_none rfl) (by go_simp) ⟨Pred.ext_refl _ _, rfl⟩
        · intro b X hE hd hn hV
          have r20 : b.tmps[20]?.getD undef = .pointer (some ⟨w6.heap.size, 0, none⟩) := (hn 20 (by kernel_rfl)).trans rfl
          have r96 : b.tmps[96]?.getD undef = .bool true := hV 18 _ 96 rfl rfl (Pred.waits_near (by kernel_rfl) (by kernel_rfl))
          have q := (blk_below hE _ l4).trans d9
          have hv6 := decV_size (zs)
          exact Pred.yields_run (v := .agg (decV (zs))) ((Pred.wanted_at (g := 18) (d := 96) (f := true) rfl rfl r96).trans rfl) (by go_simp) ⟨Pred.ext_refl _ _, rfl⟩
        · intro b X hE hd hn hV
          have r22 : b.tmps[22]?.getD undef = .pointer (some ⟨w8.heap.size, 0, none⟩) := (hn 22 (by kernel_rfl)).trans rfl
          have r96 : b.tmps[96]?.getD undef = .bool true := hV 18 _ 96 rfl rfl (Pred.waits_near (by kernel_rfl) (by kernel_rfl))
          have q := (blk_below hE _ l5).trans f9
          have hv6 := decV_size (zs)
          exact Pred.yields_run (v := .agg (decV (zs))) ((Pred.wanted_at (g := 18) (d := 96) (f := true) rfl rfl r96).trans rfl) (by go_simp) ⟨Pred.ext_refl _ _, rfl⟩
        · intro b X hE hd hn hV
          have r97 : b.tmps[97]?.getD undef = .agg (decV (zs)) := hV 19 _ 97 rfl rfl (Pred.waits_near (by kernel_rfl) (by kernel_rfl))
          have r98 : b.tmps[98]?.getD undef = .agg (decV (zs)) := hV 20 _ 98 rfl rfl (Pred.waits_near (by kernel_rfl) (by kernel_rfl))
          have r96 : b.tmps[96]?.getD undef = .bool true := hV 18 _ 96 rfl rfl (Pred.waits_near (by kernel_rfl) (by kernel_rfl))
          refine Pred.yields_call (f := 14) (args := #[.agg (decV (zs)), .agg (decV (zs))]) ((Pred.wanted_at (g := 18) (d := 96) (f := true) rfl rfl r96).trans rfl) (by go_simp) ?_
          exact (same_any (fld (zs) 4 4) (fld (zs) 8 1) (decR (zs)) (fld (zs) 10 2) (fld (zs) 12 2) (fld (zs) 14 4) _).mono fun e w2 ⟨he, hb⟩ => ⟨_, he, Pred.ext_below hb hE.size, rfl⟩
        · intro b X hE hd hn hV
          have r96 : b.tmps[96]?.getD undef = .bool true := hV 18 _ 96 rfl rfl (Pred.waits_near (by kernel_rfl) (by kernel_rfl))
          have r99 : b.tmps[99]?.getD undef = .bool true := hV 21 _ 99 rfl rfl (Pred.waits_near (by kernel_rfl) (by kernel_rfl))
          exact Pred.yields_run (v := .bool true) (Pred.wanted_none rfl) (by go_simp) ⟨Pred.ext_refl _ _, rfl⟩
        · intro b X hE hd hn hV
          have r100 : b.tmps[100]?.getD undef = .bool true := hV 22 _ 100 rfl rfl (Pred.waits_near (by kernel_rfl) (by kernel_rfl))
          exact Pred.yields_run (v := .bool true) (Pred.wanted_none rfl) (by go_simp) ⟨Pred.ext_refl _ _, rfl⟩
        · intro b X hE hd hn hV
          have r21 : b.tmps[21]?.getD undef = .int .i64 0 := (hn 21 (by kernel_rfl)).trans rfl
          have r101 : b.tmps[101]?.getD undef = .bool true := hV 23 _ 101 rfl rfl (Pred.waits_near (by kernel_rfl) (by kernel_rfl))
          exact Pred.yields_run (v := .int .i64 0) ((Pred.wanted_at (g := 23) (d := 101) (f := true) rfl rfl r101).trans rfl) (by go_simp) ⟨Pred.ext_refl _ _, rfl⟩
        · intro b X hE hd hn hV
          have r102 : b.tmps[102]?.getD undef = .int .i64 0 := hV 24 _ 102 rfl rfl (Pred.waits_near (by kernel_rfl) (by kernel_rfl))
          have r101 : b.tmps[101]?.getD undef = .bool true := hV 23 _ 101 rfl rfl (Pred.waits_near (by kernel_rfl) (by kernel_rfl))
          exact Pred.yields_run (v := .bool true) ((Pred.wanted_at (g := 23) (d := 101) (f := true) rfl rfl r101).trans rfl) (by go_simp) ⟨Pred.ext_refl _ _, rfl⟩
        · intro b X hE hd hn hV
          have r23 : b.tmps[23]?.getD undef = .bool true := (hn 23 (by kernel_rfl)).trans rfl
          have r101 : b.tmps[101]?.getD undef = .bool true := hV 23 _ 101 rfl rfl (Pred.waits_near (by kernel_rfl) (by kernel_rfl))
          exact Pred.yields_run (v := .bool true) ((Pred.wanted_at (g := 23) (d := 101) (f := true) rfl rfl r101).trans rfl) (by go_simp) ⟨Pred.ext_refl _ _, rfl⟩
        · intro b X hE hd hn hV
          have r103 : b.tmps[103]?.getD undef = .bool true := hV 25 _ 103 rfl rfl (Pred.waits_near (by kernel_rfl) (by kernel_rfl))
          have r104 : b.tmps[104]?.getD undef = .bool true := hV 26 _ 104 rfl rfl (Pred.waits_near (by kernel_rfl) (by kernel_rfl))
          have r101 : b.tmps[101]?.getD undef = .bool true := hV 23 _ 101 rfl rfl (Pred.waits_near (by kernel_rfl) (by kernel_rfl))
          exact Pred.yields_run (v := .bool true) ((Pred.wanted_at (g := 23) (d := 101) (f := true) rfl rfl r101).trans rfl) (by go_simp) ⟨Pred.ext_refl _ _, rfl⟩
        · intro b X hE hd hn hV
          have r101 : b.tmps[101]?.getD undef = .bool true := hV 23 _ 101 rfl rfl (Pred.waits_near (by kernel_rfl) (by kernel_rfl))
          have r105 : b.tmps[105]?.getD undef = .bool true := hV 27 _ 105 rfl rfl (Pred.waits_near (by kernel_rfl) (by kernel_rfl))
          exact Pred.yields_run (v := .bool true) (Pred.wanted_none rfl) (by go_simp) ⟨Pred.ext_refl _ _, rfl⟩
        · intro b X hE hd hn hV
          have r106 : b.tmps[106]?.getD undef = .bool true := hV 28 _ 106 rfl rfl (Pred.waits_near (by kernel_rfl) (by kernel_rfl))
          exact Pred.yields_run (v := .bool true) (Pred.wanted_none rfl) (by go_simp) ⟨Pred.ext_refl _ _, rfl⟩
        · intro b X hE hd hn hV
          have r23 : b.tmps[23]?.getD undef = .bool true := (hn 23 (by kernel_rfl)).trans rfl
          have r107 : b.tmps[107]?.getD undef = .bool true := hV 29 _ 107 rfl rfl (Pred.waits_near (by kernel_rfl) (by kernel_rfl))
          exact Pred.yields_run (v := .bool true) ((Pred.wanted_at (g := 29) (d := 107) (f := true) rfl rfl r107).trans rfl) (by go_simp) ⟨Pred.ext_refl _ _, rfl⟩
        · intro b X hE hd hn hV
          have r108 : b.tmps[108]?.getD undef = .bool true := hV 30 _ 108 rfl rfl (Pred.waits_near (by kernel_rfl) (by kernel_rfl))
          have r107 : b.tmps[107]?.getD undef = .bool true := hV 29 _ 107 rfl rfl (Pred.waits_near (by kernel_rfl) (by kernel_rfl))
          exact Pred.yields_run (v := .bool true) ((Pred.wanted_at (g := 29) (d := 107) (f := true) rfl rfl r107).trans rfl) (by go_simp) ⟨Pred.ext_refl _ _, rfl⟩
        · intro b X hE hd hn hV
          have r109 : b.tmps[109]?.getD undef = .bool true := hV 31 _ 109 rfl rfl (Pred.waits_near (by kernel_rfl) (by kernel_rfl))
          exact Pred.yields_not ((Pred.wanted_at (g := 31) (d := 109) (f := false) rfl rfl r109).trans rfl) ⟨Pred.ext_refl _ _, rfl⟩
        · intro b X hE hd hn hV
          have r109 : b.tmps[109]?.getD undef = .bool true := hV 31 _ 109 rfl rfl (Pred.waits_near (by kernel_rfl) (by kernel_rfl))
          exact Pred.yields_not ((Pred.wanted_at (g := 31) (d := 109) (f := false) rfl rfl r109).trans rfl) ⟨Pred.ext_refl _ _, rfl⟩
        · intro b X hE hd hn hV
          have r109 : b.tmps[109]?.getD undef = .bool true := hV 31 _ 109 rfl rfl (Pred.waits_near (by kernel_rfl) (by kernel_rfl))
          have r111 : b.tmps[111]?.getD undef = undef := hV 33 _ 111 rfl rfl (Pred.waits_near (by kernel_rfl) (by kernel_rfl))
          have r107 : b.tmps[107]?.getD undef = .bool true := hV 29 _ 107 rfl rfl (Pred.waits_near (by kernel_rfl) (by kernel_rfl))
          exact Pred.yields_run (v := .bool true) ((Pred.wanted_at (g := 29) (d := 107) (f := true) rfl rfl r107).trans rfl) (by go_simp) ⟨Pred.ext_refl _ _, rfl⟩
        · intro b X hE hd hn hV
          have r107 : b.tmps[107]?.getD undef = .bool true := hV 29 _ 107 rfl rfl (Pred.waits_near (by kernel_rfl) (by kernel_rfl))
          have r112 : b.tmps[112]?.getD undef = .bool true := hV 34 _ 112 rfl rfl (Pred.waits_near (by kernel_rfl) (by kernel_rfl))
          exact Pred.yields_run (v := .bool true) (Pred.wanted_none rfl) (by go_simp) ⟨Pred.ext_refl _ _, rfl⟩
        · intro b X hE hd hn hV
          have r113 : b.tmps[113]?.getD undef = .bool true := hV 35 _ 113 rfl rfl (Pred.waits_near (by kernel_rfl) (by kernel_rfl))
          exact Pred.yields_run (v := .bool true) (Pred.wanted_none rfl) (by go_simp) ⟨Pred.ext_refl _ _, rfl⟩
        · intro b X hE hd hn hV
          have r6 : b.tmps[6]?.getD undef = .pointer (some ⟨w.heap.size, 0, none⟩) := (hn 6 (by kernel_rfl)).trans rfl
          have r114 : b.tmps[114]?.getD undef = .bool true := hV 36 _ 114 rfl rfl (Pred.waits_near (by kernel_rfl) (by kernel_rfl))
          have q := (blk_below hE _ l1).trans x9
          exact Pred.yields_run (v := .agg (blkV a0_0 a0_1 a0_2 a0_3 a0_4 a0_5)) ((Pred.wanted_at (g := 36) (d := 114) (f := true) rfl rfl r114).trans rfl) (by go_simp) ⟨Pred.ext_refl _ _, rfl⟩
        · intro b X hE hd hn hV
          have r7 : b.tmps[7]?.getD undef = .pointer (some ⟨w.heap.size + 1, 0, none⟩) := (hn 7 (by kernel_rfl)).trans rfl
          have r114 : b.tmps[114]?.getD undef = .bool true := hV 36 _ 114 rfl rfl (Pred.waits_near (by kernel_rfl) (by kernel_rfl))
          have q := (blk_below hE _ l2).trans y9
          exact Pred.yields_run (v := .agg (blkV a1_0 a1_1 a1_2 a1_3 a1_4 a1_5)) ((Pred.wanted_at (g := 36) (d := 114) (f := true) rfl rfl r114).trans rfl) (by go_simp) ⟨Pred.ext_refl _ _, rfl⟩
        · intro b X hE hd hn hV
          have r3 : b.tmps[3]?.getD undef = .bool a3 := (hn 3 (by kernel_rfl)).trans rfl
          have r114 : b.tmps[114]?.getD undef = .bool true := hV 36 _ 114 rfl rfl (Pred.waits_near (by kernel_rfl) (by kernel_rfl))
          exact Pred.yields_run (v := .bool a3) ((Pred.wanted_at (g := 36) (d := 114) (f := true) rfl rfl r114).trans rfl) (by go_simp) ⟨Pred.ext_refl _ _, rfl⟩
        · intro b X hE hd hn hV
          have r4 : b.tmps[4]?.getD undef = .bool a4 := (hn 4 (by kernel_rfl)).trans rfl
          have r114 : b.tmps[114]?.getD undef = .bool true := hV 36 _ 114 rfl rfl (Pred.waits_near (by kernel_rfl) (by kernel_rfl))
          exact Pred.yields_run (v := .bool a4) ((Pred.wanted_at (g := 36) (d := 114) (f := true) rfl rfl r114).trans rfl) (by go_simp) ⟨Pred.ext_refl _ _, rfl⟩
        · intro b X hE hd hn hV
          have r115 : b.tmps[115]?.getD undef = .agg (blkV a0_0 a0_1 a0_2 a0_3 a0_4 a0_5) := hV 37 _ 115 rfl rfl (Pred.waits_near (by kernel_rfl) (by kernel_rfl))
          have r116 : b.tmps[116]?.getD undef = .agg (blkV a1_0 a1_1 a1_2 a1_3 a1_4 a1_5) := hV 38 _ 116 rfl rfl (Pred.waits_near (by kernel_rfl) (by kernel_rfl))
          have r117 : b.tmps[117]?.getD undef = .bool a3 := hV 39 _ 117 rfl rfl (Pred.waits_near (by kernel_rfl) (by kernel_rfl))
          have r118 : b.tmps[118]?.getD undef = .bool a4 := hV 40 _ 118 rfl rfl (Pred.waits_near (by kernel_rfl) (by kernel_rfl))
          have r114 : b.tmps[114]?.getD undef = .bool true := hV 36 _ 114 rfl rfl (Pred.waits_near (by kernel_rfl) (by kernel_rfl))
          refine Pred.yields_call (f := 15) (args := #[.agg (blkV a0_0 a0_1 a0_2 a0_3 a0_4 a0_5), .agg (blkV a1_0 a1_1 a1_2 a1_3 a1_4 a1_5), .bool a3, .bool a4]) ((Pred.wanted_at (g := 36) (d := 114) (f := true) rfl rfl r114).trans rfl) (by go_simp) ?_
          exact (newer_any a0_0 a0_1 a0_2 a0_3 a0_4 a0_5 a1_0 a1_1 a1_2 a1_3 a1_4 a1_5 a3 a4 _).mono fun e w2 ⟨he, hb⟩ => ⟨_, he, Pred.ext_below hb hE.size, rfl⟩
        · intro b X hE hd hn hV
          have r6 : b.tmps[6]?.getD undef = .pointer (some ⟨w.heap.size, 0, none⟩) := (hn 6 (by kernel_rfl)).trans rfl
          have r114 : b.tmps[114]?.getD undef = .bool true := hV 36 _ 114 rfl rfl (Pred.waits_near (by kernel_rfl) (by kernel_rfl))
          have q := (blk_below hE _ l1).trans x9
          exact Pred.yields_run (v := .agg (blkV a0_0 a0_1 a0_2 a0_3 a0_4 a0_5)) ((Pred.wanted_at (g := 36) (d := 114) (f := true) rfl rfl r114).trans rfl) (by go_simp) ⟨Pred.ext_refl _ _, rfl⟩
        · intro b X hE hd hn hV
          have r120 : b.tmps[120]?.getD undef = .agg (blkV a0_0 a0_1 a0_2 a0_3 a0_4 a0_5) := hV 42 _ 120 rfl rfl (Pred.waits_near (by kernel_rfl) (by kernel_rfl))
          have r114 : b.tmps[114]?.getD undef = .bool true := hV 36 _ 114 rfl rfl (Pred.waits_near (by kernel_rfl) (by kernel_rfl))
          refine Pred.yields_call (f := 11) (args := #[.agg (blkV a0_0 a0_1 a0_2 a0_3 a0_4 a0_5)]) ((Pred.wanted_at (g := 36) (d := 114) (f := true) rfl rfl r114).trans rfl) (by go_simp) ?_
          exact (flat_any a0_0 a0_1 a0_2 a0_3 a0_4 a0_5 _).mono fun e w2 ⟨he, hb⟩ => ⟨_, he, Pred.ext_below hb hE.size, rfl⟩
        · intro b X hE hd hn hV
          have r7 : b.tmps[7]?.getD undef = .pointer (some ⟨w.heap.size + 1, 0, none⟩) := (hn 7 (by kernel_rfl)).trans rfl
          have r114 : b.tmps[114]?.getD undef = .bool true := hV 36 _ 114 rfl rfl (Pred.waits_near (by kernel_rfl) (by kernel_rfl))
          have q := (blk_below hE _ l2).trans y9
          exact Pred.yields_run (v := .agg (blkV a1_0 a1_1 a1_2 a1_3 a1_4 a1_5)) ((Pred.wanted_at (g := 36) (d := 114) (f := true) rfl rfl r114).trans rfl) (by go_simp) ⟨Pred.ext_refl _ _, rfl⟩
        · intro b X hE hd hn hV
          have r122 : b.tmps[122]?.getD undef = .agg (blkV a1_0 a1_1 a1_2 a1_3 a1_4 a1_5) := hV 44 _ 122 rfl rfl (Pred.waits_near (by kernel_rfl) (by kernel_rfl))
          have r114 : b.tmps[114]?.getD undef = .bool true := hV 36 _ 114 rfl rfl (Pred.waits_near (by kernel_rfl) (by kernel_rfl))
          refine Pred.yields_call (f := 11) (args := #[.agg (blkV a1_0 a1_1 a1_2 a1_3 a1_4 a1_5)]) ((Pred.wanted_at (g := 36) (d := 114) (f := true) rfl rfl r114).trans rfl) (by go_simp) ?_
          exact (flat_any a1_0 a1_1 a1_2 a1_3 a1_4 a1_5 _).mono fun e w2 ⟨he, hb⟩ => ⟨_, he, Pred.ext_below hb hE.size, rfl⟩
        · intro b X hE hd hn hV
          have r3 : b.tmps[3]?.getD undef = .bool a3 := (hn 3 (by kernel_rfl)).trans rfl
          have r114 : b.tmps[114]?.getD undef = .bool true := hV 36 _ 114 rfl rfl (Pred.waits_near (by kernel_rfl) (by kernel_rfl))
          exact Pred.yields_run (v := .bool a3) ((Pred.wanted_at (g := 36) (d := 114) (f := true) rfl rfl r114).trans rfl) (by go_simp) ⟨Pred.ext_refl _ _, rfl⟩
        · intro b X hE hd hn hV
          have r4 : b.tmps[4]?.getD undef = .bool a4 := (hn 4 (by kernel_rfl)).trans rfl
          have r114 : b.tmps[114]?.getD undef = .bool true := hV 36 _ 114 rfl rfl (Pred.waits_near (by kernel_rfl) (by kernel_rfl))
          exact Pred.yields_run (v := .bool a4) ((Pred.wanted_at (g := 36) (d := 114) (f := true) rfl rfl r114).trans rfl) (by go_simp) ⟨Pred.ext_refl _ _, rfl⟩
        · intro b X hE hd hn hV
          have r121 : b.tmps[121]?.getD undef = .agg (blkV a0_0 a0_1 a0_2 a0_3 a0_4 a0_5) := hV 43 _ 121 rfl rfl (Pred.waits_near (by kernel_rfl) (by kernel_rfl))
          have r123 : b.tmps[123]?.getD undef = .agg (blkV a1_0 a1_1 a1_2 a1_3 a1_4 a1_5) := hV 45 _ 123 rfl rfl (Pred.waits_near (by kernel_rfl) (by kernel_rfl))
          have r124 : b.tmps[124]?.getD undef = .bool a3 := hV 46 _ 124 rfl rfl (Pred.waits_near (by kernel_rfl) (by kernel_rfl))
          have r125 : b.tmps[125]?.getD undef = .bool a4 := hV 47 _ 125 rfl rfl (Pred.waits_near (by kernel_rfl) (by kernel_rfl))
          have r114 : b.tmps[114]?.getD undef = .bool true := hV 36 _ 114 rfl rfl (Pred.waits_near (by kernel_rfl) (by kernel_rfl))
          refine Pred.yields_call (f := 16) (args := #[.agg (blkV a0_0 a0_1 a0_2 a0_3 a0_4 a0_5), .agg (blkV a1_0 a1_1 a1_2 a1_3 a1_4 a1_5), .bool a3, .bool a4]) ((Pred.wanted_at (g := 36) (d := 114) (f := true) rfl rfl r114).trans rfl) (by go_simp) ?_
          exact (rnewer_any a0_0 a0_1 a0_2 a0_3 a0_4 a0_5 a1_0 a1_1 a1_2 a1_3 a1_4 a1_5 a3 a4 _).mono fun e w2 ⟨he, hb⟩ => ⟨_, he, Pred.ext_below hb hE.size, rfl⟩
        · intro b X hE hd hn hV
          have r119 : b.tmps[119]?.getD undef = .int .i64 (newV a0_0 a1_0 a3 a4) := hV 41 _ 119 rfl rfl (Pred.waits_near (by kernel_rfl) (by kernel_rfl))
          have r126 : b.tmps[126]?.getD undef = .int .i64 (newV a0_0 a1_0 a3 a4) := hV 48 _ 126 rfl rfl (Pred.waits_near (by kernel_rfl) (by kernel_rfl))
          have r114 : b.tmps[114]?.getD undef = .bool true := hV 36 _ 114 rfl rfl (Pred.waits_near (by kernel_rfl) (by kernel_rfl))
          exact Pred.yields_run (v := .bool true) ((Pred.wanted_at (g := 36) (d := 114) (f := true) rfl rfl r114).trans rfl) (by go_simp) ⟨Pred.ext_refl _ _, rfl⟩
        · intro b X hE hd hn hV
          have r114 : b.tmps[114]?.getD undef = .bool true := hV 36 _ 114 rfl rfl (Pred.waits_near (by kernel_rfl) (by kernel_rfl))
          have r127 : b.tmps[127]?.getD undef = .bool true := hV 49 _ 127 rfl rfl (Pred.waits_near (by kernel_rfl) (by kernel_rfl))
          exact Pred.yields_run (v := .bool true) (Pred.wanted_none rfl) (by go_simp) ⟨Pred.ext_refl _ _, rfl⟩
        · intro b X hE hd hn hV
          have r128 : b.tmps[128]?.getD undef = .bool true := hV 50 _ 128 rfl rfl (Pred.waits_near (by kernel_rfl) (by kernel_rfl))
          exact Pred.yields_run (v := .bool true) (Pred.wanted_none rfl) (by go_simp) ⟨Pred.ext_refl _ _, rfl⟩
        · intro b X hE hd hn hV
          have r129 : b.tmps[129]?.getD undef = .bool true := hV 51 _ 129 rfl rfl (Pred.waits_near (by kernel_rfl) (by kernel_rfl))
          refine Pred.yields_call (f := 6) (args := #[]) ((Pred.wanted_at (g := 51) (d := 129) (f := true) rfl rfl r129).trans rfl) (by go_simp) ?_
          exact (awake_any _).mono fun e w2 ⟨he, hb⟩ => ⟨_, he, Pred.ext_below hb hE.size, rfl⟩
        · intro b X hE hd hn hV
          have r129 : b.tmps[129]?.getD undef = .bool true := hV 51 _ 129 rfl rfl (Pred.waits_near (by kernel_rfl) (by kernel_rfl))
          have r130 : b.tmps[130]?.getD undef = .bool true := hV 52 _ 130 rfl rfl (Pred.waits_near (by kernel_rfl) (by kernel_rfl))
          exact Pred.yields_run (v := .bool true) (Pred.wanted_none rfl) (by go_simp) ⟨Pred.ext_refl _ _, rfl⟩
        · intro b X hE hd hn hV
          have r131 : b.tmps[131]?.getD undef = .bool true := hV 53 _ 131 rfl rfl (Pred.waits_near (by kernel_rfl) (by kernel_rfl))
          exact Pred.yields_run (v := .bool true) (Pred.wanted_none rfl) (by go_simp) ⟨Pred.ext_refl _ _, rfl⟩
      intro v X hE hv
      have e0 : v 0 = .slice (none) 0 0 := hv 0 _ 78 rfl rfl
      have e1 : v 1 = .string (bytesOf ([])) := hv 1 _ 79 rfl rfl
      have e2 : v 2 = .slice (none) 0 0 := hv 2 _ 80 rfl rfl
      have e3 : v 3 = .string (bytesOf ([])) := hv 3 _ 81 rfl rfl
      have e4 : v 4 = .bool true := hv 4 _ 82 rfl rfl
      have e5 : v 5 = .bool true := hv 5 _ 83 rfl rfl
      have e6 : v 6 = .int .i64 1 := hv 6 _ 84 rfl rfl
      have e7 : v 7 = .bool false := hv 7 _ 85 rfl rfl
      have e8 : v 8 = .bool false := hv 8 _ 86 rfl rfl
      have e9 : v 9 = .bool true := hv 9 _ 87 rfl rfl
      have e10 : v 10 = .bool true := hv 10 _ 88 rfl rfl
      have e11 : v 11 = .bool true := hv 11 _ 89 rfl rfl
      have e12 : v 12 = .bool false := hv 12 _ 90 rfl rfl
      have e13 : v 13 = .bool false := hv 13 _ 91 rfl rfl
      have e14 : v 14 = .int .i64 1 := hv 14 _ 92 rfl rfl
      have e15 : v 15 = .bool true := hv 15 _ 93 rfl rfl
      have e16 : v 16 = .bool true := hv 16 _ 94 rfl rfl
      have e17 : v 17 = .bool true := hv 17 _ 95 rfl rfl
      have e18 : v 18 = .bool true := hv 18 _ 96 rfl rfl
      have e19 : v 19 = .agg (decV (zs)) := hv 19 _ 97 rfl rfl
      have e20 : v 20 = .agg (decV (zs)) := hv 20 _ 98 rfl rfl
      have e21 : v 21 = .bool true := hv 21 _ 99 rfl rfl
      have e22 : v 22 = .bool true := hv 22 _ 100 rfl rfl
      have e23 : v 23 = .bool true := hv 23 _ 101 rfl rfl
      have e24 : v 24 = .int .i64 0 := hv 24 _ 102 rfl rfl
      have e25 : v 25 = .bool true := hv 25 _ 103 rfl rfl
      have e26 : v 26 = .bool true := hv 26 _ 104 rfl rfl
      have e27 : v 27 = .bool true := hv 27 _ 105 rfl rfl
      have e28 : v 28 = .bool true := hv 28 _ 106 rfl rfl
      have e29 : v 29 = .bool true := hv 29 _ 107 rfl rfl
      have e30 : v 30 = .bool true := hv 30 _ 108 rfl rfl
      have e31 : v 31 = .bool true := hv 31 _ 109 rfl rfl
      have e32 : v 32 = undef := hv 32 _ 110 rfl rfl
      have e33 : v 33 = undef := hv 33 _ 111 rfl rfl
      have e34 : v 34 = .bool true := hv 34 _ 112 rfl rfl
      have e35 : v 35 = .bool true := hv 35 _ 113 rfl rfl
      have e36 : v 36 = .bool true := hv 36 _ 114 rfl rfl
      have e37 : v 37 = .agg (blkV a0_0 a0_1 a0_2 a0_3 a0_4 a0_5) := hv 37 _ 115 rfl rfl
      have e38 : v 38 = .agg (blkV a1_0 a1_1 a1_2 a1_3 a1_4 a1_5) := hv 38 _ 116 rfl rfl
      have e39 : v 39 = .bool a3 := hv 39 _ 117 rfl rfl
      have e40 : v 40 = .bool a4 := hv 40 _ 118 rfl rfl
      have e41 : v 41 = .int .i64 (newV a0_0 a1_0 a3 a4) := hv 41 _ 119 rfl rfl
      have e42 : v 42 = .agg (blkV a0_0 a0_1 a0_2 a0_3 a0_4 a0_5) := hv 42 _ 120 rfl rfl
      have e43 : v 43 = .agg (blkV a0_0 a0_1 a0_2 a0_3 a0_4 a0_5) := hv 43 _ 121 rfl rfl
      have e44 : v 44 = .agg (blkV a1_0 a1_1 a1_2 a1_3 a1_4 a1_5) := hv 44 _ 122 rfl rfl
      have e45 : v 45 = .agg (blkV a1_0 a1_1 a1_2 a1_3 a1_4 a1_5) := hv 45 _ 123 rfl rfl
      have e46 : v 46 = .bool a3 := hv 46 _ 124 rfl rfl
      have e47 : v 47 = .bool a4 := hv 47 _ 125 rfl rfl
      have e48 : v 48 = .int .i64 (newV a0_0 a1_0 a3 a4) := hv 48 _ 126 rfl rfl
      have e49 : v 49 = .bool true := hv 49 _ 127 rfl rfl
      have e50 : v 50 = .bool true := hv 50 _ 128 rfl rfl
      have e51 : v 51 = .bool true := hv 51 _ 129 rfl rfl
      have e52 : v 52 = .bool true := hv 52 _ 130 rfl rfl
      have e53 : v 53 = .bool true := hv 53 _ 131 rfl rfl
      have e54 : v 54 = .bool true := hv 54 _ 12 rfl rfl
      simp only [Pred.putsF_cons, Pred.putsF_nil, Nat.zero_add, Nat.reduceAdd, e0, e1, e2, e3, e4, e5, e6, e7, e8, e9, e10, e11, e12, e13, e14, e15, e16, e17, e18, e19, e20, e21, e22, e23, e24, e25, e26, e27, e28, e29, e30, e31, e32, e33, e34, e35, e36, e37, e38, e39, e40, e41, e42, e43, e44, e45, e46, e47, e48, e49, e50, e51, e52, e53, e54, Act.put, List.setIfInBounds_toArray, List.set_cons_zero, List.set_cons_succ]
      clear e0 e1 e2 e3 e4 e5 e6 e7 e8 e9 e10 e11 e12 e13 e14 e15 e16 e17 e18 e19 e20 e21 e22 e23 e24 e25 e26 e27 e28 e29 e30 e31 e32 e33 e34 e35 e36 e37 e38 e39 e40 e41 e42 e43 e44 e45 e46 e47 e48 e49 e50 e51 e52 e53 e54 hv
      have sZ := hE.size
      have L10 : Below w.heap.size w X := L9.trans (hE.mono L9.size)
      go_wp2
      go_ret
      exact ⟨rfl, L10⟩
  · cases hD : decOK (zs)
    · have l1 := blk_lt x2
      have l2 := blk_lt y2
      have l3 := blk_lt t2
      go_wp2_with fail
      refine (encode_yes _ _ _ _ _ _ _ hM bg bd bs bl hm).mono ?_
      rintro e w3 ⟨aE, c3, rfl, hc31, hc32, RA, hb3⟩
      have x3 := (blk_below hb3 _ l1).trans x2
      have y3 := (blk_below hb3 _ l2).trans y2
      have t3 := (blk_below hb3 _ l3).trans t2
      have hR3 := hR2.below hb3 (Nat.le_refl _)
      have s3 := hb3.size
      have L3 : Below w.heap.size w w3 := by repeat' (first | (with_reducible exact Below.refl _ _) | (with_reducible refine Rd.below_step ?_ (by assumption)) | (with_reducible refine Rd.below_alloc ?_ _) | (with_reducible refine Rd.below_drewN ?_ _) | (with_reducible refine Below.drew ?_) | (with_reducible refine Below.setCell ?_ ?_ _) | (with_reducible refine Rd.below_setRow ?_ ?_ _) | go_size | (simp only [World.size_alloc]; omega) | omega)
      clear x2 y2 t2 hR2 hb3 L2 l1 l2 l3
      have l1 := blk_lt x3
      have l2 := blk_lt y3
      have l3 := blk_lt t3
      go_wp2_with fail
      refine (flat_any _ _ _ _ _ _ _).mono ?_
      rintro e w4 ⟨rfl, hb4⟩
      have x4 := (blk_below hb4 _ l1).trans x3
      have y4 := (blk_below hb4 _ l2).trans y3
      have t4 := (blk_below hb4 _ l3).trans t3
      have hR4 := hR3.below hb4 (Nat.le_refl _)
      have RA4 := RA.below hb4 (Nat.le_refl _)
      have s4 := hb4.size
      have L4 : Below w.heap.size w w4 := by repeat' (first | (with_reducible exact Below.refl _ _) | (with_reducible refine Rd.below_step ?_ (by assumption)) | (with_reducible refine Rd.below_alloc ?_ _) | (with_reducible refine Rd.below_drewN ?_ _) | (with_reducible refine Below.drew ?_) | (with_reducible refine Below.setCell ?_ ?_ _) | (with_reducible refine Rd.below_setRow ?_ ?_ _) | go_size | (simp only [World.size_alloc]; omega) | omega)
      clear x3 y3 t3 hR3 RA hb4 L3 l1 l2 l3
      have l1 := blk_lt x4
      have l2 := blk_lt y4
      have l3 := blk_lt t4
      go_wp2_with fail
      refine (head_yes _ _ _ _ _ _ _ hM bg bd bs bl hm).mono ?_
      rintro e w5 ⟨a5', c5, rfl, hc51, hc52, RC, hb5⟩
      have x5 := (blk_below hb5 _ l1).trans x4
      have y5 := (blk_below hb5 _ l2).trans y4
      have t5 := (blk_below hb5 _ l3).trans t4
      have hR5 := hR4.below hb5 (Nat.le_refl _)
      have RA5 := RA4.below hb5 (Nat.le_refl _)
      have s5 := hb5.size
      have L5 : Below w.heap.size w w5 := by repeat' (first | (with_reducible exact Below.refl _ _) | (with_reducible refine Rd.below_step ?_ (by assumption)) | (with_reducible refine Rd.below_alloc ?_ _) | (with_reducible refine Rd.below_drewN ?_ _) | (with_reducible refine Below.drew ?_) | (with_reducible refine Below.setCell ?_ ?_ _) | (with_reducible refine Rd.below_setRow ?_ ?_ _) | go_size | (simp only [World.size_alloc]; omega) | omega)
      clear x4 y4 t4 hR4 RA4 hb5 L4 l1 l2 l3
      have l1 := blk_lt x5
      have l2 := blk_lt y5
      have l3 := blk_lt t5
      go_wp2_with fail
      refine (decode_all a2 len2 cap2 zs _ hR5 hz (by omega) (by omega) (by omega)).mono ?_
      rintro e w6 ⟨rfl, hb6⟩
      rw [decRes_no hD]
      have x6 := (blk_below hb6 _ l1).trans x5
      have y6 := (blk_below hb6 _ l2).trans y5
      have hR6 := hR5.below hb6 (Nat.le_refl _)
      have RA6 := RA5.below hb6 (Nat.le_refl _)
      have RC6 := RC.below hb6 (Nat.le_refl _)
      have s6 := hb6.size
      have L6 : Below w.heap.size w w6 := by repeat' (first | (with_reducible exact Below.refl _ _) | (with_reducible refine Rd.below_step ?_ (by assumption)) | (with_reducible refine Rd.below_alloc ?_ _) | (with_reducible refine Rd.below_drewN ?_ _) | (with_reducible refine Below.drew ?_) | (with_reducible refine Below.setCell ?_ ?_ _) | (with_reducible refine Rd.below_setRow ?_ ?_ _) | go_size | (simp only [World.size_alloc]; omega) | omega)
      clear x5 y5 t5 hR5 RA5 RC hb6 L5 l1 l2 l3
      have l1 := blk_lt x6
      have l2 := blk_lt y6
      go_upto_region 11 with (fail)
      refine Rd.name_world ?_
      intro V hV
      have x7 : blk V w.heap.size = some (.cells (blkV a0_0 a0_1 a0_2 a0_3 a0_4 a0_5) 24 (0, 0)) := by rw [hV, blk_alloc_old _ _ _ l1]; exact x6
      have y7 : blk V (w.heap.size + 1) = some (.cells (blkV a1_0 a1_1 a1_2 a1_3 a1_4 a1_5) 24 (0, 0)) := by rw [hV, blk_alloc_old _ _ _ l2]; exact y6
      have d7 : blk V w6.heap.size = some (.cells zeroB 24 (0, 0)) := by rw [hV]; exact blk_alloc_at _ _ _ rfl
      have BV : Below w6.heap.size w6 V := by rw [hV]; exact (Below.refl _ _).alloc (Nat.le_refl _) _
      have hR7 := hR6.below BV (Nat.le_refl _)
      have RA7 := RA6.below BV (Nat.le_refl _)
      have RC7 := RC6.below BV (Nat.le_refl _)
      have s7 := BV.size
      have L7 : Below w.heap.size w V := L6.trans (BV.mono L6.size)
      clear hV x6 y6 hR6 RA6 RC6 BV L6 l1 l2
      have l1 := blk_lt x7
      have l2 := blk_lt y7
      have l4 := blk_lt d7
      go_wp2_with fail
      refine (readHead_all a2 len2 cap2 zs _ hR7 hz (by omega) (by omega) (by omega)).mono ?_
      rintro e w8 ⟨rfl, hb8⟩
      rw [rdRes_no hD]
      have x8 := (blk_below hb8 _ l1).trans x7
      have y8 := (blk_below hb8 _ l2).trans y7
      have d8 := (blk_below hb8 _ l4).trans d7
      have RA8 := RA7.below hb8 (Nat.le_refl _)
      have RC8 := RC7.below hb8 (Nat.le_refl _)
      have s8 := hb8.size
      have L8 : Below w.heap.size w w8 := by repeat' (first | (with_reducible exact Below.refl _ _) | (with_reducible refine Rd.below_step ?_ (by assumption)) | (with_reducible refine Rd.below_alloc ?_ _) | (with_reducible refine Rd.below_drewN ?_ _) | (with_reducible refine Below.drew ?_) | (with_reducible refine Below.setCell ?_ ?_ _) | (with_reducible refine Rd.below_setRow ?_ ?_ _) | go_size | (simp only [World.size_alloc]; omega) | omega)
      clear x7 y7 d7 hR7 RA7 RC7 hb8 L7 l1 l2 l4
      have l1 := blk_lt x8
      have l2 := blk_lt y8
      have l4 := blk_lt d8
      go_upto_region 12 with (fail)
      refine Rd.name_world ?_
      intro W' hV
      have x9 : blk W' w.heap.size = some (.cells (blkV a0_0 a0_1 a0_2 a0_3 a0_4 a0_5) 24 (0, 0)) := by rw [hV, blk_alloc_old _ _ _ l1]; exact x8
      have y9 : blk W' (w.heap.size + 1) = some (.cells (blkV a1_0 a1_1 a1_2 a1_3 a1_4 a1_5) 24 (0, 0)) := by rw [hV, blk_alloc_old _ _ _ l2]; exact y8
      have d9 : blk W' w6.heap.size = some (.cells zeroB 24 (0, 0)) := by rw [hV, blk_alloc_old _ _ _ l4]; exact d8
      have f9 : blk W' w8.heap.size = some (.cells zeroB 37 (0, 0)) := by rw [hV]; exact blk_alloc_at _ _ _ rfl
      have BV : Below w8.heap.size w8 W' := by rw [hV]; exact (Below.refl _ _).alloc (Nat.le_refl _) _
      have RA9 := RA8.below BV (Nat.le_refl _)
      have RC9 := RC8.below BV (Nat.le_refl _)
      have L9 : Below w.heap.size w W' := L8.trans (BV.mono L8.size)
      clear hV x8 y8 d8 RA8 RC8 BV L8 l1 l2 l4
      have l1 := blk_lt x9
      have l2 := blk_lt y9
      have l4 := blk_lt d9
      have l5 := blk_lt f9
      refine Pred.region_vals (Pred.Of [
          Is (.slice (aE) 32 c3),
          Is (.string (bytesOf (encL a0_0 a0_1 a0_2 a0_3 a0_4 a0_5))),
          Is (.slice (a5') 32 c5),
          Is (.string (bytesOf (encL a0_0 a0_1 a0_2 a0_3 a0_4 a0_5))),
          Is (.bool true),
          Is (.bool true),
          Is (.int .i64 0),
          Is (.bool true),
          Is (.bool true),
          Is (.bool true),
          Is (.bool true),
          Is (.bool true),
          Is (.bool true),
          Is (.bool true),
          Is (undef),
          Is (undef),
          Is (.bool true),
          Is (.bool true),
          Is (.bool true),
          Is (.agg (zeroB)),
          Is (.agg (zeroB)),
          Is (.bool true),
          Is (.bool true),
          Is (.bool true),
          Is (.int .i64 3),
          Is (.bool false),
          Is (.bool false),
          Is (.bool true),
          Is (.bool true),
          Is (.bool true),
          Is (.bool false),
          Is (.bool false),
          Is (.int .i64 3),
          Is (.bool true),
          Is (.bool true),
          Is (.bool true),
          Is (.bool true),
          Is (.agg (blkV a0_0 a0_1 a0_2 a0_3 a0_4 a0_5)),
          Is (.agg (blkV a1_0 a1_1 a1_2 a1_3 a1_4 a1_5)),
          Is (.bool a3),
          Is (.bool a4),
          Is (.int .i64 (newV a0_0 a1_0 a3 a4)),
          Is (.agg (blkV a0_0 a0_1 a0_2 a0_3 a0_4 a0_5)),
          Is (.agg (blkV a0_0 a0_1 a0_2 a0_3 a0_4 a0_5)),
          Is (.agg (blkV a1_0 a1_1 a1_2 a1_3 a1_4 a1_5)),
          Is (.agg (blkV a1_0 a1_1 a1_2 a1_3 a1_4 a1_5)),
          Is (.bool a3),
          Is (.bool a4),
          Is (.int .i64 (newV a0_0 a1_0 a3 a4)),
          Is (.bool true),
          Is (.bool true),
          Is (.bool true),
          Is (.bool true),
          Is (.bool true),
          Is (.bool true)]) (by kernel_rfl) (by kernel_rfl) (by kernel_rfl) (Pred.of_stab ?_) ?_ ?_
      · exact ⟨is_stab _, is_stab _, is_stab _, is_stab _, is_stab _, is_stab _, is_stab _, is_stab _, is_stab _, is_stab _, is_stab _, is_stab _, is_stab _, is_stab _, is_stab _, is_stab _, is_stab _, is_stab _, is_stab _, is_stab _, is_stab _, is_stab _, is_stab _, is_stab _, is_stab _, is_stab _, is_stab _, is_stab _, is_stab _, is_stab _, is_stab _, is_stab _, is_stab _, is_stab _, is_stab _, is_stab _, is_stab _, is_stab _, is_stab _, is_stab _, is_stab _, is_stab _, is_stab _, is_stab _, is_stab _, is_stab _, is_stab _, is_stab _, is_stab _, is_stab _, is_stab _, is_stab _, is_stab _, is_stab _, is_stab _, trivial⟩
      · refine ⟨?_, ?_, ?_, ?_, ?_, ?_, ?_, ?_, ?_, ?_, ?_, ?_, ?_, ?_, ?_, ?_, ?_, ?_, ?_, ?_, ?_, ?_, ?_, ?_, ?_, ?_, ?_, ?_, ?_, ?_, ?_, ?_, ?_, ?_, ?_, ?_, ?_, ?_, ?_, ?_, ?_, ?_, ?_, ?_, ?_, ?_, ?_, ?_, ?_, ?_, ?_, ?_, ?_, ?_, ?_, trivial⟩
        · intro b X hE hd hn hV
          have r16 : b.tmps[16]?.getD undef = .slice (aE) 32 c3 := (hn 16 (by kernel_rfl)).trans rfl
          exact Pred.yields_run (v := .slice (aE) 32 c3) (Pred.wanted_none rfl) (by go_simp) ⟨Pred.ext_refl _ _, rfl⟩
        · intro b X hE hd hn hV
          have r78 : b.tmps[78]?.getD undef = .slice (aE) 32 c3 := hV 0 _ 78 rfl rfl (Pred.waits_near (by kernel_rfl) (by kernel_rfl))
          have v1 := conv_reads (P := Try.prog) (cap := c3) Try.underlying25 Try.underlying5 Try.underlying9 (RA9.below hE (Nat.le_refl _)) (encL_bd _ _ _ _ _ _)
          exact Pred.yields_run (v := .string (bytesOf (encL a0_0 a0_1 a0_2 a0_3 a0_4 a0_5))) (Pred.wanted_none rfl) (by go_simp) ⟨Pred.ext_refl _ _, rfl⟩
        · intro b X hE hd hn hV
          have r18 : b.tmps[18]?.getD undef = .slice (a5') 32 c5 := (hn 18 (by kernel_rfl)).trans rfl
          exact Pred.yields_run (v := .slice (a5') 32 c5) (Pred.wanted_none rfl) (by go_simp) ⟨Pred.ext_refl _ _, rfl⟩
        · intro b X hE hd hn hV
          have r80 : b.tmps[80]?.getD undef = .slice (a5') 32 c5 := hV 2 _ 80 rfl rfl (Pred.waits_near (by kernel_rfl) (by kernel_rfl))
          have v1 := conv_reads (P := Try.prog) (cap := c5) Try.underlying25 Try.underlying5 Try.underlying9 (RC9.below hE (Nat.le_refl _)) (encL_bd _ _ _ _ _ _)
          exact Pred.yields_run (v := .string (bytesOf (encL a0_0 a0_1 a0_2 a0_3 a0_4 a0_5))) (Pred.wanted_none rfl) (by go_simp) ⟨Pred.ext_refl _ _, rfl⟩
        · intro b X hE hd hn hV
          have r79 : b.tmps[79]?.getD undef = .string (bytesOf (encL a0_0 a0_1 a0_2 a0_3 a0_4 a0_5)) := hV 1 _ 79 rfl rfl (Pred.waits_near (by kernel_rfl) (by kernel_rfl))
          have r81 : b.tmps[81]?.getD undef = .string (bytesOf (encL a0_0 a0_1 a0_2 a0_3 a0_4 a0_5)) := hV 3 _ 81 rfl rfl (Pred.waits_near (by kernel_rfl) (by kernel_rfl))
          exact Pred.yields_run (v := .bool true) (Pred.wanted_none rfl) (by go_simp) ⟨Pred.ext_refl _ _, rfl⟩
        · intro b X hE hd hn hV
          have r82 : b.tmps[82]?.getD undef = .bool true := hV 4 _ 82 rfl rfl (Pred.waits_near (by kernel_rfl) (by kernel_rfl))
          exact Pred.yields_run (v := .bool true) (Pred.wanted_none rfl) (by go_simp) ⟨Pred.ext_refl _ _, rfl⟩
        · intro b X hE hd hn hV
          have r17 : b.tmps[17]?.getD undef = .int .i64 0 := (hn 17 (by kernel_rfl)).trans rfl
          have r83 : b.tmps[83]?.getD undef = .bool true := hV 5 _ 83 rfl rfl (Pred.waits_near (by kernel_rfl) (by kernel_rfl))
          exact Pred.yields_run (v := .int .i64 0) ((Pred.wanted_at (g := 5) (d := 83) (f := true) rfl rfl r83).trans rfl) (by go_simp) ⟨Pred.ext_refl _ _, rfl⟩
        · intro b X hE hd hn hV
          have r84 : b.tmps[84]?.getD undef = .int .i64 0 := hV 6 _ 84 rfl rfl (Pred.waits_near (by kernel_rfl) (by kernel_rfl))
          have r83 : b.tmps[83]?.getD undef = .bool true := hV 5 _ 83 rfl rfl (Pred.waits_near (by kernel_rfl) (by kernel_rfl))
          exact Pred.yields_run (v := .bool true) ((Pred.wanted_at (g := 5) (d := 83) (f := true) rfl rfl r83).trans rfl) (by go_simp) ⟨Pred.ext_refl _ _, rfl⟩
        · intro b X hE hd hn hV
          have r19 : b.tmps[19]?.getD undef = .bool true := (hn 19 (by kernel_rfl)).trans rfl
          have r83 : b.tmps[83]?.getD undef = .bool true := hV 5 _ 83 rfl rfl (Pred.waits_near (by kernel_rfl) (by kernel_rfl))
          exact Pred.yields_run (v := .bool true) ((Pred.wanted_at (g := 5) (d := 83) (f := true) rfl rfl r83).trans rfl) (by go_simp) ⟨Pred.ext_refl _ _, rfl⟩
        · intro b X hE hd hn hV
          have r85 : b.tmps[85]?.getD undef = .bool true := hV 7 _ 85 rfl rfl (Pred.waits_near (by kernel_rfl) (by kernel_rfl))
          have r86 : b.tmps[86]?.getD undef = .bool true := hV 8 _ 86 rfl rfl (Pred.waits_near (by kernel_rfl) (by kernel_rfl))
          have r83 : b.tmps[83]?.getD undef = .bool true := hV 5 _ 83 rfl rfl (Pred.waits_near (by kernel_rfl) (by kernel_rfl))
          exact Pred.yields_run (v := .bool true) ((Pred.wanted_at (g := 5) (d := 83) (f := true) rfl rfl r83).trans rfl) (by go_simp) ⟨Pred.ext_refl _ _, rfl⟩
        · intro b X hE hd hn hV
          have r83 : b.tmps[83]?.getD undef = .bool true := hV 5 _ 83 rfl rfl (Pred.waits_near (by kernel_rfl) (by kernel_rfl))
          have r87 : b.tmps[87]?.getD undef = .bool true := hV 9 _ 87 rfl rfl (Pred.waits_near (by kernel_rfl) (by kernel_rfl))
          exact Pred.yields_run (v := .bool true) (Pred.wanted_none rfl) (by go_simp) ⟨Pred.ext_refl _ _, rfl⟩
        · intro b X hE hd hn hV
          have r88 : b.tmps[88]?.getD undef = .bool true := hV 10 _ 88 rfl rfl (Pred.waits_near (by kernel_rfl) (by kernel_rfl))
          exact Pred.yields_run (v := .bool true) (Pred.wanted_none rfl) (by go_simp) ⟨Pred.ext_refl _ _, rfl⟩
        · intro b X hE hd hn hV
          have r19 : b.tmps[19]?.getD undef = .bool true := (hn 19 (by kernel_rfl)).trans rfl
          have r89 : b.tmps[89]?.getD undef = .bool true := hV 11 _ 89 rfl rfl (Pred.waits_near (by kernel_rfl) (by kernel_rfl))
          exact Pred.yields_run (v := .bool true) ((Pred.wanted_at (g := 11) (d := 89) (f := true) rfl rfl r89).trans rfl) (by go_simp) ⟨Pred.ext_refl _ _, rfl⟩
        · intro b X hE hd hn hV
          have r90 : b.tmps[90]?.getD undef = .bool true := hV 12 _ 90 rfl rfl (Pred.waits_near (by kernel_rfl) (by kernel_rfl))
          have r89 : b.tmps[89]?.getD undef = .bool true := hV 11 _ 89 rfl rfl (Pred.waits_near (by kernel_rfl) (by kernel_rfl))
          exact Pred.yields_run (v := .bool true) ((Pred.wanted_at (g := 11) (d := 89) (f := true) rfl rfl r89).trans rfl) (by go_simp) ⟨Pred.ext_refl _ _, rfl⟩
        · intro b X hE hd hn hV
          have r91 : b.tmps[91]?.getD undef = .bool true := hV 13 _ 91 rfl rfl (Pred.waits_near (by kernel_rfl) (by kernel_rfl))
          exact Pred.yields_not ((Pred.wanted_at (g := 13) (d := 91) (f := false) rfl rfl r91).trans rfl) ⟨Pred.ext_refl _ _, rfl⟩
        · intro b X hE hd hn hV
          have r91 : b.tmps[91]?.getD undef = .bool true := hV 13 _ 91 rfl rfl (Pred.waits_near (by kernel_rfl) (by kernel_rfl))
          exact Pred.yields_not ((Pred.wanted_at (g := 13) (d := 91) (f := false) rfl rfl r91).trans rfl) ⟨Pred.ext_refl _ _, rfl⟩
        · intro b X hE hd hn hV
          have r91 : b.tmps[91]?.getD undef = .bool true := hV 13 _ 91 rfl rfl (Pred.waits_near (by kernel_rfl) (by kernel_rfl))
          have r93 : b.tmps[93]?.getD undef = undef := hV 15 _ 93 rfl rfl (Pred.waits_near (by kernel_rfl) (by kernel_rfl))
          have r89 : b.tmps[89]?.getD undef = .bool true := hV 11 _ 89 rfl rfl (Pred.waits_near (by kernel_rfl) (by kernel_rfl))
          exact Pred.yields_run (v := .bool true) ((Pred.wanted_at (g := 11) (d := 89) (f := true) rfl rfl r89).trans rfl) (by go_simp) ⟨Pred.ext_refl _ _, rfl⟩
        · intro b X hE hd hn hV
          have r89 : b.tmps[89]?.getD undef = .bool true := hV 11 _ 89 rfl rfl (Pred.waits_near (by kernel_rfl) (by kernel_rfl))
          have r94 : b.tmps[94]?.getD undef = .bool true := hV 16 _ 94 rfl rfl (Pred.waits_near (by kernel_rfl) (by kernel_rfl))
          exact Pred.yields_run (v := .bool true) (Pred.wanted_none rfl) (by go_simp) ⟨Pred.ext_refl _ _, rfl⟩
        · intro b X hE hd hn hV
          have r95 : b.tmps[95]?.getD undef = .bool true := hV 17 _ 95 rfl rfl (Pred.waits_near (by kernel_rfl) (by kernel_rfl))
          exact Pred.yields_run (v := .bool true) (Pred.wanted_none rfl) (by go_simp) ⟨Pred.ext_refl _ _, rfl⟩
        · intro b X hE hd hn hV
          have r20 : b.tmps[20]?.getD undef = .pointer (some ⟨w6.heap.size, 0, none⟩) := (hn 20 (by kernel_rfl)).trans rfl
          have r96 : b.tmps[96]?.getD undef = .bool true := hV 18 _ 96 rfl rfl (Pred.waits_near (by kernel_rfl) (by kernel_rfl))
          have q := (blk_below hE _ l4).trans d9
          exact Pred.yields_run (v := .agg (zeroB)) ((Pred.wanted_at (g := 18) (d := 96) (f := true) rfl rfl r96).trans rfl) (by go_simp) ⟨Pred.ext_refl _ _, rfl⟩
        · intro b X hE hd hn hV
          have r22 : b.tmps[22]?.getD undef = .pointer (some ⟨w8.heap.size, 0, none⟩) := (hn 22 (by kernel_rfl)).trans rfl
          have r96 : b.tmps[96]?.getD undef = .bool true := hV 18 _ 96 rfl rfl (Pred.waits_near (by kernel_rfl) (by kernel_rfl))
          have q := (blk_below hE _ l5).trans f9
          exact Pred.yields_run (v := .agg (zeroB)) ((Pred.wanted_at (g := 18) (d := 96) (f := true) rfl rfl r96).trans rfl) (by go_simp) ⟨Pred.ext_refl _ _, rfl⟩
        · intro b X hE hd hn hV
          have r97 : b.tmps[97]?.getD undef = .agg (zeroB) := hV 19 _ 97 rfl rfl (Pred.waits_near (by kernel_rfl) (by kernel_rfl))
          have r98 : b.tmps[98]?.getD undef = .agg (zeroB) := hV 20 _ 98 rfl rfl (Pred.waits_near (by kernel_rfl) (by kernel_rfl))
          have r96 : b.tmps[96]?.getD undef = .bool true := hV 18 _ 96 rfl rfl (Pred.waits_near (by kernel_rfl) (by kernel_rfl))
          refine Pred.yields_call (f := 14) (args := #[.agg (zeroB), .agg (zeroB)]) ((Pred.wanted_at (g := 18) (d := 96) (f := true) rfl rfl r96).trans rfl) (by go_simp) ?_
          exact (same_any 0 0 false 0 0 0 _).mono fun e w2 ⟨he, hb⟩ => ⟨_, he, Pred.ext_below hb hE.size, rfl⟩
        · intro b X hE hd hn hV
          have r96 : b.tmps[96]?.getD undef = .bool true := hV 18 _ 96 rfl rfl (Pred.waits_near (by kernel_rfl) (by kernel_rfl))
          have r99 : b.tmps[99]?.getD undef = .bool true := hV 21 _ 99 rfl rfl (Pred.waits_near (by kernel_rfl) (by kernel_rfl))
          exact Pred.yields_run (v := .bool true) (Pred.wanted_none rfl) (by go_simp) ⟨Pred.ext_refl _ _, rfl⟩
        · intro b X hE hd hn hV
          have r100 : b.tmps[100]?.getD undef = .bool true := hV 22 _ 100 rfl rfl (Pred.waits_near (by kernel_rfl) (by kernel_rfl))
          exact Pred.yields_run (v := .bool true) (Pred.wanted_none rfl) (by go_simp) ⟨Pred.ext_refl _ _, rfl⟩
        · intro b X hE hd hn hV
          have r21 : b.tmps[21]?.getD undef = .int .i64 3 := (hn 21 (by kernel_rfl)).trans rfl
          have r101 : b.tmps[101]?.getD undef = .bool true := hV 23 _ 101 rfl rfl (Pred.waits_near (by kernel_rfl) (by kernel_rfl))
          exact Pred.yields_run (v := .int .i64 3) ((Pred.wanted_at (g := 23) (d := 101) (f := true) rfl rfl r101).trans rfl) (by go_simp) ⟨Pred.ext_refl _ _, rfl⟩
        · intro b X hE hd hn hV
          have r102 : b.tmps[102]?.getD undef = .int .i64 3 := hV 24 _ 102 rfl rfl (Pred.waits_near (by kernel_rfl) (by kernel_rfl))
          have r101 : b.tmps[101]?.getD undef = .bool true := hV 23 _ 101 rfl rfl (Pred.waits_near (by kernel_rfl) (by kernel_rfl))
          exact Pred.yields_run (v := .bool false) ((Pred.wanted_at (g := 23) (d := 101) (f := true) rfl rfl r101).trans rfl) (by go_simp) ⟨Pred.ext_refl _ _, rfl⟩
        · intro b X hE hd hn hV
          have r23 : b.tmps[23]?.getD undef = .bool false := (hn 23 (by kernel_rfl)).trans rfl
          have r101 : b.tmps[101]?.getD undef = .bool true := hV 23 _ 101 rfl rfl (Pred.waits_near (by kernel_rfl) (by kernel_rfl))
          exact Pred.yields_run (v := .bool false) ((Pred.wanted_at (g := 23) (d := 101) (f := true) rfl rfl r101).trans rfl) (by go_simp) ⟨Pred.ext_refl _ _, rfl⟩
        · intro b X hE hd hn hV
          have r103 : b.tmps[103]?.getD undef = .bool false := hV 25 _ 103 rfl rfl (Pred.waits_near (by kernel_rfl) (by kernel_rfl))
          have r104 : b.tmps[104]?.getD undef = .bool false := hV 26 _ 104 rfl rfl (Pred.waits_near (by kernel_rfl) (by kernel_rfl))
          have r101 : b.tmps[101]?.getD undef = .bool true := hV 23 _ 101 rfl rfl (Pred.waits_near (by kernel_rfl) (by kernel_rfl))
          exact Pred.yields_run (v := .bool true) ((Pred.wanted_at (g := 23) (d := 101) (f := true) rfl rfl r101).trans rfl) (by go_simp) ⟨Pred.ext_refl _ _, rfl⟩
        · intro b X hE hd hn hV
          have r101 : b.tmps[101]?.getD undef = .bool true := hV 23 _ 101 rfl rfl (Pred.waits_near (by kernel_rfl) (by kernel_rfl))
          have r105 : b.tmps[105]?.getD undef = .bool true := hV 27 _ 105 rfl rfl (Pred.waits_near (by kernel_rfl) (by kernel_rfl))
          exact Pred.yields_run (v := .bool true) (Pred.wanted_none rfl) (by go_simp) ⟨Pred.ext_refl _ _, rfl⟩
        · intro b X hE hd hn hV
          have r106 : b.tmps[106]?.getD undef = .bool true := hV 28 _ 106 rfl rfl (Pred.waits_near (by kernel_rfl) (by kernel_rfl))
          exact Pred.yields_run (v := .bool true) (Pred.wanted_none rfl) (by go_simp) ⟨Pred.ext_refl _ _, rfl⟩
        · intro b X hE hd hn hV
          have r23 : b.tmps[23]?.getD undef = .bool false := (hn 23 (by kernel_rfl)).trans rfl
          have r107 : b.tmps[107]?.getD undef = .bool true := hV 29 _ 107 rfl rfl (Pred.waits_near (by kernel_rfl) (by kernel_rfl))
          exact Pred.yields_run (v := .bool false) ((Pred.wanted_at (g := 29) (d := 107) (f := true) rfl rfl r107).trans rfl) (by go_simp) ⟨Pred.ext_refl _ _, rfl⟩
        · intro b X hE hd hn hV
          have r108 : b.tmps[108]?.getD undef = .bool false := hV 30 _ 108 rfl rfl (Pred.waits_near (by kernel_rfl) (by kernel_rfl))
          have r107 : b.tmps[107]?.getD undef = .bool true := hV 29 _ 107 rfl rfl (Pred.waits_near (by kernel_rfl) (by kernel_rfl))
          exact Pred.yields_run (v := .bool false) ((Pred.wanted_at (g := 29) (d := 107) (f := true) rfl rfl r107).trans rfl) (by go_simp) ⟨Pred.ext_refl _ _, rfl⟩
        · intro b X hE hd hn hV
          have r21 : b.tmps[21]?.getD undef = .int .i64 3 := (hn 21 (by kernel_rfl)).trans rfl
          have r109 : b.tmps[109]?.getD undef = .bool false := hV 31 _ 109 rfl rfl (Pred.waits_near (by kernel_rfl) (by kernel_rfl))
          exact Pred.yields_run (v := .int .i64 3) ((Pred.wanted_at (g := 31) (d := 109) (f := false) rfl rfl r109).trans rfl) (by go_simp) ⟨Pred.ext_refl _ _, rfl⟩
        · intro b X hE hd hn hV
          have r110 : b.tmps[110]?.getD undef = .int .i64 3 := hV 32 _ 110 rfl rfl (Pred.waits_near (by kernel_rfl) (by kernel_rfl))
          have r109 : b.tmps[109]?.getD undef = .bool false := hV 31 _ 109 rfl rfl (Pred.waits_near (by kernel_rfl) (by kernel_rfl))
          exact Pred.yields_run (v := .bool true) ((Pred.wanted_at (g := 31) (d := 109) (f := false) rfl rfl r109).trans rfl) (by go_simp) ⟨Pred.ext_refl _ _, rfl⟩
        · intro b X hE hd hn hV
          have r109 : b.tmps[109]?.getD undef = .bool false := hV 31 _ 109 rfl rfl (Pred.waits_near (by kernel_rfl) (by kernel_rfl))
          have r111 : b.tmps[111]?.getD undef = .bool true := hV 33 _ 111 rfl rfl (Pred.waits_near (by kernel_rfl) (by kernel_rfl))
          have r107 : b.tmps[107]?.getD undef = .bool true := hV 29 _ 107 rfl rfl (Pred.waits_near (by kernel_rfl) (by kernel_rfl))
          exact Pred.yields_run (v := .bool true) ((Pred.wanted_at (g := 29) (d := 107) (f := true) rfl rfl r107).trans rfl) (by go_simp) ⟨Pred.ext_refl _ _, rfl⟩
        · intro b X hE hd hn hV
          have r107 : b.tmps[107]?.getD undef = .bool true := hV 29 _ 107 rfl rfl (Pred.waits_near (by kernel_rfl) (by kernel_rfl))
          have r112 : b.tmps[112]?.getD undef = .bool true := hV 34 _ 112 rfl rfl (Pred.waits_near (by kernel_rfl) (by kernel_rfl))
          exact Pred.yields_run (v := .bool true) (Pred.wanted_none rfl) (by go_simp) ⟨Pred.ext_refl _ _, rfl⟩
        · intro b X hE hd hn hV
          have r113 : b.tmps[113]?.getD undef = .bool true := hV 35 _ 113 rfl rfl (Pred.waits_near (by kernel_rfl) (by kernel_rfl))
          exact Pred.yields_run (v := .bool true) (Pred.wanted_none rfl) (by go_simp) ⟨Pred.ext_refl _ _, rfl⟩
        · intro b X hE hd hn hV
          have r6 : b.tmps[6]?.getD undef = .pointer (some ⟨w.heap.size, 0, none⟩) := (hn 6 (by kernel_rfl)).trans rfl
          have r114 : b.tmps[114]?.getD undef = .bool true := hV 36 _ 114 rfl rfl (Pred.waits_near (by kernel_rfl) (by kernel_rfl))
          have q := (blk_below hE _ l1).trans x9
          exact Pred.yields_run (v := .agg (blkV a0_0 a0_1 a0_2 a0_3 a0_4 a0_5)) ((Pred.wanted_at (g := 36) (d := 114) (f := true) rfl rfl r114).trans rfl) (by go_simp) ⟨Pred.ext_refl _ _, rfl⟩
        · intro b X hE hd hn hV
          have r7 : b.tmps[7]?.getD undef = .pointer (some ⟨w.heap.size + 1, 0, none⟩) := (hn 7 (by kernel_rfl)).trans rfl
          have r114 : b.tmps[114]?.getD undef = .bool true := hV 36 _ 114 rfl rfl (Pred.waits_near (by kernel_rfl) (by kernel_rfl))
          have q := (blk_below hE _ l2).trans y9
          exact Pred.yields_run (v := .agg (blkV a1_0 a1_1 a1_2 a1_3 a1_4 a1_5)) ((Pred.wanted_at (g := 36) (d := 114) (f := true) rfl rfl r114).trans rfl) (by go_simp) ⟨Pred.ext_refl _ _, rfl⟩
        · intro b X hE hd hn hV
          have r3 : b.tmps[3]?.getD undef = .bool a3 := (hn 3 (by kernel_rfl)).trans rfl
          have r114 : b.tmps[114]?.getD undef = .bool true := hV 36 _ 114 rfl rfl (Pred.waits_near (by kernel_rfl) (by kernel_rfl))
          exact Pred.yields_run (v := .bool a3) ((Pred.wanted_at (g := 36) (d := 114) (f := true) rfl rfl r114).trans rfl) (by go_simp) ⟨Pred.ext_refl _ _, rfl⟩
        · intro b X hE hd hn hV
          have r4 : b.tmps[4]?.getD undef = .bool a4 := (hn 4 (by kernel_rfl)).trans rfl
          have r114 : b.tmps[114]?.getD undef = .bool true := hV 36 _ 114 rfl rfl (Pred.waits_near (by kernel_rfl) (by kernel_rfl))
          exact Pred.yields_run (v := .bool a4) ((Pred.wanted_at (g := 36) (d := 114) (f := true) rfl rfl r114).trans rfl) (by go_simp) ⟨Pred.ext_refl _ _, rfl⟩
        · intro b X hE hd hn hV
          have r115 : b.tmps[115]?.getD undef = .agg (blkV a0_0 a0_1 a0_2 a0_3 a0_4 a0_5) := hV 37 _ 115 rfl rfl (Pred.waits_near (by kernel_rfl) (by kernel_rfl))
          have r116 : b.tmps[116]?.getD undef = .agg (blkV a1_0 a1_1 a1_2 a1_3 a1_4 a1_5) := hV 38 _ 116 rfl rfl (Pred.waits_near (by kernel_rfl) (by kernel_rfl))
          have r117 : b.tmps[117]?.getD undef = .bool a3 := hV 39 _ 117 rfl rfl (Pred.waits_near (by kernel_rfl) (by kernel_rfl))
          have r118 : b.tmps[118]?.getD undef = .bool a4 := hV 40 _ 118 rfl rfl (Pred.waits_near (by kernel_rfl) (by kernel_rfl))
          have r114 : b.tmps[114]?.getD undef = .bool true := hV 36 _ 114 rfl rfl (Pred.waits_near (by kernel_rfl) (by kernel_rfl))
          refine Pred.yields_call (f := 15) (args := #[.agg (blkV a0_0 a0_1 a0_2 a0_3 a0_4 a0_5), .agg (blkV a1_0 a1_1 a1_2 a1_3 a1_4 a1_5), .bool a3, .bool a4]) ((Pred.wanted_at (g := 36) (d := 114) (f := true) rfl rfl r114).trans rfl) (by go_simp) ?_
          exact (newer_any a0_0 a0_1 a0_2 a0_3 a0_4 a0_5 a1_0 a1_1 a1_2 a1_3 a1_4 a1_5 a3 a4 _).mono fun e w2 ⟨he, hb⟩ => ⟨_, he, Pred.ext_below hb hE.size, rfl⟩
        · intro b X hE hd hn hV
          have r6 : b.tmps[6]?.getD undef = .pointer (some ⟨w.heap.size, 0, none⟩) := (hn 6 (by kernel_rfl)).trans rfl
          have r114 : b.tmps[114]?.getD undef = .bool true := hV 36 _ 114 rfl rfl (Pred.waits_near (by kernel_rfl) (by kernel_rfl))
          have q := (blk_below hE _ l1).trans x9
          exact Pred.yields_run (v := .agg (blkV a0_0 a0_1 a0_2 a0_3 a0_4 a0_5)) ((Pred.wanted_at (g := 36) (d := 114) (f := true) rfl rfl r114).trans rfl) (by go_simp) ⟨Pred.ext_refl _ _, rfl⟩
        · intro b X hE hd hn hV
          have r120 : b.tmps[120]?.getD undef = .agg (blkV a0_0 a0_1 a0_2 a0_3 a0_4 a0_5) := hV 42 _ 120 rfl rfl (Pred.waits_near (by kernel_rfl) (by kernel_rfl))
          have r114 : b.tmps[114]?.getD undef = .bool true := hV 36 _ 114 rfl rfl (Pred.waits_near (by kernel_rfl) (by kernel_rfl))
          refine Pred.yields_call (f := 11) (args := #[.agg (blkV a0_0 a0_1 a0_2 a0_3 a0_4 a0_5)]) ((Pred.wanted_at (g := 36) (d := 114) (f := true) rfl rfl r114).trans rfl) (by go_simp) ?_
          exact (flat_any a0_0 a0_1 a0_2 a0_3 a0_4 a0_5 _).mono fun e w2 ⟨he, hb⟩ => ⟨_, he, Pred.ext_below hb hE.size, rfl⟩
        · intro b X hE hd hn hV
          have r7 : b.tmps[7]?.getD undef = .pointer (some ⟨w.heap.size + 1, 0, none⟩) := (hn 7 (by kernel_rfl)).trans rfl
          have r114 : b.tmps[114]?.getD undef = .bool true := hV 36 _ 114 rfl rfl (Pred.waits_near (by kernel_rfl) (by kernel_rfl))
          have q := (blk_below hE _ l2).trans y9
          exact Pred.yields_run (v := .agg (blkV a1_0 a1_1 a1_2 a1_3 a1_4 a1_5)) ((Pred.wanted_at (g := 36) (d := 114) (f := true) rfl rfl r114).trans rfl) (by go_simp) ⟨Pred.ext_refl _ _, rfl⟩
        · intro b X hE hd hn hV
          have r122 : b.tmps[122]?.getD undef = .agg (blkV a1_0 a1_1 a1_2 a1_3 a1_4 a1_5) := hV 44 _ 122 rfl rfl (Pred.waits_near (by kernel_rfl) (by kernel_rfl))
          have r114 : b.tmps[114]?.getD undef = .bool true := hV 36 _ 114 rfl rfl (Pred.waits_near (by kernel_rfl) (by kernel_rfl))
          refine Pred.yields_call (f := 11) (args := #[.agg (blkV a1_0 a1_1 a1_2 a1_3 a1_4 a1_5)]) ((Pred.wanted_at (g := 36) (d := 114) (f := true) rfl rfl r114).trans rfl) (by go_simp) ?_
          exact (flat_any a1_0 a1_1 a1_2 a1_3 a1_4 a1_5 _).mono fun e w2 ⟨he, hb⟩ => ⟨_, he, Pred.ext_below hb hE.size, rfl⟩
        · intro b X hE hd hn hV
          have r3 : b.tmps[3]?.getD undef = .bool a3 := (hn 3 (by kernel_rfl)).trans rfl
          have r114 : b.tmps[114]?.getD undef = .bool true := hV 36 _ 114 rfl rfl (Pred.waits_near (by kernel_rfl) (by kernel_rfl))
          exact Pred.yields_run (v := .bool a3) ((Pred.wanted_at (g := 36) (d := 114) (f := true) rfl rfl r114).trans rfl) (by go_simp) ⟨Pred.ext_refl _ _, rfl⟩
        · intro b X hE hd hn hV
          have r4 : b.tmps[4]?.getD undef = .bool a4 := (hn 4 (by kernel_rfl)).trans rfl
          have r114 : b.tmps[114]?.getD undef = .bool true := hV 36 _ 114 rfl rfl (Pred.waits_near (by kernel_rfl) (by kernel_rfl))
          exact Pred.yields_run (v := .bool a4) ((Pred.wanted_at (g := 36) (d := 114) (f := true) rfl rfl r114).trans rfl) (by go_simp) ⟨Pred.ext_refl _ _, rfl⟩
        · intro b X hE hd hn hV
          have r121 : b.tmps[121]?.getD undef = .agg (blkV a0_0 a0_1 a0_2 a0_3 a0_4 a0_5) := hV 43 _ 121 rfl rfl (Pred.waits_near (by kernel_rfl) (by kernel_rfl))
          have r123 : b.tmps[123]?.getD undef = .agg (blkV a1_0 a1_1 a1_2 a1_3 a1_4 a1_5) := hV 45 _ 123 rfl rfl (Pred.waits_near (by kernel_rfl) (by kernel_rfl))
          have r124 : b.tmps[124]?.getD undef = .bool a3 := hV 46 _ 124 rfl rfl (Pred.waits_near (by kernel_rfl) (by kernel_rfl))
          have r125 : b.tmps[125]?.getD undef = .bool a4 := hV 47 _ 125 rfl rfl (Pred.waits_near (by kernel_rfl) (by kernel_rfl))
          have r114 : b.tmps[114]?.getD undef = .bool true := hV 36 _ 114 rfl rfl (Pred.waits_near (by kernel_rfl) (by kernel_rfl))
          refine Pred.yields_call (f := 16) (args := #[.agg (blkV a0_0 a0_1 a0_2 a0_3 a0_4 a0_5), .agg (blkV a1_0 a1_1 a1_2 a1_3 a1_4 a1_5), .bool a3, .bool a4]) ((Pred.wanted_at (g := 36) (d := 114) (f := true) rfl rfl r114).trans rfl) (by go_simp) ?_
          exact (rnewer_any a0_0 a0_1 a0_2 a0_3 a0_4 a0_5 a1_0 a1_1 a1_2 a1_3 a1_4 a1_5 a3 a4 _).mono fun e w2 ⟨he, hb⟩ => ⟨_, he, Pred.ext_below hb hE.size, rfl⟩
        · intro b X hE hd hn hV
          have r119 : b.tmps[119]?.getD undef = .int .i64 (newV a0_0 a1_0 a3 a4) := hV 41 _ 119 rfl rfl (Pred.waits_near (by kernel_rfl) (by kernel_rfl))
          have r126 : b.tmps[126]?.getD undef = .int .i64 (newV a0_0 a1_0 a3 a4) := hV 48 _ 126 rfl rfl (Pred.waits_near (by kernel_rfl) (by kernel_rfl))
          have r114 : b.tmps[114]?.getD undef = .bool true := hV 36 _ 114 rfl rfl (Pred.waits_near (by kernel_rfl) (by kernel_rfl))
          exact Pred.yields_run (v := .bool true) ((Pred.wanted_at (g := 36) (d := 114) (f := true) rfl rfl r114).trans rfl) (by go_simp) ⟨Pred.ext_refl _ _, rfl⟩
        · intro b X hE hd hn hV
          have r114 : b.tmps[114]?.getD undef = .bool true := hV 36 _ 114 rfl rfl (Pred.waits_near (by kernel_rfl) (by kernel_rfl))
          have r127 : b.tmps[127]?.getD undef = .bool true := hV 49 _ 127 rfl rfl (Pred.waits_near (by kernel_rfl) (by kernel_rfl))
          exact Pred.yields_run (v := .bool true) (Pred.wanted_none rfl) (by go_simp) ⟨Pred.ext_refl _ _, rfl⟩
        · intro b X hE hd hn hV
          have r128 : b.tmps[128]?.getD undef = .bool true := hV 50 _ 128 rfl rfl (Pred.waits_near (by kernel_rfl) (by kernel_rfl))
          exact Pred.yields_run (v := .bool true) (Pred.wanted_none rfl) (by go_simp) ⟨Pred.ext_refl _ _, rfl⟩
        · intro b X hE hd hn hV
          have r129 : b.tmps[129]?.getD undef = .bool true := hV 51 _ 129 rfl rfl (Pred.waits_near (by kernel_rfl) (by kernel_rfl))
          refine Pred.yields_call (f := 6) (args := #[]) ((Pred.wanted_at (g := 51) (d := 129) (f := true) rfl rfl r129).trans rfl) (by go_simp) ?_
          exact (awake_any _).mono fun e w2 ⟨he, hb⟩ => ⟨_, he, Pred.ext_below hb hE.size, rfl⟩
        · intro b X hE hd hn hV
          have r129 : b.tmps[129]?.getD undef = .bool true := hV 51 _ 129 rfl rfl (Pred.waits_near (by kernel_rfl) (by kernel_rfl))
          have r130 : b.tmps[130]?.getD undef = .bool true := hV 52 _ 130 rfl rfl (Pred.waits_near (by kernel_rfl) (by kernel_rfl))
          exact Pred.yields_run (v := .bool true) (Pred.wanted_none rfl) (by go_simp) ⟨Pred.ext_refl _ _, rfl⟩
        · intro b X hE hd hn hV
          have r131 : b.tmps[131]?.getD undef = .bool true := hV 53 _ 131 rfl rfl (Pred.waits_near (by kernel_rfl) (by kernel_rfl))
          exact Pred.yields_run (v := .bool true) (Pred.wanted_none rfl) (by go_simp) ⟨Pred.ext_refl _ _, rfl⟩
      intro v X hE hv
      have e0 : v 0 = .slice (aE) 32 c3 := hv 0 _ 78 rfl rfl
      have e1 : v 1 = .string (bytesOf (encL a0_0 a0_1 a0_2 a0_3 a0_4 a0_5)) := hv 1 _ 79 rfl rfl
      have e2 : v 2 = .slice (a5') 32 c5 := hv 2 _ 80 rfl rfl
      have e3 : v 3 = .string (bytesOf (encL a0_0 a0_1 a0_2 a0_3 a0_4 a0_5)) := hv 3 _ 81 rfl rfl
      have e4 : v 4 = .bool true := hv 4 _ 82 rfl rfl
      have e5 : v 5 = .bool true := hv 5 _ 83 rfl rfl
      have e6 : v 6 = .int .i64 0 := hv 6 _ 84 rfl rfl
      have e7 : v 7 = .bool true := hv 7 _ 85 rfl rfl
      have e8 : v 8 = .bool true := hv 8 _ 86 rfl rfl
      have e9 : v 9 = .bool true := hv 9 _ 87 rfl rfl
      have e10 : v 10 = .bool true := hv 10 _ 88 rfl rfl
      have e11 : v 11 = .bool true := hv 11 _ 89 rfl rfl
      have e12 : v 12 = .bool true := hv 12 _ 90 rfl rfl
      have e13 : v 13 = .bool true := hv 13 _ 91 rfl rfl
      have e14 : v 14 = undef := hv 14 _ 92 rfl rfl
      have e15 : v 15 = undef := hv 15 _ 93 rfl rfl
      have e16 : v 16 = .bool true := hv 16 _ 94 rfl rfl
      have e17 : v 17 = .bool true := hv 17 _ 95 rfl rfl
      have e18 : v 18 = .bool true := hv 18 _ 96 rfl rfl
      have e19 : v 19 = .agg (zeroB) := hv 19 _ 97 rfl rfl
      have e20 : v 20 = .agg (zeroB) := hv 20 _ 98 rfl rfl
      have e21 : v 21 = .bool true := hv 21 _ 99 rfl rfl
      have e22 : v 22 = .bool true := hv 22 _ 100 rfl rfl
      have e23 : v 23 = .bool true := hv 23 _ 101 rfl rfl
      have e24 : v 24 = .int .i64 3 := hv 24 _ 102 rfl rfl
      have e25 : v 25 = .bool false := hv 25 _ 103 rfl rfl
      have e26 : v 26 = .bool false := hv 26 _ 104 rfl rfl
      have e27 : v 27 = .bool true := hv 27 _ 105 rfl rfl
      have e28 : v 28 = .bool true := hv 28 _ 106 rfl rfl
      have e29 : v 29 = .bool true := hv 29 _ 107 rfl rfl
      have e30 : v 30 = .bool false := hv 30 _ 108 rfl rfl
      have e31 : v 31 = .bool false := hv 31 _ 109 rfl rfl
      have e32 : v 32 = .int .i64 3 := hv 32 _ 110 rfl rfl
      have e33 : v 33 = .bool true := hv 33 _ 111 rfl rfl
      have e34 : v 34 = .bool true := hv 34 _ 112 rfl rfl
      have e35 : v 35 = .bool true := hv 35 _ 113 rfl rfl
      have e36 : v 36 = .bool true := hv 36 _ 114 rfl rfl
      have e37 : v 37 = .agg (blkV a0_0 a0_1 a0_2 a0_3 a0_4 a0_5) := hv 37 _ 115 rfl rfl
      have e38 : v 38 = .agg (blkV a1_0 a1_1 a1_2 a1_3 a1_4 a1_5) := hv 38 _ 116 rfl rfl
      have e39 : v 39 = .bool a3 := hv 39 _ 117 rfl rfl
      have e40 : v 40 = .bool a4 := hv 40 _ 118 rfl rfl
      have e41 : v 41 = .int .i64 (newV a0_0 a1_0 a3 a4) := hv 41 _ 119 rfl rfl
      have e42 : v 42 = .agg (blkV a0_0 a0_1 a0_2 a0_3 a0_4 a0_5) := hv 42 _ 120 rfl rfl
      have e43 : v 43 = .agg (blkV a0_0 a0_1 a0_2 a0_3 a0_4 a0_5) := hv 43 _ 121 rfl rfl
      have e44 : v 44 = .agg (blkV a1_0 a1_1 a1_2 a1_3 a1_4 a1_5) := hv 44 _ 122 rfl rfl
      have e45 : v 45 = .agg (blkV a1_0 a1_1 a1_2 a1_3 a1_4 a1_5) := hv 45 _ 123 rfl rfl
      have e46 : v 46 = .bool a3 := hv 46 _ 124 rfl rfl
      have e47 : v 47 = .bool a4 := hv 47 _ 125 rfl rfl
      have e48 : v 48 = .int .i64 (newV a0_0 a1_0 a3 a4) := hv 48 _ 126 rfl rfl
      have e49 : v 49 = .bool true := hv 49 _ 127 rfl rfl
      have e50 : v 50 = .bool true := hv 50 _ 128 rfl rfl
      have e51 : v 51 = .bool true := hv 51 _ 129 rfl rfl
      have e52 : v 52 = .bool true := hv 52 _ 130 rfl rfl
      have e53 : v 53 = .bool true := hv 53 _ 131 rfl rfl
      have e54 : v 54 = .bool true := hv 54 _ 12 rfl rfl
      simp only [Pred.putsF_cons, Pred.putsF_nil, Nat.zero_add, Nat.reduceAdd, e0, e1, e2, e3, e4, e5, e6, e7, e8, e9, e10, e11, e12, e13, e14, e15, e16, e17, e18, e19, e20, e21, e22, e23, e24, e25, e26, e27, e28, e29, e30, e31, e32, e33, e34, e35, e36, e37, e38, e39, e40, e41, e42, e43, e44, e45, e46, e47, e48, e49, e50, e51, e52, e53, e54, Act.put, List.setIfInBounds_toArray, List.set_cons_zero, List.set_cons_succ]
      clear e0 e1 e2 e3 e4 e5 e6 e7 e8 e9 e10 e11 e12 e13 e14 e15 e16 e17 e18 e19 e20 e21 e22 e23 e24 e25 e26 e27 e28 e29 e30 e31 e32 e33 e34 e35 e36 e37 e38 e39 e40 e41 e42 e43 e44 e45 e46 e47 e48 e49 e50 e51 e52 e53 e54 hv
      have sZ := hE.size
      have L10 : Below w.heap.size w X := L9.trans (hE.mono L9.size)
      go_wp2
      go_ret
      exact ⟨rfl, L10⟩
    · have l1 := blk_lt x2
      have l2 := blk_lt y2
      have l3 := blk_lt t2
      go_wp2_with fail
      refine (encode_yes _ _ _ _ _ _ _ hM bg bd bs bl hm).mono ?_
      rintro e w3 ⟨aE, c3, rfl, hc31, hc32, RA, hb3⟩
      have x3 := (blk_below hb3 _ l1).trans x2
      have y3 := (blk_below hb3 _ l2).trans y2
      have t3 := (blk_below hb3 _ l3).trans t2
      have hR3 := hR2.below hb3 (Nat.le_refl _)
      have s3 := hb3.size
      have L3 : Below w.heap.size w w3 := by repeat' (first | (with_reducible exact Below.refl _ _) | (with_reducible refine Rd.below_step ?_ (by assumption)) | (with_reducible refine Rd.below_alloc ?_ _) | (with_reducible refine Rd.below_drewN ?_ _) | (with_reducible refine Below.drew ?_) | (with_reducible refine Below.setCell ?_ ?_ _) | (with_reducible refine Rd.below_setRow ?_ ?_ _) | go_size | (simp only [World.size_alloc]; omega) | omega)
      clear x2 y2 t2 hR2 hb3 L2 l1 l2 l3
      have l1 := blk_lt x3
      have l2 := blk_lt y3
      have l3 := blk_lt t3
      go_wp2_with fail
      refine (flat_any _ _ _ _ _ _ _).mono ?_
      rintro e w4 ⟨rfl, hb4⟩
      have x4 := (blk_below hb4 _ l1).trans x3
      have y4 := (blk_below hb4 _ l2).trans y3
      have t4 := (blk_below hb4 _ l3).trans t3
      have hR4 := hR3.below hb4 (Nat.le_refl _)
      have RA4 := RA.below hb4 (Nat.le_refl _)
      have s4 := hb4.size
      have L4 : Below w.heap.size w w4 := by repeat' (first | (with_reducible exact Below.refl _ _) | (with_reducible refine Rd.below_step ?_ (by assumption)) | (with_reducible refine Rd.below_alloc ?_ _) | (with_reducible refine Rd.below_drewN ?_ _) | (with_reducible refine Below.drew ?_) | (with_reducible refine Below.setCell ?_ ?_ _) | (with_reducible refine Rd.below_setRow ?_ ?_ _) | go_size | (simp only [World.size_alloc]; omega) | omega)
      clear x3 y3 t3 hR3 RA hb4 L3 l1 l2 l3
      have l1 := blk_lt x4
      have l2 := blk_lt y4
      have l3 := blk_lt t4
      go_wp2_with fail
      refine (head_yes _ _ _ _ _ _ _ hM bg bd bs bl hm).mono ?_
      rintro e w5 ⟨a5', c5, rfl, hc51, hc52, RC, hb5⟩
      have x5 := (blk_below hb5 _ l1).trans x4
      have y5 := (blk_below hb5 _ l2).trans y4
      have t5 := (blk_below hb5 _ l3).trans t4
      have hR5 := hR4.below hb5 (Nat.le_refl _)
      have RA5 := RA4.below hb5 (Nat.le_refl _)
      have s5 := hb5.size
      have L5 : Below w.heap.size w w5 := by repeat' (first | (with_reducible exact Below.refl _ _) | (with_reducible refine Rd.below_step ?_ (by assumption)) | (with_reducible refine Rd.below_alloc ?_ _) | (with_reducible refine Rd.below_drewN ?_ _) | (with_reducible refine Below.drew ?_) | (with_reducible refine Below.setCell ?_ ?_ _) | (with_reducible refine Rd.below_setRow ?_ ?_ _) | go_size | (simp only [World.size_alloc]; omega) | omega)
      clear x4 y4 t4 hR4 RA4 hb5 L4 l1 l2 l3
      have l1 := blk_lt x5
      have l2 := blk_lt y5
      have l3 := blk_lt t5
      go_wp2_with fail
      refine (decode_all a2 len2 cap2 zs _ hR5 hz (by omega) (by omega) (by omega)).mono ?_
      rintro e w6 ⟨rfl, hb6⟩
      rw [decRes_yes hD]
      have x6 := (blk_below hb6 _ l1).trans x5
      have y6 := (blk_below hb6 _ l2).trans y5
      have hR6 := hR5.below hb6 (Nat.le_refl _)
      have RA6 := RA5.below hb6 (Nat.le_refl _)
      have RC6 := RC.below hb6 (Nat.le_refl _)
      have s6 := hb6.size
      have L6 : Below w.heap.size w w6 := by repeat' (first | (with_reducible exact Below.refl _ _) | (with_reducible refine Rd.below_step ?_ (by assumption)) | (with_reducible refine Rd.below_alloc ?_ _) | (with_reducible refine Rd.below_drewN ?_ _) | (with_reducible refine Below.drew ?_) | (with_reducible refine Below.setCell ?_ ?_ _) | (with_reducible refine Rd.below_setRow ?_ ?_ _) | go_size | (simp only [World.size_alloc]; omega) | omega)
      clear x5 y5 t5 hR5 RA5 RC hb6 L5 l1 l2 l3
      have l1 := blk_lt x6
      have l2 := blk_lt y6
      go_upto_region 11 with (fail)
      refine Rd.name_world ?_
      intro V hV
      have x7 : blk V w.heap.size = some (.cells (blkV a0_0 a0_1 a0_2 a0_3 a0_4 a0_5) 24 (0, 0)) := by rw [hV, blk_alloc_old _ _ _ l1]; exact x6
      have y7 : blk V (w.heap.size + 1) = some (.cells (blkV a1_0 a1_1 a1_2 a1_3 a1_4 a1_5) 24 (0, 0)) := by rw [hV, blk_alloc_old _ _ _ l2]; exact y6
      have d7 : blk V w6.heap.size = some (.cells (decV (zs)) 24 (0, 0)) := by rw [hV]; exact blk_alloc_at _ _ _ rfl
      have BV : Below w6.heap.size w6 V := by rw [hV]; exact (Below.refl _ _).alloc (Nat.le_refl _) _
      have hR7 := hR6.below BV (Nat.le_refl _)
      have RA7 := RA6.below BV (Nat.le_refl _)
      have RC7 := RC6.below BV (Nat.le_refl _)
      have s7 := BV.size
      have L7 : Below w.heap.size w V := L6.trans (BV.mono L6.size)
      clear hV x6 y6 hR6 RA6 RC6 BV L6 l1 l2
      have l1 := blk_lt x7
      have l2 := blk_lt y7
      have l4 := blk_lt d7
      go_wp2_with fail
      refine (readHead_all a2 len2 cap2 zs _ hR7 hz (by omega) (by omega) (by omega)).mono ?_
      rintro e w8 ⟨rfl, hb8⟩
      rw [rdRes_yes hD]
      have x8 := (blk_below hb8 _ l1).trans x7
      have y8 := (blk_below hb8 _ l2).trans y7
      have d8 := (blk_below hb8 _ l4).trans d7
      have RA8 := RA7.below hb8 (Nat.le_refl _)
      have RC8 := RC7.below hb8 (Nat.le_refl _)
      have s8 := hb8.size
      have L8 : Below w.heap.size w w8 := by repeat' (first | (with_reducible exact Below.refl _ _) | (with_reducible refine Rd.below_step ?_ (by assumption)) | (with_reducible refine Rd.below_alloc ?_ _) | (with_reducible refine Rd.below_drewN ?_ _) | (with_reducible refine Below.drew ?_) | (with_reducible refine Below.setCell ?_ ?_ _) | (with_reducible refine Rd.below_setRow ?_ ?_ _) | go_size | (simp only [World.size_alloc]; omega) | omega)
      clear x7 y7 d7 hR7 RA7 RC7 hb8 L7 l1 l2 l4
      have l1 := blk_lt x8
      have l2 := blk_lt y8
      have l4 := blk_lt d8
      go_upto_region 12 with (fail)
      refine Rd.name_world ?_
      intro W' hV
      have x9 : blk W' w.heap.size = some (.cells (blkV a0_0 a0_1 a0_2 a0_3 a0_4 a0_5) 24 (0, 0)) := by rw [hV, blk_alloc_old _ _ _ l1]; exact x8
      have y9 : blk W' (w.heap.size + 1) = some (.cells (blkV a1_0 a1_1 a1_2 a1_3 a1_4 a1_5) 24 (0, 0)) := by rw [hV, blk_alloc_old _ _ _ l2]; exact y8
      have d9 : blk W' w6.heap.size = some (.cells (decV (zs)) 24 (0, 0)) := by rw [hV, blk_alloc_old _ _ _ l4]; exact d8
      have f9 : blk W' w8.heap.size = some (.cells (decV (zs)) 37 (0, 0)) := by rw [hV]; exact blk_alloc_at _ _ _ rfl
      have BV : Below w8.heap.size w8 W' := by rw [hV]; exact (Below.refl _ _).alloc (Nat.le_refl _) _
      have RA9 := RA8.below BV (Nat.le_refl _)
      have RC9 := RC8.below BV (Nat.le_refl _)
      have L9 : Below w.heap.size w W' := L8.trans (BV.mono L8.size)
      clear hV x8 y8 d8 RA8 RC8 BV L8 l1 l2 l4
      have l1 := blk_lt x9
      have l2 := blk_lt y9
      have l4 := blk_lt d9
      have l5 := blk_lt f9
      refine Pred.region_vals (Pred.Of [
          Is (.slice (aE) 32 c3),
          Is (.string (bytesOf (encL a0_0 a0_1 a0_2 a0_3 a0_4 a0_5))),
          Is (.slice (a5') 32 c5),
          Is (.string (bytesOf (encL a0_0 a0_1 a0_2 a0_3 a0_4 a0_5))),
          Is (.bool true),
          Is (.bool true),
          Is (.int .i64 0),
          Is (.bool true),
          Is (.bool true),
          Is (.bool true),
          Is (.bool true),
          Is (.bool true),
          Is (.bool true),
          Is (.bool true),
          Is (undef),
          Is (undef),
          Is (.bool true),
          Is (.bool true),
          Is (.bool true),
          Is (.agg (decV (zs))),
          Is (.agg (decV (zs))),
          Is (.bool true),
          Is (.bool true),
          Is (.bool true),
          Is (.int .i64 0),
          Is (.bool true),
          Is (.bool true),
          Is (.bool true),
          Is (.bool true),
          Is (.bool true),
          Is (.bool true),
          Is (.bool true),
          Is (undef),
          Is (undef),
          Is (.bool true),
          Is (.bool true),
          Is (.bool true),
          Is (.agg (blkV a0_0 a0_1 a0_2 a0_3 a0_4 a0_5)),
          Is (.agg (blkV a1_0 a1_1 a1_2 a1_3 a1_4 a1_5)),
          Is (.bool a3),
          Is (.bool a4),
          Is (.int .i64 (newV a0_0 a1_0 a3 a4)),
          Is (.agg (blkV a0_0 a0_1 a0_2 a0_3 a0_4 a0_5)),
          Is (.agg (blkV a0_0 a0_1 a0_2 a0_3 a0_4 a0_5)),
          Is (.agg (blkV a1_0 a1_1 a1_2 a1_3 a1_4 a1_5)),
          Is (.agg (blkV a1_0 a1_1 a1_2 a1_3 a1_4 a1_5)),
          Is (.bool a3),
          Is (.bool a4),
          Is (.int .i64 (newV a0_0 a1_0 a3 a4)),
          Is (.bool true),
          Is (.bool true),
          Is (.bool true),
          Is (.bool true),
          Is (.bool true),
          Is (.bool true)]) (by kernel_rfl) (by kernel_rfl) (by kernel_rfl) (Pred.of_stab ?_) ?_ ?_
      · exact ⟨is_stab _, is_stab _, is_stab _, is_stab _, is_stab _, is_stab _, is_stab _, is_stab _, is_stab _, is_stab _, is_stab _, is_stab _, is_stab _, is_stab _, is_stab _, is_stab _, is_stab _, is_stab _, is_stab _, is_stab _, is_stab _, is_stab _, is_stab _, is_stab _, is_stab _, is_stab _, is_stab _, is_stab _, is_stab _, is_stab _, is_stab _, is_stab _, is_stab _, is_stab _, is_stab _, is_stab _, is_stab _, is_stab _, is_stab _, is_stab _, is_stab _, is_stab _, is_stab _, is_stab _, is_stab _, is_stab _, is_stab _, is_stab _, is_stab _, is_stab _, is_stab _, is_stab _, is_stab _, is_stab _, is_stab _, trivial⟩
      · refine ⟨?_, ?_, ?_, ?_, ?_, ?_, ?_, ?_, ?_, ?_, ?_, ?_, ?_, ?_, ?_, ?_, ?_, ?_, ?_, ?_, ?_, ?_, ?_, ?_, ?_, ?_, ?_, ?_, ?_, ?_, ?_, ?_, ?_, ?_, ?_, ?_, ?_, ?_, ?_, ?_, ?_, ?_, ?_, ?_, ?_, ?_, ?_, ?_, ?_, ?_, ?_, ?_, ?_, ?_, ?_, trivial⟩
        · intro b X hE hd hn hV
          have r16 : b.tmps[16]?.getD undef = .slice (aE) 32 c3 := (hn 16 (by kernel_rfl)).trans rfl
          exact Pred.yields_run (v := .slice (aE) 32 c3) (Pred.wanted_none rfl) (by go_simp) ⟨Pred.ext_refl _ _, rfl⟩
        · intro b X hE hd hn hV
          have r78 : b.tmps[78]?.getD undef = .slice (aE) 32 c3 := hV 0 _ 78 rfl rfl (Pred.waits_near (by kernel_rfl) (by kernel_rfl))
          have v1 := conv_reads (P := Try.prog) (cap := c3) Try.underlying25 Try.underlying5 Try.underlying9 (RA9.below hE (Nat.le_refl _)) (encL_bd _ _ _ _ _ _)
          exact Pred.yields_run (v := .string (bytesOf (encL a0_0 a0_1 a0_2 a0_3 a0_4 a0_5))) (Pred.wanted_none rfl) (by go_simp) ⟨Pred.ext_refl _ _, rfl⟩
        · intro b X hE hd hn hV
          have r18 : b.tmps[18]?.getD undef = .slice (a5') 32 c5 := (hn 18 (by kernel_rfl)).trans rfl
          exact Pred.yields_run (v := .slice (a5') 32 c5) (Pred.wanted_none rfl) (by go_simp) ⟨Pred.ext_refl _ _, rfl⟩
        · intro b X hE hd hn hV
          have r80 : b.tmps[80]?.getD undef = .slice (a5') 32 c5 := hV 2 _ 80 rfl rfl (Pred.waits_near (by kernel_rfl) (by kernel_rfl))
          have v1 := conv_reads (P := Try.prog) (cap := c5) Try.underlying25 Try.underlying5 Try.underlying9 (RC9.below hE (Nat.le_refl _)) (encL_bd _ _ _ _ _ _)
          exact Pred.yields_run (v := .string (bytesOf (encL a0_0 a0_1 a0_2 a0_3 a0_4 a0_5))) (Pred.wanted_none rfl) (by go_simp) ⟨Pred.ext_refl _ _, rfl⟩
        · intro b X hE hd hn hV
          have r79 : b.tmps[79]?.getD undef = .string (bytesOf (encL a0_0 a0_1 a0_2 a0_3 a0_4 a0_5)) := hV 1 _ 79 rfl rfl (Pred.waits_near (by kernel_rfl) (by kernel_rfl))
          have r81 : b.tmps[81]?.getD undef = .string (bytesOf (encL a0_0 a0_1 a0_2 a0_3 a0_4 a0_5)) := hV 3 _ 81 rfl rfl (Pred.waits_near (by kernel_rfl) (by kernel_rfl))
          exact Pred.yields_run (v := .bool true) (Pred.wanted_none rfl) (by go_simp) ⟨Pred.ext_refl _ _, rfl⟩
        · intro b X hE hd hn hV
          have r82 : b.tmps[82]?.getD undef = .bool true := hV 4 _ 82 rfl rfl (Pred.waits_near (by kernel_rfl) (by kernel_rfl))
          exact Pred.yields_run (v := .bool true) (Pred.wanted_none rfl) (by go_simp) ⟨Pred.ext_refl _ _, rfl⟩
        · intro b X hE hd hn hV
          have r17 : b.tmps[17]?.getD undef = .int .i64 0 := (hn 17 (by kernel_rfl)).trans rfl
          have r83 : b.tmps[83]?.getD undef = .bool true := hV 5 _ 83 rfl rfl (Pred.waits_near (by kernel_rfl) (by kernel_rfl))
          exact Pred.yields_run (v := .int .i64 0) ((Pred.wanted_at (g := 5) (d := 83) (f := true) rfl rfl r83).trans rfl) (by go_simp) ⟨Pred.ext_refl _ _, rfl⟩
        · intro b X hE hd hn hV
          have r84 : b.tmps[84]?.getD undef = .int .i64 0 := hV 6 _ 84 rfl rfl (Pred.waits_near (by kernel_rfl) (by kernel_rfl))
          have r83 : b.tmps[83]?.getD undef = .bool true := hV 5 _ 83 rfl rfl (Pred.waits_near (by kernel_rfl) (by kernel_rfl))
          exact Pred.yields_run (v := .bool true) ((Pred.wanted_at (g := 5) (d := 83) (f := true) rfl rfl r83).trans rfl) (by go_simp) ⟨Pred.ext_refl _ _, rfl⟩
        · intro b X hE hd hn hV
          have r19 : b.tmps[19]?.getD undef = .bool true := (hn 19 (by kernel_rfl)).trans rfl
          have r83 : b.tmps[83]?.getD undef = .bool true := hV 5 _ 83 rfl rfl (Pred.waits_near (by kernel_rfl) (by kernel_rfl))
          exact Pred.yields_run (v := .bool true) ((Pred.wanted_at (g := 5) (d := 83) (f := true) rfl rfl r83).trans rfl) (by go_simp) ⟨Pred.ext_refl _ _, rfl⟩
        · intro b X hE hd hn hV
          have r85 : b.tmps[85]?.getD undef = .bool true := hV 7 _ 85 rfl rfl (Pred.waits_near (by kernel_rfl) (by kernel_rfl))
          have r86 : b.tmps[86]?.getD undef = .bool true := hV 8 _ 86 rfl rfl (Pred.waits_near (by kernel_rfl) (by kernel_rfl))
          have r83 : b.tmps[83]?.getD undef = .bool true := hV 5 _ 83 rfl rfl (Pred.waits_near (by kernel_rfl) (by kernel_rfl))
          exact Pred.yields_run (v := .bool true) ((Pred.wanted_at (g := 5) (d := 83) (f := true) rfl rfl r83).trans rfl) (by go_simp) ⟨Pred.ext_refl _ _, rfl⟩
        · intro b X hE hd hn hV
          have r83 : b.tmps[83]?.getD undef = .bool true := hV 5 _ 83 rfl rfl (Pred.waits_near (by kernel_rfl) (by kernel_rfl))
          have r87 : b.tmps[87]?.getD undef = .bool true := hV 9 _ 87 rfl rfl (Pred.waits_near (by kernel_rfl) (by kernel_rfl))
          exact Pred.yields_run (v := .bool true) (Pred.wanted_none rfl) (by go_simp) ⟨Pred.ext_refl _ _, rfl⟩
        · intro b X hE hd hn hV
          have r88 : b.tmps[88]?.getD undef = .bool true := hV 10 _ 88 rfl rfl (Pred.waits_near (by kernel_rfl) (by kernel_rfl))
          exact Pred.yields_run (v := .bool true) (Pred.wanted_none rfl) (by go_simp) ⟨Pred.ext_refl _ _, rfl⟩
        · intro b X hE hd hn hV
          have r19 : b.tmps[19]?.getD undef = .bool true := (hn 19 (by kernel_rfl)).trans rfl
          have r89 : b.tmps[89]?.getD undef = .bool true := hV 11 _ 89 rfl rfl (Pred.waits_near (by kernel_rfl) (by kernel_rfl))
          exact Pred.yields_run (v := .bool true) ((Pred.wanted_at (g := 11) (d := 89) (f := true) rfl rfl r89).trans rfl) (by go_simp) ⟨Pred.ext_refl _ _, rfl⟩
        · intro b X hE hd hn hV
          have r90 : b.tmps[90]?.getD undef = .bool true := hV 12 _ 90 rfl rfl (Pred.waits_near (by kernel_rfl) (by kernel_rfl))
          have r89 : b.tmps[89]?.getD undef = .bool true := hV 11 _ 89 rfl rfl (Pred.waits_near (by kernel_rfl) (by kernel_rfl))
          exact Pred.yields_run (v := .bool true) ((Pred.wanted_at (g := 11) (d := 89) (f := true) rfl rfl r89).trans rfl) (by go_simp) ⟨Pred.ext_refl _ _, rfl⟩
        · intro b X hE hd hn hV
          have r91 : b.tmps[91]?.getD undef = .bool true := hV 13 _ 91 rfl rfl (Pred.waits_near (by kernel_rfl) (by kernel_rfl))
          exact Pred.yields_not ((Pred.wanted_at (g := 13) (d := 91) (f := false) rfl rfl r91).trans rfl) ⟨Pred.ext_refl _ _, rfl⟩
        · intro b X hE hd hn hV
          have r91 : b.tmps[91]?.getD undef = .bool true := hV 13 _ 91 rfl rfl (Pred.waits_near (by kernel_rfl) (by kernel_rfl))
          exact Pred.yields_not ((Pred.wanted_at (g := 13) (d := 91) (f := false) rfl rfl r91).trans rfl) ⟨Pred.ext_refl _ _, rfl⟩
        · intro b X hE hd hn hV
          have r91 : b.tmps[91]?.getD undef = .bool true := hV 13 _ 91 rfl rfl (Pred.waits_near (by kernel_rfl) (by kernel_rfl))
          have r93 : b.tmps[93]?.getD undef = undef := hV 15 _ 93 rfl rfl (Pred.waits_near (by kernel_rfl) (by kernel_rfl))
          have r89 : b.tmps[89]?.getD undef = .bool true := hV 11 _ 89 rfl rfl (Pred.waits_near (by kernel_rfl) (by kernel_rfl))
          exact Pred.yields_run (v := .bool true) ((Pred.wanted_at (g := 11) (d := 89) (f := true) rfl rfl r89).trans rfl) (by go_simp) ⟨Pred.ext_refl _ _, rfl⟩
        · intro b X hE hd hn hV
          have r89 : b.tmps[89]?.getD undef = .bool true := hV 11 _ 89 rfl rfl (Pred.waits_near (by kernel_rfl) (by kernel_rfl))
          have r94 : b.tmps[94]?.getD undef = .bool true := hV 16 _ 94 rfl rfl (Pred.waits_near (by kernel_rfl) (by kernel_rfl))
          exact Pred.yields_run (v := .bool true) (Pred.wanted_none rfl) (by go_simp) ⟨Pred.ext_refl _ _, rfl⟩
        · intro b X hE hd hn hV
          have r95 : b.tmps[95]?.getD undef = .bool true := hV 17 _ 95 rfl rfl (Pred.waits_near (by kernel_rfl) (by kernel_rfl))
          exact Pred.yields_run (v := .bool true) (Pred.wanted_none rfl) (by go_simp) ⟨Pred.ext_refl _ _, rfl⟩
        · intro b X hE hd hn hV
          have r20 : b.tmps[20]?.getD undef = .pointer (some ⟨w6.heap.size, 0, none⟩) := (hn 20 (by kernel_rfl)).trans rfl
          have r96 : b.tmps[96]?.getD undef = .bool true := hV 18 _ 96 rfl rfl (Pred.waits_near (by kernel_rfl) (by kernel_rfl))
          have q := (blk_below hE _ l4).trans d9
          have hv6 := decV_size (zs)
          exact Pred.yields_run (v := .agg (decV (zs))) ((Pred.wanted_at (g := 18) (d := 96) (f := true) rfl rfl r96).trans rfl) (by go_simp) ⟨Pred.ext_refl _ _, rfl⟩
        · intro b X hE hd hn hV
          have r22 : b.tmps[22]?.getD undef = .pointer (some ⟨w8.heap.size, 0, none⟩) := (hn 22 (by kernel_rfl)).trans rfl
          have r96 : b.tmps[96]?.getD undef = .bool true := hV 18 _ 96 rfl rfl (Pred.waits_near (by kernel_rfl) (by kernel_rfl))
          have q := (blk_below hE _ l5).trans f9
          have hv6 := decV_size (zs)
          exact Pred.yields_run (v := .agg (decV (zs))) ((Pred.wanted_at (g := 18) (d := 96) (f := true) rfl rfl r96).trans rfl) (by go_simp) ⟨Pred.ext_refl _ _, rfl⟩
        · intro b X hE hd hn hV
          have r97 : b.tmps[97]?.getD undef = .agg (decV (zs)) := hV 19 _ 97 rfl rfl (Pred.waits_near (by kernel_rfl) (by kernel_rfl))
          have r98 : b.tmps[98]?.getD undef = .agg (decV (zs)) := hV 20 _ 98 rfl rfl (Pred.waits_near (by kernel_rfl) (by kernel_rfl))
          have r96 : b.tmps[96]?.getD undef = .bool true := hV 18 _ 96 rfl rfl (Pred.waits_near (by kernel_rfl) (by kernel_rfl))
          refine Pred.yields_call (f := 14) (args := #[.agg (decV (zs)), .agg (decV (zs))]) ((Pred.wanted_at (g := 18) (d := 96) (f := true) rfl rfl r96).trans rfl) (by go_simp) ?_
          exact (same_any (fld (zs) 4 4) (fld (zs) 8 1) (decR (zs)) (fld (zs) 10 2) (fld (zs) 12 2) (fld (zs) 14 4) _).mono fun e w2 ⟨he, hb⟩ => ⟨_, he, Pred.ext_below hb hE.size, rfl⟩
        · intro b X hE hd hn hV
          have r96 : b.tmps[96]?.getD undef = .bool true := hV 18 _ 96 rfl rfl (Pred.waits_near (by kernel_rfl) (by kernel_rfl))
          have r99 : b.tmps[99]?.getD undef = .bool true := hV 21 _ 99 rfl rfl (Pred.waits_near (by kernel_rfl) (by kernel_rfl))
          exact Pred.yields_run (v := .bool true) (Pred.wanted_none rfl) (by go_simp) ⟨Pred.ext_refl _ _, rfl⟩
        · intro b X hE hd hn hV
          have r100 : b.tmps[100]?.getD undef = .bool true := hV 22 _ 100 rfl rfl (Pred.waits_near (by kernel_rfl) (by kernel_rfl))
          exact Pred.yields_run (v := .bool true) (Pred.wanted_none rfl) (by go_simp) ⟨Pred.ext_refl _ _, rfl⟩
        · intro b X hE hd hn hV
          have r21 : b.tmps[21]?.getD undef = .int .i64 0 := (hn 21 (by kernel_rfl)).trans rfl
          have r101 : b.tmps[101]?.getD undef = .bool true := hV 23 _ 101 rfl rfl (Pred.waits_near (by kernel_rfl) (by kernel_rfl))
          exact Pred.yields_run (v := .int .i64 0) ((Pred.wanted_at (g := 23) (d := 101) (f := true) rfl rfl r101).trans rfl) (by go_simp) ⟨Pred.ext_refl _ _, rfl⟩
        · intro b X hE hd hn hV
          have r102 : b.tmps[102]?.getD undef = .int .i64 0 := hV 24 _ 102 rfl rfl (Pred.waits_near (by kernel_rfl) (by kernel_rfl))
          have r101 : b.tmps[101]?.getD undef = .bool true := hV 23 _ 101 rfl rfl (Pred.waits_near (by kernel_rfl) (by kernel_rfl))
          exact Pred.yields_run (v := .bool true) ((Pred.wanted_at (g := 23) (d := 101) (f := true) rfl rfl r101).trans rfl) (by go_simp) ⟨Pred.ext_refl _ _, rfl⟩
        · intro b X hE hd hn hV
          have r23 : b.tmps[23]?.getD undef = .bool true := (hn 23 (by kernel_rfl)).trans rfl
          have r101 : b.tmps[101]?.getD undef = .bool true := hV 23 _ 101 rfl rfl (Pred.waits_near (by kernel_rfl) (by kernel_rfl))
          exact Pred.yields_run (v := .bool true) ((Pred.wanted_at (g := 23) (d := 101) (f := true) rfl rfl r101).trans rfl) (by go_simp) ⟨Pred.ext_refl _ _, rfl⟩
        · intro b X hE hd hn hV
          have r103 : b.tmps[103]?.getD undef = .bool true := hV 25 _ 103 rfl rfl (Pred.waits_near (by kernel_rfl) (by kernel_rfl))
          have r104 : b.tmps[104]?.getD undef = .bool true := hV 26 _ 104 rfl rfl (Pred.waits_near (by kernel_rfl) (by kernel_rfl))
          have r101 : b.tmps[101]?.getD undef = .bool true := hV 23 _ 101 rfl rfl (Pred.waits_near (by kernel_rfl) (by kernel_rfl))
          exact Pred.yields_run (v := .bool true) ((Pred.wanted_at (g := 23) (d := 101) (f := true) rfl rfl r101).trans rfl) (by go_simp) ⟨Pred.ext_refl _ _, rfl⟩
        · intro b X hE hd hn hV
          have r101 : b.tmps[101]?.getD undef = .bool true := hV 23 _ 101 rfl rfl (Pred.waits_near (by kernel_rfl) (by kernel_rfl))
          have r105 : b.tmps[105]?.getD undef = .bool true := hV 27 _ 105 rfl rfl (Pred.waits_near (by kernel_rfl) (by kernel_rfl))
          exact Pred.yields_run (v := .bool true) (Pred.wanted_none rfl) (by go_simp) ⟨Pred.ext_refl _ _, rfl⟩
        · intro b X hE hd hn hV
          have r106 : b.tmps[106]?.getD undef = .bool true := hV 28 _ 106 rfl rfl (Pred.waits_near (by kernel_rfl) (by kernel_rfl))
          exact Pred.yields_run (v := .bool true) (Pred.wanted_none rfl) (by go_simp) ⟨Pred.ext_refl _ _, rfl⟩
        · intro b X hE hd hn hV
          have r23 : b.tmps[23]?.getD undef = .bool true := (hn 23 (by kernel_rfl)).trans rfl
          have r107 : b.tmps[107]?.getD undef = .bool true := hV 29 _ 107 rfl rfl (Pred.waits_near (by kernel_rfl) (by kernel_rfl))
          exact Pred.yields_run (v := .bool true) ((Pred.wanted_at (g := 29) (d := 107) (f := true) rfl rfl r107).trans rfl) (by go_simp) ⟨Pred.ext_refl _ _, rfl⟩
        · intro b X hE hd hn hV
          have r108 : b.tmps[108]?.getD undef = .bool true := hV 30 _ 108 rfl rfl (Pred.waits_near (by kernel_rfl) (by kernel_rfl))
          have r107 : b.tmps[107]?.getD undef = .bool true := hV 29 _ 107 rfl rfl (Pred.waits_near (by kernel_rfl) (by kernel_rfl))
          exact Pred.yields_run (v := .bool true) ((Pred.wanted_at (g := 29) (d := 107) (f := true) rfl rfl r107).trans rfl) (by go_simp) ⟨Pred.ext_refl _ _, rfl⟩
        · intro b X hE hd hn hV
          have r109 : b.tmps[109]?.getD undef = .bool true := hV 31 _ 109 rfl rfl (Pred.waits_near (by kernel_rfl) (by kernel_rfl))
          exact Pred.yields_not ((Pred.wanted_at (g := 31) (d := 109) (f := false) rfl rfl r109).trans rfl) ⟨Pred.ext_refl _ _, rfl⟩
        · intro b X hE hd hn hV
          have r109 : b.tmps[109]?.getD undef = .bool true := hV 31 _ 109 rfl rfl (Pred.waits_near (by kernel_rfl) (by kernel_rfl))
          exact Pred.yields_not ((Pred.wanted_at (g := 31) (d := 109) (f := false) rfl rfl r109).trans rfl) ⟨Pred.ext_refl _ _, rfl⟩
        · intro b X hE hd hn hV
          have r109 : b.tmps[109]?.getD undef = .bool true := hV 31 _ 109 rfl rfl (Pred.waits_near (by kernel_rfl) (by kernel_rfl))
          have r111 : b.tmps[111]?.getD undef = undef := hV 33 _ 111 rfl rfl (Pred.waits_near (by kernel_rfl) (by kernel_rfl))
          have r107 : b.tmps[107]?.getD undef = .bool true := hV 29 _ 107 rfl rfl (Pred.waits_near (by kernel_rfl) (by kernel_rfl))
          exact Pred.yields_run (v := .bool true) ((Pred.wanted_at (g := 29) (d := 107) (f := true) rfl rfl r107).trans rfl) (by go_simp) ⟨Pred.ext_refl _ _, rfl⟩
        · intro b X hE hd hn hV
          have r107 : b.tmps[107]?.getD undef = .bool true := hV 29 _ 107 rfl rfl (Pred.waits_near (by kernel_rfl) (by kernel_rfl))
          have r112 : b.tmps[112]?.getD undef = .bool true := hV 34 _ 112 rfl rfl (Pred.waits_near (by kernel_rfl) (by kernel_rfl))
          exact Pred.yields_run (v := .bool true) (Pred.wanted_none rfl) (by go_simp) ⟨Pred.ext_refl _ _, rfl⟩
        · intro b X hE hd hn hV
          have r113 : b.tmps[113]?.getD undef = .bool true := hV 35 _ 113 rfl rfl (Pred.waits_near (by kernel_rfl) (by kernel_rfl))
          exact Pred.yields_run (v := .bool true) (Pred.wanted_none rfl) (by go_simp) ⟨Pred.ext_refl _ _, rfl⟩
        · intro b X hE hd hn hV
          have r6 : b.tmps[6]?.getD undef = .pointer (some ⟨w.heap.size, 0, none⟩) := (hn 6 (by kernel_rfl)).trans rfl
          have r114 : b.tmps[114]?.getD undef = .bool true := hV 36 _ 114 rfl rfl (Pred.waits_near (by kernel_rfl) (by kernel_rfl))
          have q := (blk_below hE _ l1).trans x9
          exact Pred.yields_run (v := .agg (blkV a0_0 a0_1 a0_2 a0_3 a0_4 a0_5)) ((Pred.wanted_at (g := 36) (d := 114) (f := true) rfl rfl r114).trans rfl) (by go_simp) ⟨Pred.ext_refl _ _, rfl⟩
        · intro b X hE hd hn hV
          have r7 : b.tmps[7]?.getD undef = .pointer (some ⟨w.heap.size + 1, 0, none⟩) := (hn 7 (by kernel_rfl)).trans rfl
          have r114 : b.tmps[114]?.getD undef = .bool true := hV 36 _ 114 rfl rfl (Pred.waits_near (by kernel_rfl) (by kernel_rfl))
          have q := (blk_below hE _ l2).trans y9
          exact Pred.yields_run (v := .agg (blkV a1_0 a1_1 a1_2 a1_3 a1_4 a1_5)) ((Pred.wanted_at (g := 36) (d := 114) (f := true) rfl rfl r114).trans rfl) (by go_simp) ⟨Pred.ext_refl _ _, rfl⟩
        · intro b X hE hd hn hV
          have r3 : b.tmps[3]?.getD undef = .bool a3 := (hn 3 (by kernel_rfl)).trans rfl
          have r114 : b.tmps[114]?.getD undef = .bool true := hV 36 _ 114 rfl rfl (Pred.waits_near (by kernel_rfl) (by kernel_rfl))
          exact Pred.yields_run (v := .bool a3) ((Pred.wanted_at (g := 36) (d := 114) (f := true) rfl rfl r114).trans rfl) (by go_simp) ⟨Pred.ext_refl _ _, rfl⟩
        · intro b X hE hd hn hV
          have r4 : b.tmps[4]?.getD undef = .bool a4 := (hn 4 (by kernel_rfl)).trans rfl
          have r114 : b.tmps[114]?.getD undef = .bool true := hV 36 _ 114 rfl rfl (Pred.waits_near (by kernel_rfl) (by kernel_rfl))
          exact Pred.yields_run (v := .bool a4) ((Pred.wanted_at (g := 36) (d := 114) (f := true) rfl rfl r114).trans rfl) (by go_simp) ⟨Pred.ext_refl _ _, rfl⟩
        · intro b X hE hd hn hV
          have r115 : b.tmps[115]?.getD undef = .agg (blkV a0_0 a0_1 a0_2 a0_3 a0_4 a0_5) := hV 37 _ 115 rfl rfl (Pred.waits_near (by kernel_rfl) (by kernel_rfl))
          have r116 : b.tmps[116]?.getD undef = .agg (blkV a1_0 a1_1 a1_2 a1_3 a1_4 a1_5) := hV 38 _ 116 rfl rfl (Pred.waits_near (by kernel_rfl) (by kernel_rfl))
          have r117 : b.tmps[117]?.getD undef = .bool a3 := hV 39 _ 117 rfl rfl (Pred.waits_near (by kernel_rfl) (by kernel_rfl))
          have r118 : b.tmps[118]?.getD undef = .bool a4 := hV 40 _ 118 rfl rfl (Pred.waits_near (by kernel_rfl) (by kernel_rfl))
          have r114 : b.tmps[114]?.getD undef = .bool true := hV 36 _ 114 rfl rfl (Pred.waits_near (by kernel_rfl) (by kernel_rfl))
          refine Pred.yields_call (f := 15) (args := #[.agg (blkV a0_0 a0_1 a0_2 a0_3 a0_4 a0_5), .agg (blkV a1_0 a1_1 a1_2 a1_3 a1_4 a1_5), .bool a3, .bool a4]) ((Pred.wanted_at (g := 36) (d := 114) (f := true) rfl rfl r114).trans rfl) (by go_simp) ?_
          exact (newer_any a0_0 a0_1 a0_2 a0_3 a0_4 a0_5 a1_0 a1_1 a1_2 a1_3 a1_4 a1_5 a3 a4 _).mono fun e w2 ⟨he, hb⟩ => ⟨_, he, Pred.ext_below hb hE.size, rfl⟩
        · intro b X hE hd hn hV
          have r6 : b.tmps[6]?.getD undef = .pointer (some ⟨w.heap.size, 0, none⟩) := (hn 6 (by kernel_rfl)).trans rfl
          have r114 : b.tmps[114]?.getD undef = .bool true := hV 36 _ 114 rfl rfl (Pred.waits_near (by kernel_rfl) (by kernel_rfl))
          have q := (blk_below hE _ l1).trans x9
          exact Pred.yields_run (v := .agg (blkV a0_0 a0_1 a0_2 a0_3 a0_4 a0_5)) ((Pred.wanted_at (g := 36) (d := 114) (f := true) rfl rfl r114).trans rfl) (by go_simp) ⟨Pred.ext_refl _ _, rfl⟩
        · intro b X hE hd hn hV
          have r120 : b.tmps[120]?.getD undef = .agg (blkV a0_0 a0_1 a0_2 a0_3 a0_4 a0_5) := hV 42 _ 120 rfl rfl (Pred.waits_near (by kernel_rfl) (by kernel_rfl))
          have r114 : b.tmps[114]?.getD undef = .bool true := hV 36 _ 114 rfl rfl (Pred.waits_near (by kernel_rfl) (by kernel_rfl))
          refine Pred.yields_call (f := 11) (args := #[.agg (blkV a0_0 a0_1 a0_2 a0_3 a0_4 a0_5)]) ((Pred.wanted_at (g := 36) (d := 114) (f := true) rfl rfl r114).trans rfl) (by go_simp) ?_
          exact (flat_any a0_0 a0_1 a0_2 a0_3 a0_4 a0_5 _).mono fun e w2 ⟨he, hb⟩ => ⟨_, he, Pred.ext_below hb hE.size, rfl⟩
        · intro b X hE hd hn hV
          have r7 : b.tmps[7]?.getD undef = .pointer (some ⟨w.heap.size + 1, 0, none⟩) := (hn 7 (by kernel_rfl)).trans rfl
          have r114 : b.tmps[114]?.getD undef = .bool true := hV 36 _ 114 rfl rfl (Pred.waits_near (by kernel_rfl) (by kernel_rfl))
          have q := (blk_below hE _ l2).trans y9
          exact Pred.yields_run (v := .agg (blkV a1_0 a1_1 a1_2 a1_3 a1_4 a1_5)) ((Pred.wanted_at (g := 36) (d := 114) (f := true) rfl rfl r114).trans rfl) (by go_simp) ⟨Pred.ext_refl _ _, rfl⟩
        · intro b X hE hd hn hV
          have r122 : b.tmps[122]?.getD undef = .agg (blkV a1_0 a1_1 a1_2 a1_3 a1_4 a1_5) := hV 44 _ 122 rfl rfl (Pred.waits_near (by kernel_rfl) (by kernel_rfl))
          have r114 : b.tmps[114]?.getD undef = .bool true := hV 36 _ 114 rfl rfl (Pred.waits_near (by kernel_rfl) (by kernel_rfl))
          refine Pred.yields_call (f := 11) (args := #[.agg (blkV a1_0 a1_1 a1_2 a1_3 a1_4 a1_5)]) ((Pred.wanted_at (g := 36) (d := 114) (f := true) rfl rfl r114).trans rfl) (by go_simp) ?_
          exact (flat_any a1_0 a1_1 a1_2 a1_3 a1_4 a1_5 _).mono fun e w2 ⟨he, hb⟩ => ⟨_, he, Pred.ext_below hb hE.size, rfl⟩
        · intro b X hE hd hn hV
          have r3 : b.tmps[3]?.getD undef = .bool a3 := (hn 3 (by kernel_rfl)).trans rfl
          have r114 : b.tmps[114]?.getD undef = .bool true := hV 36 _ 114 rfl rfl (Pred.waits_near (by kernel_rfl) (by kernel_rfl))
          exact Pred.yields_run (v := .bool a3) ((Pred.wanted_at (g := 36) (d := 114) (f := true) rfl rfl r114).trans rfl) (by go_simp) ⟨Pred.ext_refl _ _, rfl⟩
        · intro b X hE hd hn hV
          have r4 : b.tmps[4]?.getD undef = .bool a4 := (hn 4 (by kernel_rfl)).trans rfl
          have r114 : b.tmps[114]?.getD undef = .bool true := hV 36 _ 114 rfl rfl (Pred.waits_near (by kernel_rfl) (by kernel_rfl))
          exact Pred.yields_run (v := .bool a4) ((Pred.wanted_at (g := 36) (d := 114) (f := true) rfl rfl r114).trans rfl) (by go_simp) ⟨Pred.ext_refl _ _, rfl⟩
        · intro b X hE hd hn hV
          have r121 : b.tmps[121]?.getD undef = .agg (blkV a0_0 a0_1 a0_2 a0_3 a0_4 a0_5) := hV 43 _ 121 rfl rfl (Pred.waits_near (by kernel_rfl) (by kernel_rfl))
          have r123 : b.tmps[123]?.getD undef = .agg (blkV a1_0 a1_1 a1_2 a1_3 a1_4 a1_5) := hV 45 _ 123 rfl rfl (Pred.waits_near (by kernel_rfl) (by kernel_rfl))
          have r124 : b.tmps[124]?.getD undef = .bool a3 := hV 46 _ 124 rfl rfl (Pred.waits_near (by kernel_rfl) (by kernel_rfl))
          have r125 : b.tmps[125]?.getD undef = .bool a4 := hV 47 _ 125 rfl rfl (Pred.waits_near (by kernel_rfl) (by kernel_rfl))
          have r114 : b.tmps[114]?.getD undef = .bool true := hV 36 _ 114 rfl rfl (Pred.waits_near (by kernel_rfl) (by kernel_rfl))
          refine Pred.yields_call (f := 16) (args := #[.agg (blkV a0_0 a0_1 a0_2 a0_3 a0_4 a0_5), .agg (blkV a1_0 a1_1 a1_2 a1_3 a1_4 a1_5), .bool a3, .bool a4]) ((Pred.wanted_at (g := 36) (d := 114) (f := true) rfl rfl r114).trans rfl) (by go_simp) ?_
          exact (rnewer_any a0_0 a0_1 a0_2 a0_3 a0_4 a0_5 a1_0 a1_1 a1_2 a1_3 a1_4 a1_5 a3 a4 _).mono fun e w2 ⟨he, hb⟩ => ⟨_, he, Pred.ext_below hb hE.size, rfl⟩
        · intro b X hE hd hn hV
          have r119 : b.tmps[119]?.getD undef = .int .i64 (newV a0_0 a1_0 a3 a4) := hV 41 _ 119 rfl rfl (Pred.waits_near (by kernel_rfl) (by kernel_rfl))
          have r126 : b.tmps[126]?.getD undef = .int .i64 (newV a0_0 a1_0 a3 a4) := hV 48 _ 126 rfl rfl (Pred.waits_near (by kernel_rfl) (by kernel_rfl))
          have r114 : b.tmps[114]?.getD undef = .bool true := hV 36 _ 114 rfl rfl (Pred.waits_near (by kernel_rfl) (by kernel_rfl))
          exact Pred.yields_run (v := .bool true) ((Pred.wanted_at (g := 36) (d := 114) (f := true) rfl rfl r114).trans rfl) (by go_simp) ⟨Pred.ext_refl _ _, rfl⟩
        · intro b X hE hd hn hV
          have r114 : b.tmps[114]?.getD undef = .bool true := hV 36 _ 114 rfl rfl (Pred.waits_near (by kernel_rfl) (by kernel_rfl))
          have r127 : b.tmps[127]?.getD undef = .bool true := hV 49 _ 127 rfl rfl (Pred.waits_near (by kernel_rfl) (by kernel_rfl))
          exact Pred.yields_run (v := .bool true) (Pred.wanted_none rfl) (by go_simp) ⟨Pred.ext_refl _ _, rfl⟩
        · intro b X hE hd hn hV
          have r128 : b.tmps[128]?.getD undef = .bool true := hV 50 _ 128 rfl rfl (Pred.waits_near (by kernel_rfl) (by kernel_rfl))
          exact Pred.yields_run (v := .bool true) (Pred.wanted_none rfl) (by go_simp) ⟨Pred.ext_refl _ _, rfl⟩
        · intro b X hE hd hn hV
          have r129 : b.tmps[129]?.getD undef = .bool true := hV 51 _ 129 rfl rfl (Pred.waits_near (by kernel_rfl) (by kernel_rfl))
          refine Pred.yields_call (f := 6) (args := #[]) ((Pred.wanted_at (g := 51) (d := 129) (f := true) rfl rfl r129).trans rfl) (by go_simp) ?_
          exact (awake_any _).mono fun e w2 ⟨he, hb⟩ => ⟨_, he, Pred.ext_below hb hE.size, rfl⟩
        · intro b X hE hd hn hV
          have r129 : b.tmps[129]?.getD undef = .bool true := hV 51 _ 129 rfl rfl (Pred.waits_near (by kernel_rfl) (by kernel_rfl))
          have r130 : b.tmps[130]?.getD undef = .bool true := hV 52 _ 130 rfl rfl (Pred.waits_near (by kernel_rfl) (by kernel_rfl))
          exact Pred.yields_run (v := .bool true) (Pred.wanted_none rfl) (by go_simp) ⟨Pred.ext_refl _ _, rfl⟩
        · intro b X hE hd hn hV
          have r131 : b.tmps[131]?.getD undef = .bool true := hV 53 _ 131 rfl rfl (Pred.waits_near (by kernel_rfl) (by kernel_rfl))
          exact Pred.yields_run (v := .bool true) (Pred.wanted_none rfl) (by go_simp) ⟨Pred.ext_refl _ _, rfl⟩
      intro v X hE hv
      have e0 : v 0 = .slice (aE) 32 c3 := hv 0 _ 78 rfl rfl
      have e1 : v 1 = .string (bytesOf (encL a0_0 a0_1 a0_2 a0_3 a0_4 a0_5)) := hv 1 _ 79 rfl rfl
      have e2 : v 2 = .slice (a5') 32 c5 := hv 2 _ 80 rfl rfl
      have e3 : v 3 = .string (bytesOf (encL a0_0 a0_1 a0_2 a0_3 a0_4 a0_5)) := hv 3 _ 81 rfl rfl
      have e4 : v 4 = .bool true := hv 4 _ 82 rfl rfl
      have e5 : v 5 = .bool true := hv 5 _ 83 rfl rfl
      have e6 : v 6 = .int .i64 0 := hv 6 _ 84 rfl rfl
      have e7 : v 7 = .bool true := hv 7 _ 85 rfl rfl
      have e8 : v 8 = .bool true := hv 8 _ 86 rfl rfl
      have e9 : v 9 = .bool true := hv 9 _ 87 rfl rfl
      have e10 : v 10 = .bool true := hv 10 _ 88 rfl rfl
      have e11 : v 11 = .bool true := hv 11 _ 89 rfl rfl
      have e12 : v 12 = .bool true := hv 12 _ 90 rfl rfl
      have e13 : v 13 = .bool true := hv 13 _ 91 rfl rfl
      have e14 : v 14 = undef := hv 14 _ 92 rfl rfl
      have e15 : v 15 = undef := hv 15 _ 93 rfl rfl
      have e16 : v 16 = .bool true := hv 16 _ 94 rfl rfl
      have e17 : v 17 = .bool true := hv 17 _ 95 rfl rfl
      have e18 : v 18 = .bool true := hv 18 _ 96 rfl rfl
      have e19 : v 19 = .agg (decV (zs)) := hv 19 _ 97 rfl rfl
      have e20 : v 20 = .agg (decV (zs)) := hv 20 _ 98 rfl rfl
      have e21 : v 21 = .bool true := hv 21 _ 99 rfl rfl
      have e22 : v 22 = .bool true := hv 22 _ 100 rfl rfl
      have e23 : v 23 = .bool true := hv 23 _ 101 rfl rfl
      have e24 : v 24 = .int .i64 0 := hv 24 _ 102 rfl rfl
      have e25 : v 25 = .bool true := hv 25 _ 103 rfl rfl
      have e26 : v 26 = .bool true := hv 26 _ 104 rfl rfl
      have e27 : v 27 = .bool true := hv 27 _ 105 rfl rfl
      have e28 : v 28 = .bool true := hv 28 _ 106 rfl rfl
      have e29 : v 29 = .bool true := hv 29 _ 107 rfl rfl
      have e30 : v 30 = .bool true := hv 30 _ 108 rfl rfl
      have e31 : v 31 = .bool true := hv 31 _ 109 rfl rfl
      have e32 : v 32 = undef := hv 32 _ 110 rfl rfl
      have e33 : v 33 = undef := hv 33 _ 111 rfl rfl
      have e34 : v 34 = .bool true := hv 34 _ 112 rfl rfl
      have e35 : v 35 = .bool true := hv 35 _ 113 rfl rfl
      have e36 : v 36 = .bool true := hv 36 _ 114 rfl rfl
      have e37 : v 37 = .agg (blkV a0_0 a0_1 a0_2 a0_3 a0_4 a0_5) := hv 37 _ 115 rfl rfl
      have e38 : v 38 = .agg (blkV a1_0 a1_1 a1_2 a1_3 a1_4 a1_5) := hv 38 _ 116 rfl rfl
      have e39 : v 39 = .bool a3 := hv 39 _ 117 rfl rfl
      have e40 : v 40 = .bool a4 := hv 40 _ 118 rfl rfl
      have e41 : v 41 = .int .i64 (newV a0_0 a1_0 a3 a4) := hv 41 _ 119 rfl rfl
      have e42 : v 42 = .agg (blkV a0_0 a0_1 a0_2 a0_3 a0_4 a0_5) := hv 42 _ 120 rfl rfl
      have e43 : v 43 = .agg (blkV a0_0 a0_1 a0_2 a0_3 a0_4 a0_5) := hv 43 _ 121 rfl rfl
      have e44 : v 44 = .agg (blkV a1_0 a1_1 a1_2 a1_3 a1_4 a1_5) := hv 44 _ 122 rfl rfl
      have e45 : v 45 = .agg (blkV a1_0 a1_1 a1_2 a1_3 a1_4 a1_5) := hv 45 _ 123 rfl rfl
      have e46 : v 46 = .bool a3 := hv 46 _ 124 rfl rfl
      have e47 : v 47 = .bool a4 := hv 47 _ 125 rfl rfl
      have e48 : v 48 = .int .i64 (newV a0_0 a1_0 a3 a4) := hv 48 _ 126 rfl rfl
      have e49 : v 49 = .bool true := hv 49 _ 127 rfl rfl
      have e50 : v 50 = .bool true := hv 50 _ 128 rfl rfl
      have e51 : v 51 = .bool true := hv 51 _ 129 rfl rfl
      have e52 : v 52 = .bool true := hv 52 _ 130 rfl rfl
      have e53 : v 53 = .bool true := hv 53 _ 131 rfl rfl
      have e54 : v 54 = .bool true := hv 54 _ 12 rfl rfl
      simp only [Pred.putsF_cons, Pred.putsF_nil, Nat.zero_add, Nat.reduceAdd, e0, e1, e2, e3, e4, e5, e6, e7, e8, e9, e10, e11, e12, e13, e14, e15, e16, e17, e18, e19, e20, e21, e22, e23, e24, e25, e26, e27, e28, e29, e30, e31, e32, e33, e34, e35, e36, e37, e38, e39, e40, e41, e42, e43, e44, e45, e46, e47, e48, e49, e50, e51, e52, e53, e54, Act.put, List.setIfInBounds_toArray, List.set_cons_zero, List.set_cons_succ]
      clear e0 e1 e2 e3 e4 e5 e6 e7 e8 e9 e10 e11 e12 e13 e14 e15 e16 e17 e18 e19 e20 e21 e22 e23 e24 e25 e26 e27 e28 e29 e30 e31 e32 e33 e34 e35 e36 e37 e38 e39 e40 e41 e42 e43 e44 e45 e46 e47 e48 e49 e50 e51 e52 e53 e54 hv
      have sZ := hE.size
      have L10 : Below w.heap.size w X := L9.trans (hE.mono L9.size)
      go_wp2
      go_ret
      exact ⟨rfl, L10⟩
end Go.Proofs.Ytbicgcnlijgjmaa.SupG

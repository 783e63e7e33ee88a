/-
  What super.Newer does; what the document fixes of heads.
-/
import Derived.Test.YtbicgcnlijgjmaaSupC
import Derived.Test.YtbicgcnlijgjmaaMk
namespace Go.Proofs.Ytbicgcnlijgjmaa.SupD
open Go.RowKit Rd Go.Proofs.Ytbicgcnlijgjmaa.Row OctA OctB SupA SupB SupC
open CrcA (tblL tblL_len tblL_at tblF byteN)
open CrcB (onV onF onF_lt)
open Go.Proofs.Ytbicgcnlijgjmaa.PredS (Is is_stab Stab Sl sl_stab)
set_option linter.unusedVariables false
set_option linter.unusedSimpArgs false
set_option maxRecDepth 100000
attribute [local go_sem ↓] CrcA.load_tbl CrcA.store_tbl load_sup store_sup alloc_sup eq_sup
attribute [local go_sem] CrcA.run_load_tbl CrcA.run_store_tbl run_alloc_sup run_load_sup run_store_sup rowLoad_eq rowStore_eq blk_alloc_at blk_alloc_old blk_drew blk_drewN blk_set_far blk_set_far' blk_grow setRow_alloc_at setRow_alloc_old setRow_drew setRow_drewN all_map one_int blkV_size blkV_all blkV_all6 zeroB_size zeroB_all6 one_bool
attribute [local go_sem ↓] CrcA.alloc_tbl
attribute [local go_sem] CrcA.run_alloc_tbl
def newV (x y : Int) (p q : Bool) : Int := if p = true ∧ (q = false ∨ y ≤ x) then 0 else if q = true then 1 else -1
theorem newer_any (g d : Int) (r : Bool) (s l m : Int) (g' d' : Int) (r' : Bool) (s' l' m' : Int) (p q : Bool) (w : World) :
    Calls Try.prog 15 #[.agg (blkV g d r s l m), .agg (blkV g' d' r' s' l' m'), .bool p, .bool q] w fun e w' => e = .returned (.int .i64 (newV g g' p q)) ∧ Below w.heap.size w w' := by
  unfold blkV
  cases p <;> cases q
  case true.true =>
    by_cases h : g' ≤ g
    · have hv : newV g g' true true = 0 := by unfold newV; rw [if_pos ⟨rfl, .inr h⟩]
      go_enter Try.func15, Try.ntmps15
      go_wp2
      go_ret
      exact ⟨by first | rfl | (rw [hv]; rfl), by repeat' (first | (with_reducible exact Below.refl _ _) | (with_reducible refine Rd.below_step ?_ (by assumption)) | (with_reducible refine Rd.below_alloc ?_ _) | (with_reducible refine Rd.below_drewN ?_ _) | (with_reducible refine Below.drew ?_) | (with_reducible refine Below.setCell ?_ ?_ _) | (with_reducible refine Rd.below_setRow ?_ ?_ _) | go_size | (simp only [World.size_alloc]; omega) | omega)⟩
    · have hv : newV g g' true true = 1 := by unfold newV; rw [if_neg (by simp [h]), if_pos rfl]
      go_enter Try.func15, Try.ntmps15
      go_wp2
      go_ret
      exact ⟨by first | rfl | (rw [hv]; rfl), by repeat' (first | (with_reducible exact Below.refl _ _) | (with_reducible refine Rd.below_step ?_ (by assumption)) | (with_reducible refine Rd.below_alloc ?_ _) | (with_reducible refine Rd.below_drewN ?_ _) | (with_reducible refine Below.drew ?_) | (with_reducible refine Below.setCell ?_ ?_ _) | (with_reducible refine Rd.below_setRow ?_ ?_ _) | go_size | (simp only [World.size_alloc]; omega) | omega)⟩
  all_goals
    go_enter Try.func15, Try.ntmps15
    go_wp2
    go_ret
    exact ⟨rfl, by repeat' (first | (with_reducible exact Below.refl _ _) | (with_reducible refine Rd.below_step ?_ (by assumption)) | (with_reducible refine Rd.below_alloc ?_ _) | (with_reducible refine Rd.below_drewN ?_ _) | (with_reducible refine Below.drew ?_) | (with_reducible refine Below.setCell ?_ ?_ _) | (with_reducible refine Rd.below_setRow ?_ ?_ _) | go_size | (simp only [World.size_alloc]; omega) | omega)⟩
def encX : List Int := [87, 65, 73, 78, 0, 0, 1, 2, 3, 1, 0, 5, 0, 7, 0, 0, 0, 9, 0, 0, 0, 0, 0, 0, 0, 0, 0, 0, 43, 32, 95, 162]
theorem encX_eq : encL 258 3 true 5 7 9 = encX := by decide
theorem encX_ok : decOK encX = true := by decide
theorem encX_dec : decV encX = blkV 258 3 true 5 7 9 := by kernel_rfl
theorem zero_no : decOK (List.replicate 32 0) = false := by decide
theorem encX_b8 : B8s encX := by decide
theorem encX_str {w : World} {a : Option Addr} {cap : Nat} (h : Reads w 1 a 32 (u8s encX)) : (convert 25 9 (.slice a 10 cap)).run Try.prog w = .ok (.string ⟨#[87, 65, 73, 78, 0, 0, 1, 2, 3, 1]⟩) w := by
  have h2 : Reads w 1 a 10 (u8s (encX.take 10)) := Bytes.Reads.take h (by omega)
  have h3 := conv_reads (P := Try.prog) (cap := cap) Try.underlying25 Try.underlying5 Try.underlying9 h2 (by decide)
  rw [h3]
  congr 1
set_option maxHeartbeats 8000000 in
theorem awake_any (w : World) :
    Calls Try.prog 6 #[] w fun e w' => e = .returned (.bool true) ∧ Below w.heap.size w w' := by
  have hl := tblL_len
  go_enter Try.func6, Try.ntmps6
  go_wp2_with fail
  refine (CrcA.make_any _).mono ?_
  rintro e w1 ⟨rfl, hb1⟩
  have s1 := hb1.size
  have t0 : blk ((w1.alloc (.cells (cs .u32 tblL) 28)).alloc (.cells (blkV 258 3 true 5 7 9) 24)) w1.heap.size = some (.cells (cs .u32 tblL) 28 (0, 0)) := blk2_0 w1 _ _
  have x0 : blk ((w1.alloc (.cells (cs .u32 tblL) 28)).alloc (.cells (blkV 258 3 true 5 7 9) 24)) (w1.heap.size + 1) = some (.cells (blkV 258 3 true 5 7 9) 24 (0, 0)) := blk2_1 w1 _ _
  go_wp2_with fail
  refine (encode_yes 258 3 true 5 7 9 _ (by decide) (by decide) (by decide) (by decide) (by decide) (by decide)).mono ?_
  rintro e w2 ⟨a3, c3, rfl, hc1, hc2, hR, hb2⟩
  rw [encX_eq] at hR
  have s2 := hb2.size
  simp only [World.size_alloc] at s2
  have t1 := (blk_below hb2 _ (by simp <;> omega)).trans t0
  have x1 := (blk_below hb2 _ (by simp)).trans x0
  have L2 : Below w.heap.size w w2 := by repeat' (first | (with_reducible exact Below.refl _ _) | (with_reducible refine Rd.below_step ?_ (by assumption)) | (with_reducible refine Rd.below_alloc ?_ _) | (with_reducible refine Rd.below_drewN ?_ _) | (with_reducible refine Below.drew ?_) | (with_reducible refine Below.setCell ?_ ?_ _) | (with_reducible refine Rd.below_setRow ?_ ?_ _) | go_size | (simp only [World.size_alloc]; omega) | omega)
  clear t0 x0 hb1 hb2
  have l1 := blk_lt t1
  have l2 := blk_lt x1
  go_wp2_with fail
  refine (decode_any a3 c3 encX _ hR encX_b8 hc1 hc2).mono ?_
  rintro e w3 ⟨rfl, hb3⟩
  rw [decRes_yes encX_ok, encX_dec]
  have s3 := hb3.size
  have t2 := (blk_below hb3 _ l1).trans t1
  have x2 := (blk_below hb3 _ l2).trans x1
  have R3 := hR.below hb3 (Nat.le_refl _)
  have L3 : Below w.heap.size w w3 := by repeat' (first | (with_reducible exact Below.refl _ _) | (with_reducible refine Rd.below_step ?_ (by assumption)) | (with_reducible refine Rd.below_alloc ?_ _) | (with_reducible refine Rd.below_drewN ?_ _) | (with_reducible refine Below.drew ?_) | (with_reducible refine Below.setCell ?_ ?_ _) | (with_reducible refine Rd.below_setRow ?_ ?_ _) | go_size | (simp only [World.size_alloc]; omega) | omega)
  clear t1 x1 hR hb3 L2 l1 l2
  have l1 := blk_lt t2
  have l2 := blk_lt x2
  have hz6 : zeroB.size = 6 := rfl
  go_upto_region 5 with (fail)
  refine Rd.name_world ?_
  intro W hW
  have t3 : blk W w1.heap.size = some (.cells (cs .u32 tblL) 28 (0, 0)) := by rw [hW, blk_alloc_old _ _ _ l1]; exact t2
  have x3 : blk W (w1.heap.size + 1) = some (.cells (blkV 258 3 true 5 7 9) 24 (0, 0)) := by rw [hW, blk_alloc_old _ _ _ l2]; exact x2
  have y3 : blk W w3.heap.size = some (.cells (blkV 258 3 true 5 7 9) 24 (0, 0)) := by rw [hW]; exact blk_alloc_at _ _ _ rfl
  have R4 : Reads W 1 a3 32 (u8s encX) := by rw [hW]; exact R3.below ((Below.refl _ _).alloc (Nat.le_refl _) _) (Nat.le_refl _)
  have L4 : Below w.heap.size w W := by rw [hW]; repeat' (first | (with_reducible exact Below.refl _ _) | (with_reducible refine Rd.below_step ?_ (by assumption)) | (with_reducible refine Rd.below_alloc ?_ _) | (with_reducible refine Rd.below_drewN ?_ _) | (with_reducible refine Below.drew ?_) | (with_reducible refine Below.setCell ?_ ?_ _) | (with_reducible refine Rd.below_setRow ?_ ?_ _) | go_size | (simp only [World.size_alloc]; omega) | omega)
  clear hW t2 x2 R3 L3 l1 l2
  have l1 := blk_lt t3
  have l2 := blk_lt x3
  have l3 := blk_lt y3
  refine PredS.region_vals (W := W) [⟨6, 7, 24, zeroB, zeroB⟩] (PredS.Of [
      Is (.agg (cs .u32 tblL)),
      Sl W.heap.size ((List.replicate 32 0)) 5,
      Is (.tuple #[.agg zeroB, .int .i64 3]),
      Is (.tuple #[.agg zeroB, .int .i64 3]),
      Is (.agg zeroB),
      Is (.int .i64 3),
      Is undef,
      Is undef,
      Is (.int .i64 3)]) (by kernel_rfl) (by kernel_rfl) (by kernel_rfl) (by kernel_rfl) (PredS.of_stab ?_) ?_ ?_ ?_
  · exact ⟨is_stab _, sl_stab _ _ _ (by decide), is_stab _, is_stab _, is_stab _, is_stab _, is_stab _, is_stab _, is_stab _, trivial⟩
  · refine ⟨.inr ?_, .inr ?_, .inr ?_, .inr ?_, .inr ?_, .inr ?_, .inl rfl, .inl rfl, .inr ?_, trivial⟩
    · intro b X hE hd hn hV
      have r1 : b.tmps[1]?.getD undef = .pointer (some ⟨w1.heap.size, 0, none⟩) := (hn 1 (by kernel_rfl)).trans rfl
      have q := (blk_below hE _ l1).trans t3
      exact Pred.yields_run (v := .agg (cs .u32 tblL)) (Pred.wanted_none rfl) (by go_simp) ⟨PredS.ext_refl _ _ _, rfl⟩
    · intro b X hE hd hn hV
      exact Pred.yields_run (v := .slice (some ⟨X.heap.size, 0, none⟩) 32 32) (w' := X.alloc (.cells (cs .u8 (List.replicate 32 0)) 5)) (Pred.wanted_none rfl) (by go_simp; rw [show Instr.makeSlice 25 (.int .i64 32) (.int .i64 32) = Instr.makeSlice 25 (.int .i64 ((32 : Nat) : Int)) (.int .i64 ((32 : Nat) : Int)) from rfl, Mk.run_make_u8 32 (by omega)]; rfl) ⟨PredS.step_alloc _ hE.size, X.heap.size, 32, rfl, ⟨hE.size, rfl⟩, _, blk_alloc_at _ _ _ rfl⟩
    · intro b X hE hd hn hV
      have r26 : b.tmps[26]?.getD undef = .agg (cs .u32 tblL) := hV 0 _ 26 rfl rfl rfl (Pred.waits_near (by kernel_rfl) (by kernel_rfl))
      obtain ⟨g27, c27, r27, ⟨o27, m27⟩, f27, q27⟩ : Sl W.heap.size ((List.replicate 32 0)) 5 (b.tmps[27]?.getD undef) X := hV 1 _ 27 rfl rfl rfl (Pred.waits_near (by kernel_rfl) (by kernel_rfl))
      have k27 := blk_lt q27
      have m : c27 = 32 := m27
      refine Pred.yields_call (f := 12) (args := #[.agg (cs .u32 tblL), .slice (some ⟨g27, 0, none⟩) 32 c27]) (Pred.wanted_none rfl) (by go_simp) ?_
      exact (decode_any _ _ (List.replicate 32 0) _ (PredS.reads_sl q27) (by decide) (by omega) (by unfold maxLen; omega)).mono fun e w2 ⟨he, hb⟩ => ⟨_, he, PredS.ext_below hb hE.size, by show Value.tuple _ = _; rw [decRes_no zero_no]⟩
    · intro b X hE hd hn hV
      have r28 : b.tmps[28]?.getD undef = .tuple #[.agg zeroB, .int .i64 3] := hV 2 _ 28 rfl rfl rfl (Pred.waits_near (by kernel_rfl) (by kernel_rfl))
      exact Pred.yields_run (v := .tuple #[.agg zeroB, .int .i64 3]) (Pred.wanted_none rfl) (by go_simp) ⟨PredS.ext_refl _ _ _, rfl⟩
    · intro b X hE hd hn hV
      have r25 : b.tmps[25]?.getD undef = .tuple #[.agg zeroB, .int .i64 3] := hV 3 _ 25 rfl rfl rfl (Pred.waits_near (by kernel_rfl) (by kernel_rfl))
      exact Pred.yields_run (v := .agg zeroB) (Pred.wanted_none rfl) (by go_simp) ⟨PredS.ext_refl _ _ _, rfl⟩
    · intro b X hE hd hn hV
      have r25 : b.tmps[25]?.getD undef = .tuple #[.agg zeroB, .int .i64 3] := hV 3 _ 25 rfl rfl rfl (Pred.waits_near (by kernel_rfl) (by kernel_rfl))
      exact Pred.yields_run (v := .int .i64 3) (Pred.wanted_none rfl) (by go_simp) ⟨PredS.ext_refl _ _ _, rfl⟩
    · intro b X hE hd hn hV
      have r30 : b.tmps[30]?.getD undef = .int .i64 3 := hV 5 _ 30 rfl rfl rfl (Pred.waits_near (by kernel_rfl) (by kernel_rfl))
      exact Pred.yields_run (v := .int .i64 3) (Pred.wanted_none rfl) (by go_simp) ⟨PredS.ext_refl _ _ _, rfl⟩
  · refine ⟨?_, trivial⟩
    · refine ⟨_, 7, _, rfl, rfl, by simp, rfl, fun ρ w => by go_simp; rfl, rfl, rfl, Pred.waits_near (by kernel_rfl) (by kernel_rfl), fun b X g hE hn hV hp hg hb => ?_⟩
      have r29 : b.tmps[29]?.getD undef = .agg zeroB := hV 4 _ 29 rfl rfl rfl (Pred.waits_near (by kernel_rfl) (by kernel_rfl))
      simp only at hb
      exact PredS.yields_skip (Pred.wanted_none rfl) (by go_simp) rfl
  intro v X hE hv hL
  have e0 : v 0 = .agg (cs .u32 tblL) := hv 0 _ 26 rfl rfl rfl
  obtain ⟨g1, c1, e1, ⟨o1, m1⟩, f1, q1⟩ : Sl W.heap.size ((List.replicate 32 0)) 5 (v 1) X := hv 1 _ 27 rfl rfl rfl
  have e2 : v 2 = .tuple #[.agg zeroB, .int .i64 3] := hv 2 _ 28 rfl rfl rfl
  have e3 : v 3 = .tuple #[.agg zeroB, .int .i64 3] := hv 3 _ 25 rfl rfl rfl
  have e4 : v 4 = .agg zeroB := hv 4 _ 29 rfl rfl rfl
  have e5 : v 5 = .int .i64 3 := hv 5 _ 30 rfl rfl rfl
  have e8 : v 8 = .int .i64 3 := hv 8 _ 8 rfl rfl rfl
  obtain ⟨⟨g6, e6, o6, q6, n6⟩, -⟩ := hL
  replace q6 : blk X g6 = some (.cells zeroB 24 (0, 0)) := q6
  clear n6
  simp only [Pred.putsF_cons, Pred.putsF_nil, Nat.zero_add, Nat.reduceAdd, e0, e1, e2, e3, e4, e5, e6, e8, Act.put, List.setIfInBounds_toArray, List.set_cons_zero, List.set_cons_succ]
  clear e0 e1 e2 e3 e4 e5 e6 e8 hv
  have t4 := (blk_below hE _ l1).trans t3
  have x4 := (blk_below hE _ l2).trans x3
  have y4 := (blk_below hE _ l3).trans y3
  have R5 := R4.below hE (Nat.le_refl _)
  have sX := hE.size
  have L5 : Below w.heap.size w X := L4.trans (hE.mono L4.size)
  clear hE t3 x3 y3 R4 L4 l1 l2 l3
  have l1 := blk_lt t4
  have l2 := blk_lt x4
  have l3 := blk_lt y4
  go_wp2_with fail
  refine (encode_no 0 4 false 0 0 0 _ (by decide)).mono ?_
  rintro e Z ⟨rfl, hb6⟩
  have t5 := (blk_below hb6 _ l1).trans t4
  have x5 := (blk_below hb6 _ l2).trans x4
  have y5 := (blk_below hb6 _ l3).trans y4
  have R6 := R5.below hb6 (Nat.le_refl _)
  have L6 : Below w.heap.size w Z := by repeat' (first | (with_reducible exact Below.refl _ _) | (with_reducible refine Rd.below_step ?_ (by assumption)) | (with_reducible refine Rd.below_alloc ?_ _) | (with_reducible refine Rd.below_drewN ?_ _) | (with_reducible refine Below.drew ?_) | (with_reducible refine Below.setCell ?_ ?_ _) | (with_reducible refine Rd.below_setRow ?_ ?_ _) | go_size | (simp only [World.size_alloc]; omega) | omega)
  have hst := encX_str (cap := c3) R6
  have HX := Lib.hid x5
  clear t4 x4 y4 R5 L5 hb6 l1 l2 l3
  have hcap : (10 : Int) ≤ (c3 : Int) := by omega
  have n1 : newV 258 258 true true = 0 := by decide
  have n2 : newV 258 258 false true = 1 := by decide
  have n3 : newV 258 258 false false = -1 := by decide
  go_wp2_with (go_at_call 15; refine (newer_any _ _ _ _ _ _ _ _ _ _ _ _ _ _ _).mono ?_; rintro e V ⟨rfl, hb⟩; (first | rw [n1] | rw [n2] | rw [n3]); replace x5 := (blk_below hb _ (blk_lt x5)).trans x5; replace L6 := Rd.below_step L6 hb; clear hb)
  go_ret
  exact ⟨rfl, L6⟩
end Go.Proofs.Ytbicgcnlijgjmaa.SupD

/-
  The law of package hue: of any colours, and any bytes.
-/
import Derived.Test.YthlgokaehkifkaaHueD
import Derived.Test.YthlgokaehkifkaaRow
import Derived.Test.YthlgokaehkifkaaPred
import Derived.Test.YthlgokaehkifkaaBytes
namespace Go.Proofs.Ythlgokaehkifkaa.HueH
open Go.RowKit HueA Rd HueB HueC HueD Go.Proofs.Ythlgokaehkifkaa.Row
open Go.Proofs.Ythlgokaehkifkaa.Pred (Is is_stab Stab)
set_option linter.unusedVariables false
set_option linter.unusedSimpArgs false
set_option maxRecDepth 100000
attribute [local go_sem] Eq.eq_col

theorem load_col (x : Value) : Instr.loadAt 23 x = loadRow 23 x := rfl
theorem run_load_col (g o : Nat) (W : World) : (loadRow 23 (.pointer (some ⟨g, o, none⟩))).run Try.prog W = rowLoad Try.prog 23 4 g o W := run_loadRow Try.underlying23 rfl (by kernel_rfl) g o W
attribute [local go_sem ↓] load_col
attribute [local go_sem] run_load_col rowLoad_eq blk_alloc_at blk_alloc_old blk_drew blk_drewN blk_set_far blk_set_far' blk_grow

/-- a slice that reads as these cells -/
def Rds (zs : List Int) : Value → World → Prop := fun v w => ∃ a n cap, v = .slice a n cap ∧ Reads w 1 a n (u8s zs)
theorem cell_ext {B : Nat} {w w' : World} (h : Pred.Ext B w w') {b o : Nat} {v : Value} (hc : w.cell? ⟨b, o, none⟩ = some v) : w'.cell? ⟨b, o, none⟩ = some v ∧ b < w'.heap.size := by
  unfold World.cell? at hc ⊢
  simp only at hc ⊢
  cases hb : w.heap[b]? with
  | none => rw [hb] at hc; cases hc
  | some ob =>
    rw [hb] at hc
    cases ob with
    | cells c t fr =>
      obtain ⟨fr', h2⟩ := h.2 b c t fr hb
      rw [h2]
      refine ⟨hc, ?_⟩
      rcases Nat.lt_or_ge b w'.heap.size with h3 | h3
      · exact h3
      · rw [Array.getElem?_eq_none h3] at h2; cases h2
    | _ => simp at hc
theorem reads_ext {B s n : Nat} {w w' : World} {a : Option Addr} {cs : List Value} (h : Pred.Ext B w w') (hr : Reads w s a n cs) (hs : 0 < s) : Reads w' s a n cs := by
  obtain ⟨h1, h2⟩ := hr
  refine ⟨h1, ?_⟩
  rcases h2 with h2 | ⟨b, off, rfl, hb, hc⟩
  · exact .inl h2
  · by_cases hn : n = 0
    · exact .inl hn
    · have hpos : 0 < cs.length := by rw [h1]; exact Nat.mul_pos (by omega) hs
      have key : ∀ i, i < cs.length → w'.cell? ⟨b, off + i, none⟩ = cs[i]? ∧ b < w'.heap.size := fun i hi => by
        have h3 := hc i hi
        rw [List.getElem?_eq_getElem hi] at h3 ⊢
        exact cell_ext h h3
      exact .inr ⟨b, off, rfl, (key 0 hpos).2, fun i hi => (key i hi).1⟩
theorem rds_stab (zs : List Int) : Stab (Rds zs) := fun v w w' B ⟨a, n, cap, h1, h2⟩ hb => ⟨a, n, cap, h1, reads_ext hb h2 (by omega)⟩
theorem reads_nil (w : World) (s : Nat) : Reads w s none 0 (u8s []) := ⟨by simp, .inl rfl⟩

theorem four (w : World) (A B C D : Obj) : blk ((((w.alloc A).alloc B).alloc C).alloc D) w.heap.size = some A ∧ blk ((((w.alloc A).alloc B).alloc C).alloc D) (w.heap.size + 1) = some B ∧ blk ((((w.alloc A).alloc B).alloc C).alloc D) (w.heap.size + 1 + 1) = some C ∧ blk ((((w.alloc A).alloc B).alloc C).alloc D) (w.heap.size + 1 + 1 + 1) = some D :=
  ⟨(blk_alloc_old _ _ _ (by simp <;> omega)).trans (blk3_0 _ _ _ _), (blk_alloc_old _ _ _ (by simp <;> omega)).trans (blk3_1 _ _ _ _), (blk_alloc_old _ _ _ (by simp)).trans (blk3_2 _ _ _ _), blk_alloc_at _ _ _ (by simp)⟩
set_option maxHeartbeats 8000000 in
theorem HueTells_yes (a0_0 : Int) (a0_1 : Int) (a0_2 : Int) (a0_3 : Int) (a1_0 : Int) (a1_1 : Int) (a1_2 : Int) (a1_3 : Int) (a2_0 : Int) (a2_1 : Int) (a2_2 : Int) (a2_3 : Int) (a3_0 : Int) (a3_1 : Int) (a3_2 : Int) (a3_3 : Int) (a4 : Int) (a5 : Option Addr) (len5 cap5 : Nat) (x5 : List (List Value)) (w : World) (p0_0 : 0 ≤ a0_0 ∧ a0_0 ≤ 255) (p0_1 : 0 ≤ a0_1 ∧ a0_1 ≤ 255) (p0_2 : 0 ≤ a0_2 ∧ a0_2 ≤ 255) (p0_3 : 0 ≤ a0_3 ∧ a0_3 ≤ 255) (p1_0 : 0 ≤ a1_0 ∧ a1_0 ≤ 255) (p1_1 : 0 ≤ a1_1 ∧ a1_1 ≤ 255) (p1_2 : 0 ≤ a1_2 ∧ a1_2 ≤ 255) (p1_3 : 0 ≤ a1_3 ∧ a1_3 ≤ 255) (p2_0 : 0 ≤ a2_0 ∧ a2_0 ≤ 255) (p2_1 : 0 ≤ a2_1 ∧ a2_1 ≤ 255) (p2_2 : 0 ≤ a2_2 ∧ a2_2 ≤ 255) (p2_3 : 0 ≤ a2_3 ∧ a2_3 ≤ 255) (p3_0 : 0 ≤ a3_0 ∧ a3_0 ≤ 255) (p3_1 : 0 ≤ a3_1 ∧ a3_1 ≤ 255) (p3_2 : 0 ≤ a3_2 ∧ a3_2 ≤ 255) (p3_3 : 0 ≤ a3_3 ∧ a3_3 ≤ 255) (w4 : (Lit.int .i64 a4).wf = true) (zs : List Int) (hzl : zs.length = len5) (hz : ∀ z ∈ zs, 0 ≤ z ∧ z ≤ 255) (hR : Reads w 1 a5 len5 (u8s zs)) (hlc : len5 ≤ cap5) (hcm : cap5 ≤ maxLen) (hsm : ¬ (200 : Int) < (len5 : Int)) (hm : len5 % 4 = 0) :
    Calls Try.prog 3 #[.agg #[.int .u8 a0_0, .int .u8 a0_1, .int .u8 a0_2, .int .u8 a0_3], .agg #[.int .u8 a1_0, .int .u8 a1_1, .int .u8 a1_2, .int .u8 a1_3], .agg #[.int .u8 a2_0, .int .u8 a2_1, .int .u8 a2_2, .int .u8 a2_3], .agg #[.int .u8 a3_0, .int .u8 a3_1, .int .u8 a3_2, .int .u8 a3_3], .int .i64 a4, .slice a5 len5 cap5] w fun e w' => e = .returned (.bool true) ∧ Below w.heap.size w w' := by
    obtain ⟨n, hn⟩ : ∃ n, len5 = 4 * n := ⟨len5 / 4, by omega⟩
    have HN := Lib.hid hn
    have HZL := Lib.hid hzl
    have HR := Lib.hid hR
    clear hn hzl hR
    go_enter Try.func3, Try.ntmps3
    go_wp2_with fail
    refine (from_yes a5 len5 cap5 n zs _ (HR.out.below (by repeat' (first | (with_reducible exact Below.refl _ _) | (with_reducible refine Rd.below_step ?_ (by assumption)) | (with_reducible refine Rd.below_alloc ?_ _) | (with_reducible refine Rd.below_drewN ?_ _) | (with_reducible refine Below.drew ?_) | (with_reducible refine Below.setCell ?_ ?_ _) | (with_reducible refine Rd.below_setRow ?_ ?_ _) | go_size | (simp only [World.size_alloc]; omega) | omega)) (Nat.le_refl _)) (by omega) HN.out hlc hcm).mono ?_
    rintro e w1 ⟨v1, rfl, hown1, hb1⟩
    have s1 := hb1.size
    simp only [World.size_alloc] at s1
    obtain ⟨d0, d1, d2, d3⟩ := four w (.cells #[.int .u8 a0_0, .int .u8 a0_1, .int .u8 a0_2, .int .u8 a0_3] 23) (.cells #[.int .u8 a1_0, .int .u8 a1_1, .int .u8 a1_2, .int .u8 a1_3] 23) (.cells #[.int .u8 a2_0, .int .u8 a2_1, .int .u8 a2_2, .int .u8 a2_3] 23) (.cells #[.int .u8 a3_0, .int .u8 a3_1, .int .u8 a3_2, .int .u8 a3_3] 23)
    replace d0 := (blk_below hb1 _ (by simp <;> omega)).trans d0
    replace d1 := (blk_below hb1 _ (by simp <;> omega)).trans d1
    replace d2 := (blk_below hb1 _ (by simp)).trans d2
    replace d3 := (blk_below hb1 _ (by simp)).trans d3
    have L1 : Below w.heap.size w w1 := by repeat' (first | (with_reducible exact Below.refl _ _) | (with_reducible refine Rd.below_step ?_ (by assumption)) | (with_reducible refine Rd.below_alloc ?_ _) | (with_reducible refine Rd.below_drewN ?_ _) | (with_reducible refine Below.drew ?_) | (with_reducible refine Below.setCell ?_ ?_ _) | (with_reducible refine Rd.below_setRow ?_ ?_ _) | go_size | (simp only [World.size_alloc]; omega) | omega)
    obtain ⟨A1, c1, rfl, h11, h12⟩ := owns_val hown1
    have R1 := Reads.of_owns hown1
    clear hown1 hb1
    go_wp2_with fail
    refine (rfrom_yes a5 len5 cap5 n zs _ (HR.out.below L1 (Nat.le_refl _)) (by omega) HN.out hlc hcm).mono ?_
    rintro e W ⟨v2, rfl, hown2, hb2⟩
    have s2 := hb2.size
    have B0 := (blk_below hb2 _ (by omega)).trans d0
    have B1 := (blk_below hb2 _ (by omega)).trans d1
    have B2 := (blk_below hb2 _ (by omega)).trans d2
    have B3 := (blk_below hb2 _ (by omega)).trans d3
    have LW : Below w.heap.size w W := by repeat' (first | (with_reducible exact Below.refl _ _) | (with_reducible refine Rd.below_step ?_ (by assumption)) | (with_reducible refine Rd.below_alloc ?_ _) | (with_reducible refine Rd.below_drewN ?_ _) | (with_reducible refine Below.drew ?_) | (with_reducible refine Below.setCell ?_ ?_ _) | (with_reducible refine Rd.below_setRow ?_ ?_ _) | go_size | (simp only [World.size_alloc]; omega) | omega)
    obtain ⟨A2, c2, rfl, h21, h22⟩ := owns_val hown2
    have RS2 := Reads.of_owns hown2
    have RS1 := R1.below hb2 (Nat.le_refl _)
    clear hown2 hb2 d0 d1 d2 d3 R1 L1 s1 s2 hm
    have hn250 : n ≤ 250 := by have := HN.out; omega
    go_upto_region 5 with (fail)
    have l0 := blk_lt B0
    have l1 := blk_lt B1
    have l2 := blk_lt B2
    have l3 := blk_lt B3
    refine Pred.region_vals (Pred.Of [
        Is (.agg #[.int .u8 a0_0, .int .u8 a0_1, .int .u8 a0_2, .int .u8 a0_3]),
        Is (.agg #[.int .u8 a1_0, .int .u8 a1_1, .int .u8 a1_2, .int .u8 a1_3]),
        Is (.int .i64 a4),
        Is (.agg #[.int .u8 (mixB (clamp a4) a0_0 a1_0), .int .u8 (mixB (clamp a4) a0_1 a1_1), .int .u8 (mixB (clamp a4) a0_2 a1_2), .int .u8 (mixB (clamp a4) a0_3 a1_3)]),
        Is (.agg #[.int .u8 a0_0, .int .u8 a0_1, .int .u8 a0_2, .int .u8 a0_3]),
        Is (.agg #[.int .u8 a1_0, .int .u8 a1_1, .int .u8 a1_2, .int .u8 a1_3]),
        Is (.int .i64 a4),
        Is (.agg #[.int .u8 (mixB (clamp a4) a0_0 a1_0), .int .u8 (mixB (clamp a4) a0_1 a1_1), .int .u8 (mixB (clamp a4) a0_2 a1_2), .int .u8 (mixB (clamp a4) a0_3 a1_3)]),
        Is (.bool true),
        Is (.bool true),
        Is (.agg #[.int .u8 a0_0, .int .u8 a0_1, .int .u8 a0_2, .int .u8 a0_3]),
        Is (.agg #[.int .u8 a1_0, .int .u8 a1_1, .int .u8 a1_2, .int .u8 a1_3]),
        Is (.agg #[.int .u8 a2_0, .int .u8 a2_1, .int .u8 a2_2, .int .u8 a2_3]),
        Is (.agg #[.int .u8 a3_0, .int .u8 a3_1, .int .u8 a3_2, .int .u8 a3_3]),
        Is (.agg #[.int .u8 (meanB a0_0 a1_0 a2_0 a3_0), .int .u8 (meanB a0_1 a1_1 a2_1 a3_1), .int .u8 (meanB a0_2 a1_2 a2_2 a3_2), .int .u8 (meanB a0_3 a1_3 a2_3 a3_3)]),
        Is (.agg #[.int .u8 a0_0, .int .u8 a0_1, .int .u8 a0_2, .int .u8 a0_3]),
        Is (.agg #[.int .u8 a1_0, .int .u8 a1_1, .int .u8 a1_2, .int .u8 a1_3]),
        Is (.agg #[.int .u8 a2_0, .int .u8 a2_1, .int .u8 a2_2, .int .u8 a2_3]),
        Is (.agg #[.int .u8 a3_0, .int .u8 a3_1, .int .u8 a3_2, .int .u8 a3_3]),
        Is (.agg #[.int .u8 (meanB a0_0 a1_0 a2_0 a3_0), .int .u8 (meanB a0_1 a1_1 a2_1 a3_1), .int .u8 (meanB a0_2 a1_2 a2_2 a3_2), .int .u8 (meanB a0_3 a1_3 a2_3 a3_3)]),
        Is (.bool true),
        Is (.bool true),
        Is (.bool true),
        Is (.agg #[.int .u8 a0_0, .int .u8 a0_1, .int .u8 a0_2, .int .u8 a0_3]),
        Is (.agg #[.int .u8 a1_0, .int .u8 a1_1, .int .u8 a1_2, .int .u8 a1_3]),
        Is (.agg #[.int .u8 (timesB a0_0 a1_0), .int .u8 (timesB a0_1 a1_1), .int .u8 (timesB a0_2 a1_2), .int .u8 (timesB a0_3 a1_3)]),
        Is (.agg #[.int .u8 a0_0, .int .u8 a0_1, .int .u8 a0_2, .int .u8 a0_3]),
        Is (.agg #[.int .u8 a1_0, .int .u8 a1_1, .int .u8 a1_2, .int .u8 a1_3]),
        Is (.agg #[.int .u8 (timesB a0_0 a1_0), .int .u8 (timesB a0_1 a1_1), .int .u8 (timesB a0_2 a1_2), .int .u8 (timesB a0_3 a1_3)]),
        Is (.bool true),
        Is (.bool true),
        Is (.bool true),
        Is (.bool true),
        Is (.bool true),
        Is (.bool true),
        Is (.bool true),
        Is (.bool true),
        Is (.slice A1 n c1),
        Rds zs,
        Is (.string (bytesOf zs)),
        Is (.slice A2 n c2),
        Rds zs,
        Is (.string (bytesOf zs)),
        Is (.bool true),
        Is (.bool true),
        Is (.bool true),
        Is (.bool true),
        Is (.bool true),
        Is (.bool true)]) (by kernel_rfl) (by kernel_rfl) (by kernel_rfl) (Pred.of_stab ?_) ?_ ?_
    · exact ⟨is_stab _, is_stab _, is_stab _, is_stab _, is_stab _, is_stab _, is_stab _, is_stab _, is_stab _, is_stab _, is_stab _, is_stab _, is_stab _, is_stab _, is_stab _, is_stab _, is_stab _, is_stab _, is_stab _, is_stab _, is_stab _, is_stab _, is_stab _, is_stab _, is_stab _, is_stab _, is_stab _, is_stab _, is_stab _, is_stab _, is_stab _, is_stab _, is_stab _, is_stab _, is_stab _, is_stab _, is_stab _, is_stab _, rds_stab _, is_stab _, is_stab _, rds_stab _, is_stab _, is_stab _, is_stab _, is_stab _, is_stab _, is_stab _, is_stab _, trivial⟩
    · refine ⟨?_, ?_, ?_, ?_, ?_, ?_, ?_, ?_, ?_, ?_, ?_, ?_, ?_, ?_, ?_, ?_, ?_, ?_, ?_, ?_, ?_, ?_, ?_, ?_, ?_, ?_, ?_, ?_, ?_, ?_, ?_, ?_, ?_, ?_, ?_, ?_, ?_, ?_, ?_, ?_, ?_, ?_, ?_, ?_, ?_, ?_, ?_, ?_, ?_, trivial⟩
      · intro b X hE hd hn hV
        have r6 : b.tmps[6]?.getD undef = .pointer (some ⟨w.heap.size, 0, none⟩) := (hn 6 (by kernel_rfl)).trans rfl
        have q := (blk_below hE _ l0).trans B0
        exact Pred.yields_run (v := .agg #[.int .u8 a0_0, .int .u8 a0_1, .int .u8 a0_2, .int .u8 a0_3]) (Pred.wanted_none rfl) (by go_simp) ⟨Pred.ext_refl _ _, rfl⟩
      · intro b X hE hd hn hV
        have r7 : b.tmps[7]?.getD undef = .pointer (some ⟨w.heap.size + 1, 0, none⟩) := (hn 7 (by kernel_rfl)).trans rfl
        have q := (blk_below hE _ l1).trans B1
        exact Pred.yields_run (v := .agg #[.int .u8 a1_0, .int .u8 a1_1, .int .u8 a1_2, .int .u8 a1_3]) (Pred.wanted_none rfl) (by go_simp) ⟨Pred.ext_refl _ _, rfl⟩
      · intro b X hE hd hn hV
        have r4 : b.tmps[4]?.getD undef = .int .i64 a4 := (hn 4 (by kernel_rfl)).trans rfl
        exact Pred.yields_run (v := .int .i64 a4) (Pred.wanted_none rfl) (by go_simp) ⟨Pred.ext_refl _ _, rfl⟩
      · intro b X hE hd hn hV
        have r31 : b.tmps[31]?.getD undef = .agg #[.int .u8 a0_0, .int .u8 a0_1, .int .u8 a0_2, .int .u8 a0_3] := hV 0 _ 31 rfl rfl (Pred.waits_near (by kernel_rfl) (by kernel_rfl))
        have r32 : b.tmps[32]?.getD undef = .agg #[.int .u8 a1_0, .int .u8 a1_1, .int .u8 a1_2, .int .u8 a1_3] := hV 1 _ 32 rfl rfl (Pred.waits_near (by kernel_rfl) (by kernel_rfl))
        have r33 : b.tmps[33]?.getD undef = .int .i64 a4 := hV 2 _ 33 rfl rfl (Pred.waits_near (by kernel_rfl) (by kernel_rfl))
        refine Pred.yields_call (f := 11) (args := #[.agg #[.int .u8 a0_0, .int .u8 a0_1, .int .u8 a0_2, .int .u8 a0_3], .agg #[.int .u8 a1_0, .int .u8 a1_1, .int .u8 a1_2, .int .u8 a1_3], .int .i64 a4]) (Pred.wanted_none rfl) (by go_simp) ?_
        exact (lerp_any a0_0 a0_1 a0_2 a0_3 a1_0 a1_1 a1_2 a1_3 a4 _ p0_0 p0_1 p0_2 p0_3 p1_0 p1_1 p1_2 p1_3 w4).mono fun e w2 ⟨he, hb⟩ => ⟨_, he, Pred.ext_below hb hE.size, rfl⟩
      · intro b X hE hd hn hV
        have r6 : b.tmps[6]?.getD undef = .pointer (some ⟨w.heap.size, 0, none⟩) := (hn 6 (by kernel_rfl)).trans rfl
        have q := (blk_below hE _ l0).trans B0
        exact Pred.yields_run (v := .agg #[.int .u8 a0_0, .int .u8 a0_1, .int .u8 a0_2, .int .u8 a0_3]) (Pred.wanted_none rfl) (by go_simp) ⟨Pred.ext_refl _ _, rfl⟩
      · intro b X hE hd hn hV
        have r7 : b.tmps[7]?.getD undef = .pointer (some ⟨w.heap.size + 1, 0, none⟩) := (hn 7 (by kernel_rfl)).trans rfl
        have q := (blk_below hE _ l1).trans B1
        exact Pred.yields_run (v := .agg #[.int .u8 a1_0, .int .u8 a1_1, .int .u8 a1_2, .int .u8 a1_3]) (Pred.wanted_none rfl) (by go_simp) ⟨Pred.ext_refl _ _, rfl⟩
      · intro b X hE hd hn hV
        have r4 : b.tmps[4]?.getD undef = .int .i64 a4 := (hn 4 (by kernel_rfl)).trans rfl
        exact Pred.yields_run (v := .int .i64 a4) (Pred.wanted_none rfl) (by go_simp) ⟨Pred.ext_refl _ _, rfl⟩
      · intro b X hE hd hn hV
        have r35 : b.tmps[35]?.getD undef = .agg #[.int .u8 a0_0, .int .u8 a0_1, .int .u8 a0_2, .int .u8 a0_3] := hV 4 _ 35 rfl rfl (Pred.waits_near (by kernel_rfl) (by kernel_rfl))
        have r36 : b.tmps[36]?.getD undef = .agg #[.int .u8 a1_0, .int .u8 a1_1, .int .u8 a1_2, .int .u8 a1_3] := hV 5 _ 36 rfl rfl (Pred.waits_near (by kernel_rfl) (by kernel_rfl))
        have r37 : b.tmps[37]?.getD undef = .int .i64 a4 := hV 6 _ 37 rfl rfl (Pred.waits_near (by kernel_rfl) (by kernel_rfl))
        refine Pred.yields_call (f := 12) (args := #[.agg #[.int .u8 a0_0, .int .u8 a0_1, .int .u8 a0_2, .int .u8 a0_3], .agg #[.int .u8 a1_0, .int .u8 a1_1, .int .u8 a1_2, .int .u8 a1_3], .int .i64 a4]) (Pred.wanted_none rfl) (by go_simp) ?_
        exact (rlerp_any a0_0 a0_1 a0_2 a0_3 a1_0 a1_1 a1_2 a1_3 a4 _ p0_0 p0_1 p0_2 p0_3 p1_0 p1_1 p1_2 p1_3 w4).mono fun e w2 ⟨he, hb⟩ => ⟨_, he, Pred.ext_below hb hE.size, rfl⟩
      · intro b X hE hd hn hV
        have r34 : b.tmps[34]?.getD undef = .agg #[.int .u8 (mixB (clamp a4) a0_0 a1_0), .int .u8 (mixB (clamp a4) a0_1 a1_1), .int .u8 (mixB (clamp a4) a0_2 a1_2), .int .u8 (mixB (clamp a4) a0_3 a1_3)] := hV 3 _ 34 rfl rfl (Pred.waits_near (by kernel_rfl) (by kernel_rfl))
        have r38 : b.tmps[38]?.getD undef = .agg #[.int .u8 (mixB (clamp a4) a0_0 a1_0), .int .u8 (mixB (clamp a4) a0_1 a1_1), .int .u8 (mixB (clamp a4) a0_2 a1_2), .int .u8 (mixB (clamp a4) a0_3 a1_3)] := hV 7 _ 38 rfl rfl (Pred.waits_near (by kernel_rfl) (by kernel_rfl))
        exact Pred.yields_run (v := .bool true) (Pred.wanted_none rfl) (by go_simp) ⟨Pred.ext_refl _ _, rfl⟩
      · intro b X hE hd hn hV
        have r39 : b.tmps[39]?.getD undef = .bool true := hV 8 _ 39 rfl rfl (Pred.waits_near (by kernel_rfl) (by kernel_rfl))
        exact Pred.yields_run (v := .bool true) (Pred.wanted_none rfl) (by go_simp) ⟨Pred.ext_refl _ _, rfl⟩
      · intro b X hE hd hn hV
        have r6 : b.tmps[6]?.getD undef = .pointer (some ⟨w.heap.size, 0, none⟩) := (hn 6 (by kernel_rfl)).trans rfl
        have r40 : b.tmps[40]?.getD undef = .bool true := hV 9 _ 40 rfl rfl (Pred.waits_near (by kernel_rfl) (by kernel_rfl))
        have q := (blk_below hE _ l0).trans B0
        exact Pred.yields_run (v := .agg #[.int .u8 a0_0, .int .u8 a0_1, .int .u8 a0_2, .int .u8 a0_3]) ((Pred.wanted_at (g := 9) (d := 40) (f := true) rfl rfl r40).trans rfl) (by go_simp) ⟨Pred.ext_refl _ _, rfl⟩
      · intro b X hE hd hn hV
        have r7 : b.tmps[7]?.getD undef = .pointer (some ⟨w.heap.size + 1, 0, none⟩) := (hn 7 (by kernel_rfl)).trans rfl
        have r40 : b.tmps[40]?.getD undef = .bool true := hV 9 _ 40 rfl rfl (Pred.waits_near (by kernel_rfl) (by kernel_rfl))
        have q := (blk_below hE _ l1).trans B1
        exact Pred.yields_run (v := .agg #[.int .u8 a1_0, .int .u8 a1_1, .int .u8 a1_2, .int .u8 a1_3]) ((Pred.wanted_at (g := 9) (d := 40) (f := true) rfl rfl r40).trans rfl) (by go_simp) ⟨Pred.ext_refl _ _, rfl⟩
      · intro b X hE hd hn hV
        have r8 : b.tmps[8]?.getD undef = .pointer (some ⟨w.heap.size + 1 + 1, 0, none⟩) := (hn 8 (by kernel_rfl)).trans rfl
        have r40 : b.tmps[40]?.getD undef = .bool true := hV 9 _ 40 rfl rfl (Pred.waits_near (by kernel_rfl) (by kernel_rfl))
        have q := (blk_below hE _ l2).trans B2
        exact Pred.yields_run (v := .agg #[.int .u8 a2_0, .int .u8 a2_1, .int .u8 a2_2, .int .u8 a2_3]) ((Pred.wanted_at (g := 9) (d := 40) (f := true) rfl rfl r40).trans rfl) (by go_simp) ⟨Pred.ext_refl _ _, rfl⟩
      · intro b X hE hd hn hV
        have r9 : b.tmps[9]?.getD undef = .pointer (some ⟨w.heap.size + 1 + 1 + 1, 0, none⟩) := (hn 9 (by kernel_rfl)).trans rfl
        have r40 : b.tmps[40]?.getD undef = .bool true := hV 9 _ 40 rfl rfl (Pred.waits_near (by kernel_rfl) (by kernel_rfl))
        have q := (blk_below hE _ l3).trans B3
        exact Pred.yields_run (v := .agg #[.int .u8 a3_0, .int .u8 a3_1, .int .u8 a3_2, .int .u8 a3_3]) ((Pred.wanted_at (g := 9) (d := 40) (f := true) rfl rfl r40).trans rfl) (by go_simp) ⟨Pred.ext_refl _ _, rfl⟩
      · intro b X hE hd hn hV
        have r41 : b.tmps[41]?.getD undef = .agg #[.int .u8 a0_0, .int .u8 a0_1, .int .u8 a0_2, .int .u8 a0_3] := hV 10 _ 41 rfl rfl (Pred.waits_near (by kernel_rfl) (by kernel_rfl))
        have r42 : b.tmps[42]?.getD undef = .agg #[.int .u8 a1_0, .int .u8 a1_1, .int .u8 a1_2, .int .u8 a1_3] := hV 11 _ 42 rfl rfl (Pred.waits_near (by kernel_rfl) (by kernel_rfl))
        have r43 : b.tmps[43]?.getD undef = .agg #[.int .u8 a2_0, .int .u8 a2_1, .int .u8 a2_2, .int .u8 a2_3] := hV 12 _ 43 rfl rfl (Pred.waits_near (by kernel_rfl) (by kernel_rfl))
        have r44 : b.tmps[44]?.getD undef = .agg #[.int .u8 a3_0, .int .u8 a3_1, .int .u8 a3_2, .int .u8 a3_3] := hV 13 _ 44 rfl rfl (Pred.waits_near (by kernel_rfl) (by kernel_rfl))
        have r40 : b.tmps[40]?.getD undef = .bool true := hV 9 _ 40 rfl rfl (Pred.waits_near (by kernel_rfl) (by kernel_rfl))
        refine Pred.yields_call (f := 13) (args := #[.agg #[.int .u8 a0_0, .int .u8 a0_1, .int .u8 a0_2, .int .u8 a0_3], .agg #[.int .u8 a1_0, .int .u8 a1_1, .int .u8 a1_2, .int .u8 a1_3], .agg #[.int .u8 a2_0, .int .u8 a2_1, .int .u8 a2_2, .int .u8 a2_3], .agg #[.int .u8 a3_0, .int .u8 a3_1, .int .u8 a3_2, .int .u8 a3_3]]) ((Pred.wanted_at (g := 9) (d := 40) (f := true) rfl rfl r40).trans rfl) (by go_simp) ?_
        exact (mean_any a0_0 a0_1 a0_2 a0_3 a1_0 a1_1 a1_2 a1_3 a2_0 a2_1 a2_2 a2_3 a3_0 a3_1 a3_2 a3_3 _ p0_0 p0_1 p0_2 p0_3 p1_0 p1_1 p1_2 p1_3 p2_0 p2_1 p2_2 p2_3 p3_0 p3_1 p3_2 p3_3).mono fun e w2 ⟨he, hb⟩ => ⟨_, he, Pred.ext_below hb hE.size, rfl⟩
      · intro b X hE hd hn hV
        have r6 : b.tmps[6]?.getD undef = .pointer (some ⟨w.heap.size, 0, none⟩) := (hn 6 (by kernel_rfl)).trans rfl
        have r40 : b.tmps[40]?.getD undef = .bool true := hV 9 _ 40 rfl rfl (Pred.waits_near (by kernel_rfl) (by kernel_rfl))
        have q := (blk_below hE _ l0).trans B0
        exact Pred.yields_run (v := .agg #[.int .u8 a0_0, .int .u8 a0_1, .int .u8 a0_2, .int .u8 a0_3]) ((Pred.wanted_at (g := 9) (d := 40) (f := true) rfl rfl r40).trans rfl) (by go_simp) ⟨Pred.ext_refl _ _, rfl⟩
      · intro b X hE hd hn hV
        have r7 : b.tmps[7]?.getD undef = .pointer (some ⟨w.heap.size + 1, 0, none⟩) := (hn 7 (by kernel_rfl)).trans rfl
        have r40 : b.tmps[40]?.getD undef = .bool true := hV 9 _ 40 rfl rfl (Pred.waits_near (by kernel_rfl) (by kernel_rfl))
        have q := (blk_below hE _ l1).trans B1
        exact Pred.yields_run (v := .agg #[.int .u8 a1_0, .int .u8 a1_1, .int .u8 a1_2, .int .u8 a1_3]) ((Pred.wanted_at (g := 9) (d := 40) (f := true) rfl rfl r40).trans rfl) (by go_simp) ⟨Pred.ext_refl _ _, rfl⟩
      · intro b X hE hd hn hV
        have r8 : b.tmps[8]?.getD undef = .pointer (some ⟨w.heap.size + 1 + 1, 0, none⟩) := (hn 8 (by kernel_rfl)).trans rfl
        have r40 : b.tmps[40]?.getD undef = .bool true := hV 9 _ 40 rfl rfl (Pred.waits_near (by kernel_rfl) (by kernel_rfl))
        have q := (blk_below hE _ l2).trans B2
        exact Pred.yields_run (v := .agg #[.int .u8 a2_0, .int .u8 a2_1, .int .u8 a2_2, .int .u8 a2_3]) ((Pred.wanted_at (g := 9) (d := 40) (f := true) rfl rfl r40).trans rfl) (by go_simp) ⟨Pred.ext_refl _ _, rfl⟩
      · intro b X hE hd hn hV
        have r9 : b.tmps[9]?.getD undef = .pointer (some ⟨w.heap.size + 1 + 1 + 1, 0, none⟩) := (hn 9 (by kernel_rfl)).trans rfl
        have r40 : b.tmps[40]?.getD undef = .bool true := hV 9 _ 40 rfl rfl (Pred.waits_near (by kernel_rfl) (by kernel_rfl))
        have q := (blk_below hE _ l3).trans B3
        exact Pred.yields_run (v := .agg #[.int .u8 a3_0, .int .u8 a3_1, .int .u8 a3_2, .int .u8 a3_3]) ((Pred.wanted_at (g := 9) (d := 40) (f := true) rfl rfl r40).trans rfl) (by go_simp) ⟨Pred.ext_refl _ _, rfl⟩
      · intro b X hE hd hn hV
        have r46 : b.tmps[46]?.getD undef = .agg #[.int .u8 a0_0, .int .u8 a0_1, .int .u8 a0_2, .int .u8 a0_3] := hV 15 _ 46 rfl rfl (Pred.waits_near (by kernel_rfl) (by kernel_rfl))
        have r47 : b.tmps[47]?.getD undef = .agg #[.int .u8 a1_0, .int .u8 a1_1, .int .u8 a1_2, .int .u8 a1_3] := hV 16 _ 47 rfl rfl (Pred.waits_near (by kernel_rfl) (by kernel_rfl))
        have r48 : b.tmps[48]?.getD undef = .agg #[.int .u8 a2_0, .int .u8 a2_1, .int .u8 a2_2, .int .u8 a2_3] := hV 17 _ 48 rfl rfl (Pred.waits_near (by kernel_rfl) (by kernel_rfl))
        have r49 : b.tmps[49]?.getD undef = .agg #[.int .u8 a3_0, .int .u8 a3_1, .int .u8 a3_2, .int .u8 a3_3] := hV 18 _ 49 rfl rfl (Pred.waits_near (by kernel_rfl) (by kernel_rfl))
        have r40 : b.tmps[40]?.getD undef = .bool true := hV 9 _ 40 rfl rfl (Pred.waits_near (by kernel_rfl) (by kernel_rfl))
        refine Pred.yields_call (f := 14) (args := #[.agg #[.int .u8 a0_0, .int .u8 a0_1, .int .u8 a0_2, .int .u8 a0_3], .agg #[.int .u8 a1_0, .int .u8 a1_1, .int .u8 a1_2, .int .u8 a1_3], .agg #[.int .u8 a2_0, .int .u8 a2_1, .int .u8 a2_2, .int .u8 a2_3], .agg #[.int .u8 a3_0, .int .u8 a3_1, .int .u8 a3_2, .int .u8 a3_3]]) ((Pred.wanted_at (g := 9) (d := 40) (f := true) rfl rfl r40).trans rfl) (by go_simp) ?_
        exact (rmean_any a0_0 a0_1 a0_2 a0_3 a1_0 a1_1 a1_2 a1_3 a2_0 a2_1 a2_2 a2_3 a3_0 a3_1 a3_2 a3_3 _ p0_0 p0_1 p0_2 p0_3 p1_0 p1_1 p1_2 p1_3 p2_0 p2_1 p2_2 p2_3 p3_0 p3_1 p3_2 p3_3).mono fun e w2 ⟨he, hb⟩ => ⟨_, he, Pred.ext_below hb hE.size, rfl⟩
      · intro b X hE hd hn hV
        have r45 : b.tmps[45]?.getD undef = .agg #[.int .u8 (meanB a0_0 a1_0 a2_0 a3_0), .int .u8 (meanB a0_1 a1_1 a2_1 a3_1), .int .u8 (meanB a0_2 a1_2 a2_2 a3_2), .int .u8 (meanB a0_3 a1_3 a2_3 a3_3)] := hV 14 _ 45 rfl rfl (Pred.waits_near (by kernel_rfl) (by kernel_rfl))
        have r50 : b.tmps[50]?.getD undef = .agg #[.int .u8 (meanB a0_0 a1_0 a2_0 a3_0), .int .u8 (meanB a0_1 a1_1 a2_1 a3_1), .int .u8 (meanB a0_2 a1_2 a2_2 a3_2), .int .u8 (meanB a0_3 a1_3 a2_3 a3_3)] := hV 19 _ 50 rfl rfl (Pred.waits_near (by kernel_rfl) (by kernel_rfl))
        have r40 : b.tmps[40]?.getD undef = .bool true := hV 9 _ 40 rfl rfl (Pred.waits_near (by kernel_rfl) (by kernel_rfl))
        exact Pred.yields_run (v := .bool true) ((Pred.wanted_at (g := 9) (d := 40) (f := true) rfl rfl r40).trans rfl) (by go_simp) ⟨Pred.ext_refl _ _, rfl⟩
      · intro b X hE hd hn hV
        have r40 : b.tmps[40]?.getD undef = .bool true := hV 9 _ 40 rfl rfl (Pred.waits_near (by kernel_rfl) (by kernel_rfl))
        have r51 : b.tmps[51]?.getD undef = .bool true := hV 20 _ 51 rfl rfl (Pred.waits_near (by kernel_rfl) (by kernel_rfl))
        exact Pred.yields_run (v := .bool true) (Pred.wanted_none rfl) (by go_simp) ⟨Pred.ext_refl _ _, rfl⟩
      · intro b X hE hd hn hV
        have r52 : b.tmps[52]?.getD undef = .bool true := hV 21 _ 52 rfl rfl (Pred.waits_near (by kernel_rfl) (by kernel_rfl))
        exact Pred.yields_run (v := .bool true) (Pred.wanted_none rfl) (by go_simp) ⟨Pred.ext_refl _ _, rfl⟩
      · intro b X hE hd hn hV
        have r6 : b.tmps[6]?.getD undef = .pointer (some ⟨w.heap.size, 0, none⟩) := (hn 6 (by kernel_rfl)).trans rfl
        have r53 : b.tmps[53]?.getD undef = .bool true := hV 22 _ 53 rfl rfl (Pred.waits_near (by kernel_rfl) (by kernel_rfl))
        have q := (blk_below hE _ l0).trans B0
        exact Pred.yields_run (v := .agg #[.int .u8 a0_0, .int .u8 a0_1, .int .u8 a0_2, .int .u8 a0_3]) ((Pred.wanted_at (g := 22) (d := 53) (f := true) rfl rfl r53).trans rfl) (by go_simp) ⟨Pred.ext_refl _ _, rfl⟩
      · intro b X hE hd hn hV
        have r7 : b.tmps[7]?.getD undef = .pointer (some ⟨w.heap.size + 1, 0, none⟩) := (hn 7 (by kernel_rfl)).trans rfl
        have r53 : b.tmps[53]?.getD undef = .bool true := hV 22 _ 53 rfl rfl (Pred.waits_near (by kernel_rfl) (by kernel_rfl))
        have q := (blk_below hE _ l1).trans B1
        exact Pred.yields_run (v := .agg #[.int .u8 a1_0, .int .u8 a1_1, .int .u8 a1_2, .int .u8 a1_3]) ((Pred.wanted_at (g := 22) (d := 53) (f := true) rfl rfl r53).trans rfl) (by go_simp) ⟨Pred.ext_refl _ _, rfl⟩
      · intro b X hE hd hn hV
        have r54 : b.tmps[54]?.getD undef = .agg #[.int .u8 a0_0, .int .u8 a0_1, .int .u8 a0_2, .int .u8 a0_3] := hV 23 _ 54 rfl rfl (Pred.waits_near (by kernel_rfl) (by kernel_rfl))
        have r55 : b.tmps[55]?.getD undef = .agg #[.int .u8 a1_0, .int .u8 a1_1, .int .u8 a1_2, .int .u8 a1_3] := hV 24 _ 55 rfl rfl (Pred.waits_near (by kernel_rfl) (by kernel_rfl))
        have r53 : b.tmps[53]?.getD undef = .bool true := hV 22 _ 53 rfl rfl (Pred.waits_near (by kernel_rfl) (by kernel_rfl))
        refine Pred.yields_call (f := 15) (args := #[.agg #[.int .u8 a0_0, .int .u8 a0_1, .int .u8 a0_2, .int .u8 a0_3], .agg #[.int .u8 a1_0, .int .u8 a1_1, .int .u8 a1_2, .int .u8 a1_3]]) ((Pred.wanted_at (g := 22) (d := 53) (f := true) rfl rfl r53).trans rfl) (by go_simp) ?_
        exact (times_any a0_0 a0_1 a0_2 a0_3 a1_0 a1_1 a1_2 a1_3 _ p0_0 p0_1 p0_2 p0_3 p1_0 p1_1 p1_2 p1_3).mono fun e w2 ⟨he, hb⟩ => ⟨_, he, Pred.ext_below hb hE.size, rfl⟩
      · intro b X hE hd hn hV
        have r6 : b.tmps[6]?.getD undef = .pointer (some ⟨w.heap.size, 0, none⟩) := (hn 6 (by kernel_rfl)).trans rfl
        have r53 : b.tmps[53]?.getD undef = .bool true := hV 22 _ 53 rfl rfl (Pred.waits_near (by kernel_rfl) (by kernel_rfl))
        have q := (blk_below hE _ l0).trans B0
        exact Pred.yields_run (v := .agg #[.int .u8 a0_0, .int .u8 a0_1, .int .u8 a0_2, .int .u8 a0_3]) ((Pred.wanted_at (g := 22) (d := 53) (f := true) rfl rfl r53).trans rfl) (by go_simp) ⟨Pred.ext_refl _ _, rfl⟩
      · intro b X hE hd hn hV
        have r7 : b.tmps[7]?.getD undef = .pointer (some ⟨w.heap.size + 1, 0, none⟩) := (hn 7 (by kernel_rfl)).trans rfl
        have r53 : b.tmps[53]?.getD undef = .bool true := hV 22 _ 53 rfl rfl (Pred.waits_near (by kernel_rfl) (by kernel_rfl))
        have q := (blk_below hE _ l1).trans B1
        exact Pred.yields_run (v := .agg #[.int .u8 a1_0, .int .u8 a1_1, .int .u8 a1_2, .int .u8 a1_3]) ((Pred.wanted_at (g := 22) (d := 53) (f := true) rfl rfl r53).trans rfl) (by go_simp) ⟨Pred.ext_refl _ _, rfl⟩
      · intro b X hE hd hn hV
        have r57 : b.tmps[57]?.getD undef = .agg #[.int .u8 a0_0, .int .u8 a0_1, .int .u8 a0_2, .int .u8 a0_3] := hV 26 _ 57 rfl rfl (Pred.waits_near (by kernel_rfl) (by kernel_rfl))
        have r58 : b.tmps[58]?.getD undef = .agg #[.int .u8 a1_0, .int .u8 a1_1, .int .u8 a1_2, .int .u8 a1_3] := hV 27 _ 58 rfl rfl (Pred.waits_near (by kernel_rfl) (by kernel_rfl))
        have r53 : b.tmps[53]?.getD undef = .bool true := hV 22 _ 53 rfl rfl (Pred.waits_near (by kernel_rfl) (by kernel_rfl))
        refine Pred.yields_call (f := 16) (args := #[.agg #[.int .u8 a0_0, .int .u8 a0_1, .int .u8 a0_2, .int .u8 a0_3], .agg #[.int .u8 a1_0, .int .u8 a1_1, .int .u8 a1_2, .int .u8 a1_3]]) ((Pred.wanted_at (g := 22) (d := 53) (f := true) rfl rfl r53).trans rfl) (by go_simp) ?_
        exact (rtimes_any a0_0 a0_1 a0_2 a0_3 a1_0 a1_1 a1_2 a1_3 _ p0_0 p0_1 p0_2 p0_3 p1_0 p1_1 p1_2 p1_3).mono fun e w2 ⟨he, hb⟩ => ⟨_, he, Pred.ext_below hb hE.size, rfl⟩
      · intro b X hE hd hn hV
        have r56 : b.tmps[56]?.getD undef = .agg #[.int .u8 (timesB a0_0 a1_0), .int .u8 (timesB a0_1 a1_1), .int .u8 (timesB a0_2 a1_2), .int .u8 (timesB a0_3 a1_3)] := hV 25 _ 56 rfl rfl (Pred.waits_near (by kernel_rfl) (by kernel_rfl))
        have r59 : b.tmps[59]?.getD undef = .agg #[.int .u8 (timesB a0_0 a1_0), .int .u8 (timesB a0_1 a1_1), .int .u8 (timesB a0_2 a1_2), .int .u8 (timesB a0_3 a1_3)] := hV 28 _ 59 rfl rfl (Pred.waits_near (by kernel_rfl) (by kernel_rfl))
        have r53 : b.tmps[53]?.getD undef = .bool true := hV 22 _ 53 rfl rfl (Pred.waits_near (by kernel_rfl) (by kernel_rfl))
        exact Pred.yields_run (v := .bool true) ((Pred.wanted_at (g := 22) (d := 53) (f := true) rfl rfl r53).trans rfl) (by go_simp) ⟨Pred.ext_refl _ _, rfl⟩
      · intro b X hE hd hn hV
        have r53 : b.tmps[53]?.getD undef = .bool true := hV 22 _ 53 rfl rfl (Pred.waits_near (by kernel_rfl) (by kernel_rfl))
        have r60 : b.tmps[60]?.getD undef = .bool true := hV 29 _ 60 rfl rfl (Pred.waits_near (by kernel_rfl) (by kernel_rfl))
        exact Pred.yields_run (v := .bool true) (Pred.wanted_none rfl) (by go_simp) ⟨Pred.ext_refl _ _, rfl⟩
      · intro b X hE hd hn hV
        have r61 : b.tmps[61]?.getD undef = .bool true := hV 30 _ 61 rfl rfl (Pred.waits_near (by kernel_rfl) (by kernel_rfl))
        exact Pred.yields_run (v := .bool true) (Pred.wanted_none rfl) (by go_simp) ⟨Pred.ext_refl _ _, rfl⟩
      · intro b X hE hd hn hV
        have r14 : b.tmps[14]?.getD undef = .bool true := (hn 14 (by kernel_rfl)).trans rfl
        have r62 : b.tmps[62]?.getD undef = .bool true := hV 31 _ 62 rfl rfl (Pred.waits_near (by kernel_rfl) (by kernel_rfl))
        exact Pred.yields_run (v := .bool true) ((Pred.wanted_at (g := 31) (d := 62) (f := true) rfl rfl r62).trans rfl) (by go_simp) ⟨Pred.ext_refl _ _, rfl⟩
      · intro b X hE hd hn hV
        have r16 : b.tmps[16]?.getD undef = .bool true := (hn 16 (by kernel_rfl)).trans rfl
        have r62 : b.tmps[62]?.getD undef = .bool true := hV 31 _ 62 rfl rfl (Pred.waits_near (by kernel_rfl) (by kernel_rfl))
        exact Pred.yields_run (v := .bool true) ((Pred.wanted_at (g := 31) (d := 62) (f := true) rfl rfl r62).trans rfl) (by go_simp) ⟨Pred.ext_refl _ _, rfl⟩
      · intro b X hE hd hn hV
        have r63 : b.tmps[63]?.getD undef = .bool true := hV 32 _ 63 rfl rfl (Pred.waits_near (by kernel_rfl) (by kernel_rfl))
        have r64 : b.tmps[64]?.getD undef = .bool true := hV 33 _ 64 rfl rfl (Pred.waits_near (by kernel_rfl) (by kernel_rfl))
        have r62 : b.tmps[62]?.getD undef = .bool true := hV 31 _ 62 rfl rfl (Pred.waits_near (by kernel_rfl) (by kernel_rfl))
        exact Pred.yields_run (v := .bool true) ((Pred.wanted_at (g := 31) (d := 62) (f := true) rfl rfl r62).trans rfl) (by go_simp) ⟨Pred.ext_refl _ _, rfl⟩
      · intro b X hE hd hn hV
        have r62 : b.tmps[62]?.getD undef = .bool true := hV 31 _ 62 rfl rfl (Pred.waits_near (by kernel_rfl) (by kernel_rfl))
        have r65 : b.tmps[65]?.getD undef = .bool true := hV 34 _ 65 rfl rfl (Pred.waits_near (by kernel_rfl) (by kernel_rfl))
        exact Pred.yields_run (v := .bool true) (Pred.wanted_none rfl) (by go_simp) ⟨Pred.ext_refl _ _, rfl⟩
      · intro b X hE hd hn hV
        have r66 : b.tmps[66]?.getD undef = .bool true := hV 35 _ 66 rfl rfl (Pred.waits_near (by kernel_rfl) (by kernel_rfl))
        exact Pred.yields_run (v := .bool true) (Pred.wanted_none rfl) (by go_simp) ⟨Pred.ext_refl _ _, rfl⟩
      · intro b X hE hd hn hV
        have r13 : b.tmps[13]?.getD undef = .slice A1 n c1 := (hn 13 (by kernel_rfl)).trans rfl
        have r67 : b.tmps[67]?.getD undef = .bool true := hV 36 _ 67 rfl rfl (Pred.waits_near (by kernel_rfl) (by kernel_rfl))
        exact Pred.yields_run (v := .slice A1 n c1) ((Pred.wanted_at (g := 36) (d := 67) (f := true) rfl rfl r67).trans rfl) (by go_simp) ⟨Pred.ext_refl _ _, rfl⟩
      · intro b X hE hd hn hV
        have r68 : b.tmps[68]?.getD undef = .slice A1 n c1 := hV 37 _ 68 rfl rfl (Pred.waits_near (by kernel_rfl) (by kernel_rfl))
        have r67 : b.tmps[67]?.getD undef = .bool true := hV 36 _ 67 rfl rfl (Pred.waits_near (by kernel_rfl) (by kernel_rfl))
        refine Pred.yields_call (f := 17) (args := #[.slice A1 n c1]) ((Pred.wanted_at (g := 36) (d := 67) (f := true) rfl rfl r67).trans rfl) (by go_simp) ?_
        refine (bytes_any _ _ _ zs _ (RS1.below hE (Nat.le_refl _)) (by omega)).mono ?_
        rintro e w9 ⟨v, he, hown, hb⟩
        obtain ⟨av, cv, rfl, h1, h2⟩ := owns_val hown
        exact ⟨_, he, Pred.ext_below hb hE.size, _, _, _, rfl, Reads.of_owns hown⟩
      · intro b X hE hd hn hV
        obtain ⟨ga69, n69, c69, r69, hr69⟩ : Rds zs (b.tmps[69]?.getD undef) X := hV 38 _ 69 rfl rfl (Pred.waits_near (by kernel_rfl) (by kernel_rfl))
        have r67 : b.tmps[67]?.getD undef = .bool true := hV 36 _ 67 rfl rfl (Pred.waits_near (by kernel_rfl) (by kernel_rfl))
        have hc := conv_reads (P := Try.prog) (src := 24) (dst := 9) (cap := c69) Try.underlying24 Try.underlying5 Try.underlying9 hr69 hz
        exact Pred.yields_run (v := .string (bytesOf zs)) ((Pred.wanted_at (g := 36) (d := 67) (f := true) rfl rfl r67).trans rfl) (by go_simp) ⟨Pred.ext_refl _ _, rfl⟩
      · intro b X hE hd hn hV
        have r15 : b.tmps[15]?.getD undef = .slice A2 n c2 := (hn 15 (by kernel_rfl)).trans rfl
        have r67 : b.tmps[67]?.getD undef = .bool true := hV 36 _ 67 rfl rfl (Pred.waits_near (by kernel_rfl) (by kernel_rfl))
        exact Pred.yields_run (v := .slice A2 n c2) ((Pred.wanted_at (g := 36) (d := 67) (f := true) rfl rfl r67).trans rfl) (by go_simp) ⟨Pred.ext_refl _ _, rfl⟩
      · intro b X hE hd hn hV
        have r71 : b.tmps[71]?.getD undef = .slice A2 n c2 := hV 40 _ 71 rfl rfl (Pred.waits_near (by kernel_rfl) (by kernel_rfl))
        have r67 : b.tmps[67]?.getD undef = .bool true := hV 36 _ 67 rfl rfl (Pred.waits_near (by kernel_rfl) (by kernel_rfl))
        refine Pred.yields_call (f := 18) (args := #[.slice A2 n c2]) ((Pred.wanted_at (g := 36) (d := 67) (f := true) rfl rfl r67).trans rfl) (by go_simp) ?_
        refine (rbytes_any _ _ _ zs _ (RS2.below hE (Nat.le_refl _)) (by omega)).mono ?_
        rintro e w9 ⟨v, he, hown, hb⟩
        obtain ⟨av, cv, rfl, h1, h2⟩ := owns_val hown
        exact ⟨_, he, Pred.ext_below hb hE.size, _, _, _, rfl, Reads.of_owns hown⟩
      · intro b X hE hd hn hV
        obtain ⟨ga72, n72, c72, r72, hr72⟩ : Rds zs (b.tmps[72]?.getD undef) X := hV 41 _ 72 rfl rfl (Pred.waits_near (by kernel_rfl) (by kernel_rfl))
        have r67 : b.tmps[67]?.getD undef = .bool true := hV 36 _ 67 rfl rfl (Pred.waits_near (by kernel_rfl) (by kernel_rfl))
        have hc := conv_reads (P := Try.prog) (src := 24) (dst := 9) (cap := c72) Try.underlying24 Try.underlying5 Try.underlying9 hr72 hz
        exact Pred.yields_run (v := .string (bytesOf zs)) ((Pred.wanted_at (g := 36) (d := 67) (f := true) rfl rfl r67).trans rfl) (by go_simp) ⟨Pred.ext_refl _ _, rfl⟩
      · intro b X hE hd hn hV
        have r70 : b.tmps[70]?.getD undef = .string (bytesOf zs) := hV 39 _ 70 rfl rfl (Pred.waits_near (by kernel_rfl) (by kernel_rfl))
        have r73 : b.tmps[73]?.getD undef = .string (bytesOf zs) := hV 42 _ 73 rfl rfl (Pred.waits_near (by kernel_rfl) (by kernel_rfl))
        have r67 : b.tmps[67]?.getD undef = .bool true := hV 36 _ 67 rfl rfl (Pred.waits_near (by kernel_rfl) (by kernel_rfl))
        exact Pred.yields_run (v := .bool true) ((Pred.wanted_at (g := 36) (d := 67) (f := true) rfl rfl r67).trans rfl) (by go_simp) ⟨Pred.ext_refl _ _, rfl⟩
      · intro b X hE hd hn hV
        have r67 : b.tmps[67]?.getD undef = .bool true := hV 36 _ 67 rfl rfl (Pred.waits_near (by kernel_rfl) (by kernel_rfl))
        have r74 : b.tmps[74]?.getD undef = .bool true := hV 43 _ 74 rfl rfl (Pred.waits_near (by kernel_rfl) (by kernel_rfl))
        exact Pred.yields_run (v := .bool true) (Pred.wanted_none rfl) (by go_simp) ⟨Pred.ext_refl _ _, rfl⟩
      · intro b X hE hd hn hV
        have r75 : b.tmps[75]?.getD undef = .bool true := hV 44 _ 75 rfl rfl (Pred.waits_near (by kernel_rfl) (by kernel_rfl))
        exact Pred.yields_run (v := .bool true) (Pred.wanted_none rfl) (by go_simp) ⟨Pred.ext_refl _ _, rfl⟩
      · intro b X hE hd hn hV
        have r76 : b.tmps[76]?.getD undef = .bool true := hV 45 _ 76 rfl rfl (Pred.waits_near (by kernel_rfl) (by kernel_rfl))
        refine Pred.yields_call (f := 8) (args := #[]) ((Pred.wanted_at (g := 45) (d := 76) (f := true) rfl rfl r76).trans rfl) (by go_simp) ?_
        exact (awake_any _).mono fun e w2 ⟨he, hb⟩ => ⟨_, he, Pred.ext_below hb hE.size, rfl⟩
      · intro b X hE hd hn hV
        have r76 : b.tmps[76]?.getD undef = .bool true := hV 45 _ 76 rfl rfl (Pred.waits_near (by kernel_rfl) (by kernel_rfl))
        have r77 : b.tmps[77]?.getD undef = .bool true := hV 46 _ 77 rfl rfl (Pred.waits_near (by kernel_rfl) (by kernel_rfl))
        exact Pred.yields_run (v := .bool true) (Pred.wanted_none rfl) (by go_simp) ⟨Pred.ext_refl _ _, rfl⟩
      · intro b X hE hd hn hV
        have r78 : b.tmps[78]?.getD undef = .bool true := hV 47 _ 78 rfl rfl (Pred.waits_near (by kernel_rfl) (by kernel_rfl))
        exact Pred.yields_run (v := .bool true) (Pred.wanted_none rfl) (by go_simp) ⟨Pred.ext_refl _ _, rfl⟩
    intro v X hE hv
    have e0 : v 0 = .agg #[.int .u8 a0_0, .int .u8 a0_1, .int .u8 a0_2, .int .u8 a0_3] := hv 0 _ 31 rfl rfl
    have e1 : v 1 = .agg #[.int .u8 a1_0, .int .u8 a1_1, .int .u8 a1_2, .int .u8 a1_3] := hv 1 _ 32 rfl rfl
    have e2 : v 2 = .int .i64 a4 := hv 2 _ 33 rfl rfl
    have e3 : v 3 = .agg #[.int .u8 (mixB (clamp a4) a0_0 a1_0), .int .u8 (mixB (clamp a4) a0_1 a1_1), .int .u8 (mixB (clamp a4) a0_2 a1_2), .int .u8 (mixB (clamp a4) a0_3 a1_3)] := hv 3 _ 34 rfl rfl
    have e4 : v 4 = .agg #[.int .u8 a0_0, .int .u8 a0_1, .int .u8 a0_2, .int .u8 a0_3] := hv 4 _ 35 rfl rfl
    have e5 : v 5 = .agg #[.int .u8 a1_0, .int .u8 a1_1, .int .u8 a1_2, .int .u8 a1_3] := hv 5 _ 36 rfl rfl
    have e6 : v 6 = .int .i64 a4 := hv 6 _ 37 rfl rfl
    have e7 : v 7 = .agg #[.int .u8 (mixB (clamp a4) a0_0 a1_0), .int .u8 (mixB (clamp a4) a0_1 a1_1), .int .u8 (mixB (clamp a4) a0_2 a1_2), .int .u8 (mixB (clamp a4) a0_3 a1_3)] := hv 7 _ 38 rfl rfl
    have e8 : v 8 = .bool true := hv 8 _ 39 rfl rfl
    have e9 : v 9 = .bool true := hv 9 _ 40 rfl rfl
    have e10 : v 10 = .agg #[.int .u8 a0_0, .int .u8 a0_1, .int .u8 a0_2, .int .u8 a0_3] := hv 10 _ 41 rfl rfl
    have e11 : v 11 = .agg #[.int .u8 a1_0, .int .u8 a1_1, .int .u8 a1_2, .int .u8 a1_3] := hv 11 _ 42 rfl rfl
    have e12 : v 12 = .agg #[.int .u8 a2_0, .int .u8 a2_1, .int .u8 a2_2, .int .u8 a2_3] := hv 12 _ 43 rfl rfl
    have e13 : v 13 = .agg #[.int .u8 a3_0, .int .u8 a3_1, .int .u8 a3_2, .int .u8 a3_3] := hv 13 _ 44 rfl rfl
    have e14 : v 14 = .agg #[.int .u8 (meanB a0_0 a1_0 a2_0 a3_0), .int .u8 (meanB a0_1 a1_1 a2_1 a3_1), .int .u8 (meanB a0_2 a1_2 a2_2 a3_2), .int .u8 (meanB a0_3 a1_3 a2_3 a3_3)] := hv 14 _ 45 rfl rfl
    have e15 : v 15 = .agg #[.int .u8 a0_0, .int .u8 a0_1, .int .u8 a0_2, .int .u8 a0_3] := hv 15 _ 46 rfl rfl
    have e16 : v 16 = .agg #[.int .u8 a1_0, .int .u8 a1_1, .int .u8 a1_2, .int .u8 a1_3] := hv 16 _ 47 rfl rfl
    have e17 : v 17 = .agg #[.int .u8 a2_0, .int .u8 a2_1, .int .u8 a2_2, .int .u8 a2_3] := hv 17 _ 48 rfl rfl
    have e18 : v 18 = .agg #[.int .u8 a3_0, .int .u8 a3_1, .int .u8 a3_2, .int .u8 a3_3] := hv 18 _ 49 rfl rfl
    have e19 : v 19 = .agg #[.int .u8 (meanB a0_0 a1_0 a2_0 a3_0), .int .u8 (meanB a0_1 a1_1 a2_1 a3_1), .int .u8 (meanB a0_2 a1_2 a2_2 a3_2), .int .u8 (meanB a0_3 a1_3 a2_3 a3_3)] := hv 19 _ 50 rfl rfl
    have e20 : v 20 = .bool true := hv 20 _ 51 rfl rfl
    have e21 : v 21 = .bool true := hv 21 _ 52 rfl rfl
    have e22 : v 22 = .bool true := hv 22 _ 53 rfl rfl
    have e23 : v 23 = .agg #[.int .u8 a0_0, .int .u8 a0_1, .int .u8 a0_2, .int .u8 a0_3] := hv 23 _ 54 rfl rfl
    have e24 : v 24 = .agg #[.int .u8 a1_0, .int .u8 a1_1, .int .u8 a1_2, .int .u8 a1_3] := hv 24 _ 55 rfl rfl
    have e25 : v 25 = .agg #[.int .u8 (timesB a0_0 a1_0), .int .u8 (timesB a0_1 a1_1), .int .u8 (timesB a0_2 a1_2), .int .u8 (timesB a0_3 a1_3)] := hv 25 _ 56 rfl rfl
    have e26 : v 26 = .agg #[.int .u8 a0_0, .int .u8 a0_1, .int .u8 a0_2, .int .u8 a0_3] := hv 26 _ 57 rfl rfl
    have e27 : v 27 = .agg #[.int .u8 a1_0, .int .u8 a1_1, .int .u8 a1_2, .int .u8 a1_3] := hv 27 _ 58 rfl rfl
    have e28 : v 28 = .agg #[.int .u8 (timesB a0_0 a1_0), .int .u8 (timesB a0_1 a1_1), .int .u8 (timesB a0_2 a1_2), .int .u8 (timesB a0_3 a1_3)] := hv 28 _ 59 rfl rfl
    have e29 : v 29 = .bool true := hv 29 _ 60 rfl rfl
    have e30 : v 30 = .bool true := hv 30 _ 61 rfl rfl
    have e31 : v 31 = .bool true := hv 31 _ 62 rfl rfl
    have e32 : v 32 = .bool true := hv 32 _ 63 rfl rfl
    have e33 : v 33 = .bool true := hv 33 _ 64 rfl rfl
    have e34 : v 34 = .bool true := hv 34 _ 65 rfl rfl
    have e35 : v 35 = .bool true := hv 35 _ 66 rfl rfl
    have e36 : v 36 = .bool true := hv 36 _ 67 rfl rfl
    have e37 : v 37 = .slice A1 n c1 := hv 37 _ 68 rfl rfl
    obtain ⟨ga38, n38, c38, e38, hr38⟩ : Rds zs (v 38) X := hv 38 _ 69 rfl rfl
    have e39 : v 39 = .string (bytesOf zs) := hv 39 _ 70 rfl rfl
    have e40 : v 40 = .slice A2 n c2 := hv 40 _ 71 rfl rfl
    obtain ⟨ga41, n41, c41, e41, hr41⟩ : Rds zs (v 41) X := hv 41 _ 72 rfl rfl
    have e42 : v 42 = .string (bytesOf zs) := hv 42 _ 73 rfl rfl
    have e43 : v 43 = .bool true := hv 43 _ 74 rfl rfl
    have e44 : v 44 = .bool true := hv 44 _ 75 rfl rfl
    have e45 : v 45 = .bool true := hv 45 _ 76 rfl rfl
    have e46 : v 46 = .bool true := hv 46 _ 77 rfl rfl
    have e47 : v 47 = .bool true := hv 47 _ 78 rfl rfl
    have e48 : v 48 = .bool true := hv 48 _ 12 rfl rfl
    simp only [Pred.putsF_cons, Pred.putsF_nil, Nat.zero_add, Nat.reduceAdd, e0, e1, e2, e3, e4, e5, e6, e7, e8, e9, e10, e11, e12, e13, e14, e15, e16, e17, e18, e19, e20, e21, e22, e23, e24, e25, e26, e27, e28, e29, e30, e31, e32, e33, e34, e35, e36, e37, e38, e39, e40, e41, e42, e43, e44, e45, e46, e47, e48, Act.put, List.setIfInBounds_toArray, List.set_cons_zero, List.set_cons_succ]
    clear e0 e1 e2 e3 e4 e5 e6 e7 e8 e9 e10 e11 e12 e13 e14 e15 e16 e17 e18 e19 e20 e21 e22 e23 e24 e25 e26 e27 e28 e29 e30 e31 e32 e33 e34 e35 e36 e37 e38 e39 e40 e41 e42 e43 e44 e45 e46 e47 e48 hv
    go_wp2
    go_ret
    exact ⟨rfl, LW.trans (hE.mono LW.size)⟩
set_option maxHeartbeats 8000000 in
theorem HueTells_no (a0_0 : Int) (a0_1 : Int) (a0_2 : Int) (a0_3 : Int) (a1_0 : Int) (a1_1 : Int) (a1_2 : Int) (a1_3 : Int) (a2_0 : Int) (a2_1 : Int) (a2_2 : Int) (a2_3 : Int) (a3_0 : Int) (a3_1 : Int) (a3_2 : Int) (a3_3 : Int) (a4 : Int) (a5 : Option Addr) (len5 cap5 : Nat) (x5 : List (List Value)) (w : World) (p0_0 : 0 ≤ a0_0 ∧ a0_0 ≤ 255) (p0_1 : 0 ≤ a0_1 ∧ a0_1 ≤ 255) (p0_2 : 0 ≤ a0_2 ∧ a0_2 ≤ 255) (p0_3 : 0 ≤ a0_3 ∧ a0_3 ≤ 255) (p1_0 : 0 ≤ a1_0 ∧ a1_0 ≤ 255) (p1_1 : 0 ≤ a1_1 ∧ a1_1 ≤ 255) (p1_2 : 0 ≤ a1_2 ∧ a1_2 ≤ 255) (p1_3 : 0 ≤ a1_3 ∧ a1_3 ≤ 255) (p2_0 : 0 ≤ a2_0 ∧ a2_0 ≤ 255) (p2_1 : 0 ≤ a2_1 ∧ a2_1 ≤ 255) (p2_2 : 0 ≤ a2_2 ∧ a2_2 ≤ 255) (p2_3 : 0 ≤ a2_3 ∧ a2_3 ≤ 255) (p3_0 : 0 ≤ a3_0 ∧ a3_0 ≤ 255) (p3_1 : 0 ≤ a3_1 ∧ a3_1 ≤ 255) (p3_2 : 0 ≤ a3_2 ∧ a3_2 ≤ 255) (p3_3 : 0 ≤ a3_3 ∧ a3_3 ≤ 255) (w4 : (Lit.int .i64 a4).wf = true) (zs : List Int) (hzl : zs.length = len5) (hz : ∀ z ∈ zs, 0 ≤ z ∧ z ≤ 255) (hR : Reads w 1 a5 len5 (u8s zs)) (hlc : len5 ≤ cap5) (hcm : cap5 ≤ maxLen) (hsm : ¬ (200 : Int) < (len5 : Int)) (hm : ¬ len5 % 4 = 0) :
    Calls Try.prog 3 #[.agg #[.int .u8 a0_0, .int .u8 a0_1, .int .u8 a0_2, .int .u8 a0_3], .agg #[.int .u8 a1_0, .int .u8 a1_1, .int .u8 a1_2, .int .u8 a1_3], .agg #[.int .u8 a2_0, .int .u8 a2_1, .int .u8 a2_2, .int .u8 a2_3], .agg #[.int .u8 a3_0, .int .u8 a3_1, .int .u8 a3_2, .int .u8 a3_3], .int .i64 a4, .slice a5 len5 cap5] w fun e w' => e = .returned (.bool true) ∧ Below w.heap.size w w' := by
    have HR := Lib.hid hR
    clear hR hzl
    go_enter Try.func3, Try.ntmps3
    go_wp2_with fail
    refine (from_no a5 len5 cap5 _ (by omega) hm).mono ?_
    rintro e w1 ⟨rfl, rfl⟩
    go_wp2_with fail
    refine (rfrom_no a5 len5 cap5 _ (by omega) hm).mono ?_
    rintro e w2 ⟨rfl, rfl⟩
    obtain ⟨d0, d1, d2, d3⟩ := four w (.cells #[.int .u8 a0_0, .int .u8 a0_1, .int .u8 a0_2, .int .u8 a0_3] 23) (.cells #[.int .u8 a1_0, .int .u8 a1_1, .int .u8 a1_2, .int .u8 a1_3] 23) (.cells #[.int .u8 a2_0, .int .u8 a2_1, .int .u8 a2_2, .int .u8 a2_3] 23) (.cells #[.int .u8 a3_0, .int .u8 a3_1, .int .u8 a3_2, .int .u8 a3_3] 23)
    go_upto_region 5 with (fail)
    refine Rd.name_world ?_
    intro W hW
    have B0 := hW ▸ d0
    have B1 := hW ▸ d1
    have B2 := hW ▸ d2
    have B3 := hW ▸ d3
    have LW : Below w.heap.size w W := by rw [hW]; repeat' (first | (with_reducible exact Below.refl _ _) | (with_reducible refine Rd.below_step ?_ (by assumption)) | (with_reducible refine Rd.below_alloc ?_ _) | (with_reducible refine Rd.below_drewN ?_ _) | (with_reducible refine Below.drew ?_) | (with_reducible refine Below.setCell ?_ ?_ _) | (with_reducible refine Rd.below_setRow ?_ ?_ _) | go_size | (simp only [World.size_alloc]; omega) | omega)
    have RS1 := reads_nil W 4
    have RS2 := reads_nil W 4
    clear hW d0 d1 d2 d3 hm
    have l0 := blk_lt B0
    have l1 := blk_lt B1
    have l2 := blk_lt B2
    have l3 := blk_lt B3
    refine Pred.region_vals (Pred.Of [
        Is (.agg #[.int .u8 a0_0, .int .u8 a0_1, .int .u8 a0_2, .int .u8 a0_3]),
        Is (.agg #[.int .u8 a1_0, .int .u8 a1_1, .int .u8 a1_2, .int .u8 a1_3]),
        Is (.int .i64 a4),
        Is (.agg #[.int .u8 (mixB (clamp a4) a0_0 a1_0), .int .u8 (mixB (clamp a4) a0_1 a1_1), .int .u8 (mixB (clamp a4) a0_2 a1_2), .int .u8 (mixB (clamp a4) a0_3 a1_3)]),
        Is (.agg #[.int .u8 a0_0, .int .u8 a0_1, .int .u8 a0_2, .int .u8 a0_3]),
        Is (.agg #[.int .u8 a1_0, .int .u8 a1_1, .int .u8 a1_2, .int .u8 a1_3]),
        Is (.int .i64 a4),
        Is (.agg #[.int .u8 (mixB (clamp a4) a0_0 a1_0), .int .u8 (mixB (clamp a4) a0_1 a1_1), .int .u8 (mixB (clamp a4) a0_2 a1_2), .int .u8 (mixB (clamp a4) a0_3 a1_3)]),
        Is (.bool true),
        Is (.bool true),
        Is (.agg #[.int .u8 a0_0, .int .u8 a0_1, .int .u8 a0_2, .int .u8 a0_3]),
        Is (.agg #[.int .u8 a1_0, .int .u8 a1_1, .int .u8 a1_2, .int .u8 a1_3]),
        Is (.agg #[.int .u8 a2_0, .int .u8 a2_1, .int .u8 a2_2, .int .u8 a2_3]),
        Is (.agg #[.int .u8 a3_0, .int .u8 a3_1, .int .u8 a3_2, .int .u8 a3_3]),
        Is (.agg #[.int .u8 (meanB a0_0 a1_0 a2_0 a3_0), .int .u8 (meanB a0_1 a1_1 a2_1 a3_1), .int .u8 (meanB a0_2 a1_2 a2_2 a3_2), .int .u8 (meanB a0_3 a1_3 a2_3 a3_3)]),
        Is (.agg #[.int .u8 a0_0, .int .u8 a0_1, .int .u8 a0_2, .int .u8 a0_3]),
        Is (.agg #[.int .u8 a1_0, .int .u8 a1_1, .int .u8 a1_2, .int .u8 a1_3]),
        Is (.agg #[.int .u8 a2_0, .int .u8 a2_1, .int .u8 a2_2, .int .u8 a2_3]),
        Is (.agg #[.int .u8 a3_0, .int .u8 a3_1, .int .u8 a3_2, .int .u8 a3_3]),
        Is (.agg #[.int .u8 (meanB a0_0 a1_0 a2_0 a3_0), .int .u8 (meanB a0_1 a1_1 a2_1 a3_1), .int .u8 (meanB a0_2 a1_2 a2_2 a3_2), .int .u8 (meanB a0_3 a1_3 a2_3 a3_3)]),
        Is (.bool true),
        Is (.bool true),
        Is (.bool true),
        Is (.agg #[.int .u8 a0_0, .int .u8 a0_1, .int .u8 a0_2, .int .u8 a0_3]),
        Is (.agg #[.int .u8 a1_0, .int .u8 a1_1, .int .u8 a1_2, .int .u8 a1_3]),
        Is (.agg #[.int .u8 (timesB a0_0 a1_0), .int .u8 (timesB a0_1 a1_1), .int .u8 (timesB a0_2 a1_2), .int .u8 (timesB a0_3 a1_3)]),
        Is (.agg #[.int .u8 a0_0, .int .u8 a0_1, .int .u8 a0_2, .int .u8 a0_3]),
        Is (.agg #[.int .u8 a1_0, .int .u8 a1_1, .int .u8 a1_2, .int .u8 a1_3]),
        Is (.agg #[.int .u8 (timesB a0_0 a1_0), .int .u8 (timesB a0_1 a1_1), .int .u8 (timesB a0_2 a1_2), .int .u8 (timesB a0_3 a1_3)]),
        Is (.bool true),
        Is (.bool true),
        Is (.bool true),
        Is (.bool false),
        Is (.bool false),
        Is (.bool true),
        Is (.bool true),
        Is (.bool true),
        Is (.slice none 0 0),
        Rds [],
        Is (.string (bytesOf [])),
        Is (.slice none 0 0),
        Rds [],
        Is (.string (bytesOf [])),
        Is (.bool true),
        Is (.bool true),
        Is (.bool true),
        Is (.bool true),
        Is (.bool true),
        Is (.bool true)]) (by kernel_rfl) (by kernel_rfl) (by kernel_rfl) (Pred.of_stab ?_) ?_ ?_
    · exact ⟨is_stab _, is_stab _, is_stab _, is_stab _, is_stab _, is_stab _, is_stab _, is_stab _, is_stab _, is_stab _, is_stab _, is_stab _, is_stab _, is_stab _, is_stab _, is_stab _, is_stab _, is_stab _, is_stab _, is_stab _, is_stab _, is_stab _, is_stab _, is_stab _, is_stab _, is_stab _, is_stab _, is_stab _, is_stab _, is_stab _, is_stab _, is_stab _, is_stab _, is_stab _, is_stab _, is_stab _, is_stab _, is_stab _, rds_stab _, is_stab _, is_stab _, rds_stab _, is_stab _, is_stab _, is_stab _, is_stab _, is_stab _, is_stab _, is_stab _, trivial⟩
    · refine ⟨?_, ?_, ?_, ?_, ?_, ?_, ?_, ?_, ?_, ?_, ?_, ?_, ?_, ?_, ?_, ?_, ?_, ?_, ?_, ?_, ?_, ?_, ?_, ?_, ?_, ?_, ?_, ?_, ?_, ?_, ?_, ?_, ?_, ?_, ?_, ?_, ?_, ?_, ?_, ?_, ?_, ?_, ?_, ?_, ?_, ?_, ?_, ?_, ?_, trivial⟩
      · intro b X hE hd hn hV
        have r6 : b.tmps[6]?.getD undef = .pointer (some ⟨w.heap.size, 0, none⟩) := (hn 6 (by kernel_rfl)).trans rfl
        have q := (blk_below hE _ l0).trans B0
        exact Pred.yields_run (v := .agg #[.int .u8 a0_0, .int .u8 a0_1, .int .u8 a0_2, .int .u8 a0_3]) (Pred.wanted_none rfl) (by go_simp) ⟨Pred.ext_refl _ _, rfl⟩
      · intro b X hE hd hn hV
        have r7 : b.tmps[7]?.getD undef = .pointer (some ⟨w.heap.size + 1, 0, none⟩) := (hn 7 (by kernel_rfl)).trans rfl
        have q := (blk_below hE _ l1).trans B1
        exact Pred.yields_run (v := .agg #[.int .u8 a1_0, .int .u8 a1_1, .int .u8 a1_2, .int .u8 a1_3]) (Pred.wanted_none rfl) (by go_simp) ⟨Pred.ext_refl _ _, rfl⟩
      · intro b X hE hd hn hV
        have r4 : b.tmps[4]?.getD undef = .int .i64 a4 := (hn 4 (by kernel_rfl)).trans rfl
        exact Pred.yields_run (v := .int .i64 a4) (Pred.wanted_none rfl) (by go_simp) ⟨Pred.ext_refl _ _, rfl⟩
      · intro b X hE hd hn hV
        have r31 : b.tmps[31]?.getD undef = .agg #[.int .u8 a0_0, .int .u8 a0_1, .int .u8 a0_2, .int .u8 a0_3] := hV 0 _ 31 rfl rfl (Pred.waits_near (by kernel_rfl) (by kernel_rfl))
        have r32 : b.tmps[32]?.getD undef = .agg #[.int .u8 a1_0, .int .u8 a1_1, .int .u8 a1_2, .int .u8 a1_3] := hV 1 _ 32 rfl rfl (Pred.waits_near (by kernel_rfl) (by kernel_rfl))
        have r33 : b.tmps[33]?.getD undef = .int .i64 a4 := hV 2 _ 33 rfl rfl (Pred.waits_near (by kernel_rfl) (by kernel_rfl))
        refine Pred.yields_call (f := 11) (args := #[.agg #[.int .u8 a0_0, .int .u8 a0_1, .int .u8 a0_2, .int .u8 a0_3], .agg #[.int .u8 a1_0, .int .u8 a1_1, .int .u8 a1_2, .int .u8 a1_3], .int .i64 a4]) (Pred.wanted_none rfl) (by go_simp) ?_
        exact (lerp_any a0_0 a0_1 a0_2 a0_3 a1_0 a1_1 a1_2 a1_3 a4 _ p0_0 p0_1 p0_2 p0_3 p1_0 p1_1 p1_2 p1_3 w4).mono fun e w2 ⟨he, hb⟩ => ⟨_, he, Pred.ext_below hb hE.size, rfl⟩
      · intro b X hE hd hn hV
        have r6 : b.tmps[6]?.getD undef = .pointer (some ⟨w.heap.size, 0, none⟩) := (hn 6 (by kernel_rfl)).trans rfl
        have q := (blk_below hE _ l0).trans B0
        exact Pred.yields_run (v := .agg #[.int .u8 a0_0, .int .u8 a0_1, .int .u8 a0_2, .int .u8 a0_3]) (Pred.wanted_none rfl) (by go_simp) ⟨Pred.ext_refl _ _, rfl⟩
      · intro b X hE hd hn hV
        have r7 : b.tmps[7]?.getD undef = .pointer (some ⟨w.heap.size + 1, 0, none⟩) := (hn 7 (by kernel_rfl)).trans rfl
        have q := (blk_below hE _ l1).trans B1
        exact Pred.yields_run (v := .agg #[.int .u8 a1_0, .int .u8 a1_1, .int .u8 a1_2, .int .u8 a1_3]) (Pred.wanted_none rfl) (by go_simp) ⟨Pred.ext_refl _ _, rfl⟩
      · intro b X hE hd hn hV
        have r4 : b.tmps[4]?.getD undef = .int .i64 a4 := (hn 4 (by kernel_rfl)).trans rfl
        exact Pred.yields_run (v := .int .i64 a4) (Pred.wanted_none rfl) (by go_simp) ⟨Pred.ext_refl _ _, rfl⟩
      · intro b X hE hd hn hV
        have r35 : b.tmps[35]?.getD undef = .agg #[.int .u8 a0_0, .int .u8 a0_1, .int .u8 a0_2, .int .u8 a0_3] := hV 4 _ 35 rfl rfl (Pred.waits_near (by kernel_rfl) (by kernel_rfl))
        have r36 : b.tmps[36]?.getD undef = .agg #[.int .u8 a1_0, .int .u8 a1_1, .int .u8 a1_2, .int .u8 a1_3] := hV 5 _ 36 rfl rfl (Pred.waits_near (by kernel_rfl) (by kernel_rfl))
        have r37 : b.tmps[37]?.getD undef = .int .i64 a4 := hV 6 _ 37 rfl rfl (Pred.waits_near (by kernel_rfl) (by kernel_rfl))
        refine Pred.yields_call (f := 12) (args := #[.agg #[.int .u8 a0_0, .int .u8 a0_1, .int .u8 a0_2, .int .u8 a0_3], .agg #[.int .u8 a1_0, .int .u8 a1_1, .int .u8 a1_2, .int .u8 a1_3], .int .i64 a4]) (Pred.wanted_none rfl) (by go_simp) ?_
        exact (rlerp_any a0_0 a0_1 a0_2 a0_3 a1_0 a1_1 a1_2 a1_3 a4 _ p0_0 p0_1 p0_2 p0_3 p1_0 p1_1 p1_2 p1_3 w4).mono fun e w2 ⟨he, hb⟩ => ⟨_, he, Pred.ext_below hb hE.size, rfl⟩
      · intro b X hE hd hn hV
        have r34 : b.tmps[34]?.getD undef = .agg #[.int .u8 (mixB (clamp a4) a0_0 a1_0), .int .u8 (mixB (clamp a4) a0_1 a1_1), .int .u8 (mixB (clamp a4) a0_2 a1_2), .int .u8 (mixB (clamp a4) a0_3 a1_3)] := hV 3 _ 34 rfl rfl (Pred.waits_near (by kernel_rfl) (by kernel_rfl))
        have r38 : b.tmps[38]?.getD undef = .agg #[.int .u8 (mixB (clamp a4) a0_0 a1_0), .int .u8 (mixB (clamp a4) a0_1 a1_1), .int .u8 (mixB (clamp a4) a0_2 a1_2), .int .u8 (mixB (clamp a4) a0_3 a1_3)] := hV 7 _ 38 rfl rfl (Pred.waits_near (by kernel_rfl) (by kernel_rfl))
        exact Pred.yields_run (v := .bool true) (Pred.wanted_none rfl) (by go_simp) ⟨Pred.ext_refl _ _, rfl⟩
      · intro b X hE hd hn hV
        have r39 : b.tmps[39]?.getD undef = .bool true := hV 8 _ 39 rfl rfl (Pred.waits_near (by kernel_rfl) (by kernel_rfl))
        exact Pred.yields_run (v := .bool true) (Pred.wanted_none rfl) (by go_simp) ⟨Pred.ext_refl _ _, rfl⟩
      · intro b X hE hd hn hV
        have r6 : b.tmps[6]?.getD undef = .pointer (some ⟨w.heap.size, 0, none⟩) := (hn 6 (by kernel_rfl)).trans rfl
        have r40 : b.tmps[40]?.getD undef = .bool true := hV 9 _ 40 rfl rfl (Pred.waits_near (by kernel_rfl) (by kernel_rfl))
        have q := (blk_below hE _ l0).trans B0
        exact Pred.yields_run (v := .agg #[.int .u8 a0_0, .int .u8 a0_1, .int .u8 a0_2, .int .u8 a0_3]) ((Pred.wanted_at (g := 9) (d := 40) (f := true) rfl rfl r40).trans rfl) (by go_simp) ⟨Pred.ext_refl _ _, rfl⟩
      · intro b X hE hd hn hV
        have r7 : b.tmps[7]?.getD undef = .pointer (some ⟨w.heap.size + 1, 0, none⟩) := (hn 7 (by kernel_rfl)).trans rfl
        have r40 : b.tmps[40]?.getD undef = .bool true := hV 9 _ 40 rfl rfl (Pred.waits_near (by kernel_rfl) (by kernel_rfl))
        have q := (blk_below hE _ l1).trans B1
        exact Pred.yields_run (v := .agg #[.int .u8 a1_0, .int .u8 a1_1, .int .u8 a1_2, .int .u8 a1_3]) ((Pred.wanted_at (g := 9) (d := 40) (f := true) rfl rfl r40).trans rfl) (by go_simp) ⟨Pred.ext_refl _ _, rfl⟩
      · intro b X hE hd hn hV
        have r8 : b.tmps[8]?.getD undef = .pointer (some ⟨w.heap.size + 1 + 1, 0, none⟩) := (hn 8 (by kernel_rfl)).trans rfl
        have r40 : b.tmps[40]?.getD undef = .bool true := hV 9 _ 40 rfl rfl (Pred.waits_near (by kernel_rfl) (by kernel_rfl))
        have q := (blk_below hE _ l2).trans B2
        exact Pred.yields_run (v := .agg #[.int .u8 a2_0, .int .u8 a2_1, .int .u8 a2_2, .int .u8 a2_3]) ((Pred.wanted_at (g := 9) (d := 40) (f := true) rfl rfl r40).trans rfl) (by go_simp) ⟨Pred.ext_refl _ _, rfl⟩
      · intro b X hE hd hn hV
        have r9 : b.tmps[9]?.getD undef = .pointer (some ⟨w.heap.size + 1 + 1 + 1, 0, none⟩) := (hn 9 (by kernel_rfl)).trans rfl
        have r40 : b.tmps[40]?.getD undef = .bool true := hV 9 _ 40 rfl rfl (Pred.waits_near (by kernel_rfl) (by kernel_rfl))
        have q := (blk_below hE _ l3).trans B3
        exact Pred.yields_run (v := .agg #[.int .u8 a3_0, .int .u8 a3_1, .int .u8 a3_2, .int .u8 a3_3]) ((Pred.wanted_at (g := 9) (d := 40) (f := true) rfl rfl r40).trans rfl) (by go_simp) ⟨Pred.ext_refl _ _, rfl⟩
      · intro b X hE hd hn hV
        have r41 : b.tmps[41]?.getD undef = .agg #[.int .u8 a0_0, .int .u8 a0_1, .int .u8 a0_2, .int .u8 a0_3] := hV 10 _ 41 rfl rfl (Pred.waits_near (by kernel_rfl) (by kernel_rfl))
        have r42 : b.tmps[42]?.getD undef = .agg #[.int .u8 a1_0, .int .u8 a1_1, .int .u8 a1_2, .int .u8 a1_3] := hV 11 _ 42 rfl rfl (Pred.waits_near (by kernel_rfl) (by kernel_rfl))
        have r43 : b.tmps[43]?.getD undef = .agg #[.int .u8 a2_0, .int .u8 a2_1, .int .u8 a2_2, .int .u8 a2_3] := hV 12 _ 43 rfl rfl (Pred.waits_near (by kernel_rfl) (by kernel_rfl))
        have r44 : b.tmps[44]?.getD undef = .agg #[.int .u8 a3_0, .int .u8 a3_1, .int .u8 a3_2, .int .u8 a3_3] := hV 13 _ 44 rfl rfl (Pred.waits_near (by kernel_rfl) (by kernel_rfl))
        have r40 : b.tmps[40]?.getD undef = .bool true := hV 9 _ 40 rfl rfl (Pred.waits_near (by kernel_rfl) (by kernel_rfl))
        refine Pred.yields_call (f := 13) (args := #[.agg #[.int .u8 a0_0, .int .u8 a0_1, .int .u8 a0_2, .int .u8 a0_3], .agg #[.int .u8 a1_0, .int .u8 a1_1, .int .u8 a1_2, .int .u8 a1_3], .agg #[.int .u8 a2_0, .int .u8 a2_1, .int .u8 a2_2, .int .u8 a2_3], .agg #[.int .u8 a3_0, .int .u8 a3_1, .int .u8 a3_2, .int .u8 a3_3]]) ((Pred.wanted_at (g := 9) (d := 40) (f := true) rfl rfl r40).trans rfl) (by go_simp) ?_
        exact (mean_any a0_0 a0_1 a0_2 a0_3 a1_0 a1_1 a1_2 a1_3 a2_0 a2_1 a2_2 a2_3 a3_0 a3_1 a3_2 a3_3 _ p0_0 p0_1 p0_2 p0_3 p1_0 p1_1 p1_2 p1_3 p2_0 p2_1 p2_2 p2_3 p3_0 p3_1 p3_2 p3_3).mono fun e w2 ⟨he, hb⟩ => ⟨_, he, Pred.ext_below hb hE.size, rfl⟩
      · intro b X hE hd hn hV
        have r6 : b.tmps[6]?.getD undef = .pointer (some ⟨w.heap.size, 0, none⟩) := (hn 6 (by kernel_rfl)).trans rfl
        have r40 : b.tmps[40]?.getD undef = .bool true := hV 9 _ 40 rfl rfl (Pred.waits_near (by kernel_rfl) (by kernel_rfl))
        have q := (blk_below hE _ l0).trans B0
        exact Pred.yields_run (v := .agg #[.int .u8 a0_0, .int .u8 a0_1, .int .u8 a0_2, .int .u8 a0_3]) ((Pred.wanted_at (g := 9) (d := 40) (f := true) rfl rfl r40).trans rfl) (by go_simp) ⟨Pred.ext_refl _ _, rfl⟩
      · intro b X hE hd hn hV
        have r7 : b.tmps[7]?.getD undef = .pointer (some ⟨w.heap.size + 1, 0, none⟩) := (hn 7 (by kernel_rfl)).trans rfl
        have r40 : b.tmps[40]?.getD undef = .bool true := hV 9 _ 40 rfl rfl (Pred.waits_near (by kernel_rfl) (by kernel_rfl))
        have q := (blk_below hE _ l1).trans B1
        exact Pred.yields_run (v := .agg #[.int .u8 a1_0, .int .u8 a1_1, .int .u8 a1_2, .int .u8 a1_3]) ((Pred.wanted_at (g := 9) (d := 40) (f := true) rfl rfl r40).trans rfl) (by go_simp) ⟨Pred.ext_refl _ _, rfl⟩
      · intro b X hE hd hn hV
        have r8 : b.tmps[8]?.getD undef = .pointer (some ⟨w.heap.size + 1 + 1, 0, none⟩) := (hn 8 (by kernel_rfl)).trans rfl
        have r40 : b.tmps[40]?.getD undef = .bool true := hV 9 _ 40 rfl rfl (Pred.waits_near (by kernel_rfl) (by kernel_rfl))
        have q := (blk_below hE _ l2).trans B2
        exact Pred.yields_run (v := .agg #[.int .u8 a2_0, .int .u8 a2_1, .int .u8 a2_2, .int .u8 a2_3]) ((Pred.wanted_at (g := 9) (d := 40) (f := true) rfl rfl r40).trans rfl) (by go_simp) ⟨Pred.ext_refl _ _, rfl⟩
      · intro b X hE hd hn hV
        have r9 : b.tmps[9]?.getD undef = .pointer (some ⟨w.heap.size + 1 + 1 + 1, 0, none⟩) := (hn 9 (by kernel_rfl)).trans rfl
        have r40 : b.tmps[40]?.getD undef = .bool true := hV 9 _ 40 rfl rfl (Pred.waits_near (by kernel_rfl) (by kernel_rfl))
        have q := (blk_below hE _ l3).trans B3
        exact Pred.yields_run (v := .agg #[.int .u8 a3_0, .int .u8 a3_1, .int .u8 a3_2, .int .u8 a3_3]) ((Pred.wanted_at (g := 9) (d := 40) (f := true) rfl rfl r40).trans rfl) (by go_simp) ⟨Pred.ext_refl _ _, rfl⟩
      · intro b X hE hd hn hV
        have r46 : b.tmps[46]?.getD undef = .agg #[.int .u8 a0_0, .int .u8 a0_1, .int .u8 a0_2, .int .u8 a0_3] := hV 15 _ 46 rfl rfl (Pred.waits_near (by kernel_rfl) (by kernel_rfl))
        have r47 : b.tmps[47]?.getD undef = .agg #[.int .u8 a1_0, .int .u8 a1_1, .int .u8 a1_2, .int .u8 a1_3] := hV 16 _ 47 rfl rfl (Pred.waits_near (by kernel_rfl) (by kernel_rfl))
        have r48 : b.tmps[48]?.getD undef = .agg #[.int .u8 a2_0, .int .u8 a2_1, .int .u8 a2_2, .int .u8 a2_3] := hV 17 _ 48 rfl rfl (Pred.waits_near (by kernel_rfl) (by kernel_rfl))
        have r49 : b.tmps[49]?.getD undef = .agg #[.int .u8 a3_0, .int .u8 a3_1, .int .u8 a3_2, .int .u8 a3_3] := hV 18 _ 49 rfl rfl (Pred.waits_near (by kernel_rfl) (by kernel_rfl))
        have r40 : b.tmps[40]?.getD undef = .bool true := hV 9 _ 40 rfl rfl (Pred.waits_near (by kernel_rfl) (by kernel_rfl))
        refine Pred.yields_call (f := 14) (args := #[.agg #[.int .u8 a0_0, .int .u8 a0_1, .int .u8 a0_2, .int .u8 a0_3], .agg #[.int .u8 a1_0, .int .u8 a1_1, .int .u8 a1_2, .int .u8 a1_3], .agg #[.int .u8 a2_0, .int .u8 a2_1, .int .u8 a2_2, .int .u8 a2_3], .agg #[.int .u8 a3_0, .int .u8 a3_1, .int .u8 a3_2, .int .u8 a3_3]]) ((Pred.wanted_at (g := 9) (d := 40) (f := true) rfl rfl r40).trans rfl) (by go_simp) ?_
        exact (rmean_any a0_0 a0_1 a0_2 a0_3 a1_0 a1_1 a1_2 a1_3 a2_0 a2_1 a2_2 a2_3 a3_0 a3_1 a3_2 a3_3 _ p0_0 p0_1 p0_2 p0_3 p1_0 p1_1 p1_2 p1_3 p2_0 p2_1 p2_2 p2_3 p3_0 p3_1 p3_2 p3_3).mono fun e w2 ⟨he, hb⟩ => ⟨_, he, Pred.ext_below hb hE.size, rfl⟩
      · intro b X hE hd hn hV
        have r45 : b.tmps[45]?.getD undef = .agg #[.int .u8 (meanB a0_0 a1_0 a2_0 a3_0), .int .u8 (meanB a0_1 a1_1 a2_1 a3_1), .int .u8 (meanB a0_2 a1_2 a2_2 a3_2), .int .u8 (meanB a0_3 a1_3 a2_3 a3_3)] := hV 14 _ 45 rfl rfl (Pred.waits_near (by kernel_rfl) (by kernel_rfl))
        have r50 : b.tmps[50]?.getD undef = .agg #[.int .u8 (meanB a0_0 a1_0 a2_0 a3_0), .int .u8 (meanB a0_1 a1_1 a2_1 a3_1), .int .u8 (meanB a0_2 a1_2 a2_2 a3_2), .int .u8 (meanB a0_3 a1_3 a2_3 a3_3)] := hV 19 _ 50 rfl rfl (Pred.waits_near (by kernel_rfl) (by kernel_rfl))
        have r40 : b.tmps[40]?.getD undef = .bool true := hV 9 _ 40 rfl rfl (Pred.waits_near (by kernel_rfl) (by kernel_rfl))
        exact Pred.yields_run (v := .bool true) ((Pred.wanted_at (g := 9) (d := 40) (f := true) rfl rfl r40).trans rfl) (by go_simp) ⟨Pred.ext_refl _ _, rfl⟩
      · intro b X hE hd hn hV
        have r40 : b.tmps[40]?.getD undef = .bool true := hV 9 _ 40 rfl rfl (Pred.waits_near (by kernel_rfl) (by kernel_rfl))
        have r51 : b.tmps[51]?.getD undef = .bool true := hV 20 _ 51 rfl rfl (Pred.waits_near (by kernel_rfl) (by kernel_rfl))
        exact Pred.yields_run (v := .bool true) (Pred.wanted_none rfl) (by go_simp) ⟨Pred.ext_refl _ _, rfl⟩
      · intro b X hE hd hn hV
        have r52 : b.tmps[52]?.getD undef = .bool true := hV 21 _ 52 rfl rfl (Pred.waits_near (by kernel_rfl) (by kernel_rfl))
        exact Pred.yields_run (v := .bool true) (Pred.wanted_none rfl) (by go_simp) ⟨Pred.ext_refl _ _, rfl⟩
      · intro b X hE hd hn hV
        have r6 : b.tmps[6]?.getD undef = .pointer (some ⟨w.heap.size, 0, none⟩) := (hn 6 (by kernel_rfl)).trans rfl
        have r53 : b.tmps[53]?.getD undef = .bool true := hV 22 _ 53 rfl rfl (Pred.waits_near (by kernel_rfl) (by kernel_rfl))
        have q := (blk_below hE _ l0).trans B0
        exact Pred.yields_run (v := .agg #[.int .u8 a0_0, .int .u8 a0_1, .int .u8 a0_2, .int .u8 a0_3]) ((Pred.wanted_at (g := 22) (d := 53) (f := true) rfl rfl r53).trans rfl) (by go_simp) ⟨Pred.ext_refl _ _, rfl⟩
      · intro b X hE hd hn hV
        have r7 : b.tmps[7]?.getD undef = .pointer (some ⟨w.heap.size + 1, 0, none⟩) := (hn 7 (by kernel_rfl)).trans rfl
        have r53 : b.tmps[53]?.getD undef = .bool true := hV 22 _ 53 rfl rfl (Pred.waits_near (by kernel_rfl) (by kernel_rfl))
        have q := (blk_below hE _ l1).trans B1
        exact Pred.yields_run (v := .agg #[.int .u8 a1_0, .int .u8 a1_1, .int .u8 a1_2, .int .u8 a1_3]) ((Pred.wanted_at (g := 22) (d := 53) (f := true) rfl rfl r53).trans rfl) (by go_simp) ⟨Pred.ext_refl _ _, rfl⟩
      · intro b X hE hd hn hV
        have r54 : b.tmps[54]?.getD undef = .agg #[.int .u8 a0_0, .int .u8 a0_1, .int .u8 a0_2, .int .u8 a0_3] := hV 23 _ 54 rfl rfl (Pred.waits_near (by kernel_rfl) (by kernel_rfl))
        have r55 : b.tmps[55]?.getD undef = .agg #[.int .u8 a1_0, .int .u8 a1_1, .int .u8 a1_2, .int .u8 a1_3] := hV 24 _ 55 rfl rfl (Pred.waits_near (by kernel_rfl) (by kernel_rfl))
        have r53 : b.tmps[53]?.getD undef = .bool true := hV 22 _ 53 rfl rfl (Pred.waits_near (by kernel_rfl) (by kernel_rfl))
        refine Pred.yields_call (f := 15) (args := #[.agg #[.int .u8 a0_0, .int .u8 a0_1, .int .u8 a0_2, .int .u8 a0_3], .agg #[.int .u8 a1_0, .int .u8 a1_1, .int .u8 a1_2, .int .u8 a1_3]]) ((Pred.wanted_at (g := 22) (d := 53) (f := true) rfl rfl r53).trans rfl) (by go_simp) ?_
        exact (times_any a0_0 a0_1 a0_2 a0_3 a1_0 a1_1 a1_2 a1_3 _ p0_0 p0_1 p0_2 p0_3 p1_0 p1_1 p1_2 p1_3).mono fun e w2 ⟨he, hb⟩ => ⟨_, he, Pred.ext_below hb hE.size, rfl⟩
      · intro b X hE hd hn hV
        have r6 : b.tmps[6]?.getD undef = .pointer (some ⟨w.heap.size, 0, none⟩) := (hn 6 (by kernel_rfl)).trans rfl
        have r53 : b.tmps[53]?.getD undef = .bool true := hV 22 _ 53 rfl rfl (Pred.waits_near (by kernel_rfl) (by kernel_rfl))
        have q := (blk_below hE _ l0).trans B0
        exact Pred.yields_run (v := .agg #[.int .u8 a0_0, .int .u8 a0_1, .int .u8 a0_2, .int .u8 a0_3]) ((Pred.wanted_at (g := 22) (d := 53) (f := true) rfl rfl r53).trans rfl) (by go_simp) ⟨Pred.ext_refl _ _, rfl⟩
      · intro b X hE hd hn hV
        have r7 : b.tmps[7]?.getD undef = .pointer (some ⟨w.heap.size + 1, 0, none⟩) := (hn 7 (by kernel_rfl)).trans rfl
        have r53 : b.tmps[53]?.getD undef = .bool true := hV 22 _ 53 rfl rfl (Pred.waits_near (by kernel_rfl) (by kernel_rfl))
        have q := (blk_below hE _ l1).trans B1
        exact Pred.yields_run (v := .agg #[.int .u8 a1_0, .int .u8 a1_1, .int .u8 a1_2, .int .u8 a1_3]) ((Pred.wanted_at (g := 22) (d := 53) (f := true) rfl rfl r53).trans rfl) (by go_simp) ⟨Pred.ext_refl _ _, rfl⟩
      · intro b X hE hd hn hV
        have r57 : b.tmps[57]?.getD undef = .agg #[.int .u8 a0_0, .int .u8 a0_1, .int .u8 a0_2, .int .u8 a0_3] := hV 26 _ 57 rfl rfl (Pred.waits_near (by kernel_rfl) (by kernel_rfl))
        have r58 : b.tmps[58]?.getD undef = .agg #[.int .u8 a1_0, .int .u8 a1_1, .int .u8 a1_2, .int .u8 a1_3] := hV 27 _ 58 rfl rfl (Pred.waits_near (by kernel_rfl) (by kernel_rfl))
        have r53 : b.tmps[53]?.getD undef = .bool true := hV 22 _ 53 rfl rfl (Pred.waits_near (by kernel_rfl) (by kernel_rfl))
        refine Pred.yields_call (f := 16) (args := #[.agg #[.int .u8 a0_0, .int .u8 a0_1, .int .u8 a0_2, .int .u8 a0_3], .agg #[.int .u8 a1_0, .int .u8 a1_1, .int .u8 a1_2, .int .u8 a1_3]]) ((Pred.wanted_at (g := 22) (d := 53) (f := true) rfl rfl r53).trans rfl) (by go_simp) ?_
        exact (rtimes_any a0_0 a0_1 a0_2 a0_3 a1_0 a1_1 a1_2 a1_3 _ p0_0 p0_1 p0_2 p0_3 p1_0 p1_1 p1_2 p1_3).mono fun e w2 ⟨he, hb⟩ => ⟨_, he, Pred.ext_below hb hE.size, rfl⟩
      · intro b X hE hd hn hV
        have r56 : b.tmps[56]?.getD undef = .agg #[.int .u8 (timesB a0_0 a1_0), .int .u8 (timesB a0_1 a1_1), .int .u8 (timesB a0_2 a1_2), .int .u8 (timesB a0_3 a1_3)] := hV 25 _ 56 rfl rfl (Pred.waits_near (by kernel_rfl) (by kernel_rfl))
        have r59 : b.tmps[59]?.getD undef = .agg #[.int .u8 (timesB a0_0 a1_0), .int .u8 (timesB a0_1 a1_1), .int .u8 (timesB a0_2 a1_2), .int .u8 (timesB a0_3 a1_3)] := hV 28 _ 59 rfl rfl (Pred.waits_near (by kernel_rfl) (by kernel_rfl))
        have r53 : b.tmps[53]?.getD undef = .bool true := hV 22 _ 53 rfl rfl (Pred.waits_near (by kernel_rfl) (by kernel_rfl))
        exact Pred.yields_run (v := .bool true) ((Pred.wanted_at (g := 22) (d := 53) (f := true) rfl rfl r53).trans rfl) (by go_simp) ⟨Pred.ext_refl _ _, rfl⟩
      · intro b X hE hd hn hV
        have r53 : b.tmps[53]?.getD undef = .bool true := hV 22 _ 53 rfl rfl (Pred.waits_near (by kernel_rfl) (by kernel_rfl))
        have r60 : b.tmps[60]?.getD undef = .bool true := hV 29 _ 60 rfl rfl (Pred.waits_near (by kernel_rfl) (by kernel_rfl))
        exact Pred.yields_run (v := .bool true) (Pred.wanted_none rfl) (by go_simp) ⟨Pred.ext_refl _ _, rfl⟩
      · intro b X hE hd hn hV
        have r61 : b.tmps[61]?.getD undef = .bool true := hV 30 _ 61 rfl rfl (Pred.waits_near (by kernel_rfl) (by kernel_rfl))
        exact Pred.yields_run (v := .bool true) (Pred.wanted_none rfl) (by go_simp) ⟨Pred.ext_refl _ _, rfl⟩
      · intro b X hE hd hn hV
        have r14 : b.tmps[14]?.getD undef = .bool false := (hn 14 (by kernel_rfl)).trans rfl
        have r62 : b.tmps[62]?.getD undef = .bool true := hV 31 _ 62 rfl rfl (Pred.waits_near (by kernel_rfl) (by kernel_rfl))
        exact Pred.yields_run (v := .bool false) ((Pred.wanted_at (g := 31) (d := 62) (f := true) rfl rfl r62).trans rfl) (by go_simp) ⟨Pred.ext_refl _ _, rfl⟩
      · intro b X hE hd hn hV
        have r16 : b.tmps[16]?.getD undef = .bool false := (hn 16 (by kernel_rfl)).trans rfl
        have r62 : b.tmps[62]?.getD undef = .bool true := hV 31 _ 62 rfl rfl (Pred.waits_near (by kernel_rfl) (by kernel_rfl))
        exact Pred.yields_run (v := .bool false) ((Pred.wanted_at (g := 31) (d := 62) (f := true) rfl rfl r62).trans rfl) (by go_simp) ⟨Pred.ext_refl _ _, rfl⟩
      · intro b X hE hd hn hV
        have r63 : b.tmps[63]?.getD undef = .bool false := hV 32 _ 63 rfl rfl (Pred.waits_near (by kernel_rfl) (by kernel_rfl))
        have r64 : b.tmps[64]?.getD undef = .bool false := hV 33 _ 64 rfl rfl (Pred.waits_near (by kernel_rfl) (by kernel_rfl))
        have r62 : b.tmps[62]?.getD undef = .bool true := hV 31 _ 62 rfl rfl (Pred.waits_near (by kernel_rfl) (by kernel_rfl))
        exact Pred.yields_run (v := .bool true) ((Pred.wanted_at (g := 31) (d := 62) (f := true) rfl rfl r62).trans rfl) (by go_simp) ⟨Pred.ext_refl _ _, rfl⟩
      · intro b X hE hd hn hV
        have r62 : b.tmps[62]?.getD undef = .bool true := hV 31 _ 62 rfl rfl (Pred.waits_near (by kernel_rfl) (by kernel_rfl))
        have r65 : b.tmps[65]?.getD undef = .bool true := hV 34 _ 65 rfl rfl (Pred.waits_near (by kernel_rfl) (by kernel_rfl))
        exact Pred.yields_run (v := .bool true) (Pred.wanted_none rfl) (by go_simp) ⟨Pred.ext_refl _ _, rfl⟩
      · intro b X hE hd hn hV
        have r66 : b.tmps[66]?.getD undef = .bool true := hV 35 _ 66 rfl rfl (Pred.waits_near (by kernel_rfl) (by kernel_rfl))
        exact Pred.yields_run (v := .bool true) (Pred.wanted_none rfl) (by go_simp) ⟨Pred.ext_refl _ _, rfl⟩
      · intro b X hE hd hn hV
        have r13 : b.tmps[13]?.getD undef = .slice none 0 0 := (hn 13 (by kernel_rfl)).trans rfl
        have r67 : b.tmps[67]?.getD undef = .bool true := hV 36 _ 67 rfl rfl (Pred.waits_near (by kernel_rfl) (by kernel_rfl))
        exact Pred.yields_run (v := .slice none 0 0) ((Pred.wanted_at (g := 36) (d := 67) (f := true) rfl rfl r67).trans rfl) (by go_simp) ⟨Pred.ext_refl _ _, rfl⟩
      · intro b X hE hd hn hV
        have r68 : b.tmps[68]?.getD undef = .slice none 0 0 := hV 37 _ 68 rfl rfl (Pred.waits_near (by kernel_rfl) (by kernel_rfl))
        have r67 : b.tmps[67]?.getD undef = .bool true := hV 36 _ 67 rfl rfl (Pred.waits_near (by kernel_rfl) (by kernel_rfl))
        refine Pred.yields_call (f := 17) (args := #[.slice none 0 0]) ((Pred.wanted_at (g := 36) (d := 67) (f := true) rfl rfl r67).trans rfl) (by go_simp) ?_
        refine (bytes_any _ _ _ [] _ (RS1.below hE (Nat.le_refl _)) (by omega)).mono ?_
        rintro e w9 ⟨v, he, hown, hb⟩
        obtain ⟨av, cv, rfl, h1, h2⟩ := owns_val hown
        exact ⟨_, he, Pred.ext_below hb hE.size, _, _, _, rfl, Reads.of_owns hown⟩
      · intro b X hE hd hn hV
        obtain ⟨ga69, n69, c69, r69, hr69⟩ : Rds [] (b.tmps[69]?.getD undef) X := hV 38 _ 69 rfl rfl (Pred.waits_near (by kernel_rfl) (by kernel_rfl))
        have r67 : b.tmps[67]?.getD undef = .bool true := hV 36 _ 67 rfl rfl (Pred.waits_near (by kernel_rfl) (by kernel_rfl))
        have hc := conv_reads (P := Try.prog) (src := 24) (dst := 9) (cap := c69) Try.underlying24 Try.underlying5 Try.underlying9 hr69 (fun z hz => by cases hz)
        exact Pred.yields_run (v := .string (bytesOf [])) ((Pred.wanted_at (g := 36) (d := 67) (f := true) rfl rfl r67).trans rfl) (by go_simp) ⟨Pred.ext_refl _ _, rfl⟩
      · intro b X hE hd hn hV
        have r15 : b.tmps[15]?.getD undef = .slice none 0 0 := (hn 15 (by kernel_rfl)).trans rfl
        have r67 : b.tmps[67]?.getD undef = .bool true := hV 36 _ 67 rfl rfl (Pred.waits_near (by kernel_rfl) (by kernel_rfl))
        exact Pred.yields_run (v := .slice none 0 0) ((Pred.wanted_at (g := 36) (d := 67) (f := true) rfl rfl r67).trans rfl) (by go_simp) ⟨Pred.ext_refl _ _, rfl⟩
      · intro b X hE hd hn hV
        have r71 : b.tmps[71]?.getD undef = .slice none 0 0 := hV 40 _ 71 rfl rfl (Pred.waits_near (by kernel_rfl) (by kernel_rfl))
        have r67 : b.tmps[67]?.getD undef = .bool true := hV 36 _ 67 rfl rfl (Pred.waits_near (by kernel_rfl) (by kernel_rfl))
        refine Pred.yields_call (f := 18) (args := #[.slice none 0 0]) ((Pred.wanted_at (g := 36) (d := 67) (f := true) rfl rfl r67).trans rfl) (by go_simp) ?_
        refine (rbytes_any _ _ _ [] _ (RS2.below hE (Nat.le_refl _)) (by omega)).mono ?_
        rintro e w9 ⟨v, he, hown, hb⟩
        obtain ⟨av, cv, rfl, h1, h2⟩ := owns_val hown
        exact ⟨_, he, Pred.ext_below hb hE.size, _, _, _, rfl, Reads.of_owns hown⟩
      · intro b X hE hd hn hV
        obtain ⟨ga72, n72, c72, r72, hr72⟩ : Rds [] (b.tmps[72]?.getD undef) X := hV 41 _ 72 rfl rfl (Pred.waits_near (by kernel_rfl) (by kernel_rfl))
        have r67 : b.tmps[67]?.getD undef = .bool true := hV 36 _ 67 rfl rfl (Pred.waits_near (by kernel_rfl) (by kernel_rfl))
        have hc := conv_reads (P := Try.prog) (src := 24) (dst := 9) (cap := c72) Try.underlying24 Try.underlying5 Try.underlying9 hr72 (fun z hz => by cases hz)
        exact Pred.yields_run (v := .string (bytesOf [])) ((Pred.wanted_at (g := 36) (d := 67) (f := true) rfl rfl r67).trans rfl) (by go_simp) ⟨Pred.ext_refl _ _, rfl⟩
      · intro b X hE hd hn hV
        have r70 : b.tmps[70]?.getD undef = .string (bytesOf []) := hV 39 _ 70 rfl rfl (Pred.waits_near (by kernel_rfl) (by kernel_rfl))
        have r73 : b.tmps[73]?.getD undef = .string (bytesOf []) := hV 42 _ 73 rfl rfl (Pred.waits_near (by kernel_rfl) (by kernel_rfl))
        have r67 : b.tmps[67]?.getD undef = .bool true := hV 36 _ 67 rfl rfl (Pred.waits_near (by kernel_rfl) (by kernel_rfl))
        exact Pred.yields_run (v := .bool true) ((Pred.wanted_at (g := 36) (d := 67) (f := true) rfl rfl r67).trans rfl) (by go_simp) ⟨Pred.ext_refl _ _, rfl⟩
      · intro b X hE hd hn hV
        have r67 : b.tmps[67]?.getD undef = .bool true := hV 36 _ 67 rfl rfl (Pred.waits_near (by kernel_rfl) (by kernel_rfl))
        have r74 : b.tmps[74]?.getD undef = .bool true := hV 43 _ 74 rfl rfl (Pred.waits_near (by kernel_rfl) (by kernel_rfl))
        exact Pred.yields_run (v := .bool true) (Pred.wanted_none rfl) (by go_simp) ⟨Pred.ext_refl _ _, rfl⟩
      · intro b X hE hd hn hV
        have r75 : b.tmps[75]?.getD undef = .bool true := hV 44 _ 75 rfl rfl (Pred.waits_near (by kernel_rfl) (by kernel_rfl))
        exact Pred.yields_run (v := .bool true) (Pred.wanted_none rfl) (by go_simp) ⟨Pred.ext_refl _ _, rfl⟩
      · intro b X hE hd hn hV
        have r76 : b.tmps[76]?.getD undef = .bool true := hV 45 _ 76 rfl rfl (Pred.waits_near (by kernel_rfl) (by kernel_rfl))
        refine Pred.yields_call (f := 8) (args := #[]) ((Pred.wanted_at (g := 45) (d := 76) (f := true) rfl rfl r76).trans rfl) (by go_simp) ?_
        exact (awake_any _).mono fun e w2 ⟨he, hb⟩ => ⟨_, he, Pred.ext_below hb hE.size, rfl⟩
      · intro b X hE hd hn hV
        have r76 : b.tmps[76]?.getD undef = .bool true := hV 45 _ 76 rfl rfl (Pred.waits_near (by kernel_rfl) (by kernel_rfl))
        have r77 : b.tmps[77]?.getD undef = .bool true := hV 46 _ 77 rfl rfl (Pred.waits_near (by kernel_rfl) (by kernel_rfl))
        exact Pred.yields_run (v := .bool true) (Pred.wanted_none rfl) (by go_simp) ⟨Pred.ext_refl _ _, rfl⟩
      · intro b X hE hd hn hV
        have r78 : b.tmps[78]?.getD undef = .bool true := hV 47 _ 78 rfl rfl (Pred.waits_near (by kernel_rfl) (by kernel_rfl))
        exact Pred.yields_run (v := .bool true) (Pred.wanted_none rfl) (by go_simp) ⟨Pred.ext_refl _ _, rfl⟩
    intro v X hE hv
    have e0 : v 0 = .agg #[.int .u8 a0_0, .int .u8 a0_1, .int .u8 a0_2, .int .u8 a0_3] := hv 0 _ 31 rfl rfl
    have e1 : v 1 = .agg #[.int .u8 a1_0, .int .u8 a1_1, .int .u8 a1_2, .int .u8 a1_3] := hv 1 _ 32 rfl rfl
    have e2 : v 2 = .int .i64 a4 := hv 2 _ 33 rfl rfl
    have e3 : v 3 = .agg #[.int .u8 (mixB (clamp a4) a0_0 a1_0), .int .u8 (mixB (clamp a4) a0_1 a1_1), .int .u8 (mixB (clamp a4) a0_2 a1_2), .int .u8 (mixB (clamp a4) a0_3 a1_3)] := hv 3 _ 34 rfl rfl
    have e4 : v 4 = .agg #[.int .u8 a0_0, .int .u8 a0_1, .int .u8 a0_2, .int .u8 a0_3] := hv 4 _ 35 rfl rfl
    have e5 : v 5 = .agg #[.int .u8 a1_0, .int .u8 a1_1, .int .u8 a1_2, .int .u8 a1_3] := hv 5 _ 36 rfl rfl
    have e6 : v 6 = .int .i64 a4 := hv 6 _ 37 rfl rfl
    have e7 : v 7 = .agg #[.int .u8 (mixB (clamp a4) a0_0 a1_0), .int .u8 (mixB (clamp a4) a0_1 a1_1), .int .u8 (mixB (clamp a4) a0_2 a1_2), .int .u8 (mixB (clamp a4) a0_3 a1_3)] := hv 7 _ 38 rfl rfl
    have e8 : v 8 = .bool true := hv 8 _ 39 rfl rfl
    have e9 : v 9 = .bool true := hv 9 _ 40 rfl rfl
    have e10 : v 10 = .agg #[.int .u8 a0_0, .int .u8 a0_1, .int .u8 a0_2, .int .u8 a0_3] := hv 10 _ 41 rfl rfl
    have e11 : v 11 = .agg #[.int .u8 a1_0, .int .u8 a1_1, .int .u8 a1_2, .int .u8 a1_3] := hv 11 _ 42 rfl rfl
    have e12 : v 12 = .agg #[.int .u8 a2_0, .int .u8 a2_1, .int .u8 a2_2, .int .u8 a2_3] := hv 12 _ 43 rfl rfl
    have e13 : v 13 = .agg #[.int .u8 a3_0, .int .u8 a3_1, .int .u8 a3_2, .int .u8 a3_3] := hv 13 _ 44 rfl rfl
    have e14 : v 14 = .agg #[.int .u8 (meanB a0_0 a1_0 a2_0 a3_0), .int .u8 (meanB a0_1 a1_1 a2_1 a3_1), .int .u8 (meanB a0_2 a1_2 a2_2 a3_2), .int .u8 (meanB a0_3 a1_3 a2_3 a3_3)] := hv 14 _ 45 rfl rfl
    have e15 : v 15 = .agg #[.int .u8 a0_0, .int .u8 a0_1, .int .u8 a0_2, .int .u8 a0_3] := hv 15 _ 46 rfl rfl
    have e16 : v 16 = .agg #[.int .u8 a1_0, .int .u8 a1_1, .int .u8 a1_2, .int .u8 a1_3] := hv 16 _ 47 rfl rfl
    have e17 : v 17 = .agg #[.int .u8 a2_0, .int .u8 a2_1, .int .u8 a2_2, .int .u8 a2_3] := hv 17 _ 48 rfl rfl
    have e18 : v 18 = .agg #[.int .u8 a3_0, .int .u8 a3_1, .int .u8 a3_2, .int .u8 a3_3] := hv 18 _ 49 rfl rfl
    have e19 : v 19 = .agg #[.int .u8 (meanB a0_0 a1_0 a2_0 a3_0), .int .u8 (meanB a0_1 a1_1 a2_1 a3_1), .int .u8 (meanB a0_2 a1_2 a2_2 a3_2), .int .u8 (meanB a0_3 a1_3 a2_3 a3_3)] := hv 19 _ 50 rfl rfl
    have e20 : v 20 = .bool true := hv 20 _ 51 rfl rfl
    have e21 : v 21 = .bool true := hv 21 _ 52 rfl rfl
    have e22 : v 22 = .bool true := hv 22 _ 53 rfl rfl
    have e23 : v 23 = .agg #[.int .u8 a0_0, .int .u8 a0_1, .int .u8 a0_2, .int .u8 a0_3] := hv 23 _ 54 rfl rfl
    have e24 : v 24 = .agg #[.int .u8 a1_0, .int .u8 a1_1, .int .u8 a1_2, .int .u8 a1_3] := hv 24 _ 55 rfl rfl
    have e25 : v 25 = .agg #[.int .u8 (timesB a0_0 a1_0), .int .u8 (timesB a0_1 a1_1), .int .u8 (timesB a0_2 a1_2), .int .u8 (timesB a0_3 a1_3)] := hv 25 _ 56 rfl rfl
    have e26 : v 26 = .agg #[.int .u8 a0_0, .int .u8 a0_1, .int .u8 a0_2, .int .u8 a0_3] := hv 26 _ 57 rfl rfl
    have e27 : v 27 = .agg #[.int .u8 a1_0, .int .u8 a1_1, .int .u8 a1_2, .int .u8 a1_3] := hv 27 _ 58 rfl rfl
    have e28 : v 28 = .agg #[.int .u8 (timesB a0_0 a1_0), .int .u8 (timesB a0_1 a1_1), .int .u8 (timesB a0_2 a1_2), .int .u8 (timesB a0_3 a1_3)] := hv 28 _ 59 rfl rfl
    have e29 : v 29 = .bool true := hv 29 _ 60 rfl rfl
    have e30 : v 30 = .bool true := hv 30 _ 61 rfl rfl
    have e31 : v 31 = .bool true := hv 31 _ 62 rfl rfl
    have e32 : v 32 = .bool false := hv 32 _ 63 rfl rfl
    have e33 : v 33 = .bool false := hv 33 _ 64 rfl rfl
    have e34 : v 34 = .bool true := hv 34 _ 65 rfl rfl
    have e35 : v 35 = .bool true := hv 35 _ 66 rfl rfl
    have e36 : v 36 = .bool true := hv 36 _ 67 rfl rfl
    have e37 : v 37 = .slice none 0 0 := hv 37 _ 68 rfl rfl
    obtain ⟨ga38, n38, c38, e38, hr38⟩ : Rds [] (v 38) X := hv 38 _ 69 rfl rfl
    have e39 : v 39 = .string (bytesOf []) := hv 39 _ 70 rfl rfl
    have e40 : v 40 = .slice none 0 0 := hv 40 _ 71 rfl rfl
    obtain ⟨ga41, n41, c41, e41, hr41⟩ : Rds [] (v 41) X := hv 41 _ 72 rfl rfl
    have e42 : v 42 = .string (bytesOf []) := hv 42 _ 73 rfl rfl
    have e43 : v 43 = .bool true := hv 43 _ 74 rfl rfl
    have e44 : v 44 = .bool true := hv 44 _ 75 rfl rfl
    have e45 : v 45 = .bool true := hv 45 _ 76 rfl rfl
    have e46 : v 46 = .bool true := hv 46 _ 77 rfl rfl
    have e47 : v 47 = .bool true := hv 47 _ 78 rfl rfl
    have e48 : v 48 = .bool true := hv 48 _ 12 rfl rfl
    simp only [Pred.putsF_cons, Pred.putsF_nil, Nat.zero_add, Nat.reduceAdd, e0, e1, e2, e3, e4, e5, e6, e7, e8, e9, e10, e11, e12, e13, e14, e15, e16, e17, e18, e19, e20, e21, e22, e23, e24, e25, e26, e27, e28, e29, e30, e31, e32, e33, e34, e35, e36, e37, e38, e39, e40, e41, e42, e43, e44, e45, e46, e47, e48, Act.put, List.setIfInBounds_toArray, List.set_cons_zero, List.set_cons_succ]
    clear e0 e1 e2 e3 e4 e5 e6 e7 e8 e9 e10 e11 e12 e13 e14 e15 e16 e17 e18 e19 e20 e21 e22 e23 e24 e25 e26 e27 e28 e29 e30 e31 e32 e33 e34 e35 e36 e37 e38 e39 e40 e41 e42 e43 e44 e45 e46 e47 e48 hv
    go_wp2
    go_ret
    exact ⟨rfl, LW.trans (hE.mono LW.size)⟩
set_option maxHeartbeats 8000000 in
theorem HueTells_walk (a0_0 : Int) (a0_1 : Int) (a0_2 : Int) (a0_3 : Int) (a1_0 : Int) (a1_1 : Int) (a1_2 : Int) (a1_3 : Int) (a2_0 : Int) (a2_1 : Int) (a2_2 : Int) (a2_3 : Int) (a3_0 : Int) (a3_1 : Int) (a3_2 : Int) (a3_3 : Int) (a4 : Int) (a5 : Option Addr) (len5 cap5 : Nat) (x5 : List (List Value)) (w : World) (w0_0 : (Lit.int .u8 a0_0).wf = true) (w0_1 : (Lit.int .u8 a0_1).wf = true) (w0_2 : (Lit.int .u8 a0_2).wf = true) (w0_3 : (Lit.int .u8 a0_3).wf = true) (w1_0 : (Lit.int .u8 a1_0).wf = true) (w1_1 : (Lit.int .u8 a1_1).wf = true) (w1_2 : (Lit.int .u8 a1_2).wf = true) (w1_3 : (Lit.int .u8 a1_3).wf = true) (w2_0 : (Lit.int .u8 a2_0).wf = true) (w2_1 : (Lit.int .u8 a2_1).wf = true) (w2_2 : (Lit.int .u8 a2_2).wf = true) (w2_3 : (Lit.int .u8 a2_3).wf = true) (w3_0 : (Lit.int .u8 a3_0).wf = true) (w3_1 : (Lit.int .u8 a3_1).wf = true) (w3_2 : (Lit.int .u8 a3_2).wf = true) (w3_3 : (Lit.int .u8 a3_3).wf = true) (w4 : (Lit.int .i64 a4).wf = true) (w5 : Flat.IsRows [some .u8] w a5 len5 cap5 x5) :
    Calls Try.prog 3 #[.agg #[.int .u8 a0_0, .int .u8 a0_1, .int .u8 a0_2, .int .u8 a0_3], .agg #[.int .u8 a1_0, .int .u8 a1_1, .int .u8 a1_2, .int .u8 a1_3], .agg #[.int .u8 a2_0, .int .u8 a2_1, .int .u8 a2_2, .int .u8 a2_3], .agg #[.int .u8 a3_0, .int .u8 a3_1, .int .u8 a3_2, .int .u8 a3_3], .int .i64 a4, .slice a5 len5 cap5] w fun e w' => e = .returned (.bool true) ∧ Below w.heap.size w w' := by
  have p0_0 := bounds_u8 w0_0
  have p0_1 := bounds_u8 w0_1
  have p0_2 := bounds_u8 w0_2
  have p0_3 := bounds_u8 w0_3
  have p1_0 := bounds_u8 w1_0
  have p1_1 := bounds_u8 w1_1
  have p1_2 := bounds_u8 w1_2
  have p1_3 := bounds_u8 w1_3
  have p2_0 := bounds_u8 w2_0
  have p2_1 := bounds_u8 w2_1
  have p2_2 := bounds_u8 w2_2
  have p2_3 := bounds_u8 w2_3
  have p3_0 := bounds_u8 w3_0
  have p3_1 := bounds_u8 w3_1
  have p3_2 := bounds_u8 w3_2
  have p3_3 := bounds_u8 w3_3
  clear w0_0 w0_1 w0_2 w0_3 w1_0 w1_1 w1_2 w1_3 w2_0 w2_1 w2_2 w2_3 w3_0 w3_1 w3_2 w3_3
  obtain ⟨zs, hzl, hz, hR, hlc, hcm, hcase⟩ := Bytes.rows_bytes w5
  clear w5 hcase
  by_cases hbig : 200 < len5
  · have hbig2 : (200 : Int) < (len5 : Int) := by omega
    clear hzl
    go_enter Try.func3, Try.ntmps3
    go_wp2_with (go_at_call 8; refine (awake_any _).mono ?_; rintro e w3 ⟨rfl, hb⟩; have hs := hb.size; try simp only [World.size_alloc] at hs)
    go_ret
    exact ⟨rfl, by repeat' (first | (with_reducible exact Below.refl _ _) | (with_reducible refine Rd.below_step ?_ (by assumption)) | (with_reducible refine Rd.below_alloc ?_ _) | (with_reducible refine Rd.below_drewN ?_ _) | (with_reducible refine Below.drew ?_) | (with_reducible refine Below.setCell ?_ ?_ _) | (with_reducible refine Rd.below_setRow ?_ ?_ _) | go_size | (simp only [World.size_alloc]; omega) | omega)⟩
  have hsm : ¬ (200 : Int) < (len5 : Int) := by omega
  by_cases hm : len5 % 4 = 0
  · exact HueTells_yes a0_0 a0_1 a0_2 a0_3 a1_0 a1_1 a1_2 a1_3 a2_0 a2_1 a2_2 a2_3 a3_0 a3_1 a3_2 a3_3 a4 a5 len5 cap5 x5 w p0_0 p0_1 p0_2 p0_3 p1_0 p1_1 p1_2 p1_3 p2_0 p2_1 p2_2 p2_3 p3_0 p3_1 p3_2 p3_3 w4 zs hzl hz hR hlc hcm hsm hm
  · exact HueTells_no a0_0 a0_1 a0_2 a0_3 a1_0 a1_1 a1_2 a1_3 a2_0 a2_1 a2_2 a2_3 a3_0 a3_1 a3_2 a3_3 a4 a5 len5 cap5 x5 w p0_0 p0_1 p0_2 p0_3 p1_0 p1_1 p1_2 p1_3 p2_0 p2_1 p2_2 p2_3 p3_0 p3_1 p3_2 p3_3 w4 zs hzl hz hR hlc hcm hsm hm
end Go.Proofs.Ythlgokaehkifkaa.HueH

/-
  Which spots may be.
-/
import Derived.Test.YtjbmochndpdolaaTriF
import Derived.BigGuardPart
import Derived.BigCall
namespace Go.Proofs.Ytjbmochndpdolaa.TriG
open Go.RowKit FixA Num Rd Go.Proofs.Ytjbmochndpdolaa.Row TriA TriB TriC TriD TriE
set_option linter.unusedVariables false
set_option linter.unusedSimpArgs false
set_option maxRecDepth 10000
attribute [local go_sem ↓] load_tri store_tri load_w3 store_w3 load_spot load_pl store_pl
attribute [local go_sem] one_int one_bool run_load_pl run_store_pl run_load_spot run_load_tri run_load_w3 run_store_tri run_store_w3 rowLoad_eq rowStore_eq midLoad_eq ext0 ext1 ext2 blk_alloc_at blk_alloc_old blk_drew blk_drewN blk_set_far blk_set_far' blk_grow setRow_alloc_at setRow_alloc_old setRow_drew setRow_drewN

def SpAt (t : List Int) (k : Nat) : Prop := Sp (g t (k * 6)) (g t (k * 6 + 1)) (g t (k * 6 + 2)) (g t (k * 6 + 3)) (g t (k * 6 + 4)) (g t (k * 6 + 5))
theorem tri_of {t : List Int} (hl : t.length = 18) (h : ∀ j, j < 3 → SpAt t j) : Tri t := ⟨hl, h 0 (by omega), h 1 (by omega), h 2 (by omega)⟩
theorem spat_step {t : List Int} {k : Nat} (h : ∀ j, j < k → SpAt t j) (h2 : SpAt t k) : ∀ j, j < k + 1 → SpAt t j := by
  intro j hj
  by_cases e : j = k
  · subst e; exact h2
  · exact h j (by omega)
set_option maxHeartbeats 4000000 in
theorem may_any (t : List Int) (hl : t.length = 18) (hw : ∀ x ∈ t, (Lit.int .i64 x).wf = true) (w : World) :
    Calls Try.prog 8 #[.agg (cs .i64 t)] w fun e w' => (e = .returned (.bool false) ∨ e = .returned (.bool true) ∧ Tri t ∧ 1 ≤ area t) ∧ Below w.heap.size w w' := by
  go_enter Try.func8, Try.ntmps8
  go_wp2_with fail
  go_loopw [3] (fun i wr => ∃ k : Nat, k ≤ 3 ∧ i = .int .i64 k ∧ Hid (∀ j, j < k → SpAt t j) ∧ Below w.heap.size w wr ∧ blk wr w.heap.size = some (.cells (cs .i64 t) 24 (0, 0))) (fun i _ => 3 - (intOf i).toNat)
  case atStart => exact ⟨0, by omega, rfl, fun j hj => absurd hj (by omega), by repeat' (first | (with_reducible exact Below.refl _ _) | (with_reducible refine Rd.below_step ?_ (by assumption)) | (with_reducible refine Rd.below_alloc ?_ _) | (with_reducible refine Rd.below_drewN ?_ _) | (with_reducible refine Below.drew ?_) | (with_reducible refine Below.setCell ?_ ?_ _) | (with_reducible refine Rd.below_setRow ?_ ?_ _) | go_size | (simp only [World.size_alloc]; omega) | omega), heap_alloc_new w _⟩
  case round =>
    obtain ⟨k, hk, rfl, HT, hb, HB⟩ := hrel
    by_cases hlt : k < 3
    · have x0 : wr.cell? ⟨w.heap.size, k * 6, none⟩ = some (.int .i64 (g t (k * 6))) := by rw [blk_cell HB]; exact cs_at (at_of (l := t) (by omega))
      have x1 : wr.cell? ⟨w.heap.size, k * 6 + 1, none⟩ = some (.int .i64 (g t (k * 6 + 1))) := by rw [blk_cell HB]; exact cs_at (at_of (l := t) (by omega))
      have x2 : wr.cell? ⟨w.heap.size, k * 6 + 2, none⟩ = some (.int .i64 (g t (k * 6 + 2))) := by rw [blk_cell HB]; exact cs_at (at_of (l := t) (by omega))
      have x3 : wr.cell? ⟨w.heap.size, k * 6 + 3, none⟩ = some (.int .i64 (g t (k * 6 + 3))) := by rw [blk_cell HB]; exact cs_at (at_of (l := t) (by omega))
      have x4 : wr.cell? ⟨w.heap.size, k * 6 + 4, none⟩ = some (.int .i64 (g t (k * 6 + 4))) := by rw [blk_cell HB]; exact cs_at (at_of (l := t) (by omega))
      have x5 : wr.cell? ⟨w.heap.size, k * 6 + 5, none⟩ = some (.int .i64 (g t (k * 6 + 5))) := by rw [blk_cell HB]; exact cs_at (at_of (l := t) (by omega))
      have HB' := Lib.hid HB
      clear HB
      simp only [List.append_eq, List.cons_append, List.nil_append]
      go_wp2
      all_goals first | (go_ret; exact ⟨Or.inl rfl, hb⟩) | exact ⟨⟨k + 1, by omega, by go_num, Lib.hid (spat_step HT.out ⟨by omega, by omega, by omega, by omega, by omega, by omega, by omega, by omega, by omega, by omega, by omega, by omega⟩), hb, HB'.out⟩, by simp [intOf]; omega⟩
    · obtain rfl : k = 3 := by omega
      have ht := tri_of hl HT.out
      clear HT
      go_wp2_with fail
      refine (rarea_any t ht _).mono ?_
      rintro e w2 ⟨rfl, hb2⟩
      have L2 : Below w.heap.size w w2 := Rd.below_step hb hb2
      by_cases h1 : 0 < area t
      · go_wp2
        go_ret
        exact ⟨Or.inr ⟨rfl, ht, by omega⟩, L2⟩
      · go_wp2
        go_ret
        exact ⟨Or.inl (by show Ending.returned (.bool (decide (0 < area t))) = _; rw [decide_eq_false (by omega)]), L2⟩
end Go.Proofs.Ytjbmochndpdolaa.TriG

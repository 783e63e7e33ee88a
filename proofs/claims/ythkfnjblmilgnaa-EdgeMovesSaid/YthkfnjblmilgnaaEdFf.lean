/-
  All covered pixels, in a block of their own.
-/
import Derived.Test.YthkfnjblmilgnaaEdI
import Derived.RangeFuncBox
import Derived.Maps.OwnIn
namespace Go.Proofs.Ythkfnjblmilgnaa.EdFf
open Go.RowKit Go.Shelf Rd Go.Proofs.Ythkfnjblmilgnaa.Row Mid EdM EdA EdB EdD EdF EdI It
set_option linter.unusedVariables false
set_option linter.unusedSimpArgs false
set_option maxRecDepth 10000
attribute [local go_sem] Oper.semAt_some
attribute [local go_sem ↓] load_tri store_tri load_hit store_hit
attribute [local go_sem] one_int pc5 run_load_tri run_store_tri run_load_hit run_store_hit midLoad_eq rowLoad_eq rowStore_eq blk_alloc_at blk_alloc_old blk_drew blk_drewN blk_set_far blk_set_far' blk_grow setRow_alloc_at setRow_alloc_old setRow_drew setRow_drewN
attribute [local go_sem ↓] nil_iter
theorem all_leaves2 {w Z : World} {T : List Int} {fw fh most : Int} {q : HRow} {ad : Option Addr} {cap D : Nat} (h : AllEnd w q Z) (c5 : Z.cell? ⟨w.heap.size + 2, 0, none⟩ = some (.slice ad q.length cap)) (hm : cutV T fw fh most = q) (hD : w.heap.size + 6 ≤ D) {fn : Func} (hf : fn.results = #[.tmp 8]) (hdef : Z.heap[D]? = some (.deferred (some [])))
    (tmps : Array Value) (h4 : tmps.getD 8 undef = .slice ad q.length cap) :
    LeavesInM Fence.wide 0 Try.prog fn tmps (fun e w' => (∃ ad' c', e = .returned (.slice ad' (cutV T fw fh most).length c') ∧ HitAt w' ad' (cutV T fw fh most) ∧ ∀ b o, ad' = some ⟨b, o, none⟩ → w.heap.size ≤ b) ∧ Below w.heap.size w w') [mk D] .returning Z := by
  have h3 : ∀ v ∈ cutV T fw fh most, v.length = 5 := by
    intro v hv
    unfold cutV at hv
    split at hv
    · exact pix_five v (List.mem_of_mem_take hv)
    · exact pix_five v hv
  refine leaves_marks (Ds := [D]) (B := w.heap.size + 6) (fun Y => AllEnd w q Y ∧ Boxed Y (w.heap.size + 2) 38 (.slice ad q.length cap)) (fun E Y hE hY he => ?_) (fun Y hY => ?_) (by simp) Z ⟨h, ?_⟩ fun E hp => ?_
  · refine ⟨hY.1.grown (grownBy_putObj' _ _ _) fun r e => by injection e with e; subst e; exact ⟨hE, _, he, rfl⟩, hY.2.kept (grownBy_putObj' _ _ _) fun e => by injection e with e; omega⟩
  · obtain ⟨v, hv, ow⟩ := hY.1.row
    have : v = .slice ad q.length cap := by
      have := (show Y.heap[w.heap.size + 2]? = _ from hv).symm.trans hY.2
      simpa using this
    subst this
    refine ⟨_, results_tmp hf tmps _ _, ⟨ad, cap, by rw [h4, hm], ?_, fun b o e => ?_⟩, hY.1.below⟩
    · rw [hm] at h3 ⊢
      exact (hitAt_owns ow h3).2
    · subst e
      rcases ow.2 with ⟨h1, -⟩ | ⟨g, cap', cur, h1, hb, -⟩
      · cases h1
      · injection h1 with h1
        injection h1 with h1
        injection h1 with h1
        omega
  · obtain ⟨v, hv, ow⟩ := h.row
    have := hv.cell.symm.trans c5
    injection this with this
    rw [← this]
    exact hv
  · obtain rfl : E = D := by simpa using hp
    exact ⟨hD, hdef⟩
set_option maxHeartbeats 4000000 in
theorem lall_fresh (T : List Int) (hT : Tri T) (fw fh most : Int) (w : World) :
    Calls Try.prog 18 #[.agg (cs .i64 T), .int .i64 fw, .int .i64 fh, .int .i64 most] w fun e w' => (∃ ad' c', e = .returned (.slice ad' (cutV T fw fh most).length c') ∧ HitAt w' ad' (cutV T fw fh most) ∧ ∀ b o, ad' = some ⟨b, o, none⟩ → w.heap.size ≤ b) ∧ Below w.heap.size w w' := by
  refine callsIn_wide.1 (callsIn_of_wp_marks (F := Fence.wide) (n := 0) Try.func18 rfl trivial ?_ rfl)
  simp only [Try.ntmps18, List.size_toArray, List.length_cons, List.length_nil, Nat.reduceAdd, Nat.reduceSub, Array.replicate_succ, Array.replicate_zero, List.push_toArray, List.append_toArray, List.nil_append, List.cons_append]
  have hl := hT.len
  gi_wp2_with fail
  refine ⟨trivial, rfl, (callsIn_wide.2 (pix_any T fw fh _)).mono ?_⟩
  rintro e W1 ⟨rfl, hW1⟩
  have R0 : AllRun w T fw fh most [] W1 := by rw [hW1]; exact all_start w T fw fh most
  have hs1 : W1.heap.size = w.heap.size + 6 := by rw [hW1]; simp
  have HR0 := Lib.hid R0
  clear hW1 R0
  gi_wp2_with fail
  simp only [Nat.add_assoc, Nat.reduceAdd]
  refine range_seq (gf := 23) (lb := #[.pointer (some ⟨w.heap.size + 3, 0, none⟩), .pointer (some ⟨w.heap.size + 4, 0, none⟩), .pointer (some ⟨w.heap.size + 5, 0, none⟩)]) rfl enters_pix (pix_seq T hT fw fh (w.heap.size + 3) (w.heap.size + 4) (w.heap.size + 5)) (fun _ => rfl)
    (fun pre Z => AllRun w T fw fh most pre Z)
    (fun c pre Z => c = .exit 0 ∧ ∃ q x, pre = q ++ [x] ∧ (q.length : Int) = most ∧ AllEnd w q Z)
    (fun _ Z k => AllOwn w Z k) ?hI ?hIx (all_mine w T fw fh most _ (by omega)) (fun _ _ h => h.b) HR0.out ?round ?done ?stop
  case hI => exact fun s X Y row h hg hr => h.grown hg fun r e => ⟨by have := (hr r e).1; omega, (hr r e).2⟩
  case hIx => exact fun c s X Y row ⟨h1, q, x, h2, h3, h4⟩ hg hr => ⟨h1, q, x, h2, h3, h4.grown hg fun r e => ⟨by have := (hr r e).1; omega, (hr r e).2⟩⟩
  case round =>
    intro l' pre x Z hl' hrec hI hpre
    obtain ⟨x0, x1, x2, x3, x4, rfl⟩ := len5 (pix_five x (pre_mem hpre))
    have HI := Lib.hid hI
    have hsm : pre.length < 1025 := by
      have h1 := hpre.length_le
      have h2 := pix_small T fw fh
      simp only [List.length_append, List.length_singleton] at h1
      omega
    have HPR := Lib.hid hpre
    obtain ⟨rr, hrr⟩ := hrec
    have hlz := get_lt hrr
    have HRR := Lib.hid hrr
    clear hI hpre hrr
    simp only [encH, cs, List.map_cons, List.map_nil]
    gi_wp2_with fail
    refine ⟨World.grownBy_alloc _ _ none, fun X2 hg hI2 hl2 => ?_⟩
    have c2 : blk X2 Z.heap.size = some (.cells #[.int .i64 x0, .int .i64 x1, .int .i64 x2, .int .i64 x3, .int .i64 x4] 31 (0, 0)) := (hg.block _ (by simp) (fun e => by injection e with e; omega)).trans (World.alloc_heap_new _ _)
    have HI2 := Lib.hid hI2
    have c4 : X2.cell? ⟨w.heap.size + 1, 0, none⟩ = some (.int .i64 most) := by rw [blk_cell hI2.k]; rfl
    obtain ⟨v, hv, ow⟩ := hI2.fin.row
    obtain ⟨ad, cap, rfl, _⟩ := owns_val ow
    have c5 := hv.cell
    have HV := Lib.hid hv
    have OW := Lib.hid ow
    have hsz2 : w.heap.size + 6 ≤ X2.heap.size := hI2.fin.size
    clear hg hI2 hl2 hv ow
    by_cases hke : (pre.length : Int) = most
    · gi_wp2_with fail
      exact ⟨Hold.refl _ _ _, rfl, pre, [x0, x1, x2, x3, x4], rfl, hke, HI2.out.fin⟩
    · gi_wp2_with (gi_at_builtin; refine app_hitIn rfl (.tmp 24) (.tmp 26) rfl (w.heap.size + 2) _ _ _ rfl (OW.out.alloc _) X2.heap.size 1 [x0, x1, x2, x3, x4] rfl rfl (blk_alloc_at _ _ _ rfl) (by omega) (by simp; omega) ?_; intro v4 w4 ho4 hg4 hb4; obtain ⟨g4, cap4, rfl⟩ := ownsRow_succ ho4; have AP := Lib.hid (HV.out.appended (show (38 : Nat) ≠ 31 by decide) OW.out (by omega) (by omega) ho4 hg4); have b4 := AP.out.1.cell; have f4 := AP.out.1.frozen; have HG4 := Lib.hid hg4; have HB4 := Lib.hid hb4; clear ho4 hg4 hb4)
      exact all_step HI2.out HV.out OW.out HG4.out AP.out.2.1 AP.out.2.2.1 AP.out.2.2.2.2 HB4.out hke (by omega) _
  case done =>
    intro D Z hD hI hdef
    have HI := Lib.hid hI
    have hm := cut_not hI.not
    obtain ⟨v, hv, ow⟩ := hI.fin.row
    obtain ⟨ad, cap, rfl, _⟩ := owns_val ow
    have c5 := hv.cell
    clear hI hv ow
    gi_wp2_with fail
    exact all_leaves2 HI.out.fin c5 hm (by omega) rfl hdef _ rfl
  case stop =>
    intro D c pre Z hD hpre hx hdef
    obtain ⟨rfl, q, x, rfl, hq, hx⟩ := hx
    have HI := Lib.hid hx
    have hm := cut_at hpre hq
    obtain ⟨v, hv, ow⟩ := hx.row
    obtain ⟨ad, cap, rfl, _⟩ := owns_val ow
    have c5 := hv.cell
    clear hx hv ow
    gi_wp2_with fail
    exact all_leaves2 HI.out c5 hm (by omega) rfl hdef _ rfl
theorem all32f (t : List Int) (h : Tri t) (fw fh : Int) (w : World) : Calls Try.prog 18 #[.agg (cs .i64 t), .int .i64 fw, .int .i64 fh, .int .i64 (-1)] w fun e w' => (∃ a c, e = .returned (.slice a (pixV t fw fh).length c) ∧ HitAt w' a (pixV t fw fh) ∧ ∀ b o, a = some ⟨b, o, none⟩ → w.heap.size ≤ b) ∧ Below w.heap.size w w' := by
  have := lall_fresh t h fw fh (-1) w
  rw [cut_all] at this
  exact this
/-- a slice that reads as these pixels, laid from B on -/
def SF (B n : Nat) (r : HRow) : Value → World → Prop := fun v X => ∃ a c, v = .slice a n c ∧ HitAt X a r ∧ ∀ b o, a = some ⟨b, o, none⟩ → B ≤ b
theorem sf_stab (B n : Nat) (r : HRow) : Pred.Stab (SF B n r) := by
  intro v w w' B' ⟨a, c, h1, h2, h3⟩ hb
  exact ⟨a, c, h1, EdG.hit_ext hb h2, h3⟩
end Go.Proofs.Ythkfnjblmilgnaa.EdFf

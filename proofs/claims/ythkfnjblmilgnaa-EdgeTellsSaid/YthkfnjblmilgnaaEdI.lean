/-
  What the walks of the laws of edge share.
-/
import Derived.Test.YthkfnjblmilgnaaEdG
import Derived.Test.YthkfnjblmilgnaaEdN
import Derived.BigGuard
import Derived.IntWalk
namespace Go.Proofs.Ythkfnjblmilgnaa.EdI
open Go.RowKit FixA Num Rd Go.Proofs.Ythkfnjblmilgnaa.Row Mid EdM EdA EdB EdF EdE EdG EdN
open Go.Proofs.Ythkfnjblmilgnaa.Pred (Is is_stab Stab)
set_option linter.unusedVariables false
set_option linter.unusedSimpArgs false
set_option maxRecDepth 10000
theorem exec_build_tri {o : Oper} {b : Act} {w : World} (x y z : Tmp) (ho : o.op = .build 24 #[(0, .tmp x), (1, .tmp y), (2, .tmp z)]) (p q r : List Int)
    (hx : b.tmps[x]?.getD undef = .agg (cs .i64 p)) (hy : b.tmps[y]?.getD undef = .agg (cs .i64 q)) (hz : b.tmps[z]?.getD undef = .agg (cs .i64 r)) (lp : p.length = 6) (lq : q.length = 6) (lr : r.length = 6) :
    (execOp b.eval o).run Try.prog w = .ok (.value (.agg (cs .i64 (p ++ q ++ r)))) w := by
  have ex : b.eval (.tmp x) = .agg (cs .i64 p) := by simpa [Act.eval] using hx
  have ey : b.eval (.tmp y) = .agg (cs .i64 q) := by simpa [Act.eval] using hy
  have ez : b.eval (.tmp z) = .agg (cs .i64 r) := by simpa [Act.eval] using hz
  have e : Try.prog.built 24 ((#[(0, .tmp x), (1, .tmp y), (2, .tmp z)] : Array (Nat × Operand)).map fun (i, x) => (i, b.eval x)).toList = some (cs .i64 (p ++ q ++ r)) := by
    simp only [List.map_toArray, List.map_cons, List.map_nil, ex, ey, ez]
    exact built_tri p q r lp lq lr
  unfold execOp
  simp only [ho, Sem.run_bind, run_build w _ _ _ e, Result.andThen_ok]
  rfl
theorem cut_all (t : List Int) (w h : Int) : cutV t w h (-1) = pixV t w h := cut_not fun i hi => by omega
theorem all32 (t : List Int) (h : Tri t) (fw fh : Int) (w : World) : Calls Try.prog 18 #[.agg (cs .i64 t), .int .i64 fw, .int .i64 fh, .int .i64 (-1)] w fun e w' => (∃ a c, e = .returned (.slice a (pixV t fw fh).length c) ∧ HitAt w' a (pixV t fw fh)) ∧ Below w.heap.size w w' := by
  have := lall_any t h fw fh (-1) w
  rw [cut_all] at this
  exact this
theorem hit_some {X : World} {ad : Option Addr} {row : HRow} (h : HitAt X ad row) (hn : row.length ≠ 0) : ∃ b o, ad = some ⟨b, o, none⟩ ∧ b < X.heap.size ∧ ∀ i, i < row.length → ∀ j, j < 5 → X.cell? ⟨b, o + i * 5 + j, none⟩ = some (.int .i64 (EdM.g (at_ row i) j)) := by
  rcases h.2 with h | h
  · rw [h] at hn; exact absurd rfl hn
  · exact h
theorem hit_five_at {W X : World} {b o B k : Nat} {row : HRow} (hc : ∀ i, i < row.length → ∀ j, j < 5 → W.cell? ⟨b, o + i * 5 + j, none⟩ = some (.int .i64 (EdM.g (at_ row i) j))) (hb : Below B W X) (hB : b < B) (hk : k < row.length) {x0 x1 x2 x3 x4 : Int} (e : at_ row k = [x0, x1, x2, x3, x4]) :
    X.cell? ⟨b, o + k * 5, none⟩ = some (.int .i64 x0) ∧ X.cell? ⟨b, o + k * 5 + 1, none⟩ = some (.int .i64 x1) ∧ X.cell? ⟨b, o + k * 5 + 2, none⟩ = some (.int .i64 x2) ∧ X.cell? ⟨b, o + k * 5 + 3, none⟩ = some (.int .i64 x3) ∧ X.cell? ⟨b, o + k * 5 + 4, none⟩ = some (.int .i64 x4) := by
  have H : ∀ j, j < 5 → X.cell? ⟨b, o + k * 5 + j, none⟩ = some (.int .i64 (EdM.g (at_ row k) j)) := fun j hj => (hb.cell (p := ⟨b, o + k * 5 + j, none⟩) hB).trans (hc k hk j hj)
  rw [e] at H
  exact ⟨H 0 (by omega), H 1 (by omega), H 2 (by omega), H 3 (by omega), H 4 (by omega)⟩
theorem pix_at {t : List Int} {w h : Int} {k : Nat} (hk : k < (frameC t w h).length) : at_ (pixV t w h) k = hitL (turnedV t) (frameC t w h)[k].1 (frameC t w h)[k].2 := by
  rw [at_eq (by rw [pix_len]; exact hk)]
  simp only [pix_map, List.getElem_map]
theorem sums_order {t : List Int} {k : Nat} {ax ay a2 a3 a4 px py b2 b3 b4 : Int} (hk : k + 1 < (frameC t 32 32).length) (e1 : at_ (pixV t 32 32) k = [ax, ay, a2, a3, a4]) (e2 : at_ (pixV t 32 32) (k + 1) = [px, py, b2, b3, b4]) : 32 * ay + ax < 32 * py + px := by
  have hs := List.pairwise_iff_getElem.1 (frameC_sorted t 32 32) k (k + 1) (by omega) hk (by omega)
  rw [pix_at (by omega)] at e1
  rw [pix_at hk] at e2
  unfold hitL at e1 e2
  injection e1 with u1 e1
  injection e1 with u2 e1
  injection e2 with v1 e2
  injection e2 with v2 e2
  unfold keyP at hs
  omega
theorem sums_at {t : List Int} (h : Tri t) {a M : Int} (ea : area t = a) (eM : max a (-a) = M) {k : Nat} (hk : k < (frameC t 32 32).length) :
    ∃ px py e0 e1 e2 f0 f1 f2 : Int, (0 ≤ px ∧ px < 32) ∧ (0 ≤ py ∧ py < 32) ∧ ((-1800000000 ≤ e0 ∧ e0 ≤ 1800000000) ∧ (-1800000000 ≤ e1 ∧ e1 ≤ 1800000000) ∧ (-1800000000 ≤ e2 ∧ e2 ≤ 1800000000) ∧ e0 + e1 + e2 = M) ∧
      at_ (pixV t 32 32) k = [px, py, e0, e1, e2] ∧ at_ (pixV (rotL t) 32 32) k = [px, py, f0, f1, f2] := by
  have hm := frameC_mem (List.getElem_mem hk)
  obtain ⟨i, j, e, -, -, hi, hj⟩ := frame_mem hm.1
  have e1 : (frameC t 32 32)[k].1 = (i : Int) := by rw [e]
  have e2 : (frameC t 32 32)[k].2 = (j : Int) := by rw [e]
  have hT := (h.turned hm.2.1).1
  have b1 := mid_pt (p := (i : Int)) (by omega) (by omega)
  have b2 := mid_pt (p := (j : Int)) (by omega) (by omega)
  refine ⟨i, j, _, _, _, ed0 (turnedV (rotL t)) (mid i) (mid j), ed1 (turnedV (rotL t)) (mid i) (mid j), ed2 (turnedV (rotL t)) (mid i) (mid j), ⟨by omega, by omega⟩, ⟨by omega, by omega⟩, ⟨EdA.Tri.ed0_bd hT b1 b2, EdA.Tri.ed1_bd hT b1 b2, EdA.Tri.ed2_bd hT b1 b2, ?_⟩, ?_, ?_⟩
  · rw [ed_sum, area_turned h.len hm.2.1, ea, eM]
  · rw [pix_at hk, e1, e2]
    rfl
  · have hk2 : k < (frameC (rotL t) 32 32).length := by rw [frameC_rot h.len]; exact hk
    rw [pix_at hk2]
    have e3 : (frameC (rotL t) 32 32)[k] = (frameC t 32 32)[k] := by simp only [frameC_rot h.len]
    rw [e3, e1, e2]
    rfl
end Go.Proofs.Ythkfnjblmilgnaa.EdI

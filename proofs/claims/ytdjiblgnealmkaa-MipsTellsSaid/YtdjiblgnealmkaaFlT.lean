/-
  A texture that came in by value: a number, a bool and a slice of colours.
-/
import Derived.Test.YtdjiblgnealmkaaFlat
namespace Go.Proofs.Ytdjiblgnealmkaa.FlT
open Go.ChangeShapes Go.WideShapes Go.ChangeAt Go.RowKit Go.Deep Flat
set_option linter.unusedVariables false
set_option linter.unusedSimpArgs false
section
variable {H : Type} {enc : TypeId × Value → H} {P : Program} {w : World} {base : Nat} {held : Bool}
theorem rows_of {f : Nat} {t e : TypeId} {cs : List Value} {x : DataW H × List MemPlace} {fuel : Nat} {ks : List Kd} (hu : P.underlying t = some (.slice e)) (hk : flat P f e = some ks) (hc : P.cellsOf e = ks.length) (hpos : 0 < ks.length)
    (hf : DataW.trod enc P w base (fun _ => true) held fuel t cs = some x) : ∃ a len cap xs, cs = [.slice a len cap] ∧ IsRows ks w a len cap xs := by
  rcases open_slice hu hf with ⟨hcs, _⟩ | ⟨a', len', cap', m, n, D, Pl, hcs, hb, hl, hm, hmm, hx, hi⟩
  · exact ⟨none, 0, 0, [], hcs, .inl ⟨rfl, rfl, rfl⟩⟩
  · simp at hmm
    subst hmm
    by_cases h0 : m = 0
    · exact ⟨some a', len', m, [], hcs, .inl ⟨by omega, h0, rfl⟩⟩
    · obtain ⟨V, hV⟩ := choose_lt (α := List Value) (p := fun i cs' => w.cells? base (a'.add (i * P.cellsOf e)) (P.cellsOf e) = some cs' ∧ DataW.trod enc P w base (fun _ => true) held n e cs' = some (D i, Pl i)) hi
      obtain ⟨b, off, spot⟩ := a'
      have hspot : spot = none := by
        obtain ⟨h1, h2⟩ := hV 0 (by omega)
        obtain ⟨_, hlen, hcell⟩ := World.cells?_some h1
        have h3 := hcell 0 (by rw [hc]; exact hpos)
        rw [List.getElem?_eq_getElem (by rw [hlen, hc]; exact hpos)] at h3
        simpa [Addr.add] using World.cell?_spot h3
      subst hspot
      have hlt : b < w.heap.size := by
        obtain ⟨h1, h2⟩ := hV 0 (by omega)
        obtain ⟨_, hlen, hcell⟩ := World.cells?_some h1
        have h3 := hcell 0 (by rw [hc]; exact hpos)
        rw [List.getElem?_eq_getElem (by rw [hlen, hc]; exact hpos)] at h3
        simpa [addr_add] using cell_lt h3
      refine ⟨some ⟨b, off, none⟩, len', m, (List.range m).map V, hcs, .inr ⟨b, off, rfl, hlt, by omega, hl, hm, by simp, fun i him => ?_, fun i j him hj => ?_⟩⟩
      · obtain ⟨h1, h2⟩ := hV i him
        obtain ⟨_, hlen, hcell⟩ := World.cells?_some h1
        have : ((List.range m).map V).getD i [] = V i := by simp [List.getD, him]
        rw [this]
        exact flat_fits f e ks hk n _ _ (by rw [hlen, hc]) h2
      · obtain ⟨h1, h2⟩ := hV i him
        obtain ⟨_, hlen, hcell⟩ := World.cells?_some h1
        have : ((List.range m).map V).getD i [] = V i := by simp [List.getD, him]
        rw [this, ← hcell j (by rw [hc]; exact hj), addr_add, addr_add, hc, Nat.add_assoc]
theorem open_tex {r : Reach} {b0 f : Nat} {t e : TypeId} {f0 f1 f2 : Field} {v : Value} {d : DataW H} {p : List MemPlace} {ks : List Kd} (hu : P.underlying t = some (.struct #[f0, f1, f2])) (h3 : P.cellsOf t = 3)
    (o0 : f0.offset = 0) (o1 : f1.offset = 1) (o2 : f2.offset = 2) (c0 : P.cellsOf f0.type = 1) (c1 : P.cellsOf f1.type = 1) (c2 : P.cellsOf f2.type = 1)
    (u0 : P.underlying f0.type = some (.int .i64)) (u1 : P.underlying f1.type = some .bool) (u2 : P.underlying f2.type = some (.slice e)) (hk : flat P f e = some ks) (hc : P.cellsOf e = ks.length) (hpos : 0 < ks.length)
    (hv : Value.okWide P w r b0 t v) (h : DataW.Trod enc P w base (fun _ => true) held t v d p) :
    ∃ (m : Int) (b : Bool) (a : Option Addr) (len cap : Nat) (xs : List (List Value)), v = .agg #[.int .i64 m, .bool b, .slice a len cap] ∧ (Lit.int .i64 m).wf = true ∧ IsRows ks w a len cap xs := by
  obtain ⟨⟨cs⟩, rfl, hsz⟩ := okWide_struct hu hv
  obtain ⟨fuel, hf⟩ := h
  have hf' : DataW.trod enc P w base (fun _ => true) held fuel t cs = some (d, p) := hf
  obtain ⟨xs, n, _, _, hl, hlen, hg⟩ := DataW.trod_struct hu hf'
  have hlc : cs.length = 3 := by rw [hl, h3]
  match xs, hlen with
  | [y0, y1, y2], _ =>
    have g0 : DataW.trod enc P w base (fun _ => true) held n f0.type ((cs.drop f0.offset).take (P.cellsOf f0.type)) = some y0 := by simpa using hg 0 f0 rfl
    have g1 : DataW.trod enc P w base (fun _ => true) held n f1.type ((cs.drop f1.offset).take (P.cellsOf f1.type)) = some y1 := by simpa using hg 1 f1 rfl
    have g2 : DataW.trod enc P w base (fun _ => true) held n f2.type ((cs.drop f2.offset).take (P.cellsOf f2.type)) = some y2 := by simpa using hg 2 f2 rfl
    rw [o0, c0] at g0
    rw [o1, c1] at g1
    rw [o2, c2] at g2
    match cs, hlc with
    | [v0, v1, v2], _ =>
      obtain ⟨m, e0, _, wf⟩ := DataW.trod_int u0 g0
      obtain ⟨b, e1, _⟩ := DataW.trod_bool u1 g1
      obtain ⟨a, len, cap, xs, e2, hr⟩ := rows_of u2 hk hc hpos g2
      simp at e0 e1 e2
      subst e0
      subst e1
      subst e2
      exact ⟨m, b, a, len, cap, xs, rfl, wf, hr⟩
end
end Go.Proofs.Ytdjiblgnealmkaa.FlT

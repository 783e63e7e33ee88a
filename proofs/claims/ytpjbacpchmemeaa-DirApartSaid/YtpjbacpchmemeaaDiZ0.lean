/-
  Entries that come in; a directory's first bytes.
-/
import Derived.Test.YtpjbacpchmemeaaDiX
import Derived.Test.YtpjbacpchmemeaaFlat
import Derived.Test.YtpjbacpchmemeaaAlike
namespace Go.Proofs.Ytpjbacpchmemeaa.DiZ0
open Go.RowKit Go.Shelf Rd Go.Proofs.Ytpjbacpchmemeaa.Row Mid PgM DiM DiA DiC DiD DiE DiF DiJ DiK DiL DiN DiO DiQ DiU DiV DiW DiX OctA OctB
open Go.Proofs.Ytpjbacpchmemeaa.DiM (at_ at_get ce ce_len ce_app ce_one ce_ones ce_at)
set_option linter.unusedVariables false
set_option linter.unusedSimpArgs false
/-- its numbers are numbers -/
def En.W (p : En) : Prop := (Lit.int .i64 p.L).wf = true ∧ (Lit.int .i64 p.X).wf = true ∧ (Lit.int .i64 p.Y).wf = true ∧ (Lit.int .i64 p.S).wf = true ∧ (Lit.int .i64 p.N).wf = true ∧ (Lit.int .u32 p.M).wf = true
theorem fits_en {vs : List Value} (h : Flat.Fits [some .i64, some .i64, some .i64, some .i64, some .i64, some .u32] vs) : ∃ p : En, vs = p.l ∧ En.W p := by
  obtain ⟨n0, v0, rfl, h0, h⟩ := Flat.fits_int h
  obtain ⟨n1, v1, rfl, h1, h⟩ := Flat.fits_int h
  obtain ⟨n2, v2, rfl, h2, h⟩ := Flat.fits_int h
  obtain ⟨n3, v3, rfl, h3, h⟩ := Flat.fits_int h
  obtain ⟨n4, v4, rfl, h4, h⟩ := Flat.fits_int h
  obtain ⟨n5, v5, rfl, h5, h⟩ := Flat.fits_int h
  have := Flat.fits_nil h
  subst this
  exact ⟨⟨n0, n1, n2, n3, n4, n5⟩, rfl, h0, h1, h2, h3, h4, h5⟩
theorem wf_bd {a : Int} (h : (Lit.int .i64 a).wf = true) : -9223372036854775808 ≤ a ∧ a ≤ 9223372036854775807 := by
  have := bounds_i64 h
  exact this
theorem En.W.b {p : En} (h : En.W p) : p.B := by
  have := h.2.2.2.2.2
  simp [Lit.wf] at this
  have e1 : IntKind.u32.min = 0 := rfl
  have e2 : IntKind.u32.max = 4294967295 := rfl
  unfold En.B
  omega
/-- entries that come in -/
theorem rows_en {w : World} {a : Option Addr} {len cap : Nat} {xs : List (List Value)} (h : Flat.IsRows [some .i64, some .i64, some .i64, some .i64, some .i64, some .u32] w a len cap xs) :
    ∃ l : List En, l.length = len ∧ RdE w a l ∧ RB l ∧ (∀ p ∈ l, En.W p) ∧ len ≤ cap := by
  rcases h with ⟨rfl, rfl, rfl⟩ | ⟨b, off, rfl, hb, hpos, hl, hm, hx, hf, hc⟩
  · exact ⟨[], rfl, ⟨⟨rfl, .inl rfl⟩, fun e => absurd rfl e⟩, by unfold RB; simp, by simp, Nat.le_refl _⟩
  · have hv : ∀ i, i < cap → ∃ p : En, xs.getD i [] = p.l ∧ En.W p := fun i hi => fits_en (hf i hi)
    have hex : ∀ n, n ≤ cap → ∃ l : List En, l.length = n ∧ (∀ i, i < n → xs.getD i [] = (at_ l i).l) ∧ ∀ p ∈ l, En.W p := by
      intro n
      induction n with
      | zero => exact fun _ => ⟨[], rfl, fun i hi => absurd hi (Nat.not_lt_zero _), by simp⟩
      | succ n ih =>
        intro hn
        obtain ⟨l, h1, h2, h3⟩ := ih (by omega)
        obtain ⟨p, hp, hW⟩ := hv n (by omega)
        refine ⟨l ++ [p], by simp [h1], fun i hi => ?_, fun q hq => ?_⟩
        · rcases Nat.lt_or_ge i n with h4 | h4
          · rw [h2 i h4]
            unfold DiM.at_
            rw [List.getD_eq_getElem?_getD, List.getD_eq_getElem?_getD, List.getElem?_append_left (by omega)]
          · obtain rfl : i = n := by omega
            rw [hp]
            unfold DiM.at_
            rw [List.getD_eq_getElem?_getD, List.getElem?_append_right (by omega), h1, Nat.sub_self]
            rfl
        · rcases List.mem_append.1 hq with hq | hq
          · exact h3 q hq
          · rw [List.mem_singleton.1 hq]; exact hW
    obtain ⟨l, h1, h2, h3⟩ := hex len hl
    refine ⟨l, h1, ⟨⟨ce_len l, .inr ⟨b, off, rfl, hb, fun i hi => ?_⟩⟩, fun _ => ⟨b, off, rfl⟩⟩, fun p hp => (h3 p hp).b, h3, hl⟩
    rw [ce_len, h1] at hi
    have hi1 : i / 6 < len := by omega
    have hi2 : i % 6 < 6 := Nat.mod_lt _ (by omega)
    have := hc (i / 6) (i % 6) (by omega) hi2
    simp only [List.length_cons, List.length_nil, Nat.zero_add, Nat.reduceAdd] at this
    rw [show i / 6 * 6 + i % 6 = i by omega, h2 _ hi1] at this
    rw [this, ← ce_at (by omega) hi2, show i / 6 * 6 + i % 6 = i by omega]
/-- the first bytes -/
theorem take_dirB (d : Int) {r : List En} {j : Nat} (hj : j ≤ r.length) : (dirB d r).take (10 * j) = dirB d (r.take j) := by
  conv => lhs; rw [← List.take_append_drop j r, dirB_app]
  rw [List.take_append_of_le_length (by rw [dirB_len, List.length_take]; omega), List.take_of_length_le (by rw [dirB_len, List.length_take]; omega)]
theorem good_take {d : Int} {r : List En} (h : good d r) (j : Nat) : good d (r.take j) :=
  ⟨h.1, fun p hp => h.2.1 p (List.mem_of_mem_take hp), h.2.2.sublist (List.take_sublist _ _)⟩
theorem dec_take {X : World} {b : Nat} {d : Int} {r : List En} (h : DB X b d r) (j : Nat) (hj : j ≤ r.length) : decV d ((dirB d r).take (10 * j)) = some (r.take j) := by
  rw [take_dirB d hj]
  exact dec_back (good_take h.dr.good j) (h.dr.by_.sublist (List.take_sublist _ _)) (fun p hp => h.bd p (List.mem_of_mem_take hp))
theorem dec_cut {d : Int} {r : List En} {k : Nat} (h : k % 10 ≠ 0) (hk : k ≤ 10 * r.length) : decV d ((dirB d r).take k) = none := dec_mod d (by rw [List.length_take, dirB_len, Nat.min_eq_left hk]; exact h)
theorem db_depth {X : World} {b : Nat} {d : Int} {r : List En} (h : DB X b d r) : depthB d = true := depth_mk h.dr.good.1.1 h.dr.good.1.2
end Go.Proofs.Ytpjbacpchmemeaa.DiZ0

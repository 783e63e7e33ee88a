/-
  A pool beside a map of its bytes.
-/
import Derived.Test.YtkklppjimnkibaaPoN
namespace Go.Proofs.Ytkklppjimnkibaa.PoO
open Go.RowKit Go.Shelf Rd Go.Proofs.Ytkklppjimnkibaa.Row Mid LrM PgM PgA PgB PgC PgN PoM PoA PoB PoH PoI PoL PoS PoT PoU PoQ PoV PoX PoN
open Go.Proofs.Ytkklppjimnkibaa.PoD (us us_len By dataL data_len data_B data_any)
open Go.Proofs.Ytkklppjimnkibaa.PoE (BIn yields_skip below_zero one_slice)
open It (get_lt)
set_option linter.unusedVariables false
set_option linter.unusedSimpArgs false
set_option maxRecDepth 10000
variable {R : List Ent} {n : Nat} {g b v b' : List Int}
def Nd (R : List Ent) : Prop := (R.map (·.1)).Nodup
theorem nd_uniq : ∀ {R : List Ent}, Nd R → ∀ {x y : Ent}, x ∈ R → y ∈ R → x.1 = y.1 → x = y
  | [], _, x, y, hx, _, _ => by cases hx
  | a :: R, h, x, y, hx, hy, e => by
    obtain ⟨h1, h2⟩ := List.nodup_cons.1 (show (a.1 :: R.map (·.1)).Nodup from h)
    rcases List.mem_cons.1 hx with ex | hx'
    · rcases List.mem_cons.1 hy with ey | hy'
      · rw [ex, ey]
      · exact absurd (show a.1 ∈ R.map (·.1) from List.mem_map.2 ⟨y, hy', by rw [← e, ex]⟩) h1
    · rcases List.mem_cons.1 hy with ey | hy'
      · exact absurd (show a.1 ∈ R.map (·.1) from List.mem_map.2 ⟨x, hx', by rw [e, ey]⟩) h1
      · exact nd_uniq h2 hx' hy' e
def fR (R : List Ent) : List Int → Option (List Int) := fun v => if hasR R v = true then some (bytesR R v) else none
theorem ent_mem {i : Nat} (hi : i < R.length) : ent R i ∈ R := by
  unfold ent
  rw [List.getD_eq_getElem?_getD, List.getElem?_eq_getElem hi]
  exact List.getElem_mem hi
theorem fR_iff (h : Nd R) : fR R v = some b' ↔ (v, b') ∈ R := by
  unfold fR hasR bytesR
  cases hx : ixR R v with
  | none =>
    simp only [Option.isSome_none, Bool.false_eq_true, if_false]
    refine ⟨fun e => (by cases e), fun e => absurd rfl (ix_none.1 hx _ e)⟩
  | some i =>
    obtain ⟨hi, he⟩ := ix_ent hx
    simp only [Option.isSome_some, if_true]
    have hm := ent_mem hi
    constructor
    · intro e
      injection e with e
      rw [← e, ← he]
      exact hm
    · intro e
      have := nd_uniq h hm e he
      rw [this]
theorem fR_none : fR R v = none ↔ hasR R v = false := by
  unfold fR
  split
  · rename_i h; simp [h]
  · rename_i h; simp at h; simp [h]
theorem fR_has (h : hasR R v = true) : fR R v = some (bytesR R v) := by unfold fR; rw [if_pos h]
def dels (f : List Int → Option (List Int)) (r : List (List Int)) : List Int → Option (List Int) := fun v => if v ∈ r then none else f v
theorem no_mem (h : ixR R g = none) : (g, b') ∉ R := fun e => absurd rfl (ix_none.1 h _ e)
/-- what a Put makes of it -/
theorem f_put (hn : 2 ≤ n) (h : Nd R) (h' : Nd (putR n R g b)) : dels (upd (fR R) g b) (goneR n R g) = fR (putR n R g b) := by
  funext v
  refine Option.ext fun b' => ?_
  rw [fR_iff h']
  unfold dels upd
  unfold goneR
  cases hx : ixR R g with
  | some i =>
    obtain ⟨hi, he⟩ := ix_ent hx
    have ep : putR n R g b = R.set i (g, b) := by unfold putR; rw [hx]
    rw [ep] at h' ⊢
    have hgm : (g, b) ∈ R.set i (g, b) := List.mem_set hi _
    simp only [List.not_mem_nil, if_false]
    by_cases e : v = g
    · subst e
      rw [if_pos rfl]
      constructor
      · intro e2; injection e2 with e2; rw [← e2]; exact hgm
      · intro e2
        have := nd_uniq h' hgm e2 rfl
        injection this with _ e3
        rw [e3]
    · rw [if_neg e, fR_iff h]
      constructor
      · intro e2
        obtain ⟨j, hj, ej⟩ := List.getElem_of_mem e2
        have hij : i ≠ j := fun e3 => by
          subst e3
          unfold ent at he
          rw [List.getD_eq_getElem?_getD, List.getElem?_eq_getElem hi] at he
          rw [show R[i] = (v, b') from ej] at he
          exact e he
        exact List.mem_iff_getElem.2 ⟨j, by simpa using hj, by rw [List.getElem_set, if_neg hij]; exact ej⟩
      · intro e2
        rcases List.mem_or_eq_of_mem_set e2 with e2 | e2
        · exact e2
        · injection e2 with e2 e3
          exact absurd e2 e
  | none =>
    have hno : ∀ b', (g, b') ∉ R := fun b' => no_mem hx
    by_cases hlt : R.length < n
    · have ep : putR n R g b = R ++ [(g, b)] := by unfold putR; rw [hx]; simp only; rw [if_pos hlt]
      rw [ep]
      simp only
      rw [if_pos hlt]
      simp only [List.not_mem_nil, if_false, List.mem_append, List.mem_singleton]
      by_cases e : v = g
      · subst e
        rw [if_pos rfl]
        constructor
        · intro e2; injection e2 with e2; rw [e2]; exact .inr rfl
        · rintro (e2 | e2)
          · exact absurd e2 (hno b')
          · injection e2 with _ e2; rw [e2]
      · rw [if_neg e, fR_iff h]
        constructor
        · exact .inl
        · rintro (e2 | e2)
          · exact e2
          · injection e2 with e2; exact absurd e2 e
    · have h2 : ¬ R.length < 2 := by omega
      have ep : putR n R g b = R.eraseIdx 1 ++ [(g, b)] := by unfold putR; rw [hx]; simp only; rw [if_neg hlt, if_neg h2]
      rw [ep]
      simp only
      rw [if_neg hlt, if_neg h2]
      match R, h, h2, hno with
      | [], _, h2, _ => simp at h2
      | [_], _, h2, _ => simp at h2
      | a :: x :: T, h, _, hno =>
        simp only [List.eraseIdx_cons_succ, List.eraseIdx_cons_zero]
        have hx1 : (ent (a :: x :: T) 1).1 = x.1 := rfl
        rw [hx1]
        simp only [List.mem_singleton, List.mem_append]
        have hgx : g ≠ x.1 := fun e => hno x.2 (by rw [e]; simp)
        by_cases e : v = g
        · subst e
          rw [if_neg hgx, if_pos rfl]
          constructor
          · intro e2; injection e2 with e2; rw [e2]; exact .inr rfl
          · rintro (e2 | e2)
            · rcases List.mem_cons.1 e2 with e2 | e2
              · exact absurd (by rw [e2]; simp) (hno b')
              · exact absurd (by simp [e2]) (hno b')
            · injection e2 with _ e2; rw [e2]
        · rw [if_neg e]
          by_cases ex : v = x.1
          · rw [if_pos ex]
            constructor
            · intro e2; cases e2
            · rintro (e2 | e2)
              · exfalso
                have hm : (v, b') ∈ a :: x :: T := by
                  rcases List.mem_cons.1 e2 with e2 | e2
                  · rw [e2]; simp
                  · simp [e2]
                have := nd_uniq h hm (show x ∈ a :: x :: T by simp) ex
                rw [this] at e2
                have hnd := (show (a.1 :: x.1 :: T.map (·.1)).Nodup from h)
                obtain ⟨k1, k2⟩ := List.nodup_cons.1 hnd
                obtain ⟨k3, -⟩ := List.nodup_cons.1 k2
                rcases List.mem_cons.1 e2 with e2 | e2
                · rw [e2] at k1; simp at k1
                · exact k3 (List.mem_map.2 ⟨x, e2, rfl⟩)
              · injection e2 with e2; exact absurd e2 e
          · rw [if_neg ex, fR_iff h]
            constructor
            · intro e2
              left
              rcases List.mem_cons.1 e2 with e2 | e2
              · rw [e2]; simp
              · rcases List.mem_cons.1 e2 with e2 | e2
                · rw [← e2] at ex; exact absurd rfl ex
                · simp [e2]
            · rintro (e2 | e2)
              · rcases List.mem_cons.1 e2 with e2 | e2
                · rw [e2]; simp
                · simp [e2]
              · injection e2 with e2; exact absurd e2 e
theorem code_ok (hn : 2 ≤ n) : codeR n R g = 0 := by
  unfold codeR
  cases hx : ixR R g with
  | some i => rfl
  | none =>
    simp only
    split
    · rfl
    · rw [if_neg (by omega)]
theorem c_put (hn : 2 ≤ n) : (if fR R g = none then R.length + 1 else R.length) - (goneR n R g).length = (putR n R g b).length := by
  unfold goneR putR
  cases hx : ixR R g with
  | some i =>
    have : fR R g ≠ none := by rw [Ne, fR_none]; unfold hasR; rw [hx]; simp
    rw [if_neg this]
    simp
  | none =>
    have : fR R g = none := by rw [fR_none]; unfold hasR; rw [hx]; rfl
    rw [if_pos this]
    simp only
    by_cases hlt : R.length < n
    · rw [if_pos hlt, if_pos hlt]; simp
    · rw [if_neg hlt, if_neg hlt, if_neg (show ¬ R.length < 2 by omega), if_neg (show ¬ R.length < 2 by omega)]
      rw [List.length_append, List.length_eraseIdx, if_pos (by omega)]
      simp
      omega
theorem has_put (hn : 2 ≤ n) (h' : Nd (putR n R g b)) : hasR (putR n R g b) g = true ∧ bytesR (putR n R g b) g = b := by
  have hm : (g, b) ∈ putR n R g b := by
    unfold putR
    cases hx : ixR R g with
    | some i => exact List.mem_set (ix_ent hx).1 _
    | none =>
      simp only
      split
      · simp
      · rw [if_neg (by omega)]; simp
  have h1 := (fR_iff h').2 hm
  unfold fR at h1
  split at h1
  · rename_i h2
    injection h1 with h1
    exact ⟨h2, h1⟩
  · cases h1
theorem gone_in (h : Nd R) {x : List Int} (hx : x ∈ goneR n R g) : upd (fR R) g b x ≠ none := by
  unfold goneR at hx
  cases hi : ixR R g with
  | some i => rw [hi] at hx; simp at hx
  | none =>
    rw [hi] at hx
    simp only at hx
    split at hx
    · simp at hx
    · split at hx
      · simp at hx
      · rename_i h1 h2
        obtain rfl := List.mem_singleton.1 hx
        unfold upd
        split
        · simp
        · have := (fR_iff h (v := (ent R 1).1) (b' := (ent R 1).2)).2 (ent_mem (by omega))
          rw [this]
          simp
theorem nd_rel {d : Nat} {sl : List Ent} {o : List Nat} {wl : List Int} (h : Rel n d sl o wl) : Nd (rowR sl o) := by
  unfold Nd rowR
  rw [List.map_map]
  exact nd_map (ri_nodup h.perm _) fun i hi j hj e => h.dist i j ((ri_mem h.perm h.k1 h.kn i).1 hi) ((ri_mem h.perm h.k1 h.kn j).1 hj) e
variable {w X Y : World} {lo : Lo} {pb gw d mb c gb : Nat} {Bb : Nat → Prop} {f : List Int → Option (List Int)}
theorem nd_pl (h : Pl X lo Bb pb gw n d R) : Nd R := by
  obtain ⟨lb, lg, v, sl, o, wl, h1, h2, rfl⟩ := h
  exact nd_rel h2
/-! what stands by what turns -/
theorem mq_pf (h : Mq X mb f c) (hf : PF lo gw X Y) : Mq Y mb f c := by
  refine h.same (hf.keep mb h.lt fun ⟨cc, t, hc, _⟩ => ?_)
  exact h.not hc rfl
theorem own_pf {B : Nat} {u : Value} {xs : List Value} (h : X.ownsRow B 5 1 u 144 xs) (hp : Pl X lo Bb pb gw n d R) (hf : PF lo gw X Y) : Y.ownsRow B 5 1 u 144 xs := own_same h fun k e => by
  obtain ⟨cc, hc, _⟩ := own_pos' h e
  obtain ⟨lb, lg, v, sl, o, wl, ⟨rs, hl, hq, hsl⟩, h2⟩ := hp
  exact hf.u8 hc (by decide) (hq.gw_int hc (by decide))
theorem cells_gm (h : Mq X mb f c) (hg : X.grownBy Y (some mb)) {k : Nat} {cc : Array Value} {t : Nat} {fr : Nat × Nat} (hk : X.heap[k]? = some (.cells cc t fr)) : Y.heap[k]? = X.heap[k]? :=
  hg.block k (get_lt hk) (fun e => by injection e with e; exact h.not hk e)
theorem own_gm {B : Nat} {u : Value} {xs : List Value} (h : X.ownsRow B 5 1 u 144 xs) (hm : Mq X mb f c) (hg : X.grownBy Y (some mb)) : Y.ownsRow B 5 1 u 144 xs := own_same h fun k e => by
  obtain ⟨cc, hc, _⟩ := own_pos' h e
  exact cells_gm hm hg hc
theorem gone_gm {gv : Value} {r : List (List Int)} (h : GoneAt X gv r) (hm : Mq X mb f c) (hg : X.grownBy Y (some mb)) : GoneAt Y gv r := by
  rcases h with h | ⟨x, g9, h1, h2, h3, h4⟩
  · exact .inl h
  · exact .inr ⟨x, g9, h1, h2, h3, (cells_gm hm hg h4).trans h4⟩
theorem gone_set {gv : Value} {r : List (List Int)} {a : Nat} {cc : Array Value} (h : GoneAt X gv r) (ha : X.heap[a]? = some (.cells cc 5 (0, 0))) (hg : X.grownBy Y (some a)) : GoneAt Y gv r := by
  rcases h with h | ⟨x, g9, h1, h2, h3, h4⟩
  · exact .inl h
  · exact .inr ⟨x, g9, h1, h2, h3, (other ha h4 (by decide) hg).trans h4⟩
/-- all that a round carries -/
structure Cr (w X : World) (lo : Lo) (pb gw n : Nat) (Bb : Nat → Prop) (R : List Ent) (mb : Nat) (f : List Int → Option (List Int)) (c : Nat) (gb : Nat) (g : List Int) : Prop where
  low : Below w.heap.size w X
  p : Pl X lo Bb pb gw n 2 R
  m : Mq X mb f c
  g : blk X gb = some (.cells (cs .i64 g) 35 (0, 0))
theorem Cr.bel (h : Cr w X lo pb gw n Bb R mb f c gb g) (hb : Below X.heap.size X Y) : Cr w Y lo pb gw n Bb R mb f c gb g :=
  ⟨Rd.below_step h.low hb, h.p.bel hb, h.m.bel hb, (blk_below hb _ (blk_lt h.g)).trans h.g⟩
theorem Cr.mono {Bb' : Nat → Prop} (h : Cr w X lo pb gw n Bb R mb f c gb g) (hm : ∀ k, k < X.heap.size → Bb k → Bb' k) : Cr w X lo pb gw n Bb' R mb f c gb g := ⟨h.low, h.p.mono hm, h.m, h.g⟩
theorem Cr.map {f' : List Int → Option (List Int)} {c' : Nat} (h : Cr w X lo pb gw n Bb R mb f c gb g) (hb : w.heap.size ≤ mb) (hm : Mq Y mb f' c') (hg : X.grownBy Y (some mb)) : Cr w Y lo pb gw n Bb R mb f' c' gb g := by
  refine ⟨h.low.trans (OctA.below_grownBy (B := w.heap.size) hg h.low.size (fun k hk => by cases hk; exact hb)), h.p.kept hg.size (fun k hk => ?_) (fun k cc _ hc => cells_gm h.m hg hc), hm, (cells_gm h.m hg h.g).trans h.g⟩
  obtain ⟨cc, t, hc, _⟩ := hk
  exact cells_gm h.m hg hc
theorem Cr.set {a : Nat} {cc : Array Value} (h : Cr w X lo pb gw n Bb R mb f c gb g) (ha : X.heap[a]? = some (.cells cc 5 (0, 0))) (hw : w.heap.size ≤ a) (hB : ¬ Bb a) (hg : X.grownBy Y (some a)) : Cr w Y lo pb gw n Bb R mb f c gb g := by
  refine ⟨h.low.trans (OctA.below_grownBy (B := w.heap.size) hg h.low.size (fun k hk => by cases hk; exact hw)), h.p.kept hg.size (fun k hk => hg.block k (pt_lt hk) (fun e => ?_)) (fun k c1 hk hc => hg.block k (get_lt hc) (fun e => ?_)), h.m.same (hg.block mb h.m.lt (fun e => ?_)), (other ha h.g (by decide) hg).trans h.g⟩
  · injection e with e
    subst e
    have hp := h.p
    obtain ⟨lb, lg, v, sl, o, wl, ⟨rs, hl, hq, hsl⟩, h2⟩ := hp
    obtain ⟨c2, t, hc, ht⟩ := hk
    have e2 := hc.symm.trans ha
    injection e2 with e2
    injection e2 with e3 e4 e5
    subst e4
    rcases ht with ht | ht | ht | ht | ht
    · exact absurd ht (by decide)
    · exact absurd ht (by decide)
    · exact absurd ht (by decide)
    · exact absurd ht (by decide)
    · exact hq.gw_int hc (by decide) ht
  · injection e with e
    subst e
    exact hB hk
  · injection e with e
    exact h.m.not ha e.symm
end Go.Proofs.Ytkklppjimnkibaa.PoO

/-
  What was flushed is there behind any loss (DiskFlushed).
-/
import Derived.Test.YtajoajblmaopjaaDkF
namespace Go.Proofs.Ytajoajblmaopjaa.DkG
open Go.RowKit Rd
open Go.Proofs.Ytajoajblmaopjaa.Row hiding cs blk3_0 blk3_1 blk3_2
open Mid DkM DkA DkB DkC DkD DkE DkF
set_option linter.unusedVariables false
set_option linter.unusedSimpArgs false
set_option maxRecDepth 10000
def bb (bs : List Bool) : Array Value := (bs.map Value.bool).toArray
theorem bb_at {bs : List Bool} {k : Nat} (h : k < bs.length) : (bb bs)[k]? = some (.bool (bs.getD k false)) := by simp [bb, List.getD, h]
theorem bb_set (bs : List Bool) (k : Nat) (v : Bool) : (bb bs).setIfInBounds k (.bool v) = bb (bs.set k v) := by simp [bb, List.setIfInBounds_toArray, List.map_set]
theorem getD_set {α : Type} {l : List α} {i j : Nat} {v d : α} (h : i < l.length) : (l.set i v).getD j d = if j = i then v else l.getD j d := by
  by_cases e : j = i
  · subst e
    rw [if_pos rfl, List.getD_eq_getElem?_getD, List.getElem?_set_self h]; rfl
  · rw [if_neg e, List.getD_eq_getElem?_getD, List.getElem?_set_ne (Ne.symm e), ← List.getD_eq_getElem?_getD]
structure Fl (w X : World) (b kg hg po pn ph : Nat) (s : DS) (os ns : List Int) (hs : List Bool) : Prop where
  l : Lw w X b kg hg 8 s
  o : blk X po = some (.cells (cs .i64 os) 52 (0, 0))
  n : blk X pn = some (.cells (cs .i64 ns) 52 (0, 0))
  h : blk X ph = some (.cells (bb hs) 53 (0, 0))
  len : os.length = 8 ∧ ns.length = 8 ∧ hs.length = 8
  lo : w.heap.size ≤ po ∧ w.heap.size ≤ pn ∧ w.heap.size ≤ ph
  ne : po ≠ pn ∧ po ≠ ph ∧ pn ≠ ph
  nd : (po ≠ b ∧ po ≠ kg ∧ po ≠ hg) ∧ (pn ≠ b ∧ pn ≠ kg ∧ pn ≠ hg) ∧ ph ≠ b ∧ ph ≠ kg ∧ ph ≠ hg
variable {w X Y : World} {b kg hg po pn ph : Nat} {s s' : DS} {os ns : List Int} {hs : List Bool}
theorem Fl.bel (f : Fl w X b kg hg po pn ph s os ns hs) (hb : Below X.heap.size X Y) : Fl w Y b kg hg po pn ph s os ns hs :=
  ⟨f.l.bel hb, (blk_below hb _ (blk_lt f.o)).trans f.o, (blk_below hb _ (blk_lt f.n)).trans f.n, (blk_below hb _ (blk_lt f.h)).trans f.h, f.len, f.lo, f.ne, f.nd⟩
theorem Fl.tn (f : Fl w X b kg hg po pn ph s os ns hs) (d : Dk Y b kg hg 8 s') (t : Tn [b, kg, hg] X Y) : Fl w Y b kg hg po pn ph s' os ns hs :=
  ⟨f.l.tn d t, Tn.blk t f.o (by have := f.nd; simp; omega), Tn.blk t f.n (by have := f.nd; simp; omega), Tn.blk t f.h (by have := f.nd; simp; omega), f.len, f.lo, f.ne, f.nd⟩
theorem other (X : World) (g j k : Nat) (v : Value) (h : j ≠ g) : (X.setCell ⟨g, k, none⟩ v).heap[j]? = X.heap[j]? := heap_setCell_other X ⟨g, k, none⟩ j v h
theorem Fl.cO (f : Fl w X b kg hg po pn ph s os ns hs) {i : Nat} (hi : i < 8) : X.cell? ⟨po, i, none⟩ = some (.int .i64 (os.getD i 0)) ∧ X.frozen? ⟨po, i, none⟩ = false := ⟨by rw [blk_cell f.o, at_i (by rw [f.len.1]; exact hi)], blk_frozen f.o i⟩
theorem Fl.cN (f : Fl w X b kg hg po pn ph s os ns hs) {i : Nat} (hi : i < 8) : X.cell? ⟨pn, i, none⟩ = some (.int .i64 (ns.getD i 0)) ∧ X.frozen? ⟨pn, i, none⟩ = false := ⟨by rw [blk_cell f.n, at_i (by rw [f.len.2.1]; exact hi)], blk_frozen f.n i⟩
theorem Fl.cH (f : Fl w X b kg hg po pn ph s os ns hs) {i : Nat} (hi : i < 8) : X.cell? ⟨ph, i, none⟩ = some (.bool (hs.getD i false)) ∧ X.frozen? ⟨ph, i, none⟩ = false := ⟨by rw [blk_cell f.h, bb_at (by rw [f.len.2.2]; exact hi)], blk_frozen f.h i⟩
theorem Fl.setO (f : Fl w X b kg hg po pn ph s os ns hs) (i : Nat) (v : Int) : Fl w (X.setCell ⟨po, i, none⟩ (.int .i64 v)) b kg hg po pn ph s (os.set i v) ns hs := by
  have nd := f.nd.1
  refine ⟨⟨f.l.d.kept' (other _ _ _ _ _ (Ne.symm nd.1)) (other _ _ _ _ _ (Ne.symm nd.2.1)) (other _ _ _ _ _ (Ne.symm nd.2.2)), Below.setCell f.l.below f.lo.1 _, f.l.lo⟩, ?_, (other _ _ _ _ _ f.ne.1.symm).trans f.n, (other _ _ _ _ _ f.ne.2.1.symm).trans f.h, ⟨by rw [List.length_set]; exact f.len.1, f.len.2⟩, f.lo, f.ne, f.nd⟩
  have := blk_set X po i (.int .i64 v) _ _ f.o
  rw [set_i] at this
  exact this
theorem Fl.setN (f : Fl w X b kg hg po pn ph s os ns hs) (i : Nat) (v : Int) : Fl w (X.setCell ⟨pn, i, none⟩ (.int .i64 v)) b kg hg po pn ph s os (ns.set i v) hs := by
  have nd := f.nd.2.1
  refine ⟨⟨f.l.d.kept' (other _ _ _ _ _ (Ne.symm nd.1)) (other _ _ _ _ _ (Ne.symm nd.2.1)) (other _ _ _ _ _ (Ne.symm nd.2.2)), Below.setCell f.l.below f.lo.2.1 _, f.l.lo⟩, (other _ _ _ _ _ f.ne.1).trans f.o, ?_, (other _ _ _ _ _ f.ne.2.2.symm).trans f.h, ⟨f.len.1, by rw [List.length_set]; exact f.len.2.1, f.len.2.2⟩, f.lo, f.ne, f.nd⟩
  have := blk_set X pn i (.int .i64 v) _ _ f.n
  rw [set_i] at this
  exact this
theorem Fl.setH (f : Fl w X b kg hg po pn ph s os ns hs) (i : Nat) (v : Bool) : Fl w (X.setCell ⟨ph, i, none⟩ (.bool v)) b kg hg po pn ph s os ns (hs.set i v) := by
  have nd := f.nd.2.2
  refine ⟨⟨f.l.d.kept' (other _ _ _ _ _ (Ne.symm nd.1)) (other _ _ _ _ _ (Ne.symm nd.2.1)) (other _ _ _ _ _ (Ne.symm nd.2.2)), Below.setCell f.l.below f.lo.2.2 _, f.l.lo⟩, (other _ _ _ _ _ f.ne.2.1).trans f.o, (other _ _ _ _ _ f.ne.2.2).trans f.n, ?_, ⟨f.len.1, f.len.2.1, by rw [List.length_set]; exact f.len.2.2⟩, f.lo, f.ne, f.nd⟩
  have := blk_set X ph i (.bool v) _ _ f.h
  rw [bb_set] at this
  exact this
/-! what holds of the state, in each of the parts -/
def K_ (s : DS) (j : Nat) : List Int := s.K.getD j []
def H_ (s : DS) (j : Nat) : Bool × List Int := s.H.getD j (false, [])
def PA (s : DS) (os : List Int) (k : Nat) : Prop := s.lf = -1 ∧ s.dn = false ∧ s.wr = k ∧ (∀ j, j < 8 → rd s j = wantL (os.getD j 0)) ∧ ∀ j, 0 ≤ os.getD j 0 ∧ os.getD j 0 ≤ 400
structure PB (s : DS) (os ns : List Int) (hs : List Bool) (lf ms : Int) (wr : Nat) : Prop where
  lf : s.lf = lf
  ms : s.ms = ms
  dn : s.dn = false
  wr : s.wr = wr
  k : ∀ j, j < 8 → K_ s j = wantL (os.getD j 0)
  h : ∀ j, j < 8 → (H_ s j).1 = hs.getD j false ∧ (hs.getD j false = true → (H_ s j).2 = wantL (ns.getD j 0))
  ob : ∀ j, 0 ≤ os.getD j 0 ∧ os.getD j 0 ≤ 400
  nb : ∀ j, 0 ≤ ns.getD j 0 ∧ ns.getD j 0 ≤ 400
/-- behind so many of those that come up again -/
structure PC (s : DS) (os0 ns : List Int) (hs : List Bool) (m : Nat) (t : DS) (os : List Int) : Prop where
  done : ∀ j, j < m → (H_ t j).1 = false ∧ K_ t j = wantL (os.getD j 0)
  rest : ∀ j, m ≤ j → j < 8 → H_ t j = H_ s j ∧ K_ t j = K_ s j ∧ os.getD j 0 = os0.getD j 0
  ob : ∀ j, 0 ≤ os.getD j 0 ∧ os.getD j 0 ≤ 400
theorem want_pos {v : Nat} (h : 1 ≤ v) : wantL (v : Int) = secL v := by unfold wantL; rw [if_pos (by omega), Int.toNat_natCast]
theorem pa_write {s : DS} {os : List Int} {k q v : Nat} (h : PA s os k) (hl : os.length = 8) (hH : s.H.length = 8) (hq : q < 8) (hv1 : 1 ≤ v) (hv : v ≤ 400) : PA (wrS s q (secL v)) (os.set q v) (k + 1) := by
  obtain ⟨h1, h2, h3, h4, h5⟩ := h
  refine ⟨?_, h2, ?_, fun j hj => ?_, fun j => ?_⟩
  · show (if s.lf = -1 then s.lf else s.lf - 1) = -1
    rw [if_pos h1]; exact h1
  · show s.wr + 1 = ((k + 1 : Nat) : Int)
    rw [h3]; omega
  · rw [rd_wr (by omega), getD_set (by omega)]
    by_cases e : j = q
    · rw [if_pos e, if_pos e, want_pos hv1]
    · rw [if_neg e, if_neg e]; exact h4 j hj
  · rw [getD_set (by omega)]
    split
    · omega
    · exact h5 j
theorem fl_flags (s : DS) : ∀ m, m ≤ s.H.length → ∀ j, (j < m → (H_ (flN s m) j).1 = false) ∧ (m ≤ j → H_ (flN s m) j = H_ s j)
  | 0, _, j => ⟨fun h => absurd h (by omega), fun _ => rfl⟩
  | m + 1, h, j => by
    have ih := fl_flags s m (by omega)
    have hn := fl_nums s m
    have hH : m < (flN s m).H.length := by rw [hn.2.2.2.2.2]; omega
    unfold flN
    split
    · rename_i hq
      have hk : ∀ i, H_ (kpS (flN s m) m) i = if i = m then (false, z32) else H_ (flN s m) i := fun i => getD_set hH
      rw [hk]
      constructor
      · intro hj
        by_cases e : j = m
        · rw [if_pos e]
        · rw [if_neg e]; exact (ih j).1 (by omega)
      · intro hj
        rw [if_neg (by omega)]; exact (ih j).2 (by omega)
    · rename_i hq
      constructor
      · intro hj
        by_cases e : j = m
        · subst e
          have : (H_ (flN s j) j).1 = false := by
            unfold H_
            cases h9 : ((flN s j).H.getD j (false, [])).1 with
            | false => rfl
            | true => exact absurd h9 hq
          exact this
        · exact (ih j).1 (by omega)
      · intro hj
        exact (ih j).2 (by omega)
theorem pb_start {s : DS} {os : List Int} {k : Nat} (h : PA s os k) (hK : s.K.length = 8) (hH : s.H.length = 8) (lf ms : Int) : PB { flN s 8 with lf := lf, ms := ms } os (List.replicate 8 0) (List.replicate 8 false) lf ms k := by
  obtain ⟨h1, h2, h3, h4, h5⟩ := h
  have hn := fl_nums s 8
  have hz : ∀ j, (List.replicate 8 (0 : Int)).getD j 0 = 0 := fun j => by
    rw [List.getD_eq_getElem?_getD, List.getElem?_replicate]; split <;> rfl
  have hf : ∀ j, (List.replicate 8 false).getD j false = false := fun j => by
    rw [List.getD_eq_getElem?_getD, List.getElem?_replicate]; split <;> rfl
  have hfl : ∀ j, j < 8 → (H_ (flN s 8) j).1 = false := fun j hj => (fl_flags s 8 (by omega) j).1 hj
  have hr : ∀ j, j < 8 → rd (flN s 8) j = wantL (os.getD j 0) := fun j hj => (rd_fl (s := s) (by omega) 8 (by omega) j).trans (h4 j hj)
  have e1 := hn.2.2.1.trans h2
  have e2 := hn.2.2.2.1.trans h3
  clear hn
  generalize flN s 8 = t at hr hfl e1 e2 ⊢
  refine ⟨rfl, rfl, e1, e2, fun j hj => ?_, fun j hj => ⟨by rw [hf]; exact hfl j hj, fun e => by rw [hf] at e; cases e⟩, h5, fun j => by rw [hz]; omega⟩
  have := hr j hj
  rw [← this]
  unfold rd
  rw [show (t.H.getD j (false, [])).1 = false from hfl j hj, if_neg (by decide)]
  rfl
theorem pb_write {s : DS} {os ns : List Int} {hs : List Bool} {lf ms : Int} {wr q v : Nat} (h : PB s os ns hs lf ms wr) (hn : ns.length = 8) (hh : hs.length = 8) (hH : s.H.length = 8) (hq : q < 8) (hv1 : 1 ≤ v) (hv : v ≤ 400) (hlf : lf ≠ -1) : PB (wrS s q (secL v)) os (ns.set q v) (hs.set q true) (lf - 1) ms (wr + 1) := by
  have hk : ∀ i, H_ (wrS s q (secL v)) i = if i = q then (true, secL v) else H_ s i := fun i => getD_set (by omega)
  refine ⟨?_, h.ms, h.dn, ?_, h.k, fun j hj => ?_, h.ob, fun j => ?_⟩
  · show (if s.lf = -1 then s.lf else s.lf - 1) = lf - 1
    rw [h.lf, if_neg hlf]
  · show s.wr + 1 = ((wr + 1 : Nat) : Int)
    rw [h.wr]; omega
  · rw [hk, getD_set (by omega), getD_set (by omega)]
    by_cases e : j = q
    · rw [if_pos e, if_pos e, if_pos e]
      exact ⟨rfl, fun _ => (want_pos hv1).symm⟩
    · rw [if_neg e, if_neg e, if_neg e]; exact h.h j hj
  · rw [getD_set (by omega)]
    split
    · omega
    · exact h.nb j
theorem up_lens (s : DS) : ∀ m, (upN s m).1.K.length = s.K.length ∧ (upN s m).1.H.length = s.H.length
  | 0 => ⟨rfl, rfl⟩
  | m + 1 => by
    have ih := up_lens s m
    unfold upN
    simp only
    split
    · split
      · unfold kpS; simp only [List.length_set]; exact ih
      · unfold clS; simp only [List.length_set]; exact ih
    · exact ih
theorem up_step (s : DS) (m : Nat) : upN s (m + 1) = if (H_ (upN s m).1 m).1 = true then (if bitX s.ms (upN s m).2.1 then (kpS (upN s m).1 m, (upN s m).2.1 + 1, (upN s m).2.2 ++ [m]) else (clS (upN s m).1 m, (upN s m).2.1 + 1, (upN s m).2.2)) else upN s m := rfl
theorem pc_no {s t : DS} {os0 os ns : List Int} {hs : List Bool} {m : Nat} (h : PC s os0 ns hs m t os) (hB : ∀ j, j < 8 → K_ s j = wantL (os0.getD j 0)) (hm : m < 8) (hf : (H_ s m).1 = false) : PC s os0 ns hs (m + 1) t os := by
  obtain ⟨r1, r2, r3⟩ := h.rest m (Nat.le_refl _) hm
  refine ⟨fun j hj => ?_, fun j h1 h2 => h.rest j (by omega) h2, h.ob⟩
  by_cases e : j = m
  · subst e
    exact ⟨by rw [r1]; exact hf, by rw [r2, r3]; exact hB j hm⟩
  · exact h.done j (by omega)
theorem pc_clear {s t : DS} {os0 os ns : List Int} {hs : List Bool} {m : Nat} (h : PC s os0 ns hs m t os) (hB : ∀ j, j < 8 → K_ s j = wantL (os0.getD j 0)) (hm : m < 8) (hH : t.H.length = 8) : PC s os0 ns hs (m + 1) (clS t m) os := by
  obtain ⟨r1, r2, r3⟩ := h.rest m (Nat.le_refl _) hm
  have hk : ∀ i, H_ (clS t m) i = if i = m then (false, z32) else H_ t i := fun i => getD_set (by omega)
  refine ⟨fun j hj => ?_, fun j h1 h2 => ?_, h.ob⟩
  · rw [hk]
    by_cases e : j = m
    · rw [if_pos e]
      subst e
      exact ⟨rfl, by show K_ t j = _; rw [r2, r3]; exact hB j hm⟩
    · rw [if_neg e]; exact h.done j (by omega)
  · rw [hk, if_neg (by omega)]; exact h.rest j (by omega) h2
theorem pc_keep {s t : DS} {os0 os ns : List Int} {hs : List Bool} {m : Nat} (h : PC s os0 ns hs m t os) (hm : m < 8) (hH : t.H.length = 8) (hK : t.K.length = 8) (ho : os.length = 8) (hv : (H_ s m).2 = wantL (ns.getD m 0)) (hb : 0 ≤ ns.getD m 0 ∧ ns.getD m 0 ≤ 400) : PC s os0 ns hs (m + 1) (kpS t m) (os.set m (ns.getD m 0)) := by
  obtain ⟨r1, r2, r3⟩ := h.rest m (Nat.le_refl _) hm
  have hk : ∀ i, H_ (kpS t m) i = if i = m then (false, z32) else H_ t i := fun i => getD_set (by omega)
  have hk2 : ∀ i, K_ (kpS t m) i = if i = m then (H_ t m).2 else K_ t i := fun i => getD_set (by omega)
  refine ⟨fun j hj => ?_, fun j h1 h2 => ?_, fun j => ?_⟩
  · rw [hk, hk2, getD_set (by omega)]
    by_cases e : j = m
    · rw [if_pos e, if_pos e, if_pos e]
      exact ⟨rfl, by rw [r1]; exact hv⟩
    · rw [if_neg e, if_neg e, if_neg e]; exact h.done j (by omega)
  · rw [hk, hk2, getD_set (by omega), if_neg (by omega), if_neg (by omega), if_neg (by omega)]; exact h.rest j (by omega) h2
  · rw [getD_set (by omega)]
    split
    · exact hb
    · exact h.ob j
theorem iv_i64 (r : List Nat) : DkC.iv r = Alk.i64s (r.map fun (x : Nat) => (x : Int)) := by simp [DkC.iv, Alk.i64s]
attribute [local go_sem ↓] run_make_32
set_option maxHeartbeats 8000000 in
theorem flushed_gen (ai : Option Addr) (len cap : Nat) (zs : List Int) (bi : Option Addr) (len2 cap2 : Nat) (ys : List Int) (mask : Int) (w : World) (hm1 : -9223372036854775808 ≤ mask) (hm2 : mask ≤ 9223372036854775807)
    (hz : ∀ z ∈ zs, Ints.In64 z) (hzl : zs.length = len) (hR : Reads w 1 ai len (Ints.i64s zs)) (hy : ∀ z ∈ ys, Ints.In64 z) (hyl : ys.length = len2) (hR2 : Reads w 1 bi len2 (Ints.i64s ys)) :
    Calls Try.prog 4 #[.slice ai len cap, .slice bi len2 cap2, .int .i64 mask] w fun e w' => e = .returned (.bool true) ∧ Below w.heap.size w w' := by
  have HRD := Lib.hid hR
  have HZ := Lib.hid hz
  have HZL := Lib.hid hzl
  have HRY := Lib.hid hR2
  have HY := Lib.hid hy
  have HYL := Lib.hid hyl
  clear hR hz hzl hR2 hy hyl
  by_cases h0 : 30 < len
  · have d0 : decide (30 < len) = true := decide_eq_true h0
    go_enter Try.func4, Try.ntmps4
    go_wp2_with fail
    refine (awake_any _).mono ?_
    rintro e w2 ⟨rfl, hb2⟩
    go_wp2
    go_ret
    exact ⟨rfl, hb2⟩
  have d0 : decide (30 < len) = false := decide_eq_false h0
  by_cases h1 : 30 < len2
  · have d1 : decide (30 < len2) = true := decide_eq_true h1
    go_enter Try.func4, Try.ntmps4
    go_wp2_with fail
    refine (awake_any _).mono ?_
    rintro e w2 ⟨rfl, hb2⟩
    go_wp2
    go_ret
    exact ⟨rfl, hb2⟩
  have d1 : decide (30 < len2) = false := decide_eq_false h1
  have hl30 : len ≤ 30 := by omega
  have hl31 : len2 ≤ 30 := by omega
  clear h0 h1
  go_enter Try.func4, Try.ntmps4
  go_wp2_with fail
  refine (new_any 8 (by decide) _).mono ?_
  rintro e w1 ⟨⟨db, kg, hg, rfl, hb, hk, hh, dd⟩, L1⟩
  have hlt1 := dd.lt
  have H1 : Hid (Lw w w1 db kg hg 8 (newS 8)) := Lib.hid ⟨dd, L1, hb, hk, hh⟩
  clear dd L1 d0 d1
  go_upto_region 8 with (fail)
  refine Rd.name_world ?_
  intro w2 hw
  have b0 : blk w2 w1.heap.size = some (.cells (cs .i64 (List.replicate 8 0)) 52 (0, 0)) := by rw [hw]; exact blk3_0 _ _ _ _
  have b1 : blk w2 (w1.heap.size + 1) = some (.cells (cs .i64 (List.replicate 8 0)) 52 (0, 0)) := by rw [hw]; exact blk3_1 _ _ _ _
  have b2 : blk w2 (w1.heap.size + 1 + 1) = some (.cells (bb (List.replicate 8 false)) 53 (0, 0)) := by rw [hw]; exact blk3_2 _ _ _ _
  have hb2 : Below w1.heap.size w1 w2 := by
    rw [hw]
    repeat' (first | (with_reducible exact Below.refl _ _) | (with_reducible refine Rd.below_step ?_ (by assumption)) | (with_reducible refine Rd.below_alloc ?_ _) | (with_reducible refine Rd.below_drewN ?_ _) | (with_reducible refine Below.drew ?_) | (with_reducible refine Below.setCell ?_ ?_ _) | (with_reducible refine Rd.below_setRow ?_ ?_ _) | go_size | (simp only [World.size_alloc]; omega) | omega)
  have hwo := H1.out.below.size
  have HS : Hid (Fl w w2 db kg hg w1.heap.size (w1.heap.size + 1) (w1.heap.size + 1 + 1) (newS 8) (List.replicate 8 0) (List.replicate 8 0) (List.replicate 8 false)) := Lib.hid ⟨H1.out.bel hb2, b0, b1, b2, ⟨rfl, rfl, rfl⟩, ⟨by omega, by omega, by omega⟩, ⟨by omega, by omega, by omega⟩, ⟨by omega, by omega, by omega⟩, ⟨by omega, by omega, by omega⟩, by omega, by omega, by omega⟩
  have HP : Hid (PA (newS 8) (List.replicate 8 0) 0) := Lib.hid ⟨rfl, rfl, rfl, fun j hj => by rw [rd_new hj, show (List.replicate 8 (0 : Int)).getD j 0 = 0 by (rw [List.getD_eq_getElem?_getD, List.getElem?_replicate]; split <;> rfl)]; rfl, fun j => by
    have e : (List.replicate 8 (0 : Int)).getD j 0 = 0 := by
      rw [List.getD_eq_getElem?_getD, List.getElem?_replicate]
      split <;> rfl
    rw [e]
    exact ⟨by decide, by decide⟩⟩
  obtain ⟨po, hpo⟩ : ∃ p, w1.heap.size = p := ⟨_, rfl⟩
  obtain ⟨pn, hpn⟩ : ∃ p, po + 1 = p := ⟨_, rfl⟩
  obtain ⟨ph, hph⟩ : ∃ p, pn + 1 = p := ⟨_, rfl⟩
  rw [hpo, hpn, hph] at HS
  rw [hpo] at hlt1 hwo ⊢
  rw [hpn, hph]
  clear hw hb2 b0 b1 b2 hpo hpn hph H1
  go_wp2_with fail
  go_loopw [12] (fun i X => ∃ (k : Nat) (s : DS) (os : List Int), k ≤ len ∧ i = .int .i64 k ∧ Hid (Fl w X db kg hg po pn ph s os (List.replicate 8 0) (List.replicate 8 false)) ∧ Hid (PA s os k)) (fun i _ => len - (intOf i).toNat)
  case atStart => exact ⟨0, _, _, by omega, rfl, HS, HP⟩
  case round =>
    clear HS HP
    obtain ⟨k, s, os, hk9, rfl, HS, HP⟩ := hrel
    rename World => X
    by_cases hlt : k < len
    · have hlt' : (k : Int) < len := by omega
      obtain ⟨ab, ao, rfl, hab, hac⟩ := Ints.cell_of HRD.out (k := k) (by rw [HZL.out]; exact hlt) (by omega)
      have dx := (HS.out.l.below.cell (p := ⟨ab, ao + k, none⟩) hab).trans (hac k (by rw [HZL.out]; exact hlt))
      have hxx := Ints.getD_in HZ.out k
      generalize zs.getD k 0 = x at dx hxx
      clear hac
      obtain ⟨q, hq⟩ : ∃ q : Nat, x % 8 = q := ⟨(x % 8).toNat, by omega⟩
      have hq8 : q < 8 := by omega
      have HQ := Lib.hid hq
      have hv9 : (100 : Int) + (k : Int) = ((100 + k : Nat) : Int) := by omega
      obtain ⟨v, hv⟩ : ∃ v, 100 + k = v := ⟨_, rfl⟩
      rw [hv] at hv9
      have hv1 : 1 ≤ v := by omega
      have hv2 : v ≤ 400 := by omega
      clear hq hv
      go_wp2_with fail
      refine (Alk.round_any x 8 _ hxx.1 hxx.2 (by omega) (by omega)).mono ?_
      rintro e _ ⟨rfl, rfl⟩
      rw [HQ.out]
      clear dx hxx HQ
      go_wp2_with fail
      refine (sector_any v (by omega) _).mono ?_
      rintro e X1 ⟨rfl, hbl, hb1⟩
      have H1 := Lib.hid (HS.out.bel hb1)
      have hl := HS.out.l.d.lt
      have HB := Lib.hid hbl
      have hsz := blk_lt hbl
      obtain ⟨p, hp⟩ : ∃ p, X.heap.size = p := ⟨_, rfl⟩
      rw [hp] at HB hsz hl ⊢
      clear hbl hb1 hp HS
      go_wp2_with fail
      refine (write_any q (secL v) p 0 32 _ H1.out.l.d HP.out.2.1 hq8 (secL_len v) (by rw [HP.out.1]; decide) (by rw [HP.out.1]; decide) (by rw [HP.out.2.2.1]; omega) hsz (by simp; omega) (src_of HB.out)).mono ?_
      rintro e X2 ⟨rfl, d2, t2⟩
      have H2 : Hid (Fl w X2 db kg hg po pn ph (wrS s q (secL v)) os (List.replicate 8 0) (List.replicate 8 false)) := Lib.hid (H1.out.tn d2 t2)
      have HP2 := Lib.hid (pa_write HP.out H1.out.len.1 H1.out.l.d.hl.1 hq8 hv1 hv2)
      clear d2 t2 H1 HB hsz hl HP
      have co := (H2.out.cO hq8).1
      have fo := (H2.out.cO hq8).2
      go_wp2
      exact ⟨⟨k + 1, _, _, by omega, by go_num, Lib.hid (H2.out.setO q v), HP2⟩, by simp [intOf]; omega⟩
    · obtain rfl : k = len := by omega
      go_wp2_with fail
      refine (flush_any _ HS.out.l.d HP.out.2.1).mono ?_
      rintro e X1 ⟨rfl, d2, t2⟩
      have H1 : Hid (Fl w X1 db kg hg po pn ph (flN s 8) os (List.replicate 8 0) (List.replicate 8 false)) := Lib.hid (HS.out.tn d2 t2)
      have hfd : (flN s 8).dn = false := (fl_nums s 8).2.2.1.trans HP.out.2.1
      have HPB := Lib.hid (pb_start HP.out HS.out.l.d.kl.1 HS.out.l.d.hl.1 (len2 : Int) mask)
      clear d2 t2 HS HP
      go_wp2_with fail
      refine (fuse_any (len2 : Int) mask _ H1.out.l.d hfd (by omega)).mono ?_
      rintro e X2 ⟨rfl, d2, t2⟩
      have H2 := Lib.hid (H1.out.tn d2 t2)
      clear d2 t2 H1 hfd
      obtain ⟨s2, es2⟩ : ∃ s2, ({ flN s 8 with lf := (len2 : Int), ms := mask } : DS) = s2 := ⟨_, rfl⟩
      rw [es2] at H2 HPB
      clear es2
      go_wp2_with fail
      go_loopw [14] (fun i X => ∃ (j : Nat) (s : DS) (ns : List Int) (hs : List Bool), j ≤ len2 ∧ i = .int .i64 j ∧ Hid (Fl w X db kg hg po pn ph s os ns hs) ∧ Hid (PB s os ns hs ((len2 : Int) - j) mask (k + j))) (fun i _ => len2 - (intOf i).toNat)
      case atStart => exact ⟨0, _, _, _, by omega, rfl, H2, by simpa [Hid] using HPB⟩
      case round =>
        clear H2 HPB
        obtain ⟨j, s, ns, hs, hj9, rfl, HS, HP⟩ := hrel
        rename World => X
        by_cases hlt : j < len2
        · have hlt' : (j : Int) < len2 := by omega
          obtain ⟨ab, ao, rfl, hab, hac⟩ := Ints.cell_of HRY.out (k := j) (by rw [HYL.out]; exact hlt) (by omega)
          have dx := (HS.out.l.below.cell (p := ⟨ab, ao + j, none⟩) hab).trans (hac j (by rw [HYL.out]; exact hlt))
          have hxx := Ints.getD_in HY.out j
          generalize ys.getD j 0 = x at dx hxx
          clear hac
          obtain ⟨q, hq⟩ : ∃ q : Nat, x % 8 = q := ⟨(x % 8).toNat, by omega⟩
          have hq8 : q < 8 := by omega
          have HQ := Lib.hid hq
          have hv9 : (200 : Int) + (j : Int) = ((200 + j : Nat) : Int) := by omega
          obtain ⟨v, hv⟩ : ∃ v, 200 + j = v := ⟨_, rfl⟩
          rw [hv] at hv9
          have hv1 : 1 ≤ v := by omega
          have hv2 : v ≤ 400 := by omega
          clear hq hv
          go_wp2_with fail
          refine (Alk.round_any x 8 _ hxx.1 hxx.2 (by omega) (by omega)).mono ?_
          rintro e _ ⟨rfl, rfl⟩
          rw [HQ.out]
          clear dx hxx HQ
          go_wp2_with fail
          refine (sector_any v (by omega) _).mono ?_
          rintro e X1 ⟨rfl, hbl, hb1⟩
          have H1 := Lib.hid (HS.out.bel hb1)
          have hl := HS.out.l.d.lt
          have HB := Lib.hid hbl
          have hsz := blk_lt hbl
          obtain ⟨p, hp⟩ : ∃ p, X.heap.size = p := ⟨_, rfl⟩
          rw [hp] at HB hsz hl ⊢
          clear hbl hb1 hp HS
          go_wp2_with fail
          refine (write_any q (secL v) p 0 32 _ H1.out.l.d HP.out.dn hq8 (secL_len v) (by rw [HP.out.lf]; omega) (by rw [HP.out.lf]; omega) (by rw [HP.out.wr]; omega) hsz (by simp; omega) (src_of HB.out)).mono ?_
          rintro e X2 ⟨rfl, d2, t2⟩
          have H2 : Hid (Fl w X2 db kg hg po pn ph (wrS s q (secL v)) os ns hs) := Lib.hid (H1.out.tn d2 t2)
          have hpb := pb_write HP.out H1.out.len.2.1 H1.out.len.2.2 H1.out.l.d.hl.1 hq8 hv1 hv2 (by omega)
          rw [show (len2 : Int) - j - 1 = (len2 : Int) - ((j + 1 : Nat) : Int) by omega, show k + j + 1 = k + (j + 1) by omega] at hpb
          have HP2 := Lib.hid hpb
          clear d2 t2 H1 HB hsz hl HP hpb
          have cn := (H2.out.cN hq8).1
          have fn_ := (H2.out.cN hq8).2
          have H3 := Lib.hid (H2.out.setN q v)
          have ch := (H3.out.cH hq8).1
          have fh := (H3.out.cH hq8).2
          go_wp2
          exact ⟨⟨j + 1, _, _, _, by omega, by go_num, Lib.hid (H3.out.setH q true), HP2⟩, by simp [intOf]; omega⟩
        · obtain rfl : j = len2 := by omega
          have hl0 : s.lf = 0 := by rw [HP.out.lf]; omega
          go_wp2_with fail
          refine (sector_any 1 (by decide) _).mono ?_
          rintro e X1 ⟨rfl, hbl, hb1⟩
          have H1 := Lib.hid (HS.out.bel hb1)
          clear hbl hb1 HS
          go_wp2_with fail
          refine (write_down 0 (secL 1) _ 32 _ H1.out.l.d HP.out.dn (by decide) hl0).mono ?_
          rintro e X2 ⟨rfl, d2, t2⟩
          have H2 := Lib.hid (H1.out.tn d2 t2)
          clear d2 t2 H1
          obtain ⟨sd, esd⟩ : ∃ sd, ({ s with dn := true } : DS) = sd := ⟨_, rfl⟩
          have hdn : sd.dn = true := by rw [← esd]
          have hms : sd.ms = mask := by rw [← esd]; exact HP.out.ms
          have hkk : ∀ j, j < 8 → K_ sd j = wantL (os.getD j 0) := by rw [← esd]; exact HP.out.k
          have hhh : ∀ j, j < 8 → (H_ sd j).1 = hs.getD j false ∧ (hs.getD j false = true → (H_ sd j).2 = wantL (ns.getD j 0)) := by rw [← esd]; exact HP.out.h
          have hwr : sd.wr = ((k + j : Nat) : Int) := by rw [← esd]; exact HP.out.wr
          have HKK := Lib.hid hkk
          have HHH := Lib.hid hhh
          have HNB := Lib.hid HP.out.nb
          have HPC : Hid (PC sd os ns hs 0 sd os) := Lib.hid ⟨fun j hj => absurd hj (by omega), fun j _ _ => ⟨rfl, rfl, rfl⟩, HP.out.ob⟩
          rw [esd] at H2
          have HWR := Lib.hid hwr
          clear esd HP hkk hhh hl0 hwr
          have CD := down_any _ H2.out.l.d
          rw [hdn] at CD
          have HCD := Lib.hid CD
          clear CD
          go_wp2_with fail
          refine HCD.out.mono ?_
          rintro e _ ⟨rfl, rfl⟩
          clear HCD
          have hX2 := H2.out.l.below.size
          have HDN := Lib.hid hdn
          have HMS := Lib.hid hms
          clear hdn hms
          go_wp2_with fail
          go_loopw [16, 17, 18] (fun v c i Y => ∃ (m cn : Nat) (L : List Nat) (t : DS) (ot : List Int), m ≤ 8 ∧ cn ≤ m ∧ L.length ≤ m ∧ i = .int .i64 m ∧ c = .int .i64 cn ∧ Hid (upN sd m = (t, cn, L)) ∧ Hid (Fl w Y db kg hg po pn ph sd ot ns hs) ∧ Hid (PC sd os ns hs m t ot) ∧ X2.heap.size ≤ Y.heap.size ∧ Hid (Y.ownsRow X2.heap.size 3 1 v L.length (DkC.iv L))) (fun _ _ i _ => 8 - (intOf i).toNat)
          case atStart => exact ⟨0, 0, [], sd, os, by omega, by omega, by simp, rfl, rfl, Lib.hid rfl, H2, HPC, Nat.le_refl _, Lib.hid (World.ownsRow_nil _ _ _ _)⟩
          case round =>
            clear HPC
            obtain ⟨m, cn, L, t, ot, hm, hcn, hLm, rfl, rfl, HU, HF, HPC, hgrow, HO⟩ := hrel
            rename World => Y
            rename Value => v
            obtain ⟨va, vc, rfl, -, -⟩ := owns_val HO.out
            have hlens := up_lens sd m
            rw [HU.out] at hlens
            have hstep := up_step sd m
            rw [HU.out] at hstep
            simp only at hstep hlens
            have HL8 : Hid (t.K.length = 8 ∧ t.H.length = 8) := Lib.hid ⟨hlens.1.trans H2.out.l.d.kl.1, hlens.2.trans H2.out.l.d.hl.1⟩
            have HST := Lib.hid hstep
            clear hlens hstep
            by_cases hm8 : m < 8
            · have hm8' : (m : Int) < 8 := by omega
              have ch := (HF.out.cH hm8).1
              have hrest := HPC.out.rest m (Nat.le_refl _) hm8
              have hflag : (H_ t m).1 = hs.getD m false := by rw [hrest.1]; exact (HHH.out m hm8).1
              obtain ⟨q, hq⟩ : ∃ q, hs.getD m false = q := ⟨_, rfl⟩
              rw [hq] at ch hflag
              have HQ := Lib.hid hq
              have HFL := Lib.hid hflag
              clear hq hflag hrest
              cases q with
              | false =>
                have HU2 : Hid (upN sd (m + 1) = (t, cn, L)) := Lib.hid (by rw [HST.out, if_neg (by rw [HFL.out]; decide)])
                have HP2 := Lib.hid (pc_no HPC.out HKK.out hm8 (by rw [(HHH.out m hm8).1]; exact HQ.out))
                go_wp2
                exact ⟨⟨m + 1, cn, L, t, ot, by omega, by omega, by omega, by go_num, rfl, HU2, HF, HP2, hgrow, HO⟩, by simp [intOf]; omega⟩
              | true =>
                by_cases hbit : bitX sd.ms cn
                · have HU2 : Hid (upN sd (m + 1) = (kpS t m, cn + 1, L ++ [m])) := Lib.hid (by rw [HST.out, if_pos HFL.out, if_pos hbit])
                  have hb1 : (bits .and .i64 (mask / 2 ^ (cn % 32)) 1 == 1) = true := by
                    unfold bitX at hbit
                    rw [HMS.out] at hbit
                    simpa using hbit
                  have HP2 := Lib.hid (pc_keep HPC.out hm8 HL8.out.2 HL8.out.1 HF.out.len.1 ((HHH.out m hm8).2 HQ.out) (HNB.out m))
                  have hszY : X2.heap.size ≤ Y.heap.size ∧ po < X2.heap.size ∧ pn < X2.heap.size ∧ ph < X2.heap.size ∧ db < X2.heap.size ∧ kg < X2.heap.size ∧ hg < X2.heap.size := by
                    have h1 := blk_lt H2.out.o
                    have h2 := blk_lt H2.out.n
                    have h3 := blk_lt H2.out.h
                    have h4 := H2.out.l.d.lt
                    exact ⟨hgrow, h1, h2, h3, h4.1, h4.2.1, h4.2.2⟩
                  clear hbit
                  go_wp2_with (at_builtin; refine app_int rfl (.tmp 121) (.tmp 123) rfl X2.heap.size _ _ _ rfl (HO.out.alloc _) Y.heap.size 1 m rfl (blk_alloc_at _ _ _ rfl) (by omega) (by simp; omega) ?_; intro v4 w4 ho4 hg4; obtain ⟨a4, k4, e4, -, -⟩ := owns_val ho4; subst e4; have HO4 := Lib.hid ho4; have keep4 : ∀ z, z < X2.heap.size → blk w4 z = blk Y z := (fun z hz => (hg4.block z (by simp; omega) fun e => by have := (HO.out.lt z e.symm).1; omega).trans (blk_alloc_old _ _ _ (by omega))); have g4s : X2.heap.size ≤ w4.heap.size := (by have h8 := hg4.size; simp at h8; omega); have F4 : Hid (Fl w w4 db kg hg po pn ph sd ot ns hs) := Lib.hid ⟨⟨HF.out.l.d.kept' (keep4 _ hszY.2.2.2.2.1) (keep4 _ hszY.2.2.2.2.2.1) (keep4 _ hszY.2.2.2.2.2.2), (HF.out.l.below.alloc (by omega) _).grown hg4 (by simp; omega) (fun j hj => by have := (HO.out.lt j hj).1; omega), HF.out.l.lo⟩, (keep4 _ hszY.2.1).trans HF.out.o, (keep4 _ hszY.2.2.1).trans HF.out.n, (keep4 _ hszY.2.2.2.1).trans HF.out.h, HF.out.len, HF.out.lo, HF.out.ne, HF.out.nd⟩; have c9n := (F4.out.cN hm8).1; have c9o := (F4.out.cO hm8).1; have f9o := (F4.out.cO hm8).2; clear ho4 hg4 keep4)
                  refine ⟨⟨m + 1, cn + 1, L ++ [m], _, _, by omega, by omega, by simp; omega, by go_num, by go_num, HU2, Lib.hid (F4.out.setO m (ns.getD m 0)), HP2, by simp; omega, Lib.hid ?_⟩, by simp [intOf]; omega⟩
                  rw [List.length_append, List.length_singleton]
                  exact own_tn HO4.out (Tn.set (ks := [po]) w4 m (.int .i64 (ns.getD m 0)) (by simp)) (by intro z hz; simp at hz; omega)
                · have HU2 : Hid (upN sd (m + 1) = (clS t m, cn + 1, L)) := Lib.hid (by rw [HST.out, if_pos HFL.out, if_neg hbit])
                  have hb1 : (bits .and .i64 (mask / 2 ^ (cn % 32)) 1 == 1) = false := by
                    unfold bitX at hbit
                    rw [HMS.out] at hbit
                    simpa using hbit
                  have HP2 := Lib.hid (pc_clear HPC.out HKK.out hm8 HL8.out.2)
                  clear hbit
                  go_wp2
                  exact ⟨⟨m + 1, cn + 1, L, _, ot, by omega, by omega, by omega, by go_num, by go_num, HU2, HF, HP2, hgrow, HO⟩, by simp [intOf]; omega⟩
            · obtain rfl : m = 8 := by omega
              have CUP := up_any _ HF.out.l.d HDN.out
              rw [HU.out] at CUP
              simp only at CUP
              obtain ⟨N, hN⟩ : ∃ N, L.length = N := ⟨_, rfl⟩
              rw [hN] at CUP HO hLm ⊢
              have HN := Lib.hid hN
              have HCUP := Lib.hid CUP
              clear CUP hN
              go_wp2_with fail
              refine HCUP.out.mono ?_
              rintro e Z ⟨⟨ua, uc, rfl, hur, -⟩, d2, t2⟩
              have HZ1 := Lib.hid (HF.out.tn d2 t2)
              have HOZ := Lib.hid (own_tn HO.out t2 (by intro z hz; simp at hz; have := H2.out.l.d.lt; omega))
              have hur2 := Lib.hid hur
              clear d2 t2 hur HCUP HF HO
              rw [iv_i64] at hur2 HOZ
              have hro := Reads.of_owns HOZ.out
              have CI := Alk.ints_any ua va N uc N vc _ _ Z hur2.out hro (by omega) (by omega)
              rw [decide_eq_true rfl] at CI
              have HCI := Lib.hid CI
              clear CI hro
              go_wp2_with fail
              refine HCI.out.mono ?_
              rintro e Z1 ⟨rfl, bz⟩
              have HZ2 := Lib.hid (HZ1.out.bel bz)
              clear bz HZ1 HCI HOZ hur2
              go_wp2_with fail
              refine (down_any _ HZ2.out.l.d).mono ?_
              rintro e _ ⟨he, rfl⟩
              replace he : e = .returned (.bool false) := he
              subst he
              have HD8 := Lib.hid HPC.out.done
              have HOB := Lib.hid HPC.out.ob
              clear HPC
              go_wp2_with fail
              go_loopw [19] (fun i V => ∃ d : Nat, d ≤ 8 ∧ i = .int .i64 d ∧ Hid (Fl w V db kg hg po pn ph { t with dn := false, lf := -1, ms := 0 } ot ns hs)) (fun i _ => 8 - (intOf i).toNat)
              case atStart => exact ⟨0, by omega, rfl, HZ2⟩
              case round =>
                clear HZ2
                obtain ⟨d, hd9, rfl, HV⟩ := hrel
                rename World => V
                by_cases hd8 : d < 8
                · have hd8' : (d : Int) < 8 := by omega
                  have hrd : rd ({ t with dn := false, lf := -1, ms := 0 } : DS) d = wantL (ot.getD d 0) := by
                    obtain ⟨e1, e2⟩ := HD8.out d hd8
                    unfold rd
                    rw [show (({ t with dn := false, lf := -1, ms := 0 } : DS).H.getD d (false, [])).1 = false from e1, if_neg (by decide)]
                    exact e2
                  have CR := read_any d V HV.out.l.d rfl hd8
                  rw [hrd] at CR
                  have hob := HOB.out d
                  have co := (HV.out.cO hd8).1
                  obtain ⟨ov, hov⟩ : ∃ v, ot.getD d 0 = v := ⟨_, rfl⟩
                  rw [hov] at CR hob co
                  clear hov hrd
                  go_upto_region 42 with (fail)
                  refine Rd.name_world ?_
                  intro V1 hw1
                  have bZ : blk V1 V.heap.size = some (.cells (us z32).toArray 5 (0, 0)) := by rw [hw1]; exact blk_alloc_at _ _ _ rfl
                  have hbv : Below V.heap.size V V1 := by
                    rw [hw1]
                    repeat' (first | (with_reducible exact Below.refl _ _) | (with_reducible refine Rd.below_step ?_ (by assumption)) | (with_reducible refine Rd.below_alloc ?_ _) | (with_reducible refine Rd.below_drewN ?_ _) | (with_reducible refine Below.drew ?_) | (with_reducible refine Below.setCell ?_ ?_ _) | (with_reducible refine Rd.below_setRow ?_ ?_ _) | go_size | (simp only [World.size_alloc]; omega) | omega)
                  have HV1 := Lib.hid (HV.out.bel hbv)
                  have HBZ := Lib.hid bZ
                  have hcr : Hid (∀ Z : World, Fl w Z db kg hg po pn ph { t with dn := false, lf := -1, ms := 0 } ot ns hs → Calls Try.prog 22 #[.pointer (some ⟨db, 0, none⟩), .int .i64 d] Z fun e w' => e = .returned (.tuple #[.slice (some ⟨Z.heap.size, 0, none⟩) 32 32, .int .i64 0]) ∧ blk w' Z.heap.size = some (.cells (us (wantL ov)).toArray 66 (0, 0)) ∧ Below Z.heap.size Z w') := Lib.hid fun Z hZ => by
                    have h9 := read_any d Z hZ.l.d rfl hd8
                    have hrd : rd ({ t with dn := false, lf := -1, ms := 0 } : DS) d = wantL (ot.getD d 0) := by
                      obtain ⟨e1, e2⟩ := HD8.out d hd8
                      unfold rd
                      rw [show (({ t with dn := false, lf := -1, ms := 0 } : DS).H.getD d (false, [])).1 = false from e1, if_neg (by decide)]
                      exact e2
                    rw [hrd] at h9
                    have hcell := (hZ.cO hd8).1
                    have hcell2 := (HV.out.cO hd8).1
                    rw [show ot.getD d 0 = ov by rw [hcell2] at co; injection co with co; injection co] at h9
                    exact h9
                  have co1 : V1.cell? ⟨po, d, none⟩ = some (.int .i64 ov) := (hbv.cell (p := ⟨po, d, none⟩) (blk_lt HV.out.o)).trans co
                  obtain ⟨pz, hpz⟩ : ∃ p, V.heap.size = p := ⟨_, rfl⟩
                  rw [hpz] at HBZ ⊢
                  clear hw1 hbv bZ hpz CR co HV
                  by_cases hpos : ov = 0
                  · subst hpos
                    go_wp2_with fail
                    refine (hcr.out _ HV1.out).mono ?_
                    rintro e V2 ⟨rfl, hbl, hb2⟩
                    have HV2 := Lib.hid (HV1.out.bel hb2)
                    have hx := (blk_below hb2 _ (blk_lt HBZ.out)).trans HBZ.out
                    have ew : wantL 0 = z32 := rfl
                    rw [ew] at hbl
                    have sx := str_of (c := 32) hbl z32_len z32_bd
                    have sy := str_of (c := 32) hx z32_len z32_bd
                    obtain ⟨py, hpy⟩ : ∃ p, V1.heap.size = p := ⟨_, rfl⟩
                    rw [hpy] at sx ⊢
                    clear hbl hb2 hx hpy HV1 HBZ co1 hcr
                    generalize bytesOf z32 = str at sx sy
                    go_wp2
                    exact ⟨⟨d + 1, by omega, by go_num, HV2⟩, by simp [intOf]; omega⟩
                  · have dpos : (ov == 0) = false := by simpa using hpos
                    have dpos2 : (ov != 0) = true := by simpa using hpos
                    obtain ⟨V9, rfl⟩ := Int.eq_ofNat_of_zero_le hob.1
                    have hV1 : 1 ≤ V9 := by omega
                    clear hpos
                    go_wp2_with fail
                    refine (sector_any V9 (by omega) _).mono ?_
                    rintro e V2 ⟨rfl, hbl, hb2⟩
                    have HV2 := Lib.hid (HV1.out.bel hb2)
                    have HX := Lib.hid hbl
                    obtain ⟨py, hpy⟩ : ∃ p, V1.heap.size = p := ⟨_, rfl⟩
                    rw [hpy] at HX ⊢
                    clear hbl hb2 hpy HV1 HBZ co1
                    go_wp2_with fail
                    refine (hcr.out _ HV2.out).mono ?_
                    rintro e V3 ⟨rfl, hbl, hb3⟩
                    have HV3 := Lib.hid (HV2.out.bel hb3)
                    have hx := (blk_below hb3 _ (blk_lt HX.out)).trans HX.out
                    rw [want_pos hV1] at hbl
                    have sx := str_of (c := 32) hbl (secL_len V9) (secL_bd V9)
                    have sy := str_of (c := 32) hx (secL_len V9) (secL_bd V9)
                    obtain ⟨pq, hpq⟩ : ∃ p, V2.heap.size = p := ⟨_, rfl⟩
                    rw [hpq] at sx ⊢
                    clear hbl hb3 hx hpq HV2 HX hcr
                    generalize bytesOf (secL V9) = str at sx sy
                    go_wp2
                    exact ⟨⟨d + 1, by omega, by go_num, HV3⟩, by simp [intOf]; omega⟩
                · obtain rfl : d = 8 := by omega
                  go_wp2_with fail
                  refine (sector_any 1 (by decide) _).mono ?_
                  rintro e V1 ⟨rfl, hbl, hb1⟩
                  have H1 := Lib.hid (HV.out.bel hb1)
                  have hl := HV.out.l.d.lt
                  have HB := Lib.hid hbl
                  have hsz := blk_lt hbl
                  obtain ⟨p, hp⟩ : ∃ p, V.heap.size = p := ⟨_, rfl⟩
                  rw [hp] at HB hsz hl ⊢
                  have hup := up_dn sd 8
                  rw [HU.out] at hup
                  have hwr9 : t.wr = ((k + j : Nat) : Int) := hup.2.2.1.trans HWR.out
                  clear hbl hb1 hp HV hup
                  go_wp2_with fail
                  refine (write_any 0 (secL 1) p 0 32 _ H1.out.l.d rfl (by decide) (secL_len 1) (by show (-1 : Int) ≠ 0; decide) (by show -1 ≤ (-1 : Int) ∧ (-1 : Int) ≤ 1048576; decide) (by show 0 ≤ t.wr ∧ t.wr ≤ 1000000; rw [hwr9]; omega) hsz (by simp; omega) (src_of HB.out)).mono ?_
                  rintro e V2 ⟨rfl, d2, t2⟩
                  have H3 := Lib.hid (H1.out.tn d2 t2)
                  clear d2 t2 H1 HB hsz hl
                  go_wp2_with fail
                  refine (awake_any _).mono ?_
                  rintro e V3 ⟨rfl, b1⟩
                  have L5 : Below w.heap.size w V3 := H3.out.l.below.trans (b1.mono H3.out.l.below.size)
                  clear b1
                  go_wp2
                  go_ret
                  exact ⟨rfl, L5⟩
end Go.Proofs.Ytajoajblmaopjaa.DkG

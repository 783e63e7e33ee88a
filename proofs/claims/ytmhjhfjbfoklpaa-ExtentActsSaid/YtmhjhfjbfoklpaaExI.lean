/-
  The document's own extent: Used, Free; Take of fewer than one.
-/
import Derived.Test.YtmhjhfjbfoklpaaExH
import Derived.Test.YtmhjhfjbfoklpaaExG
import Derived.Test.YtmhjhfjbfoklpaaApp
namespace Go.Proofs.Ytmhjhfjbfoklpaa.ExI
open Go.RowKit Go.Shelf Rd Go.Proofs.Ytmhjhfjbfoklpaa.Row It ExM ExA ExB ExC ExD ExE ExH
open ExG (cnt)
set_option linter.unusedVariables false
set_option linter.unusedSimpArgs false
set_option maxRecDepth 10000
variable {b g cap : Nat} {bs : List Bool}
/-! Used -/
theorem cnt_take {bs : List Bool} {k : Nat} (h : k < bs.length) : cnt (bs.take (k + 1)) = cnt (bs.take k) + if b_ bs k = true then 1 else 0 := by
  have h2 : b_ bs k = bs[k] := by simp [b_, List.getD, h]
  unfold cnt
  rw [← List.take_append_getElem h, List.count_append, h2]
  cases bs[k] <;> simp
set_option maxHeartbeats 1000000 in
theorem rused_any (w : World) (h : Mr w b g cap bs) :
    Calls Try.prog 17 #[.pointer (some ⟨b, 0, none⟩)] w fun e w' => e = .returned (.int .i64 (cnt bs : Nat)) ∧ Below w.heap.size w w' := by
  have H := Lib.hid h
  have hs2 := h.small.2.1
  obtain ⟨N, hN⟩ : ∃ n, bs.length = n := ⟨_, rfl⟩
  have HN := Lib.hid hN
  rw [hN] at hs2
  clear h hN
  go_enter Try.func17, Try.ntmps17
  go_wp2_with fail
  go_loopw [3, 4] (fun u i X => ∃ (k c : Nat), k ≤ N ∧ c ≤ k ∧ i = .int .i64 k ∧ u = .int .i64 c ∧ Hid (c = cnt (bs.take k)) ∧ Hid (Below w.heap.size w X)) (fun _ i _ => N - (intOf i).toNat)
  case atStart => exact ⟨0, 0, by omega, by omega, rfl, rfl, Lib.hid (by simp [cnt]), Lib.hid (Below.refl _ _)⟩
  case round =>
    obtain ⟨k, c, hk, hc, rfl, rfl, HC, HB⟩ := hrel
    rename World => X
    have HM := Lib.hid (H.out.bel HB.out)
    have c0 := HM.out.c0
    rw [HN.out] at c0
    by_cases hlt : k < N
    · have hlt' : (k : Int) < N := by omega
      have ck := HM.out.cB (i := k) (by rw [HN.out]; exact hlt)
      have HT := Lib.hid (cnt_take (bs := bs) (k := k) (by rw [HN.out]; exact hlt))
      obtain ⟨q, hq⟩ : ∃ q, b_ bs k = q := ⟨_, rfl⟩
      rw [hq] at ck HT
      clear hq
      cases q with
      | true =>
        go_wp2
        exact ⟨⟨k + 1, c + 1, by omega, by omega, by go_num, by go_num, Lib.hid (by rw [HT.out, HC.out]; simp), HB⟩, by simp [intOf]; omega⟩
      | false =>
        go_wp2
        exact ⟨⟨k + 1, c, by omega, by omega, by go_num, rfl, Lib.hid (by rw [HT.out, HC.out]; simp), HB⟩, by simp [intOf]; omega⟩
    · obtain rfl : k = N := by omega
      have HE : Hid (cnt bs = c) := Lib.hid (by rw [HC.out, ← HN.out, List.take_length])
      go_wp2
      go_ret
      exact ⟨by rw [HE.out]; first | done | rfl, HB.out⟩
/-! Free -/
def fin : List Bool → Nat → Nat → List (Nat × Nat)
  | [], _, _ => []
  | true :: r, a, n => (if n = 0 then [] else [(a - n, n)]) ++ fin r (a + 1) 0
  | false :: r, a, n => fin r (a + 1) (n + 1)
def trn : List Bool → Nat → Nat
  | [], n => n
  | true :: r, _ => trn r 0
  | false :: r, n => trn r (n + 1)
def flu (a t : Nat) : List (Nat × Nat) := if t = 0 then [] else [(a - t, t)]
theorem scan_fin : ∀ (r : List Bool) (a n : Nat), scan r a n = fin r a n ++ flu (a + r.length) (trn r n)
  | [], a, n => by by_cases h : n = 0 <;> simp [scan, fin, trn, flu, h]
  | true :: r, a, n => by
    have := scan_fin r (a + 1) 0
    unfold scan fin trn
    rw [this, List.append_assoc, List.length_cons, show a + 1 + r.length = a + (r.length + 1) by omega]
  | false :: r, a, n => by
    have := scan_fin r (a + 1) (n + 1)
    unfold scan fin trn
    rw [this, List.length_cons, show a + 1 + r.length = a + (r.length + 1) by omega]
theorem snoc_false : ∀ (r : List Bool) (a n : Nat), fin (r ++ [false]) a n = fin r a n ∧ trn (r ++ [false]) n = trn r n + 1
  | [], a, n => ⟨rfl, rfl⟩
  | true :: r, a, n => by
    have := snoc_false r (a + 1) 0
    rw [List.cons_append]
    unfold fin trn
    rw [this.1, this.2]
    exact ⟨rfl, rfl⟩
  | false :: r, a, n => by
    have := snoc_false r (a + 1) (n + 1)
    rw [List.cons_append]
    unfold fin trn
    exact this
theorem snoc_true : ∀ (r : List Bool) (a n : Nat), fin (r ++ [true]) a n = fin r a n ++ flu (a + r.length) (trn r n) ∧ trn (r ++ [true]) n = 0
  | [], a, n => by by_cases h : n = 0 <;> simp [fin, trn, flu, h]
  | true :: r, a, n => by
    have := snoc_true r (a + 1) 0
    rw [List.cons_append]
    unfold fin trn
    rw [this.1, this.2, List.append_assoc, List.length_cons, show a + 1 + r.length = a + (r.length + 1) by omega]
    exact ⟨rfl, rfl⟩
  | false :: r, a, n => by
    have := snoc_true r (a + 1) (n + 1)
    rw [List.cons_append]
    unfold fin trn
    rw [this.1, this.2, List.length_cons, show a + 1 + r.length = a + (r.length + 1) by omega]
    exact ⟨rfl, rfl⟩
/-- after i of them: the runs that are done, and how many free ones end here -/
structure At_ (bs : List Bool) (i : Nat) (F : List (Nat × Nat)) (t : Nat) : Prop where
  f : fin (bs.take i) 0 0 = F
  t : trn (bs.take i) 0 = t
theorem take_b {bs : List Bool} {i : Nat} (h : i < bs.length) : bs.take (i + 1) = bs.take i ++ [b_ bs i] := by
  have h2 : b_ bs i = bs[i] := by simp [b_, List.getD, h]
  rw [h2, List.take_append_getElem h]
theorem at_true {bs : List Bool} {i t : Nat} {F : List (Nat × Nat)} (h : At_ bs i F t) (hi : i < bs.length) (hb : b_ bs i = true) : At_ bs (i + 1) (F ++ flu i t) 0 := by
  have e := take_b hi
  rw [hb] at e
  have := snoc_true (bs.take i) 0 0
  rw [h.f, h.t, Nat.zero_add, List.length_take, Nat.min_eq_left (by omega)] at this
  exact ⟨by rw [e]; exact this.1, by rw [e]; exact this.2⟩
theorem at_false {bs : List Bool} {i t : Nat} {F : List (Nat × Nat)} (h : At_ bs i F t) (hi : i < bs.length) (hb : b_ bs i = false) : At_ bs (i + 1) F (t + 1) := by
  have e := take_b hi
  rw [hb] at e
  have := snoc_false (bs.take i) 0 0
  rw [h.f, h.t] at this
  exact ⟨by rw [e]; exact this.1, by rw [e]; exact this.2⟩
theorem at_prev {bs : List Bool} {i t : Nat} {F : List (Nat × Nat)} (h : At_ bs (i + 1) F t) (hi : i < bs.length) : (b_ bs i = true → t = 0) ∧ (b_ bs i = false → 0 < t) := by
  have e := take_b hi
  constructor
  · intro hb
    rw [hb] at e
    have := snoc_true (bs.take i) 0 0
    rw [← e, h.t] at this
    exact this.2
  · intro hb
    rw [hb] at e
    have := snoc_false (bs.take i) 0 0
    rw [← e, h.t] at this
    omega
theorem at_end {bs : List Bool} {i t : Nat} {F : List (Nat × Nat)} (h : At_ bs i F t) (hi : i = bs.length) : runs bs = F ++ flu i t := by
  subst hi
  have h1 := h.f
  have h2 := h.t
  rw [List.take_length] at h1 h2
  have := scan_fin bs 0 0
  rw [h1, h2, Nat.zero_add] at this
  exact this
theorem pv_last {F : List (Nat × Nat)} {a t u : Nat} : (pv (F ++ [(a, t)])).set (F.length * 2 + 1) (.int .i64 (u : Int)) = pv (F ++ [(a, u)]) := by
  rw [pv_app, pv_app, List.set_append_right _ _ (by rw [pv_len]; omega), pv_len, show F.length * 2 + 1 - F.length * 2 = 1 by omega]
  rfl
theorem own_put {X : World} {B e s m gl cap j : Nat} {xs : List Value} (u : Value) (h : X.ownsRow B e s (.slice (some ⟨gl, 0, none⟩) m cap) m xs) (hj : j < m * s) :
    (X.setCell ⟨gl, j, none⟩ u).ownsRow B e s (.slice (some ⟨gl, 0, none⟩) m cap) m (xs.set j u) ∧ X.frozen? ⟨gl, j, none⟩ = false ∧ X.cell? ⟨gl, j, none⟩ = xs[j]? ∧ B ≤ gl := by
  obtain ⟨hl, hr⟩ := h
  rcases hr with ⟨h1, -⟩ | ⟨g, c2, cur, e1, hB, hb, hn, hm, hc, ht⟩
  · cases h1
  · injection e1 with e1 _ e3
    injection e1 with e1
    injection e1 with e1
    subst e1 e3
    have hb' : blk X gl = some (.cells cur e (0, 0)) := hb
    refine ⟨⟨by rw [List.length_set]; exact hl, Or.inr ⟨gl, cap, _, rfl, hB, blk_set X gl j u cur _ hb', hn, hm, by simpa using hc, ?_⟩⟩, blk_frozen hb' j, ?_, hB⟩
    · rw [Array.toList_setIfInBounds, List.take_set, ht]
    · rw [blk_cell hb', ← ht, List.getElem?_take, if_pos hj, Array.getElem?_toList]
theorem app_two {ops : Array Oper} {rest : List Oper} {o : Oper} {a : Act} {w : World} {Q : Exit → Act → World → Prop} (hgd : o.guard = none) (s x : Operand)
    (ho : o.op = .call { callee := .builtin .append, args := #[s, x], argTypes := #[30, 30] })
    (base : Nat) (v : Value) (m : Nat) (r : List (Nat × Nat)) (hs : a.eval s = v) (hown : w.ownsRow base 48 2 v m (pv r))
    (gx : Nat) (cx : Nat) (y : Nat × Nat) (hx : a.eval x = .slice (some ⟨gx, 0, none⟩) 1 cx) (hg : blk w gx = some (.cells #[.int .i64 (y.1 : Int), .int .i64 (y.2 : Int)] 48 (0, 0))) (hm : m ≤ 1000000) (hbase : base ≤ w.heap.size)
    (h : ∀ v' w', w'.ownsRow base 48 2 v' (m + 1) (pv (r ++ [y])) → w.grownBy w' v.ownBlock → wpList Try.prog ops Q rest (a.put o.dst v') w') : wpList Try.prog ops Q (o :: rest) a w := by
  obtain ⟨i0, hi, hz0, hz1, hz2⟩ := info_parts info_two
  refine App.wpList_append_reads w hgd s x 30 ho base 48 i0 _ 2 16 Try.underlying30 hi hz0 hz1 hz2 rfl (by decide) v m (pv r) hs hown (some ⟨gx, 0, none⟩) 1 cx (pv [y]) hx ?_ ?_ (by unfold maxLen; omega) (by omega) hbase ?_
  · refine ⟨by simp [pv], Or.inr ⟨gx, 0, rfl, blk_lt hg, fun j hj => ?_⟩⟩
    rw [Nat.zero_add, blk_cell hg]
    simp [pv]
  · intro u hu
    simp only [pv, List.flatMap_cons, List.flatMap_nil, List.append_nil, List.mem_cons, List.not_mem_nil, or_false] at hu
    rcases hu with rfl | rfl <;> rfl
  · intro v' w' h1 h2
    rw [← pv_app] at h1
    exact h v' w' h1 h2
set_option maxHeartbeats 4000000 in
theorem rfree_any (w : World) (h : Mr w b g cap bs) :
    Calls Try.prog 15 #[.pointer (some ⟨b, 0, none⟩)] w fun e w' => (∃ ad c, e = .returned (.slice ad (runs bs).length c) ∧ PRd w' ad (runs bs) ∧ (runs bs).length ≤ c ∧ ((runs bs = [] ∧ ad = none ∧ c = 0) ∨ ∃ gl, ad = some ⟨gl, 0, none⟩ ∧ w.heap.size ≤ gl)) ∧ Below w.heap.size w w' := by
  have H := Lib.hid h
  have hs2 := h.small.2.1
  obtain ⟨N, hN⟩ : ∃ n, bs.length = n := ⟨_, rfl⟩
  have HN := Lib.hid hN
  rw [hN] at hs2
  clear h hN
  go_enter Try.func15, Try.ntmps15
  go_wp2_with fail
  go_loopw [3, 4] (fun v i X => ∃ (k t m : Nat) (F : List (Nat × Nat)), k ≤ N ∧ t ≤ k ∧ m ≤ k ∧ i = .int .i64 k ∧ Hid (At_ bs k F t ∧ (F ++ flu k t).length = m) ∧ Hid (X.ownsRow w.heap.size 48 2 v m (pv (F ++ flu k t))) ∧ Hid (Below w.heap.size w X)) (fun _ i _ => N - (intOf i).toNat)
  case atStart => exact ⟨0, 0, 0, [], by omega, by omega, by omega, rfl, Lib.hid ⟨⟨rfl, rfl⟩, rfl⟩, Lib.hid (World.ownsRow_nil _ _ _ _), Lib.hid (Below.refl _ _)⟩
  case round =>
    obtain ⟨k, t, m, F, hk, ht, hmk, rfl, HA, HO, HB⟩ := hrel
    rename World => X
    rename Value => v
    have HM := Lib.hid (H.out.bel HB.out)
    have c0 := HM.out.c0
    rw [HN.out] at c0
    obtain ⟨va, vc, rfl, -, -⟩ := owns_val HO.out
    have hsz := HB.out.size
    by_cases hlt : k < N
    · have hlt' : (k : Int) < N := by omega
      have ck := HM.out.cB (i := k) (by rw [HN.out]; exact hlt)
      obtain ⟨q, hq⟩ : ∃ q, b_ bs k = q := ⟨_, rfl⟩
      rw [hq] at ck
      have HQ := Lib.hid hq
      clear hq
      cases q with
      | true =>
        have HA2 := Lib.hid (at_true HA.out.1 (by rw [HN.out]; exact hlt) HQ.out)
        have e0 : (F ++ flu k t) ++ flu (k + 1) 0 = F ++ flu k t := by simp [flu]
        have HE0 := Lib.hid e0
        clear e0
        go_wp2
        exact ⟨⟨k + 1, 0, m, _, by omega, by omega, by omega, by go_num, Lib.hid ⟨HA2.out, by rw [HE0.out]; exact HA.out.2⟩, Lib.hid (by rw [HE0.out]; exact HO.out), HB⟩, by simp [intOf]; omega⟩
      | false =>
        have HA2 := Lib.hid (at_false HA.out.1 (by rw [HN.out]; exact hlt) HQ.out)
        by_cases ht0 : t = 0
        · subst ht0
          have e1 : F ++ flu k 0 = F := by simp [flu]
          have e2 : F ++ flu (k + 1) (0 + 1) = F ++ [(k, 1)] := by simp [flu]
          rw [e1] at HO HA
          have HE2 := Lib.hid e2
          clear e1 e2
          cases k with
          | zero =>
            go_wp2_with (at_builtin; refine app_two rfl (.tmp 14) (.tmp 17) rfl w.heap.size _ _ _ rfl (HO.out.alloc _) X.heap.size 1 (0, 1) rfl (blk_alloc_at _ _ _ rfl) (by omega) (by simp; omega) ?_; intro v4 w4 ho4 hg4; have HG4 := Lib.hid hg4; have HO4 := Lib.hid ho4; clear ho4 hg4)
            have L4 : Below w.heap.size w w4 := (HB.out.alloc (by omega) _).grown HG4.out (by simp; omega) (fun j hj => (HO.out.lt j hj).1)
            exact ⟨⟨1, 1, m + 1, F, by omega, by omega, by omega, rfl, Lib.hid ⟨HA2.out, by rw [HE2.out, List.length_append, HA.out.2]; rfl⟩, Lib.hid (by rw [HE2.out]; exact HO4.out), Lib.hid L4⟩, by simp [intOf]; omega⟩
          | succ j =>
            have hpv := at_prev HA.out.1 (by rw [HN.out]; omega)
            have cj := HM.out.cB (i := j) (by rw [HN.out]; omega)
            have hbj : b_ bs j = true := by
              cases hb : b_ bs j with
              | true => rfl
              | false => have := hpv.2 hb; omega
            rw [hbj] at cj
            have hjN : j < N := by omega
            have d3 : decide ((0 : Int) < (j : Int) + 1) = true := decide_eq_true (by omega)
            clear hpv hbj
            go_wp2_with (at_builtin; refine app_two rfl (.tmp 14) (.tmp 17) rfl w.heap.size _ _ _ rfl (HO.out.alloc _) X.heap.size 1 (j + 1, 1) rfl (blk_alloc_at _ _ _ rfl) (by omega) (by simp; omega) ?_; intro v4 w4 ho4 hg4; have HG4 := Lib.hid hg4; have HO4 := Lib.hid ho4; clear ho4 hg4)
            have L4 : Below w.heap.size w w4 := (HB.out.alloc (by omega) _).grown HG4.out (by simp; omega) (fun j hj => (HO.out.lt j hj).1)
            exact ⟨⟨j + 1 + 1, 1, m + 1, F, by omega, by omega, by omega, by go_num, Lib.hid ⟨HA2.out, by rw [HE2.out, List.length_append, HA.out.2]; rfl⟩, Lib.hid (by rw [HE2.out]; exact HO4.out), Lib.hid L4⟩, by simp [intOf]; omega⟩
        · obtain ⟨j, rfl⟩ : ∃ j, k = j + 1 := ⟨k - 1, by omega⟩
          have hpv := at_prev HA.out.1 (by rw [HN.out]; omega)
          have cj := HM.out.cB (i := j) (by rw [HN.out]; omega)
          have hbj : b_ bs j = false := by
            cases hb : b_ bs j with
            | false => rfl
            | true => have := hpv.1 hb; omega
          rw [hbj] at cj
          have hjN : j < N := by omega
          have d3 : decide ((0 : Int) < (j : Int) + 1) = true := decide_eq_true (by omega)
          have e1 : F ++ flu (j + 1) t = F ++ [(j + 1 - t, t)] := by simp [flu, ht0]
          have e2 : F ++ flu (j + 1 + 1) (t + 1) = F ++ [(j + 1 - t, t + 1)] := by
            have : j + 1 + 1 - (t + 1) = j + 1 - t := by omega
            simp [flu, this]
          rw [e1] at HO HA
          have hmf : m = F.length + 1 := by have := HA.out.2; simpa using this.symm
          obtain ⟨f, hf⟩ : ∃ f, F.length = f := ⟨_, rfl⟩
          rw [hf] at hmf
          subst hmf
          obtain ⟨gl, rfl⟩ : ∃ gl, va = some ⟨gl, 0, none⟩ := by
            rcases HO.out.2 with ⟨h1, h2⟩ | ⟨g9, c9, cur9, e9, _⟩
            · omega
            · injection e9 with e9 _ _
              exact ⟨g9, e9⟩
          obtain ⟨hput, hfr, hcl, hgl⟩ := own_put (.int .i64 ((t : Int) + 1)) HO.out (j := f * 2 + 1) (by omega)
          have hcl2 : X.cell? ⟨gl, f * 2 + 1, none⟩ = some (.int .i64 (t : Int)) := by
            rw [hcl, pv_app, List.getElem?_append_right (by rw [pv_len, hf]; omega), pv_len, hf, show f * 2 + 1 - f * 2 = 1 by omega]
            rfl
          have hpl := pv_last (F := F) (a := j + 1 - t) (t := t) (u := t + 1)
          rw [hf] at hpl
          have HPL := Lib.hid hpl
          have HPUT := Lib.hid hput
          have HE2 := Lib.hid e2
          have HF := Lib.hid hf
          clear hpv hbj e1 e2 hput hcl hpl hf
          go_upto_region 8 with (fail)
          (refine Reg.quiet_tail 10 (by kernel_rfl) (by kernel_rfl) ?_; simp only [List.take_succ_cons, List.take_zero, List.drop_succ_cons, List.drop_zero]; (repeat go_big_quiet_step (fail)); refine wpQuiet_nil ?_)
          have hcl3 : X.drew.cell? ⟨gl, f * 2 + 1, none⟩ = some (.int .i64 (t : Int)) := hcl2
          have hfr3 : X.drew.frozen? ⟨gl, f * 2 + 1, none⟩ = false := hfr
          have HPUT3 : Hid ((X.drew.setCell ⟨gl, f * 2 + 1, none⟩ (.int .i64 ((t : Int) + 1))).ownsRow w.heap.size 48 2 (.slice (some ⟨gl, 0, none⟩) (f + 1) vc) (f + 1) (pv (F ++ [(j + 1 - t, t + 1)]))) := Lib.hid (by
            have h1 := HPUT.out
            rw [show ((t : Int) + 1) = ((t + 1 : Nat) : Int) by omega, HPL.out] at h1
            exact h1)
          have HB3 : Hid (Below w.heap.size w X.drew) := Lib.hid (by have LX := HB.out; repeat' (first | (with_reducible exact Below.refl _ _) | (with_reducible refine Rd.below_step ?_ (by assumption)) | (with_reducible refine Rd.below_alloc ?_ _) | (with_reducible refine Rd.below_drewN ?_ _) | (with_reducible refine Below.drew ?_) | (with_reducible refine Below.setCell ?_ ?_ _) | (with_reducible refine Rd.below_setRow ?_ ?_ _) | go_size | (simp only [World.size_alloc]; omega) | omega))
          obtain ⟨X1, hX1⟩ : ∃ x, X.drew = x := ⟨_, rfl⟩
          rw [hX1] at hcl3 hfr3 HPUT3 HB3 ⊢
          clear hX1 hcl2 hfr c0 ck cj HPUT
          go_wp2
          exact ⟨⟨j + 1 + 1, t + 1, f + 1, F, by omega, by omega, by omega, by go_num, Lib.hid ⟨HA2.out, by rw [HE2.out]; simp [HF.out]⟩, Lib.hid (by rw [HE2.out]; exact HPUT3.out), Lib.hid (Below.setCell HB3.out (by show w.heap.size ≤ gl; exact hgl) _)⟩, by simp [intOf]; omega⟩
    · obtain rfl : k = N := by omega
      have HE : Hid (runs bs = F ++ flu k t) := Lib.hid (at_end HA.out.1 HN.out.symm)
      go_wp2
      go_ret
      refine ⟨⟨va, vc, ?_, ?_, ?_, ?_⟩, HB.out⟩
      · rw [HE.out, HA.out.2]; first | done | rfl
      · unfold PRd
        rw [HE.out, HA.out.2]
        exact Reads.of_owns HO.out
      · rw [HE.out, HA.out.2]
        obtain ⟨a2, c2, e2, h2, -⟩ := owns_val HO.out
        injection e2 with _ _ e3
        rw [e3]; exact h2
      · rcases HO.out.2 with ⟨h1, h2⟩ | ⟨g9, c9, cur9, e9, hB9, _⟩
        · injection h1 with h1 _ h3
          refine Or.inl ⟨?_, h1, h3⟩
          rw [HE.out]
          exact List.eq_nil_of_length_eq_zero (by rw [HA.out.2]; exact h2)
        · injection e9 with e9 _ _
          exact Or.inr ⟨g9, e9, hB9⟩
/-! Take of fewer than one -/
theorem tk_start0 (w : World) (b : Nat) (k : Int) : TkEnd w b 0 1 ((((w.alloc (.cells #[.pointer (some ⟨b, 0, none⟩)] 24)).alloc (.cells #[.int .i64 k] 3)).alloc (.cells #[.int .i64 0] 3)).alloc (.cells #[.int .i64 1] 25)) ∧ Below w.heap.size w ((((w.alloc (.cells #[.pointer (some ⟨b, 0, none⟩)] 24)).alloc (.cells #[.int .i64 k] 3)).alloc (.cells #[.int .i64 0] 3)).alloc (.cells #[.int .i64 1] 25)) := by
  have O : ∀ (X : World) (o : Obj) (k : Nat) {p : Obj}, k < X.heap.size → blk X k = some p → blk (X.alloc o) k = some p := fun X o k p h e => (blk_alloc_old X o k h).trans e
  have B : Below w.heap.size w ((((w.alloc (.cells #[.pointer (some ⟨b, 0, none⟩)] 24)).alloc (.cells #[.int .i64 k] 3)).alloc (.cells #[.int .i64 0] 3)).alloc (.cells #[.int .i64 1] 25)) := by
    refine ((((Below.refl _ w).alloc ?_ _).alloc ?_ _).alloc ?_ _).alloc ?_ _ <;> (try simp only [World.size_alloc]) <;> omega
  refine ⟨⟨grown_some B b, ?_, ?_⟩, B⟩
  · exact O _ _ _ (by simp) (blk_alloc_at _ _ _ (by simp))
  · exact blk_alloc_at _ _ _ (by simp)
set_option maxHeartbeats 1000000 in
theorem take_low (k : Int) (w : World) (hk : k < 1) :
    Calls Try.prog 9 #[.pointer (some ⟨b, 0, none⟩), .int .i64 k] w fun e w' => e = .returned (.tuple #[.int .i64 0, .int .i64 1]) ∧ Below w.heap.size w w' := by
  have dn : decide (k < 1) = true := decide_eq_true hk
  obtain ⟨S0, SB⟩ := tk_start0 w b k
  refine callsIn_wide.1 (callsIn_of_wp_marks (F := Fence.wide) (n := 0) Try.func9 rfl trivial ?_ rfl)
  simp only [Try.ntmps9, List.size_toArray, List.length_cons, List.length_nil, Nat.reduceAdd, Nat.reduceSub, Array.replicate_succ, Array.replicate_zero, List.push_toArray, List.append_toArray, List.nil_append, List.cons_append]
  have HS := Lib.hid S0
  have HB := Lib.hid SB
  clear S0 SB
  gi_wp2
  refine leaves_marks (Ds := []) (B := w.heap.size + 5) (fun Y => TkEnd w b 0 1 Y ∧ Below w.heap.size w Y) (fun E Y hE hY he => ⟨hY.1.far (grownBy_putObj' _ _ _) fun r e => by injection e with e; omega, below_grown (B := 0) hY.2 (grownBy_putObj' _ _ _) (Nat.le_refl _) fun r e => by injection e with e; omega⟩) (fun Y hY => ⟨_, tk_results rfl hY.1 _ rfl rfl, rfl, hY.2⟩) (by simp) _ ⟨HS.out, HB.out⟩ fun E hp => by simp at hp
end Go.Proofs.Ytmhjhfjbfoklpaa.ExI

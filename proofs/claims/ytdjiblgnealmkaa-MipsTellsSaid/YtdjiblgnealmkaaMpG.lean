/-
  With.
-/
import Derived.Test.YtdjiblgnealmkaaMpF
namespace Go.Proofs.Ytdjiblgnealmkaa.MpG
open Go.RowKit Rd Go.Proofs.Ytdjiblgnealmkaa.Row Mid DkM HueA MpM MpA MpB MpC MpD MpE MpF
set_option linter.unusedVariables false
set_option linter.unusedSimpArgs false
set_option maxRecDepth 10000
variable {X Y : World} {b D K : Nat} {wr : Bool} {ps : List Px} {v : Value}
theorem put_len (ps : List Px) (n x y w : Nat) (cs : List Px) (k : Nat) : (put ps n x y w cs k).length = n * n := by simp [put]
theorem put_B {ps cs : List Px} (h : RB ps) (h2 : RB cs) (n x y w k : Nat) : RB (put ps n x y w cs k) := by
  intro p hp
  obtain ⟨i, _, rfl⟩ := List.mem_map.1 hp
  split
  · exact h2.at _
  · exact h.at _
theorem put_0 {ps : List Px} {n : Nat} (h : ps.length = n * n) (x y w : Nat) (cs : List Px) : put ps n x y w cs 0 = ps := by
  refine List.ext_getElem (by rw [put_len, h]) fun i h1 h2 => ?_
  simp only [put, List.getElem_map, List.getElem_range]
  rw [if_neg (by omega), at_get h2]
theorem rows_iff {n r c R x w : Nat} (hc : c < n) (hx : x + w ≤ n) : (n * R + x ≤ n * r + c ∧ n * r + c < n * R + x + w) ↔ (r = R ∧ x ≤ c ∧ c < x + w) := by
  constructor
  · rintro ⟨h1, h2⟩
    rcases Nat.lt_trichotomy r R with h | h | h
    · have : n * (r + 1) ≤ n * R := Nat.mul_le_mul_left n h
      rw [Nat.mul_add] at this
      omega
    · subst h; omega
    · have : n * (R + 1) ≤ n * r := Nat.mul_le_mul_left n h
      rw [Nat.mul_add] at this
      omega
  · rintro ⟨rfl, h1, h2⟩
    omega
theorem put_at (ps : List Px) {n x y w : Nat} (cs : List Px) {k i : Nat} (hi : i < n * n) : at_ (put ps n x y w cs k) i = if x ≤ i % n ∧ i % n < x + w ∧ y ≤ i / n ∧ i / n < y + k then at_ cs (w * (i / n - y) + (i % n - x)) else at_ ps i := by
  rw [at_get (by rw [put_len]; exact hi)]
  simp [put]
theorem put_step {ps : List Px} {n x y w : Nat} {cs : List Px} {k h : Nat} (hx : x + w ≤ n) (hy : y + h ≤ n) (hk : k < h) (hcs : cs.length = w * h) (hw : 1 ≤ w) :
    (put ps n x y w cs k).take (n * (y + k) + x) ++ (cs.drop (w * k)).take w ++ (put ps n x y w cs k).drop (n * (y + k) + x + w) = put ps n x y w cs (k + 1) := by
  have hn : 0 < n := by omega
  have h1 : n * (y + k) + n ≤ n * n := by
    have := Nat.mul_le_mul_left n (show y + k + 1 ≤ n by omega)
    rw [Nat.mul_add n (y + k) 1] at this
    omega
  have h2 : w * k + w ≤ w * h := by
    have := Nat.mul_le_mul_left w (show k + 1 ≤ h by omega)
    rw [Nat.mul_add w k 1] at this
    omega
  have l1 : ((put ps n x y w cs k).take (n * (y + k) + x)).length = n * (y + k) + x := by rw [List.length_take, put_len]; omega
  have l2 : ((cs.drop (w * k)).take w).length = w := by rw [List.length_take, List.length_drop]; omega
  refine List.ext_getElem (by rw [List.length_append, List.length_append, l1, l2, List.length_drop, put_len, put_len]; omega) fun i h3 h4 => ?_
  have hi : i < n * n := by rw [put_len] at h4; exact h4
  have hdm := Nat.div_add_mod i n
  have hm := Nat.mod_lt i hn
  have key := rows_iff (n := n) (r := i / n) (c := i % n) (R := y + k) (x := x) (w := w) hm hx
  rw [hdm] at key
  rw [← at_get h4, put_at ps cs hi]
  by_cases ha : i < n * (y + k) + x
  · rw [List.getElem_append_left (by rw [List.length_append, l1]; omega), List.getElem_append_left (by rw [l1]; exact ha), List.getElem_take, ← at_get, put_at ps cs hi]
    have hno : ¬ (i / n = y + k ∧ x ≤ i % n ∧ i % n < x + w) := fun e => by have := key.2 e; omega
    by_cases hc : x ≤ i % n ∧ i % n < x + w ∧ y ≤ i / n ∧ i / n < y + k
    · rw [if_pos hc, if_pos (by omega)]
    · rw [if_neg hc, if_neg (by omega)]
  · by_cases hb : i < n * (y + k) + x + w
    · obtain ⟨e1, e2, e3⟩ := key.1 ⟨by omega, hb⟩
      rw [List.getElem_append_left (by rw [List.length_append, l1, l2]; omega), List.getElem_append_right (by rw [l1]; omega)]
      simp only [l1]
      rw [List.getElem_take, List.getElem_drop, ← at_get, if_pos (by omega), e1]
      congr 1
      rw [show y + k - y = k by omega]
      have : i = n * (y + k) + i % n := by rw [← e1]; exact hdm.symm
      omega
    · rw [List.getElem_append_right (by rw [List.length_append, l1, l2]; omega)]
      simp only [List.length_append, l1, l2]
      rw [List.getElem_drop, ← at_get]
      rw [show n * (y + k) + x + w + (i - (n * (y + k) + x + w)) = i by omega, put_at ps cs hi]
      have hno : ¬ (i / n = y + k ∧ x ≤ i % n ∧ i % n < x + w) := fun e => by have := key.2 e; omega
      by_cases hc : x ≤ i % n ∧ i % n < x + w ∧ y ≤ i / n ∧ i / n < y + k
      · rw [if_pos hc, if_pos (by omega)]
      · rw [if_neg hc, if_neg (by omega)]
theorem cp_take (ps : List Px) (k : Nat) : cp (ps.take k) = (cp ps).take (k * 4) := by
  rcases Nat.lt_or_ge k ps.length with h | h
  · have e : cp ps = cp (ps.take k) ++ cp (ps.drop k) := by rw [← cp_app, List.take_append_drop]
    rw [e, List.take_left' (by rw [cp_len, List.length_take, Nat.min_eq_left (by omega)])]
  · rw [List.take_of_length_le h, List.take_of_length_le (by rw [cp_len]; omega)]
theorem cp_drop (ps : List Px) (k : Nat) : cp (ps.drop k) = (cp ps).drop (k * 4) := by
  rcases Nat.lt_or_ge k ps.length with h | h
  · have e : cp ps = cp (ps.take k) ++ cp (ps.drop k) := by rw [← cp_app, List.take_append_drop]
    rw [e, List.drop_left' (by rw [cp_len, List.length_take, Nat.min_eq_left (by omega)])]
  · rw [List.drop_of_length_le h, List.drop_of_length_le (by rw [cp_len]; omega)]; simp [cp, fl]
theorem own_paste {w : World} {base g q cap : Nat} {e : TypeId} {xs v : List Value} {o : Nat} (h : w.ownsRow base e 4 (.slice (some ⟨g, 0, none⟩) q cap) q xs) (ho : o + v.length ≤ q * 4) :
    ∃ cur : Array Value, w.heap[g]? = some (.cells cur e (0, 0)) ∧ cur.size = cap * 4 ∧ q * 4 ≤ cur.size ∧ (w.setRow g (cur.toList.take o ++ v ++ cur.toList.drop (o + v.length)).toArray).ownsRow base e 4 (.slice (some ⟨g, 0, none⟩) q cap) q (xs.take o ++ v ++ xs.drop (o + v.length)) := by
  obtain ⟨hl, h2⟩ := h
  rcases h2 with ⟨h3, _⟩ | ⟨g', cap', cur, h3, hb, hg, hc, hm, hs, ht⟩
  · cases h3
  · cases h3
    have hsz : q * 4 ≤ cur.size := by rw [hs]; exact Nat.mul_le_mul_right 4 hc
    have hlen : cur.toList.length = cur.size := Array.length_toList
    refine ⟨cur, hg, hs, hsz, by simp only [List.length_append, List.length_take, List.length_drop]; omega, .inr ⟨g, cap, _, rfl, hb, blk_setRow_of hg _, hc, hm, by simp only [List.size_toArray, List.length_append, List.length_take, List.length_drop]; omega, ?_⟩⟩
    rw [← ht]
    have e1 : (cur.toList.take o ++ v).length = o + v.length := by rw [List.length_append, List.length_take]; omega
    rw [List.take_append, List.take_of_length_le (by rw [e1]; exact ho), e1, List.take_take, Nat.min_eq_left (by omega), List.drop_take]
theorem yields_copy4 {ops : Array Oper} {o : Oper} {b : Act} {w : World} {R : Value → World → Prop} (hgd : o.guard = none) (d s : Operand) (t : TypeId)
    (ho : o.op = .call { callee := .builtin .copy, args := #[d, s], argTypes := #[t, t] }) (elem : TypeId) (hu : Try.prog.underlying t = some (.slice elem)) (hs : (Try.prog.info? elem).map (·.size) = some 4)
    (g oo dLen dCap : Nat) (a : Addr) (sLen sCap : Nat) (cur : Array Value) (T : TypeId) (cs : List Value) (hd : b.eval d = .slice (some ⟨g, oo, none⟩) dLen dCap) (hsv : b.eval s = .slice (some a) sLen sCap)
    (hg : w.heap[g]? = some (.cells cur T (0, 0))) (hn : cs.length = Nat.min sLen dLen * 4)
    (hsrc : ∀ j v, cs[j]? = some v → w.cell? (a.add j) = some v) (hfit : oo + cs.length ≤ cur.size) (h1 : ∀ v ∈ cs, v.oneCell' = true)
    (h : R (goInt (Nat.min sLen dLen)) (w.setRow g (cur.toList.take oo ++ cs ++ cur.toList.drop (oo + cs.length)).toArray)) : Pred.yields Try.prog ops o b w R := by
  have hrun := run_copy4 (P := Try.prog) w t t o.type elem g oo dLen dCap a sLen sCap cur T cs hu hs hg hn hsrc hfit h1
  refine Pred.yields_run (v := goInt (Nat.min sLen dLen)) (w' := w.setRow g (cur.toList.take oo ++ cs ++ cur.toList.drop (oo + cs.length)).toArray) (Pred.wanted_none hgd) ?_ h
  unfold execOp
  simp only [ho, resolve, invoke, builtin, Sem.run_bind, Sem.run_pure, Result.andThen_ok, List.map_toArray, List.map_cons, List.map_nil, hd, hsv, hrun]
theorem With_no (x y w9 h9 : Int) (a : Option Addr) (m c : Nat) (w : World) (h : Pyr w b D wr ps) (hno : withinV (sd D) x w9 = false ∨ withinV (sd D) y h9 = false ∨ (m : Int) ≠ w9 * h9) (hm : m ≤ 1000000) :
    Calls Try.prog 15 #[.pointer (some ⟨b, 0, none⟩), .int .i64 x, .int .i64 y, .int .i64 w9, .int .i64 h9, .slice a m c] w fun e w' => e = .returned (.tuple #[.pointer none, .int .i64 1]) ∧ Below w.heap.size w w' := by
  have CX := Lib.hid (fun X (hX : Pyr X b D wr ps) => within_any x w9 X hX)
  have CY := Lib.hid (fun X (hX : Pyr X b D wr ps) => within_any y h9 X hX)
  have hd := h.d3
  obtain ⟨r1, e1⟩ : ∃ r, withinV (sd D) x w9 = r := ⟨_, rfl⟩
  obtain ⟨r2, e2⟩ : ∃ r, withinV (sd D) y h9 = r := ⟨_, rfl⟩
  have E1 := Lib.hid e1
  have E2 := Lib.hid e2
  rw [e1] at CX hno
  rw [e2] at CY hno
  clear e1 e2
  cases r1 with
  | false =>
    clear hno
    go_enter Try.func15, Try.ntmps15
    go_wp2_with (go_at_call 45; refine (CX.out _ h).mono ?_; rintro e _ ⟨rfl, rfl⟩)
    go_ret2
    exact ⟨rfl, Below.refl _ _⟩
  | true =>
    cases r2 with
    | false =>
      clear hno
      go_enter Try.func15, Try.ntmps15
      go_wp2_with fail
      refine (CX.out _ h).mono ?_
      rintro e _ ⟨rfl, rfl⟩
      go_wp2_with fail
      refine (CY.out _ h).mono ?_
      rintro e _ ⟨rfl, rfl⟩
      go_wp2_with fail
      go_ret2
      exact ⟨rfl, Below.refl _ _⟩
    | true =>
      have hw := of_decide_eq_true E1.out
      have hh := of_decide_eq_true E2.out
      have hs := sd_le hd
      have hne : (m : Int) ≠ w9 * h9 := by rcases hno with h | h | h; · cases h
                                           · cases h
                                           · exact h
      obtain ⟨wn, rfl⟩ : ∃ k : Nat, w9 = k := ⟨w9.toNat, by omega⟩
      obtain ⟨hn, rfl⟩ : ∃ k : Nat, h9 = k := ⟨h9.toNat, by omega⟩
      have hq : wn * hn ≤ 32 * 32 := Nat.mul_le_mul (by omega) (by omega)
      obtain ⟨q, hq2⟩ : ∃ q, q = wn * hn := ⟨_, rfl⟩
      have hq3 : (wn : Int) * (hn : Int) = (q : Int) := by rw [hq2]; push_cast; rfl
      rw [hq3] at hne
      rw [← hq2] at hq
      clear hno hq2
      go_enter Try.func15, Try.ntmps15
      go_wp2_with fail
      refine (CX.out _ h).mono ?_
      rintro e _ ⟨rfl, rfl⟩
      go_wp2_with fail
      refine (CY.out _ h).mono ?_
      rintro e _ ⟨rfl, rfl⟩
      go_wp2_with fail
      all_goals (go_ret2; exact ⟨rfl, Below.refl _ _⟩)
attribute [local go_sem ↓] load_tex store_tex
attribute [local go_sem] run_load_tex run_store_tex rowStore_eq rowLoad_eq one_int one_bool blk_alloc_at blk_alloc_old blk_drew blk_drewN blk_grow setRow_alloc_at setRow_alloc_old setRow_drew setRow_drewN
set_option maxHeartbeats 8000000 in
theorem With_any (x y w9 h9 : Nat) (lb lo m c : Nat) (cs : List Px) (w : World) (h : Pyr w b D wr ps) (hx : x + w9 ≤ sd D) (hy : y + h9 ≤ sd D) (hw : 1 ≤ w9) (hh : 1 ≤ h9) (hm : m = w9 * h9) (hmc : m ≤ c) (hr : Reads w 4 (some ⟨lb, lo, none⟩) m (cp cs)) (hB : RB cs) :
    Calls Try.prog 15 #[.pointer (some ⟨b, 0, none⟩), .int .i64 x, .int .i64 y, .int .i64 w9, .int .i64 h9, .slice (some ⟨lb, lo, none⟩) m c] w fun e w' => (∃ b2, e = .returned (.tuple #[.pointer (some ⟨b2, 0, none⟩), .int .i64 0]) ∧ w.heap.size ≤ b2 ∧ Pyr w' b2 D wr (put ps (sd D) x y w9 cs h9)) ∧ Below w.heap.size w w' := by
  have hd := h.d3
  have hs := sd_le hd
  have CX := Lib.hid (fun X (hX : Pyr X b D wr ps) => (show withinV (sd D) x w9 = true from decide_eq_true (by omega)) ▸ within_any (x : Int) (w9 : Int) X hX)
  have CY := Lib.hid (fun X (hX : Pyr X b D wr ps) => (show withinV (sd D) y h9 = true from decide_eq_true (by omega)) ▸ within_any (y : Int) (h9 : Int) X hX)
  have hcl : cs.length = m := by
    have := hr.1
    rw [cp_len] at this
    omega
  have hm1 : m ≤ 1024 := by rw [hm]; exact Nat.mul_le_mul (show w9 ≤ 32 by omega) (show h9 ≤ 32 by omega)
  have hm0 : 0 < m := by rw [hm]; exact Nat.mul_pos (by omega) (by omega)
  have hlb := (reads_off hr rfl hm0).1
  have hm2 : (w9 : Int) * (h9 : Int) = (m : Int) := by rw [hm]; push_cast; rfl
  obtain ⟨n, hn⟩ : ∃ n, n = sd D := ⟨_, rfl⟩
  have HN := Lib.hid hn
  have HM := Lib.hid hm
  have hpl := h.len
  rw [← hn] at hx hy hs hpl ⊢
  have hnn := sq_le hs
  obtain ⟨q, hq⟩ : ∃ q, q = n * n := ⟨_, rfl⟩
  have HQ := Lib.hid hq
  have CSz := Lib.hid (fun X (hX : Pyr X b D wr ps) => (szE_in (D := D) (l := 0) (by omega)) ▸ Size_any ((0 : Nat) : Int) X hX)
  rw [Nat.sub_zero, ← hn] at CSz
  have HPL := Lib.hid hpl
  have HCL := Lib.hid hcl
  rw [← hq] at hnn
  have hpq : sd D * sd D = q := by rw [hq, hn]
  have HPQ := Lib.hid hpq
  clear hn hm hq hpq hpl hcl
  go_enter Try.func15, Try.ntmps15
  go_wp2_with fail
  refine (CX.out _ h).mono ?_
  rintro e _ ⟨rfl, rfl⟩
  go_wp2_with fail
  refine (CY.out _ h).mono ?_
  rintro e _ ⟨rfl, rfl⟩
  go_wp2_with fail
  refine (Texture_any _ h).mono ?_
  rintro e w1 ⟨⟨u, rfl, hou⟩, hb1⟩
  rw [HPQ.out] at hou
  have hq0 : 0 < q := by rw [HQ.out]; exact Nat.mul_pos (by omega) (by omega)
  obtain ⟨g, cap, rfl, hg0, hg1, hgc, hgm, -⟩ := owns_pos hou hq0
  have hs1 := hb1.size
  have hB1 := (Below.refl w1.heap.size w1).alloc (Nat.le_refl _) (.cells #[.int .i64 D, .bool wr, .slice (some ⟨g, 0, none⟩) q cap] 24)
  have L1 : Below w.heap.size w (w1.alloc (.cells #[.int .i64 D, .bool wr, .slice (some ⟨g, 0, none⟩) q cap] 24)) := hb1.alloc hs1 _
  have HO1 := Lib.hid (owns_below' hou hB1)
  have hgs : g < w1.heap.size := hg1
  clear hou hgc hB1
  go_wp2_with fail
  go_loopw [39] (fun i Y => ∃ k : Nat, k ≤ h9 ∧ i = .int .i64 k ∧ Hid (blk Y w1.heap.size = some (.cells #[.int .i64 D, .bool wr, .slice (some ⟨g, 0, none⟩) q cap] 24 (0, 0)) ∧ Y.ownsRow w.heap.size 39 4 (.slice (some ⟨g, 0, none⟩) q cap) q (cp (put ps n x y w9 cs k))) ∧ Below w.heap.size w Y) (fun i _ => h9 - (intOf i).toNat)
  case atStart => exact ⟨0, by omega, rfl, Lib.hid ⟨blk_alloc_at _ _ _ rfl, by rw [put_0 (by rw [HPL.out])]; exact HO1.out⟩, L1⟩
  case round =>
    obtain ⟨k, hk, rfl, HB, HL⟩ := hrel
    rename World => Y
    clear HO1
    have hYs := HL.size
    by_cases hlt : k < h9
    · have hlt' : (k : Int) < (h9 : Int) := by omega
      have hPY := fun X (hE : Below w.heap.size Y X) => h.below (HL.trans hE)
      have hRY := fun X (hE : Below w.heap.size Y X) => hr.below (HL.trans hE) (Nat.le_refl _)
      obtain ⟨p, hp⟩ : ∃ p, p = n * (y + k) := ⟨_, rfl⟩
      have hp1 : p ≤ 32 * 32 := by rw [hp]; exact Nat.mul_le_mul hs (by omega)
      have hp2 : (n : Int) * ((y : Int) + (k : Int)) = (p : Int) := by rw [hp]; push_cast; rfl
      obtain ⟨p3, hp3⟩ : ∃ p3, p3 = w9 * k := ⟨_, rfl⟩
      have hp4 : (w9 : Int) * (k : Int) = (p3 : Int) := by rw [hp3]; push_cast; rfl
      have hp5 : (w9 : Int) * ((k : Int) + 1) = (p3 : Int) + (w9 : Int) := by rw [Int.mul_add, hp4, Int.mul_one]
      have hfit : p + n ≤ q := by
        rw [hp, HQ.out]
        have := Nat.mul_le_mul_left n (show y + k + 1 ≤ n by omega)
        rw [Nat.mul_add n (y + k) 1] at this
        omega
      have hfit2 : p3 + w9 ≤ m := by
        rw [hp3, HM.out]
        have := Nat.mul_le_mul_left w9 (show k + 1 ≤ h9 by omega)
        rw [Nat.mul_add w9 k 1] at this
        omega
      have HST := Lib.hid (put_step (ps := ps) (cs := cs) hx hy hlt (by rw [HCL.out, HM.out]) hw)
      rw [← hp, ← hp3] at HST
      have hi1 : (0 : Int) ≤ (p : Int) + x := by omega
      have hi2 : (p : Int) + x ≤ (q : Int) := by omega
      have hi3 : (0 : Int) ≤ (p3 : Int) := by omega
      have hi4 : (p3 : Int) ≤ (p3 : Int) + w9 := by omega
      have hi5 : (p3 : Int) + w9 ≤ (c : Int) := by omega
      have hq9 : q ≤ cap := by
        obtain ⟨a8, c8, e8, h8, _⟩ := owns_val HB.out.2
        cases e8
        exact h8
      have ht1 : ((p : Int) + x).toNat = p + x := by omega
      have ht2 : ((p3 : Int) + w9).toNat - p3 = w9 := by omega
      have hc1 : ¬ cap = p + x := by omega
      have hc2 : ¬ c = p3 := by omega
      clear hp hp3
      go_wp2_with fail
      go_upto_region 7 with (fail)
      refine PredT.region_of (W := Y) (w.heap.size) hYs [20] [
          fun y9 => blk y9 w1.heap.size = some (.cells #[.int .i64 D, .bool wr, .slice (some ⟨g, 0, none⟩) q cap] 24 (0, 0)) ∧ y9.ownsRow w.heap.size 39 4 (.slice (some ⟨g, 0, none⟩) q cap) q (cp (put ps n x y w9 cs k)),
          fun y9 => blk y9 w1.heap.size = some (.cells #[.int .i64 D, .bool wr, .slice (some ⟨g, 0, none⟩) q cap] 24 (0, 0)) ∧ y9.ownsRow w.heap.size 39 4 (.slice (some ⟨g, 0, none⟩) q cap) q (cp (put ps n x y w9 cs (k + 1)))] [
          PredT.At 0 (.pointer (some ⟨w1.heap.size, 2, none⟩)),
          PredT.At 0 (.slice (some ⟨g, 0, none⟩) q cap),
          PredT.At 0 (.pointer (some ⟨b, 0, none⟩)),
          PredT.At 0 (.int .i64 n),
          PredT.At 0 (.int .i64 y),
          PredT.At 0 (.int .i64 k),
          PredT.At 0 (.int .i64 ((y : Int) + k)),
          PredT.At 0 (.int .i64 p),
          PredT.At 0 (.int .i64 x),
          PredT.At 0 (.int .i64 ((p : Int) + x)),
          PredT.At 0 (.slice (some ⟨g, (p + x) * 4, none⟩) (q - (p + x)) (cap - (p + x))),
          PredT.At 0 (.slice (some ⟨lb, lo, none⟩) m c),
          PredT.At 0 (.int .i64 w9),
          PredT.At 0 (.int .i64 k),
          PredT.At 0 (.int .i64 p3),
          PredT.At 0 (.int .i64 w9),
          PredT.At 0 (.int .i64 k),
          PredT.At 0 (.int .i64 ((k : Int) + 1)),
          PredT.At 0 (.int .i64 ((p3 : Int) + w9)),
          PredT.At 0 (.slice (some ⟨lb, lo + p3 * 4, none⟩) w9 (c - p3)),
          PredT.At 0 (.int .i64 w9)] (by kernel_rfl) (by kernel_rfl) (by kernel_rfl) (by decide) (by decide) ?_ ?_ ?_ ?_ ?_ ?_
      · exact ⟨PredT.at_stab _ _ _ _, PredT.at_stab _ _ _ _, PredT.at_stab _ _ _ _, PredT.at_stab _ _ _ _, PredT.at_stab _ _ _ _, PredT.at_stab _ _ _ _, PredT.at_stab _ _ _ _, PredT.at_stab _ _ _ _, PredT.at_stab _ _ _ _, PredT.at_stab _ _ _ _, PredT.at_stab _ _ _ _, PredT.at_stab _ _ _ _, PredT.at_stab _ _ _ _, PredT.at_stab _ _ _ _, PredT.at_stab _ _ _ _, PredT.at_stab _ _ _ _, PredT.at_stab _ _ _ _, PredT.at_stab _ _ _ _, PredT.at_stab _ _ _ _, PredT.at_stab _ _ _ _, PredT.at_stab _ _ _ _, trivial⟩
      · intro q hq
        rcases List.mem_cons.1 hq with rfl | hq
        · exact fun y y' h hb => ⟨(blk_below hb _ (blk_lt h.1)).trans h.1, owns_below' h.2 hb⟩
        rcases List.mem_cons.1 hq with rfl | hq
        · exact fun y y' h hb => ⟨(blk_below hb _ (blk_lt h.1)).trans h.1, owns_below' h.2 hb⟩
        cases hq
      · exact HB.out
      · refine ⟨.inr ?_, .inr ?_, .inr ?_, .inr ?_, .inr ?_, .inr ?_, .inr ?_, .inr ?_, .inr ?_, .inr ?_, .inr ?_, .inr ?_, .inr ?_, .inr ?_, .inr ?_, .inr ?_, .inr ?_, .inr ?_, .inr ?_, .inr ?_, .inl rfl, trivial⟩
        · intro b9 X ph hE hd hn hS hV hI hF
          have r14 : b9.tmps[14]?.getD undef = .pointer (some ⟨w1.heap.size, 0, none⟩) := (hn 14 (by kernel_rfl)).trans rfl
          exact Pred.yields_run (v := .pointer (some ⟨w1.heap.size, 2, none⟩)) (Pred.wanted_none rfl) (by go_simp) ⟨Below.refl _ _, rfl, Nat.zero_le _⟩
        · intro b9 X ph hE hd hn hS hV hI hF
          obtain ⟨r42, j42⟩ : PredT.At 0 (.pointer (some ⟨w1.heap.size, 2, none⟩)) (b9.tmps[42]?.getD undef) X ph := hV 0 _ 42 rfl rfl (Pred.waits_near (by kernel_rfl) (by kernel_rfl))
          have hp0 : ph = 0 := Nat.le_zero.1 (hF 0 20 rfl (Pred.waits_more 8 _ _ (Nat.le_of_ble_eq_true (by kernel_rfl)) (by kernel_rfl)))
          subst hp0
          have hb0 : (fun y9 => blk y9 w1.heap.size = some (.cells #[.int .i64 D, .bool wr, .slice (some ⟨g, 0, none⟩) q cap] 24 (0, 0)) ∧ y9.ownsRow w.heap.size 39 4 (.slice (some ⟨g, 0, none⟩) q cap) q (cp (put ps n x y w9 cs k))) X := hS
          have z : X.cell? ⟨w1.heap.size, 2, none⟩ = some (.slice (some ⟨g, 0, none⟩) q cap) := by rw [blk_cell hb0.1]; first | done | rfl
          exact Pred.yields_run (v := .slice (some ⟨g, 0, none⟩) q cap) (Pred.wanted_none rfl) (by go_simp) ⟨Below.refl _ _, rfl, Nat.zero_le _⟩
        · intro b9 X ph hE hd hn hS hV hI hF
          have r0 : b9.tmps[0]?.getD undef = .pointer (some ⟨b, 0, none⟩) := (hn 0 (by kernel_rfl)).trans rfl
          exact Pred.yields_run (v := .pointer (some ⟨b, 0, none⟩)) (Pred.wanted_none rfl) (by go_simp) ⟨Below.refl _ _, rfl, Nat.zero_le _⟩
        · intro b9 X ph hE hd hn hS hV hI hF
          obtain ⟨r44, j44⟩ : PredT.At 0 (.pointer (some ⟨b, 0, none⟩)) (b9.tmps[44]?.getD undef) X ph := hV 2 _ 44 rfl rfl (Pred.waits_near (by kernel_rfl) (by kernel_rfl))
          refine Pred.yields_call (f := 19) (args := #[.pointer (some ⟨b, 0, none⟩), .int .i64 0]) (Pred.wanted_none rfl) (by go_simp) ?_
          refine (CSz.out X (hPY X hE)).mono ?_
          rintro e w8 ⟨rfl, rfl⟩
          exact ⟨_, rfl, Below.refl _ _, rfl, Nat.zero_le _⟩
        · intro b9 X ph hE hd hn hS hV hI hF
          have r2 : b9.tmps[2]?.getD undef = .int .i64 y := (hn 2 (by kernel_rfl)).trans rfl
          exact Pred.yields_run (v := .int .i64 y) (Pred.wanted_none rfl) (by go_simp) ⟨Below.refl _ _, rfl, Nat.zero_le _⟩
        · intro b9 X ph hE hd hn hS hV hI hF
          have r15 : b9.tmps[15]?.getD undef = .int .i64 k := (hn 15 (by kernel_rfl)).trans rfl
          exact Pred.yields_run (v := .int .i64 k) (Pred.wanted_none rfl) (by go_simp) ⟨Below.refl _ _, rfl, Nat.zero_le _⟩
        · intro b9 X ph hE hd hn hS hV hI hF
          obtain ⟨r46, j46⟩ : PredT.At 0 (.int .i64 y) (b9.tmps[46]?.getD undef) X ph := hV 4 _ 46 rfl rfl (Pred.waits_near (by kernel_rfl) (by kernel_rfl))
          obtain ⟨r47, j47⟩ : PredT.At 0 (.int .i64 k) (b9.tmps[47]?.getD undef) X ph := hV 5 _ 47 rfl rfl (Pred.waits_near (by kernel_rfl) (by kernel_rfl))
          have h8 := IntWalk.i64_in ((y : Int) + k) (by omega)
          exact Pred.yields_run (v := .int .i64 ((y : Int) + k)) (Pred.wanted_none rfl) (by go_simp) ⟨Below.refl _ _, rfl, Nat.zero_le _⟩
        · intro b9 X ph hE hd hn hS hV hI hF
          obtain ⟨r45, j45⟩ : PredT.At 0 (.int .i64 n) (b9.tmps[45]?.getD undef) X ph := hV 3 _ 45 rfl rfl (Pred.waits_near (by kernel_rfl) (by kernel_rfl))
          obtain ⟨r48, j48⟩ : PredT.At 0 (.int .i64 ((y : Int) + k)) (b9.tmps[48]?.getD undef) X ph := hV 6 _ 48 rfl rfl (Pred.waits_near (by kernel_rfl) (by kernel_rfl))
          have h8 := IntWalk.i64_in (p : Int) (by omega)
          exact Pred.yields_run (v := .int .i64 p) (Pred.wanted_none rfl) (by go_simp) ⟨Below.refl _ _, rfl, Nat.zero_le _⟩
        · intro b9 X ph hE hd hn hS hV hI hF
          have r1 : b9.tmps[1]?.getD undef = .int .i64 x := (hn 1 (by kernel_rfl)).trans rfl
          exact Pred.yields_run (v := .int .i64 x) (Pred.wanted_none rfl) (by go_simp) ⟨Below.refl _ _, rfl, Nat.zero_le _⟩
        · intro b9 X ph hE hd hn hS hV hI hF
          obtain ⟨r49, j49⟩ : PredT.At 0 (.int .i64 p) (b9.tmps[49]?.getD undef) X ph := hV 7 _ 49 rfl rfl (Pred.waits_near (by kernel_rfl) (by kernel_rfl))
          obtain ⟨r50, j50⟩ : PredT.At 0 (.int .i64 x) (b9.tmps[50]?.getD undef) X ph := hV 8 _ 50 rfl rfl (Pred.waits_near (by kernel_rfl) (by kernel_rfl))
          have h8 := IntWalk.i64_in ((p : Int) + x) (by omega)
          exact Pred.yields_run (v := .int .i64 ((p : Int) + x)) (Pred.wanted_none rfl) (by go_simp) ⟨Below.refl _ _, rfl, Nat.zero_le _⟩
        · intro b9 X ph hE hd hn hS hV hI hF
          obtain ⟨r43, j43⟩ : PredT.At 0 (.slice (some ⟨g, 0, none⟩) q cap) (b9.tmps[43]?.getD undef) X ph := hV 1 _ 43 rfl rfl (Pred.waits_near (by kernel_rfl) (by kernel_rfl))
          obtain ⟨r51, j51⟩ : PredT.At 0 (.int .i64 ((p : Int) + x)) (b9.tmps[51]?.getD undef) X ph := hV 9 _ 51 rfl rfl (Pred.waits_near (by kernel_rfl) (by kernel_rfl))
          exact Pred.yields_run (v := .slice (some ⟨g, (p + x) * 4, none⟩) (q - (p + x)) (cap - (p + x))) (Pred.wanted_none rfl) (by go_simp) ⟨Below.refl _ _, rfl, Nat.zero_le _⟩
        · intro b9 X ph hE hd hn hS hV hI hF
          have r5 : b9.tmps[5]?.getD undef = .slice (some ⟨lb, lo, none⟩) m c := (hn 5 (by kernel_rfl)).trans rfl
          exact Pred.yields_run (v := .slice (some ⟨lb, lo, none⟩) m c) (Pred.wanted_none rfl) (by go_simp) ⟨Below.refl _ _, rfl, Nat.zero_le _⟩
        · intro b9 X ph hE hd hn hS hV hI hF
          have r3 : b9.tmps[3]?.getD undef = .int .i64 w9 := (hn 3 (by kernel_rfl)).trans rfl
          exact Pred.yields_run (v := .int .i64 w9) (Pred.wanted_none rfl) (by go_simp) ⟨Below.refl _ _, rfl, Nat.zero_le _⟩
        · intro b9 X ph hE hd hn hS hV hI hF
          have r15 : b9.tmps[15]?.getD undef = .int .i64 k := (hn 15 (by kernel_rfl)).trans rfl
          exact Pred.yields_run (v := .int .i64 k) (Pred.wanted_none rfl) (by go_simp) ⟨Below.refl _ _, rfl, Nat.zero_le _⟩
        · intro b9 X ph hE hd hn hS hV hI hF
          obtain ⟨r54, j54⟩ : PredT.At 0 (.int .i64 w9) (b9.tmps[54]?.getD undef) X ph := hV 12 _ 54 rfl rfl (Pred.waits_near (by kernel_rfl) (by kernel_rfl))
          obtain ⟨r55, j55⟩ : PredT.At 0 (.int .i64 k) (b9.tmps[55]?.getD undef) X ph := hV 13 _ 55 rfl rfl (Pred.waits_near (by kernel_rfl) (by kernel_rfl))
          have h8 := IntWalk.i64_in (p3 : Int) (by omega)
          exact Pred.yields_run (v := .int .i64 p3) (Pred.wanted_none rfl) (by go_simp) ⟨Below.refl _ _, rfl, Nat.zero_le _⟩
        · intro b9 X ph hE hd hn hS hV hI hF
          have r3 : b9.tmps[3]?.getD undef = .int .i64 w9 := (hn 3 (by kernel_rfl)).trans rfl
          exact Pred.yields_run (v := .int .i64 w9) (Pred.wanted_none rfl) (by go_simp) ⟨Below.refl _ _, rfl, Nat.zero_le _⟩
        · intro b9 X ph hE hd hn hS hV hI hF
          have r15 : b9.tmps[15]?.getD undef = .int .i64 k := (hn 15 (by kernel_rfl)).trans rfl
          exact Pred.yields_run (v := .int .i64 k) (Pred.wanted_none rfl) (by go_simp) ⟨Below.refl _ _, rfl, Nat.zero_le _⟩
        · intro b9 X ph hE hd hn hS hV hI hF
          obtain ⟨r58, j58⟩ : PredT.At 0 (.int .i64 k) (b9.tmps[58]?.getD undef) X ph := hV 16 _ 58 rfl rfl (Pred.waits_near (by kernel_rfl) (by kernel_rfl))
          have h8 := IntWalk.i64_in ((k : Int) + 1) (by omega)
          exact Pred.yields_run (v := .int .i64 ((k : Int) + 1)) (Pred.wanted_none rfl) (by go_simp) ⟨Below.refl _ _, rfl, Nat.zero_le _⟩
        · intro b9 X ph hE hd hn hS hV hI hF
          obtain ⟨r57, j57⟩ : PredT.At 0 (.int .i64 w9) (b9.tmps[57]?.getD undef) X ph := hV 15 _ 57 rfl rfl (Pred.waits_near (by kernel_rfl) (by kernel_rfl))
          obtain ⟨r59, j59⟩ : PredT.At 0 (.int .i64 ((k : Int) + 1)) (b9.tmps[59]?.getD undef) X ph := hV 17 _ 59 rfl rfl (Pred.waits_near (by kernel_rfl) (by kernel_rfl))
          have h8 := IntWalk.i64_in ((p3 : Int) + w9) (by omega)
          exact Pred.yields_run (v := .int .i64 ((p3 : Int) + w9)) (Pred.wanted_none rfl) (by go_simp) ⟨Below.refl _ _, rfl, Nat.zero_le _⟩
        · intro b9 X ph hE hd hn hS hV hI hF
          obtain ⟨r53, j53⟩ : PredT.At 0 (.slice (some ⟨lb, lo, none⟩) m c) (b9.tmps[53]?.getD undef) X ph := hV 11 _ 53 rfl rfl (Pred.waits_near (by kernel_rfl) (by kernel_rfl))
          obtain ⟨r56, j56⟩ : PredT.At 0 (.int .i64 p3) (b9.tmps[56]?.getD undef) X ph := hV 14 _ 56 rfl rfl (Pred.waits_near (by kernel_rfl) (by kernel_rfl))
          obtain ⟨r60, j60⟩ : PredT.At 0 (.int .i64 ((p3 : Int) + w9)) (b9.tmps[60]?.getD undef) X ph := hV 18 _ 60 rfl rfl (Pred.waits_near (by kernel_rfl) (by kernel_rfl))
          exact Pred.yields_run (v := .slice (some ⟨lb, lo + p3 * 4, none⟩) w9 (c - p3)) (Pred.wanted_none rfl) (by go_simp) ⟨Below.refl _ _, rfl, Nat.zero_le _⟩
      · refine ⟨?_, trivial⟩
        · refine ⟨_, rfl, fun k hk => (by cases hk), fun b9 X hE hd hn hS hV hI => ?_⟩
          obtain ⟨r52, j52⟩ : PredT.At 0 (.slice (some ⟨g, (p + x) * 4, none⟩) (q - (p + x)) (cap - (p + x))) (b9.tmps[52]?.getD undef) X 0 := hV 10 _ 52 rfl rfl (Pred.waits_near (by kernel_rfl) (by kernel_rfl))
          obtain ⟨r61, j61⟩ : PredT.At 0 (.slice (some ⟨lb, lo + p3 * 4, none⟩) w9 (c - p3)) (b9.tmps[61]?.getD undef) X 0 := hV 19 _ 61 rfl rfl (Pred.waits_near (by kernel_rfl) (by kernel_rfl))
          replace hS : (fun y9 => blk y9 w1.heap.size = some (.cells #[.int .i64 D, .bool wr, .slice (some ⟨g, 0, none⟩) q cap] 24 (0, 0)) ∧ y9.ownsRow w.heap.size 39 4 (.slice (some ⟨g, 0, none⟩) q cap) q (cp (put ps n x y w9 cs k))) X := hS
          have hb0 : (fun y9 => blk y9 w1.heap.size = some (.cells #[.int .i64 D, .bool wr, .slice (some ⟨g, 0, none⟩) q cap] 24 (0, 0)) ∧ y9.ownsRow w.heap.size 39 4 (.slice (some ⟨g, 0, none⟩) q cap) q (cp (put ps n x y w9 cs k))) X := hS
          obtain ⟨hbt, hob⟩ := hb0
          have hRX := hRY X hE
          have hlc : (cp ((cs.drop p3).take w9)).length = w9 * 4 := by rw [cp_len, List.length_take, List.length_drop, HCL.out, Nat.min_eq_left (by omega)]
          obtain ⟨cur, hcur, hsz, hsz2, hnew⟩ := own_paste (o := (p + x) * 4) (v := cp ((cs.drop p3).take w9)) hob (by rw [hlc]; omega)
          have hmin : Nat.min w9 (q - (p + x)) = w9 := Nat.min_eq_left (by omega)
          refine yields_copy4 rfl (.tmp 52) (.tmp 61) 22 rfl 39 Try.underlying22 (by kernel_rfl) g ((p + x) * 4) (q - (p + x)) (cap - (p + x)) ⟨lb, lo + p3 * 4, none⟩ w9 (c - p3) cur 39 (cp ((cs.drop p3).take w9)) (by simpa [Act.eval] using r52) (by simpa [Act.eval] using r61) hcur (by rw [hmin, hlc]) (fun j v hj => ?_) (by rw [hlc]; omega) (cp_ones _) ?_
          · have hj4 : j < w9 * 4 := by rw [← hlc]; exact (List.getElem?_eq_some_iff.1 hj).1
            rw [Addr.add_lit, Nat.add_assoc, (reads_off hRX rfl hm0).2 _ (by rw [cp_len, HCL.out]; omega), ← hj, cp_take, cp_drop, List.getElem?_take_of_lt hj4, List.getElem?_drop]
          · rw [hmin]
            refine ⟨below_setRow (Below.refl _ _) hg0 _, ⟨(setRow_other _ _ _ _ (by omega)).trans hbt, ?_⟩, rfl, Nat.zero_le _⟩
            rw [hlc, ← Nat.add_mul, ← cp_take, ← cp_drop (put ps n x y w9 cs k), ← cp_app, ← cp_app, HST.out] at hnew
            rw [hlc, ← Nat.add_mul]
            exact hnew
      intro v X hE hS hv
      replace hS : (fun y9 => blk y9 w1.heap.size = some (.cells #[.int .i64 D, .bool wr, .slice (some ⟨g, 0, none⟩) q cap] 24 (0, 0)) ∧ y9.ownsRow w.heap.size 39 4 (.slice (some ⟨g, 0, none⟩) q cap) q (cp (put ps n x y w9 cs (k + 1)))) X := hS
      have e0 : v 0 = .pointer (some ⟨w1.heap.size, 2, none⟩) := (hv 0 _ 42 rfl rfl).1
      have e1 : v 1 = .slice (some ⟨g, 0, none⟩) q cap := (hv 1 _ 43 rfl rfl).1
      have e2 : v 2 = .pointer (some ⟨b, 0, none⟩) := (hv 2 _ 44 rfl rfl).1
      have e3 : v 3 = .int .i64 n := (hv 3 _ 45 rfl rfl).1
      have e4 : v 4 = .int .i64 y := (hv 4 _ 46 rfl rfl).1
      have e5 : v 5 = .int .i64 k := (hv 5 _ 47 rfl rfl).1
      have e6 : v 6 = .int .i64 ((y : Int) + k) := (hv 6 _ 48 rfl rfl).1
      have e7 : v 7 = .int .i64 p := (hv 7 _ 49 rfl rfl).1
      have e8 : v 8 = .int .i64 x := (hv 8 _ 50 rfl rfl).1
      have e9 : v 9 = .int .i64 ((p : Int) + x) := (hv 9 _ 51 rfl rfl).1
      have e10 : v 10 = .slice (some ⟨g, (p + x) * 4, none⟩) (q - (p + x)) (cap - (p + x)) := (hv 10 _ 52 rfl rfl).1
      have e11 : v 11 = .slice (some ⟨lb, lo, none⟩) m c := (hv 11 _ 53 rfl rfl).1
      have e12 : v 12 = .int .i64 w9 := (hv 12 _ 54 rfl rfl).1
      have e13 : v 13 = .int .i64 k := (hv 13 _ 55 rfl rfl).1
      have e14 : v 14 = .int .i64 p3 := (hv 14 _ 56 rfl rfl).1
      have e15 : v 15 = .int .i64 w9 := (hv 15 _ 57 rfl rfl).1
      have e16 : v 16 = .int .i64 k := (hv 16 _ 58 rfl rfl).1
      have e17 : v 17 = .int .i64 ((k : Int) + 1) := (hv 17 _ 59 rfl rfl).1
      have e18 : v 18 = .int .i64 ((p3 : Int) + w9) := (hv 18 _ 60 rfl rfl).1
      have e19 : v 19 = .slice (some ⟨lb, lo + p3 * 4, none⟩) w9 (c - p3) := (hv 19 _ 61 rfl rfl).1
      have e20 : v 20 = .int .i64 w9 := (hv 20 _ 62 rfl rfl).1
      simp only [Pred.putsF_cons, Pred.putsF_nil, Nat.zero_add, Nat.reduceAdd, e0, e1, e2, e3, e4, e5, e6, e7, e8, e9, e10, e11, e12, e13, e14, e15, e16, e17, e18, e19, e20, Act.put, List.setIfInBounds_toArray, List.set_cons_zero, List.set_cons_succ]
      clear e0 e1 e2 e3 e4 e5 e6 e7 e8 e9 e10 e11 e12 e13 e14 e15 e16 e17 e18 e19 e20 hv
      have L4 : Below w.heap.size w X := HL.trans hE
      go_wp2_with fail
      go_roundw
      case rel => exact ⟨k + 1, by omega, by go_num, Lib.hid hS, L4⟩
      case measure => simp [intOf]; omega
    · obtain rfl : k = h9 := by omega
      obtain ⟨hbt, hob⟩ := HB.out
      have hRd := Reads.of_owns hob
      have CB := Lib.hid (Build_any wr ⟨g, 0, none⟩ q cap Y hRd hd HPQ.out.symm (put_B h.bb hB _ _ _ _ _))
      have hYb := HL.size
      clear HB hob hRd
      go_wp2_with fail
      refine CB.out.mono ?_
      rintro e w5 ⟨⟨b5, rfl, hb5, hp5⟩, hl5⟩
      go_wp2_with fail
      go_ret2
      exact ⟨⟨b5, rfl, by omega, hp5⟩, HL.trans (hl5.mono hYb)⟩
end Go.Proofs.Ytdjiblgnealmkaa.MpG

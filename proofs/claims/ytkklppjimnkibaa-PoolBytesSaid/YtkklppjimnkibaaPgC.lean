/-
  Rows of pages: where they lie; one more behind one's own; two of them compared; the document's own row.
-/
import Derived.Test.YtkklppjimnkibaaPgB
import Derived.Test.YtkklppjimnkibaaApp
import Derived.Test.YtkklppjimnkibaaEq
namespace Go.Proofs.Ytkklppjimnkibaa.PgC
open Go.RowKit Rd Go.Proofs.Ytkklppjimnkibaa.Row Mid PgM PgA PgB
open Go.Proofs.Ytkklppjimnkibaa.Num (ret_int ret_bool)
set_option linter.unusedVariables false
set_option linter.unusedSimpArgs false
set_option maxRecDepth 10000
def eqL (xs ys : List Int) : Bool := decide (xs = ys)
theorem eq_pg3 (a0 a1 a2 b0 b1 b2 : Int) (w : World) : (Op.equalIn 10000 35 (.agg #[.int .i64 a0, .int .i64 a1, .int .i64 a2]) (.agg #[.int .i64 b0, .int .i64 b1, .int .i64 b2])).run Try.prog w = .ok (eqL [a0, a1, a2] [b0, b1, b2]) w := by
  unfold eqL
  go_simp
  by_cases h0 : a0 = b0 <;> by_cases h1 : a1 = b1 <;> by_cases h2 : a2 = b2 <;> simp [h0, h1, h2]
attribute [local go_sem ↓] eq_pg3
theorem len3 {v : List Int} (h : v.length = 3) : ∃ a b c, v = [a, b, c] := by
  match v, h with
  | [a, b, c], _ => exact ⟨a, b, c, rfl⟩
theorem three {v : List Int} (h : v.length = 3) : v = [PgM.g v 0, PgM.g v 1, PgM.g v 2] := by
  match v, h with
  | [a, b, c], _ => rfl
def PgAt (W : World) (ad : Option Addr) (row : PgM.Row) : Prop :=
  (∀ v ∈ row, v.length = 3) ∧ (row = [] ∨ ∃ b o, ad = some ⟨b, o, none⟩ ∧ b < W.heap.size ∧ ∀ i, i < row.length → ∀ j, j < 3 → W.cell? ⟨b, o + i * 3 + j, none⟩ = some (.int .i64 (PgM.g (at_ row i) j)))
theorem PgAt.below {W W2 : World} {ad : Option Addr} {row : PgM.Row} {B : Nat} (h : PgAt W ad row) (hb : Below W.heap.size W W2) : PgAt W2 ad row := by
  refine ⟨h.1, ?_⟩
  rcases h.2 with h | ⟨b, o, e, hlt, hc⟩
  · exact Or.inl h
  · exact Or.inr ⟨b, o, e, Nat.lt_of_lt_of_le hlt hb.size, fun i hi j hj => (hb.cell (p := ⟨b, o + i * 3 + j, none⟩) hlt).trans (hc i hi j hj)⟩
theorem info_page : (Try.prog.info? 35).map (fun i => (i.zero, i.size, i.bytes)) = some (some (.agg #[.int .i64 0, .int .i64 0, .int .i64 0]), 3, 24) := by kernel_rfl
def fl (r : PgM.Row) : List Value := r.flatMap fun v => v.map (Value.int .i64)
theorem fl_nil : fl [] = [] := rfl
theorem fl_app (r s : PgM.Row) : fl (r ++ s) = fl r ++ fl s := by simp [fl, List.flatMap_append]
theorem fl_one (v : List Int) : fl [v] = v.map (Value.int .i64) := by simp [fl]
theorem fl_len {r : PgM.Row} (h : ∀ v ∈ r, v.length = 3) : (fl r).length = r.length * 3 := by
  induction r with
  | nil => rfl
  | cons v r ih =>
    have e : fl (v :: r) = fl [v] ++ fl r := fl_app [v] r
    rw [e, List.length_append, fl_one, List.length_map, h v (List.mem_cons_self ..), ih fun u hu => h u (List.mem_cons_of_mem _ hu), List.length_cons]
    omega
theorem fl_at {r : PgM.Row} (h : ∀ v ∈ r, v.length = 3) : ∀ i, i < r.length → ∀ j, j < 3 → (fl r)[i * 3 + j]? = some (.int .i64 (PgM.g (at_ r i) j)) := by
  induction r with
  | nil => intro i hi; simp at hi
  | cons v r ih =>
    intro i hi j hj
    have e : fl (v :: r) = fl [v] ++ fl r := fl_app [v] r
    have hv := h v (List.mem_cons_self ..)
    rw [e, fl_one]
    cases i with
    | zero =>
      rw [List.getElem?_append_left (by simp; omega)]
      have : at_ (v :: r) 0 = v := rfl
      rw [this]
      simp [PgM.g, List.getD, hv, hj]
    | succ i =>
      rw [List.getElem?_append_right (by simp; omega), List.length_map, hv, show (i + 1) * 3 + j - 3 = i * 3 + j by omega, ih (fun u hu => h u (List.mem_cons_of_mem _ hu)) i (by simpa using hi) j hj]
      rfl
theorem owns_below {W W2 : World} {base : Nat} {e : TypeId} {size : Nat} {v : Value} {n : Nat} {xs : List Value} (h : W.ownsRow base e size v n xs) (hb : Below W.heap.size W W2) : W2.ownsRow base e size v n xs := by
  obtain ⟨h1, h2⟩ := h
  refine ⟨h1, ?_⟩
  rcases h2 with h2 | ⟨g, cap, cur, e1, e2, e3, e4⟩
  · exact Or.inl h2
  · refine Or.inr ⟨g, cap, cur, e1, e2, ?_, e4⟩
    have hg : g < W.heap.size := blk_lt (w := W) (g := g) e3
    exact (hb.block g hg).trans e3
theorem pgAt_owns {W : World} {base : Nat} {n : Nat} {ad : Option Addr} {cap : Nat} {r : PgM.Row} (h : W.ownsRow base 35 3 (.slice ad n cap) n (fl r)) (hr : ∀ v ∈ r, v.length = 3) : n = r.length ∧ PgAt W ad r := by
  have hn : n = r.length := by
    have := h.1
    rw [fl_len hr] at this
    omega
  refine ⟨hn, hr, ?_⟩
  have hR := Reads.of_owns h
  obtain ⟨hl, hc⟩ := hR
  rcases hc with h0 | ⟨b, off, e, hb, hcell⟩
  · left; exact List.eq_nil_of_length_eq_zero (by omega)
  · right
    refine ⟨b, off, e, hb, fun i hi j hj => ?_⟩
    rw [Nat.add_assoc, hcell _ (by rw [fl_len hr]; omega), fl_at hr i hi j hj]
theorem app_pg {ops : Array Oper} {rest : List Oper} {o : Oper} {a : Act} {w : World} {Q : Exit → Act → World → Prop} (hgd : o.guard = none) (s x : Operand)
    (ho : o.op = .call { callee := .builtin .append, args := #[s, x], argTypes := #[38, 38] })
    (base : Nat) (v : Value) (m : Nat) (r : PgM.Row) (hs : a.eval s = v) (hown : w.ownsRow base 35 3 v m (fl r))
    (gx : Nat) (cx : Nat) (y : List Int) (hx : a.eval x = .slice (some ⟨gx, 0, none⟩) 1 cx) (hy : y.length = 3) (hg : blk w gx = some (.cells (cs .i64 y) 35 (0, 0))) (hm : m ≤ 1000000) (hbase : base ≤ w.heap.size)
    (h : ∀ v' w', w'.ownsRow base 35 3 v' (m + 1) (fl (r ++ [y])) → w.grownBy w' v.ownBlock → wpList Try.prog ops Q rest (a.put o.dst v') w') : wpList Try.prog ops Q (o :: rest) a w := by
  obtain ⟨i0, hi, hz0, hz1, hz2⟩ := info_parts info_page
  refine App.wpList_append_reads w hgd s x 38 ho base 35 i0 _ 3 24 Try.underlying38 hi hz0 hz1 hz2 rfl (by decide) v m (fl r) hs hown (some ⟨gx, 0, none⟩) 1 cx (fl [y]) hx ?_ ?_ (by unfold maxLen; omega) (by omega) hbase ?_
  · refine ⟨by rw [fl_one, List.length_map, hy], Or.inr ⟨gx, 0, rfl, blk_lt hg, fun j hj => ?_⟩⟩
    rw [Nat.zero_add, blk_cell hg, fl_one]
    simp
  · intro u hu
    rw [fl_one, List.mem_map] at hu
    obtain ⟨z, _, rfl⟩ := hu
    rfl
  · intro v' w' h1 h2
    rw [← fl_app] at h1
    exact h v' w' h1 h2
theorem eq_step {r r' : PgM.Row} {k : Nat} (h : ∀ j, j < k → at_ r j = at_ r' j) (h2 : at_ r k = at_ r' k) : ∀ j, j < k + 1 → at_ r j = at_ r' j := by
  intro j hj
  by_cases e : j = k
  · subst e; exact h2
  · exact h j (by omega)
set_option maxHeartbeats 2000000 in
theorem pages_any (r r' : PgM.Row) (ad ad' : Option Addr) (c c' : Nat) (w : World) (h : PgAt w ad r) (h' : PgAt w ad' r') (hm : r.length ≤ 1000000) (hm' : r'.length ≤ 1000000) :
    Calls Try.prog 14 #[.slice ad r.length c, .slice ad' r'.length c'] w fun e w' => e = .returned (.bool (decide (r = r'))) ∧ Below w.heap.size w w' := by
  obtain ⟨n, hn⟩ : ∃ n, r.length = n := ⟨_, rfl⟩
  obtain ⟨n', hn'⟩ : ∃ n, r'.length = n := ⟨_, rfl⟩
  rw [hn, hn']
  rw [hn] at hm
  rw [hn'] at hm'
  by_cases hl : n = n'
  · subst hl
    have HN := Lib.hid hn
    have HN' := Lib.hid hn'
    have H := Lib.hid h
    have H' := Lib.hid h'
    clear hn hn' h h' hm'
    go_enter Try.func14, Try.ntmps14
    go_wp2_with fail
    go_loopw [5] (fun i wr => ∃ k : Nat, k ≤ n ∧ i = .int .i64 k ∧ Hid (∀ j, j < k → at_ r j = at_ r' j) ∧ Below w.heap.size w wr) (fun i _ => n - (intOf i).toNat)
    case atStart => exact ⟨0, by omega, rfl, fun j hj => absurd hj (by omega), by repeat' (first | (with_reducible exact Below.refl _ _) | (with_reducible refine Rd.below_step ?_ (by assumption)) | (with_reducible refine Rd.below_alloc ?_ _) | (with_reducible refine Rd.below_drewN ?_ _) | (with_reducible refine Below.drew ?_) | (with_reducible refine Below.setCell ?_ ?_ _) | (with_reducible refine Rd.below_setRow ?_ ?_ _) | go_size | (simp only [World.size_alloc]; omega) | omega)⟩
    case round =>
      obtain ⟨k, hk, rfl, HF, hb⟩ := hrel
      by_cases hlt : k < n
      · have hlt' : (k : Int) < n := by omega
        obtain ⟨b, o, ea, hb0, hc⟩ : ∃ b o, ad = some ⟨b, o, none⟩ ∧ b < w.heap.size ∧ ∀ i, i < r.length → ∀ j, j < 3 → w.cell? ⟨b, o + i * 3 + j, none⟩ = some (.int .i64 (PgM.g (at_ r i) j)) := by
          rcases H.out.2 with h | h
          · have := HN.out; rw [h] at this; simp at this; omega
          · exact h
        obtain ⟨b', o', ea', hb0', hc'⟩ : ∃ b o, ad' = some ⟨b, o, none⟩ ∧ b < w.heap.size ∧ ∀ i, i < r'.length → ∀ j, j < 3 → w.cell? ⟨b, o + i * 3 + j, none⟩ = some (.int .i64 (PgM.g (at_ r' i) j)) := by
          rcases H'.out.2 with h | h
          · have := HN'.out; rw [h] at this; simp at this; omega
          · exact h
        subst ea
        subst ea'
        obtain ⟨x0, x1, x2, eX⟩ := len3 (H.out.1 (at_ r k) (by rw [at_eq (by rw [HN.out]; exact hlt)]; exact List.getElem_mem _))
        obtain ⟨y0, y1, y2, eY⟩ := len3 (H'.out.1 (at_ r' k) (by rw [at_eq (by rw [HN'.out]; exact hlt)]; exact List.getElem_mem _))
        have CX := fun j hj => (hb.cell (p := ⟨b, o + k * 3 + j, none⟩) hb0).trans (hc k (by rw [HN.out]; exact hlt) j hj)
        have CY := fun j hj => (hb.cell (p := ⟨b', o' + k * 3 + j, none⟩) hb0').trans (hc' k (by rw [HN'.out]; exact hlt) j hj)
        rw [eX] at CX
        rw [eY] at CY
        have cx0 : wr.cell? ⟨b, o + k * 3, none⟩ = some (.int .i64 x0) := CX 0 (by omega)
        have cx1 : wr.cell? ⟨b, o + k * 3 + 1, none⟩ = some (.int .i64 x1) := CX 1 (by omega)
        have cx2 : wr.cell? ⟨b, o + k * 3 + 2, none⟩ = some (.int .i64 x2) := CX 2 (by omega)
        have cy0 : wr.cell? ⟨b', o' + k * 3, none⟩ = some (.int .i64 y0) := CY 0 (by omega)
        have cy1 : wr.cell? ⟨b', o' + k * 3 + 1, none⟩ = some (.int .i64 y1) := CY 1 (by omega)
        have cy2 : wr.cell? ⟨b', o' + k * 3 + 2, none⟩ = some (.int .i64 y2) := CY 2 (by omega)
        have EX := Lib.hid eX
        have EY := Lib.hid eY
        clear hc hc' CX CY eX eY
        by_cases he : [x0, x1, x2] = [y0, y1, y2]
        · have HE := Lib.hid (show at_ r k = at_ r' k by rw [EX.out, EY.out]; exact he)
          have d0 : eqL [x0, x1, x2] [y0, y1, y2] = true := decide_eq_true he
          clear he
          go_wp2
          go_quiet (fail)
          go_wp2
          exact ⟨⟨k + 1, by omega, by go_num, Lib.hid (eq_step HF.out HE.out), by repeat' (first | (with_reducible exact Below.refl _ _) | (with_reducible refine Rd.below_step ?_ (by assumption)) | (with_reducible refine Rd.below_alloc ?_ _) | (with_reducible refine Rd.below_drewN ?_ _) | (with_reducible refine Below.drew ?_) | (with_reducible refine Below.setCell ?_ ?_ _) | (with_reducible refine Rd.below_setRow ?_ ?_ _) | go_size | (simp only [World.size_alloc]; omega) | omega)⟩, by simp [intOf]; omega⟩
        · have HR := Lib.hid (show ¬ r = r' from fun e => he (by rw [← EX.out, ← EY.out, e]))
          have d0 : eqL [x0, x1, x2] [y0, y1, y2] = false := decide_eq_false he
          clear he
          go_wp2
          go_quiet (fail)
          go_wp2
          go_ret
          exact ⟨by rw [decide_eq_false HR.out]; first | done | rfl, by repeat' (first | (with_reducible exact Below.refl _ _) | (with_reducible refine Rd.below_step ?_ (by assumption)) | (with_reducible refine Rd.below_alloc ?_ _) | (with_reducible refine Rd.below_drewN ?_ _) | (with_reducible refine Below.drew ?_) | (with_reducible refine Below.setCell ?_ ?_ _) | (with_reducible refine Rd.below_setRow ?_ ?_ _) | go_size | (simp only [World.size_alloc]; omega) | omega)⟩
      · obtain rfl : k = n := by omega
        have hr : r = r' := row_eq (by rw [HN.out, HN'.out]) (by rw [HN.out]; exact HF.out)
        go_wp2
        go_ret
        exact ⟨by rw [decide_eq_true hr]; first | done | rfl, hb⟩
  · have hr : ¬ r = r' := fun e => hl (by rw [← hn, ← hn', e])
    go_enter Try.func14, Try.ntmps14
    go_wp2
    go_ret
    exact ⟨by rw [decide_eq_false hr]; first | done | rfl, by repeat' (first | (with_reducible exact Below.refl _ _) | (with_reducible refine Rd.below_step ?_ (by assumption)) | (with_reducible refine Rd.below_alloc ?_ _) | (with_reducible refine Rd.below_drewN ?_ _) | (with_reducible refine Below.drew ?_) | (with_reducible refine Below.setCell ?_ ?_ _) | (with_reducible refine Rd.below_setRow ?_ ?_ _) | go_size | (simp only [World.size_alloc]; omega) | omega)⟩
theorem three_app {r s : PgM.Row} (h : ∀ v ∈ r, v.length = 3) (h2 : ∀ v ∈ s, v.length = 3) : ∀ v ∈ r ++ s, v.length = 3 := fun v hv => (List.mem_append.1 hv).elim (h v) (h2 v)
theorem rows_len (s l y : Nat) : (rowsL s l y).length = y * s := by
  induction y with
  | zero => simp [rowsL]
  | succ y ih => rw [rowsL_succ, List.length_append, ih, List.length_map, List.length_range, Nat.add_mul]; omega
theorem done_small : ∀ d k, d ≤ 3 → k ≤ d + 1 → (doneL d k).length ≤ 85 := by
  intro d k h1 h2
  have : (d = 0 ∧ k = 0) ∨ (d = 0 ∧ k = 1) ∨ (d = 1 ∧ k = 0) ∨ (d = 1 ∧ k = 1) ∨ (d = 1 ∧ k = 2) ∨ (d = 2 ∧ k = 0) ∨ (d = 2 ∧ k = 1) ∨ (d = 2 ∧ k = 2) ∨ (d = 2 ∧ k = 3) ∨ (d = 3 ∧ k = 0) ∨ (d = 3 ∧ k = 1) ∨ (d = 3 ∧ k = 2) ∨ (d = 3 ∧ k = 3) ∨ (d = 3 ∧ k = 4) := by omega
  rcases this with ⟨rfl, rfl⟩ | ⟨rfl, rfl⟩ | ⟨rfl, rfl⟩ | ⟨rfl, rfl⟩ | ⟨rfl, rfl⟩ | ⟨rfl, rfl⟩ | ⟨rfl, rfl⟩ | ⟨rfl, rfl⟩ | ⟨rfl, rfl⟩ | ⟨rfl, rfl⟩ | ⟨rfl, rfl⟩ | ⟨rfl, rfl⟩ | ⟨rfl, rfl⟩ | ⟨rfl, rfl⟩ <;> decide +kernel
theorem sd_pow (d k : Nat) (h : k ≤ d) : sd (d : Int) (((d - k : Nat) : Int)) = ((2 ^ k : Nat) : Int) := by
  unfold sd
  rw [show ((d : Int) - ((d - k : Nat) : Int)).toNat = k by omega]
set_option maxHeartbeats 4000000 in
theorem rpages_own (d : Int) (w : World) :
    Calls Try.prog 24 #[.int .i64 d] w fun e w' => (∃ v, e = .returned v ∧ w'.ownsRow w.heap.size 35 3 v (allV d).length (fl (allV d))) ∧ Below w.heap.size w w' := by
  go_enter Try.func24, Try.ntmps24
  go_wp2_with fail
  refine (rwithin_any d 0 3 _).mono ?_
  rintro e w1 ⟨rfl, hb1⟩
  obtain ⟨qd, ed⟩ : ∃ q, decide (0 ≤ d ∧ d ≤ 3) = q := ⟨_, rfl⟩
  rw [ed]
  have ED : Hid (depthB d = qd) := Lib.hid ed
  clear ed
  cases qd
  case false =>
    have E := Lib.hid (show allV d = [] by unfold allV; rw [ED.out]; rfl)
    go_wp2
    go_ret
    rw [E.out]
    exact ⟨⟨_, rfl, World.ownsRow_nil _ _ _ _⟩, by repeat' (first | (with_reducible exact Below.refl _ _) | (with_reducible refine Rd.below_step ?_ (by assumption)) | (with_reducible refine Rd.below_alloc ?_ _) | (with_reducible refine Rd.below_drewN ?_ _) | (with_reducible refine Below.drew ?_) | (with_reducible refine Below.setCell ?_ ?_ _) | (with_reducible refine Rd.below_setRow ?_ ?_ _) | go_size | (simp only [World.size_alloc]; omega) | omega)⟩
  have hd := depth_yes ED.out
  obtain ⟨n, rfl⟩ : ∃ n : Nat, d = n := ⟨d.toNat, by omega⟩
  have hn : n ≤ 3 := by omega
  have E := Lib.hid (show allV (n : Int) = doneL n (n + 1) by unfold allV; rw [ED.out]; rfl)
  clear hd
  go_wp2_with fail
  go_loopw [3, 4] (fun v i W => ∃ k : Nat, k ≤ n + 1 ∧ i = .int .i64 ((n : Int) - k) ∧ Hid (W.ownsRow w.heap.size 35 3 v (doneL n k).length (fl (doneL n k))) ∧ Below w.heap.size w W) (fun _ i _ => (intOf i + 1).toNat)
  case atStart => exact ⟨0, by omega, by simp, World.ownsRow_nil _ _ _ _, by repeat' (first | (with_reducible exact Below.refl _ _) | (with_reducible refine Rd.below_step ?_ (by assumption)) | (with_reducible refine Rd.below_alloc ?_ _) | (with_reducible refine Rd.below_drewN ?_ _) | (with_reducible refine Below.drew ?_) | (with_reducible refine Below.setCell ?_ ?_ _) | (with_reducible refine Rd.below_setRow ?_ ?_ _) | go_size | (simp only [World.size_alloc]; omega) | omega)⟩
  case round =>
    obtain ⟨k, hk, rfl, HO, hb⟩ := hrel
    rename World => W
    by_cases hlt : k ≤ n
    · have hge : (0 : Int) ≤ (n : Int) - k := by omega
      have DN := Lib.hid (doneL_succ n k)
      have DS := Lib.hid (done_small n k hn (by omega))
      obtain ⟨l, hl⟩ : ∃ l : Nat, l = n - k := ⟨_, rfl⟩
      have hl' : (n : Int) - k = (l : Int) := by omega
      rw [hl']
      have CS : Hid (∀ X : World, Calls Try.prog 45 #[.int .i64 n, .int .i64 l] X fun e w' => e = .returned (.int .i64 ((2 ^ k : Nat) : Int)) ∧ Below X.heap.size X w') := fun X => by
        have := rside_any n l (by omega) (by omega) (by omega) X
        rw [show sd (n : Int) (l : Int) = ((2 ^ k : Nat) : Int) by rw [hl]; exact sd_pow n k hlt] at this
        exact this
      have hsb : 2 ^ k ≤ 8 := by
        have : k = 0 ∨ k = 1 ∨ k = 2 ∨ k = 3 := by omega
        rcases this with rfl | rfl | rfl | rfl <;> decide
      rw [← hl] at DN
      obtain ⟨s, es⟩ : ∃ s, 2 ^ k = s := ⟨_, rfl⟩
      rw [es] at CS DN hsb
      have ES := Lib.hid es
      have HL := Lib.hid hl
      have HLT := Lib.hid hlt
      have hl3 : l ≤ 3 := by omega
      have hk3 : k ≤ 3 := by omega
      clear es hl hlt hge hl'
      have hl0 : (0 : Int) ≤ (l : Int) := by omega
      go_wp2_with fail
      go_loopw [3, 5, 6] (fun v i j Y => ∃ y : Nat, y ≤ s ∧ i = .int .i64 y ∧ Hid (Y.ownsRow w.heap.size 35 3 v (doneL n k ++ rowsL s l y).length (fl (doneL n k ++ rowsL s l y))) ∧ Below w.heap.size w Y) (fun _ i _ _ => s - (intOf i).toNat)
      case atStart => exact ⟨0, by omega, rfl, by simpa [rowsL] using HO, hb⟩
      case round =>
        obtain ⟨y, hy, rfl, HY, hby⟩ := hrel
        rename World => Y
        have RL := rows_len s l y
        have hys : y * s ≤ 8 * 8 := Nat.mul_le_mul (by omega) hsb
        by_cases hlty : y < s
        · have hlty' : (y : Int) < s := by omega
          have RS := Lib.hid (rowsL_succ s l y)
          go_wp2_with (go_at_call 45; refine (CS.out _).mono ?_; rintro e Y2 ⟨rfl, hb2⟩)
          have HY2 := Lib.hid (owns_below HY.out hb2)
          have L2 : Below w.heap.size w Y2 := by repeat' (first | (with_reducible exact Below.refl _ _) | (with_reducible refine Rd.below_step ?_ (by assumption)) | (with_reducible refine Rd.below_alloc ?_ _) | (with_reducible refine Rd.below_drewN ?_ _) | (with_reducible refine Below.drew ?_) | (with_reducible refine Below.setCell ?_ ?_ _) | (with_reducible refine Rd.below_setRow ?_ ?_ _) | go_size | (simp only [World.size_alloc]; omega) | omega)
          clear HY hb2
          go_loopw [3, 6] (fun v i Z => ∃ x : Nat, x ≤ s ∧ i = .int .i64 x ∧ Hid (Z.ownsRow w.heap.size 35 3 v (doneL n k ++ rowsL s l y ++ (List.range x).map (lineL s l y)).length (fl (doneL n k ++ rowsL s l y ++ (List.range x).map (lineL s l y)))) ∧ Below w.heap.size w Z) (fun _ i _ => s - (intOf i).toNat)
          case atStart => exact ⟨0, by omega, rfl, by simpa using HY2, L2⟩
          case round =>
            obtain ⟨x, hx, rfl, HZ, hbz⟩ := hrel
            rename World => Z
            have ZL : (doneL n k ++ rowsL s l y ++ (List.range x).map (lineL s l y)).length ≤ 200 := by
              rw [List.length_append, List.length_append, RL, List.length_map, List.length_range]
              have := DS.out
              omega
            by_cases hltx : x < s
            · have hltx' : (x : Int) < s := by omega
              have RX := Lib.hid (show (List.range (x + 1)).map (lineL s l y) = (List.range x).map (lineL s l y) ++ [[(l : Int), (x : Int), (y : Int)]] by rw [List.range_succ, List.map_append]; rfl)
              have hzs := hbz.size
              go_wp2_with (first | (go_at_call 45; refine (CS.out _).mono ?_; rintro e Z2 ⟨rfl, hb2⟩; have HZ2 := Lib.hid (owns_below HZ.out hb2); have hz2 := hb2.size) | (at_builtin; refine app_pg rfl (.tmp 29) (.tmp 34) rfl w.heap.size _ _ _ rfl (HZ2.out.alloc _) Z2.heap.size 1 [(l : Int), (x : Int), (y : Int)] rfl rfl (blk_alloc_at _ _ _ rfl) (by omega) (by simp; omega) ?_; intro v4 w4 ho4 hg4))
              have L3 : Below w.heap.size w Z2 := by repeat' (first | (with_reducible exact Below.refl _ _) | (with_reducible refine Rd.below_step ?_ (by assumption)) | (with_reducible refine Rd.below_alloc ?_ _) | (with_reducible refine Rd.below_drewN ?_ _) | (with_reducible refine Below.drew ?_) | (with_reducible refine Below.setCell ?_ ?_ _) | (with_reducible refine Rd.below_setRow ?_ ?_ _) | go_size | (simp only [World.size_alloc]; omega) | omega)
              have L4 : Below w.heap.size w w4 := (L3.alloc (by omega) _).grown hg4 (by simp; omega) (fun j hj => (HZ2.out.lt j hj).1)
              exact ⟨⟨x + 1, by omega, by go_num, Lib.hid (by rw [RX.out, ← List.append_assoc]; simpa [Nat.add_assoc] using ho4), L4⟩, by simp [intOf]; omega⟩
            · obtain rfl : x = s := by omega
              go_wp2_with (go_at_call 45; refine (CS.out _).mono ?_; rintro e Z2 ⟨rfl, hb2⟩)
              have HZ2 := Lib.hid (owns_below HZ.out hb2)
              have L3 : Below w.heap.size w Z2 := by repeat' (first | (with_reducible exact Below.refl _ _) | (with_reducible refine Rd.below_step ?_ (by assumption)) | (with_reducible refine Rd.below_alloc ?_ _) | (with_reducible refine Rd.below_drewN ?_ _) | (with_reducible refine Below.drew ?_) | (with_reducible refine Below.setCell ?_ ?_ _) | (with_reducible refine Rd.below_setRow ?_ ?_ _) | go_size | (simp only [World.size_alloc]; omega) | omega)
              go_roundw
              case rel => exact ⟨y + 1, by omega, by go_num, Lib.hid (by rw [RS.out, ← List.append_assoc]; exact HZ2.out), L3⟩
              case measure => simp [intOf]; omega
        · obtain rfl : y = s := by omega
          go_wp2_with (go_at_call 45; refine (CS.out _).mono ?_; rintro e Y2 ⟨rfl, hb2⟩)
          have HY2 := Lib.hid (owns_below HY.out hb2)
          have L2 : Below w.heap.size w Y2 := by repeat' (first | (with_reducible exact Below.refl _ _) | (with_reducible refine Rd.below_step ?_ (by assumption)) | (with_reducible refine Rd.below_alloc ?_ _) | (with_reducible refine Rd.below_drewN ?_ _) | (with_reducible refine Below.drew ?_) | (with_reducible refine Below.setCell ?_ ?_ _) | (with_reducible refine Rd.below_setRow ?_ ?_ _) | go_size | (simp only [World.size_alloc]; omega) | omega)
          go_roundw
          case rel => exact ⟨k + 1, by have := HLT.out; omega, by have h1 := HL.out; have h2 := HLT.out; exact congrArg (Value.int .i64) (by omega), Lib.hid (by rw [DN.out]; exact HY2.out), L2⟩
          case measure => simp [intOf]
    · obtain rfl : k = n + 1 := by omega
      have hlt' : ¬ (0 : Int) ≤ (n : Int) - ((n + 1 : Nat) : Int) := by omega
      have hneg : (n : Int) - ((n + 1 : Nat) : Int) = -1 := by omega
      rw [hneg]
      obtain ⟨a', cap', e5, hca, hcb⟩ := owns_val HO.out
      subst e5
      go_wp2
      go_ret
      simp only [E.out]
      exact ⟨⟨_, rfl, HO.out⟩, hb⟩
theorem rpages_any (d : Int) (w : World) :
    Calls Try.prog 24 #[.int .i64 d] w fun e w' => (∃ ad' c', e = .returned (.slice ad' (allV d).length c') ∧ (allV d).length ≤ c' ∧ c' ≤ maxLen ∧ PgAt w' ad' (allV d)) ∧ Below w.heap.size w w' :=
  (rpages_own d w).mono fun e w' ⟨⟨v, h1, h2⟩, h3⟩ => by
    obtain ⟨a, c, hv, h4, h5⟩ := owns_val h2
    subst hv
    exact ⟨⟨a, c, h1, h4, h5, (pgAt_owns h2 (three_all d)).2⟩, h3⟩
end Go.Proofs.Ytkklppjimnkibaa.PgC

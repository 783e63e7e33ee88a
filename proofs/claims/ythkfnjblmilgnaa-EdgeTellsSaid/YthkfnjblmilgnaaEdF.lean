/-
  All covered pixels till there are enough; may spots be.
-/
import Derived.Test.YthkfnjblmilgnaaEdD
import Derived.Test.YthkfnjblmilgnaaApp
import Derived.RangeFuncBox
import Derived.Maps.OwnIn
namespace Go.Proofs.Ythkfnjblmilgnaa.EdF
open Go.RowKit Go.Shelf Rd Go.Proofs.Ythkfnjblmilgnaa.Row Mid EdM EdA EdB EdD It
set_option linter.unusedVariables false
set_option linter.unusedSimpArgs false
set_option maxRecDepth 10000
abbrev HRow := List (List Int)
def at_ (row : HRow) (i : Nat) : List Int := row.getD i []
theorem at_eq {row : HRow} {i : Nat} (h : i < row.length) : at_ row i = row[i] := by unfold at_; rw [List.getD_eq_getElem?_getD, List.getElem?_eq_getElem h]; rfl
theorem len5 {v : List Int} (h : v.length = 5) : ∃ a b c d e, v = [a, b, c, d, e] := by
  match v, h with
  | [a, b, c, d, e], _ => exact ⟨a, b, c, d, e, rfl⟩
attribute [local go_sem] Oper.semAt_some
theorem pc5 (a b c d e : Value) : piece #[a, b, c, d, e] 0 5 = #[a, b, c, d, e] := rfl
attribute [local go_sem ↓] load_tri store_tri load_hit store_hit
attribute [local go_sem] one_int pc5 run_load_tri run_store_tri run_load_hit run_store_hit midLoad_eq rowLoad_eq rowStore_eq blk_alloc_at blk_alloc_old blk_drew blk_drewN blk_set_far blk_set_far' blk_grow setRow_alloc_at setRow_alloc_old setRow_drew setRow_drewN
def HitAt (W : World) (ad : Option Addr) (row : HRow) : Prop :=
  (∀ v ∈ row, v.length = 5) ∧ (row = [] ∨ ∃ b o, ad = some ⟨b, o, none⟩ ∧ b < W.heap.size ∧ ∀ i, i < row.length → ∀ j, j < 5 → W.cell? ⟨b, o + i * 5 + j, none⟩ = some (.int .i64 (EdM.g (at_ row i) j)))
theorem HitAt.below {W W2 : World} {ad : Option Addr} {row : HRow} {B : Nat} (h : HitAt W ad row) (hb : Below W.heap.size W W2) : HitAt W2 ad row := by
  refine ⟨h.1, ?_⟩
  rcases h.2 with h | ⟨b, o, e, hlt, hc⟩
  · exact Or.inl h
  · exact Or.inr ⟨b, o, e, Nat.lt_of_lt_of_le hlt hb.size, fun i hi j hj => (hb.cell (p := ⟨b, o + i * 5 + j, none⟩) hlt).trans (hc i hi j hj)⟩
theorem info_hit3 : (Try.prog.info? 31).map (fun i => (i.zero, i.size, i.bytes)) = some (some (.agg #[.int .i64 0, .int .i64 0, .int .i64 0, .int .i64 0, .int .i64 0]), 5, 40) := by kernel_rfl
def fl (r : HRow) : List Value := r.flatMap fun v => v.map (Value.int .i64)
theorem fl_nil : fl [] = [] := rfl
theorem fl_app (r s : HRow) : fl (r ++ s) = fl r ++ fl s := by simp [fl, List.flatMap_append]
theorem fl_one (v : List Int) : fl [v] = v.map (Value.int .i64) := by simp [fl]
theorem fl_len {r : HRow} (h : ∀ v ∈ r, v.length = 5) : (fl r).length = r.length * 5 := by
  induction r with
  | nil => rfl
  | cons v r ih =>
    have e : fl (v :: r) = fl [v] ++ fl r := fl_app [v] r
    rw [e, List.length_append, fl_one, List.length_map, h v (List.mem_cons_self ..), ih fun u hu => h u (List.mem_cons_of_mem _ hu), List.length_cons]
    omega
theorem fl_at {r : HRow} (h : ∀ v ∈ r, v.length = 5) : ∀ i, i < r.length → ∀ j, j < 5 → (fl r)[i * 5 + j]? = some (.int .i64 (EdM.g (at_ r i) j)) := by
  induction r with
  | nil => intro i hi; simp at hi
  | cons v r ih =>
    intro i hi j hj
    have e : fl (v :: r) = fl [v] ++ fl r := fl_app [v] r
    have hv := h v (List.mem_cons_self ..)
    rw [e, fl_one]
    cases i with
    | zero =>
      rw [List.getElem?_append_left (by simp; omega)]
      have : at_ (v :: r) 0 = v := rfl
      rw [this]
      simp [EdM.g, List.getD, hv, hj]
    | succ i =>
      rw [List.getElem?_append_right (by simp; omega), List.length_map, hv, show (i + 1) * 5 + j - 5 = i * 5 + j by omega, ih (fun u hu => h u (List.mem_cons_of_mem _ hu)) i (by simpa using hi) j hj]
      rfl
theorem owns_below {W W2 : World} {base : Nat} {e : TypeId} {size : Nat} {v : Value} {n : Nat} {xs : List Value} (h : W.ownsRow base e size v n xs) (hb : Below W.heap.size W W2) : W2.ownsRow base e size v n xs := by
  obtain ⟨h1, h2⟩ := h
  refine ⟨h1, ?_⟩
  rcases h2 with h2 | ⟨g, cap, cur, e1, e2, e3, e4⟩
  · exact Or.inl h2
  · refine Or.inr ⟨g, cap, cur, e1, e2, ?_, e4⟩
    have hg : g < W.heap.size := blk_lt (w := W) (g := g) e3
    exact (hb.block g hg).trans e3
theorem hitAt_owns {W : World} {base : Nat} {n : Nat} {ad : Option Addr} {cap : Nat} {r : HRow} (h : W.ownsRow base 31 5 (.slice ad n cap) n (fl r)) (hr : ∀ v ∈ r, v.length = 5) : n = r.length ∧ HitAt W ad r := by
  have hn : n = r.length := by
    have := h.1
    rw [fl_len hr] at this
    omega
  refine ⟨hn, hr, ?_⟩
  have hR := Reads.of_owns h
  obtain ⟨hl, hc⟩ := hR
  rcases hc with h0 | ⟨b, off, e, hb, hcell⟩
  · left; exact List.eq_nil_of_length_eq_zero (by omega)
  · right
    refine ⟨b, off, e, hb, fun i hi j hj => ?_⟩
    rw [Nat.add_assoc, hcell _ (by rw [fl_len hr]; omega), fl_at hr i hi j hj]
theorem app_hit {ops : Array Oper} {rest : List Oper} {o : Oper} {a : Act} {w : World} {Q : Exit → Act → World → Prop} (hgd : o.guard = none) (s x : Operand)
    (ho : o.op = .call { callee := .builtin .append, args := #[s, x], argTypes := #[38, 38] })
    (base : Nat) (v : Value) (m : Nat) (r : HRow) (hs : a.eval s = v) (hown : w.ownsRow base 31 5 v m (fl r))
    (gx : Nat) (cx : Nat) (y : List Int) (hx : a.eval x = .slice (some ⟨gx, 0, none⟩) 1 cx) (hy : y.length = 5) (hg : blk w gx = some (.cells (cs .i64 y) 31 (0, 0))) (hm : m ≤ 1000000) (hbase : base ≤ w.heap.size)
    (h : ∀ v' w', w'.ownsRow base 31 5 v' (m + 1) (fl (r ++ [y])) → w.grownBy w' v.ownBlock → wpList Try.prog ops Q rest (a.put o.dst v') w') : wpList Try.prog ops Q (o :: rest) a w := by
  obtain ⟨i0, hi, hz0, hz1, hz2⟩ := info_parts info_hit3
  refine App.wpList_append_reads w hgd s x 38 ho base 31 i0 _ 5 40 Try.underlying38 hi hz0 hz1 hz2 rfl (by decide) v m (fl r) hs hown (some ⟨gx, 0, none⟩) 1 cx (fl [y]) hx ?_ ?_ (by unfold maxLen; omega) (by omega) hbase ?_
  · refine ⟨by rw [fl_one, List.length_map, hy], Or.inr ⟨gx, 0, rfl, blk_lt hg, fun j hj => ?_⟩⟩
    rw [Nat.zero_add, blk_cell hg, fl_one]
    simp
  · intro u hu
    rw [fl_one, List.mem_map] at hu
    obtain ⟨z, _, rfl⟩ := hu
    rfl
  · intro v' w' h1 h2
    rw [← fl_app] at h1
    exact h v' w' h1 h2
theorem eq_nil (d f : Nat) (c : Array Value) (w : World) : (Op.equalIn (d + 1) 52 (.func (.func f) #[] c) .nilFunc).run Try.prog w = .ok false w := by
  rw [Op.equalIn]
  simp [go_sem, Try.underlying52]
theorem nil_iter (f : Nat) (c : Array Value) (w : World) : (binOp .eql 52 (.func (.func f) #[] c) .nilFunc).run Try.prog w = .ok (.bool false) w := by
  simp only [binOp]
  rw [show Op.equal = Op.equalIn (9999 + 1) from rfl]
  simp only [Sem.run_bind, eq_nil, Result.andThen_ok, Sem.run_pure]
attribute [local go_sem ↓] nil_iter
theorem app_hitIn {F : Fence} {nF : Nat} {ops : Array Oper} {rest : List Oper} {o : Oper} {a : Act} {w : World} {Q : Exit → Act → World → Prop} (hgd : o.guard = none) (s x : Operand)
    (ho : o.op = .call { callee := .builtin .append, args := #[s, x], argTypes := #[38, 38] })
    (base : Nat) (v : Value) (m : Nat) (r : HRow) (hs : a.eval s = v) (hown : w.ownsRow base 31 5 v m (fl r))
    (gx : Nat) (cx : Nat) (y : List Int) (hx : a.eval x = .slice (some ⟨gx, 0, none⟩) 1 cx) (hy : y.length = 5) (hg : blk w gx = some (.cells (cs .i64 y) 31 (0, 0))) (hm : m ≤ 1000000) (hbase : base ≤ w.heap.size)
    (h : ∀ v' w', w'.ownsRow base 31 5 v' (m + 1) (fl (r ++ [y])) → w.grownBy w' v.ownBlock → (v'.ownBlock = v.ownBlock ∨ v'.ownBlock = some w.heap.size) → wpListIn F nF Try.prog ops Q rest (a.put o.dst v') w') : wpListIn F nF Try.prog ops Q (o :: rest) a w := by
  obtain ⟨i0, hi, hz0, hz1, hz2⟩ := info_parts info_hit3
  refine wpListIn_append_own_at w hgd s x 38 ho base 31 i0 _ 5 40 Try.underlying38 hi hz0 hz1 hz2 rfl (by decide) v m (fl r) hs hown ⟨gx, 0, none⟩ 1 cx (fl [y]) hx ?_ ?_ ?_ (by unfold maxLen; omega) (by omega) hbase ?_
  · rw [fl_one, List.length_map, hy]
  · intro j u hj
    rw [Addr.add_mid, Nat.zero_add, blk_cell hg]
    rw [fl_one] at hj
    simpa [cs] using hj
  · intro u hu
    rw [fl_one, List.mem_map] at hu
    obtain ⟨z, _, rfl⟩ := hu
    rfl
  · intro v' w' h1 h2 h3 h4
    exact h v' w' (by rw [fl_app]; exact h1) h2 h4
def cutB (T : List Int) (fw fh most : Int) : Bool := decide (0 ≤ most ∧ most < ((pixV T fw fh).length : Int))
def cutV (T : List Int) (fw fh most : Int) : HRow := if cutB T fw fh most = true then (pixV T fw fh).take most.toNat else pixV T fw fh
theorem cut_at {T : List Int} {fw fh most : Int} {q : HRow} {x : List Int} (h : q ++ [x] <+: pixV T fw fh) (hk : (q.length : Int) = most) : cutV T fw fh most = q := by
  have hl := h.length_le
  simp only [List.length_append, List.length_singleton] at hl
  unfold cutV
  rw [if_pos (show cutB T fw fh most = true from decide_eq_true (by omega))]
  have hq : most.toNat = q.length := by omega
  rw [hq]
  obtain ⟨t, ht⟩ := h
  rw [← ht, List.append_assoc, List.take_left']
  rfl
theorem cut_not {T : List Int} {fw fh most : Int} (h : ∀ i, i < (pixV T fw fh).length → (i : Int) ≠ most) : cutV T fw fh most = pixV T fw fh := by
  have hr : ¬ (0 ≤ most ∧ most < ((pixV T fw fh).length : Int)) := fun ⟨a, b⟩ => h most.toNat (by omega) (by omega)
  unfold cutV
  rw [if_neg (by rw [show cutB T fw fh most = false from decide_eq_false hr]; decide)]
theorem below_grown {B b : Nat} {w X Y : World} {row : Option Nat} (h : Below b w X) (hg : X.grownBy Y row) (hb : b ≤ w.heap.size) (hr : ∀ r, row = some r → b ≤ r) : Below b w Y :=
  ⟨hg.os.trans h.os, hg.tape.trans h.tape, hg.output.trans h.output, Nat.le_trans h.size hg.size, fun k hk => (hg.block k (by have := h.size; omega) fun e => by have := hr k e.symm; omega).trans (h.block k hk)⟩
theorem blk_grown {X Y : World} {row : Option Nat} {k : Nat} {o : Obj} (h : blk X k = some o) (hg : X.grownBy Y row) (hr : ∀ r, row = some r → k < r) : blk Y k = some o :=
  (hg.block k (get_lt h) fun e => by have := hr k e.symm; omega).trans h
structure AllEnd (w : World) (r : HRow) (X : World) : Prop where
  below : Below w.heap.size w X
  row : ∃ v, Boxed X (w.heap.size + 2) 38 v ∧ X.ownsRow (w.heap.size + 2) 31 5 v r.length (fl r)
  size : w.heap.size + 6 ≤ X.heap.size
structure AllRun (w : World) (T : List Int) (fw fh most : Int) (pre : HRow) (X : World) : Prop where
  fin : AllEnd w pre X
  k : blk X (w.heap.size + 1) = some (.cells #[.int .i64 most] 3 (0, 0))
  b : PixK T fw fh (w.heap.size + 3) (w.heap.size + 4) (w.heap.size + 5) X
  not : ∀ i, i < pre.length → (i : Int) ≠ most
theorem not_row {X : World} {row : Option Nat} {base : Nat} {e : TypeId} {sz : Nat} {v : Value} {k : Nat} {xs : List Value} (h : X.ownsRow base e sz v k xs) (hr : ∀ r, row = some r → ∃ o : Obj, X.heap[r]? = some o ∧ o.isCells = false) : row = none ∨ row ≠ v.ownBlock := by
  cases row with
  | none => exact .inl rfl
  | some r =>
    refine .inr fun e' => ?_
    obtain ⟨o, ho, hc⟩ := hr r rfl
    rcases h.2 with ⟨rfl, _⟩ | ⟨g, cap, cur, rfl, _, hgb, _⟩
    · cases e'
    · obtain rfl : r = g := by simpa [Value.ownBlock] using e'
      rw [hgb] at ho; cases ho; cases hc
theorem AllEnd.grown {w : World} {r : HRow} {X Y : World} {row : Option Nat} (h : AllEnd w r X) (hg : X.grownBy Y row) (hr : ∀ r, row = some r → w.heap.size + 6 ≤ r ∧ ∃ o : Obj, X.heap[r]? = some o ∧ o.isCells = false) : AllEnd w r Y := by
  obtain ⟨v, hv, ho⟩ := h.row
  refine ⟨below_grown (B := 0) h.below hg (Nat.le_refl _) fun r e => by have := (hr r e).1; omega, ⟨v, hv.kept hg fun e => ?_, ho.kept hg ?hne⟩, Nat.le_trans h.size hg.size⟩
  · have := (hr _ e.symm).1
    omega
  case hne =>
    rcases not_row ho (fun r e => (hr r e).2) with e | e
    · subst e
      cases v.ownBlock with
      | none => exact .inl rfl
      | some _ => exact .inr (by simp)
    · exact .inr (Ne.symm e)
theorem AllRun.grown {w : World} {T : List Int} {fw fh most : Int} {pre : HRow} {X Y : World} {row : Option Nat} (h : AllRun w T fw fh most pre X) (hg : X.grownBy Y row) (hr : ∀ r, row = some r → w.heap.size + 6 ≤ r ∧ ∃ o : Obj, X.heap[r]? = some o ∧ o.isCells = false) : AllRun w T fw fh most pre Y :=
  ⟨h.fin.grown hg hr, blk_grown h.k hg fun r e => by have := (hr r e).1; omega, ⟨blk_grown h.b.1 hg fun r e => by have := (hr r e).1; omega, blk_grown h.b.2.1 hg fun r e => by have := (hr r e).1; omega, blk_grown h.b.2.2 hg fun r e => by have := (hr r e).1; omega⟩, h.not⟩
/-- whose block the collected pages lie in -/
def AllOwn (w : World) (X : World) (k : Nat) : Prop := ∃ v, Boxed X (w.heap.size + 2) 38 v ∧ v.ownBlock = some k
theorem all_mine (w : World) (T : List Int) (fw fh most : Int) (B : Nat) (hB : w.heap.size + 6 ≤ B) : Mine B (AllRun w T fw fh most) (fun _ X k => AllOwn w X k) := by
  refine ⟨fun s X k h ho => ?_, fun s X Y row h hg hr k ho => ?_⟩
  · obtain ⟨v, hv, ow⟩ := h.fin.row
    obtain ⟨v', hv', e⟩ := ho
    have : v = v' := by
      have := (show X.heap[w.heap.size + 2]? = _ from hv).symm.trans hv'
      simpa using this
    subst this
    rcases ow.2 with ⟨rfl, _⟩ | ⟨g, cap, cur, rfl, _, hgb, _⟩
    · cases e
    · obtain rfl : g = k := by simpa [Value.ownBlock] using e
      exact ⟨_, _, _, hgb⟩
  · obtain ⟨v, hv, ow⟩ := h.fin.row
    obtain ⟨v', hv', e⟩ := ho
    have hv2 : Boxed Y (w.heap.size + 2) 38 v := hv.kept hg fun e => by have := (hr _ e.symm).1; omega
    have : v = v' := by
      have := (show Y.heap[w.heap.size + 2]? = _ from hv2).symm.trans hv'
      simpa using this
    subst this
    exact ⟨v, hv, e⟩
theorem all_start (w : World) (T : List Int) (fw fh most : Int) : AllRun w T fw fh most [] ((((((w.alloc (.cells (cs .i64 T) 24)).alloc (.cells #[.int .i64 most] 3)).alloc (.cells #[.slice none 0 0] 38)).alloc (.cells (cs .i64 T) 24)).alloc (.cells #[.int .i64 fw] 3)).alloc (.cells #[.int .i64 fh] 3)) := by
  have b : Below w.heap.size w ((((((w.alloc (.cells (cs .i64 T) 24)).alloc (.cells #[.int .i64 most] 3)).alloc (.cells #[.slice none 0 0] 38)).alloc (.cells (cs .i64 T) 24)).alloc (.cells #[.int .i64 fw] 3)).alloc (.cells #[.int .i64 fh] 3)) := by
    refine ((((((Below.refl _ w).alloc ?_ _).alloc ?_ _).alloc ?_ _).alloc ?_ _).alloc ?_ _).alloc ?_ _ <;> (try simp only [World.size_alloc]) <;> omega
  have O : ∀ (X : World) (o : Obj) (k : Nat) {p : Obj}, k < X.heap.size → blk X k = some p → blk (X.alloc o) k = some p := fun X o k p h e => (blk_alloc_old X o k h).trans e
  refine ⟨⟨b, ⟨.slice none 0 0, ?_, World.ownsRow_nil _ _ _ _⟩, by simp⟩, ?_, ⟨?_, ?_, ?_⟩, fun i hi => absurd hi (by simp)⟩
  · exact O _ _ _ (by simp) (O _ _ _ (by simp) (O _ _ _ (by simp) (blk_alloc_at _ _ _ (by simp))))
  · exact O _ _ _ (by simp) (O _ _ _ (by simp) (O _ _ _ (by simp) (O _ _ _ (by simp) (blk_alloc_at _ _ _ (by simp)))))
  · exact O _ _ _ (by simp) (O _ _ _ (by simp) (blk_alloc_at _ _ _ (by simp)))
  · exact O _ _ _ (by simp) (blk_alloc_at _ _ _ (by simp))
  · exact blk_alloc_at _ _ _ (by simp)
theorem all_step {w X2 w4 : World} {T : List Int} {fw fh most : Int} {pre : HRow} {v v4 : Value} {tmp : Obj} {B : Nat} (h : AllRun w T fw fh most pre X2) (hv : Boxed X2 (w.heap.size + 2) 38 v) (ow : X2.ownsRow (w.heap.size + 2) 31 5 v pre.length (fl pre))
    (hg : (X2.alloc tmp).grownBy w4 v.ownBlock) {x : List Int} (hb : Boxed (w4.setCell ⟨w.heap.size + 2, 0, none⟩ v4) (w.heap.size + 2) 38 v4) (ho : (w4.setCell ⟨w.heap.size + 2, 0, none⟩ v4).ownsRow (w.heap.size + 2) 31 5 v4 (pre.length + 1) (fl (pre ++ [x])))
    (hbel : Below (w.heap.size + 2) X2 (w4.setCell ⟨w.heap.size + 2, 0, none⟩ v4)) (hb4 : v4.ownBlock = v.ownBlock ∨ v4.ownBlock = some (X2.alloc tmp).heap.size) (hne : (pre.length : Int) ≠ most) (hB : w.heap.size + 6 ≤ B) (a : Act) :
    It.Ends B (fun pre Z => AllRun w T fw fh most pre Z) (fun c pre Z => c = .exit 0 ∧ ∃ q x, pre = q ++ [x] ∧ (q.length : Int) = most ∧ AllEnd w q Z) (fun _ Z k => AllOwn w Z k) pre x X2 .normal a (w4.setCell ⟨w.heap.size + 2, 0, none⟩ v4) := by
  have keep : ∀ k, w.heap.size + 2 < k → k < X2.heap.size → some k ≠ v.ownBlock → (w4.setCell ⟨w.heap.size + 2, 0, none⟩ v4).heap[k]? = X2.heap[k]? := fun k h1 h2 h3 =>
    (blk_set_far' _ _ _ _ h1).trans ((hg.block k (by simp; omega) h3).trans (blk_alloc_old _ _ _ h2))
  have hsz : X2.heap.size ≤ (w4.setCell ⟨w.heap.size + 2, 0, none⟩ v4).heap.size := hbel.size
  have hs := h.fin.size
  refine ⟨⟨hsz, fun k h1 h2 h3 => keep k (by omega) h2 fun e => h3 ⟨v, hv, e.symm⟩⟩, ⟨⟨h.fin.below.trans (hbel.mono (by omega)), ⟨v4, hb, by rw [List.length_append, List.length_singleton]; exact ho⟩, by omega⟩, ?_, ?_, fun i hi => ?_⟩, fun k ⟨v', hv', e⟩ hk => ?_⟩
  · exact (hbel.block _ (by omega)).trans h.k
  · have far : ∀ (k : Nat) (c : Array Value) (ty : TypeId), w.heap.size + 2 < k → k < X2.heap.size → X2.heap[k]? = some (.cells c ty (0, 0)) → ty ≠ 31 → (w4.setCell ⟨w.heap.size + 2, 0, none⟩ v4).heap[k]? = X2.heap[k]? := fun k c ty h1 h2 h3 h4 => keep k h1 h2 fun e => by
      rcases ow.2 with ⟨rfl, _⟩ | ⟨g, cap, cur, rfl, _, hgb, _⟩
      · cases e
      · obtain rfl : k = g := by simpa [Value.ownBlock] using e
        have := h3.symm.trans hgb
        simp at this
        exact h4 this.2
    exact ⟨(far _ _ _ (by omega) (by omega) h.b.1 (by decide)).trans h.b.1, (far _ _ _ (by omega) (by omega) h.b.2.1 (by decide)).trans h.b.2.1, (far _ _ _ (by omega) (by omega) h.b.2.2 (by decide)).trans h.b.2.2⟩
  · by_cases hl : i < pre.length
    · exact h.not i hl
    · simp only [List.length_append, List.length_singleton] at hi
      rw [show i = pre.length by omega]
      exact hne
  · have : v4 = v' := by
      have := (show (w4.setCell ⟨w.heap.size + 2, 0, none⟩ v4).heap[w.heap.size + 2]? = _ from hb).symm.trans hv'
      simpa using this
    subst this
    rcases hb4 with e2 | e2
    · exact .inl ⟨v, hv, e2.symm.trans e⟩
    · refine .inr ?_
      have := e2.symm.trans e
      simp at this
      omega
theorem all_leaves {w Z : World} {T : List Int} {fw fh most : Int} {q : HRow} {ad : Option Addr} {cap D : Nat} (h : AllEnd w q Z) (c5 : Z.cell? ⟨w.heap.size + 2, 0, none⟩ = some (.slice ad q.length cap)) (hm : cutV T fw fh most = q) (hD : w.heap.size + 6 ≤ D) {fn : Func} (hf : fn.results = #[.tmp 8]) (hdef : Z.heap[D]? = some (.deferred (some [])))
    (tmps : Array Value) (h4 : tmps.getD 8 undef = .slice ad q.length cap) :
    LeavesInM Fence.wide 0 Try.prog fn tmps (fun e w' => (∃ ad' c', e = .returned (.slice ad' (cutV T fw fh most).length c') ∧ HitAt w' ad' (cutV T fw fh most)) ∧ Below w.heap.size w w') [mk D] .returning Z := by
  have h3 : ∀ v ∈ cutV T fw fh most, v.length = 5 := by
    intro v hv
    unfold cutV at hv
    split at hv
    · exact pix_five v (List.mem_of_mem_take hv)
    · exact pix_five v hv
  refine leaves_marks (Ds := [D]) (B := w.heap.size + 6) (fun Y => AllEnd w q Y ∧ Boxed Y (w.heap.size + 2) 38 (.slice ad q.length cap)) (fun E Y hE hY he => ?_) (fun Y hY => ?_) (by simp) Z ⟨h, ?_⟩ fun E hp => ?_
  · refine ⟨hY.1.grown (grownBy_putObj' _ _ _) fun r e => by injection e with e; subst e; exact ⟨hE, _, he, rfl⟩, hY.2.kept (grownBy_putObj' _ _ _) fun e => by injection e with e; omega⟩
  · obtain ⟨v, hv, ow⟩ := hY.1.row
    have : v = .slice ad q.length cap := by
      have := (show Y.heap[w.heap.size + 2]? = _ from hv).symm.trans hY.2
      simpa using this
    subst this
    refine ⟨_, results_tmp hf tmps _ _, ⟨ad, cap, by rw [h4, hm], ?_⟩, hY.1.below⟩
    rw [hm] at h3 ⊢
    exact (hitAt_owns ow h3).2
  · obtain ⟨v, hv, ow⟩ := h.row
    have := hv.cell.symm.trans c5
    injection this with this
    rw [← this]
    exact hv
  · obtain rfl : E = D := by simpa using hp
    exact ⟨hD, hdef⟩
set_option maxHeartbeats 4000000 in
theorem lall_any (T : List Int) (hT : Tri T) (fw fh most : Int) (w : World) :
    Calls Try.prog 18 #[.agg (cs .i64 T), .int .i64 fw, .int .i64 fh, .int .i64 most] w fun e w' => (∃ ad' c', e = .returned (.slice ad' (cutV T fw fh most).length c') ∧ HitAt w' ad' (cutV T fw fh most)) ∧ Below w.heap.size w w' := by
  refine callsIn_wide.1 (callsIn_of_wp_marks (F := Fence.wide) (n := 0) Try.func18 rfl trivial ?_ rfl)
  simp only [Try.ntmps18, List.size_toArray, List.length_cons, List.length_nil, Nat.reduceAdd, Nat.reduceSub, Array.replicate_succ, Array.replicate_zero, List.push_toArray, List.append_toArray, List.nil_append, List.cons_append]
  have hl := hT.len
  gi_wp2_with fail
  refine ⟨trivial, rfl, (callsIn_wide.2 (pix_any T fw fh _)).mono ?_⟩
  rintro e W1 ⟨rfl, hW1⟩
  have R0 : AllRun w T fw fh most [] W1 := by rw [hW1]; exact all_start w T fw fh most
  have hs1 : W1.heap.size = w.heap.size + 6 := by rw [hW1]; simp
  have HR0 := Lib.hid R0
  clear hW1 R0
  gi_wp2_with fail
  simp only [Nat.add_assoc, Nat.reduceAdd]
  refine range_seq (gf := 23) (lb := #[.pointer (some ⟨w.heap.size + 3, 0, none⟩), .pointer (some ⟨w.heap.size + 4, 0, none⟩), .pointer (some ⟨w.heap.size + 5, 0, none⟩)]) rfl enters_pix (pix_seq T hT fw fh (w.heap.size + 3) (w.heap.size + 4) (w.heap.size + 5)) (fun _ => rfl)
    (fun pre Z => AllRun w T fw fh most pre Z)
    (fun c pre Z => c = .exit 0 ∧ ∃ q x, pre = q ++ [x] ∧ (q.length : Int) = most ∧ AllEnd w q Z)
    (fun _ Z k => AllOwn w Z k) ?hI ?hIx (all_mine w T fw fh most _ (by omega)) (fun _ _ h => h.b) HR0.out ?round ?done ?stop
  case hI => exact fun s X Y row h hg hr => h.grown hg fun r e => ⟨by have := (hr r e).1; omega, (hr r e).2⟩
  case hIx => exact fun c s X Y row ⟨h1, q, x, h2, h3, h4⟩ hg hr => ⟨h1, q, x, h2, h3, h4.grown hg fun r e => ⟨by have := (hr r e).1; omega, (hr r e).2⟩⟩
  case round =>
    intro l' pre x Z hl' hrec hI hpre
    obtain ⟨x0, x1, x2, x3, x4, rfl⟩ := len5 (pix_five x (pre_mem hpre))
    have HI := Lib.hid hI
    have hsm : pre.length < 1025 := by
      have h1 := hpre.length_le
      have h2 := pix_small T fw fh
      simp only [List.length_append, List.length_singleton] at h1
      omega
    have HPR := Lib.hid hpre
    obtain ⟨rr, hrr⟩ := hrec
    have hlz := get_lt hrr
    have HRR := Lib.hid hrr
    clear hI hpre hrr
    simp only [encH, cs, List.map_cons, List.map_nil]
    gi_wp2_with fail
    refine ⟨World.grownBy_alloc _ _ none, fun X2 hg hI2 hl2 => ?_⟩
    have c2 : blk X2 Z.heap.size = some (.cells #[.int .i64 x0, .int .i64 x1, .int .i64 x2, .int .i64 x3, .int .i64 x4] 31 (0, 0)) := (hg.block _ (by simp) (fun e => by injection e with e; omega)).trans (World.alloc_heap_new _ _)
    have HI2 := Lib.hid hI2
    have c4 : X2.cell? ⟨w.heap.size + 1, 0, none⟩ = some (.int .i64 most) := by rw [blk_cell hI2.k]; rfl
    obtain ⟨v, hv, ow⟩ := hI2.fin.row
    obtain ⟨ad, cap, rfl, _⟩ := owns_val ow
    have c5 := hv.cell
    have HV := Lib.hid hv
    have OW := Lib.hid ow
    have hsz2 : w.heap.size + 6 ≤ X2.heap.size := hI2.fin.size
    clear hg hI2 hl2 hv ow
    by_cases hke : (pre.length : Int) = most
    · gi_wp2_with fail
      exact ⟨Hold.refl _ _ _, rfl, pre, [x0, x1, x2, x3, x4], rfl, hke, HI2.out.fin⟩
    · gi_wp2_with (gi_at_builtin; refine app_hitIn rfl (.tmp 24) (.tmp 26) rfl (w.heap.size + 2) _ _ _ rfl (OW.out.alloc _) X2.heap.size 1 [x0, x1, x2, x3, x4] rfl rfl (blk_alloc_at _ _ _ rfl) (by omega) (by simp; omega) ?_; intro v4 w4 ho4 hg4 hb4; obtain ⟨g4, cap4, rfl⟩ := ownsRow_succ ho4; have AP := Lib.hid (HV.out.appended (show (38 : Nat) ≠ 31 by decide) OW.out (by omega) (by omega) ho4 hg4); have b4 := AP.out.1.cell; have f4 := AP.out.1.frozen; have HG4 := Lib.hid hg4; have HB4 := Lib.hid hb4; clear ho4 hg4 hb4)
      exact all_step HI2.out HV.out OW.out HG4.out AP.out.2.1 AP.out.2.2.1 AP.out.2.2.2.2 HB4.out hke (by omega) _
  case done =>
    intro D Z hD hI hdef
    have HI := Lib.hid hI
    have hm := cut_not hI.not
    obtain ⟨v, hv, ow⟩ := hI.fin.row
    obtain ⟨ad, cap, rfl, _⟩ := owns_val ow
    have c5 := hv.cell
    clear hI hv ow
    gi_wp2_with fail
    exact all_leaves HI.out.fin c5 hm (by omega) rfl hdef _ rfl
  case stop =>
    intro D c pre Z hD hpre hx hdef
    obtain ⟨rfl, q, x, rfl, hq, hx⟩ := hx
    have HI := Lib.hid hx
    have hm := cut_at hpre hq
    obtain ⟨v, hv, ow⟩ := hx.row
    obtain ⟨ad, cap, rfl, _⟩ := owns_val ow
    have c5 := hv.cell
    clear hx hv ow
    gi_wp2_with fail
    exact all_leaves HI.out c5 hm (by omega) rfl hdef _ rfl
end Go.Proofs.Ythkfnjblmilgnaa.EdF

/-
  The free runs as a row.
-/
import Derived.Test.YtmhjhfjbfoklpaaExB
import Derived.Maps.AppendAt
import Derived.Maps.OwnIn
namespace Go.Proofs.Ytmhjhfjbfoklpaa.ExC
open Go.RowKit Go.Shelf Rd Go.Proofs.Ytmhjhfjbfoklpaa.Row It ExM ExA ExB
set_option linter.unusedVariables false
set_option linter.unusedSimpArgs false
set_option maxRecDepth 10000
attribute [local go_sem] Oper.semAt_some
theorem eq_nil (d f : Nat) (c : Array Value) (w : World) : (Op.equalIn (d + 1) 55 (.func (.func f) #[] c) .nilFunc).run Try.prog w = .ok false w := by
  rw [Op.equalIn]
  simp [go_sem, Try.underlying55]
theorem nil_iter (f : Nat) (c : Array Value) (w : World) : (binOp .eql 55 (.func (.func f) #[] c) .nilFunc).run Try.prog w = .ok (.bool false) w := by
  simp only [binOp]
  rw [show Op.equal = Op.equalIn (9999 + 1) from rfl]
  simp only [Sem.run_bind, eq_nil, Result.andThen_ok, Sem.run_pure]
attribute [local go_sem ↓] nil_iter
theorem own_lo {W : World} {base b e s n : Nat} {v : Value} {xs : List Value} (h : W.ownsRow base e s v n xs) (hb : b ≤ base) : W.ownsRow b e s v n xs :=
  ⟨h.1, h.2.imp id fun ⟨g, cap, cur, e1, e2, e3⟩ => ⟨g, cap, cur, e1, Nat.le_trans hb e2, e3⟩⟩
theorem own_hi {W : World} {base b e s n : Nat} {v : Value} {xs : List Value} (h : W.ownsRow base e s v n xs) (hb : ∀ k, v.ownBlock = some k → b ≤ k) : W.ownsRow b e s v n xs :=
  ⟨h.1, h.2.imp id fun ⟨g, cap, cur, e1, e2, e3⟩ => ⟨g, cap, cur, e1, hb g (by rw [e1]; rfl), e3⟩⟩
def pv (r : List (Nat × Nat)) : List Value := r.flatMap fun x => [Value.int .i64 (x.1 : Int), Value.int .i64 (x.2 : Int)]
theorem pv_app (r s : List (Nat × Nat)) : pv (r ++ s) = pv r ++ pv s := by simp [pv]
theorem pv_len : ∀ r : List (Nat × Nat), (pv r).length = r.length * 2
  | [] => rfl
  | x :: r => by
    have := pv_len r
    show (pv r).length + 1 + 1 = (r.length + 1) * 2
    omega
theorem info_two : (Try.prog.info? 48).map (fun i => (i.zero, i.size, i.bytes)) = some (some (.agg #[.int .i64 0, .int .i64 0]), 2, 16) := by kernel_rfl
theorem app_twoIn {F : Fence} {nF : Nat} {ops : Array Oper} {rest : List Oper} {o : Oper} {a : Act} {w : World} {Q : Exit → Act → World → Prop} (hgd : o.guard = none) (s x : Operand)
    (ho : o.op = .call { callee := .builtin .append, args := #[s, x], argTypes := #[30, 30] })
    (base : Nat) (v : Value) (m : Nat) (r : List (Nat × Nat)) (hs : a.eval s = v) (hown : w.ownsRow base 48 2 v m (pv r))
    (gx : Nat) (cx : Nat) (y : Nat × Nat) (hx : a.eval x = .slice (some ⟨gx, 0, none⟩) 1 cx) (hg : blk w gx = some (.cells #[.int .i64 (y.1 : Int), .int .i64 (y.2 : Int)] 48 (0, 0))) (hm : m ≤ 1000000) (hbase : base ≤ w.heap.size)
    (h : ∀ v' w', w'.ownsRow base 48 2 v' (m + 1) (pv (r ++ [y])) → w.grownBy w' v.ownBlock → (v'.ownBlock = v.ownBlock ∨ v'.ownBlock = some w.heap.size) → wpListIn F nF Try.prog ops Q rest (a.put o.dst v') w') : wpListIn F nF Try.prog ops Q (o :: rest) a w := by
  obtain ⟨i0, hi, hz0, hz1, hz2⟩ := info_parts info_two
  refine wpListIn_append_own_at w hgd s x 30 ho base 48 i0 _ 2 16 Try.underlying30 hi hz0 hz1 hz2 rfl (by decide) v m (pv r) hs hown ⟨gx, 0, none⟩ 1 cx (pv [y]) hx ?_ ?_ ?_ (by unfold maxLen; omega) (by omega) hbase ?_
  · rfl
  · intro j u hj
    rw [Addr.add_mid, Nat.zero_add, blk_cell hg]
    simpa [pv] using hj
  · intro u hu
    simp only [pv, List.flatMap_cons, List.flatMap_nil, List.append_nil, List.mem_cons, List.not_mem_nil, or_false] at hu
    rcases hu with rfl | rfl <;> rfl
  · intro v' w' h1 h2 h3 h4
    exact h v' w' (by rw [pv_app]; exact h1) h2 h4
def cutB (xs : List (Nat × Nat)) (most : Int) : Bool := decide (0 ≤ most ∧ most < xs.length)
def cutV (xs : List (Nat × Nat)) (most : Int) : List (Nat × Nat) := if cutB xs most = true then xs.take most.toNat else xs
theorem cut_at {xs : List (Nat × Nat)} {most : Int} {q : List (Nat × Nat)} {x : Nat × Nat} (h : q ++ [x] <+: xs) (hk : (q.length : Int) = most) : cutV xs most = q := by
  have hl := h.length_le
  simp only [List.length_append, List.length_singleton] at hl
  unfold cutV
  rw [if_pos (show cutB xs most = true from decide_eq_true (by omega))]
  have hq : most.toNat = q.length := by omega
  rw [hq]
  obtain ⟨t, ht⟩ := h
  rw [← ht, List.append_assoc, List.take_left']
  rfl
theorem cut_not {xs : List (Nat × Nat)} {most : Int} (h : ∀ i, i < xs.length → (i : Int) ≠ most) : cutV xs most = xs := by
  have hr : ¬ (0 ≤ most ∧ most < (xs.length : Int)) := fun ⟨a, b⟩ => h most.toNat (by omega) (by omega)
  unfold cutV
  rw [if_neg (by rw [show cutB xs most = false from decide_eq_false hr]; decide)]
theorem cut_all (xs : List (Nat × Nat)) : cutV xs (-1) = xs := cut_not fun i hi => by omega
theorem cut_take {xs : List (Nat × Nat)} {k : Nat} (h : k ≤ xs.length) : cutV xs (k : Int) = xs.take k := by
  by_cases e : k = xs.length
  · rw [cut_not fun i hi => by omega, e, List.take_length]
  · unfold cutV
    rw [if_pos (show cutB xs (k : Int) = true from decide_eq_true ⟨by omega, by omega⟩)]
    rfl
structure AllEnd (w : World) (r : List (Nat × Nat)) (X : World) : Prop where
  below : Below w.heap.size w X
  row : ∃ v, Boxed X (w.heap.size + 1) 30 v ∧ X.ownsRow (w.heap.size + 3) 48 2 v r.length (pv r)
  size : w.heap.size + 3 ≤ X.heap.size
def Boxes (p : Option Addr) (w X : World) : Prop := blk X (w.heap.size + 2) = some (.cells #[.pointer p] 24 (0, 0))
structure AllRun (p : Option Addr) (w : World) (most : Int) (pre : List (Nat × Nat)) (X : World) : Prop where
  fin : AllEnd w pre X
  k : blk X w.heap.size = some (.cells #[.int .i64 most] 3 (0, 0))
  b : Boxes p w X
  not : ∀ i, i < pre.length → (i : Int) ≠ most
theorem below_grown {B b : Nat} {w X Y : World} {row : Option Nat} (h : Below b w X) (hg : X.grownBy Y row) (hb : b ≤ w.heap.size) (hr : ∀ r, row = some r → b ≤ r) : Below b w Y :=
  ⟨hg.os.trans h.os, hg.tape.trans h.tape, hg.output.trans h.output, Nat.le_trans h.size hg.size, fun k hk => (hg.block k (by have := h.size; omega) fun e => by have := hr k e.symm; omega).trans (h.block k hk)⟩
theorem blk_grown {X Y : World} {row : Option Nat} {k : Nat} {o : Obj} (h : blk X k = some o) (hg : X.grownBy Y row) (hr : ∀ r, row = some r → k < r) : blk Y k = some o :=
  (hg.block k (get_lt h) fun e => by have := hr k e.symm; omega).trans h
theorem not_row {X : World} {row : Option Nat} {base : Nat} {e : TypeId} {sz : Nat} {v : Value} {k : Nat} {xs : List Value} (h : X.ownsRow base e sz v k xs) (hr : ∀ r, row = some r → ∃ o : Obj, X.heap[r]? = some o ∧ o.isCells = false) : row = none ∨ row ≠ v.ownBlock := by
  cases row with
  | none => exact .inl rfl
  | some r =>
    refine .inr fun e' => ?_
    obtain ⟨o, ho, hc⟩ := hr r rfl
    rcases h.2 with ⟨rfl, _⟩ | ⟨g, cap, cur, rfl, _, hgb, _⟩
    · cases e'
    · obtain rfl : r = g := by simpa [Value.ownBlock] using e'
      rw [hgb] at ho; cases ho; cases hc
theorem AllEnd.grown {w : World} {r : List (Nat × Nat)} {X Y : World} {row : Option Nat} (h : AllEnd w r X) (hg : X.grownBy Y row) (hr : ∀ r, row = some r → w.heap.size + 3 ≤ r ∧ ∃ o : Obj, X.heap[r]? = some o ∧ o.isCells = false) : AllEnd w r Y := by
  obtain ⟨v, hv, ho⟩ := h.row
  refine ⟨below_grown (B := 0) h.below hg (Nat.le_refl _) fun r e => by have := (hr r e).1; omega, ⟨v, hv.kept hg fun e => ?_, ho.kept hg ?hne⟩, Nat.le_trans h.size hg.size⟩
  · have := (hr _ e.symm).1
    omega
  case hne =>
    rcases not_row ho (fun r e => (hr r e).2) with e | e
    · subst e
      cases v.ownBlock with
      | none => exact .inl rfl
      | some _ => exact .inr (by simp)
    · exact .inr (Ne.symm e)
theorem AllRun.grown {p : Option Addr} {w : World} {most : Int} {pre : List (Nat × Nat)} {X Y : World} {row : Option Nat} (h : AllRun p w most pre X) (hg : X.grownBy Y row) (hr : ∀ r, row = some r → w.heap.size + 3 ≤ r ∧ ∃ o : Obj, X.heap[r]? = some o ∧ o.isCells = false) : AllRun p w most pre Y :=
  ⟨h.fin.grown hg hr, blk_grown h.k hg fun r e => by have := (hr r e).1; omega, by
    have hb := h.b
    unfold Boxes at hb ⊢
    exact blk_grown hb hg fun r e => by have := (hr r e).1; omega, h.not⟩
/-- whose block the collected ones lie in -/
def AllOwn (w : World) (X : World) (k : Nat) : Prop := ∃ v, Boxed X (w.heap.size + 1) 30 v ∧ v.ownBlock = some k
theorem all_mine (p : Option Addr) (w : World) (most : Int) (B : Nat) (hB : w.heap.size + 3 ≤ B) : Mine B (AllRun p w most) (fun _ X k => AllOwn w X k) := by
  refine ⟨fun s X k h ho => ?_, fun s X Y row h hg hr k ho => ?_⟩
  · obtain ⟨v, hv, ow⟩ := h.fin.row
    obtain ⟨v', hv', e⟩ := ho
    have : v = v' := by
      have := (show X.heap[w.heap.size + 1]? = _ from hv).symm.trans hv'
      simpa using this
    subst this
    rcases ow.2 with ⟨rfl, _⟩ | ⟨g, cap, cur, rfl, _, hgb, _⟩
    · cases e
    · obtain rfl : g = k := by simpa [Value.ownBlock] using e
      exact ⟨_, _, _, hgb⟩
  · obtain ⟨v, hv, ow⟩ := h.fin.row
    obtain ⟨v', hv', e⟩ := ho
    have hv2 : Boxed Y (w.heap.size + 1) 30 v := hv.kept hg fun e => by have := (hr _ e.symm).1; omega
    have : v = v' := by
      have := (show Y.heap[w.heap.size + 1]? = _ from hv2).symm.trans hv'
      simpa using this
    subst this
    exact ⟨v, hv, e⟩
theorem all_start (p : Option Addr) (w : World) (most : Int) : AllRun p w most [] (((w.alloc (.cells #[.int .i64 most] 3)).alloc (.cells #[.slice none 0 0] 30)).alloc (.cells #[.pointer p] 24)) := by
  have b : Below w.heap.size w (((w.alloc (.cells #[.int .i64 most] 3)).alloc (.cells #[.slice none 0 0] 30)).alloc (.cells #[.pointer p] 24)) := by
    refine (((Below.refl _ w).alloc ?_ _).alloc ?_ _).alloc ?_ _ <;> (try simp only [World.size_alloc]) <;> omega
  have O : ∀ (X : World) (o : Obj) (k : Nat) {p : Obj}, k < X.heap.size → blk X k = some p → blk (X.alloc o) k = some p := fun X o k p h e => (blk_alloc_old X o k h).trans e
  refine ⟨⟨b, ⟨.slice none 0 0, ?_, World.ownsRow_nil _ _ _ _⟩, by simp⟩, ?_, ?_, fun i hi => absurd hi (by simp)⟩
  · exact (O _ _ _ (by simp <;> omega) (blk_alloc_at _ _ _ (by simp)))
  · exact (O _ _ _ (by simp <;> omega) (O _ _ _ (by simp <;> omega) (blk_alloc_at _ _ _ rfl)))
  · unfold Boxes
    exact (blk_alloc_at _ _ _ (by simp))
theorem all_step {p : Option Addr} {w X2 w4 : World} {most : Int} {pre : List (Nat × Nat)} {v v4 : Value} {tmp : Obj} {B : Nat} (h : AllRun p w most pre X2) (hv : Boxed X2 (w.heap.size + 1) 30 v) (ow : X2.ownsRow (w.heap.size + 3) 48 2 v pre.length (pv pre))
    (hg : (X2.alloc tmp).grownBy w4 v.ownBlock) {x : Nat × Nat} (hb : Boxed (w4.setCell ⟨w.heap.size + 1, 0, none⟩ v4) (w.heap.size + 1) 30 v4) (ho : (w4.setCell ⟨w.heap.size + 1, 0, none⟩ v4).ownsRow (w.heap.size + 3) 48 2 v4 (pre.length + 1) (pv (pre ++ [x])))
    (hbel : Below (w.heap.size + 1) X2 (w4.setCell ⟨w.heap.size + 1, 0, none⟩ v4)) (hb4 : v4.ownBlock = v.ownBlock ∨ v4.ownBlock = some (X2.alloc tmp).heap.size) (hne : (pre.length : Int) ≠ most) (hB : w.heap.size + 3 ≤ B) (a : Act) :
    It.Ends B (fun pre Z => AllRun p w most pre Z) (fun c pre Z => c = .exit 0 ∧ ∃ q x, pre = q ++ [x] ∧ (q.length : Int) = most ∧ AllEnd w q Z) (fun _ Z k => AllOwn w Z k) pre x X2 .normal a (w4.setCell ⟨w.heap.size + 1, 0, none⟩ v4) := by
  have how : ∀ k, v.ownBlock = some k → w.heap.size + 3 ≤ k := fun k e => (ow.lt k e).1
  have keep : ∀ k, w.heap.size + 1 < k → k < X2.heap.size → some k ≠ v.ownBlock → (w4.setCell ⟨w.heap.size + 1, 0, none⟩ v4).heap[k]? = X2.heap[k]? := fun k h1 h2 h3 =>
    (blk_set_far' _ _ _ _ h1).trans ((hg.block k (by simp; omega) h3).trans (blk_alloc_old _ _ _ h2))
  have hsz : X2.heap.size ≤ (w4.setCell ⟨w.heap.size + 1, 0, none⟩ v4).heap.size := hbel.size
  have hs := h.fin.size
  have hkp : ∀ k {o : Obj}, w.heap.size + 1 < k → k < w.heap.size + 3 → blk X2 k = some o → blk (w4.setCell ⟨w.heap.size + 1, 0, none⟩ v4) k = some o := fun k o h1 h2 h3 => (keep k h1 (by omega) fun e => by have := how k e.symm; omega).trans h3
  refine ⟨⟨hsz, fun k h1 h2 h3 => keep k (by omega) h2 fun e => h3 ⟨v, hv, e.symm⟩⟩, ⟨⟨h.fin.below.trans (hbel.mono (by omega)), ⟨v4, hb, by rw [List.length_append, List.length_singleton]; exact ho⟩, by omega⟩, ?_, ?_, fun i hi => ?_⟩, fun k ⟨v', hv', e⟩ hk => ?_⟩
  · exact (hbel.block _ (by omega)).trans h.k
  · have hbx := h.b
    unfold Boxes at hbx ⊢
    exact hkp _ (by omega) (by omega) hbx
  · by_cases hl : i < pre.length
    · exact h.not i hl
    · simp only [List.length_append, List.length_singleton] at hi
      rw [show i = pre.length by omega]
      exact hne
  · have : v4 = v' := by
      have := (show (w4.setCell ⟨w.heap.size + 1, 0, none⟩ v4).heap[w.heap.size + 1]? = _ from hb).symm.trans hv'
      simpa using this
    subst this
    rcases hb4 with e2 | e2
    · exact .inl ⟨v, hv, e2.symm.trans e⟩
    · refine .inr ?_
      have := e2.symm.trans e
      simp at this
      omega
theorem all_leaves {w Z : World} {xs : List (Nat × Nat)} {most : Int} {q : List (Nat × Nat)} {ad : Option Addr} {cap D : Nat} (h : AllEnd w q Z) (c5 : Z.cell? ⟨w.heap.size + 1, 0, none⟩ = some (.slice ad q.length cap)) (hm : cutV xs most = q) (hD : w.heap.size + 3 ≤ D) {fn : Func} (hf : fn.results = #[.tmp 4]) (hdef : Z.heap[D]? = some (.deferred (some [])))
    (tmps : Array Value) (h4 : tmps.getD 4 undef = .slice ad q.length cap) :
    LeavesInM Fence.wide 0 Try.prog fn tmps (fun e w' => (∃ ad' c', e = .returned (.slice ad' (cutV xs most).length c') ∧ Reads w' 2 ad' (cutV xs most).length (pv (cutV xs most)) ∧ ∀ a, ad' = some a → w.heap.size ≤ a.block) ∧ Below w.heap.size w w') [mk D] .returning Z := by
  refine leaves_marks (Ds := [D]) (B := w.heap.size + 3) (fun Y => AllEnd w q Y ∧ Boxed Y (w.heap.size + 1) 30 (.slice ad q.length cap)) (fun E Y hE hY he => ?_) (fun Y hY => ?_) (by simp) Z ⟨h, ?_⟩ fun E hp => ?_
  · refine ⟨hY.1.grown (grownBy_putObj' _ _ _) fun r e => by injection e with e; subst e; exact ⟨hE, _, he, rfl⟩, hY.2.kept (grownBy_putObj' _ _ _) fun e => by injection e with e; omega⟩
  · obtain ⟨v, hv, ow⟩ := hY.1.row
    have : v = .slice ad q.length cap := by
      have := (show Y.heap[w.heap.size + 1]? = _ from hv).symm.trans hY.2
      simpa using this
    subst this
    refine ⟨_, results_tmp hf tmps _ _, ⟨ad, cap, by rw [h4, hm], ?_, fun a ea => ?_⟩, hY.1.below⟩
    · rw [hm]
      exact Reads.of_owns ow
    · have := (ow.lt a.block (by rw [ea]; rfl)).1
      omega
  · obtain ⟨v, hv, ow⟩ := h.row
    have := hv.cell.symm.trans c5
    injection this with this
    rw [← this]
    exact hv
  · obtain rfl : E = D := by simpa using hp
    exact ⟨hD, hdef⟩
set_option maxHeartbeats 4000000 in
theorem lall_any (p : Option Addr) (xs : List (Nat × Nat)) (K : World → Prop) (w : World) (hsrc : ∀ b0 : Nat, Seq Try.prog 30 #[.pointer (some ⟨b0, 0, none⟩)] encP xs (fun X => (blk X b0 = some (.cells #[.pointer p] 24 (0, 0))) ∧ K X)) (hK : ∀ X, Below w.heap.size w X → K X) (hx : xs.length ≤ 100000) (most : Int) :
    Calls Try.prog 19 #[.pointer p, .int .i64 most] w fun e w' => (∃ ad' c', e = .returned (.slice ad' (cutV xs most).length c') ∧ Reads w' 2 ad' (cutV xs most).length (pv (cutV xs most)) ∧ ∀ a, ad' = some a → w.heap.size ≤ a.block) ∧ Below w.heap.size w w' := by
  refine callsIn_wide.1 (callsIn_of_wp_marks (F := Fence.wide) (n := 0) Try.func19 rfl trivial ?_ rfl)
  simp only [Try.ntmps19, List.size_toArray, List.length_cons, List.length_nil, Nat.reduceAdd, Nat.reduceSub, Array.replicate_succ, Array.replicate_zero, List.push_toArray, List.append_toArray, List.nil_append, List.cons_append]
  gi_wp2_with fail
  refine ⟨trivial, rfl, (callsIn_wide.2 (free_any p _)).mono ?_⟩
  rintro e W1 ⟨rfl, hW1⟩
  have R0 : AllRun p w most [] W1 := by rw [hW1]; exact all_start p w most
  have hs1 : W1.heap.size = w.heap.size + 3 := by rw [hW1]; simp
  have HR0 := Lib.hid R0
  have HSRC := Lib.hid hsrc
  have HKK := Lib.hid hK
  clear hW1 R0 hsrc hK
  gi_wp2_with fail
  simp only [World.size_alloc, Nat.add_assoc, Nat.reduceAdd]
  refine range_seq (gf := 30) (lb := #[.pointer (some ⟨w.heap.size + 2, 0, none⟩)]) rfl enters_free (HSRC.out (w.heap.size + 2)) (fun _ => rfl)
    (fun pre Z => AllRun p w most pre Z)
    (fun c pre Z => c = .exit 0 ∧ ∃ q x, pre = q ++ [x] ∧ (q.length : Int) = most ∧ AllEnd w q Z)
    (fun _ Z k => AllOwn w Z k) ?hI ?hIx (all_mine p w most _ (by omega)) (fun _ _ h => ⟨h.b, HKK.out _ h.fin.below⟩) HR0.out ?round ?done ?stop
  case hI => exact fun s X Y row h hg hr => h.grown hg fun r e => ⟨by have := (hr r e).1; omega, (hr r e).2⟩
  case hIx => exact fun c s X Y row ⟨h1, q, x, h2, h3, h4⟩ hg hr => ⟨h1, q, x, h2, h3, h4.grown hg fun r e => ⟨by have := (hr r e).1; omega, (hr r e).2⟩⟩
  case round =>
    intro l' pre x Z hl' hrec hI hpre
    obtain ⟨x, y⟩ := x
    have HI := Lib.hid hI
    have hsm : pre.length < 100001 := by
      have h1 := hpre.length_le
      simp only [List.length_append, List.length_singleton] at h1
      omega
    have HPR := Lib.hid hpre
    obtain ⟨rr, hrr⟩ := hrec
    have hlz := get_lt hrr
    have HRR := Lib.hid hrr
    clear hI hpre hrr
    simp only [encP]
    gi_wp2_with fail
    refine ⟨World.grownBy.refl _ _, fun X2 hg hI2 hl2 => ?_⟩
    have HI2 := Lib.hid hI2
    have c4 : X2.cell? ⟨w.heap.size, 0, none⟩ = some (.int .i64 most) := by rw [blk_cell hI2.k]; rfl
    obtain ⟨v, hv, ow⟩ := hI2.fin.row
    obtain ⟨ad, cap, rfl, _⟩ := owns_val ow
    have c5 := hv.cell
    have HV := Lib.hid hv
    have OW := Lib.hid ow
    have hsz2 : w.heap.size + 3 ≤ X2.heap.size := hI2.fin.size
    clear hg hI2 hl2 hv ow
    by_cases hke : (pre.length : Int) = most
    · gi_wp2_with fail
      exact ⟨Hold.refl _ _ _, rfl, pre, (x, y), rfl, hke, HI2.out.fin⟩
    · gi_wp2_with (gi_at_builtin; refine app_twoIn rfl (.tmp 20) (.tmp 24) rfl (w.heap.size + 3) _ _ _ rfl (OW.out.alloc _) X2.heap.size 1 (x, y) rfl (blk_alloc_at _ _ _ rfl) (by omega) (by simp; omega) ?_; intro v4 w4 ho4 hg4 hb4; obtain ⟨g4, cap4, rfl⟩ := ownsRow_succ ho4; have AP := Lib.hid (HV.out.appended (show (30 : Nat) ≠ 48 by decide) (own_lo OW.out (show w.heap.size + 1 ≤ w.heap.size + 3 by omega)) (by omega) (by omega) (own_lo ho4 (show w.heap.size + 1 ≤ w.heap.size + 3 by omega)) hg4); have HOH := Lib.hid (own_hi AP.out.2.2.1 fun k e => (ho4.lt k e).1); have b4 := AP.out.1.cell; have f4 := AP.out.1.frozen; have HG4 := Lib.hid hg4; have HB4 := Lib.hid hb4; clear ho4 hg4 hb4)
      exact all_step HI2.out HV.out OW.out HG4.out AP.out.2.1 HOH.out AP.out.2.2.2.2 HB4.out hke (by omega) _
  case done =>
    intro D Z hD hI hdef
    have HI := Lib.hid hI
    have hm := cut_not hI.not
    obtain ⟨v, hv, ow⟩ := hI.fin.row
    obtain ⟨ad, cap, rfl, _⟩ := owns_val ow
    have c5 := hv.cell
    clear hI hv ow
    gi_wp2_with fail
    exact all_leaves HI.out.fin c5 hm (by omega) rfl hdef _ rfl
  case stop =>
    intro D c pre Z hD hpre hx hdef
    obtain ⟨rfl, q, x, rfl, hq, hx⟩ := hx
    have HI := Lib.hid hx
    have hm := cut_at hpre hq
    obtain ⟨v, hv, ow⟩ := hx.row
    obtain ⟨ad, cap, rfl, _⟩ := owns_val ow
    have c5 := hv.cell
    clear hx hv ow
    gi_wp2_with fail
    exact all_leaves HI.out c5 hm (by omega) rfl hdef _ rfl
theorem free_none (most : Int) (w : World) :
    Calls Try.prog 19 #[.pointer none, .int .i64 most] w fun e w' => (∃ ad' c', e = .returned (.slice ad' 0 c')) ∧ Below w.heap.size w w' := by
  refine (lall_any none [] (fun _ => True) w free_seq_nil (fun _ _ => trivial) (by simp) most).mono ?_
  rintro e w' ⟨⟨ad, c, h1, h2⟩, hb⟩
  have e0 : cutV [] most = [] := by unfold cutV; split <;> simp
  rw [e0] at h1
  exact ⟨⟨ad, c, h1⟩, hb⟩
variable {b g cap : Nat} {bs : List Bool}
theorem free_st (most : Int) (w : World) (h : Mp w b g cap bs) :
    Calls Try.prog 19 #[.pointer (some ⟨b, 0, none⟩), .int .i64 most] w fun e w' => (∃ ad' c', e = .returned (.slice ad' (cutV (runs bs) most).length c') ∧ Reads w' 2 ad' (cutV (runs bs) most).length (pv (cutV (runs bs) most)) ∧ ∀ a, ad' = some a → w.heap.size ≤ a.block) ∧ Below w.heap.size w w' := by
  have hl := h.lt
  have hs := h.small
  have hr := runs_len bs
  exact lall_any (some ⟨b, 0, none⟩) (runs bs) (fun X => Mp X b g cap bs) w (fun bx => free_seq bx bs) (fun X hb => h.below hb hl.1 hl.2) (by omega) most
theorem cut_one (o : List (Nat × Nat)) : cutV o 1 = o.take 1 := by
  unfold cutV cutB
  by_cases h : 1 < o.length
  · rw [if_pos (decide_eq_true ⟨by omega, by omega⟩)]; rfl
  · rw [if_neg (by rw [decide_eq_false (by omega)]; decide), List.take_of_length_le (by omega)]
theorem pv_at : ∀ (r : List (Nat × Nat)) (i : Nat) (h : i < r.length), (pv r)[i * 2]? = some (.int .i64 ((r[i].1 : Nat) : Int)) ∧ (pv r)[i * 2 + 1]? = some (.int .i64 ((r[i].2 : Nat) : Int))
  | x :: r, 0, _ => ⟨rfl, rfl⟩
  | x :: r, i + 1, h => by
    have := pv_at r i (by simpa using h)
    have e : pv (x :: r) = Value.int .i64 (x.1 : Int) :: Value.int .i64 (x.2 : Int) :: pv r := rfl
    rw [e, show (i + 1) * 2 = i * 2 + 1 + 1 by omega]
    exact this
def PRd (X : World) (ad : Option Addr) (r : List (Nat × Nat)) : Prop := Reads X 2 ad r.length (pv r)
theorem PRd.below {X Y : World} {ad : Option Addr} {r : List (Nat × Nat)} (h : PRd X ad r) (hb : Below X.heap.size X Y) : PRd Y ad r := Reads.below h hb (Nat.le_refl _)
theorem PRd.cells {X : World} {ad : Option Addr} {r : List (Nat × Nat)} (h : PRd X ad r) (h0 : 0 < r.length) :
    ∃ gb go_, ad = some ⟨gb, go_, none⟩ ∧ gb < X.heap.size ∧ ∀ i (hi : i < r.length), X.cell? ⟨gb, go_ + i * 2, none⟩ = some (.int .i64 ((r[i].1 : Nat) : Int)) ∧ X.cell? ⟨gb, go_ + i * 2 + 1, none⟩ = some (.int .i64 ((r[i].2 : Nat) : Int)) := by
  rcases h.2 with h1 | ⟨gb, off, e, hl, hc⟩
  · omega
  · refine ⟨gb, off, e, hl, fun i hi => ?_⟩
    have h1 := hc (i * 2) (by rw [pv_len]; omega)
    have h2 := hc (i * 2 + 1) (by rw [pv_len]; omega)
    rw [(pv_at r i hi).1] at h1
    rw [(pv_at r i hi).2] at h2
    exact ⟨h1, by rw [Nat.add_assoc]; exact h2⟩
def eqT (a0 a1 b0 b1 : Int) : Bool := decide (a0 = b0 ∧ a1 = b1)
theorem eq_two (a0 a1 b0 b1 : Int) (w : World) : (Op.equalIn 10000 48 (.agg #[.int .i64 a0, .int .i64 a1]) (.agg #[.int .i64 b0, .int .i64 b1])).run Try.prog w = .ok (eqT a0 a1 b0 b1) w := by
  have h := Go.Proofs.Ytmhjhfjbfoklpaa.Eq.run_equalIn_ints (P := Try.prog) w 9998 48 3 .i64 2 [a0, a1] [b0, b1] rfl rfl Try.underlying48 Try.underlying3 (fun _ => Try.isAgg3 _) (fun _ => Try.sizeOf3 _)
  have h2 : ((List.range 2).all fun i => [a0, a1].getD i 0 == [b0, b1].getD i 0) = eqT a0 a1 b0 b1 := by
    unfold eqT
    by_cases e0 : a0 = b0 <;> by_cases e1 : a1 = b1 <;> simp [List.range_succ, e0, e1]
  rw [h2] at h
  exact h
attribute [local go_sem ↓] eq_two
set_option maxHeartbeats 2000000 in
theorem same_any (r r' : List (Nat × Nat)) (ad ad' : Option Addr) (c c' : Nat) (w : World) (h : PRd w ad r) (h' : PRd w ad' r') (hm : r.length ≤ 1000000) (hm' : r'.length ≤ 1000000) :
    Calls Try.prog 18 #[.slice ad r.length c, .slice ad' r'.length c'] w fun e w' => e = .returned (.bool (decide (r = r'))) ∧ Below w.heap.size w w' := by
  obtain ⟨n, hn⟩ : ∃ n, r.length = n := ⟨_, rfl⟩
  obtain ⟨n', hn'⟩ : ∃ n, r'.length = n := ⟨_, rfl⟩
  rw [hn, hn']
  rw [hn] at hm
  rw [hn'] at hm'
  by_cases hlen : n = n'
  · subst hlen
    have HN := Lib.hid hn
    have HN' := Lib.hid hn'
    have H := Lib.hid h
    have H' := Lib.hid h'
    clear hn hn' h h'
    go_enter Try.func18, Try.ntmps18
    go_wp2_with fail
    go_loopw [5] (fun i X => ∃ k : Nat, k ≤ n ∧ i = .int .i64 k ∧ Hid (r.take k = r'.take k) ∧ Hid (Below w.heap.size w X)) (fun i _ => n - (intOf i).toNat)
    case atStart => exact ⟨0, by omega, rfl, Lib.hid (by simp), Lib.hid (Below.refl _ _)⟩
    case round =>
      obtain ⟨k, hk, rfl, HT, HB⟩ := hrel
      rename World => X
      by_cases hlt : k < n
      · have hlt' : (k : Int) < n := by omega
        have hkr : k < r.length := by rw [HN.out]; exact hlt
        have hkr' : k < r'.length := by rw [HN'.out]; exact hlt
        obtain ⟨ab, ao, ea, hab, hac⟩ := H.out.cells (by omega)
        obtain ⟨bb, bo, eb, hbb, hbc⟩ := H'.out.cells (by omega)
        subst ea eb
        have x0 := (HB.out.cell (p := ⟨ab, ao + k * 2, none⟩) hab).trans (hac k hkr).1
        have x1 := (HB.out.cell (p := ⟨ab, ao + k * 2 + 1, none⟩) hab).trans (hac k hkr).2
        have y0 := (HB.out.cell (p := ⟨bb, bo + k * 2, none⟩) hbb).trans (hbc k hkr').1
        have y1 := (HB.out.cell (p := ⟨bb, bo + k * 2 + 1, none⟩) hbb).trans (hbc k hkr').2
        obtain ⟨p, hp⟩ : ∃ p, r[k] = p := ⟨_, rfl⟩
        obtain ⟨q, hq⟩ : ∃ p, r'[k] = p := ⟨_, rfl⟩
        rw [hp] at x0 x1
        rw [hq] at y0 y1
        obtain ⟨p0, p1⟩ := p
        obtain ⟨q0, q1⟩ := q
        have HTK : Hid (r.take (k + 1) = r.take k ++ [(p0, p1)] ∧ r'.take (k + 1) = r'.take k ++ [(q0, q1)]) := Lib.hid ⟨by rw [← hp, List.take_append_getElem hkr], by rw [← hq, List.take_append_getElem hkr']⟩
        clear hac hbc hp hq hkr hkr'
        simp only at x0 x1 y0 y1
        by_cases he : p0 = q0 ∧ p1 = q1
        · have d0 : eqT (p0 : Int) p1 q0 q1 = true := decide_eq_true (by omega)
          have HE := Lib.hid he
          clear he
          go_wp2
          go_quiet (fail)
          go_wp2
          exact ⟨⟨k + 1, by omega, by go_num, Lib.hid (by rw [HTK.out.1, HTK.out.2, HT.out, HE.out.1, HE.out.2]), Lib.hid (by have LX := HB.out; repeat' (first | (with_reducible exact Below.refl _ _) | (with_reducible refine Rd.below_step ?_ (by assumption)) | (with_reducible refine Rd.below_alloc ?_ _) | (with_reducible refine Rd.below_drewN ?_ _) | (with_reducible refine Below.drew ?_) | (with_reducible refine Below.setCell ?_ ?_ _) | (with_reducible refine Rd.below_setRow ?_ ?_ _) | go_size | (simp only [World.size_alloc]; omega) | omega))⟩, by simp [intOf]; omega⟩
        · have d0 : eqT (p0 : Int) p1 q0 q1 = false := decide_eq_false (by omega)
          have HR : Hid (¬ r = r') := Lib.hid (by
            intro e
            have h1 := HTK.out.1
            rw [e, HTK.out.2, ← e, HT.out] at h1
            have h2 := List.append_cancel_left (HT.out ▸ h1 : r'.take k ++ [(q0, q1)] = r'.take k ++ [(p0, p1)])
            injection h2 with h2
            injection h2 with h3 h4
            exact he ⟨h3.symm, h4.symm⟩)
          clear he
          go_wp2
          go_quiet (fail)
          go_wp2
          go_ret
          exact ⟨by rw [decide_eq_false HR.out]; first | done | rfl, by have LX := HB.out; repeat' (first | (with_reducible exact Below.refl _ _) | (with_reducible refine Rd.below_step ?_ (by assumption)) | (with_reducible refine Rd.below_alloc ?_ _) | (with_reducible refine Rd.below_drewN ?_ _) | (with_reducible refine Below.drew ?_) | (with_reducible refine Below.setCell ?_ ?_ _) | (with_reducible refine Rd.below_setRow ?_ ?_ _) | go_size | (simp only [World.size_alloc]; omega) | omega)⟩
      · obtain rfl : k = n := by omega
        have HR : Hid (r = r') := Lib.hid (by
          have := HT.out
          rw [List.take_of_length_le (by rw [HN.out]; exact Nat.le_refl _), List.take_of_length_le (by rw [HN'.out]; exact Nat.le_refl _)] at this
          exact this)
        go_wp2
        go_ret
        exact ⟨by rw [decide_eq_true HR.out]; first | done | rfl, HB.out⟩
  · have hne : ¬ r = r' := fun e => hlen (by rw [← hn, ← hn', e])
    have d1 : ((n : Int) == (n' : Int)) = false := by simpa using (by omega : ¬ (n : Int) = n')
    have d2 : ((n : Int) != (n' : Int)) = true := by simpa using (by omega : ¬ (n : Int) = n')
    have HNE := Lib.hid hne
    clear h h' hn hn' hne
    go_enter Try.func18, Try.ntmps18
    go_wp2
    go_ret
    exact ⟨by rw [decide_eq_false HNE.out]; first | done | rfl, Below.refl _ _⟩
end Go.Proofs.Ytmhjhfjbfoklpaa.ExC

/-
  All entries as a row.
-/
import Derived.Test.YtpjbacpchmemeaaDiF
import Derived.RangeFuncBox
import Derived.Maps.AppendAt
import Derived.Maps.OwnIn
namespace Go.Proofs.Ytpjbacpchmemeaa.DiI
open Go.RowKit Go.Shelf Rd Go.Proofs.Ytpjbacpchmemeaa.Row Mid PgM PgA PgB PgC DiM DiA DiC DiD DiE DiF It
open Go.Proofs.Ytpjbacpchmemeaa.DiM (at_ at_get ce ce_len ce_app ce_one ce_ones ce_at)
set_option linter.unusedVariables false
set_option linter.unusedSimpArgs false
set_option maxRecDepth 10000
attribute [local go_sem] Oper.semAt_some
attribute [local go_sem ↓] load_pg store_pg load_en store_en alloc_en eq_pg3
attribute [local go_sem] one_int pc3 piece_en run_load_pg run_store_pg run_alloc_en run_load_en run_store_en midLoad_eq rowLoad_eq rowStore_eq blk_alloc_at blk_alloc_old blk_drew blk_drewN blk_set_far blk_set_far' blk_grow setRow_alloc_at setRow_alloc_old setRow_drew setRow_drewN En.c_size En.c_all all6
theorem fold_en (p : En) : Array.foldl (fun (cs : Array Value) (x : Value × Nat) => cs.setIfInBounds x.snd x.fst) #[.int .i64 0, .int .i64 0, .int .i64 0, .int .i64 0, .int .i64 0, .int .u32 0] p.c.zipIdx 0 6 = p.c := by kernel_rfl
attribute [local go_sem] fold_en
theorem eq_nil (d f : Nat) (c : Array Value) (w : World) : (Op.equalIn (d + 1) 71 (.func (.func f) #[] c) .nilFunc).run Try.prog w = .ok false w := by
  rw [Op.equalIn]
  simp [go_sem, Try.underlying71]
theorem nil_iter (f : Nat) (c : Array Value) (w : World) : (binOp .eql 71 (.func (.func f) #[] c) .nilFunc).run Try.prog w = .ok (.bool false) w := by
  simp only [binOp]
  rw [show Op.equal = Op.equalIn (9999 + 1) from rfl]
  simp only [Sem.run_bind, eq_nil, Result.andThen_ok, Sem.run_pure]
attribute [local go_sem ↓] nil_iter
theorem own_lo {W : World} {base b e s n : Nat} {v : Value} {xs : List Value} (h : W.ownsRow base e s v n xs) (hb : b ≤ base) : W.ownsRow b e s v n xs :=
  ⟨h.1, h.2.imp id fun ⟨g, cap, cur, e1, e2, e3⟩ => ⟨g, cap, cur, e1, Nat.le_trans hb e2, e3⟩⟩
theorem own_hi {W : World} {base b e s n : Nat} {v : Value} {xs : List Value} (h : W.ownsRow base e s v n xs) (hb : ∀ k, v.ownBlock = some k → b ≤ k) : W.ownsRow b e s v n xs :=
  ⟨h.1, h.2.imp id fun ⟨g, cap, cur, e1, e2, e3⟩ => ⟨g, cap, cur, e1, hb g (by rw [e1]; rfl), e3⟩⟩
theorem app_eIn {F : Fence} {nF : Nat} {ops : Array Oper} {rest : List Oper} {o : Oper} {a : Act} {w : World} {Q : Exit → Act → World → Prop} (hgd : o.guard = none) (s x : Operand)
    (ho : o.op = .call { callee := .builtin .append, args := #[s, x], argTypes := #[22, 22] })
    (base : Nat) (v : Value) (m : Nat) (r : List En) (hs : a.eval s = v) (hown : w.ownsRow base 39 6 v m (ce r))
    (gx : Nat) (cx : Nat) (y : En) (hx : a.eval x = .slice (some ⟨gx, 0, none⟩) 1 cx) (hg : blk w gx = some (.cells (y.c) 39 (0, 0))) (hm : m ≤ 1000000) (hbase : base ≤ w.heap.size)
    (h : ∀ v' w', w'.ownsRow base 39 6 v' (m + 1) (ce (r ++ [y])) → w.grownBy w' v.ownBlock → (v'.ownBlock = v.ownBlock ∨ v'.ownBlock = some w.heap.size) → wpListIn F nF Try.prog ops Q rest (a.put o.dst v') w') : wpListIn F nF Try.prog ops Q (o :: rest) a w := by
  obtain ⟨i0, hi, hz0, hz1, hz2⟩ := info_parts info_en
  refine wpListIn_append_own_at w hgd s x 22 ho base 39 i0 _ 6 48 Try.underlying22 hi hz0 hz1 hz2 rfl (by decide) v m (ce r) hs hown ⟨gx, 0, none⟩ 1 cx (ce [y]) hx ?_ ?_ ?_ (by unfold maxLen; omega) (by omega) hbase ?_
  · rw [ce_one]; rfl
  · intro j u hj
    rw [Addr.add_mid, Nat.zero_add, blk_cell hg]
    rw [ce_one] at hj
    rw [← En.l_c, List.getElem?_toArray]
    exact hj
  · exact ce_ones _
  · intro v' w' h1 h2 h3 h4
    exact h v' w' (by rw [ce_app]; exact h1) h2 h4
def cutB (xs : List En) (most : Int) : Bool := decide (0 ≤ most ∧ most < xs.length)
def cutV (xs : List En) (most : Int) : List En := if cutB xs most = true then xs.take most.toNat else xs
theorem cut_at {xs : List En} {most : Int} {q : List En} {x : En} (h : q ++ [x] <+: xs) (hk : (q.length : Int) = most) : cutV xs most = q := by
  have hl := h.length_le
  simp only [List.length_append, List.length_singleton] at hl
  unfold cutV
  rw [if_pos (show cutB xs most = true from decide_eq_true (by omega))]
  have hq : most.toNat = q.length := by omega
  rw [hq]
  obtain ⟨t, ht⟩ := h
  rw [← ht, List.append_assoc, List.take_left']
  rfl
theorem cut_not {xs : List En} {most : Int} (h : ∀ i, i < xs.length → (i : Int) ≠ most) : cutV xs most = xs := by
  have hr : ¬ (0 ≤ most ∧ most < (xs.length : Int)) := fun ⟨a, b⟩ => h most.toNat (by omega) (by omega)
  unfold cutV
  rw [if_neg (by rw [show cutB xs most = false from decide_eq_false hr]; decide)]
theorem cut_all (xs : List En) : cutV xs (-1) = xs := cut_not fun i hi => by omega
theorem cut_take {xs : List En} {k : Nat} (h : k ≤ xs.length) : cutV xs (k : Int) = xs.take k := by
  by_cases e : k = xs.length
  · rw [cut_not fun i hi => by omega, e, List.take_length]
  · unfold cutV
    rw [if_pos (show cutB xs (k : Int) = true from decide_eq_true ⟨by omega, by omega⟩)]
    rfl
structure AllEnd (w : World) (r : List En) (X : World) : Prop where
  below : Below w.heap.size w X
  row : ∃ v, Boxed X (w.heap.size + 1) 22 v ∧ X.ownsRow (w.heap.size + 3) 39 6 v r.length (ce r)
  size : w.heap.size + 3 ≤ X.heap.size
def Boxes (p : Option Addr) (w X : World) : Prop := blk X (w.heap.size + 2) = some (.cells #[.pointer p] 27 (0, 0))
structure AllRun (p : Option Addr) (w : World) (most : Int) (pre : List En) (X : World) : Prop where
  fin : AllEnd w pre X
  k : blk X w.heap.size = some (.cells #[.int .i64 most] 3 (0, 0))
  b : Boxes p w X
  not : ∀ i, i < pre.length → (i : Int) ≠ most
theorem below_grown {B b : Nat} {w X Y : World} {row : Option Nat} (h : Below b w X) (hg : X.grownBy Y row) (hb : b ≤ w.heap.size) (hr : ∀ r, row = some r → b ≤ r) : Below b w Y :=
  ⟨hg.os.trans h.os, hg.tape.trans h.tape, hg.output.trans h.output, Nat.le_trans h.size hg.size, fun k hk => (hg.block k (by have := h.size; omega) fun e => by have := hr k e.symm; omega).trans (h.block k hk)⟩
theorem blk_grown {X Y : World} {row : Option Nat} {k : Nat} {o : Obj} (h : blk X k = some o) (hg : X.grownBy Y row) (hr : ∀ r, row = some r → k < r) : blk Y k = some o :=
  (hg.block k (get_lt h) fun e => by have := hr k e.symm; omega).trans h
theorem not_row {X : World} {row : Option Nat} {base : Nat} {e : TypeId} {sz : Nat} {v : Value} {k : Nat} {xs : List Value} (h : X.ownsRow base e sz v k xs) (hr : ∀ r, row = some r → ∃ o : Obj, X.heap[r]? = some o ∧ o.isCells = false) : row = none ∨ row ≠ v.ownBlock := by
  cases row with
  | none => exact .inl rfl
  | some r =>
    refine .inr fun e' => ?_
    obtain ⟨o, ho, hc⟩ := hr r rfl
    rcases h.2 with ⟨rfl, _⟩ | ⟨g, cap, cur, rfl, _, hgb, _⟩
    · cases e'
    · obtain rfl : r = g := by simpa [Value.ownBlock] using e'
      rw [hgb] at ho; cases ho; cases hc
theorem AllEnd.grown {w : World} {r : List En} {X Y : World} {row : Option Nat} (h : AllEnd w r X) (hg : X.grownBy Y row) (hr : ∀ r, row = some r → w.heap.size + 3 ≤ r ∧ ∃ o : Obj, X.heap[r]? = some o ∧ o.isCells = false) : AllEnd w r Y := by
  obtain ⟨v, hv, ho⟩ := h.row
  refine ⟨below_grown (B := 0) h.below hg (Nat.le_refl _) fun r e => by have := (hr r e).1; omega, ⟨v, hv.kept hg fun e => ?_, ho.kept hg ?hne⟩, Nat.le_trans h.size hg.size⟩
  · have := (hr _ e.symm).1
    omega
  case hne =>
    rcases not_row ho (fun r e => (hr r e).2) with e | e
    · subst e
      cases v.ownBlock with
      | none => exact .inl rfl
      | some _ => exact .inr (by simp)
    · exact .inr (Ne.symm e)
theorem AllRun.grown {p : Option Addr} {w : World} {most : Int} {pre : List En} {X Y : World} {row : Option Nat} (h : AllRun p w most pre X) (hg : X.grownBy Y row) (hr : ∀ r, row = some r → w.heap.size + 3 ≤ r ∧ ∃ o : Obj, X.heap[r]? = some o ∧ o.isCells = false) : AllRun p w most pre Y :=
  ⟨h.fin.grown hg hr, blk_grown h.k hg fun r e => by have := (hr r e).1; omega, by
    have hb := h.b
    unfold Boxes at hb ⊢
    exact blk_grown hb hg fun r e => by have := (hr r e).1; omega, h.not⟩
/-- whose block the collected ones lie in -/
def AllOwn (w : World) (X : World) (k : Nat) : Prop := ∃ v, Boxed X (w.heap.size + 1) 22 v ∧ v.ownBlock = some k
theorem all_mine (p : Option Addr) (w : World) (most : Int) (B : Nat) (hB : w.heap.size + 3 ≤ B) : Mine B (AllRun p w most) (fun _ X k => AllOwn w X k) := by
  refine ⟨fun s X k h ho => ?_, fun s X Y row h hg hr k ho => ?_⟩
  · obtain ⟨v, hv, ow⟩ := h.fin.row
    obtain ⟨v', hv', e⟩ := ho
    have : v = v' := by
      have := (show X.heap[w.heap.size + 1]? = _ from hv).symm.trans hv'
      simpa using this
    subst this
    rcases ow.2 with ⟨rfl, _⟩ | ⟨g, cap, cur, rfl, _, hgb, _⟩
    · cases e
    · obtain rfl : g = k := by simpa [Value.ownBlock] using e
      exact ⟨_, _, _, hgb⟩
  · obtain ⟨v, hv, ow⟩ := h.fin.row
    obtain ⟨v', hv', e⟩ := ho
    have hv2 : Boxed Y (w.heap.size + 1) 22 v := hv.kept hg fun e => by have := (hr _ e.symm).1; omega
    have : v = v' := by
      have := (show Y.heap[w.heap.size + 1]? = _ from hv2).symm.trans hv'
      simpa using this
    subst this
    exact ⟨v, hv, e⟩
theorem all_start (p : Option Addr) (w : World) (most : Int) : AllRun p w most [] (((w.alloc (.cells #[.int .i64 most] 3)).alloc (.cells #[.slice none 0 0] 22)).alloc (.cells #[.pointer p] 27)) := by
  have b : Below w.heap.size w (((w.alloc (.cells #[.int .i64 most] 3)).alloc (.cells #[.slice none 0 0] 22)).alloc (.cells #[.pointer p] 27)) := by
    refine (((Below.refl _ w).alloc ?_ _).alloc ?_ _).alloc ?_ _ <;> (try simp only [World.size_alloc]) <;> omega
  have O : ∀ (X : World) (o : Obj) (k : Nat) {p : Obj}, k < X.heap.size → blk X k = some p → blk (X.alloc o) k = some p := fun X o k p h e => (blk_alloc_old X o k h).trans e
  refine ⟨⟨b, ⟨.slice none 0 0, ?_, World.ownsRow_nil _ _ _ _⟩, by simp⟩, ?_, ?_, fun i hi => absurd hi (by simp)⟩
  · exact (O _ _ _ (by simp <;> omega) (blk_alloc_at _ _ _ (by simp)))
  · exact (O _ _ _ (by simp <;> omega) (O _ _ _ (by simp <;> omega) (blk_alloc_at _ _ _ rfl)))
  · unfold Boxes
    exact (blk_alloc_at _ _ _ (by simp))
theorem all_step {p : Option Addr} {w X2 w4 : World} {most : Int} {pre : List En} {v v4 : Value} {tmp : Obj} {B : Nat} (h : AllRun p w most pre X2) (hv : Boxed X2 (w.heap.size + 1) 22 v) (ow : X2.ownsRow (w.heap.size + 3) 39 6 v pre.length (ce pre))
    (hg : (X2.alloc tmp).grownBy w4 v.ownBlock) {x : En} (hb : Boxed (w4.setCell ⟨w.heap.size + 1, 0, none⟩ v4) (w.heap.size + 1) 22 v4) (ho : (w4.setCell ⟨w.heap.size + 1, 0, none⟩ v4).ownsRow (w.heap.size + 3) 39 6 v4 (pre.length + 1) (ce (pre ++ [x])))
    (hbel : Below (w.heap.size + 1) X2 (w4.setCell ⟨w.heap.size + 1, 0, none⟩ v4)) (hb4 : v4.ownBlock = v.ownBlock ∨ v4.ownBlock = some (X2.alloc tmp).heap.size) (hne : (pre.length : Int) ≠ most) (hB : w.heap.size + 3 ≤ B) (a : Act) :
    It.Ends B (fun pre Z => AllRun p w most pre Z) (fun c pre Z => c = .exit 0 ∧ ∃ q x, pre = q ++ [x] ∧ (q.length : Int) = most ∧ AllEnd w q Z) (fun _ Z k => AllOwn w Z k) pre x X2 .normal a (w4.setCell ⟨w.heap.size + 1, 0, none⟩ v4) := by
  have how : ∀ k, v.ownBlock = some k → w.heap.size + 3 ≤ k := fun k e => (ow.lt k e).1
  have keep : ∀ k, w.heap.size + 1 < k → k < X2.heap.size → some k ≠ v.ownBlock → (w4.setCell ⟨w.heap.size + 1, 0, none⟩ v4).heap[k]? = X2.heap[k]? := fun k h1 h2 h3 =>
    (blk_set_far' _ _ _ _ h1).trans ((hg.block k (by simp; omega) h3).trans (blk_alloc_old _ _ _ h2))
  have hsz : X2.heap.size ≤ (w4.setCell ⟨w.heap.size + 1, 0, none⟩ v4).heap.size := hbel.size
  have hs := h.fin.size
  have hkp : ∀ k {o : Obj}, w.heap.size + 1 < k → k < w.heap.size + 3 → blk X2 k = some o → blk (w4.setCell ⟨w.heap.size + 1, 0, none⟩ v4) k = some o := fun k o h1 h2 h3 => (keep k h1 (by omega) fun e => by have := how k e.symm; omega).trans h3
  refine ⟨⟨hsz, fun k h1 h2 h3 => keep k (by omega) h2 fun e => h3 ⟨v, hv, e.symm⟩⟩, ⟨⟨h.fin.below.trans (hbel.mono (by omega)), ⟨v4, hb, by rw [List.length_append, List.length_singleton]; exact ho⟩, by omega⟩, ?_, ?_, fun i hi => ?_⟩, fun k ⟨v', hv', e⟩ hk => ?_⟩
  · exact (hbel.block _ (by omega)).trans h.k
  · have hbx := h.b
    unfold Boxes at hbx ⊢
    exact hkp _ (by omega) (by omega) hbx
  · by_cases hl : i < pre.length
    · exact h.not i hl
    · simp only [List.length_append, List.length_singleton] at hi
      rw [show i = pre.length by omega]
      exact hne
  · have : v4 = v' := by
      have := (show (w4.setCell ⟨w.heap.size + 1, 0, none⟩ v4).heap[w.heap.size + 1]? = _ from hb).symm.trans hv'
      simpa using this
    subst this
    rcases hb4 with e2 | e2
    · exact .inl ⟨v, hv, e2.symm.trans e⟩
    · refine .inr ?_
      have := e2.symm.trans e
      simp at this
      omega
theorem all_leaves {w Z : World} {xs : List En} {most : Int} {q : List En} {ad : Option Addr} {cap D : Nat} (h : AllEnd w q Z) (c5 : Z.cell? ⟨w.heap.size + 1, 0, none⟩ = some (.slice ad q.length cap)) (hm : cutV xs most = q) (hD : w.heap.size + 3 ≤ D) {fn : Func} (hf : fn.results = #[.tmp 4]) (hdef : Z.heap[D]? = some (.deferred (some [])))
    (tmps : Array Value) (h4 : tmps.getD 4 undef = .slice ad q.length cap) :
    LeavesInM Fence.wide 0 Try.prog fn tmps (fun e w' => (∃ v', e = .returned v' ∧ Rown w' w.heap.size v' (cutV xs most).length (cutV xs most)) ∧ Below w.heap.size w w') [mk D] .returning Z := by
  refine leaves_marks (Ds := [D]) (B := w.heap.size + 3) (fun Y => AllEnd w q Y ∧ Boxed Y (w.heap.size + 1) 22 (.slice ad q.length cap)) (fun E Y hE hY he => ?_) (fun Y hY => ?_) (by simp) Z ⟨h, ?_⟩ fun E hp => ?_
  · refine ⟨hY.1.grown (grownBy_putObj' _ _ _) fun r e => by injection e with e; subst e; exact ⟨hE, _, he, rfl⟩, hY.2.kept (grownBy_putObj' _ _ _) fun e => by injection e with e; omega⟩
  · obtain ⟨v, hv, ow⟩ := hY.1.row
    have : v = .slice ad q.length cap := by
      have := (show Y.heap[w.heap.size + 1]? = _ from hv).symm.trans hY.2
      simpa using this
    subst this
    refine ⟨_, results_tmp hf tmps _ _, ⟨_, rfl, ?_⟩, hY.1.below⟩
    rw [h4, hm]
    exact DiE.Rown.base ow (by omega)
  · obtain ⟨v, hv, ow⟩ := h.row
    have := hv.cell.symm.trans c5
    injection this with this
    rw [← this]
    exact hv
  · obtain rfl : E = D := by simpa using hp
    exact ⟨hD, hdef⟩
set_option maxHeartbeats 1000000 in
theorem lall_any (p : Option Addr) (xs : List En) (K : World → Prop) (w : World) (hsrc : ∀ b0 : Nat, Seq Try.prog 56 #[.pointer (some ⟨b0, 0, none⟩)] encE xs (fun X => (blk X b0 = some (.cells #[.pointer p] 27 (0, 0))) ∧ K X)) (hK : ∀ X, Below w.heap.size w X → K X) (hx : xs.length ≤ 100000) (most : Int) :
    Calls Try.prog 20 #[.pointer p, .int .i64 most] w fun e w' => (∃ v', e = .returned v' ∧ Rown w' w.heap.size v' (cutV xs most).length (cutV xs most)) ∧ Below w.heap.size w w' := by
  refine callsIn_wide.1 (callsIn_of_wp_marks (F := Fence.wide) (n := 0) Try.func20 rfl trivial ?_ rfl)
  simp only [Try.ntmps20, List.size_toArray, List.length_cons, List.length_nil, Nat.reduceAdd, Nat.reduceSub, Array.replicate_succ, Array.replicate_zero, List.push_toArray, List.append_toArray, List.nil_append, List.cons_append]
  gi_wp2_with fail
  refine ⟨trivial, rfl, (callsIn_wide.2 (all_any p _)).mono ?_⟩
  rintro e W1 ⟨rfl, hW1⟩
  have R0 : AllRun p w most [] W1 := by rw [hW1]; exact all_start p w most
  have hs1 : W1.heap.size = w.heap.size + 3 := by rw [hW1]; simp
  have HR0 := Lib.hid R0
  have HSRC := Lib.hid hsrc
  have HKK := Lib.hid hK
  clear hW1 R0 hsrc hK
  gi_wp2_with fail
  simp only [World.size_alloc, Nat.add_assoc, Nat.reduceAdd]
  refine range_seq (gf := 56) (lb := #[.pointer (some ⟨w.heap.size + 2, 0, none⟩)]) rfl enters_all (HSRC.out (w.heap.size + 2)) (fun _ => rfl)
    (fun pre Z => AllRun p w most pre Z)
    (fun c pre Z => c = .exit 0 ∧ ∃ q x, pre = q ++ [x] ∧ (q.length : Int) = most ∧ AllEnd w q Z)
    (fun _ Z k => AllOwn w Z k) ?hI ?hIx (all_mine p w most _ (by omega)) (fun _ _ h => ⟨h.b, HKK.out _ h.fin.below⟩) HR0.out ?round ?done ?stop
  case hI => exact fun s X Y row h hg hr => h.grown hg fun r e => ⟨by have := (hr r e).1; omega, (hr r e).2⟩
  case hIx => exact fun c s X Y row ⟨h1, q, x, h2, h3, h4⟩ hg hr => ⟨h1, q, x, h2, h3, h4.grown hg fun r e => ⟨by have := (hr r e).1; omega, (hr r e).2⟩⟩
  case round =>
    intro l' pre x Z hl' hrec hI hpre
    have HI := Lib.hid hI
    have hsm : pre.length < 100001 := by
      have h1 := hpre.length_le
      simp only [List.length_append, List.length_singleton] at h1
      omega
    have HPR := Lib.hid hpre
    obtain ⟨rr, hrr⟩ := hrec
    have hlz := get_lt hrr
    have HRR := Lib.hid hrr
    clear hI hpre hrr
    simp only [encE]
    gi_wp2_with fail
    refine ⟨World.grownBy_alloc _ _ none, fun X2 hg hI2 hl2 => ?_⟩
    have c2 : blk X2 Z.heap.size = some (.cells x.c 39 (0, 0)) := (hg.block _ (by simp) (fun e => by injection e with e; omega)).trans (World.alloc_heap_new _ _)
    have HI2 := Lib.hid hI2
    have c4 : X2.cell? ⟨w.heap.size, 0, none⟩ = some (.int .i64 most) := by rw [blk_cell hI2.k]; rfl
    obtain ⟨v, hv, ow⟩ := hI2.fin.row
    obtain ⟨ad, cap, rfl, _⟩ := owns_val ow
    have c5 := hv.cell
    have HV := Lib.hid hv
    have OW := Lib.hid ow
    have hsz2 : w.heap.size + 3 ≤ X2.heap.size := hI2.fin.size
    clear hg hI2 hl2 hv ow
    by_cases hke : (pre.length : Int) = most
    · gi_wp2_with fail
      exact ⟨Hold.refl _ _ _, rfl, pre, x, rfl, hke, HI2.out.fin⟩
    · gi_wp2_with (gi_at_builtin; refine app_eIn rfl (.tmp 18) (.tmp 20) rfl (w.heap.size + 3) _ _ _ rfl (OW.out.alloc _) X2.heap.size 1 x rfl (blk_alloc_at _ _ _ rfl) (by omega) (by simp; omega) ?_; intro v4 w4 ho4 hg4 hb4; obtain ⟨g4, cap4, rfl⟩ := ownsRow_succ ho4; have AP := Lib.hid (HV.out.appended (show (22 : Nat) ≠ 39 by decide) (own_lo OW.out (show w.heap.size + 1 ≤ w.heap.size + 3 by omega)) (by omega) (by omega) (own_lo ho4 (show w.heap.size + 1 ≤ w.heap.size + 3 by omega)) hg4); have HOH := Lib.hid (own_hi AP.out.2.2.1 fun k e => (ho4.lt k e).1); have b4 := AP.out.1.cell; have f4 := AP.out.1.frozen; have HG4 := Lib.hid hg4; have HB4 := Lib.hid hb4; clear ho4 hg4 hb4)
      exact all_step HI2.out HV.out OW.out HG4.out AP.out.2.1 HOH.out AP.out.2.2.2.2 HB4.out hke (by omega) _
  case done =>
    intro D Z hD hI hdef
    have HI := Lib.hid hI
    have hm := cut_not hI.not
    obtain ⟨v, hv, ow⟩ := hI.fin.row
    obtain ⟨ad, cap, rfl, _⟩ := owns_val ow
    have c5 := hv.cell
    clear hI hv ow
    gi_wp2_with fail
    exact all_leaves HI.out.fin c5 hm (by omega) rfl hdef _ rfl
  case stop =>
    intro D c pre Z hD hpre hx hdef
    obtain ⟨rfl, q, x, rfl, hq, hx⟩ := hx
    have HI := Lib.hid hx
    have hm := cut_at hpre hq
    obtain ⟨v, hv, ow⟩ := hx.row
    obtain ⟨ad, cap, rfl, _⟩ := owns_val ow
    have c5 := hv.cell
    clear hx hv ow
    gi_wp2_with fail
    exact all_leaves HI.out c5 hm (by omega) rfl hdef _ rfl
end Go.Proofs.Ytpjbacpchmemeaa.DiI

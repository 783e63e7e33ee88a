/-
  The law's all: all pages and their bytes, never left off.
-/
import Derived.Test.YtdjiblgnealmkaaCtC
import Derived.RangeFuncBox
import Derived.Maps.OwnIn
namespace Go.Proofs.Ytdjiblgnealmkaa.CtD
open Go.RowKit Go.Shelf Rd Go.Proofs.Ytdjiblgnealmkaa.Row Mid DkM It PgD PgE ItG CtA CtC
open MpM (Px RB cp)
open MpA (Pyr)
open MpE (own_keep own_type)
set_option linter.unusedVariables false
set_option linter.unusedSimpArgs false
set_option maxRecDepth 10000
attribute [local go_sem] Oper.semAt_some
attribute [local go_sem ↓] PgA.load_pg PgA.store_pg
attribute [local go_sem] one_int PgA.pc3 PgA.run_load_pg PgA.run_store_pg midLoad_eq rowLoad_eq rowStore_eq blk_alloc_at blk_alloc_old blk_drew blk_drewN blk_set_far blk_set_far' blk_grow setRow_alloc_at setRow_alloc_old setRow_drew setRow_drewN
theorem eq_nil (d f : Nat) (c : Array Value) (w : World) : (Op.equalIn (d + 1) 104 (.func (.func f) #[] c) .nilFunc).run Try.prog w = .ok false w := by
  rw [Op.equalIn]
  simp [go_sem, Try.underlying104]
theorem nil_iter (f : Nat) (c : Array Value) (w : World) : (binOp .eql 104 (.func (.func f) #[] c) .nilFunc).run Try.prog w = .ok (.bool false) w := by
  simp only [binOp]
  rw [show Op.equal = Op.equalIn (9999 + 1) from rfl]
  simp only [Sem.run_bind, eq_nil, Result.andThen_ok, Sem.run_pure]
attribute [local go_sem ↓] nil_iter
theorem ctAll_any (m : Value) (w : World) (hm : m.oneCell' = true) (hv : m = .pointer none ∨ ∃ b, m = .pointer (some ⟨b, 0, none⟩)) :
    Calls Try.prog 59 #[m] w fun e w' => e = .returned (.func (.func 67) #[] #[.pointer (some ⟨w.heap.size, 0, none⟩)]) ∧ w' = w.alloc (.cells #[m] 29) := by
  have hmf : ∀ (fn : Fn) (first cap : Array Value) (w : World), (Instr.makeFunc fn first cap).run Try.prog w = .ok (.func fn first cap) w := fun _ _ _ _ => rfl
  rcases hv with rfl | ⟨b, rfl⟩
  all_goals
    go_enter Try.func59, Try.ntmps59
    go_wp2
    go_ret
    exact ⟨rfl, rfl⟩
/-- an item's cells -/
def itL (x : El) : List Value := x.1.map (Value.int .i64) ++ [x.2]
def itC (xs : List El) : List Value := fl (xs.map itL)
theorem itC_app (a b : List El) : itC (a ++ b) = itC a ++ itC b := by unfold itC; rw [List.map_append, fl_app]
theorem itC_one (x : El) : itC [x] = itL x := by simp [itC, fl]
theorem info_item : (Try.prog.info? 78).map (fun i => (i.zero, i.size, i.bytes)) = some (some (.agg #[.int .i64 0, .int .i64 0, .int .i64 0, .slice none 0 0]), 4, 48) := by kernel_rfl
theorem app_itIn {F : Fence} {nF : Nat} {ops : Array Oper} {rest : List Oper} {o : Oper} {a : Act} {w : World} {Q : Exit → Act → World → Prop} (hgd : o.guard = none) (s x : Operand)
    (ho : o.op = .call { callee := .builtin .append, args := #[s, x], argTypes := #[68, 68] })
    (base : Nat) (v : Value) (m : Nat) (r : List El) (hs : a.eval s = v) (hown : w.ownsRow base 78 4 v m (itC r))
    (gx : Nat) (cx : Nat) (L P Q' : Int) (u : Value) (hu : u.oneCell' = true) (hx : a.eval x = .slice (some ⟨gx, 0, none⟩) 1 cx) (hg : blk w gx = some (.cells #[.int .i64 L, .int .i64 P, .int .i64 Q', u] 78 (0, 0))) (hm : m ≤ 1000000) (hbase : base ≤ w.heap.size)
    (h : ∀ v' w', w'.ownsRow base 78 4 v' (m + 1) (itC (r ++ [([L, P, Q'], u)])) → w.grownBy w' v.ownBlock → (v'.ownBlock = v.ownBlock ∨ v'.ownBlock = some w.heap.size) → wpListIn F nF Try.prog ops Q rest (a.put o.dst v') w') : wpListIn F nF Try.prog ops Q (o :: rest) a w := by
  obtain ⟨i0, hi, hz0, hz1, hz2⟩ := info_parts info_item
  refine wpListIn_append_own_at w hgd s x 68 ho base 78 i0 _ 4 48 Try.underlying68 hi hz0 hz1 hz2 rfl (by decide) v m (itC r) hs hown ⟨gx, 0, none⟩ 1 cx (itC [([L, P, Q'], u)]) hx ?_ ?_ ?_ (by unfold maxLen; omega) (by omega) hbase ?_
  · rw [itC_one]; rfl
  · intro j y hj
    rw [Addr.add_mid, Nat.zero_add, blk_cell hg]
    rw [itC_one] at hj
    simpa [itL] using hj
  · intro y hy
    rw [itC_one] at hy
    simp [itL] at hy
    rcases hy with rfl | rfl | rfl | rfl <;> first | rfl | exact hu
  · intro v' w' h1 h2 h3 h4
    exact h v' w' (by rw [itC_app]; exact h1) h2 h4
theorem own_grown {X Y : World} {row : Option Nat} {base s n : Nat} {e : TypeId} {v : Value} {xs : List Value} (h : X.ownsRow base e s v n xs) (hg : X.grownBy Y row) (hr : ∀ r, row = some r → ∃ o : Obj, X.heap[r]? = some o ∧ o.isCells = false) : Y.ownsRow base e s v n xs :=
  own_keep h fun k hk => by
    obtain ⟨cur, hc⟩ := own_type h hk
    exact hg.block k (blk_lt (show blk X k = _ from hc)) fun e' => by
      obtain ⟨o, ho, hcl⟩ := hr k e'.symm
      rw [hc] at ho
      cases ho
      cases hcl
theorem Gp.grown {X Y : World} {row : Option Nat} {ts : List Px} {D : Nat} {wr : Bool} {x : El} (h : Gp ts D wr x X) (hg : X.grownBy Y row) (hr : ∀ r, row = some r → ∃ o : Obj, X.heap[r]? = some o ∧ o.isCells = false) : Gp ts D wr x Y := by
  obtain ⟨L, P, Q, h1, h2, h3⟩ := h
  exact ⟨L, P, Q, h1, h2, own_grown h3 hg hr⟩
/-- what has been collected -/
structure AllSt (w : World) (most : Int) (mv : Value) (D : Nat) (wr : Bool) (ts : List Px) (pre : List El) (X : World) : Prop where
  below : Below w.heap.size w X
  row : ∃ v, Boxed X (w.heap.size + 1) 68 v ∧ X.ownsRow (w.heap.size + 1) 78 4 v pre.length (itC pre)
  k : blk X w.heap.size = some (.cells #[.int .i64 most] 3 (0, 0))
  m : BoxM (w.heap.size + 2) mv X
  gp : ∀ x ∈ pre, Gp ts D wr x X
  size : w.heap.size + 3 ≤ X.heap.size
theorem AllSt.grown {w X Y : World} {most : Int} {mv : Value} {D : Nat} {wr : Bool} {ts : List Px} {pre : List El} {row : Option Nat} (h : AllSt w most mv D wr ts pre X) (hg : X.grownBy Y row) (hr : ∀ r, row = some r → w.heap.size + 3 ≤ r ∧ ∃ o : Obj, X.heap[r]? = some o ∧ o.isCells = false) : AllSt w most mv D wr ts pre Y := by
  obtain ⟨v, hv, ho⟩ := h.row
  have hs := h.size
  have ne : ∀ k, k < w.heap.size + 3 → some k ≠ row := fun k hk e => by have := (hr k e.symm).1; omega
  exact ⟨⟨hg.os.trans h.below.os, hg.tape.trans h.below.tape, hg.output.trans h.below.output, Nat.le_trans h.below.size hg.size, fun k hk => (hg.block k (by omega) (ne k (by omega))).trans (h.below.block k hk)⟩,
    ⟨v, hv.kept hg (ne _ (by omega)), own_grown ho hg fun r e => (hr r e).2⟩, (hg.block _ (by omega) (ne _ (by omega))).trans h.k, (hg.block _ (by omega) (ne _ (by omega))).trans h.m, fun x hx => Gp.grown (h.gp x hx) hg fun r e => (hr r e).2, Nat.le_trans hs hg.size⟩
/-- whose block the collected ones lie in -/
def AllOwn (w : World) (X : World) (k : Nat) : Prop := ∃ v, Boxed X (w.heap.size + 1) 68 v ∧ v.ownBlock = some k
theorem all_mine (w : World) (most : Int) (mv : Value) (D : Nat) (wr : Bool) (ts : List Px) (B : Nat) (hB : w.heap.size + 3 ≤ B) : Mine B (AllSt w most mv D wr ts) (fun _ => AllOwn w) := by
  refine ⟨fun s X k h ho => ?_, fun s X Y row h hg hr k ho => ?_⟩
  · obtain ⟨v, hv, ow⟩ := h.row
    obtain ⟨v', hv', e⟩ := ho
    have : v = v' := by
      have := (show X.heap[w.heap.size + 1]? = _ from hv).symm.trans hv'
      simpa using this
    subst this
    obtain ⟨cur, hc⟩ := own_type ow e
    exact ⟨_, _, _, hc⟩
  · obtain ⟨v, hv, ow⟩ := h.row
    obtain ⟨v', hv', e⟩ := ho
    have hv2 : Boxed Y (w.heap.size + 1) 68 v := hv.kept hg fun e => by have := (hr _ e.symm).1; omega
    have : v = v' := by
      have := (show Y.heap[w.heap.size + 1]? = _ from hv2).symm.trans hv'
      simpa using this
    subst this
    exact ⟨v, hv, e⟩
theorem all_start (w : World) (most : Int) (mv : Value) (D : Nat) (wr : Bool) (ts : List Px) : AllSt w most mv D wr ts [] (((w.alloc (.cells #[.int .i64 most] 3)).alloc (.cells #[.slice none 0 0] 68)).alloc (.cells #[mv] 29)) := by
  have b : Below w.heap.size w (((w.alloc (.cells #[.int .i64 most] 3)).alloc (.cells #[.slice none 0 0] 68)).alloc (.cells #[mv] 29)) := by
    refine (((Below.refl _ w).alloc ?_ _).alloc ?_ _).alloc ?_ _ <;> (try simp only [World.size_alloc]) <;> omega
  have O : ∀ (X : World) (o : Obj) (k : Nat) {p : Obj}, k < X.heap.size → blk X k = some p → blk (X.alloc o) k = some p := fun X o k p h e => (blk_alloc_old X o k h).trans e
  refine ⟨b, ⟨.slice none 0 0, ?_, World.ownsRow_nil _ _ _ _⟩, ?_, ?_, fun x hx => (by cases hx), by simp⟩
  · exact O _ _ _ (by simp) (blk_alloc_at _ _ _ (by simp))
  · exact O _ _ _ (by simp; omega) (O _ _ _ (by simp) (blk_alloc_at _ _ _ rfl))
  · exact blk_alloc_at _ _ _ (by simp)
theorem all_85 {D : Nat} (h : D ≤ 3) : (PgM.allV (D : Int)).length ≤ 85 := by
  rcases (show D = 0 ∨ D = 1 ∨ D = 2 ∨ D = 3 by omega) with rfl | rfl | rfl | rfl <;> decide +kernel
/-- one more -/
theorem all_step {w X2 w4 : World} {most : Int} {mv : Value} {D : Nat} {wr : Bool} {ts : List Px} {pre : List El} {v v4 : Value} {tmp : Obj} {B : Nat} {x : El} (h : AllSt w most mv D wr ts pre X2) (hv : Boxed X2 (w.heap.size + 1) 68 v) (ow : X2.ownsRow (w.heap.size + 1) 78 4 v pre.length (itC pre))
    (hg : (X2.alloc tmp).grownBy w4 v.ownBlock) (hb : Boxed (w4.setCell ⟨w.heap.size + 1, 0, none⟩ v4) (w.heap.size + 1) 68 v4) (ho : (w4.setCell ⟨w.heap.size + 1, 0, none⟩ v4).ownsRow (w.heap.size + 1) 78 4 v4 (pre.length + 1) (itC (pre ++ [x])))
    (hbel : Below (w.heap.size + 1) X2 (w4.setCell ⟨w.heap.size + 1, 0, none⟩ v4)) (hb4 : v4.ownBlock = v.ownBlock ∨ v4.ownBlock = some (X2.alloc tmp).heap.size) (hx : Gp ts D wr x X2) (hB : w.heap.size + 3 ≤ B) (c : Code → List El → World → Prop) (a : Act) :
    It.Ends B (fun pre Z => AllSt w most mv D wr ts pre Z) c (fun _ => AllOwn w) pre x X2 .normal a (w4.setCell ⟨w.heap.size + 1, 0, none⟩ v4) := by
  have keep : ∀ k, k ≠ w.heap.size + 1 → k < X2.heap.size → some k ≠ v.ownBlock → (w4.setCell ⟨w.heap.size + 1, 0, none⟩ v4).heap[k]? = X2.heap[k]? := fun k h1 h2 h3 =>
    (heap_setCell_other _ _ _ _ h1).trans ((hg.block k (by simp; omega) h3).trans (blk_alloc_old _ _ _ h2))
  have hsz : X2.heap.size ≤ (w4.setCell ⟨w.heap.size + 1, 0, none⟩ v4).heap.size := hbel.size
  have hs := h.size
  have byT : ∀ (k : Nat) (cur : Array Value) (T : TypeId), X2.heap[k]? = some (.cells cur T (0, 0)) → T ≠ 78 → T ≠ 68 → (w4.setCell ⟨w.heap.size + 1, 0, none⟩ v4).heap[k]? = X2.heap[k]? := fun k cur T hk h1 h2 => by
    refine keep k (fun e => ?_) (blk_lt (show blk X2 k = _ from hk)) (fun e => ?_)
    · rw [e] at hk
      have := hk.symm.trans (show X2.heap[w.heap.size + 1]? = _ from hv)
      cases this
      exact h2 rfl
    · obtain ⟨cur2, hc2⟩ := own_type ow e.symm
      have := hk.symm.trans hc2
      cases this
      exact h1 rfl
  have kGp : ∀ y : El, Gp ts D wr y X2 → Gp ts D wr y (w4.setCell ⟨w.heap.size + 1, 0, none⟩ v4) := fun y ⟨L, P, Q, h1, h2, h3⟩ => ⟨L, P, Q, h1, h2, own_keep h3 fun k hk => by
    obtain ⟨cur, hc⟩ := own_type h3 hk
    exact byT k cur _ hc (by decide) (by decide)⟩
  refine ⟨⟨hsz, fun k h1 h2 h3 => keep k (by omega) h2 fun e => h3 ⟨v, hv, e.symm⟩⟩, ⟨h.below.trans (hbel.mono (by omega)), ⟨v4, hb, by rw [List.length_append, List.length_singleton]; exact ho⟩, ?_, ?_, ?_, by omega⟩, fun k hk hBk => ?_⟩
  · exact (byT _ _ _ h.k (by decide) (by decide)).trans h.k
  · exact (byT _ _ _ h.m (by decide) (by decide)).trans h.m
  · intro y hy
    rcases List.mem_append.1 hy with hy | hy
    · exact kGp y (h.gp y hy)
    · simp at hy; subst hy; exact kGp _ hx
  · obtain ⟨v', hv', e⟩ := hk
    have : v4 = v' := by
      have := (show (w4.setCell ⟨w.heap.size + 1, 0, none⟩ v4).heap[w.heap.size + 1]? = _ from hb).symm.trans hv'
      simpa using this
    subst this
    rcases hb4 with e2 | e2
    · exact .inl ⟨v, hv, e2.symm.trans e⟩
    · refine .inr ?_
      have := e2.symm.trans e
      simp at this
      omega
theorem all_leaves {w Z : World} {most : Int} {mv : Value} {D : Nat} {wr : Bool} {ts : List Px} {xs : List El} {ad : Option Addr} {cap D9 : Nat} (h : AllSt w most mv D wr ts xs Z) (c5 : Z.cell? ⟨w.heap.size + 1, 0, none⟩ = some (.slice ad xs.length cap)) (hD : w.heap.size + 3 ≤ D9) {fn : Func} (hf : fn.results = #[.tmp 4]) (hdef : Z.heap[D9]? = some (.deferred (some [])))
    (tmps : Array Value) (h4 : tmps.getD 4 undef = .slice ad xs.length cap) (hfin : finE D xs) :
    LeavesInM Fence.wide 0 Try.prog fn tmps (fun e w' => (∃ (xs : List El) (ad : Option Addr) (c : Nat), finE D xs ∧ e = .returned (.slice ad xs.length c) ∧ Reads w' 4 ad xs.length (itC xs) ∧ ∀ x ∈ xs, Gp ts D wr x w') ∧ Below w.heap.size w w') [mk D9] .returning Z := by
  refine leaves_marks (Ds := [D9]) (B := w.heap.size + 3) (fun Y => AllSt w most mv D wr ts xs Y ∧ Boxed Y (w.heap.size + 1) 68 (.slice ad xs.length cap)) (fun E Y hE hY he => ?_) (fun Y hY => ?_) (by simp) Z ⟨h, ?_⟩ fun E hp => ?_
  · refine ⟨hY.1.grown (grownBy_putObj' _ _ _) fun r e => by injection e with e; subst e; exact ⟨hE, _, he, rfl⟩, hY.2.kept (grownBy_putObj' _ _ _) fun e => by injection e with e; omega⟩
  · obtain ⟨v, hv, ow⟩ := hY.1.row
    have : v = .slice ad xs.length cap := by
      have := (show Y.heap[w.heap.size + 1]? = _ from hv).symm.trans hY.2
      simpa using this
    subst this
    exact ⟨_, results_tmp hf tmps _ _, ⟨xs, ad, cap, hfin, by rw [h4], Reads.of_owns ow, hY.1.gp⟩, hY.1.below⟩
  · obtain ⟨v, hv, ow⟩ := h.row
    have := hv.cell.symm.trans c5
    injection this with this
    rw [← this]
    exact hv
  · obtain rfl : E = D9 := by simpa using hp
    exact ⟨hD, hdef⟩
set_option maxHeartbeats 8000000 in
/-- all of them -/
theorem lall_any (mb D : Nat) (wr : Bool) (ts : List Px) (w : World) (hP : Pyr w mb D wr ts) :
    Calls Try.prog 35 #[.pointer (some ⟨mb, 0, none⟩), .int .i64 (-1)] w fun e w' => (∃ (xs : List El) (ad : Option Addr) (c : Nat), finE D xs ∧ e = .returned (.slice ad xs.length c) ∧ Reads w' 4 ad xs.length (itC xs) ∧ ∀ x ∈ xs, Gp ts D wr x w') ∧ Below w.heap.size w w' := by
  refine callsIn_wide.1 (callsIn_of_wp_marks (F := Fence.wide) (n := 0) Try.func35 rfl trivial ?_ rfl)
  simp only [Try.ntmps35, List.size_toArray, List.length_cons, List.length_nil, Nat.reduceAdd, Nat.reduceSub, Array.replicate_succ, Array.replicate_zero, List.push_toArray, List.append_toArray, List.nil_append, List.cons_append]
  gi_wp2_with fail
  refine ⟨trivial, rfl, (callsIn_wide.2 (ctAll_any (.pointer (some ⟨mb, 0, none⟩)) _ rfl (.inr ⟨mb, rfl⟩))).mono ?_⟩
  rintro e W1 ⟨rfl, hW1⟩
  have R0 : AllSt w (-1) (.pointer (some ⟨mb, 0, none⟩)) D wr ts [] W1 := by rw [hW1]; exact all_start w _ _ D wr ts
  have hs1 : W1.heap.size = w.heap.size + 3 := by rw [hW1]; simp
  have HR0 := Lib.hid R0
  clear hW1 R0
  gi_wp2_with fail
  simp only [Nat.add_assoc, Nat.reduceAdd]
  refine range_seqG (gf := 67) (lb := #[.pointer (some ⟨w.heap.size + 2, 0, none⟩)]) rfl enters_ct (ctall_some mb D (w.heap.size + 2) wr ts hP.d3) (fun _ => rfl)
    (fun pre Z => AllSt w (-1) (.pointer (some ⟨mb, 0, none⟩)) D wr ts pre Z)
    (fun c pre Z => False)
    (AllOwn w) ?hI ?hIx (all_mine w _ _ D wr ts _ (by omega)) (fun _ _ h => ⟨h.m, hP.below h.below⟩) HR0.out ?round ?done ?stop
  case hI => exact fun s X Y row h hg hr => h.grown hg fun r e => ⟨by have := (hr r e).1; omega, (hr r e).2⟩
  case hIx => exact fun c s X Y row h => h.elim
  case stop => exact fun D9 c pre Z _ _ h => h.elim
  case round =>
    rintro l' pre x Z hl' hrec hI hok hG
    have HG0 := Lib.hid hG
    obtain ⟨L, P, Q, hx1, hval, hrow⟩ := hG
    obtain ⟨xp, u⟩ := x
    simp only at hx1 hrow
    subst hx1
    obtain ⟨ug, uc, rfl, -, -, -, -, -⟩ := owns_pos hrow (by omega)
    have hsm : pre.length < 85 := by
      have h1 := hok.length_le
      have h2 := all_85 hP.d3
      simp only [List.map_append, List.length_append, List.length_map, List.map_cons, List.map_nil, List.length_cons, List.length_nil] at h1
      omega
    obtain ⟨rr, hrr⟩ := hrec
    have hlz := get_lt hrr
    clear hI hrr hrow hok
    simp only [encI, cs, List.map_cons, List.map_nil]
    gi_wp2_with fail
    refine ⟨World.grownBy_alloc _ _ none, fun X2 hg hI2 hl2 => ?_⟩
    have hG2 : Gp ts D wr ([L, P, Q], .slice (some ⟨ug, 0, none⟩) 144 uc) X2 := Gp.grown (Gp.grown HG0.out (World.grownBy_alloc _ _ none) (fun r e => by cases e)) hg (fun r e => by
      injection e with e
      subst e
      obtain ⟨rl, hrl⟩ := hl2
      exact ⟨_, hrl, rfl⟩)
    have HG2 := Lib.hid hG2
    have c2 : blk X2 Z.heap.size = some (.cells #[.int .i64 L, .int .i64 P, .int .i64 Q] 61 (0, 0)) := (hg.block _ (by simp) (fun e => by injection e with e; omega)).trans (World.alloc_heap_new _ _)
    have HI2 := Lib.hid hI2
    have c4 : X2.cell? ⟨w.heap.size, 0, none⟩ = some (.int .i64 (-1)) := by rw [blk_cell hI2.k]; rfl
    obtain ⟨v, hv, ow⟩ := hI2.row
    obtain ⟨ad, cap, rfl, _⟩ := owns_val ow
    have c5 := hv.cell
    have HV := Lib.hid hv
    have OW := Lib.hid ow
    have hsz2 : w.heap.size + 3 ≤ X2.heap.size := hI2.size
    have hke : ¬ (pre.length : Int) = -1 := by omega
    clear hg hI2 hl2 hv ow hG2 HG0
    gi_wp2_with (gi_at_builtin; refine app_itIn rfl (.tmp 20) (.tmp 24) rfl (w.heap.size + 1) _ _ _ rfl (OW.out.alloc _) X2.heap.size 1 L P Q (.slice (some ⟨ug, 0, none⟩) 144 uc) rfl rfl (blk_alloc_at _ _ _ rfl) (by omega) (by simp; omega) ?_; intro v4 w4 ho4 hg4 hb4; obtain ⟨g4, cap4, rfl⟩ := ownsRow_succ ho4; have AP := Lib.hid (HV.out.appended (show (68 : Nat) ≠ 78 by decide) OW.out (by omega) (by omega) ho4 hg4); have b4 := AP.out.1.cell; have f4 := AP.out.1.frozen; have HG4 := Lib.hid hg4; have HB4 := Lib.hid hb4; clear ho4 hg4 hb4)
    exact all_step HI2.out HV.out OW.out HG4.out AP.out.2.1 AP.out.2.2.1 AP.out.2.2.2.2 HB4.out HG2.out (by omega) _ _
  case done =>
    rintro D9 xs Z hD9 hfin hI hdef
    have HI := Lib.hid hI
    have HF := Lib.hid hfin
    obtain ⟨v, hv, ow⟩ := hI.row
    obtain ⟨ad, cap, rfl, _⟩ := owns_val ow
    have c5 := hv.cell
    clear hI hv ow hfin
    gi_wp2_with fail
    exact all_leaves HI.out c5 (by omega) rfl hdef _ rfl HF.out
end Go.Proofs.Ytdjiblgnealmkaa.CtD

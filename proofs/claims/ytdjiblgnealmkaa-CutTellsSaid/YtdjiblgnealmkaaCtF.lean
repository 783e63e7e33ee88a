/-
  cut.Changed.
-/
import Derived.Test.YtdjiblgnealmkaaCtD
import Derived.Test.YtdjiblgnealmkaaCtE
namespace Go.Proofs.Ytdjiblgnealmkaa.CtF
open Go.RowKit Go.Shelf Rd Go.Proofs.Ytdjiblgnealmkaa.Row Mid DkM It PgD PgE ItG CtA CtC CtD
open MpM (Px RB cp)
open MpA (Pyr)
open MpE (own_keep own_type)
set_option linter.unusedVariables false
set_option linter.unusedSimpArgs false
set_option maxRecDepth 10000
attribute [local go_sem] Oper.semAt_some
attribute [local go_sem ↓] PgA.load_pg PgA.store_pg
attribute [local go_sem] one_int PgA.pc3 PgA.run_load_pg PgA.run_store_pg midLoad_eq rowLoad_eq rowStore_eq blk_alloc_at blk_alloc_old blk_drew blk_drewN blk_set_far blk_set_far' blk_grow setRow_alloc_at setRow_alloc_old setRow_drew setRow_drewN
/-- those that are not alike -/
def kp (al : List Int → Bool) (xs : List El) : List El := xs.filter fun x => !al x.1
theorem kp_yes {al : List Int → Bool} {pre : List El} {x : El} (h : al x.1 = false) : kp al (pre ++ [x]) = kp al pre ++ [x] := by simp [kp, h]
theorem kp_no {al : List Int → Bool} {pre : List El} {x : El} (h : al x.1 = true) : kp al (pre ++ [x]) = kp al pre := by simp [kp, h]
theorem kp_len (al : List Int → Bool) (pre : List El) : (kp al pre).length ≤ pre.length := List.length_filter_le _ _
/-- what has been collected -/
structure ChSt (w : World) (al : List Int → Bool) (av mv : Value) (D : Nat) (wr : Bool) (ts : List Px) (pre : List El) (X : World) : Prop where
  below : Below w.heap.size w X
  row : ∃ v, Boxed X (w.heap.size + 2) 68 v ∧ X.ownsRow (w.heap.size + 2) 78 4 v (kp al pre).length (itC (kp al pre))
  k : BoxM w.heap.size av X
  kb : BoxM (w.heap.size + 1) mv X
  m : BoxM (w.heap.size + 3) mv X
  gp : ∀ x ∈ pre, Gp ts D wr x X
  size : w.heap.size + 4 ≤ X.heap.size
theorem ChSt.grown {w X Y : World} {al : List Int → Bool} {av mv : Value} {D : Nat} {wr : Bool} {ts : List Px} {pre : List El} {row : Option Nat} (h : ChSt w al av mv D wr ts pre X) (hg : X.grownBy Y row) (hr : ∀ r, row = some r → w.heap.size + 4 ≤ r ∧ ∃ o : Obj, X.heap[r]? = some o ∧ o.isCells = false) : ChSt w al av mv D wr ts pre Y := by
  obtain ⟨v, hv, ho⟩ := h.row
  have hs := h.size
  have ne : ∀ k, k < w.heap.size + 4 → some k ≠ row := fun k hk e => by have := (hr k e.symm).1; omega
  exact ⟨⟨hg.os.trans h.below.os, hg.tape.trans h.below.tape, hg.output.trans h.below.output, Nat.le_trans h.below.size hg.size, fun k hk => (hg.block k (by omega) (ne k (by omega))).trans (h.below.block k hk)⟩,
    ⟨v, hv.kept hg (ne _ (by omega)), own_grown ho hg fun r e => (hr r e).2⟩, (hg.block _ (by omega) (ne _ (by omega))).trans h.k, (hg.block _ (by omega) (ne _ (by omega))).trans h.kb, (hg.block _ (by omega) (ne _ (by omega))).trans h.m, fun x hx => Gp.grown (h.gp x hx) hg fun r e => (hr r e).2, Nat.le_trans hs hg.size⟩
/-- whose block the collected ones lie in -/
def ChOwn (w : World) (X : World) (k : Nat) : Prop := ∃ v, Boxed X (w.heap.size + 2) 68 v ∧ v.ownBlock = some k
theorem ch_mine (w : World) (al : List Int → Bool) (av mv : Value) (D : Nat) (wr : Bool) (ts : List Px) (B : Nat) (hB : w.heap.size + 4 ≤ B) : Mine B (ChSt w al av mv D wr ts) (fun _ => ChOwn w) := by
  refine ⟨fun s X k h ho => ?_, fun s X Y row h hg hr k ho => ?_⟩
  · obtain ⟨v, hv, ow⟩ := h.row
    obtain ⟨v', hv', e⟩ := ho
    have : v = v' := by
      have := (show X.heap[w.heap.size + 2]? = _ from hv).symm.trans hv'
      simpa using this
    subst this
    obtain ⟨cur, hc⟩ := own_type ow e
    exact ⟨_, _, _, hc⟩
  · obtain ⟨v, hv, ow⟩ := h.row
    obtain ⟨v', hv', e⟩ := ho
    have hv2 : Boxed Y (w.heap.size + 2) 68 v := hv.kept hg fun e => by have := (hr _ e.symm).1; omega
    have : v = v' := by
      have := (show Y.heap[w.heap.size + 2]? = _ from hv2).symm.trans hv'
      simpa using this
    subst this
    exact ⟨v, hv, e⟩
theorem ch_start (w : World) (al : List Int → Bool) (av mv : Value) (D : Nat) (wr : Bool) (ts : List Px) : ChSt w al av mv D wr ts [] ((((w.alloc (.cells #[av] 29)).alloc (.cells #[mv] 29)).alloc (.cells #[.slice none 0 0] 68)).alloc (.cells #[mv] 29)) := by
  have b : Below w.heap.size w ((((w.alloc (.cells #[av] 29)).alloc (.cells #[mv] 29)).alloc (.cells #[.slice none 0 0] 68)).alloc (.cells #[mv] 29)) := by
    refine ((((Below.refl _ w).alloc ?_ _).alloc ?_ _).alloc ?_ _).alloc ?_ _ <;> (try simp only [World.size_alloc]) <;> omega
  have O : ∀ (X : World) (o : Obj) (k : Nat) {p : Obj}, k < X.heap.size → blk X k = some p → blk (X.alloc o) k = some p := fun X o k p h e => (blk_alloc_old X o k h).trans e
  refine ⟨b, ⟨.slice none 0 0, ?_, World.ownsRow_nil _ _ _ _⟩, ?_, ?_, ?_, fun x hx => (by cases hx), by simp⟩
  · exact O _ _ _ (by simp) (blk_alloc_at _ _ _ (by simp))
  · exact O _ _ _ (by simp <;> omega) (O _ _ _ (by simp <;> omega) (O _ _ _ (by simp) (blk_alloc_at _ _ _ rfl)))
  · exact O _ _ _ (by simp <;> omega) (O _ _ _ (by simp) (blk_alloc_at _ _ _ (by simp)))
  · exact blk_alloc_at _ _ _ (by simp)
/-- one more -/
theorem ch_step {w X2 w4 : World} {al : List Int → Bool} {av mv : Value} {D : Nat} {wr : Bool} {ts : List Px} {pre : List El} {v v4 : Value} {tmp : Obj} {B : Nat} {x : El} (h : ChSt w al av mv D wr ts pre X2) (hv : Boxed X2 (w.heap.size + 2) 68 v) (ow : X2.ownsRow (w.heap.size + 2) 78 4 v (kp al pre).length (itC (kp al pre)))
    (hg : (X2.alloc tmp).grownBy w4 v.ownBlock) (hb : Boxed (w4.setCell ⟨w.heap.size + 2, 0, none⟩ v4) (w.heap.size + 2) 68 v4) (ho : (w4.setCell ⟨w.heap.size + 2, 0, none⟩ v4).ownsRow (w.heap.size + 2) 78 4 v4 ((kp al pre).length + 1) (itC (kp al pre ++ [x])))
    (hbel : Below (w.heap.size + 2) X2 (w4.setCell ⟨w.heap.size + 2, 0, none⟩ v4)) (hb4 : v4.ownBlock = v.ownBlock ∨ v4.ownBlock = some (X2.alloc tmp).heap.size) (hx : Gp ts D wr x X2) (hal : al x.1 = false) (hB : w.heap.size + 4 ≤ B) (c : Code → List El → World → Prop) (a : Act) :
    It.Ends B (fun pre Z => ChSt w al av mv D wr ts pre Z) c (fun _ => ChOwn w) pre x X2 .normal a (w4.setCell ⟨w.heap.size + 2, 0, none⟩ v4) := by
  have keep : ∀ k, k ≠ w.heap.size + 2 → k < X2.heap.size → some k ≠ v.ownBlock → (w4.setCell ⟨w.heap.size + 2, 0, none⟩ v4).heap[k]? = X2.heap[k]? := fun k h1 h2 h3 =>
    (heap_setCell_other _ _ _ _ h1).trans ((hg.block k (by simp; omega) h3).trans (blk_alloc_old _ _ _ h2))
  have hsz : X2.heap.size ≤ (w4.setCell ⟨w.heap.size + 2, 0, none⟩ v4).heap.size := hbel.size
  have hs := h.size
  have byT : ∀ (k : Nat) (cur : Array Value) (T : TypeId), X2.heap[k]? = some (.cells cur T (0, 0)) → T ≠ 78 → T ≠ 68 → (w4.setCell ⟨w.heap.size + 2, 0, none⟩ v4).heap[k]? = X2.heap[k]? := fun k cur T hk h1 h2 => by
    refine keep k (fun e => ?_) (blk_lt (show blk X2 k = _ from hk)) (fun e => ?_)
    · rw [e] at hk
      have := hk.symm.trans (show X2.heap[w.heap.size + 2]? = _ from hv)
      cases this
      exact h2 rfl
    · obtain ⟨cur2, hc2⟩ := own_type ow e.symm
      have := hk.symm.trans hc2
      cases this
      exact h1 rfl
  have kGp : ∀ y : El, Gp ts D wr y X2 → Gp ts D wr y (w4.setCell ⟨w.heap.size + 2, 0, none⟩ v4) := fun y ⟨L, P, Q, h1, h2, h3⟩ => ⟨L, P, Q, h1, h2, own_keep h3 fun k hk => by
    obtain ⟨cur, hc⟩ := own_type h3 hk
    exact byT k cur _ hc (by decide) (by decide)⟩
  refine ⟨⟨hsz, fun k h1 h2 h3 => keep k (by omega) h2 fun e => h3 ⟨v, hv, e.symm⟩⟩, ⟨h.below.trans (hbel.mono (by omega)), ⟨v4, hb, by rw [kp_yes hal, List.length_append, List.length_singleton]; exact ho⟩, ?_, ?_, ?_, ?_, by omega⟩, fun k hk hBk => ?_⟩
  · exact (byT _ _ _ h.k (by decide) (by decide)).trans h.k
  · exact (byT _ _ _ h.kb (by decide) (by decide)).trans h.kb
  · exact (byT _ _ _ h.m (by decide) (by decide)).trans h.m
  · intro y hy
    rcases List.mem_append.1 hy with hy | hy
    · exact kGp y (h.gp y hy)
    · simp at hy; subst hy; exact kGp _ hx
  · obtain ⟨v', hv', e⟩ := hk
    have : v4 = v' := by
      have := (show (w4.setCell ⟨w.heap.size + 2, 0, none⟩ v4).heap[w.heap.size + 2]? = _ from hb).symm.trans hv'
      simpa using this
    subst this
    rcases hb4 with e2 | e2
    · exact .inl ⟨v, hv, e2.symm.trans e⟩
    · refine .inr ?_
      have := e2.symm.trans e
      simp at this
      omega
theorem ch_leaves {w Z : World} {al : List Int → Bool} {av mv : Value} {D : Nat} {wr : Bool} {ts : List Px} {xs : List El} {ad : Option Addr} {cap D9 : Nat} (h : ChSt w al av mv D wr ts xs Z) (c5 : Z.cell? ⟨w.heap.size + 2, 0, none⟩ = some (.slice ad (kp al xs).length cap)) (hD : w.heap.size + 4 ≤ D9) {fn : Func} (hf : fn.results = #[.tmp 4]) (hdef : Z.heap[D9]? = some (.deferred (some [])))
    (tmps : Array Value) (h4 : tmps.getD 4 undef = .slice ad (kp al xs).length cap) (hfin : finE D xs) :
    LeavesInM Fence.wide 0 Try.prog fn tmps (fun e w' => (∃ (xs : List El) (ad : Option Addr) (c : Nat), finE D xs ∧ e = .returned (.slice ad (kp al xs).length c) ∧ Reads w' 4 ad (kp al xs).length (itC (kp al xs)) ∧ ∀ x ∈ xs, Gp ts D wr x w') ∧ Below w.heap.size w w') [mk D9] .returning Z := by
  refine leaves_marks (Ds := [D9]) (B := w.heap.size + 4) (fun Y => ChSt w al av mv D wr ts xs Y ∧ Boxed Y (w.heap.size + 2) 68 (.slice ad (kp al xs).length cap)) (fun E Y hE hY he => ?_) (fun Y hY => ?_) (by simp) Z ⟨h, ?_⟩ fun E hp => ?_
  · refine ⟨hY.1.grown (grownBy_putObj' _ _ _) fun r e => by injection e with e; subst e; exact ⟨hE, _, he, rfl⟩, hY.2.kept (grownBy_putObj' _ _ _) fun e => by injection e with e; omega⟩
  · obtain ⟨v, hv, ow⟩ := hY.1.row
    have : v = .slice ad (kp al xs).length cap := by
      have := (show Y.heap[w.heap.size + 2]? = _ from hv).symm.trans hY.2
      simpa using this
    subst this
    exact ⟨_, results_tmp hf tmps _ _, ⟨xs, ad, cap, hfin, by rw [h4], Reads.of_owns ow, hY.1.gp⟩, hY.1.below⟩
  · obtain ⟨v, hv, ow⟩ := h.row
    have := hv.cell.symm.trans c5
    injection this with this
    rw [← this]
    exact hv
  · obtain rfl : E = D9 := by simpa using hp
    exact ⟨hD, hdef⟩
set_option maxHeartbeats 8000000 in
theorem changed_gen (al : List Int → Bool) (av : Value) (mb D : Nat) (wr : Bool) (ts : List Px) (w : World) (hP : Pyr w mb D wr ts) (hav : av = .pointer none ∨ ∃ b, av = .pointer (some ⟨b, 0, none⟩))
    (CAl : ∀ (L P Q : Int) (g c : Nat) (X : World), PgM.validB D L P Q = true → Below w.heap.size w X → Gp ts D wr ([L, P, Q], .slice (some ⟨g, 0, none⟩) 144 c) X → Calls Try.prog 60 #[av, .pointer (some ⟨mb, 0, none⟩), PgA.pg L P Q, .slice (some ⟨g, 0, none⟩) 144 c] X fun e w' => e = .returned (.bool (al [L, P, Q])) ∧ Below X.heap.size X w') :
    Calls Try.prog 36 #[av, .pointer (some ⟨mb, 0, none⟩)] w fun e w' => (∃ (xs : List El) (ad : Option Addr) (c : Nat), finE D xs ∧ e = .returned (.slice ad (kp al xs).length c) ∧ Reads w' 4 ad (kp al xs).length (itC (kp al xs)) ∧ ∀ x ∈ xs, Gp ts D wr x w') ∧ Below w.heap.size w w' := by
  have HCA := Lib.hid CAl
  clear CAl
  have hstart : av.oneCell' = true := by rcases hav with rfl | ⟨b, rfl⟩ <;> rfl
  refine callsIn_wide.1 (callsIn_of_wp_marks (F := Fence.wide) (n := 0) Try.func36 rfl trivial ?_ rfl)
  simp only [Try.ntmps36, List.size_toArray, List.length_cons, List.length_nil, Nat.reduceAdd, Nat.reduceSub, Array.replicate_succ, Array.replicate_zero, List.push_toArray, List.append_toArray, List.nil_append, List.cons_append]
  have hav2 : ∃ p, av = .pointer p := by rcases hav with rfl | ⟨b, rfl⟩ <;> exact ⟨_, rfl⟩
  obtain ⟨pv, rfl⟩ := hav2
  gi_wp2_with fail
  refine ⟨trivial, rfl, (callsIn_wide.2 (ctAll_any (.pointer (some ⟨mb, 0, none⟩)) _ rfl (.inr ⟨mb, rfl⟩))).mono ?_⟩
  rintro e W1 ⟨rfl, hW1⟩
  have R0 : ChSt w al (.pointer pv) (.pointer (some ⟨mb, 0, none⟩)) D wr ts [] W1 := by rw [hW1]; exact ch_start w _ _ _ D wr ts
  have hs1 : W1.heap.size = w.heap.size + 4 := by rw [hW1]; simp
  have HR0 := Lib.hid R0
  clear hW1 R0
  gi_wp2_with fail
  simp only [Nat.add_assoc, Nat.reduceAdd]
  refine range_seqG (gf := 67) (lb := #[.pointer (some ⟨w.heap.size + 3, 0, none⟩)]) rfl enters_ct (ctall_some mb D (w.heap.size + 3) wr ts hP.d3) (fun _ => rfl)
    (fun pre Z => ChSt w al (.pointer pv) (.pointer (some ⟨mb, 0, none⟩)) D wr ts pre Z)
    (fun c pre Z => False)
    (ChOwn w) ?hI ?hIx (ch_mine w _ _ _ D wr ts _ (by omega)) (fun _ _ h => ⟨h.m, hP.below h.below⟩) HR0.out ?round ?done ?stop
  case hI => exact fun s X Y row h hg hr => h.grown hg fun r e => ⟨by have := (hr r e).1; omega, (hr r e).2⟩
  case hIx => exact fun c s X Y row h => h.elim
  case stop => exact fun D9 c pre Z _ _ h => h.elim
  case round =>
    rintro l' pre x Z hl' hrec hI hok hG
    have HG0 := Lib.hid hG
    obtain ⟨L, P, Q, hx1, hval, hrow⟩ := hG
    obtain ⟨xp, u⟩ := x
    simp only at hx1 hrow
    subst hx1
    obtain ⟨ug, uc, rfl, -, -, -, -, -⟩ := owns_pos hrow (by omega)
    have hsm : (kp al pre).length < 85 := by
      have h1 := hok.length_le
      have h2 := all_85 hP.d3
      have h3 := kp_len al pre
      simp only [List.map_append, List.length_append, List.length_map, List.map_cons, List.map_nil, List.length_cons, List.length_nil] at h1
      omega
    have HVL := Lib.hid hval
    obtain ⟨rr, hrr⟩ := hrec
    have hlz := get_lt hrr
    clear hI hrr hrow hok hval
    simp only [encI, cs, List.map_cons, List.map_nil]
    gi_wp2_with fail
    refine ⟨World.grownBy_alloc _ _ none, fun X2 hg hI2 hl2 => ?_⟩
    have hG2 : Gp ts D wr ([L, P, Q], .slice (some ⟨ug, 0, none⟩) 144 uc) X2 := Gp.grown (Gp.grown HG0.out (World.grownBy_alloc _ _ none) (fun r e => by cases e)) hg (fun r e => by
      injection e with e
      subst e
      obtain ⟨rl, hrl⟩ := hl2
      exact ⟨_, hrl, rfl⟩)
    have HG2 := Lib.hid hG2
    have c2 : blk X2 Z.heap.size = some (.cells #[.int .i64 L, .int .i64 P, .int .i64 Q] 61 (0, 0)) := (hg.block _ (by simp) (fun e => by injection e with e; omega)).trans (World.alloc_heap_new _ _)
    have HI2 := Lib.hid hI2
    have c4 := hI2.k.cell
    have c4b := hI2.kb.cell
    have CC := Lib.hid (HCA.out L P Q ug uc X2 HVL.out hI2.below hG2)
    clear hg hI2 hl2 hG2 HG0
    gi_wp2_with fail
    refine ⟨trivial, rfl, (CallsIn.inRound _ (callsIn_wide.2 CC.out)).mono ?_⟩
    rintro e X3 ⟨rfl, hb3⟩
    have g3 := grown_of hb3
    have HI3 := Lib.hid (HI2.out.grown g3 (fun r e => by cases e))
    have HG3 := Lib.hid (Gp.grown HG2.out g3 (fun r e => by cases e))
    have HGr := Lib.hid g3
    have c23 : blk X3 Z.heap.size = some (.cells #[.int .i64 L, .int .i64 P, .int .i64 Q] 61 (0, 0)) := (blk_below hb3 _ (blk_lt c2)).trans c2
    have hsz23 := hb3.size
    clear c2 c4 c4b CC hb3 g3
    obtain ⟨qa, eqa⟩ : ∃ q, al [L, P, Q] = q := ⟨_, rfl⟩
    rw [eqa]
    have EQA := Lib.hid eqa
    clear eqa
    cases qa with
    | true =>
      gi_wp2_with fail
      have HM := ch_mine w al (.pointer pv) (.pointer (some ⟨mb, 0, none⟩)) D wr ts W1.heap.size (by omega)
      refine ⟨Hold.grown HGr.out (fun r e => by cases e), ?_, fun k hk hB => .inl (HM.back pre X2 X3 none HI2.out HGr.out (fun r e => by cases e) k hk)⟩
      have h3 := HI3.out
      exact ⟨h3.below, by rw [kp_no EQA.out]; exact h3.row, h3.k, h3.kb, h3.m, fun y hy => (List.mem_append.1 hy).elim (h3.gp y) (fun h => by simp at h; subst h; exact HG3.out), h3.size⟩
    | false =>
      obtain ⟨v, hv, ow⟩ := HI3.out.row
      obtain ⟨ad, cap, rfl, _⟩ := owns_val ow
      have c5 := hv.cell
      have HV := Lib.hid hv
      have OW := Lib.hid ow
      have hsz2 : w.heap.size + 4 ≤ X3.heap.size := HI3.out.size
      clear hv ow
      gi_wp2_with (gi_at_builtin; refine app_itIn rfl (.tmp 18) (.tmp 22) rfl (w.heap.size + 2) _ _ _ rfl (OW.out.alloc _) X3.heap.size 1 L P Q (.slice (some ⟨ug, 0, none⟩) 144 uc) rfl rfl (blk_alloc_at _ _ _ rfl) (by omega) (by simp; omega) ?_; intro v4 w4 ho4 hg4 hb4; obtain ⟨g4, cap4, rfl⟩ := ownsRow_succ ho4; have AP := Lib.hid (HV.out.appended (show (68 : Nat) ≠ 78 by decide) OW.out (by omega) (by omega) ho4 hg4); have b4 := AP.out.1.cell; have f4 := AP.out.1.frozen; have HG4 := Lib.hid hg4; have HB4 := Lib.hid hb4; clear ho4 hg4 hb4)
      have E3 := ch_step (B := W1.heap.size) HI3.out HV.out OW.out HG4.out AP.out.2.1 AP.out.2.2.1 AP.out.2.2.2.2 HB4.out HG3.out EQA.out (by omega) (fun c pre Z => False) { tmps := #[], defers := [] }
      obtain ⟨e1, e2, e3⟩ := E3
      have HM := ch_mine w al (.pointer pv) (.pointer (some ⟨mb, 0, none⟩)) D wr ts W1.heap.size (by omega)
      have OB : ∀ k, ChOwn w X3 k → ChOwn w X2 k := fun k hk => HM.back pre X2 X3 none HI2.out HGr.out (fun r e => by cases e) k hk
      refine ⟨(Hold.grown HGr.out (fun r e => by cases e)).trans (e1.mono (Nat.le_refl _) OB), e2, fun k hk hB => ?_⟩
      rcases e3 k hk hB with h1 | h1
      · exact .inl (OB k h1)
      · exact .inr (Nat.le_trans hsz23 h1)
  case done =>
    rintro D9 xs Z hD9 hfin hI hdef
    have HI := Lib.hid hI
    have HF := Lib.hid hfin
    obtain ⟨v, hv, ow⟩ := hI.row
    obtain ⟨ad, cap, rfl, _⟩ := owns_val ow
    have c5 := hv.cell
    clear hI hv ow hfin
    gi_wp2_with fail
    exact ch_leaves HI.out c5 (by omega) rfl hdef _ rfl HF.out
end Go.Proofs.Ytdjiblgnealmkaa.CtF

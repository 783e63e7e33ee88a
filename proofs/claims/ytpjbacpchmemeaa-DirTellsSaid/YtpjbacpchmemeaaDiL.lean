/-
  Two rows of entries compared (the law's same).
  Get.
  ContainsFunc with With's closure.
-/
import Derived.Test.YtpjbacpchmemeaaDiI
namespace Go.Proofs.Ytpjbacpchmemeaa.DiJ
open Go.RowKit Rd Go.Proofs.Ytpjbacpchmemeaa.Row Mid PgM PgA PgB PgC DiM DiA DiC DiD DiE DiF
open Go.Proofs.Ytpjbacpchmemeaa.Num (ret_int ret_bool)
open Go.Proofs.Ytpjbacpchmemeaa.DiM (at_ at_get ce ce_len ce_app ce_one ce_ones ce_at)
set_option linter.unusedVariables false
set_option linter.unusedSimpArgs false
set_option maxRecDepth 10000
def eqE (p q : En) : Bool := decide (p = q)
theorem eq_en (p q : En) (w : World) : (Op.equalIn 10000 39 p.v q.v).run Try.prog w = .ok (eqE p q) w := by
  obtain ⟨a0, a1, a2, a3, a4, a5⟩ := p
  obtain ⟨b0, b1, b2, b3, b4, b5⟩ := q
  unfold eqE
  simp only [En.v, En.c, En.mk.injEq]
  go_simp
  by_cases h0 : a0 = b0 <;> by_cases h1 : a1 = b1 <;> by_cases h2 : a2 = b2 <;> by_cases h3 : a3 = b3 <;> by_cases h4 : a4 = b4 <;> by_cases h5 : a5 = b5 <;> simp [h0, h1, h2, h3, h4, h5]
/-- a slice leads to these entries -/
def RdE (X : World) (ad : Option Addr) (r : List En) : Prop := Reads X 6 ad r.length (ce r) ∧ (r ≠ [] → ∃ g o, ad = some ⟨g, o, none⟩)
theorem RdE.bel {X Y : World} {ad : Option Addr} {r : List En} (h : RdE X ad r) (hb : Below X.heap.size X Y) : RdE Y ad r := ⟨h.1.below hb (Nat.le_refl _), h.2⟩
theorem Rown.rd {X : World} {base n : Nat} {v : Value} {r : List En} (h : Rown X base v n r) : ∃ a c, v = .slice a r.length c ∧ RdE X a r := by
  have hl := h.len
  rcases h.is with ⟨rfl, rfl, rfl⟩ | ⟨g, c, rfl, _, _, h2⟩
  · exact ⟨none, 0, rfl, Reads.of_owns h, fun e => absurd rfl e⟩
  · subst hl
    exact ⟨_, c, rfl, h2, fun _ => ⟨g, 0, rfl⟩⟩
theorem RdE.take {X : World} {ad : Option Addr} {r : List En} (h : RdE X ad r) (k : Nat) : RdE X ad (r.take k) := by
  refine ⟨⟨by rw [ce_len], ?_⟩, fun e => h.2 (fun e2 => e (by rw [e2]; simp))⟩
  rcases h.1.2 with h2 | ⟨b, o, e, hb, hc⟩
  · left
    rw [List.length_take]
    omega
  · refine .inr ⟨b, o, e, hb, fun i hi => ?_⟩
    rw [ce_len] at hi
    have hl : i < (ce r).length := by rw [ce_len]; rw [List.length_take] at hi; omega
    rw [hc i hl]
    have hp : ce (r.take k) <+: ce r := by
      conv => rhs; rw [← List.take_append_drop k r]
      rw [ce_app]
      exact List.prefix_append _ _
    obtain ⟨t, ht⟩ := hp
    rw [← ht, List.getElem?_append_left (by rw [ce_len]; exact hi)]
theorem ld_en_rg {W : World} {c o n : Nat} {L : List En} (h : Reads W 6 (some ⟨c, o, none⟩) n (ce L)) {i : Nat} (hi : i < L.length) (d : Nat) (os : Array Obj) :
    (loadRow 39 (.pointer (some ⟨c, o + i * 6, none⟩))).run Try.prog (Sort.grow (redrawn W d) os) = .ok (at_ L i).v (Sort.grow (redrawn W d) os) := ld_en (h.below (below_regrown W d os) (Nat.le_refl _)) hi
attribute [local go_sem ↓] load_en store_en eq_en
set_option maxHeartbeats 2000000 in
theorem same_any (r r' : List En) (ad ad' : Option Addr) (c c' : Nat) (w : World) (h : RdE w ad r) (h' : RdE w ad' r') (hm : r.length ≤ 1000000) (hm' : r'.length ≤ 1000000) :
    Calls Try.prog 19 #[.slice ad r.length c, .slice ad' r'.length c'] w fun e w' => e = .returned (.bool (decide (r = r'))) ∧ Below w.heap.size w w' := by
  have H := Lib.hid h
  have H' := Lib.hid h'
  by_cases hl : r.length = r'.length
  case neg =>
    have E := Lib.hid (show decide (r = r') = false from decide_eq_false (fun e => hl (by rw [e])))
    have d0 : (((r.length : Int) == (r'.length : Int))) = false := by rw [beq_eq_false_iff_ne]; omega
    clear h h' H H'
    go_enter Try.func19, Try.ntmps19
    go_wp2
    go_ret
    exact ⟨by rw [E.out]; rfl, Below.refl _ _⟩
  have HT := Lib.hid (fun (i : Nat) (hi : i < r.length) (hne : at_ r i ≠ at_ r' i) => (show decide (r = r') = false from decide_eq_false (fun e => hne (by rw [e]))))
  have HF := Lib.hid (fun (he : ∀ i, i < r.length → at_ r i = at_ r' i) => (show decide (r = r') = true from decide_eq_true (List.ext_getElem hl (fun i h1 h2 => by rw [← at_get h1, ← at_get h2]; exact he i h1))))
  obtain ⟨t, et⟩ : ∃ t, decide (r = r') = t := ⟨_, rfl⟩
  rw [et] at HT HF ⊢
  obtain ⟨n, hn⟩ : ∃ n, r.length = n := ⟨_, rfl⟩
  have hn' : r'.length = n := hl.symm.trans hn
  have HN := Lib.hid hn
  have HN' := Lib.hid hn'
  rw [hn] at hm
  rw [hn, hn']
  clear h h' et hl hn hn' hm'
  go_enter Try.func19, Try.ntmps19
  go_wp2_with fail
  go_loopw [5] (fun i W => ∃ k : Nat, k ≤ n ∧ i = .int .i64 (k : Int) ∧ Hid (∀ j, j < k → at_ r j = at_ r' j) ∧ Below w.heap.size w W) (fun i _ => n - (intOf i).toNat)
  case atStart => exact ⟨0, Nat.zero_le _, rfl, fun j hj => absurd hj (Nat.not_lt_zero _), by repeat' (first | (with_reducible exact Below.refl _ _) | (with_reducible refine Rd.below_step ?_ (by assumption)) | (with_reducible refine Rd.below_alloc ?_ _) | (with_reducible refine Rd.below_drewN ?_ _) | (with_reducible refine Below.drew ?_) | (with_reducible refine Below.setCell ?_ ?_ _) | (with_reducible refine Rd.below_setRow ?_ ?_ _) | go_size | (simp only [World.size_alloc]; omega) | omega)⟩
  case round =>
    obtain ⟨k, hk, rfl, HK, hb⟩ := hrel
    rename World => W
    by_cases hlt : k < n
    · have hlt' : (k : Int) < (n : Int) := by omega
      obtain ⟨g, o, rfl⟩ := H.out.2 (fun e => by have := HN.out; rw [e] at this; simp at this; omega)
      obtain ⟨g', o', rfl⟩ := H'.out.2 (fun e => by have := HN'.out; rw [e] at this; simp at this; omega)
      have g1 := ld_en_rg (H.out.bel hb).1 (i := k) (by rw [HN.out]; exact hlt)
      have g2 := ld_en_rg (H'.out.bel hb).1 (i := k) (by rw [HN'.out]; exact hlt)
      have HP := Lib.hid (HT.out k (by rw [HN.out]; exact hlt))
      obtain ⟨p, ep⟩ : ∃ p, at_ r k = p := ⟨_, rfl⟩
      obtain ⟨p', ep'⟩ : ∃ p, at_ r' k = p := ⟨_, rfl⟩
      rw [ep] at g1 HP
      rw [ep'] at g2 HP
      have EP := Lib.hid ep
      have EP' := Lib.hid ep'
      clear ep ep'
      go_upto_region 6 with (fail)
      (refine wp_region_quiet_below (by kernel_rfl) (by kernel_rfl) ?_; (repeat (go_big_quiet_step ((fail)))); refine wpQuiet_nil ?_)
      intro w2 hU
      have KU := Rd.below_of_regrown hU
      have L2 : Below w.heap.size w w2 := by repeat' (first | (with_reducible exact Below.refl _ _) | (with_reducible refine Rd.below_step ?_ (by assumption)) | (with_reducible refine Rd.below_alloc ?_ _) | (with_reducible refine Rd.below_drewN ?_ _) | (with_reducible refine Below.drew ?_) | (with_reducible refine Below.setCell ?_ ?_ _) | (with_reducible refine Rd.below_setRow ?_ ?_ _) | go_size | (simp only [World.size_alloc]; omega) | omega)
      clear g1 g2 hU KU
      obtain ⟨q, eq⟩ : ∃ q, eqE p p' = q := ⟨_, rfl⟩
      rw [eq]
      have EQ := Lib.hid eq
      clear eq
      cases q
      case false =>
        have E := Lib.hid (HP.out (of_decide_eq_false EQ.out))
        go_wp2
        go_ret
        exact ⟨by rw [E.out]; rfl, L2⟩
      case true =>
        have HE := Lib.hid (show p = p' from of_decide_eq_true EQ.out)
        go_wp2
        go_roundw
        case rel => exact ⟨k + 1, by omega, by go_num, fun j hj => by rcases Nat.lt_or_ge j k with h | h; exact HK.out j h; rw [show j = k by omega, EP.out, EP'.out]; exact HE.out, L2⟩
        case measure => simp [intOf]; omega
    · obtain rfl : k = n := by omega
      have E := Lib.hid (HF.out (fun i hi => HK.out i (by have := HN.out; omega)))
      go_wp2
      go_ret
      exact ⟨by rw [E.out]; rfl, by repeat' (first | (with_reducible exact Below.refl _ _) | (with_reducible refine Rd.below_step ?_ (by assumption)) | (with_reducible refine Rd.below_alloc ?_ _) | (with_reducible refine Rd.below_drewN ?_ _) | (with_reducible refine Below.drew ?_) | (with_reducible refine Below.setCell ?_ ?_ _) | (with_reducible refine Rd.below_setRow ?_ ?_ _) | go_size | (simp only [World.size_alloc]; omega) | omega)⟩
end Go.Proofs.Ytpjbacpchmemeaa.DiJ

namespace Go.Proofs.Ytpjbacpchmemeaa.DiK
open Go.RowKit Go.Shelf Rd Go.Proofs.Ytpjbacpchmemeaa.Row Mid PgM PgA PgB PgC DiM DiA DiC DiD DiE DiF It
open Go.Proofs.Ytpjbacpchmemeaa.DiM (at_ at_get ce ce_len ce_app ce_one ce_ones ce_at)
open Go.Proofs.Ytpjbacpchmemeaa.DiI (below_grown blk_grown)
set_option linter.unusedVariables false
set_option linter.unusedSimpArgs false
set_option maxRecDepth 10000
attribute [local go_sem] Oper.semAt_some
attribute [local go_sem ↓] load_pg store_pg load_en store_en alloc_en eq_pg3
theorem piece_p3 (p : En) : Mid.piece p.c 0 3 = #[.int .i64 p.L, .int .i64 p.X, .int .i64 p.Y] := rfl
attribute [local go_sem] one_int pc3 piece_en piece_p3 run_load_pg run_store_pg run_alloc_en run_load_en run_store_en midLoad_eq rowLoad_eq rowStore_eq blk_alloc_at blk_alloc_old blk_drew blk_drewN blk_set_far blk_set_far' blk_grow setRow_alloc_at setRow_alloc_old setRow_drew setRow_drewN En.c_size En.c_all all6
/-- the entry of a page -/
def getO (r : List En) (P : List Int) : Option En := r.find? fun e => decide (e.P = P)
theorem get_found {r q : List En} {x : En} {P : List Int} (h : q ++ [x] <+: r) (hn : ∀ y ∈ q, y.P ≠ P) (hx : x.P = P) : getO r P = some x := by
  obtain ⟨t, rfl⟩ := h
  unfold getO
  rw [List.append_assoc, List.find?_append, List.find?_eq_none.2 (fun y hy => by simpa using hn y hy)]
  simp [hx]
theorem get_missed {r : List En} {P : List Int} (hn : ∀ y ∈ r, y.P ≠ P) : getO r P = none := List.find?_eq_none.2 fun y hy => by simpa using hn y hy
/-- the named results lie in two boxes -/
structure GetEnd (w : World) (r : En) (o : Bool) (X : World) : Prop where
  below : Below w.heap.size w X
  page : blk X (w.heap.size + 1) = some (.cells r.c 39 (0, 0))
  ok : blk X (w.heap.size + 2) = some (.cells #[.bool o] 4 (0, 0))
structure GetRun (p : Option Addr) (w : World) (a b c : Int) (pre : List En) (X : World) : Prop where
  fin : GetEnd w En.z false X
  k : blk X w.heap.size = some (.cells #[.int .i64 a, .int .i64 b, .int .i64 c] 25 (0, 0))
  bx : BoxD (w.heap.size + 3) p X
  not : ∀ y ∈ pre, y.P ≠ [a, b, c]
  size : w.heap.size + 4 ≤ X.heap.size
theorem GetEnd.grown {w : World} {r : En} {o : Bool} {X Y : World} {row : Option Nat} (h : GetEnd w r o X) (hg : X.grownBy Y row) (hr : ∀ r, row = some r → w.heap.size + 4 ≤ r) : GetEnd w r o Y :=
  ⟨below_grown (B := 0) h.below hg (Nat.le_refl _) fun r e => by have := hr r e; omega, blk_grown h.page hg fun r e => by have := hr r e; omega, blk_grown h.ok hg fun r e => by have := hr r e; omega⟩
theorem GetRun.grown {p : Option Addr} {w : World} {a b c : Int} {pre : List En} {X Y : World} {row : Option Nat} (h : GetRun p w a b c pre X) (hg : X.grownBy Y row) (hr : ∀ r, row = some r → w.heap.size + 4 ≤ r) : GetRun p w a b c pre Y :=
  ⟨h.fin.grown hg hr, blk_grown h.k hg fun r e => by have := hr r e; omega, blk_grown h.bx hg fun r e => by have := hr r e; omega, h.not, Nat.le_trans h.size hg.size⟩
theorem get_results {fn : Func} (hf : fn.results = #[.cell 4 39, .cell 5 4]) {w X : World} {r : En} {o : Bool} (h : GetEnd w r o X) (tmps : Array Value) (h4 : tmps.getD 4 undef = .pointer (some ⟨w.heap.size + 1, 0, none⟩)) (h5 : tmps.getD 5 undef = .pointer (some ⟨w.heap.size + 2, 0, none⟩)) :
    (results fn tmps).run Try.prog X = .ok (.tuple #[r.v, .bool o]) X := by
  have hp4 : tmps[4]?.getD undef = .pointer (some ⟨w.heap.size + 1, 0, none⟩) := by simpa using h4
  have hp5 : tmps[5]?.getD undef = .pointer (some ⟨w.heap.size + 2, 0, none⟩) := by simpa using h5
  have hl := run_loadVar_row (P := Try.prog) X _ _ 39 _ _ _ h.page Try.underlying39 rfl (by rw [En.c_size]; kernel_rfl)
  have hc : X.cell? ⟨w.heap.size + 2, 0, none⟩ = some (.bool o) := by rw [blk_cell h.ok]; rfl
  have hb : (loadVar 4 ⟨w.heap.size + 2, 0, none⟩).run Try.prog X = .ok (.bool o) X := by
    simp [go_sem, hc]
  simp [results, hf, hp4, hp5, asAddr, hl, hb]
theorem get_start (p : Option Addr) (w : World) (a b c : Int) : GetRun p w a b c [] ((((w.alloc (.cells #[.int .i64 a, .int .i64 b, .int .i64 c] 25)).alloc (.cells En.z.c 39)).alloc (.cells #[.bool false] 4)).alloc (.cells #[.pointer p] 27)) := by
  have L : Below w.heap.size w ((((w.alloc (.cells #[.int .i64 a, .int .i64 b, .int .i64 c] 25)).alloc (.cells En.z.c 39)).alloc (.cells #[.bool false] 4)).alloc (.cells #[.pointer p] 27)) := by
    refine ((((Below.refl _ w).alloc ?_ _).alloc ?_ _).alloc ?_ _).alloc ?_ _ <;> (try simp only [World.size_alloc]) <;> omega
  have O : ∀ (X : World) (o : Obj) (k : Nat) {p : Obj}, k < X.heap.size → blk X k = some p → blk (X.alloc o) k = some p := fun X o k p h e => (blk_alloc_old X o k h).trans e
  refine ⟨⟨L, ?_, ?_⟩, ?_, ?_, fun i hi => absurd hi (by simp), by simp⟩
  · exact O _ _ _ (by simp <;> omega) (O _ _ _ (by simp <;> omega) (blk_alloc_at _ _ _ (by simp)))
  · exact O _ _ _ (by simp <;> omega) (blk_alloc_at _ _ _ (by simp))
  · exact O _ _ _ (by simp <;> omega) (O _ _ _ (by simp <;> omega) (O _ _ _ (by simp) (blk_alloc_at _ _ _ rfl)))
  · exact blk_alloc_at _ _ _ (by simp)
/-- the named results are set -/
theorem GetEnd.set {w X : World} {r r' : En} {o o' : Bool} (h : GetEnd w r o X) : GetEnd w r' o' ((X.setRow (w.heap.size + 1) r'.c).setCell ⟨w.heap.size + 2, 0, none⟩ (.bool o')) := by
  have hk : blk (X.setRow (w.heap.size + 1) r'.c) (w.heap.size + 2) = some (.cells #[.bool o] 4 (0, 0)) := by rw [blk_setRow_other _ _ _ _ (by omega)]; exact h.ok
  refine ⟨Below.setCell ?_ (by simp) _, ?_, ?_⟩
  · refine ⟨h.below.os, h.below.tape, h.below.output, by rw [size_setRow]; exact h.below.size, fun k hk => ?_⟩
    exact (blk_setRow_other _ _ _ _ (by omega)).trans (h.below.block k hk)
  · rw [blk_set_far _ _ _ _ (by simp)]
    exact blk_setRow_of h.page _
  · exact blk_set _ _ _ _ _ _ hk
theorem GetRun.step {p : Option Addr} {w X : World} {a b c : Int} {pre : List En} {x : En} (h : GetRun p w a b c pre X) (hne : x.P ≠ [a, b, c]) : GetRun p w a b c (pre ++ [x]) X :=
  ⟨h.fin, h.k, h.bx, fun y hy => by
    rcases List.mem_append.1 hy with h1 | h1
    · exact h.not y h1
    · rw [List.mem_singleton.1 h1]; exact hne, h.size⟩
theorem cell_setRow_far {X : World} {g k : Nat} {v : Value} {t : TypeId} (h : blk X g = some (.cells #[v] t (0, 0))) (hk : g ≠ k) (c : Array Value) : (X.setRow k c).cell? ⟨g, 0, none⟩ = some v := by
  rw [blk_cell (show blk (X.setRow k c) g = some (.cells #[v] t (0, 0)) by rw [blk_setRow_other _ _ _ _ hk]; exact h)]; rfl
theorem frozen_setRow_far {X : World} {g k : Nat} {v : Value} {t : TypeId} (h : blk X g = some (.cells #[v] t (0, 0))) (hk : g ≠ k) (c : Array Value) : (X.setRow k c).frozen? ⟨g, 0, none⟩ = false :=
  blk_frozen (show blk (X.setRow k c) g = some (.cells #[v] t (0, 0)) by rw [blk_setRow_other _ _ _ _ hk]; exact h) 0
theorem hold_low {B : Nat} {own : Nat → Prop} {X Y : World} (hs : X.heap.size ≤ Y.heap.size) (h : ∀ k, B ≤ k → blk Y k = blk X k) : Hold B own X Y := ⟨hs, fun k hk _ _ => h k hk⟩
set_option maxHeartbeats 2000000 in
theorem get_any (t : Nat) (d : Int) (v : Value) (r : List En) (a b c : Int) (w : World) (hd : Dv w t d v r) :
    Calls Try.prog 15 #[.pointer (some ⟨t, 0, none⟩), pg a b c] w fun e w' => e = .returned (.tuple #[((getO r [a, b, c]).getD En.z).v, .bool (getO r [a, b, c]).isSome]) ∧ Below w.heap.size w w' := by
  have HD := Lib.hid hd
  clear hd
  refine callsIn_wide.1 (callsIn_of_wp_marks (F := Fence.wide) (n := 0) Try.func15 rfl trivial ?_ rfl)
  simp only [Try.ntmps15, List.size_toArray, List.length_cons, List.length_nil, Nat.reduceAdd, Nat.reduceSub, Array.replicate_succ, Array.replicate_zero, List.push_toArray, List.append_toArray, List.nil_append, List.cons_append]
  gi_wp2_with fail
  refine ⟨trivial, rfl, (callsIn_wide.2 (all_any _ _)).mono ?_⟩
  rintro e W1 ⟨rfl, hW1⟩
  have R0 : GetRun (some ⟨t, 0, none⟩) w a b c [] W1 := by rw [hW1]; exact get_start _ w a b c
  have hs1 : W1.heap.size = w.heap.size + 4 := by rw [hW1]; simp
  have HR0 := Lib.hid R0
  clear hW1 R0
  gi_wp2_with fail
  simp only [World.size_alloc, Nat.add_assoc, Nat.reduceAdd]
  refine range_seq (gf := 56) (lb := #[.pointer (some ⟨w.heap.size + 3, 0, none⟩)]) rfl enters_all (all_seq (w.heap.size + 3) t d v r) (fun _ => rfl)
    (fun pre Z => GetRun (some ⟨t, 0, none⟩) w a b c pre Z)
    (fun cc pre Z => cc = .ret ∧ ∃ q x, pre = q ++ [x] ∧ (∀ y ∈ q, y.P ≠ [a, b, c]) ∧ x.P = [a, b, c] ∧ GetEnd w x true Z)
    (fun _ _ _ => False) ?hI ?hIx (mine_none _ _) (fun _ _ h => ⟨h.bx, HD.out.below h.fin.below⟩) HR0.out ?round ?done ?stop
  case hI => exact fun s X Y row h hg hr => h.grown hg fun r e => by have := (hr r e).1; omega
  case hIx => exact fun cc s X Y row ⟨h1, q, x, h2, h3, h5, h4⟩ hg hr => ⟨h1, q, x, h2, h3, h5, h4.grown hg fun r e => by have := (hr r e).1; omega⟩
  case round =>
    intro l' pre x Z hl' hrec hI hpre
    have HI := Lib.hid hI
    have HPR := Lib.hid hpre
    obtain ⟨rr, hrr⟩ := hrec
    have hlz := get_lt hrr
    have HRR := Lib.hid hrr
    clear hI hpre hrr
    simp only [encE]
    gi_wp2_with fail
    refine ⟨World.grownBy_alloc _ _ none, fun X2 hg hI2 hl2 => ?_⟩
    have c2 : blk X2 Z.heap.size = some (.cells x.c 39 (0, 0)) := (hg.block _ (by simp) (fun e => by injection e with e; omega)).trans (World.alloc_heap_new _ _)
    have HI2 := Lib.hid hI2
    have c4 : blk X2 w.heap.size = some (.cells #[.int .i64 a, .int .i64 b, .int .i64 c] 25 (0, 0)) := hI2.k
    have f5 := fun c => frozen_setRow_far hI2.fin.ok (show w.heap.size + 2 ≠ w.heap.size + 1 by omega) c
    have c5 := fun c => cell_setRow_far hI2.fin.ok (show w.heap.size + 2 ≠ w.heap.size + 1 by omega) c
    have b1 : blk X2 (w.heap.size + 1) = some (.cells En.z.c 39 (0, 0)) := hI2.fin.page
    clear hg hI2 hl2
    by_cases hke : x.P = [a, b, c]
    · have hq : eqL [x.L, x.X, x.Y] [a, b, c] = true := decide_eq_true hke
      have HKE := Lib.hid hke
      clear hke
      gi_wp2
      refine ⟨hold_low (by simp) fun k hk => ?_, rfl, pre, x, rfl, HI2.out.not, HKE.out, HI2.out.fin.set⟩
      rw [blk_set_far' _ _ _ _ (by simp; omega), blk_setRow_other _ _ _ _ (by omega)]
    · have hq : eqL [x.L, x.X, x.Y] [a, b, c] = false := decide_eq_false hke
      have HKE := Lib.hid hke
      clear hke
      gi_wp2
      exact ⟨Hold.refl _ _ _, HI2.out.step HKE.out, fun _ h _ => h.elim⟩
  case done =>
    intro D Z hD hI hdef
    have HI := Lib.hid hI
    have f5 := fun c => frozen_setRow_far hI.fin.ok (show w.heap.size + 2 ≠ w.heap.size + 1 by omega) c
    have c5 := fun c => cell_setRow_far hI.fin.ok (show w.heap.size + 2 ≠ w.heap.size + 1 by omega) c
    have b1 : blk Z (w.heap.size + 1) = some (.cells En.z.c 39 (0, 0)) := hI.fin.page
    clear hI
    gi_wp2
    have hm := get_missed HI.out.not
    refine leaves_marks (B := w.heap.size + 4) (fun Y => GetEnd w En.z false Y) (fun E Y hE hY he => hY.grown (grownBy_putObj' _ _ _) fun r e => by injection e with e; omega) (fun Y hY => ⟨_, get_results rfl hY _ rfl rfl, by rw [hm]; rfl, hY.below⟩) [D] (by simp) _ HI.out.fin.set fun E hp => ?_
    obtain rfl : E = D := by simpa using hp
    refine ⟨by omega, ?_⟩
    exact ((blk_set_far' _ _ _ _ (by simp; omega)).trans (blk_setRow_other _ _ _ _ (by omega))).trans hdef
  case stop =>
    intro D cc pre Z hD hpre hx hdef
    obtain ⟨rfl, q, x, rfl, hq, hx1, hx⟩ := hx
    have hm := get_found hpre hq hx1
    gi_wp2_with fail
    refine leaves_marks (B := w.heap.size + 4) (fun Y => GetEnd w x true Y) (fun E Y hE hY he => hY.grown (grownBy_putObj' _ _ _) fun r e => by injection e with e; omega) (fun Y hY => ⟨_, get_results rfl hY _ rfl rfl, by rw [hm]; rfl, hY.below⟩) [D] (by simp) _ hx fun E hp => ?_
    obtain rfl : E = D := by simpa using hp
    exact ⟨by omega, hdef⟩
end Go.Proofs.Ytpjbacpchmemeaa.DiK

namespace Go.Proofs.Ytpjbacpchmemeaa.DiL
open Go.RowKit Rd Go.Proofs.Ytpjbacpchmemeaa.Row Mid PgM PgA PgB PgC DiM DiA DiC DiD DiE DiF DiJ DiK
open Go.Proofs.Ytpjbacpchmemeaa.Num (ret_int ret_bool)
open Go.Proofs.Ytpjbacpchmemeaa.DiM (at_ at_get ce ce_len ce_app ce_one ce_ones ce_at)
set_option linter.unusedVariables false
set_option linter.unusedSimpArgs false
set_option maxRecDepth 10000
attribute [local go_sem ↓] load_pg store_pg load_en store_en alloc_en eq_pg3
attribute [local go_sem] one_int pc3 piece_p3 run_load_pg run_store_pg midLoad_eq rowLoad_eq rowStore_eq blk_alloc_at blk_alloc_old blk_drew blk_drewN blk_set_far blk_set_far' blk_grow setRow_alloc_at setRow_alloc_old setRow_drew setRow_drewN En.c_size En.c_all all6
theorem with1_any (p q : En) (be : Nat) (w : World) (h : blk w be = some (.cells q.c 39 (0, 0))) :
    Calls Try.prog 42 #[p.v, .pointer (some ⟨be, 0, none⟩)] w fun e w' => e = .returned (.bool (eqL p.P q.P)) ∧ Below w.heap.size w w' := by
  have hl := blk_lt h
  have E : Hid (eqL p.P q.P = eqL [p.L, p.X, p.Y] [q.L, q.X, q.Y]) := Lib.hid rfl
  go_enter Try.func42, Try.ntmps42
  go_wp2
  go_ret
  exact ⟨by rw [E.out]; rfl, by repeat' (first | (with_reducible exact Below.refl _ _) | (with_reducible refine Rd.below_step ?_ (by assumption)) | (with_reducible refine Rd.below_alloc ?_ _) | (with_reducible refine Rd.below_drewN ?_ _) | (with_reducible refine Below.drew ?_) | (with_reducible refine Below.setCell ?_ ?_ _) | (with_reducible refine Rd.below_setRow ?_ ?_ _) | go_size | (simp only [World.size_alloc]; omega) | omega)⟩
def hasP (l : List En) (P : List Int) : Bool := l.any fun p => decide (p.P = P)
theorem has_yes {l : List En} {P : List Int} {k : Nat} (hk : k < l.length) (h : (at_ l k).P = P) : hasP l P = true :=
  List.any_eq_true.2 ⟨l[k], List.getElem_mem hk, decide_eq_true (by rw [← at_get hk]; exact h)⟩
theorem has_no {l : List En} {P : List Int} (h : ∀ k, k < l.length → (at_ l k).P ≠ P) : hasP l P = false :=
  List.any_eq_false.2 fun p hp => by
    obtain ⟨k, hk, rfl⟩ := List.mem_iff_getElem.1 hp
    have := h k hk
    rw [at_get hk] at this
    simpa using this
set_option maxHeartbeats 2000000 in
theorem index_any (l : List En) (q : En) (ad : Option Addr) (c be : Nat) (w : World) (h : RdE w ad l) (hq : blk w be = some (.cells q.c 39 (0, 0))) (hm : l.length ≤ 1000000) :
    Calls Try.prog 57 #[.slice ad l.length c, .func (.func 42) #[] #[.pointer (some ⟨be, 0, none⟩)]] w fun e w' => (∃ r : Int, e = .returned (.int .i64 r) ∧ decide (0 ≤ r) = hasP l q.P) ∧ Below w.heap.size w w' := by
  have H := Lib.hid h
  have HQ := Lib.hid hq
  have hbe := blk_lt hq
  have HT := Lib.hid (fun (k : Nat) => has_yes (l := l) (P := q.P) (k := k))
  have HF := Lib.hid (has_no (l := l) (P := q.P))
  obtain ⟨t, et⟩ : ∃ t, hasP l q.P = t := ⟨_, rfl⟩
  rw [et] at HT HF ⊢
  obtain ⟨n, hn⟩ : ∃ n, l.length = n := ⟨_, rfl⟩
  have HN := Lib.hid hn
  rw [hn] at hm ⊢
  clear h hq et hn
  go_enter Try.func57, Try.ntmps57
  go_wp2_with fail
  go_loopw [8] (fun i W => ∃ k : Nat, k ≤ n ∧ i = .int .i64 (k : Int) ∧ Hid (∀ j, j < k → (at_ l j).P ≠ q.P) ∧ Below w.heap.size w W) (fun i _ => n - (intOf i).toNat)
  case atStart => exact ⟨0, Nat.zero_le _, rfl, fun j hj => absurd hj (Nat.not_lt_zero _), by repeat' (first | (with_reducible exact Below.refl _ _) | (with_reducible refine Rd.below_step ?_ (by assumption)) | (with_reducible refine Rd.below_alloc ?_ _) | (with_reducible refine Rd.below_drewN ?_ _) | (with_reducible refine Below.drew ?_) | (with_reducible refine Below.setCell ?_ ?_ _) | (with_reducible refine Rd.below_setRow ?_ ?_ _) | go_size | (simp only [World.size_alloc]; omega) | omega)⟩
  case round =>
    obtain ⟨k, hk, rfl, HK, hb⟩ := hrel
    rename World => W
    by_cases hlt : k < n
    · have hlt' : (k : Int) < (n : Int) := by omega
      obtain ⟨g, o, rfl⟩ := H.out.2 (fun e => by have := HN.out; rw [e] at this; simp at this; omega)
      have hld := ld_en (H.out.bel hb).1 (i := k) (by rw [HN.out]; exact hlt)
      have CW := Lib.hid (fun X (hX : Below w.heap.size w X) => with1_any (at_ l k) q be X ((blk_below hX _ hbe).trans HQ.out))
      obtain ⟨p, ep⟩ : ∃ p, at_ l k = p := ⟨_, rfl⟩
      rw [ep] at hld CW
      have EP := Lib.hid ep
      obtain ⟨o, eo⟩ : ∃ o, eqL p.P q.P = o := ⟨_, rfl⟩
      rw [eo] at CW
      have EO := Lib.hid eo
      clear ep eo
      cases o
      case true =>
        have E := Lib.hid (HT.out k (by rw [HN.out]; exact hlt) (by rw [EP.out]; exact of_decide_eq_true EO.out))
        go_wp2_with (go_at_call 42; refine (CW.out _ (by repeat' (first | (with_reducible exact Below.refl _ _) | (with_reducible refine Rd.below_step ?_ (by assumption)) | (with_reducible refine Rd.below_alloc ?_ _) | (with_reducible refine Rd.below_drewN ?_ _) | (with_reducible refine Below.drew ?_) | (with_reducible refine Below.setCell ?_ ?_ _) | (with_reducible refine Rd.below_setRow ?_ ?_ _) | go_size | (simp only [World.size_alloc]; omega) | omega))).mono ?_; rintro e w2 ⟨rfl, hb2⟩)
        go_ret
        exact ⟨⟨_, rfl, by rw [E.out]; simp⟩, by repeat' (first | (with_reducible exact Below.refl _ _) | (with_reducible refine Rd.below_step ?_ (by assumption)) | (with_reducible refine Rd.below_alloc ?_ _) | (with_reducible refine Rd.below_drewN ?_ _) | (with_reducible refine Below.drew ?_) | (with_reducible refine Below.setCell ?_ ?_ _) | (with_reducible refine Rd.below_setRow ?_ ?_ _) | go_size | (simp only [World.size_alloc]; omega) | omega)⟩
      case false =>
        go_wp2_with (go_at_call 42; refine (CW.out _ (by repeat' (first | (with_reducible exact Below.refl _ _) | (with_reducible refine Rd.below_step ?_ (by assumption)) | (with_reducible refine Rd.below_alloc ?_ _) | (with_reducible refine Rd.below_drewN ?_ _) | (with_reducible refine Below.drew ?_) | (with_reducible refine Below.setCell ?_ ?_ _) | (with_reducible refine Rd.below_setRow ?_ ?_ _) | go_size | (simp only [World.size_alloc]; omega) | omega))).mono ?_; rintro e w2 ⟨rfl, hb2⟩)
        have L2 : Below w.heap.size w w2 := by repeat' (first | (with_reducible exact Below.refl _ _) | (with_reducible refine Rd.below_step ?_ (by assumption)) | (with_reducible refine Rd.below_alloc ?_ _) | (with_reducible refine Rd.below_drewN ?_ _) | (with_reducible refine Below.drew ?_) | (with_reducible refine Below.setCell ?_ ?_ _) | (with_reducible refine Rd.below_setRow ?_ ?_ _) | go_size | (simp only [World.size_alloc]; omega) | omega)
        go_roundw
        case rel => exact ⟨k + 1, by omega, by go_num, fun j hj => by rcases Nat.lt_or_ge j k with h | h; exact HK.out j h; rw [show j = k by omega, EP.out]; exact of_decide_eq_false EO.out, L2⟩
        case measure => simp [intOf]; omega
    · obtain rfl : k = n := by omega
      have E := Lib.hid (HF.out (fun i hi => HK.out i (by have := HN.out; omega)))
      go_wp2
      go_ret
      exact ⟨⟨_, rfl, by rw [E.out]; simp⟩, by repeat' (first | (with_reducible exact Below.refl _ _) | (with_reducible refine Rd.below_step ?_ (by assumption)) | (with_reducible refine Rd.below_alloc ?_ _) | (with_reducible refine Rd.below_drewN ?_ _) | (with_reducible refine Below.drew ?_) | (with_reducible refine Below.setCell ?_ ?_ _) | (with_reducible refine Rd.below_setRow ?_ ?_ _) | go_size | (simp only [World.size_alloc]; omega) | omega)⟩
theorem contains_any (l : List En) (q : En) (ad : Option Addr) (c be : Nat) (w : World) (h : RdE w ad l) (hq : blk w be = some (.cells q.c 39 (0, 0))) (hm : l.length ≤ 1000000) :
    Calls Try.prog 41 #[.slice ad l.length c, .func (.func 42) #[] #[.pointer (some ⟨be, 0, none⟩)]] w fun e w' => e = .returned (.bool (hasP l q.P)) ∧ Below w.heap.size w w' := by
  have CI := Lib.hid (index_any l q ad c be w h hq hm)
  obtain ⟨t, et⟩ : ∃ t, hasP l q.P = t := ⟨_, rfl⟩
  rw [et] at CI ⊢
  clear h hq et
  go_enter Try.func41, Try.ntmps41
  go_wp2_with (go_at_call 57; refine CI.out.mono ?_; rintro e w2 ⟨⟨r, rfl, hr⟩, hb2⟩)
  go_ret
  exact ⟨by first | rfl | (rw [hr]; rfl) | simp [hr], hb2⟩
end Go.Proofs.Ytpjbacpchmemeaa.DiL

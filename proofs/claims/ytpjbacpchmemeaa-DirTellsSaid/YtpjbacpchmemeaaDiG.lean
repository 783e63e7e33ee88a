/-
  Entries in their boxes; how many sectors; may an entry be?
  page.Cmp and all that it calls, the draws counted.
-/
import Derived.Test.YtpjbacpchmemeaaDiM
import Derived.Test.YtpjbacpchmemeaaPgB
import Derived.Shelf.SlSortCmp.QuietGrown
namespace Go.Proofs.Ytpjbacpchmemeaa.DiA
open Go.RowKit Rd Go.Proofs.Ytpjbacpchmemeaa.Row Mid PgM PgA PgB DiM
open Go.Proofs.Ytpjbacpchmemeaa.Num (ret_int ret_bool)
set_option linter.unusedVariables false
set_option linter.unusedSimpArgs false
set_option maxRecDepth 10000
theorem load_en (x : Value) : Instr.loadAt 39 x = loadRow 39 x := rfl
theorem store_en (x v : Value) : Instr.storeAt 39 x v = storeRow 39 x v := rfl
theorem run_load_en (g o : Nat) (W : World) : (loadRow 39 (.pointer (some ⟨g, o, none⟩))).run Try.prog W = midLoad Try.prog 39 6 g o W := run_loadMid Try.underlying39 rfl (by kernel_rfl) g o W
theorem run_store_en (g o : Nat) (c : Array Value) (W : World) : (storeRow 39 (.pointer (some ⟨g, o, none⟩)) (.agg c)).run Try.prog W = rowStore Try.prog 39 6 g o c W := run_storeRow (by kernel_rfl) g o c W
theorem info_en : (Try.prog.info? 39).map (fun i => (i.zero, i.size, i.bytes)) = some (some En.z.v, 6, 48) := by kernel_rfl
theorem piece36 (a b c d e f : Value) : Mid.piece #[a, b, c, d, e, f] 0 3 = #[a, b, c] := rfl
theorem piece66 (a b c d e f : Value) : Mid.piece #[a, b, c, d, e, f] 0 6 = #[a, b, c, d, e, f] := rfl
/-- an entry out of a row, by value -/
theorem ld_en {X : World} {b off n : Nat} {ps : List En} (h : Reads X 6 (some ⟨b, off, none⟩) n (ce ps)) {i : Nat} (hi : i < ps.length) :
    (loadRow 39 (.pointer (some ⟨b, off + i * 6, none⟩))).run Try.prog X = .ok (at_ ps i).v X := by
  have hc : ∀ j, j < (ce ps).length → X.cell? ⟨b, off + j, none⟩ = (ce ps)[j]? := by
    rcases h.2 with h2 | ⟨b', off', e, _, hc⟩
    · have := h.1
      rw [ce_len] at this
      omega
    · cases e
      exact hc
  exact run_loadAt_mid (P := Try.prog) X b (off + i * 6) 39 (at_ ps i).l _ (fun j v hj => by
    have hj4 : j < 6 := (List.getElem?_eq_some_iff.1 hj).1
    have h1 := hc (i * 6 + j) (by rw [ce_len]; omega)
    rw [ce_at hi hj4, hj, ← Nat.add_assoc] at h1
    exact h1) Try.underlying39 rfl (by kernel_rfl)
/-- an entry's page, out of a row -/
theorem ld_pgen {X : World} {b off n : Nat} {ps : List En} (h : Reads X 6 (some ⟨b, off, none⟩) n (ce ps)) {i : Nat} (hi : i < ps.length) :
    (loadRow 25 (.pointer (some ⟨b, off + i * 6, none⟩))).run Try.prog X = .ok (pg (at_ ps i).L (at_ ps i).X (at_ ps i).Y) X := by
  have hc : ∀ j, j < (ce ps).length → X.cell? ⟨b, off + j, none⟩ = (ce ps)[j]? := by
    rcases h.2 with h2 | ⟨b', off', e, _, hc⟩
    · have := h.1
      rw [ce_len] at this
      omega
    · cases e
      exact hc
  exact run_loadAt_mid (P := Try.prog) X b (off + i * 6) 25 [.int .i64 (at_ ps i).L, .int .i64 (at_ ps i).X, .int .i64 (at_ ps i).Y] _ (fun j v hj => by
    have hj4 : j < 3 := (List.getElem?_eq_some_iff.1 hj).1
    have h1 := hc (i * 6 + j) (by rw [ce_len]; omega)
    rw [ce_at hi (by omega), ← Nat.add_assoc] at h1
    rw [h1]
    rcases (show j = 0 ∨ j = 1 ∨ j = 2 by omega) with rfl | rfl | rfl <;> exact hj) Try.underlying25 rfl (by kernel_rfl)
attribute [local go_sem ↓] load_pg store_pg load_en store_en
attribute [local go_sem] one_int pc3 piece36 piece66 run_load_pg run_store_pg run_load_en run_store_en midLoad_eq rowLoad_eq rowStore_eq blk_alloc_at blk_alloc_old blk_drew blk_drewN blk_set_far blk_set_far' blk_grow setRow_alloc_at setRow_alloc_old setRow_drew setRow_drewN

theorem sectors_any (n : Int) (hn : -9223372036854775808 ≤ n ∧ n ≤ 9223372036854775807) (w : World) :
    Calls Try.prog 13 #[.int .i64 n] w fun e w' => e = .returned (.int .i64 (secV n)) ∧ Below w.heap.size w w' := by
  by_cases h : n < 1
  · have E := Lib.hid (show secV n = 0 by unfold secV; rw [if_pos h])
    have d0 : decide (n < 1) = true := decide_eq_true h
    go_enter Try.func13, Try.ntmps13
    go_wp2
    go_ret
    exact ⟨by rw [E.out]; rfl, by repeat' (first | (with_reducible exact Below.refl _ _) | (with_reducible refine Rd.below_step ?_ (by assumption)) | (with_reducible refine Rd.below_alloc ?_ _) | (with_reducible refine Rd.below_drewN ?_ _) | (with_reducible refine Below.drew ?_) | (with_reducible refine Below.setCell ?_ ?_ _) | (with_reducible refine Rd.below_setRow ?_ ?_ _) | go_size | (simp only [World.size_alloc]; omega) | omega)⟩
  · have hq : (n - 1).tdiv 32 = (n - 1) / 32 := Int.tdiv_eq_ediv_of_nonneg (by omega)
    have E := Lib.hid (show secV n = (n - 1) / 32 + 1 by unfold secV; rw [if_neg h])
    have d0 : decide (n < 1) = false := decide_eq_false h
    go_enter Try.func13, Try.ntmps13
    go_wp2
    go_ret
    exact ⟨by rw [E.out]; first | rfl | (rw [hq]), by repeat' (first | (with_reducible exact Below.refl _ _) | (with_reducible refine Rd.below_step ?_ (by assumption)) | (with_reducible refine Rd.below_alloc ?_ _) | (with_reducible refine Rd.below_drewN ?_ _) | (with_reducible refine Below.drew ?_) | (with_reducible refine Below.setCell ?_ ?_ _) | (with_reducible refine Rd.below_setRow ?_ ?_ _) | go_size | (simp only [World.size_alloc]; omega) | omega)⟩

theorem rsectors_any (n : Int) (hn : -9223372036854775808 ≤ n ∧ n ≤ 9223372036854775807) (w : World) :
    Calls Try.prog 14 #[.int .i64 n] w fun e w' => e = .returned (.int .i64 (secV n)) ∧ Below w.heap.size w w' := by
  by_cases h : n < 1
  · have E := Lib.hid (show secV n = 0 by unfold secV; rw [if_pos h])
    have d0 : decide (n < 1) = true := decide_eq_true h
    go_enter Try.func14, Try.ntmps14
    go_wp2
    go_ret
    exact ⟨by rw [E.out]; rfl, by repeat' (first | (with_reducible exact Below.refl _ _) | (with_reducible refine Rd.below_step ?_ (by assumption)) | (with_reducible refine Rd.below_alloc ?_ _) | (with_reducible refine Rd.below_drewN ?_ _) | (with_reducible refine Below.drew ?_) | (with_reducible refine Below.setCell ?_ ?_ _) | (with_reducible refine Rd.below_setRow ?_ ?_ _) | go_size | (simp only [World.size_alloc]; omega) | omega)⟩
  · have hq : (n - 1).tdiv 32 = (n - 1) / 32 := Int.tdiv_eq_ediv_of_nonneg (by omega)
    have E := Lib.hid (show secV n = (n - 1) / 32 + 1 by unfold secV; rw [if_neg h])
    have d0 : decide (n < 1) = false := decide_eq_false h
    go_enter Try.func14, Try.ntmps14
    go_wp2
    go_ret
    exact ⟨by rw [E.out]; first | rfl | (rw [hq]), by repeat' (first | (with_reducible exact Below.refl _ _) | (with_reducible refine Rd.below_step ?_ (by assumption)) | (with_reducible refine Rd.below_alloc ?_ _) | (with_reducible refine Rd.below_drewN ?_ _) | (with_reducible refine Below.drew ?_) | (with_reducible refine Below.setCell ?_ ?_ _) | (with_reducible refine Rd.below_setRow ?_ ?_ _) | go_size | (simp only [World.size_alloc]; omega) | omega)⟩

set_option maxHeartbeats 2000000 in
theorem may_any (d : Int) (p : En) (w : World) :
    Calls Try.prog 26 #[.int .i64 d, p.v] w fun e w' => e = .returned (.bool (mayB d p)) ∧ Below w.heap.size w w' := by
  have CV0 := Lib.hid (fun W => valid_any d p.L p.X p.Y W)
  have NO := Lib.hid (fun (h : ¬ mayP d p) => (show mayB d p = false from decide_eq_false h))
  have YES := Lib.hid (fun (h : mayP d p) => (show mayB d p = true from decide_eq_true h))
  unfold mayP at NO YES
  have HN := Lib.hid (fun (h : 1 ≤ p.N) (h2 : p.N ≤ 4096) => secV_bd h h2)
  have HC := Lib.hid (fun (h : -9223372036854775808 ≤ p.N ∧ p.N ≤ 9223372036854775807) W => sectors_any p.N h W)
  obtain ⟨L, X, Y, S, N, M⟩ := p
  simp only [En.v, En.c] at CV0 NO YES HN HC ⊢
  obtain ⟨r, er⟩ : ∃ r, mayB d ⟨L, X, Y, S, N, M⟩ = r := ⟨_, rfl⟩
  rw [er] at NO YES ⊢
  clear er
  obtain ⟨qv, ev⟩ : ∃ q, validB d L X Y = q := ⟨_, rfl⟩
  rw [ev] at CV0 NO YES
  clear ev
  obtain ⟨s, es⟩ : ∃ s, secV N = s := ⟨_, rfl⟩
  rw [es] at HN HC NO YES
  clear es
  go_enter Try.func26, Try.ntmps26
  go_upto_region 1 with (fail)
  refine Rd.name_world ?_
  intro w1 hw
  have bP : blk w1 w.heap.size = some (.cells #[.int .i64 L, .int .i64 X, .int .i64 Y, .int .i64 S, .int .i64 N, .int .u32 M] 39 (0, 0)) := by rw [hw]; exact blk_alloc_at _ _ _ rfl
  have L1 : Below w.heap.size w w1 := by
    rw [hw]
    repeat' (first | (with_reducible exact Below.refl _ _) | (with_reducible refine Rd.below_step ?_ (by assumption)) | (with_reducible refine Rd.below_alloc ?_ _) | (with_reducible refine Rd.below_drewN ?_ _) | (with_reducible refine Below.drew ?_) | (with_reducible refine Below.setCell ?_ ?_ _) | (with_reducible refine Rd.below_setRow ?_ ?_ _) | go_size | (simp only [World.size_alloc]; omega) | omega)
  clear hw
  have g3 := Go.cell_regrown (w := w1) (a := ⟨w.heap.size, 3, none⟩) (v := .int .i64 S) (by rw [blk_cell bP]; rfl)
  have g4 := Go.cell_regrown (w := w1) (a := ⟨w.heap.size, 4, none⟩) (v := .int .i64 N) (by rw [blk_cell bP]; rfl)
  have hl := blk_lt bP
  cases qv
  case false =>
    have CV := CV0
    have E := Lib.hid (NO.out (fun h => by cases h.1))
    (refine wp_region_quiet_below (by kernel_rfl) (by kernel_rfl) ?_; (repeat (go_big_quiet_step ((first | (with_reducible exact Calls.regrown_of (CV.out _)))))); refine wpQuiet_nil ?_)
    intro w2 hU
    have KU := Rd.below_of_regrown hU
    have L2 : Below w.heap.size w w2 := by repeat' (first | (with_reducible exact Below.refl _ _) | (with_reducible refine Rd.below_step ?_ (by assumption)) | (with_reducible refine Rd.below_alloc ?_ _) | (with_reducible refine Rd.below_drewN ?_ _) | (with_reducible refine Below.drew ?_) | (with_reducible refine Below.setCell ?_ ?_ _) | (with_reducible refine Rd.below_setRow ?_ ?_ _) | go_size | (simp only [World.size_alloc]; omega) | omega)
    go_wp2
    go_ret
    exact ⟨by first | exact ret_bool E.out.symm | rfl, L2⟩
  case true =>
    have CV := CV0
    by_cases h2 : 2 ≤ S
    case neg =>
      have E := Lib.hid (NO.out (fun h => h2 h.2.1.1))
      have d0 : decide (2 ≤ S) = false := decide_eq_false h2
      (refine wp_region_quiet_below (by kernel_rfl) (by kernel_rfl) ?_; (repeat (go_big_quiet_step ((first | (with_reducible exact Calls.regrown_of (CV.out _)))))); refine wpQuiet_nil ?_)
      intro w2 hU
      have KU := Rd.below_of_regrown hU
      have L2 : Below w.heap.size w w2 := by repeat' (first | (with_reducible exact Below.refl _ _) | (with_reducible refine Rd.below_step ?_ (by assumption)) | (with_reducible refine Rd.below_alloc ?_ _) | (with_reducible refine Rd.below_drewN ?_ _) | (with_reducible refine Below.drew ?_) | (with_reducible refine Below.setCell ?_ ?_ _) | (with_reducible refine Rd.below_setRow ?_ ?_ _) | go_size | (simp only [World.size_alloc]; omega) | omega)
      go_wp2
      go_ret
      exact ⟨by first | exact ret_bool E.out.symm | rfl, L2⟩
    have d0 : decide (2 ≤ S) = true := decide_eq_true h2
    by_cases h3 : S < 2048
    case neg =>
      have E := Lib.hid (NO.out (fun h => h3 h.2.1.2))
      have d1 : decide (S < 2048) = false := decide_eq_false h3
      (refine wp_region_quiet_below (by kernel_rfl) (by kernel_rfl) ?_; (repeat (go_big_quiet_step ((first | (with_reducible exact Calls.regrown_of (CV.out _)))))); refine wpQuiet_nil ?_)
      intro w2 hU
      have KU := Rd.below_of_regrown hU
      have L2 : Below w.heap.size w w2 := by repeat' (first | (with_reducible exact Below.refl _ _) | (with_reducible refine Rd.below_step ?_ (by assumption)) | (with_reducible refine Rd.below_alloc ?_ _) | (with_reducible refine Rd.below_drewN ?_ _) | (with_reducible refine Below.drew ?_) | (with_reducible refine Below.setCell ?_ ?_ _) | (with_reducible refine Rd.below_setRow ?_ ?_ _) | go_size | (simp only [World.size_alloc]; omega) | omega)
      go_wp2
      go_ret
      exact ⟨by first | exact ret_bool E.out.symm | rfl, L2⟩
    have d1 : decide (S < 2048) = true := decide_eq_true h3
    by_cases h4 : 1 ≤ N
    case neg =>
      have E := Lib.hid (NO.out (fun h => h4 h.2.2.1.1))
      have d2 : decide (1 ≤ N) = false := decide_eq_false h4
      (refine wp_region_quiet_below (by kernel_rfl) (by kernel_rfl) ?_; (repeat (go_big_quiet_step ((first | (with_reducible exact Calls.regrown_of (CV.out _)))))); refine wpQuiet_nil ?_)
      intro w2 hU
      have KU := Rd.below_of_regrown hU
      have L2 : Below w.heap.size w w2 := by repeat' (first | (with_reducible exact Below.refl _ _) | (with_reducible refine Rd.below_step ?_ (by assumption)) | (with_reducible refine Rd.below_alloc ?_ _) | (with_reducible refine Rd.below_drewN ?_ _) | (with_reducible refine Below.drew ?_) | (with_reducible refine Below.setCell ?_ ?_ _) | (with_reducible refine Rd.below_setRow ?_ ?_ _) | go_size | (simp only [World.size_alloc]; omega) | omega)
      go_wp2
      go_ret
      exact ⟨by first | exact ret_bool E.out.symm | rfl, L2⟩
    have d2 : decide (1 ≤ N) = true := decide_eq_true h4
    by_cases h5 : N ≤ 4096
    case neg =>
      have E := Lib.hid (NO.out (fun h => h5 h.2.2.1.2))
      have d3 : decide (N ≤ 4096) = false := decide_eq_false h5
      (refine wp_region_quiet_below (by kernel_rfl) (by kernel_rfl) ?_; (repeat (go_big_quiet_step ((first | (with_reducible exact Calls.regrown_of (CV.out _)))))); refine wpQuiet_nil ?_)
      intro w2 hU
      have KU := Rd.below_of_regrown hU
      have L2 : Below w.heap.size w w2 := by repeat' (first | (with_reducible exact Below.refl _ _) | (with_reducible refine Rd.below_step ?_ (by assumption)) | (with_reducible refine Rd.below_alloc ?_ _) | (with_reducible refine Rd.below_drewN ?_ _) | (with_reducible refine Below.drew ?_) | (with_reducible refine Below.setCell ?_ ?_ _) | (with_reducible refine Rd.below_setRow ?_ ?_ _) | go_size | (simp only [World.size_alloc]; omega) | omega)
      go_wp2
      go_ret
      exact ⟨by first | exact ret_bool E.out.symm | rfl, L2⟩
    have d3 : decide (N ≤ 4096) = true := decide_eq_true h5
    have hs := HN.out h4 h5
    have CS := Lib.hid (fun W => HC.out (by omega) W)
    by_cases h6 : S + s ≤ 2048
    case neg =>
      have E := Lib.hid (NO.out (fun h => h6 h.2.2.2))
      have d4 : decide (S + s ≤ 2048) = false := decide_eq_false h6
      (refine wp_region_quiet_below (by kernel_rfl) (by kernel_rfl) ?_; (repeat (go_big_quiet_step ((first | (with_reducible exact Calls.regrown_of (CV.out _)) | (with_reducible exact Calls.regrown_of (CS.out _)))))); refine wpQuiet_nil ?_)
      intro w2 hU
      have KU := Rd.below_of_regrown hU
      have L2 : Below w.heap.size w w2 := by repeat' (first | (with_reducible exact Below.refl _ _) | (with_reducible refine Rd.below_step ?_ (by assumption)) | (with_reducible refine Rd.below_alloc ?_ _) | (with_reducible refine Rd.below_drewN ?_ _) | (with_reducible refine Below.drew ?_) | (with_reducible refine Below.setCell ?_ ?_ _) | (with_reducible refine Rd.below_setRow ?_ ?_ _) | go_size | (simp only [World.size_alloc]; omega) | omega)
      go_wp2
      go_ret
      exact ⟨by first | exact ret_bool E.out.symm | rfl, L2⟩
    have d4 : decide (S + s ≤ 2048) = true := decide_eq_true h6
    have E := Lib.hid (YES.out ⟨rfl, ⟨h2, h3⟩, ⟨h4, h5⟩, h6⟩)
    (refine wp_region_quiet_below (by kernel_rfl) (by kernel_rfl) ?_; (repeat (go_big_quiet_step ((first | (with_reducible exact Calls.regrown_of (CV.out _)) | (with_reducible exact Calls.regrown_of (CS.out _)))))); refine wpQuiet_nil ?_)
    intro w2 hU
    have KU := Rd.below_of_regrown hU
    have L2 : Below w.heap.size w w2 := by repeat' (first | (with_reducible exact Below.refl _ _) | (with_reducible refine Rd.below_step ?_ (by assumption)) | (with_reducible refine Rd.below_alloc ?_ _) | (with_reducible refine Rd.below_drewN ?_ _) | (with_reducible refine Below.drew ?_) | (with_reducible refine Below.setCell ?_ ?_ _) | (with_reducible refine Rd.below_setRow ?_ ?_ _) | go_size | (simp only [World.size_alloc]; omega) | omega)
    go_wp2
    go_ret
    exact ⟨by first | exact ret_bool E.out.symm | rfl, L2⟩
end Go.Proofs.Ytpjbacpchmemeaa.DiA

namespace Go.Proofs.Ytpjbacpchmemeaa.DiG
open Go.RowKit Rd Go.Proofs.Ytpjbacpchmemeaa.Row Mid PgM PgA PgB
open Go.Proofs.Ytpjbacpchmemeaa.Num (ret_int ret_bool)
set_option linter.unusedVariables false
set_option linter.unusedSimpArgs false
set_option maxRecDepth 10000
/-- some draws, some blocks laid behind -/
def G (w w' : World) : Prop := ∃ p : GrownBy, w' = Sort.grow (w.drewN p.n) p.os
theorem G.of {w w' : World} (h : ∃ p : GrownBy, w' = Sort.grow (w.drewN p.n) p.os) : G w w' := h
theorem G.refl (w : World) : G w w := ⟨⟨0, #[]⟩, by rw [Sort.grow_empty]; rfl⟩
theorem G.trans {a b c : World} (h : G a b) (h2 : G b c) : G a c := by
  obtain ⟨⟨n, os⟩, rfl⟩ := h
  obtain ⟨⟨m, os2⟩, rfl⟩ := h2
  refine ⟨⟨n + m, os ++ os2⟩, ?_⟩
  show Sort.grow (Sort.grow ((a.drewN n).drewN m) os) os2 = _
  rw [Sort.grow_grow, World.drewN_drewN]
theorem G.alloc {a b : World} (h : G a b) (o : Obj) : G a (b.alloc o) := h.trans ⟨⟨0, #[o]⟩, by rw [Sort.alloc_eq_grow]; rfl⟩
theorem G.drewN {a b : World} (h : G a b) (n : Nat) : G a (b.drewN n) := h.trans ⟨⟨n, #[]⟩, by rw [Sort.grow_empty]⟩
theorem G.drew {a b : World} (h : G a b) : G a b.drew := h.drewN 1
theorem G.below {a b : World} (h : G a b) : Below a.heap.size a b := by
  obtain ⟨⟨n, os⟩, rfl⟩ := h
  exact below_regrown a (a.drawn + n) os
theorem grown_g {P : Program} {f : FuncId} {args : Array Value} {w : World} {n : Nat} {os : Array Obj} {v : Value}
    (h : Calls P f args (Sort.grow (w.drewN n) os) fun e w' => e = .returned v ∧ G (Sort.grow (w.drewN n) os) w') : Calls P f args (Sort.grow (w.drewN n) os) fun e w'' => e = .returned v ∧ ∃ p : GrownBy, w'' = Sort.grow (w.drewN p.n) p.os :=
  h.mono fun _ _ ⟨he, hg⟩ => ⟨he, G.trans ⟨⟨n, os⟩, rfl⟩ hg⟩
attribute [local go_sem ↓] load_pg store_pg
attribute [local go_sem] one_int pc3 run_load_pg run_store_pg midLoad_eq rowLoad_eq rowStore_eq blk_alloc_at blk_alloc_old blk_drew blk_drewN blk_set_far blk_set_far' blk_grow setRow_alloc_at setRow_alloc_old setRow_drew setRow_drewN
theorem blk_grownN (w : World) (n : Nat) (os : Array Obj) (k : Nat) (h : k < w.heap.size) : blk (Sort.grow (w.drewN n) os) k = blk w k := (G.below ⟨⟨n, os⟩, rfl⟩).block k h
attribute [local go_sem] blk_grownN
theorem isDepth_g (d : Int) (w : World) :
    Calls Try.prog 46 #[.int .i64 d] w fun e w' => e = .returned (.bool (depthB d)) ∧ G w w' := by
  by_cases a : 0 ≤ d
  · by_cases b : d ≤ 3
    · have E := Lib.hid (depth_mk a b)
      have a1 : decide (0 ≤ d) = true := by simpa using a
      have b1 : decide (d ≤ 3) = true := by simpa using b
      go_enter Try.func46, Try.ntmps46
      go_wp2
      go_ret
      exact ⟨by first | exact ret_bool E.out.symm | rfl, by repeat' (first | (with_reducible exact G.refl _) | (with_reducible refine G.trans ?_ (by assumption)) | (with_reducible refine G.alloc ?_ _) | (with_reducible refine G.drew ?_) | (with_reducible refine G.drewN ?_ _))⟩
    · have E := Lib.hid (depth_no (d := d) (by omega))
      have a1 : decide (0 ≤ d) = true := by simpa using a
      have b1 : decide (d ≤ 3) = false := by simpa using b
      go_enter Try.func46, Try.ntmps46
      go_wp2
      go_ret
      exact ⟨by first | exact ret_bool E.out.symm | rfl, by repeat' (first | (with_reducible exact G.refl _) | (with_reducible refine G.trans ?_ (by assumption)) | (with_reducible refine G.alloc ?_ _) | (with_reducible refine G.drew ?_) | (with_reducible refine G.drewN ?_ _))⟩
  · have E := Lib.hid (depth_no (d := d) (by omega))
    have a1 : decide (0 ≤ d) = false := by simpa using a
    go_enter Try.func46, Try.ntmps46
    go_wp2
    go_ret
    exact ⟨by first | exact ret_bool E.out.symm | rfl, by repeat' (first | (with_reducible exact G.refl _) | (with_reducible refine G.trans ?_ (by assumption)) | (with_reducible refine G.alloc ?_ _) | (with_reducible refine G.drew ?_) | (with_reducible refine G.drewN ?_ _))⟩
theorem side_g (d l : Int) (h0 : 0 ≤ l) (h1 : l ≤ d) (h2 : d ≤ 3) (w : World) :
    Calls Try.prog 48 #[.int .i64 d, .int .i64 l] w fun e w' => e = .returned (.int .i64 (sd d l)) ∧ G w w' := by
  rcases ten h0 h1 h2 with ⟨rfl, rfl⟩ | ⟨rfl, rfl⟩ | ⟨rfl, rfl⟩ | ⟨rfl, rfl⟩ | ⟨rfl, rfl⟩ | ⟨rfl, rfl⟩ | ⟨rfl, rfl⟩ | ⟨rfl, rfl⟩ | ⟨rfl, rfl⟩ | ⟨rfl, rfl⟩
  all_goals
    go_enter Try.func48, Try.ntmps48
    go_wp2
    go_ret
    exact ⟨rfl, by repeat' (first | (with_reducible exact G.refl _) | (with_reducible refine G.trans ?_ (by assumption)) | (with_reducible refine G.alloc ?_ _) | (with_reducible refine G.drew ?_) | (with_reducible refine G.drewN ?_ _))⟩
theorem ahead_g (d l : Int) (h0 : 0 ≤ l) (h1 : l ≤ d) (h2 : d ≤ 3) (w : World) :
    Calls Try.prog 47 #[.int .i64 d, .int .i64 l] w fun e w' => e = .returned (.int .i64 (frontV d l)) ∧ G w w' := by
  have b := sd_bd h0 h1 h2
  have CS := Lib.hid (fun X => side_g d l h0 h1 h2 X)
  have EA := Lib.hid (show frontV d l = (sd d l * sd d l - 1).tdiv 3 from rfl)
  obtain ⟨s, es⟩ : ∃ s, sd d l = s := ⟨_, rfl⟩
  rw [es] at b CS EA
  clear es
  have p := Mid.prod_bd (a := s) (b := s) (A := 8) (B := 8) (by omega) (by omega) (by omega) (by omega)
  go_enter Try.func47, Try.ntmps47
  go_wp2_with (go_at_call 48; refine (CS.out _).mono ?_; rintro e w' ⟨rfl, hb⟩)
  go_ret
  exact ⟨by rw [EA.out]; rfl, by repeat' (first | (with_reducible exact G.refl _) | (with_reducible refine G.trans ?_ (by assumption)) | (with_reducible refine G.alloc ?_ _) | (with_reducible refine G.drew ?_) | (with_reducible refine G.drewN ?_ _))⟩
set_option maxHeartbeats 1000000 in
theorem valid_g (d L X Y : Int) (w : World) :
    Calls Try.prog 49 #[.int .i64 d, pg L X Y] w fun e w' => e = .returned (.bool (validB d L X Y)) ∧ G w w' := by
  go_enter Try.func49, Try.ntmps49
  go_wp2_with fail
  refine (isDepth_g d _).mono ?_
  rintro e w1 ⟨rfl, hb1⟩
  have s1 := hb1.below.size
  simp only [World.size_alloc] at s1
  have bP : blk w1 w.heap.size = some (.cells #[.int .i64 L, .int .i64 X, .int .i64 Y] 25 (0, 0)) := (blk_below hb1.below _ (by simp)).trans (blk_alloc_at _ _ _ rfl)
  have L1 : G w w1 := by repeat' (first | (with_reducible exact G.refl _) | (with_reducible refine G.trans ?_ (by assumption)) | (with_reducible refine G.alloc ?_ _) | (with_reducible refine G.drew ?_) | (with_reducible refine G.drewN ?_ _))
  have c0 : w1.cell? ⟨w.heap.size, 0, none⟩ = some (.int .i64 L) := by rw [blk_cell bP]; rfl
  clear hb1
  obtain ⟨qd, ed⟩ : ∃ q, depthB d = q := ⟨_, rfl⟩
  rw [ed]
  have ED := Lib.hid ed
  clear ed
  cases qd
  case false =>
    have E := Lib.hid (valid_no (d := d) (L := L) (X := X) (Y := Y) (fun h => by have := of_decide_eq_false ED.out; exact this h.1))
    go_wp2
    go_ret
    exact ⟨by first | exact ret_bool E.out.symm | rfl, by repeat' (first | (with_reducible exact G.refl _) | (with_reducible refine G.trans ?_ (by assumption)) | (with_reducible refine G.alloc ?_ _) | (with_reducible refine G.drew ?_) | (with_reducible refine G.drewN ?_ _))⟩
  have hd := depth_yes ED.out
  by_cases h0 : 0 ≤ L
  case neg =>
    have E := Lib.hid (valid_no (d := d) (L := L) (X := X) (Y := Y) (fun h => by omega))
    have d0 : decide (L < 0) = true := decide_eq_true (by omega)
    go_wp2
    go_ret
    exact ⟨by first | exact ret_bool E.out.symm | rfl, by repeat' (first | (with_reducible exact G.refl _) | (with_reducible refine G.trans ?_ (by assumption)) | (with_reducible refine G.alloc ?_ _) | (with_reducible refine G.drew ?_) | (with_reducible refine G.drewN ?_ _))⟩
  have d0 : decide (L < 0) = false := decide_eq_false (by omega)
  by_cases h1 : L ≤ d
  case neg =>
    have E := Lib.hid (valid_no (d := d) (L := L) (X := X) (Y := Y) (fun h => by omega))
    have d1 : decide (d < L) = true := decide_eq_true (by omega)
    go_wp2
    go_ret
    exact ⟨by first | exact ret_bool E.out.symm | rfl, by repeat' (first | (with_reducible exact G.refl _) | (with_reducible refine G.trans ?_ (by assumption)) | (with_reducible refine G.alloc ?_ _) | (with_reducible refine G.drew ?_) | (with_reducible refine G.drewN ?_ _))⟩
  have d1 : decide (d < L) = false := decide_eq_false (by omega)
  go_wp2_with fail
  refine (side_g d L h0 h1 hd.2 _).mono ?_
  rintro e w2 ⟨rfl, hb2⟩
  have bP2 := (blk_below hb2.below _ (blk_lt bP)).trans bP
  have L2 : G w w2 := by repeat' (first | (with_reducible exact G.refl _) | (with_reducible refine G.trans ?_ (by assumption)) | (with_reducible refine G.alloc ?_ _) | (with_reducible refine G.drew ?_) | (with_reducible refine G.drewN ?_ _))
  have c1 : w2.cell? ⟨w.heap.size, 1, none⟩ = some (.int .i64 X) := by rw [blk_cell bP2]; rfl
  have c2 : w2.cell? ⟨w.heap.size, 2, none⟩ = some (.int .i64 Y) := by rw [blk_cell bP2]; rfl
  have VY := Lib.hid (fun (h : (0 ≤ X ∧ X < sd d L) ∧ (0 ≤ Y ∧ Y < sd d L)) => valid_mk (d := d) (L := L) (X := X) (Y := Y) ⟨hd, ⟨h0, h1⟩, h⟩)
  have VN := Lib.hid (fun (h : ¬ ((0 ≤ X ∧ X < sd d L) ∧ (0 ≤ Y ∧ Y < sd d L))) => valid_no (d := d) (L := L) (X := X) (Y := Y) (fun a => h a.2.2))
  obtain ⟨s, es⟩ : ∃ s, sd d L = s := ⟨_, rfl⟩
  rw [es] at VY VN ⊢
  clear es hb2 bP c0 d0 d1
  by_cases x0 : 0 ≤ X
  case neg =>
    have E := Lib.hid (VN.out (by omega))
    have e0 : decide (0 ≤ X) = false := decide_eq_false x0
    go_wp2
    go_ret
    exact ⟨by first | exact ret_bool E.out.symm | rfl, by repeat' (first | (with_reducible exact G.refl _) | (with_reducible refine G.trans ?_ (by assumption)) | (with_reducible refine G.alloc ?_ _) | (with_reducible refine G.drew ?_) | (with_reducible refine G.drewN ?_ _))⟩
  have e0 : decide (0 ≤ X) = true := decide_eq_true x0
  by_cases x1 : X < s
  case neg =>
    have E := Lib.hid (VN.out (by omega))
    have e1 : decide (X < s) = false := decide_eq_false x1
    go_wp2
    go_ret
    exact ⟨by first | exact ret_bool E.out.symm | rfl, by repeat' (first | (with_reducible exact G.refl _) | (with_reducible refine G.trans ?_ (by assumption)) | (with_reducible refine G.alloc ?_ _) | (with_reducible refine G.drew ?_) | (with_reducible refine G.drewN ?_ _))⟩
  have e1 : decide (X < s) = true := decide_eq_true x1
  by_cases y0 : 0 ≤ Y
  case neg =>
    have E := Lib.hid (VN.out (by omega))
    have e2 : decide (0 ≤ Y) = false := decide_eq_false y0
    go_wp2
    go_ret
    exact ⟨by first | exact ret_bool E.out.symm | rfl, by repeat' (first | (with_reducible exact G.refl _) | (with_reducible refine G.trans ?_ (by assumption)) | (with_reducible refine G.alloc ?_ _) | (with_reducible refine G.drew ?_) | (with_reducible refine G.drewN ?_ _))⟩
  have e2 : decide (0 ≤ Y) = true := decide_eq_true y0
  by_cases y1 : Y < s
  case neg =>
    have E := Lib.hid (VN.out (by omega))
    have e3 : decide (Y < s) = false := decide_eq_false y1
    go_wp2
    go_ret
    exact ⟨by first | exact ret_bool E.out.symm | rfl, by repeat' (first | (with_reducible exact G.refl _) | (with_reducible refine G.trans ?_ (by assumption)) | (with_reducible refine G.alloc ?_ _) | (with_reducible refine G.drew ?_) | (with_reducible refine G.drewN ?_ _))⟩
  have e3 : decide (Y < s) = true := decide_eq_true y1
  have E := Lib.hid (VY.out ⟨⟨x0, x1⟩, y0, y1⟩)
  go_wp2
  go_ret
  exact ⟨by first | exact ret_bool E.out.symm | rfl, by repeat' (first | (with_reducible exact G.refl _) | (with_reducible refine G.trans ?_ (by assumption)) | (with_reducible refine G.alloc ?_ _) | (with_reducible refine G.drew ?_) | (with_reducible refine G.drewN ?_ _))⟩

set_option maxHeartbeats 1000000 in
theorem key_g (d L X Y : Int) (w : World) :
    Calls Try.prog 44 #[.int .i64 d, pg L X Y] w fun e w' => e = .returned (.int .i64 (keyV d L X Y)) ∧ G w w' := by
  go_enter Try.func44, Try.ntmps44
  go_wp2_with fail
  refine (valid_g d L X Y _).mono ?_
  rintro e w1 ⟨rfl, hb1⟩
  have s1 := hb1.below.size
  simp only [World.size_alloc] at s1
  have bP : blk w1 w.heap.size = some (.cells #[.int .i64 L, .int .i64 X, .int .i64 Y] 25 (0, 0)) := (blk_below hb1.below _ (by simp)).trans (blk_alloc_at _ _ _ rfl)
  have L1 : G w w1 := by repeat' (first | (with_reducible exact G.refl _) | (with_reducible refine G.trans ?_ (by assumption)) | (with_reducible refine G.alloc ?_ _) | (with_reducible refine G.drew ?_) | (with_reducible refine G.drewN ?_ _))
  clear hb1
  obtain ⟨qd, ed⟩ : ∃ q, validB d L X Y = q := ⟨_, rfl⟩
  rw [ed]
  have ED := Lib.hid ed
  clear ed
  cases qd
  case false =>
    have E := Lib.hid (keyV_no ED.out)
    go_wp2
    go_ret
    exact ⟨by rw [E.out]; rfl, by repeat' (first | (with_reducible exact G.refl _) | (with_reducible refine G.trans ?_ (by assumption)) | (with_reducible refine G.alloc ?_ _) | (with_reducible refine G.drew ?_) | (with_reducible refine G.drewN ?_ _))⟩
  have E := Lib.hid (keyV_yes ED.out)
  have v := valid_yes ED.out
  have CA := Lib.hid (fun X => ahead_g d L v.2.1.1 v.2.1.2 v.1.2 X)
  have CS := Lib.hid (fun X => side_g d L v.2.1.1 v.2.1.2 v.1.2 X)
  have b1 := sd_bd v.2.1.1 v.2.1.2 v.1.2
  have b2 := front_bd v.2.1.1 v.2.1.2 v.1.2
  obtain ⟨s, es⟩ : ∃ s, sd d L = s := ⟨_, rfl⟩
  obtain ⟨a, ea⟩ : ∃ a, frontV d L = a := ⟨_, rfl⟩
  rw [es] at E v CS b1
  rw [ea] at E CA b2
  have hx := v.2.2.1
  have hy := v.2.2.2
  clear es ea v
  have p := Mid.prod_bd (a := s) (b := Y) (A := 8) (B := 8) (by omega) (by omega) (by omega) (by omega)
  have g0 := Go.cell_grown (w := w1) (a := ⟨w.heap.size, 0, none⟩) (v := .int .i64 L) (blk_lt bP) (by rw [blk_cell bP]; rfl)
  have g1 := Go.cell_grown (w := w1) (a := ⟨w.heap.size, 1, none⟩) (v := .int .i64 X) (blk_lt bP) (by rw [blk_cell bP]; rfl)
  have g2 := Go.cell_grown (w := w1) (a := ⟨w.heap.size, 2, none⟩) (v := .int .i64 Y) (blk_lt bP) (by rw [blk_cell bP]; rfl)
  go_upto_region 3 with (fail)
  (refine wp_region_quiet_grown (by kernel_rfl) (by kernel_rfl) ?_; (repeat (go_big_quiet_step ((first | (with_reducible exact grown_g (CA.out _)) | (with_reducible exact grown_g (CS.out _)))))); refine wpQuiet_nil ?_)
  intro w2 hU
  have KU := G.of hU
  have L2 : G w w2 := by repeat' (first | (with_reducible exact G.refl _) | (with_reducible refine G.trans ?_ (by assumption)) | (with_reducible refine G.alloc ?_ _) | (with_reducible refine G.drew ?_) | (with_reducible refine G.drewN ?_ _))
  clear hU KU g0 g1 g2 CA CS
  go_wp2
  go_ret
  exact ⟨by rw [E.out]; rfl, by repeat' (first | (with_reducible exact G.refl _) | (with_reducible refine G.trans ?_ (by assumption)) | (with_reducible refine G.alloc ?_ _) | (with_reducible refine G.drew ?_) | (with_reducible refine G.drewN ?_ _))⟩
theorem compare_g (a b : Int) (w : World) :
    Calls Try.prog 52 #[.int .i64 a, .int .i64 b] w fun e w' => e = .returned (.int .i64 (cmpV a b)) ∧ G w w' := by
  by_cases h1 : a < b
  · have E := Lib.hid (show cmpV a b = -1 by unfold cmpV; rw [if_pos h1])
    go_enter Try.func52, Try.ntmps52
    go_wp2_with (go_at_call 68; refine (Try.cmp_isNaN_int2 _ _).mono ?_; rintro e w' ⟨rfl, rfl⟩)
    go_ret
    exact ⟨by rw [E.out]; rfl, by repeat' (first | (with_reducible exact G.refl _) | (with_reducible refine G.trans ?_ (by assumption)) | (with_reducible refine G.alloc ?_ _) | (with_reducible refine G.drew ?_) | (with_reducible refine G.drewN ?_ _))⟩
  · by_cases h2 : b < a
    · have E := Lib.hid (show cmpV a b = 1 by unfold cmpV; rw [if_neg h1, if_pos h2])
      go_enter Try.func52, Try.ntmps52
      go_wp2_with (go_at_call 68; refine (Try.cmp_isNaN_int2 _ _).mono ?_; rintro e w' ⟨rfl, rfl⟩)
      go_ret
      exact ⟨by rw [E.out]; rfl, by repeat' (first | (with_reducible exact G.refl _) | (with_reducible refine G.trans ?_ (by assumption)) | (with_reducible refine G.alloc ?_ _) | (with_reducible refine G.drew ?_) | (with_reducible refine G.drewN ?_ _))⟩
    · have E := Lib.hid (show cmpV a b = 0 by unfold cmpV; rw [if_neg h1, if_neg h2])
      go_enter Try.func52, Try.ntmps52
      go_wp2_with (go_at_call 68; refine (Try.cmp_isNaN_int2 _ _).mono ?_; rintro e w' ⟨rfl, rfl⟩)
      go_ret
      exact ⟨by rw [E.out]; rfl, by repeat' (first | (with_reducible exact G.refl _) | (with_reducible refine G.trans ?_ (by assumption)) | (with_reducible refine G.alloc ?_ _) | (with_reducible refine G.drew ?_) | (with_reducible refine G.drewN ?_ _))⟩
theorem cmp_g (d L X Y L' X' Y' : Int) (w : World) :
    Calls Try.prog 30 #[.int .i64 d, pg L X Y, pg L' X' Y'] w fun e w' => e = .returned (.int .i64 (cmpV (keyV d L X Y) (keyV d L' X' Y'))) ∧ G w w' := by
  have CA := Lib.hid (fun W => key_g d L X Y W)
  have CB := Lib.hid (fun W => key_g d L' X' Y' W)
  have CC := Lib.hid (fun W => compare_g (keyV d L X Y) (keyV d L' X' Y') W)
  obtain ⟨x, ex⟩ : ∃ x, keyV d L X Y = x := ⟨_, rfl⟩
  obtain ⟨y, ey⟩ : ∃ x, keyV d L' X' Y' = x := ⟨_, rfl⟩
  rw [ex] at CA CC ⊢
  rw [ey] at CB CC ⊢
  clear ex ey
  go_enter Try.func30, Try.ntmps30
  go_upto_region 1 with (fail)
  refine Rd.name_world ?_
  intro w1 hw
  have b1 : blk w1 w.heap.size = some (.cells #[.int .i64 L, .int .i64 X, .int .i64 Y] 25 (0, 0)) := by rw [hw]; exact blk2_0 _ _ _
  have b2 : blk w1 (w.heap.size + 1) = some (.cells #[.int .i64 L', .int .i64 X', .int .i64 Y'] 25 (0, 0)) := by rw [hw]; exact blk2_1 _ _ _
  have L1 : G w w1 := by
    rw [hw]
    repeat' (first | (with_reducible exact G.refl _) | (with_reducible refine G.trans ?_ (by assumption)) | (with_reducible refine G.alloc ?_ _) | (with_reducible refine G.drew ?_) | (with_reducible refine G.drewN ?_ _))
  clear hw
  have l1 := blk_lt b1
  have l2 := blk_lt b2
  (refine wp_region_quiet_grown (by kernel_rfl) (by kernel_rfl) ?_; (repeat (go_big_quiet_step ((first | (with_reducible exact grown_g (CA.out _)) | (with_reducible exact grown_g (CB.out _)) | (with_reducible exact grown_g (CC.out _)))))); refine wpQuiet_nil ?_)
  intro w2 hU
  have KU := G.of hU
  have L2 : G w w2 := by repeat' (first | (with_reducible exact G.refl _) | (with_reducible refine G.trans ?_ (by assumption)) | (with_reducible refine G.alloc ?_ _) | (with_reducible refine G.drew ?_) | (with_reducible refine G.drewN ?_ _))
  go_wp2
  go_ret
  exact ⟨rfl, L2⟩
end Go.Proofs.Ytpjbacpchmemeaa.DiG

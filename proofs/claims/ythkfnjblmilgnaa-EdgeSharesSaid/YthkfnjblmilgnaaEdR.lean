/-
  The walk of EdgeShares.
-/
import Derived.Test.YthkfnjblmilgnaaEdS
import Derived.Deep.QuietTactic
import Derived.BigQuiet
namespace Go.Proofs.Ythkfnjblmilgnaa.EdR
open Go.RowKit FixA Num Rd Go.Proofs.Ythkfnjblmilgnaa.Row Mid EdM EdA EdB EdF EdE EdG EdN EdI EdFf EdP EdQ EdS
open Go.Proofs.Ythkfnjblmilgnaa.Pred (Is is_stab Stab)
set_option linter.unusedVariables false
set_option linter.unusedSimpArgs false
set_option maxRecDepth 10000
theorem run_load_triM (g o : Nat) (W : World) : (loadRow 24 (.pointer (some ⟨g, o, none⟩))).run Try.prog W = midLoad Try.prog 24 18 g o W := run_loadMid Try.underlying24 rfl (by kernel_rfl) g o W
def zerosL : List Int := List.replicate 1024 0
theorem alloc_arr : Instr.alloc 43 true (.tuple #[]) = allocRow 43 := rfl
theorem run_alloc_arr (w : World) : (allocRow 43).run Try.prog w = .ok (.pointer (some ⟨w.heap.size, 0, none⟩)) (w.alloc (.cells (cs .i64 zerosL) 43)) := by kernel_rfl
theorem store_l (x v : Value) : Instr.storeAt 44 x v = storeRow 44 x v := rfl
theorem run_store_l (g o : Nat) (c : Array Value) (W : World) : (storeRow 44 (.pointer (some ⟨g, o, none⟩)) (.agg c)).run Try.prog W = rowStore Try.prog 44 72 g o c W := run_storeRow (by kernel_rfl) g o c W
def zeros72 : List Int := List.replicate 72 0
theorem alloc_l : Instr.alloc 44 true (.tuple #[]) = allocRow 44 := rfl
theorem run_alloc_l (w : World) : (allocRow 44).run Try.prog w = .ok (.pointer (some ⟨w.heap.size, 0, none⟩)) (w.alloc (.cells (cs .i64 zeros72) 44)) := by kernel_rfl
theorem zeros72_len : zeros72.length = 72 := rfl
theorem sp_self {a : List Int} (h : a.length = 6) : sp a 0 = a := by simp [sp, List.take_of_length_le (show a.length ≤ 6 by omega)]
theorem piece_q {Q : List Int} {k : Nat} : piece (cs .i64 Q) (k * 6) 6 = cs .i64 (sp Q k) := by
  rw [piece_cs, Nat.mul_comm]
  rfl
theorem built_l (a b c d : List Int) (ha : a.length = 18) (hb : b.length = 18) (hc : c.length = 18) (hd : d.length = 18) : Try.prog.built 44 [(0, .agg (cs .i64 a)), (1, .agg (cs .i64 b)), (2, .agg (cs .i64 c)), (3, .agg (cs .i64 d))] = some (cs .i64 (a ++ b ++ c ++ d)) := by
  obtain ⟨a0, a1, a2, a3, a4, a5, a6, a7, a8, a9, a10, a11, a12, a13, a14, a15, a16, a17, rfl⟩ := len18 ha
  obtain ⟨b0, b1, b2, b3, b4, b5, b6, b7, b8, b9, b10, b11, b12, b13, b14, b15, b16, b17, rfl⟩ := len18 hb
  obtain ⟨c0, c1, c2, c3, c4, c5, c6, c7, c8, c9, c10, c11, c12, c13, c14, c15, c16, c17, rfl⟩ := len18 hc
  obtain ⟨d0, d1, d2, d3, d4, d5, d6, d7, d8, d9, d10, d11, d12, d13, d14, d15, d16, d17, rfl⟩ := len18 hd
  kernel_rfl
theorem wpList_build_l {ops : Array Oper} {rest : List Oper} {o : Oper} {a : Act} {w : World} {Q : Exit → Act → World → Prop} (hg : o.guard = none) (x y z u : Operand) (ho : o.op = .build 44 #[(0, x), (1, y), (2, z), (3, u)])
    (p q r s t : List Int) (hx : a.eval x = .agg (cs .i64 p)) (hy : a.eval y = .agg (cs .i64 q)) (hz : a.eval z = .agg (cs .i64 r)) (hu : a.eval u = .agg (cs .i64 s)) (lp : p.length = 18) (lq : q.length = 18) (lr : r.length = 18) (ls : s.length = 18) (ht : p ++ q ++ r ++ s = t)
    (h : wpList Try.prog ops Q rest (a.put o.dst (.agg (cs .i64 t))) w) : wpList Try.prog ops Q (o :: rest) a w := by
  subst ht
  have e : Try.prog.built 44 ((#[(0, x), (1, y), (2, z), (3, u)] : Array (Nat × Operand)).map fun (i, x) => (i, a.eval x)).toList = some (cs .i64 (p ++ q ++ r ++ s)) := by
    simp only [List.map_toArray, List.map_cons, List.map_nil, hx, hy, hz, hu]
    exact built_l p q r s lp lq lr ls
  refine wpList_build hg 44 #[(0, x), (1, y), (2, z), (3, u)] ho (by rw [e]; rfl) ?_
  rw [e]
  exact h
theorem wpList_build_triN {ops : Array Oper} {rest : List Oper} {o : Oper} {a : Act} {w : World} {Q : Exit → Act → World → Prop} (hg : o.guard = none) (x y z : Operand) (ho : o.op = .build 24 #[(0, x), (1, y), (2, z)])
    (p q r t : List Int) (hx : a.eval x = .agg (cs .i64 p)) (hy : a.eval y = .agg (cs .i64 q)) (hz : a.eval z = .agg (cs .i64 r)) (lp : p.length = 6) (lq : q.length = 6) (lr : r.length = 6) (ht : p ++ q ++ r = t)
    (h : wpList Try.prog ops Q rest (a.put o.dst (.agg (cs .i64 t))) w) : wpList Try.prog ops Q (o :: rest) a w := by
  subst ht
  exact wpList_build_tri hg x y z ho p q r hx hy hz lp lq lr h
theorem spQ_len {Q : List Int} (h : Q.length = 24) {k : Nat} (hk : k < 4) : (sp Q k).length = 6 := by simp [sp, h]; omega
theorem qT_len {Q : List Int} (h : Q.length = 24) {k : Nat} (hk : k < 4) : (qT Q k).length = 18 := by
  unfold qT
  rw [List.length_append, List.length_append, spQ_len h hk, spQ_len h (Nat.mod_lt _ (by omega)), spQ_len h (Nat.mod_lt _ (by omega))]
theorem g_step {P : Nat → Prop} {k : Nat} (h : ∀ j, j < k → P j) (h2 : P k) : ∀ j, j < k + 1 → P j := by
  intro j hj
  by_cases e : j = k
  · subst e; exact h2
  · exact h j (by omega)
attribute [local go_sem ↓] load_tri store_tri load_w3 store_w3 load_spot store_spot load_hit store_hit
attribute [local go_sem] one_int run_load_spot run_load_triM run_load_w3 run_load_hit run_store_tri run_store_w3 run_store_spot run_store_hit rowLoad_eq rowStore_eq midLoad_eq ext0 ext1 ext2 blk_alloc_at blk_alloc_old blk_drew blk_drewN blk_set_far blk_set_far' blk_grow setRow_alloc_at setRow_alloc_old setRow_drew setRow_drewN all_map
attribute [local go_sem] run_load_triM piece_six
attribute [local go_sem ↓] store_quad alloc_arr store_l alloc_l
attribute [local go_sem] run_store_quad run_alloc_arr run_store_l run_alloc_l
set_option maxHeartbeats 8000000 in
theorem shares_gen (a b c d : List Int) (ha : a.length = 6) (hb : b.length = 6) (hc : c.length = 6) (hd : d.length = 6) (w : World) :
    Calls Try.prog 4 #[.agg (cs .i64 a), .agg (cs .i64 b), .agg (cs .i64 c), .agg (cs .i64 d)] w fun e w' => e = .returned (.bool true) ∧ Below w.heap.size w w' := by
  have ea := sp_self ha
  have eb := sp_self hb
  have ec := sp_self hc
  have ed := sp_self hd
  obtain ⟨Q, eQ⟩ : ∃ Q, quadL a b c d = Q := ⟨_, rfl⟩
  have hQ : Q.length = 24 := by rw [← eQ]; simp [quadL, ha, hb, hc, hd]
  have EQ := Lib.hid eQ
  clear eQ
  go_enter Try.func4, Try.ntmps4
  go_upto_region 2 with (refine wpList_build_quad rfl (.tmp 18) (.tmp 19) (.tmp 20) (.tmp 21) rfl a b c d Q rfl rfl rfl rfl ha hb hc hd EQ.out ?_)
  refine Rd.name_world ?_
  intro w1 hw
  have O : ∀ (X : World) (o : Obj) (k : Nat) {p : Obj}, k < X.heap.size → blk X k = some p → blk (X.alloc o) k = some p := fun X o k p h e => (blk_alloc_old X o k h).trans e
  have bA : blk w1 w.heap.size = some (.cells (cs .i64 a) 23 (0, 0)) := by rw [hw]; exact O _ _ _ (by first | (simp; done) | (simp; omega)) (O _ _ _ (by first | (simp; done) | (simp; omega)) (O _ _ _ (by first | (simp; done) | (simp; omega)) (O _ _ _ (by first | (simp; done) | (simp; omega)) (blk_alloc_at _ _ _ (by simp)))))
  have bB : blk w1 (w.heap.size + 1) = some (.cells (cs .i64 b) 23 (0, 0)) := by rw [hw]; exact O _ _ _ (by first | (simp; done) | (simp; omega)) (O _ _ _ (by first | (simp; done) | (simp; omega)) (O _ _ _ (by first | (simp; done) | (simp; omega)) (blk_alloc_at _ _ _ (by simp))))
  have bC : blk w1 (w.heap.size + 1 + 1) = some (.cells (cs .i64 c) 23 (0, 0)) := by rw [hw]; exact O _ _ _ (by first | (simp; done) | (simp; omega)) (O _ _ _ (by first | (simp; done) | (simp; omega)) (blk_alloc_at _ _ _ (by simp)))
  have bD : blk w1 (w.heap.size + 1 + 1 + 1) = some (.cells (cs .i64 d) 23 (0, 0)) := by rw [hw]; exact O _ _ _ (by first | (simp; done) | (simp; omega)) (blk_alloc_at _ _ _ (by simp))
  have bQ : blk w1 (w.heap.size + 1 + 1 + 1 + 1) = some (.cells (cs .i64 Q) 42 (0, 0)) := by rw [hw]; exact blk_alloc_at _ _ _ (by simp)
  have L1 : Below w.heap.size w w1 := by
    rw [hw]
    repeat' (first | (with_reducible exact Below.refl _ _) | (with_reducible refine Rd.below_step ?_ (by assumption)) | (with_reducible refine Rd.below_alloc ?_ _) | (with_reducible refine Rd.below_drewN ?_ _) | (with_reducible refine Below.drew ?_) | (with_reducible refine Below.setCell ?_ ?_ _) | (with_reducible refine Rd.below_setRow ?_ ?_ _) | go_size | (simp only [World.size_alloc]; omega) | omega)
  clear hw O
  go_wp2_with fail
  go_loopw [10] (fun i X => ∃ k : Nat, k ≤ 4 ∧ i = .int .i64 k ∧ Hid (∀ j, j < k → smallB (qT Q j) = true ∧ 0 < area (qT Q j)) ∧ blk X w.heap.size = some (.cells (cs .i64 a) 23 (0, 0)) ∧ blk X (w.heap.size + 1) = some (.cells (cs .i64 b) 23 (0, 0)) ∧ blk X (w.heap.size + 1 + 1) = some (.cells (cs .i64 c) 23 (0, 0)) ∧ blk X (w.heap.size + 1 + 1 + 1) = some (.cells (cs .i64 d) 23 (0, 0)) ∧ blk X (w.heap.size + 1 + 1 + 1 + 1) = some (.cells (cs .i64 Q) 42 (0, 0)) ∧ Below w.heap.size w X) (fun i _ => 4 - (intOf i).toNat)
  case atStart => exact ⟨0, by omega, rfl, Lib.hid fun j hj => absurd hj (by omega), bA, bB, bC, bD, bQ, L1⟩
  case round =>
    obtain ⟨k, hk, rfl, HF, BA, BB, BC, BD, BQ', LY⟩ := hrel
    rename World => Y
    clear bA bB bC bD bQ L1
    have bA : blk Y w.heap.size = some (.cells (cs .i64 a) 23 (0, 0)) := BA
    have bB : blk Y (w.heap.size + 1) = some (.cells (cs .i64 b) 23 (0, 0)) := BB
    have bC : blk Y (w.heap.size + 1 + 1) = some (.cells (cs .i64 c) 23 (0, 0)) := BC
    have bD : blk Y (w.heap.size + 1 + 1 + 1) = some (.cells (cs .i64 d) 23 (0, 0)) := BD
    have bQ : blk Y (w.heap.size + 1 + 1 + 1 + 1) = some (.cells (cs .i64 Q) 42 (0, 0)) := BQ'
    clear BA BB BC BD BQ'
    by_cases hlt : k < 4
    · have hlt' : (k : Int) < 4 := by omega
      obtain ⟨k1, ek1⟩ : ∃ q, (k + 1) % 4 = q := ⟨_, rfl⟩
      obtain ⟨k2, ek2⟩ : ∃ q, (k + 2) % 4 = q := ⟨_, rfl⟩
      have hk1 : k1 < 4 := by omega
      have hk2 : k2 < 4 := by omega
      have hk1' : (k1 : Int) < 4 := by omega
      have hk2' : (k2 : Int) < 4 := by omega
      have E1 : Hid (((k : Int) + 1) % 4 = (k1 : Int)) := Lib.hid (by omega)
      have E2 : Hid (((k : Int) + 2) % 4 = (k2 : Int)) := Lib.hid (by omega)
      have m0 := spQ_len hQ hlt
      have m1 := spQ_len hQ hk1
      have m2 := spQ_len hQ hk2
      have q0 : k * 6 + 6 ≤ 24 := by omega
      have q1 : k1 * 6 + 6 ≤ 24 := by omega
      have q2 : k2 * 6 + 6 ≤ 24 := by omega
      obtain ⟨T, eT⟩ : ∃ T, qT Q k = T := ⟨_, rfl⟩
      have ET : Hid (sp Q k ++ sp Q k1 ++ sp Q k2 = T) := Lib.hid (by rw [← eT, ← ek1, ← ek2]; rfl)
      have hlT : T.length = 18 := by rw [← eT]; exact qT_len hQ hlt
      have HT := Lib.hid eT
      have CS : Hid (∀ X : World, Calls Try.prog 8 #[.agg (cs .i64 T)] X fun e w' => e = .returned (.bool (smallB T)) ∧ Below X.heap.size X w') := Lib.hid fun X => small_any T hlT X
      obtain ⟨q, eq⟩ : ∃ q, smallB T = q := ⟨_, rfl⟩
      rw [eq] at CS
      have lQ := blk_lt bQ
      clear ek1 ek2 eT
      cases q
      case false =>
        as_aux_lemma =>
        clear eq
        go_wp2_with fail
        refine Pred.region_vals (Pred.Of [
            Is (.int .i64 (k : Int)),
            Is (.pointer (some ⟨w.heap.size + 1 + 1 + 1 + 1, k * 6, none⟩)),
            Is (.agg (cs .i64 (sp Q k))),
            Is (.int .i64 (k : Int)),
            Is (.int .i64 ((k : Int) + 1)),
            Is (.int .i64 (k1 : Int)),
            Is (.pointer (some ⟨w.heap.size + 1 + 1 + 1 + 1, k1 * 6, none⟩)),
            Is (.agg (cs .i64 (sp Q k1))),
            Is (.int .i64 (k : Int)),
            Is (.int .i64 ((k : Int) + 2)),
            Is (.int .i64 (k2 : Int)),
            Is (.pointer (some ⟨w.heap.size + 1 + 1 + 1 + 1, k2 * 6, none⟩)),
            Is (.agg (cs .i64 (sp Q k2))),
            Is (.agg (cs .i64 T)),
            Is (.bool false),
            Is (.bool true),
            Is (.bool true),
            Is (undef),
            Is (undef),
            Is (undef),
            Is (undef),
            Is (undef),
            Is (undef),
            Is (undef),
            Is (undef),
            Is (undef),
            Is (undef),
            Is (undef),
            Is (undef),
            Is (undef),
            Is (undef),
            Is (undef),
            Is (undef),
            Is (.bool true)]) (by kernel_rfl) (by kernel_rfl) (by kernel_rfl) (Pred.of_stab ?_) ?_ ?_
        · exact ⟨is_stab _, is_stab _, is_stab _, is_stab _, is_stab _, is_stab _, is_stab _, is_stab _, is_stab _, is_stab _, is_stab _, is_stab _, is_stab _, is_stab _, is_stab _, is_stab _, is_stab _, is_stab _, is_stab _, is_stab _, is_stab _, is_stab _, is_stab _, is_stab _, is_stab _, is_stab _, is_stab _, is_stab _, is_stab _, is_stab _, is_stab _, is_stab _, is_stab _, is_stab _, trivial⟩
        · refine ⟨?_, ?_, ?_, ?_, ?_, ?_, ?_, ?_, ?_, ?_, ?_, ?_, ?_, ?_, ?_, ?_, ?_, ?_, ?_, ?_, ?_, ?_, ?_, ?_, ?_, ?_, ?_, ?_, ?_, ?_, ?_, ?_, ?_, ?_, trivial⟩
          · intro b X hE hd hn hV
            have r10 : b.tmps[10]?.getD undef = .int .i64 (k : Int) := (hn 10 (by kernel_rfl)).trans rfl
            exact Pred.yields_run (v := .int .i64 (k : Int)) (Pred.wanted_none rfl) (by go_simp) ⟨Pred.ext_refl _ _, rfl⟩
          · intro b X hE hd hn hV
            have r9 : b.tmps[9]?.getD undef = .pointer (some ⟨w.heap.size + 1 + 1 + 1 + 1, 0, none⟩) := (hn 9 (by kernel_rfl)).trans rfl
            have r27 : b.tmps[27]?.getD undef = .int .i64 (k : Int) := hV 0 _ 27 rfl rfl (Pred.waits_near (by kernel_rfl) (by kernel_rfl))
            exact Pred.yields_run (v := .pointer (some ⟨w.heap.size + 1 + 1 + 1 + 1, k * 6, none⟩)) (Pred.wanted_none rfl) (by go_simp) ⟨Pred.ext_refl _ _, rfl⟩
          · intro b X hE hd hn hV
            have r28 : b.tmps[28]?.getD undef = .pointer (some ⟨w.heap.size + 1 + 1 + 1 + 1, k * 6, none⟩) := hV 1 _ 28 rfl rfl (Pred.waits_near (by kernel_rfl) (by kernel_rfl))
            have q := (blk_below hE _ lQ).trans bQ
            exact Pred.yields_run (v := .agg (cs .i64 (sp Q k))) (Pred.wanted_none rfl) (by go_simp; rw [piece_q]) ⟨Pred.ext_refl _ _, rfl⟩
          · intro b X hE hd hn hV
            have r10 : b.tmps[10]?.getD undef = .int .i64 (k : Int) := (hn 10 (by kernel_rfl)).trans rfl
            exact Pred.yields_run (v := .int .i64 (k : Int)) (Pred.wanted_none rfl) (by go_simp) ⟨Pred.ext_refl _ _, rfl⟩
          · intro b X hE hd hn hV
            have r30 : b.tmps[30]?.getD undef = .int .i64 (k : Int) := hV 3 _ 30 rfl rfl (Pred.waits_near (by kernel_rfl) (by kernel_rfl))
            exact Pred.yields_run (v := .int .i64 ((k : Int) + 1)) (Pred.wanted_none rfl) (by go_simp; exact IntWalk.i64_in _ (by omega)) ⟨Pred.ext_refl _ _, rfl⟩
          · intro b X hE hd hn hV
            have r31 : b.tmps[31]?.getD undef = .int .i64 ((k : Int) + 1) := hV 4 _ 31 rfl rfl (Pred.waits_near (by kernel_rfl) (by kernel_rfl))
            exact Pred.yields_run (v := .int .i64 (k1 : Int)) (Pred.wanted_none rfl) (by go_simp; exact E1.out) ⟨Pred.ext_refl _ _, rfl⟩
          · intro b X hE hd hn hV
            have r9 : b.tmps[9]?.getD undef = .pointer (some ⟨w.heap.size + 1 + 1 + 1 + 1, 0, none⟩) := (hn 9 (by kernel_rfl)).trans rfl
            have r32 : b.tmps[32]?.getD undef = .int .i64 (k1 : Int) := hV 5 _ 32 rfl rfl (Pred.waits_near (by kernel_rfl) (by kernel_rfl))
            exact Pred.yields_run (v := .pointer (some ⟨w.heap.size + 1 + 1 + 1 + 1, k1 * 6, none⟩)) (Pred.wanted_none rfl) (by go_simp) ⟨Pred.ext_refl _ _, rfl⟩
          · intro b X hE hd hn hV
            have r33 : b.tmps[33]?.getD undef = .pointer (some ⟨w.heap.size + 1 + 1 + 1 + 1, k1 * 6, none⟩) := hV 6 _ 33 rfl rfl (Pred.waits_near (by kernel_rfl) (by kernel_rfl))
            have q := (blk_below hE _ lQ).trans bQ
            exact Pred.yields_run (v := .agg (cs .i64 (sp Q k1))) (Pred.wanted_none rfl) (by go_simp; rw [piece_q]) ⟨Pred.ext_refl _ _, rfl⟩
          · intro b X hE hd hn hV
            have r10 : b.tmps[10]?.getD undef = .int .i64 (k : Int) := (hn 10 (by kernel_rfl)).trans rfl
            exact Pred.yields_run (v := .int .i64 (k : Int)) (Pred.wanted_none rfl) (by go_simp) ⟨Pred.ext_refl _ _, rfl⟩
          · intro b X hE hd hn hV
            have r35 : b.tmps[35]?.getD undef = .int .i64 (k : Int) := hV 8 _ 35 rfl rfl (Pred.waits_near (by kernel_rfl) (by kernel_rfl))
            exact Pred.yields_run (v := .int .i64 ((k : Int) + 2)) (Pred.wanted_none rfl) (by go_simp; exact IntWalk.i64_in _ (by omega)) ⟨Pred.ext_refl _ _, rfl⟩
          · intro b X hE hd hn hV
            have r36 : b.tmps[36]?.getD undef = .int .i64 ((k : Int) + 2) := hV 9 _ 36 rfl rfl (Pred.waits_near (by kernel_rfl) (by kernel_rfl))
            exact Pred.yields_run (v := .int .i64 (k2 : Int)) (Pred.wanted_none rfl) (by go_simp; exact E2.out) ⟨Pred.ext_refl _ _, rfl⟩
          · intro b X hE hd hn hV
            have r9 : b.tmps[9]?.getD undef = .pointer (some ⟨w.heap.size + 1 + 1 + 1 + 1, 0, none⟩) := (hn 9 (by kernel_rfl)).trans rfl
            have r37 : b.tmps[37]?.getD undef = .int .i64 (k2 : Int) := hV 10 _ 37 rfl rfl (Pred.waits_near (by kernel_rfl) (by kernel_rfl))
            exact Pred.yields_run (v := .pointer (some ⟨w.heap.size + 1 + 1 + 1 + 1, k2 * 6, none⟩)) (Pred.wanted_none rfl) (by go_simp) ⟨Pred.ext_refl _ _, rfl⟩
          · intro b X hE hd hn hV
            have r38 : b.tmps[38]?.getD undef = .pointer (some ⟨w.heap.size + 1 + 1 + 1 + 1, k2 * 6, none⟩) := hV 11 _ 38 rfl rfl (Pred.waits_near (by kernel_rfl) (by kernel_rfl))
            have q := (blk_below hE _ lQ).trans bQ
            exact Pred.yields_run (v := .agg (cs .i64 (sp Q k2))) (Pred.wanted_none rfl) (by go_simp; rw [piece_q]) ⟨Pred.ext_refl _ _, rfl⟩
          · intro b X hE hd hn hV
            have r29 : b.tmps[29]?.getD undef = .agg (cs .i64 (sp Q k)) := hV 2 _ 29 rfl rfl (Pred.waits_near (by kernel_rfl) (by kernel_rfl))
            have r34 : b.tmps[34]?.getD undef = .agg (cs .i64 (sp Q k1)) := hV 7 _ 34 rfl rfl (Pred.waits_near (by kernel_rfl) (by kernel_rfl))
            have r39 : b.tmps[39]?.getD undef = .agg (cs .i64 (sp Q k2)) := hV 12 _ 39 rfl rfl (Pred.waits_near (by kernel_rfl) (by kernel_rfl))
            exact Pred.yields_run (v := .agg (cs .i64 T)) (Pred.wanted_none rfl) ((exec_build_tri 29 34 39 rfl _ _ _ r29 r34 r39 m0 m1 m2).trans (by rw [ET.out])) ⟨Pred.ext_refl _ _, rfl⟩
          · intro b X hE hd hn hV
            have r40 : b.tmps[40]?.getD undef = .agg (cs .i64 T) := hV 13 _ 40 rfl rfl (Pred.waits_near (by kernel_rfl) (by kernel_rfl))
            refine Pred.yields_call (f := 8) (args := #[.agg (cs .i64 T)]) (Pred.wanted_none rfl) (by go_simp) ?_
            exact (CS.out _).mono fun e w2 ⟨he, hb⟩ => ⟨_, he, Pred.ext_below hb hE.size, rfl⟩
          · intro b X hE hd hn hV
            have r41 : b.tmps[41]?.getD undef = .bool false := hV 14 _ 41 rfl rfl (Pred.waits_near (by kernel_rfl) (by kernel_rfl))
            exact Pred.yields_run (v := .bool true) (Pred.wanted_none rfl) (by go_simp) ⟨Pred.ext_refl _ _, rfl⟩
          · intro b X hE hd hn hV
            have r42 : b.tmps[42]?.getD undef = .bool true := hV 15 _ 42 rfl rfl (Pred.waits_near (by kernel_rfl) (by kernel_rfl))
            exact Pred.yields_run (v := .bool true) (Pred.wanted_none rfl) (by go_simp) ⟨Pred.ext_refl _ _, rfl⟩
          · intro b X hE hd hn hV
            have r43 : b.tmps[43]?.getD undef = .bool true := hV 16 _ 43 rfl rfl (Pred.waits_near (by kernel_rfl) (by kernel_rfl))
            exact Pred.yields_not ((Pred.wanted_at (g := 16) (d := 43) (f := false) rfl rfl r43).trans rfl) ⟨Pred.ext_refl _ _, rfl⟩
          · intro b X hE hd hn hV
            have r43 : b.tmps[43]?.getD undef = .bool true := hV 16 _ 43 rfl rfl (Pred.waits_near (by kernel_rfl) (by kernel_rfl))
            exact Pred.yields_not ((Pred.wanted_at (g := 16) (d := 43) (f := false) rfl rfl r43).trans rfl) ⟨Pred.ext_refl _ _, rfl⟩
          · intro b X hE hd hn hV
            have r43 : b.tmps[43]?.getD undef = .bool true := hV 16 _ 43 rfl rfl (Pred.waits_near (by kernel_rfl) (by kernel_rfl))
            exact Pred.yields_not ((Pred.wanted_at (g := 16) (d := 43) (f := false) rfl rfl r43).trans rfl) ⟨Pred.ext_refl _ _, rfl⟩
          · intro b X hE hd hn hV
            have r43 : b.tmps[43]?.getD undef = .bool true := hV 16 _ 43 rfl rfl (Pred.waits_near (by kernel_rfl) (by kernel_rfl))
            exact Pred.yields_not ((Pred.wanted_at (g := 16) (d := 43) (f := false) rfl rfl r43).trans rfl) ⟨Pred.ext_refl _ _, rfl⟩
          · intro b X hE hd hn hV
            have r43 : b.tmps[43]?.getD undef = .bool true := hV 16 _ 43 rfl rfl (Pred.waits_near (by kernel_rfl) (by kernel_rfl))
            exact Pred.yields_not ((Pred.wanted_at (g := 16) (d := 43) (f := false) rfl rfl r43).trans rfl) ⟨Pred.ext_refl _ _, rfl⟩
          · intro b X hE hd hn hV
            have r43 : b.tmps[43]?.getD undef = .bool true := hV 16 _ 43 rfl rfl (Pred.waits_near (by kernel_rfl) (by kernel_rfl))
            exact Pred.yields_not ((Pred.wanted_at (g := 16) (d := 43) (f := false) rfl rfl r43).trans rfl) ⟨Pred.ext_refl _ _, rfl⟩
          · intro b X hE hd hn hV
            have r43 : b.tmps[43]?.getD undef = .bool true := hV 16 _ 43 rfl rfl (Pred.waits_near (by kernel_rfl) (by kernel_rfl))
            exact Pred.yields_not ((Pred.wanted_at (g := 16) (d := 43) (f := false) rfl rfl r43).trans rfl) ⟨Pred.ext_refl _ _, rfl⟩
          · intro b X hE hd hn hV
            have r43 : b.tmps[43]?.getD undef = .bool true := hV 16 _ 43 rfl rfl (Pred.waits_near (by kernel_rfl) (by kernel_rfl))
            exact Pred.yields_not ((Pred.wanted_at (g := 16) (d := 43) (f := false) rfl rfl r43).trans rfl) ⟨Pred.ext_refl _ _, rfl⟩
          · intro b X hE hd hn hV
            have r43 : b.tmps[43]?.getD undef = .bool true := hV 16 _ 43 rfl rfl (Pred.waits_near (by kernel_rfl) (by kernel_rfl))
            exact Pred.yields_not ((Pred.wanted_at (g := 16) (d := 43) (f := false) rfl rfl r43).trans rfl) ⟨Pred.ext_refl _ _, rfl⟩
          · intro b X hE hd hn hV
            have r43 : b.tmps[43]?.getD undef = .bool true := hV 16 _ 43 rfl rfl (Pred.waits_near (by kernel_rfl) (by kernel_rfl))
            exact Pred.yields_not ((Pred.wanted_at (g := 16) (d := 43) (f := false) rfl rfl r43).trans rfl) ⟨Pred.ext_refl _ _, rfl⟩
          · intro b X hE hd hn hV
            have r43 : b.tmps[43]?.getD undef = .bool true := hV 16 _ 43 rfl rfl (Pred.waits_near (by kernel_rfl) (by kernel_rfl))
            exact Pred.yields_not ((Pred.wanted_at (g := 16) (d := 43) (f := false) rfl rfl r43).trans rfl) ⟨Pred.ext_refl _ _, rfl⟩
          · intro b X hE hd hn hV
            have r43 : b.tmps[43]?.getD undef = .bool true := hV 16 _ 43 rfl rfl (Pred.waits_near (by kernel_rfl) (by kernel_rfl))
            exact Pred.yields_not ((Pred.wanted_at (g := 16) (d := 43) (f := false) rfl rfl r43).trans rfl) ⟨Pred.ext_refl _ _, rfl⟩
          · intro b X hE hd hn hV
            have r43 : b.tmps[43]?.getD undef = .bool true := hV 16 _ 43 rfl rfl (Pred.waits_near (by kernel_rfl) (by kernel_rfl))
            exact Pred.yields_not ((Pred.wanted_at (g := 16) (d := 43) (f := false) rfl rfl r43).trans rfl) ⟨Pred.ext_refl _ _, rfl⟩
          · intro b X hE hd hn hV
            have r43 : b.tmps[43]?.getD undef = .bool true := hV 16 _ 43 rfl rfl (Pred.waits_near (by kernel_rfl) (by kernel_rfl))
            exact Pred.yields_not ((Pred.wanted_at (g := 16) (d := 43) (f := false) rfl rfl r43).trans rfl) ⟨Pred.ext_refl _ _, rfl⟩
          · intro b X hE hd hn hV
            have r43 : b.tmps[43]?.getD undef = .bool true := hV 16 _ 43 rfl rfl (Pred.waits_near (by kernel_rfl) (by kernel_rfl))
            exact Pred.yields_not ((Pred.wanted_at (g := 16) (d := 43) (f := false) rfl rfl r43).trans rfl) ⟨Pred.ext_refl _ _, rfl⟩
          · intro b X hE hd hn hV
            have r43 : b.tmps[43]?.getD undef = .bool true := hV 16 _ 43 rfl rfl (Pred.waits_near (by kernel_rfl) (by kernel_rfl))
            exact Pred.yields_not ((Pred.wanted_at (g := 16) (d := 43) (f := false) rfl rfl r43).trans rfl) ⟨Pred.ext_refl _ _, rfl⟩
          · intro b X hE hd hn hV
            have r43 : b.tmps[43]?.getD undef = .bool true := hV 16 _ 43 rfl rfl (Pred.waits_near (by kernel_rfl) (by kernel_rfl))
            have r59 : b.tmps[59]?.getD undef = undef := hV 32 _ 59 rfl rfl (Pred.waits_near (by kernel_rfl) (by kernel_rfl))
            exact Pred.yields_run (v := .bool true) (Pred.wanted_none rfl) (by go_simp) ⟨Pred.ext_refl _ _, rfl⟩
        intro v w5 hE hv
        have e0 : v 0 = .int .i64 (k : Int) := hv 0 _ 27 rfl rfl
        have e1 : v 1 = .pointer (some ⟨w.heap.size + 1 + 1 + 1 + 1, k * 6, none⟩) := hv 1 _ 28 rfl rfl
        have e2 : v 2 = .agg (cs .i64 (sp Q k)) := hv 2 _ 29 rfl rfl
        have e3 : v 3 = .int .i64 (k : Int) := hv 3 _ 30 rfl rfl
        have e4 : v 4 = .int .i64 ((k : Int) + 1) := hv 4 _ 31 rfl rfl
        have e5 : v 5 = .int .i64 (k1 : Int) := hv 5 _ 32 rfl rfl
        have e6 : v 6 = .pointer (some ⟨w.heap.size + 1 + 1 + 1 + 1, k1 * 6, none⟩) := hv 6 _ 33 rfl rfl
        have e7 : v 7 = .agg (cs .i64 (sp Q k1)) := hv 7 _ 34 rfl rfl
        have e8 : v 8 = .int .i64 (k : Int) := hv 8 _ 35 rfl rfl
        have e9 : v 9 = .int .i64 ((k : Int) + 2) := hv 9 _ 36 rfl rfl
        have e10 : v 10 = .int .i64 (k2 : Int) := hv 10 _ 37 rfl rfl
        have e11 : v 11 = .pointer (some ⟨w.heap.size + 1 + 1 + 1 + 1, k2 * 6, none⟩) := hv 11 _ 38 rfl rfl
        have e12 : v 12 = .agg (cs .i64 (sp Q k2)) := hv 12 _ 39 rfl rfl
        have e13 : v 13 = .agg (cs .i64 T) := hv 13 _ 40 rfl rfl
        have e14 : v 14 = .bool false := hv 14 _ 41 rfl rfl
        have e15 : v 15 = .bool true := hv 15 _ 42 rfl rfl
        have e16 : v 16 = .bool true := hv 16 _ 43 rfl rfl
        have e17 : v 17 = undef := hv 17 _ 44 rfl rfl
        have e18 : v 18 = undef := hv 18 _ 45 rfl rfl
        have e19 : v 19 = undef := hv 19 _ 46 rfl rfl
        have e20 : v 20 = undef := hv 20 _ 47 rfl rfl
        have e21 : v 21 = undef := hv 21 _ 48 rfl rfl
        have e22 : v 22 = undef := hv 22 _ 49 rfl rfl
        have e23 : v 23 = undef := hv 23 _ 50 rfl rfl
        have e24 : v 24 = undef := hv 24 _ 51 rfl rfl
        have e25 : v 25 = undef := hv 25 _ 52 rfl rfl
        have e26 : v 26 = undef := hv 26 _ 53 rfl rfl
        have e27 : v 27 = undef := hv 27 _ 54 rfl rfl
        have e28 : v 28 = undef := hv 28 _ 55 rfl rfl
        have e29 : v 29 = undef := hv 29 _ 56 rfl rfl
        have e30 : v 30 = undef := hv 30 _ 57 rfl rfl
        have e31 : v 31 = undef := hv 31 _ 58 rfl rfl
        have e32 : v 32 = undef := hv 32 _ 59 rfl rfl
        have e33 : v 33 = .bool true := hv 33 _ 60 rfl rfl
        simp only [Pred.putsF_cons, Pred.putsF_nil, Nat.zero_add, Nat.reduceAdd, e0, e1, e2, e3, e4, e5, e6, e7, e8, e9, e10, e11, e12, e13, e14, e15, e16, e17, e18, e19, e20, e21, e22, e23, e24, e25, e26, e27, e28, e29, e30, e31, e32, e33, Act.put, List.setIfInBounds_toArray, List.set_cons_zero, List.set_cons_succ]
        clear e0 e1 e2 e3 e4 e5 e6 e7 e8 e9 e10 e11 e12 e13 e14 e15 e16 e17 e18 e19 e20 e21 e22 e23 e24 e25 e26 e27 e28 e29 e30 e31 e32 e33 hv
        have L5 : Below w.heap.size w w5 := LY.trans (hE.mono LY.size)
        clear hE LY bA bB bC bD bQ lQ
        go_wp2_with fail
        refine (awake_any _).mono ?_
        rintro e w6 ⟨rfl, hb6⟩
        have L6 : Below w.heap.size w w6 := L5.trans (hb6.mono L5.size)
        clear hb6
        go_wp2
        go_ret
        exact ⟨rfl, L6⟩
      have SM := Lib.hid eq
      have hT : Tri T := small_tri hlT eq
      clear eq
      have CA : Hid (∀ X : World, Calls Try.prog 15 #[.agg (cs .i64 T)] X fun e w' => e = .returned (.int .i64 (area T)) ∧ Below X.heap.size X w') := Lib.hid fun X => rarea_any T hT X
      obtain ⟨ar, ear⟩ : ∃ q, area T = q := ⟨_, rfl⟩
      rw [ear] at CA
      have EAR := Lib.hid ear
      clear ear
      by_cases har : ar ≤ 0
      · as_aux_lemma =>
        go_wp2_with fail
        refine Pred.region_vals (Pred.Of [
            Is (.int .i64 (k : Int)),
            Is (.pointer (some ⟨w.heap.size + 1 + 1 + 1 + 1, k * 6, none⟩)),
            Is (.agg (cs .i64 (sp Q k))),
            Is (.int .i64 (k : Int)),
            Is (.int .i64 ((k : Int) + 1)),
            Is (.int .i64 (k1 : Int)),
            Is (.pointer (some ⟨w.heap.size + 1 + 1 + 1 + 1, k1 * 6, none⟩)),
            Is (.agg (cs .i64 (sp Q k1))),
            Is (.int .i64 (k : Int)),
            Is (.int .i64 ((k : Int) + 2)),
            Is (.int .i64 (k2 : Int)),
            Is (.pointer (some ⟨w.heap.size + 1 + 1 + 1 + 1, k2 * 6, none⟩)),
            Is (.agg (cs .i64 (sp Q k2))),
            Is (.agg (cs .i64 T)),
            Is (.bool true),
            Is (.bool false),
            Is (.bool false),
            Is (.int .i64 (k : Int)),
            Is (.pointer (some ⟨w.heap.size + 1 + 1 + 1 + 1, k * 6, none⟩)),
            Is (.agg (cs .i64 (sp Q k))),
            Is (.int .i64 (k : Int)),
            Is (.int .i64 ((k : Int) + 1)),
            Is (.int .i64 (k1 : Int)),
            Is (.pointer (some ⟨w.heap.size + 1 + 1 + 1 + 1, k1 * 6, none⟩)),
            Is (.agg (cs .i64 (sp Q k1))),
            Is (.int .i64 (k : Int)),
            Is (.int .i64 ((k : Int) + 2)),
            Is (.int .i64 (k2 : Int)),
            Is (.pointer (some ⟨w.heap.size + 1 + 1 + 1 + 1, k2 * 6, none⟩)),
            Is (.agg (cs .i64 (sp Q k2))),
            Is (.agg (cs .i64 T)),
            Is (.int .i64 ar),
            Is (.bool true),
            Is (.bool true)]) (by kernel_rfl) (by kernel_rfl) (by kernel_rfl) (Pred.of_stab ?_) ?_ ?_
        · exact ⟨is_stab _, is_stab _, is_stab _, is_stab _, is_stab _, is_stab _, is_stab _, is_stab _, is_stab _, is_stab _, is_stab _, is_stab _, is_stab _, is_stab _, is_stab _, is_stab _, is_stab _, is_stab _, is_stab _, is_stab _, is_stab _, is_stab _, is_stab _, is_stab _, is_stab _, is_stab _, is_stab _, is_stab _, is_stab _, is_stab _, is_stab _, is_stab _, is_stab _, is_stab _, trivial⟩
        · refine ⟨?_, ?_, ?_, ?_, ?_, ?_, ?_, ?_, ?_, ?_, ?_, ?_, ?_, ?_, ?_, ?_, ?_, ?_, ?_, ?_, ?_, ?_, ?_, ?_, ?_, ?_, ?_, ?_, ?_, ?_, ?_, ?_, ?_, ?_, trivial⟩
          · intro b X hE hd hn hV
            have r10 : b.tmps[10]?.getD undef = .int .i64 (k : Int) := (hn 10 (by kernel_rfl)).trans rfl
            exact Pred.yields_run (v := .int .i64 (k : Int)) (Pred.wanted_none rfl) (by go_simp) ⟨Pred.ext_refl _ _, rfl⟩
          · intro b X hE hd hn hV
            have r9 : b.tmps[9]?.getD undef = .pointer (some ⟨w.heap.size + 1 + 1 + 1 + 1, 0, none⟩) := (hn 9 (by kernel_rfl)).trans rfl
            have r27 : b.tmps[27]?.getD undef = .int .i64 (k : Int) := hV 0 _ 27 rfl rfl (Pred.waits_near (by kernel_rfl) (by kernel_rfl))
            exact Pred.yields_run (v := .pointer (some ⟨w.heap.size + 1 + 1 + 1 + 1, k * 6, none⟩)) (Pred.wanted_none rfl) (by go_simp) ⟨Pred.ext_refl _ _, rfl⟩
          · intro b X hE hd hn hV
            have r28 : b.tmps[28]?.getD undef = .pointer (some ⟨w.heap.size + 1 + 1 + 1 + 1, k * 6, none⟩) := hV 1 _ 28 rfl rfl (Pred.waits_near (by kernel_rfl) (by kernel_rfl))
            have q := (blk_below hE _ lQ).trans bQ
            exact Pred.yields_run (v := .agg (cs .i64 (sp Q k))) (Pred.wanted_none rfl) (by go_simp; rw [piece_q]) ⟨Pred.ext_refl _ _, rfl⟩
          · intro b X hE hd hn hV
            have r10 : b.tmps[10]?.getD undef = .int .i64 (k : Int) := (hn 10 (by kernel_rfl)).trans rfl
            exact Pred.yields_run (v := .int .i64 (k : Int)) (Pred.wanted_none rfl) (by go_simp) ⟨Pred.ext_refl _ _, rfl⟩
          · intro b X hE hd hn hV
            have r30 : b.tmps[30]?.getD undef = .int .i64 (k : Int) := hV 3 _ 30 rfl rfl (Pred.waits_near (by kernel_rfl) (by kernel_rfl))
            exact Pred.yields_run (v := .int .i64 ((k : Int) + 1)) (Pred.wanted_none rfl) (by go_simp; exact IntWalk.i64_in _ (by omega)) ⟨Pred.ext_refl _ _, rfl⟩
          · intro b X hE hd hn hV
            have r31 : b.tmps[31]?.getD undef = .int .i64 ((k : Int) + 1) := hV 4 _ 31 rfl rfl (Pred.waits_near (by kernel_rfl) (by kernel_rfl))
            exact Pred.yields_run (v := .int .i64 (k1 : Int)) (Pred.wanted_none rfl) (by go_simp; exact E1.out) ⟨Pred.ext_refl _ _, rfl⟩
          · intro b X hE hd hn hV
            have r9 : b.tmps[9]?.getD undef = .pointer (some ⟨w.heap.size + 1 + 1 + 1 + 1, 0, none⟩) := (hn 9 (by kernel_rfl)).trans rfl
            have r32 : b.tmps[32]?.getD undef = .int .i64 (k1 : Int) := hV 5 _ 32 rfl rfl (Pred.waits_near (by kernel_rfl) (by kernel_rfl))
            exact Pred.yields_run (v := .pointer (some ⟨w.heap.size + 1 + 1 + 1 + 1, k1 * 6, none⟩)) (Pred.wanted_none rfl) (by go_simp) ⟨Pred.ext_refl _ _, rfl⟩
          · intro b X hE hd hn hV
            have r33 : b.tmps[33]?.getD undef = .pointer (some ⟨w.heap.size + 1 + 1 + 1 + 1, k1 * 6, none⟩) := hV 6 _ 33 rfl rfl (Pred.waits_near (by kernel_rfl) (by kernel_rfl))
            have q := (blk_below hE _ lQ).trans bQ
            exact Pred.yields_run (v := .agg (cs .i64 (sp Q k1))) (Pred.wanted_none rfl) (by go_simp; rw [piece_q]) ⟨Pred.ext_refl _ _, rfl⟩
          · intro b X hE hd hn hV
            have r10 : b.tmps[10]?.getD undef = .int .i64 (k : Int) := (hn 10 (by kernel_rfl)).trans rfl
            exact Pred.yields_run (v := .int .i64 (k : Int)) (Pred.wanted_none rfl) (by go_simp) ⟨Pred.ext_refl _ _, rfl⟩
          · intro b X hE hd hn hV
            have r35 : b.tmps[35]?.getD undef = .int .i64 (k : Int) := hV 8 _ 35 rfl rfl (Pred.waits_near (by kernel_rfl) (by kernel_rfl))
            exact Pred.yields_run (v := .int .i64 ((k : Int) + 2)) (Pred.wanted_none rfl) (by go_simp; exact IntWalk.i64_in _ (by omega)) ⟨Pred.ext_refl _ _, rfl⟩
          · intro b X hE hd hn hV
            have r36 : b.tmps[36]?.getD undef = .int .i64 ((k : Int) + 2) := hV 9 _ 36 rfl rfl (Pred.waits_near (by kernel_rfl) (by kernel_rfl))
            exact Pred.yields_run (v := .int .i64 (k2 : Int)) (Pred.wanted_none rfl) (by go_simp; exact E2.out) ⟨Pred.ext_refl _ _, rfl⟩
          · intro b X hE hd hn hV
            have r9 : b.tmps[9]?.getD undef = .pointer (some ⟨w.heap.size + 1 + 1 + 1 + 1, 0, none⟩) := (hn 9 (by kernel_rfl)).trans rfl
            have r37 : b.tmps[37]?.getD undef = .int .i64 (k2 : Int) := hV 10 _ 37 rfl rfl (Pred.waits_near (by kernel_rfl) (by kernel_rfl))
            exact Pred.yields_run (v := .pointer (some ⟨w.heap.size + 1 + 1 + 1 + 1, k2 * 6, none⟩)) (Pred.wanted_none rfl) (by go_simp) ⟨Pred.ext_refl _ _, rfl⟩
          · intro b X hE hd hn hV
            have r38 : b.tmps[38]?.getD undef = .pointer (some ⟨w.heap.size + 1 + 1 + 1 + 1, k2 * 6, none⟩) := hV 11 _ 38 rfl rfl (Pred.waits_near (by kernel_rfl) (by kernel_rfl))
            have q := (blk_below hE _ lQ).trans bQ
            exact Pred.yields_run (v := .agg (cs .i64 (sp Q k2))) (Pred.wanted_none rfl) (by go_simp; rw [piece_q]) ⟨Pred.ext_refl _ _, rfl⟩
          · intro b X hE hd hn hV
            have r29 : b.tmps[29]?.getD undef = .agg (cs .i64 (sp Q k)) := hV 2 _ 29 rfl rfl (Pred.waits_near (by kernel_rfl) (by kernel_rfl))
            have r34 : b.tmps[34]?.getD undef = .agg (cs .i64 (sp Q k1)) := hV 7 _ 34 rfl rfl (Pred.waits_near (by kernel_rfl) (by kernel_rfl))
            have r39 : b.tmps[39]?.getD undef = .agg (cs .i64 (sp Q k2)) := hV 12 _ 39 rfl rfl (Pred.waits_near (by kernel_rfl) (by kernel_rfl))
            exact Pred.yields_run (v := .agg (cs .i64 T)) (Pred.wanted_none rfl) ((exec_build_tri 29 34 39 rfl _ _ _ r29 r34 r39 m0 m1 m2).trans (by rw [ET.out])) ⟨Pred.ext_refl _ _, rfl⟩
          · intro b X hE hd hn hV
            have r40 : b.tmps[40]?.getD undef = .agg (cs .i64 T) := hV 13 _ 40 rfl rfl (Pred.waits_near (by kernel_rfl) (by kernel_rfl))
            refine Pred.yields_call (f := 8) (args := #[.agg (cs .i64 T)]) (Pred.wanted_none rfl) (by go_simp) ?_
            exact (CS.out _).mono fun e w2 ⟨he, hb⟩ => ⟨_, he, Pred.ext_below hb hE.size, rfl⟩
          · intro b X hE hd hn hV
            have r41 : b.tmps[41]?.getD undef = .bool true := hV 14 _ 41 rfl rfl (Pred.waits_near (by kernel_rfl) (by kernel_rfl))
            exact Pred.yields_run (v := .bool false) (Pred.wanted_none rfl) (by go_simp) ⟨Pred.ext_refl _ _, rfl⟩
          · intro b X hE hd hn hV
            have r42 : b.tmps[42]?.getD undef = .bool false := hV 15 _ 42 rfl rfl (Pred.waits_near (by kernel_rfl) (by kernel_rfl))
            exact Pred.yields_run (v := .bool false) (Pred.wanted_none rfl) (by go_simp) ⟨Pred.ext_refl _ _, rfl⟩
          · intro b X hE hd hn hV
            have r10 : b.tmps[10]?.getD undef = .int .i64 (k : Int) := (hn 10 (by kernel_rfl)).trans rfl
            have r43 : b.tmps[43]?.getD undef = .bool false := hV 16 _ 43 rfl rfl (Pred.waits_near (by kernel_rfl) (by kernel_rfl))
            exact Pred.yields_run (v := .int .i64 (k : Int)) ((Pred.wanted_at (g := 16) (d := 43) (f := false) rfl rfl r43).trans rfl) (by go_simp) ⟨Pred.ext_refl _ _, rfl⟩
          · intro b X hE hd hn hV
            have r9 : b.tmps[9]?.getD undef = .pointer (some ⟨w.heap.size + 1 + 1 + 1 + 1, 0, none⟩) := (hn 9 (by kernel_rfl)).trans rfl
            have r44 : b.tmps[44]?.getD undef = .int .i64 (k : Int) := hV 17 _ 44 rfl rfl (Pred.waits_near (by kernel_rfl) (by kernel_rfl))
            have r43 : b.tmps[43]?.getD undef = .bool false := hV 16 _ 43 rfl rfl (Pred.waits_near (by kernel_rfl) (by kernel_rfl))
            exact Pred.yields_run (v := .pointer (some ⟨w.heap.size + 1 + 1 + 1 + 1, k * 6, none⟩)) ((Pred.wanted_at (g := 16) (d := 43) (f := false) rfl rfl r43).trans rfl) (by go_simp) ⟨Pred.ext_refl _ _, rfl⟩
          · intro b X hE hd hn hV
            have r45 : b.tmps[45]?.getD undef = .pointer (some ⟨w.heap.size + 1 + 1 + 1 + 1, k * 6, none⟩) := hV 18 _ 45 rfl rfl (Pred.waits_near (by kernel_rfl) (by kernel_rfl))
            have r43 : b.tmps[43]?.getD undef = .bool false := hV 16 _ 43 rfl rfl (Pred.waits_near (by kernel_rfl) (by kernel_rfl))
            have q := (blk_below hE _ lQ).trans bQ
            exact Pred.yields_run (v := .agg (cs .i64 (sp Q k))) ((Pred.wanted_at (g := 16) (d := 43) (f := false) rfl rfl r43).trans rfl) (by go_simp; rw [piece_q]) ⟨Pred.ext_refl _ _, rfl⟩
          · intro b X hE hd hn hV
            have r10 : b.tmps[10]?.getD undef = .int .i64 (k : Int) := (hn 10 (by kernel_rfl)).trans rfl
            have r43 : b.tmps[43]?.getD undef = .bool false := hV 16 _ 43 rfl rfl (Pred.waits_near (by kernel_rfl) (by kernel_rfl))
            exact Pred.yields_run (v := .int .i64 (k : Int)) ((Pred.wanted_at (g := 16) (d := 43) (f := false) rfl rfl r43).trans rfl) (by go_simp) ⟨Pred.ext_refl _ _, rfl⟩
          · intro b X hE hd hn hV
            have r47 : b.tmps[47]?.getD undef = .int .i64 (k : Int) := hV 20 _ 47 rfl rfl (Pred.waits_near (by kernel_rfl) (by kernel_rfl))
            have r43 : b.tmps[43]?.getD undef = .bool false := hV 16 _ 43 rfl rfl (Pred.waits_near (by kernel_rfl) (by kernel_rfl))
            exact Pred.yields_run (v := .int .i64 ((k : Int) + 1)) ((Pred.wanted_at (g := 16) (d := 43) (f := false) rfl rfl r43).trans rfl) (by go_simp; exact IntWalk.i64_in _ (by omega)) ⟨Pred.ext_refl _ _, rfl⟩
          · intro b X hE hd hn hV
            have r48 : b.tmps[48]?.getD undef = .int .i64 ((k : Int) + 1) := hV 21 _ 48 rfl rfl (Pred.waits_near (by kernel_rfl) (by kernel_rfl))
            have r43 : b.tmps[43]?.getD undef = .bool false := hV 16 _ 43 rfl rfl (Pred.waits_near (by kernel_rfl) (by kernel_rfl))
            exact Pred.yields_run (v := .int .i64 (k1 : Int)) ((Pred.wanted_at (g := 16) (d := 43) (f := false) rfl rfl r43).trans rfl) (by go_simp; exact E1.out) ⟨Pred.ext_refl _ _, rfl⟩
          · intro b X hE hd hn hV
            have r9 : b.tmps[9]?.getD undef = .pointer (some ⟨w.heap.size + 1 + 1 + 1 + 1, 0, none⟩) := (hn 9 (by kernel_rfl)).trans rfl
            have r49 : b.tmps[49]?.getD undef = .int .i64 (k1 : Int) := hV 22 _ 49 rfl rfl (Pred.waits_near (by kernel_rfl) (by kernel_rfl))
            have r43 : b.tmps[43]?.getD undef = .bool false := hV 16 _ 43 rfl rfl (Pred.waits_near (by kernel_rfl) (by kernel_rfl))
            exact Pred.yields_run (v := .pointer (some ⟨w.heap.size + 1 + 1 + 1 + 1, k1 * 6, none⟩)) ((Pred.wanted_at (g := 16) (d := 43) (f := false) rfl rfl r43).trans rfl) (by go_simp) ⟨Pred.ext_refl _ _, rfl⟩
          · intro b X hE hd hn hV
            have r50 : b.tmps[50]?.getD undef = .pointer (some ⟨w.heap.size + 1 + 1 + 1 + 1, k1 * 6, none⟩) := hV 23 _ 50 rfl rfl (Pred.waits_near (by kernel_rfl) (by kernel_rfl))
            have r43 : b.tmps[43]?.getD undef = .bool false := hV 16 _ 43 rfl rfl (Pred.waits_near (by kernel_rfl) (by kernel_rfl))
            have q := (blk_below hE _ lQ).trans bQ
            exact Pred.yields_run (v := .agg (cs .i64 (sp Q k1))) ((Pred.wanted_at (g := 16) (d := 43) (f := false) rfl rfl r43).trans rfl) (by go_simp; rw [piece_q]) ⟨Pred.ext_refl _ _, rfl⟩
          · intro b X hE hd hn hV
            have r10 : b.tmps[10]?.getD undef = .int .i64 (k : Int) := (hn 10 (by kernel_rfl)).trans rfl
            have r43 : b.tmps[43]?.getD undef = .bool false := hV 16 _ 43 rfl rfl (Pred.waits_near (by kernel_rfl) (by kernel_rfl))
            exact Pred.yields_run (v := .int .i64 (k : Int)) ((Pred.wanted_at (g := 16) (d := 43) (f := false) rfl rfl r43).trans rfl) (by go_simp) ⟨Pred.ext_refl _ _, rfl⟩
          · intro b X hE hd hn hV
            have r52 : b.tmps[52]?.getD undef = .int .i64 (k : Int) := hV 25 _ 52 rfl rfl (Pred.waits_near (by kernel_rfl) (by kernel_rfl))
            have r43 : b.tmps[43]?.getD undef = .bool false := hV 16 _ 43 rfl rfl (Pred.waits_near (by kernel_rfl) (by kernel_rfl))
            exact Pred.yields_run (v := .int .i64 ((k : Int) + 2)) ((Pred.wanted_at (g := 16) (d := 43) (f := false) rfl rfl r43).trans rfl) (by go_simp; exact IntWalk.i64_in _ (by omega)) ⟨Pred.ext_refl _ _, rfl⟩
          · intro b X hE hd hn hV
            have r53 : b.tmps[53]?.getD undef = .int .i64 ((k : Int) + 2) := hV 26 _ 53 rfl rfl (Pred.waits_near (by kernel_rfl) (by kernel_rfl))
            have r43 : b.tmps[43]?.getD undef = .bool false := hV 16 _ 43 rfl rfl (Pred.waits_near (by kernel_rfl) (by kernel_rfl))
            exact Pred.yields_run (v := .int .i64 (k2 : Int)) ((Pred.wanted_at (g := 16) (d := 43) (f := false) rfl rfl r43).trans rfl) (by go_simp; exact E2.out) ⟨Pred.ext_refl _ _, rfl⟩
          · intro b X hE hd hn hV
            have r9 : b.tmps[9]?.getD undef = .pointer (some ⟨w.heap.size + 1 + 1 + 1 + 1, 0, none⟩) := (hn 9 (by kernel_rfl)).trans rfl
            have r54 : b.tmps[54]?.getD undef = .int .i64 (k2 : Int) := hV 27 _ 54 rfl rfl (Pred.waits_near (by kernel_rfl) (by kernel_rfl))
            have r43 : b.tmps[43]?.getD undef = .bool false := hV 16 _ 43 rfl rfl (Pred.waits_near (by kernel_rfl) (by kernel_rfl))
            exact Pred.yields_run (v := .pointer (some ⟨w.heap.size + 1 + 1 + 1 + 1, k2 * 6, none⟩)) ((Pred.wanted_at (g := 16) (d := 43) (f := false) rfl rfl r43).trans rfl) (by go_simp) ⟨Pred.ext_refl _ _, rfl⟩
          · intro b X hE hd hn hV
            have r55 : b.tmps[55]?.getD undef = .pointer (some ⟨w.heap.size + 1 + 1 + 1 + 1, k2 * 6, none⟩) := hV 28 _ 55 rfl rfl (Pred.waits_near (by kernel_rfl) (by kernel_rfl))
            have r43 : b.tmps[43]?.getD undef = .bool false := hV 16 _ 43 rfl rfl (Pred.waits_near (by kernel_rfl) (by kernel_rfl))
            have q := (blk_below hE _ lQ).trans bQ
            exact Pred.yields_run (v := .agg (cs .i64 (sp Q k2))) ((Pred.wanted_at (g := 16) (d := 43) (f := false) rfl rfl r43).trans rfl) (by go_simp; rw [piece_q]) ⟨Pred.ext_refl _ _, rfl⟩
          · intro b X hE hd hn hV
            have r46 : b.tmps[46]?.getD undef = .agg (cs .i64 (sp Q k)) := hV 19 _ 46 rfl rfl (Pred.waits_near (by kernel_rfl) (by kernel_rfl))
            have r51 : b.tmps[51]?.getD undef = .agg (cs .i64 (sp Q k1)) := hV 24 _ 51 rfl rfl (Pred.waits_near (by kernel_rfl) (by kernel_rfl))
            have r56 : b.tmps[56]?.getD undef = .agg (cs .i64 (sp Q k2)) := hV 29 _ 56 rfl rfl (Pred.waits_near (by kernel_rfl) (by kernel_rfl))
            have r43 : b.tmps[43]?.getD undef = .bool false := hV 16 _ 43 rfl rfl (Pred.waits_near (by kernel_rfl) (by kernel_rfl))
            exact Pred.yields_run (v := .agg (cs .i64 T)) ((Pred.wanted_at (g := 16) (d := 43) (f := false) rfl rfl r43).trans rfl) ((exec_build_tri 46 51 56 rfl _ _ _ r46 r51 r56 m0 m1 m2).trans (by rw [ET.out])) ⟨Pred.ext_refl _ _, rfl⟩
          · intro b X hE hd hn hV
            have r57 : b.tmps[57]?.getD undef = .agg (cs .i64 T) := hV 30 _ 57 rfl rfl (Pred.waits_near (by kernel_rfl) (by kernel_rfl))
            have r43 : b.tmps[43]?.getD undef = .bool false := hV 16 _ 43 rfl rfl (Pred.waits_near (by kernel_rfl) (by kernel_rfl))
            refine Pred.yields_call (f := 15) (args := #[.agg (cs .i64 T)]) ((Pred.wanted_at (g := 16) (d := 43) (f := false) rfl rfl r43).trans rfl) (by go_simp) ?_
            exact (CA.out _).mono fun e w2 ⟨he, hb⟩ => ⟨_, he, Pred.ext_below hb hE.size, rfl⟩
          · intro b X hE hd hn hV
            have r58 : b.tmps[58]?.getD undef = .int .i64 ar := hV 31 _ 58 rfl rfl (Pred.waits_near (by kernel_rfl) (by kernel_rfl))
            have r43 : b.tmps[43]?.getD undef = .bool false := hV 16 _ 43 rfl rfl (Pred.waits_near (by kernel_rfl) (by kernel_rfl))
            exact Pred.yields_run (v := .bool true) ((Pred.wanted_at (g := 16) (d := 43) (f := false) rfl rfl r43).trans rfl) (by go_simp) ⟨Pred.ext_refl _ _, rfl⟩
          · intro b X hE hd hn hV
            have r43 : b.tmps[43]?.getD undef = .bool false := hV 16 _ 43 rfl rfl (Pred.waits_near (by kernel_rfl) (by kernel_rfl))
            have r59 : b.tmps[59]?.getD undef = .bool true := hV 32 _ 59 rfl rfl (Pred.waits_near (by kernel_rfl) (by kernel_rfl))
            exact Pred.yields_run (v := .bool true) (Pred.wanted_none rfl) (by go_simp) ⟨Pred.ext_refl _ _, rfl⟩
        intro v w5 hE hv
        have e0 : v 0 = .int .i64 (k : Int) := hv 0 _ 27 rfl rfl
        have e1 : v 1 = .pointer (some ⟨w.heap.size + 1 + 1 + 1 + 1, k * 6, none⟩) := hv 1 _ 28 rfl rfl
        have e2 : v 2 = .agg (cs .i64 (sp Q k)) := hv 2 _ 29 rfl rfl
        have e3 : v 3 = .int .i64 (k : Int) := hv 3 _ 30 rfl rfl
        have e4 : v 4 = .int .i64 ((k : Int) + 1) := hv 4 _ 31 rfl rfl
        have e5 : v 5 = .int .i64 (k1 : Int) := hv 5 _ 32 rfl rfl
        have e6 : v 6 = .pointer (some ⟨w.heap.size + 1 + 1 + 1 + 1, k1 * 6, none⟩) := hv 6 _ 33 rfl rfl
        have e7 : v 7 = .agg (cs .i64 (sp Q k1)) := hv 7 _ 34 rfl rfl
        have e8 : v 8 = .int .i64 (k : Int) := hv 8 _ 35 rfl rfl
        have e9 : v 9 = .int .i64 ((k : Int) + 2) := hv 9 _ 36 rfl rfl
        have e10 : v 10 = .int .i64 (k2 : Int) := hv 10 _ 37 rfl rfl
        have e11 : v 11 = .pointer (some ⟨w.heap.size + 1 + 1 + 1 + 1, k2 * 6, none⟩) := hv 11 _ 38 rfl rfl
        have e12 : v 12 = .agg (cs .i64 (sp Q k2)) := hv 12 _ 39 rfl rfl
        have e13 : v 13 = .agg (cs .i64 T) := hv 13 _ 40 rfl rfl
        have e14 : v 14 = .bool true := hv 14 _ 41 rfl rfl
        have e15 : v 15 = .bool false := hv 15 _ 42 rfl rfl
        have e16 : v 16 = .bool false := hv 16 _ 43 rfl rfl
        have e17 : v 17 = .int .i64 (k : Int) := hv 17 _ 44 rfl rfl
        have e18 : v 18 = .pointer (some ⟨w.heap.size + 1 + 1 + 1 + 1, k * 6, none⟩) := hv 18 _ 45 rfl rfl
        have e19 : v 19 = .agg (cs .i64 (sp Q k)) := hv 19 _ 46 rfl rfl
        have e20 : v 20 = .int .i64 (k : Int) := hv 20 _ 47 rfl rfl
        have e21 : v 21 = .int .i64 ((k : Int) + 1) := hv 21 _ 48 rfl rfl
        have e22 : v 22 = .int .i64 (k1 : Int) := hv 22 _ 49 rfl rfl
        have e23 : v 23 = .pointer (some ⟨w.heap.size + 1 + 1 + 1 + 1, k1 * 6, none⟩) := hv 23 _ 50 rfl rfl
        have e24 : v 24 = .agg (cs .i64 (sp Q k1)) := hv 24 _ 51 rfl rfl
        have e25 : v 25 = .int .i64 (k : Int) := hv 25 _ 52 rfl rfl
        have e26 : v 26 = .int .i64 ((k : Int) + 2) := hv 26 _ 53 rfl rfl
        have e27 : v 27 = .int .i64 (k2 : Int) := hv 27 _ 54 rfl rfl
        have e28 : v 28 = .pointer (some ⟨w.heap.size + 1 + 1 + 1 + 1, k2 * 6, none⟩) := hv 28 _ 55 rfl rfl
        have e29 : v 29 = .agg (cs .i64 (sp Q k2)) := hv 29 _ 56 rfl rfl
        have e30 : v 30 = .agg (cs .i64 T) := hv 30 _ 57 rfl rfl
        have e31 : v 31 = .int .i64 ar := hv 31 _ 58 rfl rfl
        have e32 : v 32 = .bool true := hv 32 _ 59 rfl rfl
        have e33 : v 33 = .bool true := hv 33 _ 60 rfl rfl
        simp only [Pred.putsF_cons, Pred.putsF_nil, Nat.zero_add, Nat.reduceAdd, e0, e1, e2, e3, e4, e5, e6, e7, e8, e9, e10, e11, e12, e13, e14, e15, e16, e17, e18, e19, e20, e21, e22, e23, e24, e25, e26, e27, e28, e29, e30, e31, e32, e33, Act.put, List.setIfInBounds_toArray, List.set_cons_zero, List.set_cons_succ]
        clear e0 e1 e2 e3 e4 e5 e6 e7 e8 e9 e10 e11 e12 e13 e14 e15 e16 e17 e18 e19 e20 e21 e22 e23 e24 e25 e26 e27 e28 e29 e30 e31 e32 e33 hv
        have L5 : Below w.heap.size w w5 := LY.trans (hE.mono LY.size)
        clear hE LY bA bB bC bD bQ lQ
        go_wp2_with fail
        refine (awake_any _).mono ?_
        rintro e w6 ⟨rfl, hb6⟩
        have L6 : Below w.heap.size w w6 := L5.trans (hb6.mono L5.size)
        clear hb6
        go_wp2
        go_ret
        exact ⟨rfl, L6⟩
      · as_aux_lemma =>
        go_wp2_with fail
        refine Pred.region_vals (Pred.Of [
            Is (.int .i64 (k : Int)),
            Is (.pointer (some ⟨w.heap.size + 1 + 1 + 1 + 1, k * 6, none⟩)),
            Is (.agg (cs .i64 (sp Q k))),
            Is (.int .i64 (k : Int)),
            Is (.int .i64 ((k : Int) + 1)),
            Is (.int .i64 (k1 : Int)),
            Is (.pointer (some ⟨w.heap.size + 1 + 1 + 1 + 1, k1 * 6, none⟩)),
            Is (.agg (cs .i64 (sp Q k1))),
            Is (.int .i64 (k : Int)),
            Is (.int .i64 ((k : Int) + 2)),
            Is (.int .i64 (k2 : Int)),
            Is (.pointer (some ⟨w.heap.size + 1 + 1 + 1 + 1, k2 * 6, none⟩)),
            Is (.agg (cs .i64 (sp Q k2))),
            Is (.agg (cs .i64 T)),
            Is (.bool true),
            Is (.bool false),
            Is (.bool false),
            Is (.int .i64 (k : Int)),
            Is (.pointer (some ⟨w.heap.size + 1 + 1 + 1 + 1, k * 6, none⟩)),
            Is (.agg (cs .i64 (sp Q k))),
            Is (.int .i64 (k : Int)),
            Is (.int .i64 ((k : Int) + 1)),
            Is (.int .i64 (k1 : Int)),
            Is (.pointer (some ⟨w.heap.size + 1 + 1 + 1 + 1, k1 * 6, none⟩)),
            Is (.agg (cs .i64 (sp Q k1))),
            Is (.int .i64 (k : Int)),
            Is (.int .i64 ((k : Int) + 2)),
            Is (.int .i64 (k2 : Int)),
            Is (.pointer (some ⟨w.heap.size + 1 + 1 + 1 + 1, k2 * 6, none⟩)),
            Is (.agg (cs .i64 (sp Q k2))),
            Is (.agg (cs .i64 T)),
            Is (.int .i64 ar),
            Is (.bool false),
            Is (.bool false)]) (by kernel_rfl) (by kernel_rfl) (by kernel_rfl) (Pred.of_stab ?_) ?_ ?_
        · exact ⟨is_stab _, is_stab _, is_stab _, is_stab _, is_stab _, is_stab _, is_stab _, is_stab _, is_stab _, is_stab _, is_stab _, is_stab _, is_stab _, is_stab _, is_stab _, is_stab _, is_stab _, is_stab _, is_stab _, is_stab _, is_stab _, is_stab _, is_stab _, is_stab _, is_stab _, is_stab _, is_stab _, is_stab _, is_stab _, is_stab _, is_stab _, is_stab _, is_stab _, is_stab _, trivial⟩
        · refine ⟨?_, ?_, ?_, ?_, ?_, ?_, ?_, ?_, ?_, ?_, ?_, ?_, ?_, ?_, ?_, ?_, ?_, ?_, ?_, ?_, ?_, ?_, ?_, ?_, ?_, ?_, ?_, ?_, ?_, ?_, ?_, ?_, ?_, ?_, trivial⟩
          · intro b X hE hd hn hV
            have r10 : b.tmps[10]?.getD undef = .int .i64 (k : Int) := (hn 10 (by kernel_rfl)).trans rfl
            exact Pred.yields_run (v := .int .i64 (k : Int)) (Pred.wanted_none rfl) (by go_simp) ⟨Pred.ext_refl _ _, rfl⟩
          · intro b X hE hd hn hV
            have r9 : b.tmps[9]?.getD undef = .pointer (some ⟨w.heap.size + 1 + 1 + 1 + 1, 0, none⟩) := (hn 9 (by kernel_rfl)).trans rfl
            have r27 : b.tmps[27]?.getD undef = .int .i64 (k : Int) := hV 0 _ 27 rfl rfl (Pred.waits_near (by kernel_rfl) (by kernel_rfl))
            exact Pred.yields_run (v := .pointer (some ⟨w.heap.size + 1 + 1 + 1 + 1, k * 6, none⟩)) (Pred.wanted_none rfl) (by go_simp) ⟨Pred.ext_refl _ _, rfl⟩
          · intro b X hE hd hn hV
            have r28 : b.tmps[28]?.getD undef = .pointer (some ⟨w.heap.size + 1 + 1 + 1 + 1, k * 6, none⟩) := hV 1 _ 28 rfl rfl (Pred.waits_near (by kernel_rfl) (by kernel_rfl))
            have q := (blk_below hE _ lQ).trans bQ
            exact Pred.yields_run (v := .agg (cs .i64 (sp Q k))) (Pred.wanted_none rfl) (by go_simp; rw [piece_q]) ⟨Pred.ext_refl _ _, rfl⟩
          · intro b X hE hd hn hV
            have r10 : b.tmps[10]?.getD undef = .int .i64 (k : Int) := (hn 10 (by kernel_rfl)).trans rfl
            exact Pred.yields_run (v := .int .i64 (k : Int)) (Pred.wanted_none rfl) (by go_simp) ⟨Pred.ext_refl _ _, rfl⟩
          · intro b X hE hd hn hV
            have r30 : b.tmps[30]?.getD undef = .int .i64 (k : Int) := hV 3 _ 30 rfl rfl (Pred.waits_near (by kernel_rfl) (by kernel_rfl))
            exact Pred.yields_run (v := .int .i64 ((k : Int) + 1)) (Pred.wanted_none rfl) (by go_simp; exact IntWalk.i64_in _ (by omega)) ⟨Pred.ext_refl _ _, rfl⟩
          · intro b X hE hd hn hV
            have r31 : b.tmps[31]?.getD undef = .int .i64 ((k : Int) + 1) := hV 4 _ 31 rfl rfl (Pred.waits_near (by kernel_rfl) (by kernel_rfl))
            exact Pred.yields_run (v := .int .i64 (k1 : Int)) (Pred.wanted_none rfl) (by go_simp; exact E1.out) ⟨Pred.ext_refl _ _, rfl⟩
          · intro b X hE hd hn hV
            have r9 : b.tmps[9]?.getD undef = .pointer (some ⟨w.heap.size + 1 + 1 + 1 + 1, 0, none⟩) := (hn 9 (by kernel_rfl)).trans rfl
            have r32 : b.tmps[32]?.getD undef = .int .i64 (k1 : Int) := hV 5 _ 32 rfl rfl (Pred.waits_near (by kernel_rfl) (by kernel_rfl))
            exact Pred.yields_run (v := .pointer (some ⟨w.heap.size + 1 + 1 + 1 + 1, k1 * 6, none⟩)) (Pred.wanted_none rfl) (by go_simp) ⟨Pred.ext_refl _ _, rfl⟩
          · intro b X hE hd hn hV
            have r33 : b.tmps[33]?.getD undef = .pointer (some ⟨w.heap.size + 1 + 1 + 1 + 1, k1 * 6, none⟩) := hV 6 _ 33 rfl rfl (Pred.waits_near (by kernel_rfl) (by kernel_rfl))
            have q := (blk_below hE _ lQ).trans bQ
            exact Pred.yields_run (v := .agg (cs .i64 (sp Q k1))) (Pred.wanted_none rfl) (by go_simp; rw [piece_q]) ⟨Pred.ext_refl _ _, rfl⟩
          · intro b X hE hd hn hV
            have r10 : b.tmps[10]?.getD undef = .int .i64 (k : Int) := (hn 10 (by kernel_rfl)).trans rfl
            exact Pred.yields_run (v := .int .i64 (k : Int)) (Pred.wanted_none rfl) (by go_simp) ⟨Pred.ext_refl _ _, rfl⟩
          · intro b X hE hd hn hV
            have r35 : b.tmps[35]?.getD undef = .int .i64 (k : Int) := hV 8 _ 35 rfl rfl (Pred.waits_near (by kernel_rfl) (by kernel_rfl))
            exact Pred.yields_run (v := .int .i64 ((k : Int) + 2)) (Pred.wanted_none rfl) (by go_simp; exact IntWalk.i64_in _ (by omega)) ⟨Pred.ext_refl _ _, rfl⟩
          · intro b X hE hd hn hV
            have r36 : b.tmps[36]?.getD undef = .int .i64 ((k : Int) + 2) := hV 9 _ 36 rfl rfl (Pred.waits_near (by kernel_rfl) (by kernel_rfl))
            exact Pred.yields_run (v := .int .i64 (k2 : Int)) (Pred.wanted_none rfl) (by go_simp; exact E2.out) ⟨Pred.ext_refl _ _, rfl⟩
          · intro b X hE hd hn hV
            have r9 : b.tmps[9]?.getD undef = .pointer (some ⟨w.heap.size + 1 + 1 + 1 + 1, 0, none⟩) := (hn 9 (by kernel_rfl)).trans rfl
            have r37 : b.tmps[37]?.getD undef = .int .i64 (k2 : Int) := hV 10 _ 37 rfl rfl (Pred.waits_near (by kernel_rfl) (by kernel_rfl))
            exact Pred.yields_run (v := .pointer (some ⟨w.heap.size + 1 + 1 + 1 + 1, k2 * 6, none⟩)) (Pred.wanted_none rfl) (by go_simp) ⟨Pred.ext_refl _ _, rfl⟩
          · intro b X hE hd hn hV
            have r38 : b.tmps[38]?.getD undef = .pointer (some ⟨w.heap.size + 1 + 1 + 1 + 1, k2 * 6, none⟩) := hV 11 _ 38 rfl rfl (Pred.waits_near (by kernel_rfl) (by kernel_rfl))
            have q := (blk_below hE _ lQ).trans bQ
            exact Pred.yields_run (v := .agg (cs .i64 (sp Q k2))) (Pred.wanted_none rfl) (by go_simp; rw [piece_q]) ⟨Pred.ext_refl _ _, rfl⟩
          · intro b X hE hd hn hV
            have r29 : b.tmps[29]?.getD undef = .agg (cs .i64 (sp Q k)) := hV 2 _ 29 rfl rfl (Pred.waits_near (by kernel_rfl) (by kernel_rfl))
            have r34 : b.tmps[34]?.getD undef = .agg (cs .i64 (sp Q k1)) := hV 7 _ 34 rfl rfl (Pred.waits_near (by kernel_rfl) (by kernel_rfl))
            have r39 : b.tmps[39]?.getD undef = .agg (cs .i64 (sp Q k2)) := hV 12 _ 39 rfl rfl (Pred.waits_near (by kernel_rfl) (by kernel_rfl))
            exact Pred.yields_run (v := .agg (cs .i64 T)) (Pred.wanted_none rfl) ((exec_build_tri 29 34 39 rfl _ _ _ r29 r34 r39 m0 m1 m2).trans (by rw [ET.out])) ⟨Pred.ext_refl _ _, rfl⟩
          · intro b X hE hd hn hV
            have r40 : b.tmps[40]?.getD undef = .agg (cs .i64 T) := hV 13 _ 40 rfl rfl (Pred.waits_near (by kernel_rfl) (by kernel_rfl))
            refine Pred.yields_call (f := 8) (args := #[.agg (cs .i64 T)]) (Pred.wanted_none rfl) (by go_simp) ?_
            exact (CS.out _).mono fun e w2 ⟨he, hb⟩ => ⟨_, he, Pred.ext_below hb hE.size, rfl⟩
          · intro b X hE hd hn hV
            have r41 : b.tmps[41]?.getD undef = .bool true := hV 14 _ 41 rfl rfl (Pred.waits_near (by kernel_rfl) (by kernel_rfl))
            exact Pred.yields_run (v := .bool false) (Pred.wanted_none rfl) (by go_simp) ⟨Pred.ext_refl _ _, rfl⟩
          · intro b X hE hd hn hV
            have r42 : b.tmps[42]?.getD undef = .bool false := hV 15 _ 42 rfl rfl (Pred.waits_near (by kernel_rfl) (by kernel_rfl))
            exact Pred.yields_run (v := .bool false) (Pred.wanted_none rfl) (by go_simp) ⟨Pred.ext_refl _ _, rfl⟩
          · intro b X hE hd hn hV
            have r10 : b.tmps[10]?.getD undef = .int .i64 (k : Int) := (hn 10 (by kernel_rfl)).trans rfl
            have r43 : b.tmps[43]?.getD undef = .bool false := hV 16 _ 43 rfl rfl (Pred.waits_near (by kernel_rfl) (by kernel_rfl))
            exact Pred.yields_run (v := .int .i64 (k : Int)) ((Pred.wanted_at (g := 16) (d := 43) (f := false) rfl rfl r43).trans rfl) (by go_simp) ⟨Pred.ext_refl _ _, rfl⟩
          · intro b X hE hd hn hV
            have r9 : b.tmps[9]?.getD undef = .pointer (some ⟨w.heap.size + 1 + 1 + 1 + 1, 0, none⟩) := (hn 9 (by kernel_rfl)).trans rfl
            have r44 : b.tmps[44]?.getD undef = .int .i64 (k : Int) := hV 17 _ 44 rfl rfl (Pred.waits_near (by kernel_rfl) (by kernel_rfl))
            have r43 : b.tmps[43]?.getD undef = .bool false := hV 16 _ 43 rfl rfl (Pred.waits_near (by kernel_rfl) (by kernel_rfl))
            exact Pred.yields_run (v := .pointer (some ⟨w.heap.size + 1 + 1 + 1 + 1, k * 6, none⟩)) ((Pred.wanted_at (g := 16) (d := 43) (f := false) rfl rfl r43).trans rfl) (by go_simp) ⟨Pred.ext_refl _ _, rfl⟩
          · intro b X hE hd hn hV
            have r45 : b.tmps[45]?.getD undef = .pointer (some ⟨w.heap.size + 1 + 1 + 1 + 1, k * 6, none⟩) := hV 18 _ 45 rfl rfl (Pred.waits_near (by kernel_rfl) (by kernel_rfl))
            have r43 : b.tmps[43]?.getD undef = .bool false := hV 16 _ 43 rfl rfl (Pred.waits_near (by kernel_rfl) (by kernel_rfl))
            have q := (blk_below hE _ lQ).trans bQ
            exact Pred.yields_run (v := .agg (cs .i64 (sp Q k))) ((Pred.wanted_at (g := 16) (d := 43) (f := false) rfl rfl r43).trans rfl) (by go_simp; rw [piece_q]) ⟨Pred.ext_refl _ _, rfl⟩
          · intro b X hE hd hn hV
            have r10 : b.tmps[10]?.getD undef = .int .i64 (k : Int) := (hn 10 (by kernel_rfl)).trans rfl
            have r43 : b.tmps[43]?.getD undef = .bool false := hV 16 _ 43 rfl rfl (Pred.waits_near (by kernel_rfl) (by kernel_rfl))
            exact Pred.yields_run (v := .int .i64 (k : Int)) ((Pred.wanted_at (g := 16) (d := 43) (f := false) rfl rfl r43).trans rfl) (by go_simp) ⟨Pred.ext_refl _ _, rfl⟩
          · intro b X hE hd hn hV
            have r47 : b.tmps[47]?.getD undef = .int .i64 (k : Int) := hV 20 _ 47 rfl rfl (Pred.waits_near (by kernel_rfl) (by kernel_rfl))
            have r43 : b.tmps[43]?.getD undef = .bool false := hV 16 _ 43 rfl rfl (Pred.waits_near (by kernel_rfl) (by kernel_rfl))
            exact Pred.yields_run (v := .int .i64 ((k : Int) + 1)) ((Pred.wanted_at (g := 16) (d := 43) (f := false) rfl rfl r43).trans rfl) (by go_simp; exact IntWalk.i64_in _ (by omega)) ⟨Pred.ext_refl _ _, rfl⟩
          · intro b X hE hd hn hV
            have r48 : b.tmps[48]?.getD undef = .int .i64 ((k : Int) + 1) := hV 21 _ 48 rfl rfl (Pred.waits_near (by kernel_rfl) (by kernel_rfl))
            have r43 : b.tmps[43]?.getD undef = .bool false := hV 16 _ 43 rfl rfl (Pred.waits_near (by kernel_rfl) (by kernel_rfl))
            exact Pred.yields_run (v := .int .i64 (k1 : Int)) ((Pred.wanted_at (g := 16) (d := 43) (f := false) rfl rfl r43).trans rfl) (by go_simp; exact E1.out) ⟨Pred.ext_refl _ _, rfl⟩
          · intro b X hE hd hn hV
            have r9 : b.tmps[9]?.getD undef = .pointer (some ⟨w.heap.size + 1 + 1 + 1 + 1, 0, none⟩) := (hn 9 (by kernel_rfl)).trans rfl
            have r49 : b.tmps[49]?.getD undef = .int .i64 (k1 : Int) := hV 22 _ 49 rfl rfl (Pred.waits_near (by kernel_rfl) (by kernel_rfl))
            have r43 : b.tmps[43]?.getD undef = .bool false := hV 16 _ 43 rfl rfl (Pred.waits_near (by kernel_rfl) (by kernel_rfl))
            exact Pred.yields_run (v := .pointer (some ⟨w.heap.size + 1 + 1 + 1 + 1, k1 * 6, none⟩)) ((Pred.wanted_at (g := 16) (d := 43) (f := false) rfl rfl r43).trans rfl) (by go_simp) ⟨Pred.ext_refl _ _, rfl⟩
          · intro b X hE hd hn hV
            have r50 : b.tmps[50]?.getD undef = .pointer (some ⟨w.heap.size + 1 + 1 + 1 + 1, k1 * 6, none⟩) := hV 23 _ 50 rfl rfl (Pred.waits_near (by kernel_rfl) (by kernel_rfl))
            have r43 : b.tmps[43]?.getD undef = .bool false := hV 16 _ 43 rfl rfl (Pred.waits_near (by kernel_rfl) (by kernel_rfl))
            have q := (blk_below hE _ lQ).trans bQ
            exact Pred.yields_run (v := .agg (cs .i64 (sp Q k1))) ((Pred.wanted_at (g := 16) (d := 43) (f := false) rfl rfl r43).trans rfl) (by go_simp; rw [piece_q]) ⟨Pred.ext_refl _ _, rfl⟩
          · intro b X hE hd hn hV
            have r10 : b.tmps[10]?.getD undef = .int .i64 (k : Int) := (hn 10 (by kernel_rfl)).trans rfl
            have r43 : b.tmps[43]?.getD undef = .bool false := hV 16 _ 43 rfl rfl (Pred.waits_near (by kernel_rfl) (by kernel_rfl))
            exact Pred.yields_run (v := .int .i64 (k : Int)) ((Pred.wanted_at (g := 16) (d := 43) (f := false) rfl rfl r43).trans rfl) (by go_simp) ⟨Pred.ext_refl _ _, rfl⟩
          · intro b X hE hd hn hV
            have r52 : b.tmps[52]?.getD undef = .int .i64 (k : Int) := hV 25 _ 52 rfl rfl (Pred.waits_near (by kernel_rfl) (by kernel_rfl))
            have r43 : b.tmps[43]?.getD undef = .bool false := hV 16 _ 43 rfl rfl (Pred.waits_near (by kernel_rfl) (by kernel_rfl))
            exact Pred.yields_run (v := .int .i64 ((k : Int) + 2)) ((Pred.wanted_at (g := 16) (d := 43) (f := false) rfl rfl r43).trans rfl) (by go_simp; exact IntWalk.i64_in _ (by omega)) ⟨Pred.ext_refl _ _, rfl⟩
          · intro b X hE hd hn hV
            have r53 : b.tmps[53]?.getD undef = .int .i64 ((k : Int) + 2) := hV 26 _ 53 rfl rfl (Pred.waits_near (by kernel_rfl) (by kernel_rfl))
            have r43 : b.tmps[43]?.getD undef = .bool false := hV 16 _ 43 rfl rfl (Pred.waits_near (by kernel_rfl) (by kernel_rfl))
            exact Pred.yields_run (v := .int .i64 (k2 : Int)) ((Pred.wanted_at (g := 16) (d := 43) (f := false) rfl rfl r43).trans rfl) (by go_simp; exact E2.out) ⟨Pred.ext_refl _ _, rfl⟩
          · intro b X hE hd hn hV
            have r9 : b.tmps[9]?.getD undef = .pointer (some ⟨w.heap.size + 1 + 1 + 1 + 1, 0, none⟩) := (hn 9 (by kernel_rfl)).trans rfl
            have r54 : b.tmps[54]?.getD undef = .int .i64 (k2 : Int) := hV 27 _ 54 rfl rfl (Pred.waits_near (by kernel_rfl) (by kernel_rfl))
            have r43 : b.tmps[43]?.getD undef = .bool false := hV 16 _ 43 rfl rfl (Pred.waits_near (by kernel_rfl) (by kernel_rfl))
            exact Pred.yields_run (v := .pointer (some ⟨w.heap.size + 1 + 1 + 1 + 1, k2 * 6, none⟩)) ((Pred.wanted_at (g := 16) (d := 43) (f := false) rfl rfl r43).trans rfl) (by go_simp) ⟨Pred.ext_refl _ _, rfl⟩
          · intro b X hE hd hn hV
            have r55 : b.tmps[55]?.getD undef = .pointer (some ⟨w.heap.size + 1 + 1 + 1 + 1, k2 * 6, none⟩) := hV 28 _ 55 rfl rfl (Pred.waits_near (by kernel_rfl) (by kernel_rfl))
            have r43 : b.tmps[43]?.getD undef = .bool false := hV 16 _ 43 rfl rfl (Pred.waits_near (by kernel_rfl) (by kernel_rfl))
            have q := (blk_below hE _ lQ).trans bQ
            exact Pred.yields_run (v := .agg (cs .i64 (sp Q k2))) ((Pred.wanted_at (g := 16) (d := 43) (f := false) rfl rfl r43).trans rfl) (by go_simp; rw [piece_q]) ⟨Pred.ext_refl _ _, rfl⟩
          · intro b X hE hd hn hV
            have r46 : b.tmps[46]?.getD undef = .agg (cs .i64 (sp Q k)) := hV 19 _ 46 rfl rfl (Pred.waits_near (by kernel_rfl) (by kernel_rfl))
            have r51 : b.tmps[51]?.getD undef = .agg (cs .i64 (sp Q k1)) := hV 24 _ 51 rfl rfl (Pred.waits_near (by kernel_rfl) (by kernel_rfl))
            have r56 : b.tmps[56]?.getD undef = .agg (cs .i64 (sp Q k2)) := hV 29 _ 56 rfl rfl (Pred.waits_near (by kernel_rfl) (by kernel_rfl))
            have r43 : b.tmps[43]?.getD undef = .bool false := hV 16 _ 43 rfl rfl (Pred.waits_near (by kernel_rfl) (by kernel_rfl))
            exact Pred.yields_run (v := .agg (cs .i64 T)) ((Pred.wanted_at (g := 16) (d := 43) (f := false) rfl rfl r43).trans rfl) ((exec_build_tri 46 51 56 rfl _ _ _ r46 r51 r56 m0 m1 m2).trans (by rw [ET.out])) ⟨Pred.ext_refl _ _, rfl⟩
          · intro b X hE hd hn hV
            have r57 : b.tmps[57]?.getD undef = .agg (cs .i64 T) := hV 30 _ 57 rfl rfl (Pred.waits_near (by kernel_rfl) (by kernel_rfl))
            have r43 : b.tmps[43]?.getD undef = .bool false := hV 16 _ 43 rfl rfl (Pred.waits_near (by kernel_rfl) (by kernel_rfl))
            refine Pred.yields_call (f := 15) (args := #[.agg (cs .i64 T)]) ((Pred.wanted_at (g := 16) (d := 43) (f := false) rfl rfl r43).trans rfl) (by go_simp) ?_
            exact (CA.out _).mono fun e w2 ⟨he, hb⟩ => ⟨_, he, Pred.ext_below hb hE.size, rfl⟩
          · intro b X hE hd hn hV
            have r58 : b.tmps[58]?.getD undef = .int .i64 ar := hV 31 _ 58 rfl rfl (Pred.waits_near (by kernel_rfl) (by kernel_rfl))
            have r43 : b.tmps[43]?.getD undef = .bool false := hV 16 _ 43 rfl rfl (Pred.waits_near (by kernel_rfl) (by kernel_rfl))
            exact Pred.yields_run (v := .bool false) ((Pred.wanted_at (g := 16) (d := 43) (f := false) rfl rfl r43).trans rfl) (by go_simp) ⟨Pred.ext_refl _ _, rfl⟩
          · intro b X hE hd hn hV
            have r43 : b.tmps[43]?.getD undef = .bool false := hV 16 _ 43 rfl rfl (Pred.waits_near (by kernel_rfl) (by kernel_rfl))
            have r59 : b.tmps[59]?.getD undef = .bool false := hV 32 _ 59 rfl rfl (Pred.waits_near (by kernel_rfl) (by kernel_rfl))
            exact Pred.yields_run (v := .bool false) (Pred.wanted_none rfl) (by go_simp) ⟨Pred.ext_refl _ _, rfl⟩
        intro v w5 hE hv
        have e0 : v 0 = .int .i64 (k : Int) := hv 0 _ 27 rfl rfl
        have e1 : v 1 = .pointer (some ⟨w.heap.size + 1 + 1 + 1 + 1, k * 6, none⟩) := hv 1 _ 28 rfl rfl
        have e2 : v 2 = .agg (cs .i64 (sp Q k)) := hv 2 _ 29 rfl rfl
        have e3 : v 3 = .int .i64 (k : Int) := hv 3 _ 30 rfl rfl
        have e4 : v 4 = .int .i64 ((k : Int) + 1) := hv 4 _ 31 rfl rfl
        have e5 : v 5 = .int .i64 (k1 : Int) := hv 5 _ 32 rfl rfl
        have e6 : v 6 = .pointer (some ⟨w.heap.size + 1 + 1 + 1 + 1, k1 * 6, none⟩) := hv 6 _ 33 rfl rfl
        have e7 : v 7 = .agg (cs .i64 (sp Q k1)) := hv 7 _ 34 rfl rfl
        have e8 : v 8 = .int .i64 (k : Int) := hv 8 _ 35 rfl rfl
        have e9 : v 9 = .int .i64 ((k : Int) + 2) := hv 9 _ 36 rfl rfl
        have e10 : v 10 = .int .i64 (k2 : Int) := hv 10 _ 37 rfl rfl
        have e11 : v 11 = .pointer (some ⟨w.heap.size + 1 + 1 + 1 + 1, k2 * 6, none⟩) := hv 11 _ 38 rfl rfl
        have e12 : v 12 = .agg (cs .i64 (sp Q k2)) := hv 12 _ 39 rfl rfl
        have e13 : v 13 = .agg (cs .i64 T) := hv 13 _ 40 rfl rfl
        have e14 : v 14 = .bool true := hv 14 _ 41 rfl rfl
        have e15 : v 15 = .bool false := hv 15 _ 42 rfl rfl
        have e16 : v 16 = .bool false := hv 16 _ 43 rfl rfl
        have e17 : v 17 = .int .i64 (k : Int) := hv 17 _ 44 rfl rfl
        have e18 : v 18 = .pointer (some ⟨w.heap.size + 1 + 1 + 1 + 1, k * 6, none⟩) := hv 18 _ 45 rfl rfl
        have e19 : v 19 = .agg (cs .i64 (sp Q k)) := hv 19 _ 46 rfl rfl
        have e20 : v 20 = .int .i64 (k : Int) := hv 20 _ 47 rfl rfl
        have e21 : v 21 = .int .i64 ((k : Int) + 1) := hv 21 _ 48 rfl rfl
        have e22 : v 22 = .int .i64 (k1 : Int) := hv 22 _ 49 rfl rfl
        have e23 : v 23 = .pointer (some ⟨w.heap.size + 1 + 1 + 1 + 1, k1 * 6, none⟩) := hv 23 _ 50 rfl rfl
        have e24 : v 24 = .agg (cs .i64 (sp Q k1)) := hv 24 _ 51 rfl rfl
        have e25 : v 25 = .int .i64 (k : Int) := hv 25 _ 52 rfl rfl
        have e26 : v 26 = .int .i64 ((k : Int) + 2) := hv 26 _ 53 rfl rfl
        have e27 : v 27 = .int .i64 (k2 : Int) := hv 27 _ 54 rfl rfl
        have e28 : v 28 = .pointer (some ⟨w.heap.size + 1 + 1 + 1 + 1, k2 * 6, none⟩) := hv 28 _ 55 rfl rfl
        have e29 : v 29 = .agg (cs .i64 (sp Q k2)) := hv 29 _ 56 rfl rfl
        have e30 : v 30 = .agg (cs .i64 T) := hv 30 _ 57 rfl rfl
        have e31 : v 31 = .int .i64 ar := hv 31 _ 58 rfl rfl
        have e32 : v 32 = .bool false := hv 32 _ 59 rfl rfl
        have e33 : v 33 = .bool false := hv 33 _ 60 rfl rfl
        simp only [Pred.putsF_cons, Pred.putsF_nil, Nat.zero_add, Nat.reduceAdd, e0, e1, e2, e3, e4, e5, e6, e7, e8, e9, e10, e11, e12, e13, e14, e15, e16, e17, e18, e19, e20, e21, e22, e23, e24, e25, e26, e27, e28, e29, e30, e31, e32, e33, Act.put, List.setIfInBounds_toArray, List.set_cons_zero, List.set_cons_succ]
        clear e0 e1 e2 e3 e4 e5 e6 e7 e8 e9 e10 e11 e12 e13 e14 e15 e16 e17 e18 e19 e20 e21 e22 e23 e24 e25 e26 e27 e28 e29 e30 e31 e32 e33 hv
        have L5 : Below w.heap.size w w5 := LY.trans (hE.mono LY.size)
        have FN := Lib.hid (g_step (P := fun j => smallB (qT Q j) = true ∧ 0 < area (qT Q j)) HF.out (by rw [HT.out, SM.out, EAR.out]; exact ⟨rfl, by omega⟩))
        replace bA := (blk_below hE _ (blk_lt bA)).trans bA
        replace bB := (blk_below hE _ (blk_lt bB)).trans bB
        replace bC := (blk_below hE _ (blk_lt bC)).trans bC
        replace bD := (blk_below hE _ (blk_lt bD)).trans bD
        replace bQ := (blk_below hE _ (blk_lt bQ)).trans bQ
        clear hE LY lQ
        go_wp2
        exact ⟨⟨k + 1, by omega, by go_num, FN, bA, bB, bC, bD, bQ, L5⟩, by simp [intOf]; omega⟩
    · obtain rfl : k = 4 := by omega
      as_aux_lemma =>
      obtain ⟨hTri, hTot⟩ := shares_math ha hb hc hd EQ.out HF.out
      have HTri := Lib.hid hTri
      have HTot := Lib.hid hTot
      have lA := blk_lt bA
      have lB := blk_lt bB
      have lC := blk_lt bC
      have lD := blk_lt bD
      have t0 : (a ++ b ++ c).length = 18 := by simp [ha, hb, hc]
      have t1 : (a ++ c ++ d).length = 18 := by simp [ha, hc, hd]
      have t2 : (b ++ c ++ d).length = 18 := by simp [hb, hc, hd]
      have t3 : (b ++ d ++ a).length = 18 := by simp [hb, hd, ha]
      obtain ⟨T0, eT0⟩ : ∃ T, a ++ b ++ c = T := ⟨_, rfl⟩
      obtain ⟨T1, eT1⟩ : ∃ T, a ++ c ++ d = T := ⟨_, rfl⟩
      obtain ⟨T2, eT2⟩ : ∃ T, b ++ c ++ d = T := ⟨_, rfl⟩
      obtain ⟨T3, eT3⟩ : ∃ T, b ++ d ++ a = T := ⟨_, rfl⟩
      rw [eT0] at t0
      rw [eT1] at t1
      rw [eT2] at t2
      rw [eT3] at t3
      have ELL : Hid (T0 ++ T1 ++ T2 ++ T3 = lL a b c d) := Lib.hid (by rw [← eT0, ← eT1, ← eT2, ← eT3]; rfl)
      have ET0 := Lib.hid eT0
      have ET1 := Lib.hid eT1
      have ET2 := Lib.hid eT2
      have ET3 := Lib.hid eT3
      have hz72 := zeros72_len
      clear eT0 eT1 eT2 eT3
      have hl72 : (lL a b c d).length = 72 := by simp [lL, ha, hb, hc, hd]
      clear hTri hTot HF bQ
      go_upto_region 9 with (first | (refine wpList_build_triN rfl (.tmp 62) (.tmp 63) (.tmp 64) rfl a b c T0 rfl rfl rfl ha hb hc ET0.out ?_) | (refine wpList_build_triN rfl (.tmp 66) (.tmp 67) (.tmp 68) rfl a c d T1 rfl rfl rfl ha hc hd ET1.out ?_) | (refine wpList_build_triN rfl (.tmp 70) (.tmp 71) (.tmp 72) rfl b c d T2 rfl rfl rfl hb hc hd ET2.out ?_) | (refine wpList_build_triN rfl (.tmp 74) (.tmp 75) (.tmp 76) rfl b d a T3 rfl rfl rfl hb hd ha ET3.out ?_) | (refine wpList_build_l rfl (.tmp 65) (.tmp 69) (.tmp 73) (.tmp 77) rfl T0 T1 T2 T3 (lL a b c d) rfl rfl rfl rfl t0 t1 t2 t3 ELL.out ?_))
      refine Rd.name_world ?_
      intro W hW
      have hwY := LY.size
      have LW : Below w.heap.size w W := by
        rw [hW]
        repeat' (first | (with_reducible exact Below.refl _ _) | (with_reducible refine Rd.below_step ?_ (by assumption)) | (with_reducible refine Rd.below_alloc ?_ _) | (with_reducible refine Rd.below_drewN ?_ _) | (with_reducible refine Below.drew ?_) | (with_reducible refine Below.setCell ?_ ?_ _) | (with_reducible refine Rd.below_setRow ?_ ?_ _) | go_size | (simp only [World.size_alloc]; omega) | omega)
      obtain ⟨y0, ey⟩ : ∃ y, Y.heap.size = y := ⟨_, rfl⟩
      have bN : blk W y0 = some (.cells (cs .i64 (arrL 1024 (cnt 32 (dN a b c d 0)))) 43 (0, 0)) := by
        rw [show arrL 1024 (cnt 32 (dN a b c d 0)) = zerosL from arr_zero _ _ fun i => rfl, hW, ← ey]; exact blk3_0 _ _ _ _
      have bM : blk W (y0 + 1) = some (.cells (cs .i64 (arrL 1024 (cnt 32 (dM a b c d 0)))) 43 (0, 0)) := by
        rw [show arrL 1024 (cnt 32 (dM a b c d 0)) = zerosL from arr_zero _ _ fun i => rfl, hW, ← ey]; exact blk3_1 _ _ _ _
      have bL : blk W (y0 + 1 + 1) = some (.cells (cs .i64 (lL a b c d)) 44 (0, 0)) := by rw [hW, ← ey]; exact blk3_2 _ _ _ _
      rw [ey] at hwY ⊢
      clear hW ey LY bA bB bC bD lA lB lC lD t0 t1 t2 t3
      go_wp2_with fail
      go_loopw [14] (fun i X => ∃ k : Nat, k ≤ 4 ∧ i = .int .i64 k ∧ blk X y0 = some (.cells (cs .i64 (arrL 1024 (cnt 32 (dN a b c d k)))) 43 (0, 0)) ∧ blk X (y0 + 1) = some (.cells (cs .i64 (arrL 1024 (cnt 32 (dM a b c d k)))) 43 (0, 0)) ∧ blk X (y0 + 1 + 1) = some (.cells (cs .i64 (lL a b c d)) 44 (0, 0)) ∧ Below w.heap.size w X) (fun i _ => 4 - (intOf i).toNat)
      case atStart => exact ⟨0, by omega, rfl, bN, bM, bL, LW⟩
      case round =>
        obtain ⟨k, hk', rfl, BN, BM, BL, hb9⟩ := hrel
        rename World => Y2
        clear bN bM bL LW
        have bN : blk Y2 y0 = some (.cells (cs .i64 (arrL 1024 (cnt 32 (dN a b c d k)))) 43 (0, 0)) := BN
        have bM : blk Y2 (y0 + 1) = some (.cells (cs .i64 (arrL 1024 (cnt 32 (dM a b c d k)))) 43 (0, 0)) := BM
        have bL : blk Y2 (y0 + 1 + 1) = some (.cells (cs .i64 (lL a b c d)) 44 (0, 0)) := BL
        clear BN BM BL
        by_cases hlt : k < 4
        · have hlt' : (k : Int) < 4 := by omega
          have hT := HTri.out k hlt
          have PL := piece_l ha hb hc hd hlt
          have hk18 : k * 18 + 18 ≤ 72 := by omega
          obtain ⟨T, eT⟩ : ∃ T, sT a b c d k = T := ⟨_, rfl⟩
          rw [eT] at hT PL
          have ET := Lib.hid eT
          have CALL : Hid (∀ X : World, Calls Try.prog 18 #[.agg (cs .i64 T), .int .i64 32, .int .i64 32, .int .i64 (-1)] X fun e w' => (∃ a c, e = .returned (.slice a (pixV T 32 32).length c) ∧ HitAt w' a (pixV T 32 32) ∧ ∀ b o, a = some ⟨b, o, none⟩ → X.heap.size ≤ b) ∧ Below X.heap.size X w') := Lib.hid fun X => all32f T hT 32 32 X
          rw [pix_len] at CALL
          obtain ⟨N, eN⟩ : ∃ N, (frameC T 32 32).length = N := ⟨_, rfl⟩
          have hN1 : N ≤ 1024 := by have := frameC_small T 32 32; rw [eN] at this; exact this
          rw [eN] at CALL
          have EN := Lib.hid eN
          have lN := blk_lt bN
          have lM := blk_lt bM
          have lLL := blk_lt bL
          clear eN eT
          go_wp2_with fail
          refine (CALL.out _).mono ?_
          rintro e w9 ⟨⟨ga, ca, rfl, HA, HFr'⟩, hbb⟩
          have HA0 := Lib.hid HA
          have HFr := Lib.hid HFr'
          replace bN := (blk_below hbb _ lN).trans bN
          replace bM := (blk_below hbb _ lM).trans bM
          replace bL := (blk_below hbb _ lLL).trans bL
          have L9 : Below w.heap.size w w9 := hb9.trans (hbb.mono hb9.size)
          clear HA HFr' hbb hb9 PL CALL hk18
          by_cases hk2 : k < 2
          · as_aux_lemma =>
            have dk : decide ((k : Int) < 2) = true := decide_eq_true (by omega)
            have hk2' : (k : Int) < 2 := by omega
            go_wp2_with fail
            go_loopw [16] (fun i X => ∃ j : Nat, j ≤ N ∧ i = .int .i64 j ∧ blk X y0 = some (.cells (cs .i64 (arrL 1024 (cnt 32 (dN a b c d k ++ (frameC T 32 32).take j)))) 43 (0, 0)) ∧ blk X (y0 + 1) = some (.cells (cs .i64 (arrL 1024 (cnt 32 (dM a b c d k)))) 43 (0, 0)) ∧ blk X (y0 + 1 + 1) = some (.cells (cs .i64 (lL a b c d)) 44 (0, 0)) ∧ Hid (HitAt X ga (pixV T 32 32)) ∧ Below w.heap.size w X) (fun i _ => N - (intOf i).toNat)
            case atStart => exact ⟨0, by omega, rfl, by first | exact bN | (rw [List.take_zero, List.append_nil]; exact bN), by first | exact bM | (rw [List.take_zero, List.append_nil]; exact bM), bL, HA0, L9⟩
            case round =>
              obtain ⟨j, hj, rfl, BN, BM, BL, HA, hb⟩ := hrel
              rename World => Z
              clear bN bM bL L9 HA0
              by_cases hjl : j < N
              · have hjl' : (j : Int) < N := by omega
                have hjF : j < (frameC T 32 32).length := by rw [EN.out]; exact hjl
                obtain ⟨px, py, ep, hpx, hpy, hplc, hidx⟩ := plc_frame (w := 32) (h := 32) (by omega) (frameC_mem (List.getElem_mem hjF)).1
                have q1 := pix_at hjF
                rw [ep] at q1 hplc
                obtain ⟨gx, ox, e1, b1, c1⟩ := hit_some HA.out (by rw [pix_len, EN.out]; omega)
                have hfr := HFr.out gx ox e1
                subst e1
                obtain ⟨x0, x1, -, -, -⟩ := hit_five_at c1 (Below.refl Z.heap.size Z) b1 (by rw [pix_len]; exact hjF) q1
                obtain ⟨n, en⟩ : ∃ n : Nat, py * 32 + px = n := ⟨_, rfl⟩
                rw [en] at hplc hidx
                have hnl : n < 1024 := by omega
                have EQN : 32 * (py : Int) + px = (n : Int) := by omega
                have hni : (n : Int) < 1024 := by omega
                have hpx0 : ¬ (px : Int) < 0 := by omega
                have hpx1 : ¬ 31 < (px : Int) := by omega
                have hpy1 : ¬ 31 < (py : Int) := by omega
                have dx1 : decide (31 < (px : Int)) = false := decide_eq_false hpx1
                have dy1 : decide (31 < (py : Int)) = false := decide_eq_false hpy1
                have dx2 : decide (31 < px) = false := decide_eq_false (by omega)
                have dy2 : decide (31 < py) = false := decide_eq_false (by omega)
                obtain ⟨cc, ec⟩ : ∃ c', cnt 32 (dN a b c d k ++ (frameC T 32 32).take j) n = c' := ⟨_, rfl⟩
                have hcb : 0 ≤ cc ∧ cc ≤ 5120 := by
                  rw [← ec]
                  exact (d_bd (by omega) T).1
                obtain ⟨hc0, hc1⟩ := hcb
                have cN : Z.cell? ⟨y0, n, none⟩ = some (.int .i64 cc) := by rw [blk_cell BN, ← ec]; exact cs_at (arr_at hnl)
                have fN := blk_frozen BN n
                have HB := Lib.hid BN
                have HO := Lib.hid BM
                have HL := Lib.hid BL
                have EF : Hid ((frameC T 32 32)[j]? = some ((px : Int), (py : Int))) := Lib.hid (by rw [List.getElem?_eq_getElem hjF, ep])
                have HC := Lib.hid ec
                have HP := Lib.hid hplc
                clear BN BM BL ec ep hplc q1 c1 en hidx hjF
                go_wp2
                (refine Reg.quiet_tail 16 (by kernel_rfl) (by kernel_rfl) ?_; simp only [List.take_succ_cons, List.take_zero, List.drop_succ_cons, List.drop_zero]; (repeat go_big_quiet_step (fail)); refine wpQuiet_nil ?_)
                go_wp2
                have eS : ∀ X : World, X = Z → blk (X.setCell ⟨y0, n, none⟩ (.int .i64 (cc + 1))) y0 = some (.cells (cs .i64 (arrL 1024 (cnt 32 (dN a b c d k ++ (frameC T 32 32).take (j + 1))))) 43 (0, 0)) := fun X hX => by
                  have e := blk_set Z y0 n (.int .i64 (cc + 1)) _ _ HB.out
                  rw [set_cs, cnt_set HP.out HC.out] at e
                  rw [hX, e, List.take_add_one, EF.out, ← List.append_assoc]
                  rfl
                refine ⟨⟨j + 1, by omega, by go_num, ?_, ?_, ?_, ?_, ?_⟩, by simp [intOf]; omega⟩
                · rw [blk_drew]
                  exact eS Z rfl
                · rw [blk_drew, blk_set_far' _ _ _ _ (show y0 < y0 + 1 by omega)]
                  exact HO.out
                · rw [blk_drew, blk_set_far' _ _ _ _ (show y0 < y0 + 1 + 1 by omega)]
                  exact HL.out
                · exact Lib.hid (hit_set HA.out (show y0 < gx by omega) _ _)
                · exact (Below.setCell hb (show w.heap.size ≤ y0 by omega) _).drew
              · obtain rfl : j = N := by omega
                rw [List.take_of_length_le (by rw [EN.out]; exact Nat.le_refl _), ← ET.out, ← (dN_lo hk2).1] at BN
                rw [← (dN_lo hk2).2] at BM
                go_wp2
                exact ⟨⟨k + 1, by omega, by go_num, BN, BM, BL, hb⟩, by simp [intOf]; omega⟩
          · as_aux_lemma =>
            have dk : decide ((k : Int) < 2) = false := decide_eq_false (by omega)
            have hk2' : ¬ (k : Int) < 2 := by omega
            go_wp2_with fail
            go_loopw [16] (fun i X => ∃ j : Nat, j ≤ N ∧ i = .int .i64 j ∧ blk X y0 = some (.cells (cs .i64 (arrL 1024 (cnt 32 (dN a b c d k)))) 43 (0, 0)) ∧ blk X (y0 + 1) = some (.cells (cs .i64 (arrL 1024 (cnt 32 (dM a b c d k ++ (frameC T 32 32).take j)))) 43 (0, 0)) ∧ blk X (y0 + 1 + 1) = some (.cells (cs .i64 (lL a b c d)) 44 (0, 0)) ∧ Hid (HitAt X ga (pixV T 32 32)) ∧ Below w.heap.size w X) (fun i _ => N - (intOf i).toNat)
            case atStart => exact ⟨0, by omega, rfl, by first | exact bN | (rw [List.take_zero, List.append_nil]; exact bN), by first | exact bM | (rw [List.take_zero, List.append_nil]; exact bM), bL, HA0, L9⟩
            case round =>
              obtain ⟨j, hj, rfl, BN, BM, BL, HA, hb⟩ := hrel
              rename World => Z
              clear bN bM bL L9 HA0
              by_cases hjl : j < N
              · have hjl' : (j : Int) < N := by omega
                have hjF : j < (frameC T 32 32).length := by rw [EN.out]; exact hjl
                obtain ⟨px, py, ep, hpx, hpy, hplc, hidx⟩ := plc_frame (w := 32) (h := 32) (by omega) (frameC_mem (List.getElem_mem hjF)).1
                have q1 := pix_at hjF
                rw [ep] at q1 hplc
                obtain ⟨gx, ox, e1, b1, c1⟩ := hit_some HA.out (by rw [pix_len, EN.out]; omega)
                have hfr := HFr.out gx ox e1
                subst e1
                obtain ⟨x0, x1, -, -, -⟩ := hit_five_at c1 (Below.refl Z.heap.size Z) b1 (by rw [pix_len]; exact hjF) q1
                obtain ⟨n, en⟩ : ∃ n : Nat, py * 32 + px = n := ⟨_, rfl⟩
                rw [en] at hplc hidx
                have hnl : n < 1024 := by omega
                have EQN : 32 * (py : Int) + px = (n : Int) := by omega
                have hni : (n : Int) < 1024 := by omega
                have hpx0 : ¬ (px : Int) < 0 := by omega
                have hpx1 : ¬ 31 < (px : Int) := by omega
                have hpy1 : ¬ 31 < (py : Int) := by omega
                have dx1 : decide (31 < (px : Int)) = false := decide_eq_false hpx1
                have dy1 : decide (31 < (py : Int)) = false := decide_eq_false hpy1
                have dx2 : decide (31 < px) = false := decide_eq_false (by omega)
                have dy2 : decide (31 < py) = false := decide_eq_false (by omega)
                obtain ⟨cc, ec⟩ : ∃ c', cnt 32 (dM a b c d k ++ (frameC T 32 32).take j) n = c' := ⟨_, rfl⟩
                have hcb : 0 ≤ cc ∧ cc ≤ 5120 := by
                  rw [← ec]
                  exact (d_bd (by omega) T).2
                obtain ⟨hc0, hc1⟩ := hcb
                have cN : Z.cell? ⟨(y0 + 1), n, none⟩ = some (.int .i64 cc) := by rw [blk_cell BM, ← ec]; exact cs_at (arr_at hnl)
                have fN := blk_frozen BM n
                have HB := Lib.hid BM
                have HO := Lib.hid BN
                have HL := Lib.hid BL
                have EF : Hid ((frameC T 32 32)[j]? = some ((px : Int), (py : Int))) := Lib.hid (by rw [List.getElem?_eq_getElem hjF, ep])
                have HC := Lib.hid ec
                have HP := Lib.hid hplc
                clear BN BM BL ec ep hplc q1 c1 en hidx hjF
                go_wp2
                (refine Reg.quiet_tail 16 (by kernel_rfl) (by kernel_rfl) ?_; simp only [List.take_succ_cons, List.take_zero, List.drop_succ_cons, List.drop_zero]; (repeat go_big_quiet_step (fail)); refine wpQuiet_nil ?_)
                go_wp2
                have eS : ∀ X : World, X = Z → blk (X.setCell ⟨(y0 + 1), n, none⟩ (.int .i64 (cc + 1))) (y0 + 1) = some (.cells (cs .i64 (arrL 1024 (cnt 32 (dM a b c d k ++ (frameC T 32 32).take (j + 1))))) 43 (0, 0)) := fun X hX => by
                  have e := blk_set Z (y0 + 1) n (.int .i64 (cc + 1)) _ _ HB.out
                  rw [set_cs, cnt_set HP.out HC.out] at e
                  rw [hX, e, List.take_add_one, EF.out, ← List.append_assoc]
                  rfl
                refine ⟨⟨j + 1, by omega, by go_num, ?_, ?_, ?_, ?_, ?_⟩, by simp [intOf]; omega⟩
                · rw [blk_drew, blk_set_far _ _ _ _ (show y0 < y0 + 1 by omega)]
                  exact HO.out
                · rw [blk_drew]
                  exact eS Z rfl
                · rw [blk_drew, blk_set_far' _ _ _ _ (show y0 + 1 < y0 + 1 + 1 by omega)]
                  exact HL.out
                · exact Lib.hid (hit_set HA.out (show y0 + 1 < gx by omega) _ _)
                · exact (Below.setCell hb (show w.heap.size ≤ y0 + 1 by omega) _).drew
              · obtain rfl : j = N := by omega
                rw [List.take_of_length_le (by rw [EN.out]; exact Nat.le_refl _), ← ET.out, ← (dN_hi (by omega) hlt).1] at BM
                rw [← (dN_hi (by omega) hlt).2] at BN
                go_wp2
                exact ⟨⟨k + 1, by omega, by go_num, BN, BM, BL, hb⟩, by simp [intOf]; omega⟩
        · obtain rfl : k = 4 := by omega
          as_aux_lemma =>
          rw [(d_four a b c d).1] at bN
          rw [(d_four a b c d).2] at bM
          have HN := Lib.hid bN
          have HM := Lib.hid bM
          have lN := blk_lt bN
          have lM := blk_lt bM
          clear bN bM bL
          go_wp2_with fail
          go_loopw [17] (fun i X => ∃ m : Nat, m ≤ 1024 ∧ i = .int .i64 m ∧ Below Y2.heap.size Y2 X) (fun i _ => 1024 - (intOf i).toNat)
          case atStart => exact ⟨0, by omega, rfl, Below.refl _ _⟩
          case round =>
            obtain ⟨m, hm, rfl, hbm⟩ := hrel
            rename World => Z
            by_cases hml : m < 1024
            · have hml' : (m : Int) < 1024 := by omega
              obtain ⟨z1, z2, z3⟩ := HTot.out m hml
              obtain ⟨v, ev⟩ : ∃ v, cnt 32 (frameC (sT a b c d 0) 32 32 ++ frameC (sT a b c d 1) 32 32) m = v := ⟨_, rfl⟩
              rw [ev] at z1 z2 z3
              have cN : Z.cell? ⟨y0, m, none⟩ = some (.int .i64 v) := by rw [blk_cell ((blk_below hbm _ lN).trans HN.out), ← ev]; exact cs_at (arr_at hml)
              have cM : Z.cell? ⟨y0 + 1, m, none⟩ = some (.int .i64 v) := by rw [blk_cell ((blk_below hbm _ lM).trans HM.out), z1]; exact cs_at (arr_at hml)
              have dv : decide (1 < v) = false := decide_eq_false (by omega)
              clear ev z1
              go_wp2_with fail
              go_quiet (fail)
              go_wp2
              exact ⟨⟨m + 1, by omega, by go_num, Rd.below_drewN hbm _⟩, by simp [intOf]; omega⟩
            · obtain rfl : m = 1024 := by omega
              have LZ : Below w.heap.size w Z := hb9.trans (hbm.mono hb9.size)
              go_wp2_with fail
              refine (awake_any _).mono ?_
              rintro e w6 ⟨rfl, hb6⟩
              have L6 : Below w.heap.size w w6 := LZ.trans (hb6.mono LZ.size)
              clear hb6
              go_wp2
              go_ret
              exact ⟨rfl, L6⟩

end Go.Proofs.Ythkfnjblmilgnaa.EdR

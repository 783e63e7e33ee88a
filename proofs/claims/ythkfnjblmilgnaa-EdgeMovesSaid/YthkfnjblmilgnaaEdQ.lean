/-
  The walk of EdgeFan.
-/
import Derived.Test.YthkfnjblmilgnaaEdFf
import Derived.Test.YthkfnjblmilgnaaEdP
import Derived.Test.YthkfnjblmilgnaaAlike
import Derived.Test.YthkfnjblmilgnaaMid
import Derived.BigGuard
import Derived.IntWalk
import Derived.StillTailTactics
namespace Go.Proofs.Ythkfnjblmilgnaa.EdQ
open Go.RowKit FixA Num Rd Go.Proofs.Ythkfnjblmilgnaa.Row Mid EdM EdA EdB EdF EdE EdG EdN EdI EdFf EdP
open Go.Proofs.Ythkfnjblmilgnaa.Pred (Is is_stab Stab)
set_option linter.unusedVariables false
set_option linter.unusedSimpArgs false
set_option maxRecDepth 10000
theorem info_int : (Try.prog.info? 3).map (fun i => (i.zero, i.size, i.bytes)) = some (some (.int .i64 0), 1, 8) := by kernel_rfl
theorem made_int (n : Nat) : madeCells (Value.cells (.int .i64 0)) n = cs .i64 (List.replicate n 0) := by
  apply Array.ext
  · simp [madeCells, cs]
  · intro i h1 h2
    simp only [madeCells, Value.cells, Nat.mod_one, cs, List.map_replicate, Array.getElem_map, List.getElem_toArray, List.getElem_replicate]
    show #[Value.int .i64 0][(Array.range n)[i]'(by simpa [madeCells] using h1) % 1]! = _
    rw [Nat.mod_one]
    rfl
theorem run_make_int (n : Nat) (hn : n ≤ 100000) (w : World) :
    (Instr.makeSlice 46 (.int .i64 (n : Int)) (.int .i64 (n : Int))).run Try.prog w = .ok (.slice (some ⟨w.heap.size, 0, none⟩) n n) (w.alloc (.cells (cs .i64 (List.replicate n 0)) 3)) := by
  obtain ⟨i, hi, hz, hs, hb⟩ := info_parts info_int
  have hr := run_make (P := Try.prog) w 46 3 i (.int .i64 0) Try.underlying46 hi hz .i64 .i64 (n : Int) (n : Int) (by omega) (by omega) (by rw [hb]; omega) (by omega)
  simp only [Int.toNat_natCast, hs, Nat.mul_one] at hr
  rw [hr, made_int]
/-! The fan's triangles -/
def fanM (mx my : Int) : List Int := [mx, my, 0, 0, 0, 0]
def fanQ (sw sh : Nat) : List Int := [0, 0, 0, 0, 0, 0, 256 * (sw : Int), 0, 0, 0, 0, 0, 256 * (sw : Int), 256 * (sh : Int), 0, 0, 0, 0, 0, 256 * (sh : Int), 0, 0, 0, 0]
def nxt (k : Nat) : Nat := (k + 1) % 4
def fanT (sw sh : Nat) (mx my : Int) (k : Nat) : List Int := fanM mx my ++ sp (fanQ sw sh) k ++ sp (fanQ sw sh) (nxt k)
theorem fan_tri {sw sh k : Nat} {mx my : Int} (hw : 1 ≤ sw ∧ sw ≤ 32) (hh : 1 ≤ sh ∧ sh ≤ 32) (hm : 0 ≤ mx ∧ mx ≤ 256 * sw ∧ 0 ≤ my ∧ my ≤ 256 * sh) (hk : k < 4) : Tri (fanT sw sh mx my k) := by
  have : k = 0 ∨ k = 1 ∨ k = 2 ∨ k = 3 := by omega
  have bm : Bd mx my := ⟨by omega, by omega, by omega, by omega⟩
  have b0 : Bd 0 0 := ⟨by omega, by omega, by omega, by omega⟩
  have b1 : Bd (256 * (sw : Int)) 0 := ⟨by omega, by omega, by omega, by omega⟩
  have b2 : Bd (256 * (sw : Int)) (256 * (sh : Int)) := ⟨by omega, by omega, by omega, by omega⟩
  have b3 : Bd 0 (256 * (sh : Int)) := ⟨by omega, by omega, by omega, by omega⟩
  rcases this with rfl | rfl | rfl | rfl
  · exact ⟨rfl, bm, b0, b1⟩
  · exact ⟨rfl, bm, b1, b2⟩
  · exact ⟨rfl, bm, b2, b3⟩
  · exact ⟨rfl, bm, b3, b0⟩
theorem fan_len {sw sh k : Nat} (hk : k < 4) : (sp (fanQ sw sh) k).length = 6 := by
  have : k = 0 ∨ k = 1 ∨ k = 2 ∨ k = 3 := by omega
  rcases this with rfl | rfl | rfl | rfl <;> rfl
theorem piece_k {sw sh k : Nat} : piece (cs .i64 (fanQ sw sh)) (k * 6) 6 = cs .i64 (sp (fanQ sw sh) k) := by
  rw [piece_cs, Nat.mul_comm]
  rfl
theorem turned_nonneg {t : List Int} (h : 0 ≤ area t) (x y : Int) : (if turnedB t = true then (nb (covT (turnedV t) x y) : Int) else 0) = nb (covT t x y) := by
  by_cases hz : area t = 0
  · rw [if_neg (show ¬ turnedB t = true by unfold turnedB; simp [hz]), cov_area (by omega)]
    rfl
  · rw [if_pos (show turnedB t = true from decide_eq_true hz), turned_pos (by omega)]
theorem fan_total {sw sh i j : Nat} {mx my : Int} (hw : 1 ≤ sw ∧ sw ≤ 32) (hh : 1 ≤ sh ∧ sh ≤ 32) (hm : 0 ≤ mx ∧ mx ≤ 256 * sw ∧ 0 ≤ my ∧ my ≤ 256 * sh) (hi : i < sw) (hj : j < sh) :
    cnt sw (frameC (fanT sw sh mx my 0) sw sh ++ frameC (fanT sw sh mx my 1) sw sh ++ frameC (fanT sw sh mx my 2) sw sh ++ frameC (fanT sw sh mx my 3) sw sh) (j * sw + i) = 1 := by
  have e := fan_one (mx := mx) (my := my) (W := 256 * sw) (H := 256 * sh) (x := mid i) (y := mid j) (by omega) (by omega) (by omega) (by unfold mid; omega) (by unfold mid; omega)
  rw [cnt_app, cnt_app, cnt_app, cnt_cov hw hh hi hj, cnt_cov hw hh hi hj, cnt_cov hw hh hi hj, cnt_cov hw hh hi hj, turned_nonneg ?_, turned_nonneg ?_, turned_nonneg ?_, turned_nonneg ?_]
  · show (nb (cov mx my 0 0 (256 * sw) 0 (mid i) (mid j)) : Int) + nb (cov mx my (256 * sw) 0 (256 * sw) (256 * sh) (mid i) (mid j)) + nb (cov mx my (256 * sw) (256 * sh) 0 (256 * sh) (mid i) (mid j)) + nb (cov mx my 0 (256 * sh) 0 0 (mid i) (mid j)) = 1
    omega
  · show 0 ≤ sd mx my 0 (256 * sh) 0 0
    have e : sd mx my 0 (256 * sh) 0 0 = mx * (256 * sh) := by unfold sd; grind
    rw [e]; exact Int.mul_nonneg (by omega) (by omega)
  · show 0 ≤ sd mx my (256 * sw) (256 * sh) 0 (256 * sh)
    have e : sd mx my (256 * sw) (256 * sh) 0 (256 * sh) = (256 * sh - my) * (256 * sw) := by unfold sd; grind
    rw [e]; exact Int.mul_nonneg (by omega) (by omega)
  · show 0 ≤ sd mx my (256 * sw) 0 (256 * sw) (256 * sh)
    have e : sd mx my (256 * sw) 0 (256 * sw) (256 * sh) = (256 * sw - mx) * (256 * sh) := by unfold sd; grind
    rw [e]; exact Int.mul_nonneg (by omega) (by omega)
  · show 0 ≤ sd mx my 0 0 (256 * sw) 0
    have e : sd mx my 0 0 (256 * sw) 0 = my * (256 * sw) := by unfold sd; grind
    rw [e]; exact Int.mul_nonneg (by omega) (by omega)
theorem built_quad (a b c d : List Int) (ha : a.length = 6) (hb : b.length = 6) (hc : c.length = 6) (hd : d.length = 6) : Try.prog.built 42 [(0, .agg (cs .i64 a)), (1, .agg (cs .i64 b)), (2, .agg (cs .i64 c)), (3, .agg (cs .i64 d))] = some (cs .i64 (a ++ b ++ c ++ d)) := by
  obtain ⟨a0, a1, a2, a3, a4, a5, rfl⟩ := len6 ha
  obtain ⟨b0, b1, b2, b3, b4, b5, rfl⟩ := len6 hb
  obtain ⟨c0, c1, c2, c3, c4, c5, rfl⟩ := len6 hc
  obtain ⟨d0, d1, d2, d3, d4, d5, rfl⟩ := len6 hd
  kernel_rfl
theorem wpList_build_quad {ops : Array Oper} {rest : List Oper} {o : Oper} {a : Act} {w : World} {Q : Exit → Act → World → Prop} (hg : o.guard = none) (x y z u : Operand) (ho : o.op = .build 42 #[(0, x), (1, y), (2, z), (3, u)])
    (p q r s t : List Int) (hx : a.eval x = .agg (cs .i64 p)) (hy : a.eval y = .agg (cs .i64 q)) (hz : a.eval z = .agg (cs .i64 r)) (hu : a.eval u = .agg (cs .i64 s)) (lp : p.length = 6) (lq : q.length = 6) (lr : r.length = 6) (ls : s.length = 6) (ht : p ++ q ++ r ++ s = t)
    (h : wpList Try.prog ops Q rest (a.put o.dst (.agg (cs .i64 t))) w) : wpList Try.prog ops Q (o :: rest) a w := by
  subst ht
  have e : Try.prog.built 42 ((#[(0, x), (1, y), (2, z), (3, u)] : Array (Nat × Operand)).map fun (i, x) => (i, a.eval x)).toList = some (cs .i64 (p ++ q ++ r ++ s)) := by
    simp only [List.map_toArray, List.map_cons, List.map_nil, hx, hy, hz, hu]
    exact built_quad p q r s lp lq lr ls
  refine wpList_build hg 42 #[(0, x), (1, y), (2, z), (3, u)] ho (by rw [e]; rfl) ?_
  rw [e]
  exact h
theorem store_quad (x v : Value) : Instr.storeAt 42 x v = storeRow 42 x v := rfl
theorem run_store_quad (g o : Nat) (c : Array Value) (W : World) : (storeRow 42 (.pointer (some ⟨g, o, none⟩)) (.agg c)).run Try.prog W = rowStore Try.prog 42 24 g o c W := run_storeRow (by kernel_rfl) g o c W
theorem fanQ_len (sw sh : Nat) : (fanQ sw sh).length = 24 := rfl
/-- the pixels of the first so many triangles -/
def doneF (sw sh : Nat) (mx my : Int) (k : Nat) : List (Int × Int) := (List.range k).flatMap fun i => frameC (fanT sw sh mx my i) sw sh
theorem done_succ (sw sh : Nat) (mx my : Int) (k : Nat) : doneF sw sh mx my (k + 1) = doneF sw sh mx my k ++ frameC (fanT sw sh mx my k) sw sh := by simp [doneF, List.range_succ]
theorem done_len (sw sh : Nat) (mx my : Int) : ∀ k, (doneF sw sh mx my k).length ≤ 1024 * k
  | 0 => by simp [doneF]
  | k + 1 => by
    rw [done_succ, List.length_append]
    have := done_len sw sh mx my k
    have := frameC_small (fanT sw sh mx my k) sw sh
    omega
theorem fan_bd {sw sh k n : Nat} {mx my : Int} {T : List Int} (hk : k < 4) (j : Nat) : 0 ≤ cnt sw (doneF sw sh mx my k ++ (frameC T sw sh).take j) n ∧ cnt sw (doneF sw sh mx my k ++ (frameC T sw sh).take j) n ≤ 5120 := by
  have h := cnt_bd sw (doneF sw sh mx my k ++ (frameC T sw sh).take j) n
  rw [List.length_append] at h
  have := done_len sw sh mx my k
  have := frameC_small T sw sh
  have := List.length_take_le' j (frameC T sw sh)
  omega
theorem done_four (sw sh : Nat) (mx my : Int) : doneF sw sh mx my 4 = frameC (fanT sw sh mx my 0) sw sh ++ frameC (fanT sw sh mx my 1) sw sh ++ frameC (fanT sw sh mx my 2) sw sh ++ frameC (fanT sw sh mx my 3) sw sh := by
  rw [done_succ, done_succ, done_succ, done_succ]
  simp [doneF]
theorem cnt_set {L W n : Nat} {c : Int} {F : List (Int × Int)} {p : Int × Int} (hp : plc W p = n) (hc : cnt W F n = c) : (arrL L (cnt W F)).set n (c + 1) = arrL L (cnt W (F ++ [p])) := by
  subst hp hc
  exact arr_step L W F p
theorem cell_blk {X Y : World} {b k : Nat} (h : Y.heap[b]? = X.heap[b]?) : Y.cell? ⟨b, k, none⟩ = X.cell? ⟨b, k, none⟩ := by
  unfold World.cell?
  simp only [h]
theorem hit_set {X : World} {gx ox pn : Nat} {row : HRow} (h : HitAt X (some ⟨gx, ox, none⟩) row) (hn : pn < gx) (n : Nat) (v : Value) : HitAt (X.setCell ⟨pn, n, none⟩ v).drew (some ⟨gx, ox, none⟩) row := by
  refine ⟨h.1, ?_⟩
  rcases h.2 with h | ⟨b, o, e, hb, hc⟩
  · exact .inl h
  · injection e with e
    injection e with e1 e2
    subst e1 e2
    exact .inr ⟨gx, ox, rfl, by simpa using hb, fun i hi j hj => (cell_blk (blk_set_far' X ⟨pn, n, none⟩ gx v hn)).trans (hc i hi j hj)⟩
theorem fan_ones {sw sh m : Nat} {mx my : Int} (hw : 1 ≤ sw ∧ sw ≤ 32) (hh : 1 ≤ sh ∧ sh ≤ 32) (hm : 0 ≤ mx ∧ mx ≤ 256 * sw ∧ 0 ≤ my ∧ my ≤ 256 * sh) (h : m < sw * sh) : cnt sw (doneF sw sh mx my 4) m = 1 := by
  have e := fan_total (i := m % sw) (j := m / sw) hw hh hm (Nat.mod_lt _ (by omega)) (Nat.div_lt_of_lt_mul h)
  rw [Nat.mul_comm, Nat.div_add_mod] at e
  rw [done_four]
  exact e
theorem run_make_wh (a b : Nat) (ha : a ≤ 32) (hb : b ≤ 32) (w : World) :
    (Instr.makeSlice 46 (.int .i64 ((a : Int) * (b : Int))) (.int .i64 ((a : Int) * (b : Int)))).run Try.prog w = .ok (.slice (some ⟨w.heap.size, 0, none⟩) (a * b) (a * b)) (w.alloc (.cells (cs .i64 (List.replicate (a * b) 0)) 3)) := by
  have := Nat.mul_le_mul ha hb
  have e := run_make_int (a * b) (by omega) w
  rw [Int.natCast_mul] at e
  exact e
attribute [local go_sem ↓] load_tri store_tri load_w3 store_w3 load_spot store_spot load_hit store_hit
attribute [local go_sem] one_int run_load_spot run_load_tri run_load_w3 run_load_hit run_store_tri run_store_w3 run_store_spot run_store_hit rowLoad_eq rowStore_eq midLoad_eq ext0 ext1 ext2 blk_alloc_at blk_alloc_old blk_drew blk_drewN blk_set_far blk_set_far' blk_grow setRow_alloc_at setRow_alloc_old setRow_drew setRow_drewN all_map
attribute [local go_sem ↓] run_make_wh store_quad
attribute [local go_sem] run_store_quad
set_option maxHeartbeats 4000000 in
theorem fan_out (x y fw fh : Int) (w : World) (hf : frameB fw fh = false) :
    Calls Try.prog 6 #[.int .i64 x, .int .i64 y, .int .i64 fw, .int .i64 fh] w fun e w' => e = .returned (.bool true) ∧ Below w.heap.size w w' := by
  have hf' := of_decide_eq_false hf
  clear hf
  have C : ∀ q : Bool, (decide (fw < 1) || (decide (32 < fw) || (decide (fh < 1) || decide (32 < fh)))) = q → q = true := fun q e => by
    rw [← e]
    simp only [Bool.or_eq_true, decide_eq_true_eq]
    omega
  obtain ⟨p1, e1⟩ : ∃ q, decide (fw < 1) = q := ⟨_, rfl⟩
  obtain ⟨p2, e2⟩ : ∃ q, decide (32 < fw) = q := ⟨_, rfl⟩
  obtain ⟨p3, e3⟩ : ∃ q, decide (fh < 1) = q := ⟨_, rfl⟩
  obtain ⟨p4, e4⟩ : ∃ q, decide (32 < fh) = q := ⟨_, rfl⟩
  rw [e1, e2, e3, e4] at C
  have C' := C _ rfl
  clear C hf'
  cases p1
  · cases p2
    · cases p3
      · cases p4
        · cases C'
        · as_aux_lemma =>
          clear C'
          go_enter Try.func6, Try.ntmps6
          go_wp2_with fail
          refine (awake_any _).mono ?_
          rintro e w9 ⟨rfl, hb⟩
          go_wp2
          go_ret
          exact ⟨rfl, hb⟩
      · as_aux_lemma =>
        clear C' e4
        go_enter Try.func6, Try.ntmps6
        go_wp2_with fail
        refine (awake_any _).mono ?_
        rintro e w9 ⟨rfl, hb⟩
        go_wp2
        go_ret
        exact ⟨rfl, hb⟩
    · as_aux_lemma =>
      clear C' e3 e4
      go_enter Try.func6, Try.ntmps6
      go_wp2_with fail
      refine (awake_any _).mono ?_
      rintro e w9 ⟨rfl, hb⟩
      go_wp2
      go_ret
      exact ⟨rfl, hb⟩
  · as_aux_lemma =>
    clear C' e2 e3 e4
    go_enter Try.func6, Try.ntmps6
    go_wp2_with fail
    refine (awake_any _).mono ?_
    rintro e w9 ⟨rfl, hb⟩
    go_wp2
    go_ret
    exact ⟨rfl, hb⟩
set_option maxHeartbeats 8000000 in
theorem fan_in (x y : Int) (sw sh : Nat) (w : World) (hx1 : -9223372036854775808 ≤ x) (hx2 : x ≤ 9223372036854775807) (hy1 : -9223372036854775808 ≤ y) (hy2 : y ≤ 9223372036854775807) (hw0 : 1 ≤ sw) (hw1 : sw ≤ 32) (hh0 : 1 ≤ sh) (hh1 : sh ≤ 32) :
    Calls Try.prog 6 #[.int .i64 x, .int .i64 y, .int .i64 (sw : Int), .int .i64 (sh : Int)] w fun e w' => e = .returned (.bool true) ∧ Below w.heap.size w w' := by
  have d1 : decide ((sw : Int) < 1) = false := decide_eq_false (by omega)
  have d2 : decide (32 < (sw : Int)) = false := decide_eq_false (by omega)
  have d3 : decide ((sh : Int) < 1) = false := decide_eq_false (by omega)
  have d4 : decide (32 < (sh : Int)) = false := decide_eq_false (by omega)
  have hp0 : 0 ≤ (sw : Int) * sh := Int.mul_nonneg (by omega) (by omega)
  have hp1 : (sw : Int) * sh ≤ 1024 := by
    have := Nat.mul_le_mul hw1 hh1
    have e : ((sw * sh : Nat) : Int) = (sw : Int) * sh := Int.natCast_mul ..
    omega
  have hL : sw * sh ≤ 1024 := by have := Nat.mul_le_mul hw1 hh1; omega
  have X0 := Int.emod_nonneg x (b := 256 * (sw : Int) + 1) (by omega)
  have X1 := Int.emod_lt_of_pos x (b := 256 * (sw : Int) + 1) (by omega)
  have Y0 := Int.emod_nonneg y (b := 256 * (sh : Int) + 1) (by omega)
  have Y1 := Int.emod_lt_of_pos y (b := 256 * (sh : Int) + 1) (by omega)
  obtain ⟨mx, emx⟩ : ∃ m, x % (256 * (sw : Int) + 1) = m := ⟨_, rfl⟩
  obtain ⟨my, emy⟩ : ∃ m, y % (256 * (sh : Int) + 1) = m := ⟨_, rfl⟩
  have RX : Hid (∀ X : World, Calls Try.prog 19 #[.int .i64 x, .int .i64 (256 * (sw : Int) + 1)] X fun e w' => e = .returned (.int .i64 mx) ∧ X = w') := Lib.hid fun X => by
    have := Alk.round_any x (256 * (sw : Int) + 1) X hx1 hx2 (by omega) (by omega)
    rw [emx] at this
    exact this
  have RY : Hid (∀ X : World, Calls Try.prog 19 #[.int .i64 y, .int .i64 (256 * (sh : Int) + 1)] X fun e w' => e = .returned (.int .i64 my) ∧ X = w') := Lib.hid fun X => by
    have := Alk.round_any y (256 * (sh : Int) + 1) X hy1 hy2 (by omega) (by omega)
    rw [emy] at this
    exact this
  rw [emx] at X0 X1
  rw [emy] at Y0 Y1
  have HM : Hid (0 ≤ mx ∧ mx ≤ 256 * sw ∧ 0 ≤ my ∧ my ≤ 256 * sh) := Lib.hid ⟨by omega, by omega, by omega, by omega⟩
  clear emx emy hx1 hx2 hy1 hy2 X0 X1 Y0 Y1
  go_enter Try.func6, Try.ntmps6
  go_wp2_with fail
  refine (RX.out _).mono ?_
  rintro e w1 ⟨rfl, rfl⟩
  go_wp2_with fail
  refine (RY.out _).mono ?_
  rintro e w1 ⟨rfl, rfl⟩
  have lQ24 := fanQ_len sw sh
  go_upto_region 6 with (refine wpList_build_quad rfl (.tmp 42) (.tmp 45) (.tmp 50) (.tmp 53) rfl [0, 0, 0, 0, 0, 0] [256 * (sw : Int), 0, 0, 0, 0, 0] [256 * (sw : Int), 256 * (sh : Int), 0, 0, 0, 0] [0, 256 * (sh : Int), 0, 0, 0, 0] (fanQ sw sh) rfl rfl rfl rfl rfl rfl rfl rfl rfl ?_)
  refine Rd.name_world ?_
  intro w6 hw
  have bM : blk w6 w.heap.size = some (.cells (cs .i64 (fanM mx my)) 23 (0, 0)) := by rw [hw]; exact blk3_0 _ _ _ _
  have bQ : blk w6 (w.heap.size + 1) = some (.cells (cs .i64 (fanQ sw sh)) 42 (0, 0)) := by rw [hw]; exact blk3_1 _ _ _ _
  have bN : blk w6 (w.heap.size + 2) = some (.cells (cs .i64 (arrL (sw * sh) (cnt sw (doneF sw sh mx my 0)))) 3 (0, 0)) := by
    rw [show arrL (sw * sh) (cnt sw (doneF sw sh mx my 0)) = List.replicate (sw * sh) 0 from arr_zero _ _ fun i => rfl, hw]; exact blk3_2 _ _ _ _
  have L6 : Below w.heap.size w w6 := by
    rw [hw]
    repeat' (first | (with_reducible exact Below.refl _ _) | (with_reducible refine Rd.below_step ?_ (by assumption)) | (with_reducible refine Rd.below_alloc ?_ _) | (with_reducible refine Rd.below_drewN ?_ _) | (with_reducible refine Below.drew ?_) | (with_reducible refine Below.setCell ?_ ?_ _) | (with_reducible refine Rd.below_setRow ?_ ?_ _) | go_size | (simp only [World.size_alloc]; omega) | omega)
  clear hw
  go_wp2_with fail
  go_loopw [12] (fun i X => ∃ k : Nat, k ≤ 4 ∧ i = .int .i64 k ∧ blk X w.heap.size = some (.cells (cs .i64 (fanM mx my)) 23 (0, 0)) ∧ blk X (w.heap.size + 1) = some (.cells (cs .i64 (fanQ sw sh)) 42 (0, 0)) ∧ blk X (w.heap.size + 1 + 1) = some (.cells (cs .i64 (arrL (sw * sh) (cnt sw (doneF sw sh mx my k)))) 3 (0, 0)) ∧ Below w.heap.size w X) (fun i _ => 4 - (intOf i).toNat)
  case atStart => exact ⟨0, by omega, rfl, bM, bQ, bN, L6⟩
  case round =>
    obtain ⟨k, hk, rfl, BM, BQ, BN, hb⟩ := hrel
    rename World => Y
    clear bM bQ bN L6
    have bM : blk Y w.heap.size = some (.cells (cs .i64 (fanM mx my)) 23 (0, 0)) := BM
    have bQ : blk Y (w.heap.size + 1) = some (.cells (cs .i64 (fanQ sw sh)) 42 (0, 0)) := BQ
    have bN : blk Y (w.heap.size + 1 + 1) = some (.cells (cs .i64 (arrL (sw * sh) (cnt sw (doneF sw sh mx my k)))) 3 (0, 0)) := BN
    clear BM BQ BN
    by_cases hlt : k < 4
    · have hlt' : (k : Int) < 4 := by omega
      have hT := fan_tri ⟨hw0, hw1⟩ ⟨hh0, hh1⟩ HM.out hlt
      obtain ⟨k1, ek1⟩ : ∃ q, nxt k = q := ⟨_, rfl⟩
      have hk1 : k1 < 4 := by unfold nxt at ek1; omega
      have hk1' : (k1 : Int) < 4 := by omega
      have E4 : Hid (((k : Int) + 1) % 4 = (k1 : Int)) := Lib.hid (by unfold nxt at ek1; omega)
      have l66 : (sp (fanQ sw sh) k).length = 6 := fan_len hlt
      have l71 : (sp (fanQ sw sh) k1).length = 6 := fan_len hk1
      have ET : Hid (fanM mx my ++ sp (fanQ sw sh) k ++ sp (fanQ sw sh) k1 = fanT sw sh mx my k) := Lib.hid (by rw [← ek1]; rfl)
      have hM6 : (fanM mx my).length = 6 := rfl
      have hkq : k * 6 + 6 ≤ 24 := by omega
      have hkq1 : k1 * 6 + 6 ≤ 24 := by omega
      clear ek1
      have lM := blk_lt bM
      have lQ := blk_lt bQ
      have lN := blk_lt bN
      go_wp2_with fail
      refine Pred.region_vals (Pred.Of [
          Is (.agg (cs .i64 (fanM mx my))),
          Is (.int .i64 (k : Int)),
          Is (.pointer (some ⟨w.heap.size + 1, k * 6, none⟩)),
          Is (.agg (cs .i64 (sp (fanQ sw sh) k))),
          Is (.int .i64 (k : Int)),
          Is (.int .i64 ((k : Int) + 1)),
          Is (.int .i64 (k1 : Int)),
          Is (.pointer (some ⟨w.heap.size + 1, k1 * 6, none⟩)),
          Is (.agg (cs .i64 (sp (fanQ sw sh) k1))),
          Is (.agg (cs .i64 (fanT sw sh mx my k))),
          Is (.int .i64 (sw : Int)),
          Is (.int .i64 (sh : Int)),
          SF Y.heap.size ((pixV (fanT sw sh mx my k) sw sh).length) (pixV (fanT sw sh mx my k) sw sh),
          SF Y.heap.size ((pixV (fanT sw sh mx my k) sw sh).length) (pixV (fanT sw sh mx my k) sw sh)]) (by kernel_rfl) (by kernel_rfl) (by kernel_rfl) (Pred.of_stab ?_) ?_ ?_
      · exact ⟨is_stab _, is_stab _, is_stab _, is_stab _, is_stab _, is_stab _, is_stab _, is_stab _, is_stab _, is_stab _, is_stab _, is_stab _, sf_stab _ _ _, sf_stab _ _ _, trivial⟩
      · refine ⟨?_, ?_, ?_, ?_, ?_, ?_, ?_, ?_, ?_, ?_, ?_, ?_, ?_, ?_, trivial⟩
        · intro b X hE hd hn hV
          have r9 : b.tmps[9]?.getD undef = .pointer (some ⟨w.heap.size, 0, none⟩) := (hn 9 (by kernel_rfl)).trans rfl
          have q := (blk_below hE _ lM).trans bM
          exact Pred.yields_run (v := .agg (cs .i64 (fanM mx my))) (Pred.wanted_none rfl) (by go_simp; rfl) ⟨Pred.ext_refl _ _, rfl⟩
        · intro b X hE hd hn hV
          have r12 : b.tmps[12]?.getD undef = .int .i64 (k : Int) := (hn 12 (by kernel_rfl)).trans rfl
          exact Pred.yields_run (v := .int .i64 (k : Int)) (Pred.wanted_none rfl) (by go_simp) ⟨Pred.ext_refl _ _, rfl⟩
        · intro b X hE hd hn hV
          have r10 : b.tmps[10]?.getD undef = .pointer (some ⟨w.heap.size + 1, 0, none⟩) := (hn 10 (by kernel_rfl)).trans rfl
          have r64 : b.tmps[64]?.getD undef = .int .i64 (k : Int) := hV 1 _ 64 rfl rfl (Pred.waits_near (by kernel_rfl) (by kernel_rfl))
          exact Pred.yields_run (v := .pointer (some ⟨w.heap.size + 1, k * 6, none⟩)) (Pred.wanted_none rfl) (by go_simp) ⟨Pred.ext_refl _ _, rfl⟩
        · intro b X hE hd hn hV
          have r65 : b.tmps[65]?.getD undef = .pointer (some ⟨w.heap.size + 1, k * 6, none⟩) := hV 2 _ 65 rfl rfl (Pred.waits_near (by kernel_rfl) (by kernel_rfl))
          have q := (blk_below hE _ lQ).trans bQ
          exact Pred.yields_run (v := .agg (cs .i64 (sp (fanQ sw sh) k))) (Pred.wanted_none rfl) (by go_simp; rw [piece_k]) ⟨Pred.ext_refl _ _, rfl⟩
        · intro b X hE hd hn hV
          have r12 : b.tmps[12]?.getD undef = .int .i64 (k : Int) := (hn 12 (by kernel_rfl)).trans rfl
          exact Pred.yields_run (v := .int .i64 (k : Int)) (Pred.wanted_none rfl) (by go_simp) ⟨Pred.ext_refl _ _, rfl⟩
        · intro b X hE hd hn hV
          have r67 : b.tmps[67]?.getD undef = .int .i64 (k : Int) := hV 4 _ 67 rfl rfl (Pred.waits_near (by kernel_rfl) (by kernel_rfl))
          exact Pred.yields_run (v := .int .i64 ((k : Int) + 1)) (Pred.wanted_none rfl) (by go_simp; exact IntWalk.i64_in _ (by omega)) ⟨Pred.ext_refl _ _, rfl⟩
        · intro b X hE hd hn hV
          have r68 : b.tmps[68]?.getD undef = .int .i64 ((k : Int) + 1) := hV 5 _ 68 rfl rfl (Pred.waits_near (by kernel_rfl) (by kernel_rfl))
          exact Pred.yields_run (v := .int .i64 (k1 : Int)) (Pred.wanted_none rfl) (by go_simp; exact E4.out) ⟨Pred.ext_refl _ _, rfl⟩
        · intro b X hE hd hn hV
          have r10 : b.tmps[10]?.getD undef = .pointer (some ⟨w.heap.size + 1, 0, none⟩) := (hn 10 (by kernel_rfl)).trans rfl
          have r69 : b.tmps[69]?.getD undef = .int .i64 (k1 : Int) := hV 6 _ 69 rfl rfl (Pred.waits_near (by kernel_rfl) (by kernel_rfl))
          exact Pred.yields_run (v := .pointer (some ⟨w.heap.size + 1, k1 * 6, none⟩)) (Pred.wanted_none rfl) (by go_simp) ⟨Pred.ext_refl _ _, rfl⟩
        · intro b X hE hd hn hV
          have r70 : b.tmps[70]?.getD undef = .pointer (some ⟨w.heap.size + 1, k1 * 6, none⟩) := hV 7 _ 70 rfl rfl (Pred.waits_near (by kernel_rfl) (by kernel_rfl))
          have q := (blk_below hE _ lQ).trans bQ
          exact Pred.yields_run (v := .agg (cs .i64 (sp (fanQ sw sh) k1))) (Pred.wanted_none rfl) (by go_simp; rw [piece_k]) ⟨Pred.ext_refl _ _, rfl⟩
        · intro b X hE hd hn hV
          have r63 : b.tmps[63]?.getD undef = .agg (cs .i64 (fanM mx my)) := hV 0 _ 63 rfl rfl (Pred.waits_near (by kernel_rfl) (by kernel_rfl))
          have r66 : b.tmps[66]?.getD undef = .agg (cs .i64 (sp (fanQ sw sh) k)) := hV 3 _ 66 rfl rfl (Pred.waits_near (by kernel_rfl) (by kernel_rfl))
          have r71 : b.tmps[71]?.getD undef = .agg (cs .i64 (sp (fanQ sw sh) k1)) := hV 8 _ 71 rfl rfl (Pred.waits_near (by kernel_rfl) (by kernel_rfl))
          exact Pred.yields_run (v := .agg (cs .i64 (fanT sw sh mx my k))) (Pred.wanted_none rfl) ((exec_build_tri 63 66 71 rfl _ _ _ r63 r66 r71 rfl l66 l71).trans (by rw [ET.out])) ⟨Pred.ext_refl _ _, rfl⟩
        · intro b X hE hd hn hV
          have r2 : b.tmps[2]?.getD undef = .int .i64 (sw : Int) := (hn 2 (by kernel_rfl)).trans rfl
          exact Pred.yields_run (v := .int .i64 (sw : Int)) (Pred.wanted_none rfl) (by go_simp) ⟨Pred.ext_refl _ _, rfl⟩
        · intro b X hE hd hn hV
          have r3 : b.tmps[3]?.getD undef = .int .i64 (sh : Int) := (hn 3 (by kernel_rfl)).trans rfl
          exact Pred.yields_run (v := .int .i64 (sh : Int)) (Pred.wanted_none rfl) (by go_simp) ⟨Pred.ext_refl _ _, rfl⟩
        · intro b X hE hd hn hV
          have r72 : b.tmps[72]?.getD undef = .agg (cs .i64 (fanT sw sh mx my k)) := hV 9 _ 72 rfl rfl (Pred.waits_near (by kernel_rfl) (by kernel_rfl))
          have r73 : b.tmps[73]?.getD undef = .int .i64 (sw : Int) := hV 10 _ 73 rfl rfl (Pred.waits_near (by kernel_rfl) (by kernel_rfl))
          have r74 : b.tmps[74]?.getD undef = .int .i64 (sh : Int) := hV 11 _ 74 rfl rfl (Pred.waits_near (by kernel_rfl) (by kernel_rfl))
          refine Pred.yields_call (f := 18) (args := #[.agg (cs .i64 (fanT sw sh mx my k)), .int .i64 sw, .int .i64 sh, .int .i64 (-1)]) (Pred.wanted_none rfl) (by go_simp) ?_
          exact (all32f _ hT _ _ _).mono fun e w2 ⟨⟨a, c, he, ha, hf⟩, hb⟩ => ⟨_, he, Pred.ext_below hb hE.size, a, c, rfl, ha, fun b o e => Nat.le_trans hE.size (hf b o e)⟩
        · intro b X hE hd hn hV
          obtain ⟨ga75, ca75, r75, hr75, hf75⟩ : SF Y.heap.size ((pixV (fanT sw sh mx my k) sw sh).length) (pixV (fanT sw sh mx my k) sw sh) (b.tmps[75]?.getD undef) X := hV 12 _ 75 rfl rfl (Pred.waits_near (by kernel_rfl) (by kernel_rfl))
          exact Pred.yields_run (v := .slice ga75 (pixV (fanT sw sh mx my k) sw sh).length ca75) (Pred.wanted_none rfl) (by go_simp) ⟨Pred.ext_refl _ _, _, _, rfl, hr75, hf75⟩
      intro v w9 hE hv
      have e0 : v 0 = .agg (cs .i64 (fanM mx my)) := hv 0 _ 63 rfl rfl
      have e1 : v 1 = .int .i64 (k : Int) := hv 1 _ 64 rfl rfl
      have e2 : v 2 = .pointer (some ⟨w.heap.size + 1, k * 6, none⟩) := hv 2 _ 65 rfl rfl
      have e3 : v 3 = .agg (cs .i64 (sp (fanQ sw sh) k)) := hv 3 _ 66 rfl rfl
      have e4 : v 4 = .int .i64 (k : Int) := hv 4 _ 67 rfl rfl
      have e5 : v 5 = .int .i64 ((k : Int) + 1) := hv 5 _ 68 rfl rfl
      have e6 : v 6 = .int .i64 (k1 : Int) := hv 6 _ 69 rfl rfl
      have e7 : v 7 = .pointer (some ⟨w.heap.size + 1, k1 * 6, none⟩) := hv 7 _ 70 rfl rfl
      have e8 : v 8 = .agg (cs .i64 (sp (fanQ sw sh) k1)) := hv 8 _ 71 rfl rfl
      have e9 : v 9 = .agg (cs .i64 (fanT sw sh mx my k)) := hv 9 _ 72 rfl rfl
      have e10 : v 10 = .int .i64 (sw : Int) := hv 10 _ 73 rfl rfl
      have e11 : v 11 = .int .i64 (sh : Int) := hv 11 _ 74 rfl rfl
      obtain ⟨ga12, ca12, e12, hr12, hf12⟩ : SF Y.heap.size ((pixV (fanT sw sh mx my k) sw sh).length) (pixV (fanT sw sh mx my k) sw sh) (v 12) w9 := hv 12 _ 75 rfl rfl
      obtain ⟨ga13, ca13, e13, hr13, hf13⟩ : SF Y.heap.size ((pixV (fanT sw sh mx my k) sw sh).length) (pixV (fanT sw sh mx my k) sw sh) (v 13) w9 := hv 13 _ 13 rfl rfl
      simp only [Pred.putsF_cons, Pred.putsF_nil, Nat.zero_add, Nat.reduceAdd, e0, e1, e2, e3, e4, e5, e6, e7, e8, e9, e10, e11, e12, e13, Act.put, List.setIfInBounds_toArray, List.set_cons_zero, List.set_cons_succ]
      clear e0 e1 e2 e3 e4 e5 e6 e7 e8 e9 e10 e11 e12 e13 hv
      replace bM := (blk_below hE _ lM).trans bM
      replace bQ := (blk_below hE _ lQ).trans bQ
      replace bN := (blk_below hE _ lN).trans bN
      have LY : Below w.heap.size w w9 := hb.trans (hE.mono hb.size)
      have HA0 := Lib.hid hr13
      have HFr := Lib.hid hf13
      clear hE hb lM lQ E4 l66 l71 ET hkq hkq1 hk1 hk1' hr12 hf12 hr13 hf13 hM6
      rw [pix_len]
      obtain ⟨T, eT⟩ : ∃ T, fanT sw sh mx my k = T := ⟨_, rfl⟩
      have ET := Lib.hid eT
      rw [eT] at hT HA0 ⊢
      obtain ⟨N, eN⟩ : ∃ N, (frameC T sw sh).length = N := ⟨_, rfl⟩
      have hN1 : N ≤ 1024 := by have := pix_small T sw sh; rw [pix_len, eN] at this; exact this
      have EN := Lib.hid eN
      rw [eN]
      clear eN eT
      go_wp2_with fail
      go_loopw [14] (fun i X => ∃ j : Nat, j ≤ N ∧ i = .int .i64 j ∧ blk X w.heap.size = some (.cells (cs .i64 (fanM mx my)) 23 (0, 0)) ∧ blk X (w.heap.size + 1) = some (.cells (cs .i64 (fanQ sw sh)) 42 (0, 0)) ∧ blk X (w.heap.size + 1 + 1) = some (.cells (cs .i64 (arrL (sw * sh) (cnt sw (doneF sw sh mx my k ++ (frameC T sw sh).take j)))) 3 (0, 0)) ∧ Hid (HitAt X ga13 (pixV T sw sh)) ∧ Below w.heap.size w X) (fun i _ => N - (intOf i).toNat)
      case atStart => exact ⟨0, by omega, rfl, bM, bQ, by rw [List.take_zero, List.append_nil]; exact bN, HA0, LY⟩
      case round =>
        obtain ⟨j, hj, rfl, BM, BQ, BN, HA, hb⟩ := hrel
        rename World => Z
        clear bM bQ bN LY HA0
        by_cases hjl : j < N
        · have hjl' : (j : Int) < N := by omega
          have hjF : j < (frameC T sw sh).length := by rw [EN.out]; exact hjl
          obtain ⟨px, py, ep, hpx, hpy, hplc, hidx⟩ := plc_frame hw1 (frameC_mem (List.getElem_mem hjF)).1
          have q1 := pix_at hjF
          rw [ep] at q1 hplc
          obtain ⟨gx, ox, e1, b1, c1⟩ := hit_some HA.out (by rw [pix_len, EN.out]; omega)
          have hfr := HFr.out gx ox e1
          subst e1
          obtain ⟨x0, x1, -, -, -⟩ := hit_five_at c1 (Below.refl Z.heap.size Z) b1 (by rw [pix_len]; exact hjF) q1
          obtain ⟨n, en⟩ : ∃ n : Nat, py * sw + px = n := ⟨_, rfl⟩
          rw [en] at hplc hidx
          have hnl : n < sw * sh := by rw [Nat.mul_comm]; exact hidx
          have EQN : (py : Int) * sw + px = (n : Int) := by rw [← en]; simp
          have hq0 : 0 ≤ (py : Int) * sw := Int.mul_nonneg (by omega) (by omega)
          have hq1 : (py : Int) * sw ≤ 1024 := by omega
          have hni : (n : Int) < (sw : Int) * sh := by have e : ((sw * sh : Nat) : Int) = (sw : Int) * sh := Int.natCast_mul ..; omega
          have hpx' : (px : Int) < sw := by omega
          have hpy' : (py : Int) < sh := by omega
          obtain ⟨c, ec⟩ : ∃ c, cnt sw (doneF sw sh mx my k ++ (frameC T sw sh).take j) n = c := ⟨_, rfl⟩
          have hcb : 0 ≤ c ∧ c ≤ 5120 := by
            rw [← ec]
            exact fan_bd hlt j
          obtain ⟨hc0, hc1⟩ := hcb
          have cN : Z.cell? ⟨w.heap.size + 1 + 1, n, none⟩ = some (.int .i64 c) := by rw [blk_cell BN, ← ec]; exact cs_at (arr_at hnl)
          have fN := blk_frozen BN n
          have HB := Lib.hid BN
          have EF : Hid ((frameC T sw sh)[j]? = some ((px : Int), (py : Int))) := Lib.hid (by rw [List.getElem?_eq_getElem hjF, ep])
          have HC := Lib.hid ec
          have HP := Lib.hid hplc
          clear BN ec ep hplc q1 c1 en hidx hjF
          go_wp2
          (refine Reg.quiet_tail 18 (by kernel_rfl) (by kernel_rfl) ?_; simp only [List.take_succ_cons, List.take_zero, List.drop_succ_cons, List.drop_zero]; (repeat go_big_quiet_step (fail)); refine wpQuiet_nil ?_)
          go_wp2
          refine ⟨⟨j + 1, by omega, by go_num, ?_, ?_, ?_, ?_, ?_⟩, by simp [intOf]; omega⟩
          · rw [blk_drew, blk_set_far _ _ _ _ (show w.heap.size < w.heap.size + 1 + 1 by omega)]
            exact BM
          · rw [blk_drew, blk_set_far _ _ _ _ (show w.heap.size + 1 < w.heap.size + 1 + 1 by omega)]
            exact BQ
          · rw [blk_drew]
            have e := blk_set Z (w.heap.size + 1 + 1) n (.int .i64 (c + 1)) _ _ HB.out
            rw [set_cs, cnt_set HP.out HC.out] at e
            rw [e, List.take_add_one, EF.out, ← List.append_assoc]
            rfl
          · exact Lib.hid (hit_set HA.out (show w.heap.size + 1 + 1 < gx by omega) _ _)
          · exact (Below.setCell hb (show w.heap.size ≤ w.heap.size + 1 + 1 by omega) _).drew
        · obtain rfl : j = N := by omega
          rw [List.take_of_length_le (by rw [EN.out]; exact Nat.le_refl _), ← ET.out, ← done_succ] at BN
          go_wp2
          exact ⟨⟨k + 1, by omega, by go_num, BM, BQ, BN, hb⟩, by simp [intOf]; omega⟩
    · obtain rfl : k = 4 := by omega
      have HO := Lib.hid (fun m (hm : m < sw * sh) => fan_ones ⟨hw0, hw1⟩ ⟨hh0, hh1⟩ HM.out hm)
      have HBN := Lib.hid bN
      clear bM bQ bN
      go_wp2_with fail
      go_loop [15] (fun i => ∃ m : Nat, m ≤ sw * sh ∧ i = .int .i64 m) (fun i => sw * sh - (intOf i).toNat)
      case atStart => exact ⟨0, by omega, rfl⟩
      case round =>
        obtain ⟨m, hm, rfl⟩ := hrel
        by_cases hml : m < sw * sh
        · have cm : Y.cell? ⟨w.heap.size + 1 + 1, m, none⟩ = some (.int .i64 1) := by rw [blk_cell HBN.out, ← HO.out m hml]; exact cs_at (arr_at hml)
          have hml' : (m : Int) < (sw : Int) * sh := by have e : ((sw * sh : Nat) : Int) = (sw : Int) * sh := Int.natCast_mul ..; omega
          go_wp2
          exact ⟨⟨m + 1, by omega, by go_num⟩, by simp [intOf]; omega⟩
        · have hml' : ¬ (m : Int) < (sw : Int) * sh := by have e : ((sw * sh : Nat) : Int) = (sw : Int) * sh := Int.natCast_mul ..; omega
          go_wp2_with fail
          refine (awake_any _).mono ?_
          rintro e w9 ⟨rfl, hb9⟩
          have L9 : Below w.heap.size w w9 := hb.trans (hb9.mono hb.size)
          clear hb9
          go_wp2
          go_ret
          exact ⟨rfl, L9⟩
theorem fan_gen (x y fw fh : Int) (w : World) (hx1 : -9223372036854775808 ≤ x) (hx2 : x ≤ 9223372036854775807) (hy1 : -9223372036854775808 ≤ y) (hy2 : y ≤ 9223372036854775807) :
    Calls Try.prog 6 #[.int .i64 x, .int .i64 y, .int .i64 fw, .int .i64 fh] w fun e w' => e = .returned (.bool true) ∧ Below w.heap.size w w' := by
  by_cases hf : frameB fw fh = true
  · have hd := of_decide_eq_true hf
    have := fan_in x y fw.toNat fh.toNat w hx1 hx2 hy1 hy2 (by omega) (by omega) (by omega) (by omega)
    rw [show ((fw.toNat : Nat) : Int) = fw by omega, show ((fh.toNat : Nat) : Int) = fh by omega] at this
    exact this
  · exact fan_out x y fw fh w (by simpa using hf)
end Go.Proofs.Ythkfnjblmilgnaa.EdQ

/-
  What the functions of package vec answer, and those of the document's own answer on matrices.
-/
import Derived.Test.YtimfjogallcgnaaNum
import Derived.Test.YtimfjogallcgnaaRd
import Derived.Test.YtimfjogallcgnaaEq
import Derived.Test.YtimfjogallcgnaaRow
namespace Go.Proofs.Ytimfjogallcgnaa.VecA
open Go.RowKit FixA Num Rd Go.Proofs.Ytimfjogallcgnaa.Row
set_option linter.unusedVariables false
set_option linter.unusedSimpArgs false
set_option maxRecDepth 10000

def cellB (c : Int) : Bool := decide (-1048576 ≤ c ∧ c ≤ 1048576)
theorem cell_yes {a : Int} (h : cellB a = true) : -1048576 ≤ a ∧ a ≤ 1048576 := by simpa [cellB] using h
theorem cell_no {a : Int} (h : cellB a = false) : a < -1048576 ∨ 1048576 < a := by
  have : ¬ (-1048576 ≤ a ∧ a ≤ 1048576) := by simpa [cellB] using h
  omega
theorem cell_mk {a : Int} (h1 : -1048576 ≤ a) (h2 : a ≤ 1048576) : cellB a = true := by simp [cellB]; omega
theorem cell_not {a : Int} (h : ¬ (-1048576 ≤ a ∧ a ≤ 1048576)) : cellB a = false := by simp [cellB]; omega

theorem cell_any (a : Int) (w : World) (w0 : (Lit.int .i64 a).wf = true) :
    Calls Try.prog 33 #[.int .i64 a] w fun e w' => e = .returned (.bool (cellB a)) ∧ w = w' := by
  by_cases h1 : -1048576 ≤ a
  · by_cases h2 : a ≤ 1048576
    · go_enter Try.func33, Try.ntmps33
      go_wp2
      go_ret
      exact ⟨ret_bool (cell_mk h1 h2).symm, rfl⟩
    · go_enter Try.func33, Try.ntmps33
      go_wp2
      go_ret
      exact ⟨ret_bool (cell_not (a := a) (by omega)).symm, rfl⟩
  · go_enter Try.func33, Try.ntmps33
    go_wp2
    go_ret
    exact ⟨ret_bool (cell_not (a := a) (by omega)).symm, rfl⟩

theorem len16 {α : Type} {l : List α} (h : l.length = 16) : ∃ a b c d e f g i j k m n o p q r, l = [a, b, c, d, e, f, g, i, j, k, m, n, o, p, q, r] := by
  match l, h with
  | [a, b, c, d, e, f, g, i, j, k, m, n, o, p, q, r], _ => exact ⟨a, b, c, d, e, f, g, i, j, k, m, n, o, p, q, r, rfl⟩
theorem len4 {α : Type} {l : List α} (h : l.length = 4) : ∃ a b c d, l = [a, b, c, d] := by
  match l, h with
  | [a, b, c, d], _ => exact ⟨a, b, c, d, rfl⟩

theorem load_mat (x : Value) : Instr.loadAt 27 x = loadRow 27 x := rfl
theorem load_vec (x : Value) : Instr.loadAt 23 x = loadRow 23 x := rfl
theorem store_mat (x v : Value) : Instr.storeAt 27 x v = storeRow 27 x v := rfl
theorem store_vec (x v : Value) : Instr.storeAt 23 x v = storeRow 23 x v := rfl
theorem run_load_mat (g o : Nat) (W : World) : (loadRow 27 (.pointer (some ⟨g, o, none⟩))).run Try.prog W = rowLoad Try.prog 27 16 g o W := run_loadRow Try.underlying27 rfl (by kernel_rfl) g o W
theorem run_load_vec (g o : Nat) (W : World) : (loadRow 23 (.pointer (some ⟨g, o, none⟩))).run Try.prog W = rowLoad Try.prog 23 4 g o W := run_loadRow Try.underlying23 rfl (by kernel_rfl) g o W
theorem run_store_mat (g o : Nat) (c : Array Value) (W : World) : (storeRow 27 (.pointer (some ⟨g, o, none⟩)) (.agg c)).run Try.prog W = rowStore Try.prog 27 16 g o c W := run_storeRow (by kernel_rfl) g o c W
theorem run_store_vec (g o : Nat) (c : Array Value) (W : World) : (storeRow 23 (.pointer (some ⟨g, o, none⟩)) (.agg c)).run Try.prog W = rowStore Try.prog 23 4 g o c W := run_storeRow (by kernel_rfl) g o c W

theorem index_mat (c : Array Value) (k : IntKind) (i : Int) (w : World) : (Instr.index 27 (.agg c) (.int k i)).run Try.prog w = if 0 ≤ i ∧ i < 16 then (match c[i.toNat]? with | some v => .ok v w | none => (part 3 c i.toNat).run Try.prog w) else (boundsPanic k i 16 .index).run Try.prog w := run_index_row (P := Try.prog) Try.underlying27 (fun _ => Try.isAgg3 _) (fun _ => Try.sizeOf3 _) c k i w
theorem index_vec (c : Array Value) (k : IntKind) (i : Int) (w : World) : (Instr.index 23 (.agg c) (.int k i)).run Try.prog w = if 0 ≤ i ∧ i < 4 then (match c[i.toNat]? with | some v => .ok v w | none => (part 3 c i.toNat).run Try.prog w) else (boundsPanic k i 4 .index).run Try.prog w := run_index_row (P := Try.prog) Try.underlying23 (fun _ => Try.isAgg3 _) (fun _ => Try.sizeOf3 _) c k i w
attribute [local go_sem ↓] load_mat load_vec store_mat store_vec
attribute [local go_sem] index_mat index_vec run_load_mat run_load_vec run_store_mat run_store_vec rowLoad_eq rowStore_eq blk_alloc_at blk_alloc_old blk_drew blk_drewN blk_set_far blk_set_far' blk_grow setRow_alloc_at setRow_alloc_old setRow_drew setRow_drewN


/-- all numbers are whole numbers of the machine -/
abbrev Wf (l : List Int) : Prop := ∀ x ∈ l, (Lit.int .i64 x).wf = true
theorem take_all {l : List Int} {k : Nat} (h : (l.take k).all cellB = true) (hk : k < l.length) (h2 : cellB l[k] = true) : (l.take (k + 1)).all cellB = true := by
  rw [List.take_add_one, List.getElem?_eq_getElem hk, List.all_append, h]
  simpa using h2
theorem all_no {l : List Int} {k : Nat} (hk : k < l.length) (h2 : cellB l[k] = false) : l.all cellB = false := by
  rw [List.all_eq_false]
  exact ⟨l[k], List.getElem_mem _, by simp [h2]⟩

theorem may_any (l : List Int) (hl : l.length = 16) (w : World) (hw : Wf l) :
    Calls Try.prog 22 #[.agg (cs .i64 l)] w fun e w' => e = .returned (.bool (l.all cellB)) ∧ Below w.heap.size w w' := by
  have HW := Lib.hid hw
  clear hw
  go_enter Try.func22, Try.ntmps22
  go_wp2_with fail
  go_loopw [6] (fun i wr => ∃ k : Nat, k ≤ 16 ∧ i = .int .i64 k ∧ Hid ((l.take k).all cellB = true) ∧ Below w.heap.size w wr) (fun i _ => 16 - (intOf i).toNat)
  case atStart => exact ⟨0, by omega, rfl, rfl, by repeat' (first | (with_reducible exact Below.refl _ _) | (with_reducible refine Rd.below_step ?_ (by assumption)) | (with_reducible refine Rd.below_alloc ?_ _) | (with_reducible refine Rd.below_drewN ?_ _) | (with_reducible refine Below.drew ?_) | (with_reducible refine Below.setCell ?_ ?_ _) | (with_reducible refine Rd.below_setRow ?_ ?_ _) | go_size | (simp only [World.size_alloc]; omega) | omega)⟩
  case round =>
    obtain ⟨k, hk, rfl, HT, hb⟩ := hrel
    by_cases hlt : k < 16
    · have wx := HW.out l[k] (List.getElem_mem _)
      go_wp2_with (go_at_call 33; refine (cell_any _ _ wx).mono ?_; rintro e w' ⟨rfl, rfl⟩)
      · have hf : cellB l[k] = false := by have h : (!cellB l[k]) = true := by assumption
                                           simpa using h
        have ha := all_no (by omega) hf
        go_ret
        exact ⟨ret_bool ha.symm, hb⟩
      · have hf : cellB l[k] = true := by have h : (!cellB l[k]) = false := by assumption
                                          simpa using h
        have ha := Lib.hid (take_all HT.out (by omega) hf)
        exact ⟨⟨k + 1, by omega, by go_num, ha, hb⟩, by simp [intOf]; omega⟩
    · obtain rfl : k = 16 := by omega
      have ha : l.all cellB = true := by have := HT.out; rwa [List.take_of_length_le (by omega)] at this
      clear HT
      go_wp2
      go_ret
      exact ⟨ret_bool ha.symm, hb⟩

theorem rmay_any (l : List Int) (hl : l.length = 16) (w : World) (hw : Wf l) :
    Calls Try.prog 27 #[.agg (cs .i64 l)] w fun e w' => e = .returned (.bool (l.all cellB)) ∧ Below w.heap.size w w' := by
  have HW := Lib.hid hw
  clear hw
  go_enter Try.func27, Try.ntmps27
  go_wp2_with fail
  go_loopw [3] (fun i wr => ∃ k : Nat, k ≤ 16 ∧ i = .int .i64 k ∧ Hid ((l.take k).all cellB = true) ∧ Below w.heap.size w wr ∧ blk wr w.heap.size = some (.cells (cs .i64 l) 27 (0, 0))) (fun i _ => 16 - (intOf i).toNat)
  case atStart => exact ⟨0, by omega, rfl, rfl, by repeat' (first | (with_reducible exact Below.refl _ _) | (with_reducible refine Rd.below_step ?_ (by assumption)) | (with_reducible refine Rd.below_alloc ?_ _) | (with_reducible refine Rd.below_drewN ?_ _) | (with_reducible refine Below.drew ?_) | (with_reducible refine Below.setCell ?_ ?_ _) | (with_reducible refine Rd.below_setRow ?_ ?_ _) | go_size | (simp only [World.size_alloc]; omega) | omega), heap_alloc_new w _⟩
  case round =>
    obtain ⟨k, hk, rfl, HT, hb, HB⟩ := hrel
    by_cases hlt : k < 16
    · have hc : wr.cell? ⟨w.heap.size, k, none⟩ = some (.int .i64 l[k]) := by rw [blk_cell HB]; simp
      have HB' := Lib.hid HB
      clear HB
      by_cases h1 : l[k] < -1048576
      · have ha := Lib.hid (all_no (l := l) (k := k) (by omega) (cell_not (by omega)))
        go_wp2
        go_ret
        exact ⟨ret_bool ha.out.symm, hb⟩
      · by_cases h2 : 1048576 < l[k]
        · have ha := Lib.hid (all_no (l := l) (k := k) (by omega) (cell_not (by omega)))
          have hd1 : decide (l[k] < -1048576) = false := by simpa using h1
          go_wp2
          go_ret
          exact ⟨ret_bool ha.out.symm, hb⟩
        · have ha := Lib.hid (take_all HT.out (by omega) (cell_mk (by omega) (by omega)))
          have hd1 : decide (l[k] < -1048576) = false := by simpa using h1
          have hd2 : decide (1048576 < l[k]) = false := by simpa using h2
          clear h1 h2
          go_wp2
          exact ⟨⟨k + 1, by omega, by go_num, ha, hb, HB'.out⟩, by simp [intOf]; omega⟩
    · obtain rfl : k = 16 := by omega
      have ha : l.all cellB = true := by have := HT.out; rwa [List.take_of_length_le (by omega)] at this
      have HA := Lib.hid ha
      clear HT HB ha
      go_wp2
      go_ret
      exact ⟨ret_bool HA.out.symm, hb⟩

theorem info_mat : (Try.prog.info? 27).map (·.size) = some 16 := by kernel_rfl
theorem info_vec : (Try.prog.info? 23).map (·.size) = some 4 := by kernel_rfl
theorem ret_mat2 {fn : Func} {R : Ending → World → Prop} {a : Act} {W : World} {p q : Tmp} (h : fn.results = #[.cell p 27, .tmp q]) (g : Nat) (l : List Int) (hp : a.tmps.getD p undef = .pointer (some ⟨g, 0, none⟩)) (hl : l.length = 16)
    (hg : blk W g = some (.cells (cs .i64 l) 27 (0, 0))) (hd : a.defers = []) (hR : R (.returned (.tuple #[.agg (cs .i64 l), a.tmps.getD q undef])) W) : bodyPost Try.prog fn R .ret a W :=
  bodyPost_ret (results_row2 h _ _ g _ _ _ _ hp hg Try.underlying27 rfl (by rw [info_mat]; simp [hl])) hd hR
theorem ret_vec2 {fn : Func} {R : Ending → World → Prop} {a : Act} {W : World} {p q : Tmp} (h : fn.results = #[.cell p 23, .tmp q]) (g : Nat) (l : List Int) (hp : a.tmps.getD p undef = .pointer (some ⟨g, 0, none⟩)) (hl : l.length = 4)
    (hg : blk W g = some (.cells (cs .i64 l) 23 (0, 0))) (hd : a.defers = []) (hR : R (.returned (.tuple #[.agg (cs .i64 l), a.tmps.getD q undef])) W) : bodyPost Try.prog fn R .ret a W :=
  bodyPost_ret (results_row2 h _ _ g _ _ _ _ hp hg Try.underlying23 rfl (by rw [info_vec]; simp [hl])) hd hR
theorem ret_mat1 {fn : Func} {R : Ending → World → Prop} {a : Act} {W : World} {p : Tmp} (h : fn.results = #[.cell p 27]) (g : Nat) (l : List Int) (hp : a.tmps.getD p undef = .pointer (some ⟨g, 0, none⟩)) (hl : l.length = 16)
    (hg : blk W g = some (.cells (cs .i64 l) 27 (0, 0))) (hd : a.defers = []) (hR : R (.returned (.agg (cs .i64 l))) W) : bodyPost Try.prog fn R .ret a W :=
  bodyPost_ret (results_row1 h _ _ g _ _ _ _ hp hg Try.underlying27 rfl (by rw [info_mat]; simp [hl])) hd hR
theorem ret_tup {k k' : IntKind} {l l' : List Int} {n n' : Int} (h : l = l') (h' : n = n') : Ending.returned (.tuple #[.agg (cs k l), .int k' n]) = .returned (.tuple #[.agg (cs k l'), .int k' n']) := by rw [h, h']
theorem ret_cs {k : IntKind} {l l' : List Int} (h : l = l') : Ending.returned (.agg (cs k l)) = .returned (.agg (cs k l')) := by rw [h]

/-! ### Products -/
def dot (ms : List Int) (r : Nat) (vs : List Int) : Int := ms.getD (4 * r) 0 * vs.getD 0 0 + ms.getD (4 * r + 1) 0 * vs.getD 1 0 + ms.getD (4 * r + 2) 0 * vs.getD 2 0 + ms.getD (4 * r + 3) 0 * vs.getD 3 0
def col (ns : List Int) (c : Nat) : List Int := [ns.getD c 0, ns.getD (4 + c) 0, ns.getD (8 + c) 0, ns.getD (12 + c) 0]
theorem prod_bd {a b A B : Int} (h1 : -A ≤ a) (h2 : a ≤ A) (h3 : -B ≤ b) (h4 : b ≤ B) : -(A * B) ≤ a * b ∧ a * b ≤ A * B := by
  have hA : 0 ≤ A := by omega
  have hB : 0 ≤ B := by omega
  have e1 : (A - a) * (B - b) ≥ 0 := Int.mul_nonneg (by omega) (by omega)
  have e2 : (A + a) * (B + b) ≥ 0 := Int.mul_nonneg (by omega) (by omega)
  have e3 : (A - a) * (B + b) ≥ 0 := Int.mul_nonneg (by omega) (by omega)
  have e4 : (A + a) * (B - b) ≥ 0 := Int.mul_nonneg (by omega) (by omega)
  have x1 : (A - a) * (B - b) = A * B - A * b - a * B + a * b := by rw [Int.sub_mul, Int.mul_sub, Int.mul_sub]; omega
  have x2 : (A + a) * (B + b) = A * B + A * b + a * B + a * b := by rw [Int.add_mul, Int.mul_add, Int.mul_add]; omega
  have x3 : (A - a) * (B + b) = A * B + A * b - a * B - a * b := by rw [Int.sub_mul, Int.mul_add, Int.mul_add]; omega
  have x4 : (A + a) * (B - b) = A * B - A * b + a * B - a * b := by rw [Int.add_mul, Int.mul_sub, Int.mul_sub]; omega
  omega
abbrev V28 (l : List Int) : Prop := ∀ x ∈ l, -268435456 ≤ x ∧ x ≤ 268435456
theorem cells_bd {l : List Int} (h : l.all cellB = true) : ∀ x ∈ l, -1048576 ≤ x ∧ x ≤ 1048576 := fun x hx => cell_yes (List.all_eq_true.1 h x hx)

set_option maxHeartbeats 1000000 in
theorem times_any (ms : List Int) (r : Nat) (vs : List Int) (w : World) (hm : ms.length = 16) (hv : vs.length = 4) (hr : r < 4) (hc : ms.all cellB = true) (hb : V28 vs) :
    Calls Try.prog 34 #[.agg (cs .i64 ms), .int .i64 r, .agg (cs .i64 vs)] w fun e w' => e = .returned (.int .i64 (near (dot ms r vs) 65536)) ∧ Below w.heap.size w w' := by
  have HC := Lib.hid (cells_bd hc)
  have HV := Lib.hid hb
  clear hc hb
  have e : r = 0 ∨ r = 1 ∨ r = 2 ∨ r = 3 := by omega
  rcases e with rfl | rfl | rfl | rfl
  · obtain ⟨p0, q0⟩ := prod_bd (HC.out ms[0] (List.getElem_mem _)).1 (HC.out ms[0] (List.getElem_mem _)).2 (HV.out vs[0] (List.getElem_mem _)).1 (HV.out vs[0] (List.getElem_mem _)).2
    obtain ⟨p1, q1⟩ := prod_bd (HC.out ms[1] (List.getElem_mem _)).1 (HC.out ms[1] (List.getElem_mem _)).2 (HV.out vs[1] (List.getElem_mem _)).1 (HV.out vs[1] (List.getElem_mem _)).2
    obtain ⟨p2, q2⟩ := prod_bd (HC.out ms[2] (List.getElem_mem _)).1 (HC.out ms[2] (List.getElem_mem _)).2 (HV.out vs[2] (List.getElem_mem _)).1 (HV.out vs[2] (List.getElem_mem _)).2
    obtain ⟨p3, q3⟩ := prod_bd (HC.out ms[3] (List.getElem_mem _)).1 (HC.out ms[3] (List.getElem_mem _)).2 (HV.out vs[3] (List.getElem_mem _)).1 (HV.out vs[3] (List.getElem_mem _)).2
    go_enter Try.func34, Try.ntmps34
    go_wp2
    refine wp_loop_rounds 5 ?_
    iterate 4 (rw [rounds_succ]; go_wp2)
    rw [rounds_succ]
    go_wp2_with (go_at_call 18; refine (round_mid _ _ _ (by omega) (by omega) (by omega) (by omega)).mono ?_; rintro e w' ⟨rfl, hb⟩)
    go_ret
    exact ⟨ret_int (by simp [dot, hm, hv]), by repeat' (first | (with_reducible exact Below.refl _ _) | (with_reducible refine Rd.below_step ?_ (by assumption)) | (with_reducible refine Rd.below_alloc ?_ _) | (with_reducible refine Rd.below_drewN ?_ _) | (with_reducible refine Below.drew ?_) | (with_reducible refine Below.setCell ?_ ?_ _) | (with_reducible refine Rd.below_setRow ?_ ?_ _) | go_size | (simp only [World.size_alloc]; omega) | omega)⟩
  · obtain ⟨p0, q0⟩ := prod_bd (HC.out ms[4] (List.getElem_mem _)).1 (HC.out ms[4] (List.getElem_mem _)).2 (HV.out vs[0] (List.getElem_mem _)).1 (HV.out vs[0] (List.getElem_mem _)).2
    obtain ⟨p1, q1⟩ := prod_bd (HC.out ms[5] (List.getElem_mem _)).1 (HC.out ms[5] (List.getElem_mem _)).2 (HV.out vs[1] (List.getElem_mem _)).1 (HV.out vs[1] (List.getElem_mem _)).2
    obtain ⟨p2, q2⟩ := prod_bd (HC.out ms[6] (List.getElem_mem _)).1 (HC.out ms[6] (List.getElem_mem _)).2 (HV.out vs[2] (List.getElem_mem _)).1 (HV.out vs[2] (List.getElem_mem _)).2
    obtain ⟨p3, q3⟩ := prod_bd (HC.out ms[7] (List.getElem_mem _)).1 (HC.out ms[7] (List.getElem_mem _)).2 (HV.out vs[3] (List.getElem_mem _)).1 (HV.out vs[3] (List.getElem_mem _)).2
    go_enter Try.func34, Try.ntmps34
    go_wp2
    refine wp_loop_rounds 5 ?_
    iterate 4 (rw [rounds_succ]; go_wp2)
    rw [rounds_succ]
    go_wp2_with (go_at_call 18; refine (round_mid _ _ _ (by omega) (by omega) (by omega) (by omega)).mono ?_; rintro e w' ⟨rfl, hb⟩)
    go_ret
    exact ⟨ret_int (by simp [dot, hm, hv]), by repeat' (first | (with_reducible exact Below.refl _ _) | (with_reducible refine Rd.below_step ?_ (by assumption)) | (with_reducible refine Rd.below_alloc ?_ _) | (with_reducible refine Rd.below_drewN ?_ _) | (with_reducible refine Below.drew ?_) | (with_reducible refine Below.setCell ?_ ?_ _) | (with_reducible refine Rd.below_setRow ?_ ?_ _) | go_size | (simp only [World.size_alloc]; omega) | omega)⟩
  · obtain ⟨p0, q0⟩ := prod_bd (HC.out ms[8] (List.getElem_mem _)).1 (HC.out ms[8] (List.getElem_mem _)).2 (HV.out vs[0] (List.getElem_mem _)).1 (HV.out vs[0] (List.getElem_mem _)).2
    obtain ⟨p1, q1⟩ := prod_bd (HC.out ms[9] (List.getElem_mem _)).1 (HC.out ms[9] (List.getElem_mem _)).2 (HV.out vs[1] (List.getElem_mem _)).1 (HV.out vs[1] (List.getElem_mem _)).2
    obtain ⟨p2, q2⟩ := prod_bd (HC.out ms[10] (List.getElem_mem _)).1 (HC.out ms[10] (List.getElem_mem _)).2 (HV.out vs[2] (List.getElem_mem _)).1 (HV.out vs[2] (List.getElem_mem _)).2
    obtain ⟨p3, q3⟩ := prod_bd (HC.out ms[11] (List.getElem_mem _)).1 (HC.out ms[11] (List.getElem_mem _)).2 (HV.out vs[3] (List.getElem_mem _)).1 (HV.out vs[3] (List.getElem_mem _)).2
    go_enter Try.func34, Try.ntmps34
    go_wp2
    refine wp_loop_rounds 5 ?_
    iterate 4 (rw [rounds_succ]; go_wp2)
    rw [rounds_succ]
    go_wp2_with (go_at_call 18; refine (round_mid _ _ _ (by omega) (by omega) (by omega) (by omega)).mono ?_; rintro e w' ⟨rfl, hb⟩)
    go_ret
    exact ⟨ret_int (by simp [dot, hm, hv]), by repeat' (first | (with_reducible exact Below.refl _ _) | (with_reducible refine Rd.below_step ?_ (by assumption)) | (with_reducible refine Rd.below_alloc ?_ _) | (with_reducible refine Rd.below_drewN ?_ _) | (with_reducible refine Below.drew ?_) | (with_reducible refine Below.setCell ?_ ?_ _) | (with_reducible refine Rd.below_setRow ?_ ?_ _) | go_size | (simp only [World.size_alloc]; omega) | omega)⟩
  · obtain ⟨p0, q0⟩ := prod_bd (HC.out ms[12] (List.getElem_mem _)).1 (HC.out ms[12] (List.getElem_mem _)).2 (HV.out vs[0] (List.getElem_mem _)).1 (HV.out vs[0] (List.getElem_mem _)).2
    obtain ⟨p1, q1⟩ := prod_bd (HC.out ms[13] (List.getElem_mem _)).1 (HC.out ms[13] (List.getElem_mem _)).2 (HV.out vs[1] (List.getElem_mem _)).1 (HV.out vs[1] (List.getElem_mem _)).2
    obtain ⟨p2, q2⟩ := prod_bd (HC.out ms[14] (List.getElem_mem _)).1 (HC.out ms[14] (List.getElem_mem _)).2 (HV.out vs[2] (List.getElem_mem _)).1 (HV.out vs[2] (List.getElem_mem _)).2
    obtain ⟨p3, q3⟩ := prod_bd (HC.out ms[15] (List.getElem_mem _)).1 (HC.out ms[15] (List.getElem_mem _)).2 (HV.out vs[3] (List.getElem_mem _)).1 (HV.out vs[3] (List.getElem_mem _)).2
    go_enter Try.func34, Try.ntmps34
    go_wp2
    refine wp_loop_rounds 5 ?_
    iterate 4 (rw [rounds_succ]; go_wp2)
    rw [rounds_succ]
    go_wp2_with (go_at_call 18; refine (round_mid _ _ _ (by omega) (by omega) (by omega) (by omega)).mono ?_; rintro e w' ⟨rfl, hb⟩)
    go_ret
    exact ⟨ret_int (by simp [dot, hm, hv]), by repeat' (first | (with_reducible exact Below.refl _ _) | (with_reducible refine Rd.below_step ?_ (by assumption)) | (with_reducible refine Rd.below_alloc ?_ _) | (with_reducible refine Rd.below_drewN ?_ _) | (with_reducible refine Below.drew ?_) | (with_reducible refine Below.setCell ?_ ?_ _) | (with_reducible refine Rd.below_setRow ?_ ?_ _) | go_size | (simp only [World.size_alloc]; omega) | omega)⟩
end Go.Proofs.Ytimfjogallcgnaa.VecA

/-
  slices.Delete and slices.Insert of one want, in a row of one's own (elements of four cells).
-/
import Derived.Test.YtpbdgkjlmijipaaPgC
import Derived.Test.YtpbdgkjlmijipaaApp
import Derived.Lib.Overlaps
import Derived.Lib.AppendZerosOnto
import Derived.Lib.SliceRun
import Derived.Laws.CopyRow
import Derived.Laws.Externs
import Derived.Deep.RegionLaw
namespace Go.Proofs.Ytpbdgkjlmijipaa.QuA
open Go.RowKit Rd Go.Proofs.Ytpbdgkjlmijipaa.Row PgM PgC
set_option linter.unusedVariables false
set_option linter.unusedSimpArgs false
set_option maxRecDepth 10000
section
variable {P : Program}
/-- what stands at 'o' on in a row, turned -/
def ov (c : Array Value) (o : Nat) (v : List Value) : Array Value := (c.toList.take o ++ v ++ c.toList.drop (o + v.length)).toArray
theorem ov_size (c : Array Value) (o : Nat) (v : List Value) (h : o + v.length ≤ c.size) : (ov c o v).size = c.size := by
  simp [ov]; omega
theorem run_copy_wide (w : World) (dT sT ty elem : TypeId) (i : TypeInfo) (g o dLen dCap : Nat) (a : Addr) (sLen sCap : Nat) (cur : Array Value) (t : TypeId) (cs : List Value)
    (hu : P.underlying dT = some (.slice elem)) (hi : P.info? elem = some i)
    (hg : w.heap[g]? = some (.cells cur t (0, 0))) (hn : cs.length = Nat.min sLen dLen * i.size)
    (hsrc : ∀ j v, cs[j]? = some v → w.cell? (a.add j) = some v) (hfit : o + cs.length ≤ cur.size) (h1 : ∀ v ∈ cs, v.oneCell' = true) :
    (Builtin.copy_ #[dT, sT] ty #[.slice (some ⟨g, o, none⟩) dLen dCap, .slice (some a) sLen sCap]).run P w = .ok (goInt (Nat.min sLen dLen)) (w.setRow g (ov cur o cs)) := by
  have hl := run_loadCells_list (P := P) w a cs hsrc
  rw [hn] at hl
  have hst := run_storeCells_at P g o t cs 0 cur w hg (by simpa using hfit) h1
  simp only [Nat.add_zero] at hst
  simp [Builtin.copy_, run_underlying hu, Builtin.lenOf, Builtin.firstCells, sizeOf, typeInfo, hi, hl, hst, ov]
theorem run_clear_wide (w : World) (T e ty : TypeId) (z : Value) (hT : P.underlying T = some (.slice e)) (hv : ∀ w, (zeroValue e).run P w = .ok z w) (g o n c : Nat) (cur : Array Value) (t : TypeId) (hg : w.heap[g]? = some (.cells cur t (0, 0))) (hn : 0 < n)
    (hfit : o + n * z.cells.size ≤ cur.size) (h1 : ∀ v ∈ (Builtin.zeroCells z.cells n).toList, v.oneCell' = true) :
    (Builtin.clear_ #[T] ty #[.slice (some ⟨g, o, none⟩) n c]).run P w = .ok (.tuple #[]) (w.setRow g (ov cur o (Builtin.zeroCells z.cells n).toList)) := by
  have hst := run_storeCells_at P g o t (Builtin.zeroCells z.cells n).toList 0 cur w hg (by simp [size_zeroCells]; omega) h1
  simp only [Nat.add_zero] at hst
  obtain ⟨m, rfl⟩ : ∃ m, n = m + 1 := ⟨n - 1, by omega⟩
  simp [Builtin.clear_, run_underlying hT, hv, hst, ov]
/-- the operation 'append(s, x...)' in a region that draws, where its run is known -/
theorem step_append_run {ops : Array Oper} {o : Oper} {a : Act} {w : World} {K : Act → World → Prop} {Q : Exit → Act → World → Prop} {E : Prop}
    (hg : o.guard = none) (d x : Operand) (dT sT : TypeId) (hop : o.op = Op.call { callee := Callee.builtin Builtin.append, args := #[d, x], argTypes := #[dT, sT] })
    (v u : Value) (hd : a.eval d = v) (hx : a.eval x = u) {v' : Value} {w' : World} (hr : (Builtin.append_ #[dT, sT] o.type #[v, u]).run P w = .ok v' w') (hK : K (a.put o.dst v') w') :
    if Region.wanted o (yielded ops a.tmps) = true then Oper.wp P o a w K Q else E := by
  have hw : Region.wanted o (yielded ops a.tmps) = true := by simp [Region.wanted, hg]
  rw [if_pos hw]
  unfold Oper.wp
  simp [execOp, hop, resolve, invoke, builtin, hd, hx, hr, Result.andThen]
  exact hK
theorem step_copy_run {ops : Array Oper} {o : Oper} {a : Act} {w : World} {K : Act → World → Prop} {Q : Exit → Act → World → Prop} {E : Prop}
    (hg : o.guard = none) (d x : Operand) (dT sT : TypeId) (hop : o.op = Op.call { callee := Callee.builtin Builtin.copy, args := #[d, x], argTypes := #[dT, sT] })
    (v u : Value) (hd : a.eval d = v) (hx : a.eval x = u) {v' : Value} {w' : World} (hr : (Builtin.copy_ #[dT, sT] o.type #[v, u]).run P w = .ok v' w') (hK : K (a.put o.dst v') w') :
    if Region.wanted o (yielded ops a.tmps) = true then Oper.wp P o a w K Q else E := by
  have hw : Region.wanted o (yielded ops a.tmps) = true := by simp [Region.wanted, hg]
  rw [if_pos hw]
  unfold Oper.wp
  simp [execOp, hop, resolve, invoke, builtin, hd, hx, hr, Result.andThen]
  exact hK
theorem wpList_copy_run (w : World) {ops : Array Oper} {rest : List Oper} {o : Oper} {a : Act} {Q : Exit → Act → World → Prop} (hgd : o.guard = none) (d s : Operand) (t t' : TypeId)
    (ho : o.op = .call { callee := .builtin .copy, args := #[d, s], argTypes := #[t, t'] }) (v u : Value) (hd : a.eval d = v) (hs : a.eval s = u) {v' : Value} {w' : World}
    (hr : (Builtin.copy_ #[t, t'] o.type #[v, u]).run P w = .ok v' w') (h : wpList P ops Q rest (a.put o.dst v') w') : wpList P ops Q (o :: rest) a w :=
  wpList_plain hgd fun _ hK => by
    unfold Oper.wp execOp
    simp only [ho, resolve, invoke, builtin, Sem.run_bind, Sem.run_pure, Result.andThen_ok, List.map_toArray, List.map_cons, List.map_nil, hd, hs, hr]
    exact hK _ _ h
theorem wpList_append_run (w : World) {ops : Array Oper} {rest : List Oper} {o : Oper} {a : Act} {Q : Exit → Act → World → Prop} (hgd : o.guard = none) (d s : Operand) (t t' : TypeId)
    (ho : o.op = .call { callee := .builtin .append, args := #[d, s], argTypes := #[t, t'] }) (v u : Value) (hd : a.eval d = v) (hs : a.eval s = u) {v' : Value} {w' : World}
    (hr : (Builtin.append_ #[t, t'] o.type #[v, u]).run P w = .ok v' w') (h : wpList P ops Q rest (a.put o.dst v') w') : wpList P ops Q (o :: rest) a w :=
  wpList_plain hgd fun _ hK => by
    unfold Oper.wp execOp
    simp only [ho, resolve, invoke, builtin, Sem.run_bind, Sem.run_pure, Result.andThen_ok, List.map_toArray, List.map_cons, List.map_nil, hd, hs, hr]
    exact hK _ _ h
theorem wpList_clear_run (w : World) {ops : Array Oper} {rest : List Oper} {o : Oper} {a : Act} {Q : Exit → Act → World → Prop} (hgd : o.guard = none) (s : Operand) (t : TypeId)
    (ho : o.op = .call { callee := .builtin .clear, args := #[s], argTypes := #[t] }) (u : Value) (hs : a.eval s = u) {v' : Value} {w' : World}
    (hr : (Builtin.clear_ #[t] o.type #[u]).run P w = .ok v' w') (h : wpList P ops Q rest (a.put o.dst v') w') : wpList P ops Q (o :: rest) a w :=
  wpList_plain hgd fun _ hK => by
    unfold Oper.wp execOp
    simp only [ho, resolve, invoke, builtin, Sem.run_bind, Sem.run_pure, Result.andThen_ok, List.map_toArray, List.map_cons, List.map_nil, hs, hr]
    exact hK _ _ h
end
abbrev W4 (r : PgM.Row) : Prop := ∀ v ∈ r, v.length = 4
theorem fw_len {r : PgM.Row} (h : W4 r) : (fl r).length = r.length * 4 := by
  induction r with
  | nil => rfl
  | cons v r ih =>
    have e : fl (v :: r) = fl [v] ++ fl r := fl_app [v] r
    rw [e, List.length_append, fl_one, List.length_map, h v (List.mem_cons_self ..), ih fun u hu => h u (List.mem_cons_of_mem _ hu), List.length_cons]
    omega
theorem fw_at {r : PgM.Row} (h : W4 r) : ∀ i, i < r.length → ∀ j, j < 4 → (fl r)[i * 4 + j]? = some (.int .i64 (PgM.g (at_ r i) j)) := by
  induction r with
  | nil => intro i hi; simp at hi
  | cons v r ih =>
    intro i hi j hj
    have e : fl (v :: r) = fl [v] ++ fl r := fl_app [v] r
    have hv := h v (List.mem_cons_self ..)
    rw [e, fl_one]
    cases i with
    | zero =>
      rw [List.getElem?_append_left (by simp; omega)]
      have : at_ (v :: r) 0 = v := rfl
      rw [this]
      simp [PgM.g, List.getD, hv, hj]
    | succ i =>
      rw [List.getElem?_append_right (by simp; omega), List.length_map, hv, show (i + 1) * 4 + j - 4 = i * 4 + j by omega, ih (fun u hu => h u (List.mem_cons_of_mem _ hu)) i (by simpa using hi) j hj]
      rfl
theorem w4_take {r : PgM.Row} (h : W4 r) (k : Nat) : W4 (r.take k) := fun v hv => h v (List.mem_of_mem_take hv)
theorem w4_drop {r : PgM.Row} (h : W4 r) (k : Nat) : W4 (r.drop k) := fun v hv => h v (List.mem_of_mem_drop hv)
theorem w4_app {r s : PgM.Row} (h : W4 r) (h2 : W4 s) : W4 (r ++ s) := fun v hv => (List.mem_append.1 hv).elim (h v) (h2 v)
theorem fl_one_cell (r : PgM.Row) : ∀ u ∈ fl r, u.oneCell' = true := by
  intro u hu
  obtain ⟨v, -, hv⟩ := List.mem_flatMap.1 hu
  obtain ⟨z, -, rfl⟩ := List.mem_map.1 hv
  rfl
theorem info_want : (Try.prog.info? 36).map (fun i => (i.zero, i.size, i.bytes)) = some (some (.agg #[.int .i64 0, .int .i64 0, .int .i64 0, .int .i64 0]), 4, 32) := by kernel_rfl
theorem zero_want (w : World) : (zeroValue 36).run Try.prog w = .ok (.agg #[.int .i64 0, .int .i64 0, .int .i64 0, .int .i64 0]) w := by rfl
/-- a row of wants of one's own, taken apart -/
theorem own_w {w : World} {base g n c : Nat} {r : PgM.Row} (h : w.ownsRow base 36 4 (.slice (some ⟨g, 0, none⟩) n c) n (fl r)) : ∃ R : List Value, w.heap[g]? = some (.cells (fl r ++ R).toArray 36 (0, 0)) ∧ (fl r).length = n * 4 ∧ base ≤ g ∧ n ≤ c ∧ c ≤ maxLen ∧ R.length = (c - n) * 4 := by
  obtain ⟨h1, h2⟩ := h
  rcases h2 with ⟨h2, -⟩ | ⟨g', c', cur, h2, h3, h4, h5, h6, h7, h8⟩
  · cases h2
  · cases h2
    refine ⟨cur.toList.drop (n * 4), by rw [← h8, List.take_append_drop, Array.toArray_toList]; exact h4, h1, h3, h5, h6, ?_⟩
    rw [List.length_drop, Array.length_toList, h7]
    omega
theorem own_mk {w : World} {base g n c : Nat} {r : PgM.Row} {R : List Value} (h : w.heap[g]? = some (.cells (fl r ++ R).toArray 36 (0, 0))) (hl : (fl r).length = n * 4) (hb : base ≤ g) (hn : n ≤ c) (hc : c ≤ maxLen) (hR : R.length = (c - n) * 4) : w.ownsRow base 36 4 (.slice (some ⟨g, 0, none⟩) n c) n (fl r) := by
  refine ⟨hl, .inr ⟨g, c, _, rfl, hb, h, hn, hc, by simp [hl, hR]; omega, ?_⟩⟩
  rw [← hl]
  simp
end Go.Proofs.Ytpbdgkjlmijipaa.QuA

/-
  Whole arrays and structs in and out of their blocks, whatever their cells: no cell is looked at.
-/
import Derived.Test.YtkklppjimnkibaaRd
import Derived.Deep.WholeRow
import Derived.Deep.Cut
namespace Go.Proofs.Ytkklppjimnkibaa.Row
open Go.RowKit Rd
set_option linter.unusedVariables false
set_option linter.unusedSimpArgs false

/-- what stands in a block (a name of its own: the walk's simp would rewrite the list's) -/
def blk (W : World) (g : Nat) : Option Obj := W.heap[g]?
section
variable {P : Program}
def loadRow (t : TypeId) (x : Value) : Sem Value := Instr.loadAt t x
def storeRow (t : TypeId) (x v : Value) : Sem Unit := Instr.storeAt t x v
def allocRow (t : TypeId) : Sem Value := Instr.alloc t true (.tuple #[])
/-- all other loads and stores of the type: under names that the walk's simp does not open -/
def fallLoad (P : Program) (t : TypeId) (g o : Nat) (W : World) : Result Value := (loadVar t ⟨g, o, none⟩).run P W
def fallStore (P : Program) (t : TypeId) (g o : Nat) (cs : Array Value) (W : World) : Result Unit := (storeVar t ⟨g, o, none⟩ (.agg cs)).run P W
def rowLoad (P : Program) (t : TypeId) (n g o : Nat) (W : World) : Result Value :=
  match blk W g with
  | some (.cells cs _ _) => if o = 0 ∧ cs.size = n then .ok (.agg cs) W else fallLoad P t g o W
  | _ => fallLoad P t g o W
def rowStore (P : Program) (t : TypeId) (n g o : Nat) (cs : Array Value) (W : World) : Result Unit :=
  match blk W g with
  | some (.cells old _ (0, 0)) => if o = 0 ∧ old.size = n ∧ cs.size = n ∧ cs.all (·.oneCell') = true then .ok () (W.setRow g cs) else fallStore P t g o cs W
  | _ => fallStore P t g o cs W

theorem run_loadRow {t n : Nat} {d : TypeDesc} (hu : P.underlying t = some d) (hd : (match d with | .struct _ | .array _ _ => true | _ => false) = true) (hi : (P.info? t).map (·.size) = some n) (g o : Nat) (W : World) :
    (loadRow t (.pointer (some ⟨g, o, none⟩))).run P W = rowLoad P t n g o W := by
  unfold rowLoad loadRow blk
  split
  · rename_i cs t' fr h
    split
    · rename_i h0
      obtain ⟨rfl, h0⟩ := h0
      simp only [Instr.loadAt, Instr.sureAddr, Sem.run_bind, Sem.run_pure, Result.andThen]
      exact run_loadVar_row W g t' t cs fr d h hu hd (by rw [h0]; exact hi)
    · simp [Instr.loadAt, Instr.sureAddr, fallLoad]
  · simp [Instr.loadAt, Instr.sureAddr, fallLoad]
theorem run_storeRow {t n : Nat} (hi : (P.info? t).map (·.size) = some n) (g o : Nat) (cs : Array Value) (W : World) :
    (storeRow t (.pointer (some ⟨g, o, none⟩)) (.agg cs)).run P W = rowStore P t n g o cs W := by
  unfold rowStore storeRow blk
  split
  · rename_i old t' h
    split
    · rename_i h0
      obtain ⟨rfl, h1, h2, h3⟩ := h0
      simp only [Instr.storeAt, Instr.sureAddr, Sem.run_bind, Sem.run_pure, Result.andThen]
      exact run_storeVar_row W g t' t old cs h (by rw [h2]; exact hi) (by rw [h1, h2]) h3
    · simp [Instr.storeAt, Instr.sureAddr, fallStore]
  · simp [Instr.storeAt, Instr.sureAddr, fallStore]
theorem rowLoad_eq (t : TypeId) (n g o : Nat) (W : World) : rowLoad P t n g o W = match blk W g with
  | some (.cells cs _ _) => if o = 0 ∧ cs.size = n then .ok (.agg cs) W else fallLoad P t g o W
  | _ => fallLoad P t g o W := rfl
theorem rowStore_eq (t : TypeId) (n g o : Nat) (cs : Array Value) (W : World) : rowStore P t n g o cs W = match blk W g with
  | some (.cells old _ (0, 0)) => if o = 0 ∧ old.size = n ∧ cs.size = n ∧ cs.all (·.oneCell') = true then .ok () (W.setRow g cs) else fallStore P t g o cs W
  | _ => fallStore P t g o cs W := rfl
end

/-! What stands in a block -/
theorem blk_alloc_at (w : World) (o : Obj) (k : Nat) (h : k = w.heap.size) : blk (w.alloc o) k = some o := by subst h; exact heap_alloc_new w o
theorem blk_alloc_old (w : World) (o : Obj) (k : Nat) (h : k < w.heap.size) : blk (w.alloc o) k = blk w k := Below.heap_alloc w o k h
theorem blk2_0 (w : World) (A B : Obj) : blk ((w.alloc A).alloc B) w.heap.size = some A := by rw [blk_alloc_old _ _ _ (by simp), blk_alloc_at _ _ _ rfl]
theorem blk2_1 (w : World) (A B : Obj) : blk ((w.alloc A).alloc B) (w.heap.size + 1) = some B := blk_alloc_at _ _ _ (by simp)
theorem blk3_0 (w : World) (A B C : Obj) : blk (((w.alloc A).alloc B).alloc C) w.heap.size = some A := by rw [blk_alloc_old _ _ _ (by simp; omega)]; exact blk2_0 w A B
theorem blk3_1 (w : World) (A B C : Obj) : blk (((w.alloc A).alloc B).alloc C) (w.heap.size + 1) = some B := by rw [blk_alloc_old _ _ _ (by simp)]; exact blk2_1 w A B
theorem blk3_2 (w : World) (A B C : Obj) : blk (((w.alloc A).alloc B).alloc C) (w.heap.size + 1 + 1) = some C := blk_alloc_at _ _ _ (by simp)
theorem blk_drew (w : World) (k : Nat) : blk w.drew k = blk w k := rfl
theorem blk_drewN (w : World) (n k : Nat) : blk (w.drewN n) k = blk w k := rfl
theorem blk_set_far (w : World) (a : Addr) (k : Nat) (v : Value) (h : k < a.block) : blk (w.setCell a v) k = blk w k := heap_setCell_other w a k v (by omega)
theorem blk_set_far' (w : World) (a : Addr) (k : Nat) (v : Value) (h : a.block < k) : blk (w.setCell a v) k = blk w k := heap_setCell_other w a k v (by omega)
theorem blk_grow (w : World) (d : Nat) (os : Array Obj) (k : Nat) (h : k < w.heap.size) : blk (Sort.grow (redrawn w d) os) k = blk w k := (below_regrown w d os).block k h
theorem blk_below {B : Nat} {w W : World} (h : Below B w W) (k : Nat) (hk : k < B) : blk W k = blk w k := h.block k hk
theorem blk_set (w : World) (g i : Nat) (v : Value) (c : Array Value) (t : TypeId) (h : blk w g = some (.cells c t (0, 0))) : blk (w.setCell ⟨g, i, none⟩ v) g = some (.cells (c.setIfInBounds i v) t (0, 0)) := by
  unfold blk at h ⊢
  simp [World.setCell, Array.getElem?_modify, h]
theorem blk_cell {w : World} {g : Nat} {c : Array Value} {t : TypeId} {fr : Nat × Nat} (h : blk w g = some (.cells c t fr)) (i : Nat) : w.cell? ⟨g, i, none⟩ = c[i]? := cell_of_row w g i c t fr h
theorem blk_frozen {w : World} {g : Nat} {c : Array Value} {t : TypeId} (h : blk w g = some (.cells c t (0, 0))) (i : Nat) : w.frozen? ⟨g, i, none⟩ = false := frozen_of_row w g i c t h
theorem blk_lt {w : World} {g : Nat} {o : Obj} (h : blk w g = some o) : g < w.heap.size := by
  rcases Nat.lt_or_ge g w.heap.size with hlt | hge
  · exact hlt
  · unfold blk at h; rw [Array.getElem?_eq_none hge] at h; cases h
theorem setRow_alloc_at (w : World) (c c' : Array Value) (t : TypeId) (g : Nat) (h : g = w.heap.size) : (w.alloc (.cells c t)).setRow g c' = w.alloc (.cells c' t) := by subst h; exact World.setRow_alloc_new w c c' t
theorem setRow_alloc_old (w : World) (o : Obj) (c' : Array Value) (g : Nat) (h : g < w.heap.size) : (w.alloc o).setRow g c' = (w.setRow g c').alloc o := by
  simp only [World.setRow, World.alloc]
  congr 1
  apply Array.ext_getElem?
  intro i
  rw [Array.getElem?_modify, Array.getElem?_push, Array.getElem?_push, Array.size_modify, Array.getElem?_modify]
  by_cases h1 : i = w.heap.size
  · subst h1
    simp [show ¬ g = w.heap.size by omega]
  · simp [h1]
theorem setRow_drew (w : World) (c' : Array Value) (g : Nat) : w.drew.setRow g c' = (w.setRow g c').drew := rfl
theorem setRow_drewN (w : World) (c' : Array Value) (g n : Nat) : (w.drewN n).setRow g c' = (w.setRow g c').drewN n := rfl
theorem blk_setRow_same (w : World) (g : Nat) (c : Array Value) : blk (w.setRow g c) g = match blk w g with | some (.cells _ t fr) => some (.cells c t fr) | x => x := by
  unfold World.setRow blk
  simp only [Array.getElem?_modify, if_true]
  cases w.heap[g]? with
  | none => rfl
  | some o => cases o <;> rfl
theorem blk_setRow_other (w : World) (g k : Nat) (c : Array Value) (h : k ≠ g) : blk (w.setRow g c) k = blk w k := by
  unfold World.setRow blk
  simp [Array.getElem?_modify, Ne.symm h]
theorem blk_setRow_of {w : World} {g : Nat} {c0 : Array Value} {t : TypeId} {fr : Nat × Nat} (h : blk w g = some (.cells c0 t fr)) (c : Array Value) : blk (w.setRow g c) g = some (.cells c t fr) := by
  rw [blk_setRow_same, h]
theorem one_int (k : IntKind) (n : Int) : (Value.int k n).oneCell' = true := rfl

/-- one of an array by its place -/
theorem run_index_row {P : Program} {t e : TypeId} {n : Nat} (hu : P.underlying t = some (.array n e)) (ha : ∀ w, (isAgg e).run P w = .ok false w) (hs : ∀ w, (sizeOf e).run P w = .ok 1 w)
    (c : Array Value) (k : IntKind) (i : Int) (w : World) : (Instr.index t (.agg c) (.int k i)).run P w =
      if 0 ≤ i ∧ i < n then (match c[i.toNat]? with | some v => .ok v w | none => (part e c i.toNat).run P w) else (boundsPanic k i n .index).run P w := by
  simp only [Instr.index, asIntOf, Sem.run_bind, Sem.run_pure, Result.andThen, run_underlying hu]
  split
  · simp only [part, Sem.run_bind, ha, hs, Nat.mul_one, Result.andThen_ok, Bool.false_eq_true, if_false]
    cases h : c[i.toNat]? <;> simp [h]
  · rfl

/-- numbers as cells -/
abbrev cs (k : IntKind) (l : List Int) : Array Value := (l.map (Value.int k)).toArray
theorem all_cs (k : IntKind) (l : List Int) : (cs k l).all (·.oneCell') = true := by
  rw [Array.all_eq_true_iff_forall_mem]
  intro v hv
  simp only [cs, List.mem_toArray, List.mem_map] at hv
  obtain ⟨x, _, rfl⟩ := hv
  rfl
theorem all_map (k : IntKind) (l : List Int) : (l.all ((·.oneCell') ∘ Value.int k)) = true := by simp [Value.oneCell']
theorem cs_at {k : IntKind} {l : List Int} {i : Nat} {x : Int} (h : l[i]? = some x) : (cs k l)[i]? = some (.int k x) := by simp [h]
theorem at_of {l : List Int} {i : Nat} (h : i < l.length) : l[i]? = some (l.getD i 0) := by simp [List.getD, h]

/-! A row that is filled place by place; a test of all, from the front -/
def fillK (n : Nat) (f : Nat → Int) (k : Nat) : List Int := (List.range n).map fun i => if i < k then f i else 0
theorem fillK_len (n : Nat) (f : Nat → Int) (k : Nat) : (fillK n f k).length = n := by simp [fillK]
theorem fillK_0 (n : Nat) (f : Nat → Int) : fillK n f 0 = List.replicate n 0 := by
  apply List.ext_getElem?
  intro i
  by_cases h : i < n <;> simp [fillK, h]
theorem fillK_set (n : Nat) (f : Nat → Int) (k : Nat) (h : k < n) : (fillK n f k).set k (f k) = fillK n f (k + 1) := by
  apply List.ext_getElem?
  intro i
  rw [List.getElem?_set]
  by_cases hi : k = i
  · subst hi
    simp [fillK, h]
  · rw [if_neg hi]
    by_cases h16 : i < n
    · simp [fillK, h16]
      by_cases hk : i < k
      · simp [hk, show i < k + 1 by omega]
      · simp [hk, show ¬ i < k + 1 by omega]
    · simp [fillK, h16]
theorem fillK_all (n : Nat) (f : Nat → Int) : fillK n f n = (List.range n).map f := by
  unfold fillK
  refine List.map_congr_left fun i hi => ?_
  rw [if_pos (by simpa using hi)]
theorem fillK_mem {n k : Nat} {f : Nat → Int} {p : Int → Prop} (h0 : p 0) (h : ∀ i, i < n → p (f i)) : ∀ x ∈ fillK n f k, p x := by
  intro x hx
  simp only [fillK, List.mem_map, List.mem_range] at hx
  obtain ⟨i, hi, rfl⟩ := hx
  split
  · exact h i hi
  · exact h0
theorem take_allp {p : Int → Bool} {l : List Int} {k : Nat} (h : (l.take k).all p = true) (hk : k < l.length) (h2 : p l[k] = true) : (l.take (k + 1)).all p = true := by
  rw [List.take_add_one, List.getElem?_eq_getElem hk, List.all_append, h]
  simpa using h2
theorem all_nop {p : Int → Bool} {l : List Int} {k : Nat} (hk : k < l.length) (h2 : p l[k] = false) : l.all p = false := by
  rw [List.all_eq_false]
  exact ⟨l[k], List.getElem_mem _, by simp [h2]⟩

/-! Results that lie in a block -/
theorem results_row1 {P : Program} {fn : Func} {p : Tmp} {ty : TypeId} (h : fn.results = #[.cell p ty]) (tmps : Array Value) (w : World) (g : Nat) (t : TypeId) (c : Array Value) (fr : Nat × Nat) (d : TypeDesc)
    (hp : tmps.getD p undef = .pointer (some ⟨g, 0, none⟩)) (hg : blk w g = some (.cells c t fr))
    (hu : P.underlying ty = some d) (hd : (match d with | .struct _ | .array _ _ => true | _ => false) = true) (hi : (P.info? ty).map (·.size) = some c.size) :
    (results fn tmps).run P w = .ok (.agg c) w := results_cell_row h tmps w g t c fr d hp hg hu hd hi
theorem results_row2 {P : Program} {fn : Func} {p q : Tmp} {ty : TypeId} (h : fn.results = #[.cell p ty, .tmp q]) (tmps : Array Value) (w : World) (g : Nat) (t : TypeId) (c : Array Value) (fr : Nat × Nat) (d : TypeDesc)
    (hp : tmps.getD p undef = .pointer (some ⟨g, 0, none⟩)) (hg : blk w g = some (.cells c t fr))
    (hu : P.underlying ty = some d) (hd : (match d with | .struct _ | .array _ _ => true | _ => false) = true) (hi : (P.info? ty).map (·.size) = some c.size) :
    (results fn tmps).run P w = .ok (.tuple #[.agg c, tmps.getD q undef]) w := by
  have hp' : tmps[p]?.getD undef = .pointer (some ⟨g, 0, none⟩) := by simpa using hp
  have hl := run_loadVar_row (P := P) w g t ty c fr d hg hu hd hi
  simp [results, h, hp', asAddr, hl]

theorem set_cs (k : IntKind) (l : List Int) (i : Nat) (x : Int) : (cs k l).setIfInBounds i (.int k x) = cs k (l.set i x) := by
  simp only [cs, List.setIfInBounds_toArray, List.map_set]
end Go.Proofs.Ytkklppjimnkibaa.Row

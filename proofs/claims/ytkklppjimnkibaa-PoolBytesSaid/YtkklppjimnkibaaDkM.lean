/-
  Rows of rows in one block: a part is read, a part is put in.
-/
import Derived.Test.YtkklppjimnkibaaMid
import Derived.Laws.CopyRow
namespace Go.Proofs.Ytkklppjimnkibaa.DkM
open Go.RowKit Rd Go.Proofs.Ytkklppjimnkibaa.Row Mid
set_option linter.unusedVariables false
set_option linter.unusedSimpArgs false
set_option maxRecDepth 10000
def fl (ls : List (List Value)) : List Value := ls.flatten
def pst (c : List Value) (o : Nat) (v : List Value) : List Value := c.take o ++ v ++ c.drop (o + v.length)
theorem fl_app (a b : List (List Value)) : fl (a ++ b) = fl a ++ fl b := by simp [fl]
theorem fl_cons (a : List Value) (b : List (List Value)) : fl (a :: b) = a ++ fl b := by simp [fl]
theorem fl_len {s : Nat} : ∀ {ls : List (List Value)}, (∀ l ∈ ls, l.length = s) → (fl ls).length = ls.length * s
  | [], _ => by simp [fl]
  | l :: ls, h => by
    have := fl_len (s := s) (ls := ls) fun x hx => h x (List.mem_cons_of_mem _ hx)
    rw [fl_cons, List.length_append, this, h l List.mem_cons_self, List.length_cons, Nat.succ_mul]
    omega
theorem fl_split {ls : List (List Value)} {i : Nat} (hi : i < ls.length) : fl ls = fl (ls.take i) ++ ls[i] ++ fl (ls.drop (i + 1)) := by
  have : ls = ls.take i ++ ls[i] :: ls.drop (i + 1) := by rw [← List.drop_eq_getElem_cons hi, List.take_append_drop]
  conv => lhs; rw [this]
  rw [fl_app, fl_cons, List.append_assoc]
theorem fl_set {ls : List (List Value)} {i : Nat} (hi : i < ls.length) (x : List Value) : fl (ls.set i x) = fl (ls.take i) ++ x ++ fl (ls.drop (i + 1)) := by
  rw [List.set_eq_take_append_cons_drop, if_pos hi, fl_app, fl_cons, List.append_assoc]
theorem fl_head {s : Nat} {ls : List (List Value)} (h : ∀ l ∈ ls, l.length = s) {i : Nat} (hi : i < ls.length) : (fl (ls.take i)).length = i * s := by
  rw [fl_len fun l hl => h l (List.mem_of_mem_take hl), List.length_take, Nat.min_eq_left (by omega)]
section
variable {A L B v : List Value} {o m j : Nat}
theorem abc_at (hj : j < L.length) : (A ++ L ++ B)[A.length + j]? = L[j]? := by
  rw [List.append_assoc, List.getElem?_append_right (by omega), show A.length + j - A.length = j by omega, List.getElem?_append_left hj]
theorem abc_piece (h : o + m ≤ L.length) : ((A ++ L ++ B).drop (A.length + o)).take m = (L.drop o).take m := by
  rw [List.append_assoc, List.drop_append, List.drop_of_length_le (by omega), List.nil_append, show A.length + o - A.length = o by omega, List.drop_append, List.take_append]
  rw [show m - (L.drop o).length = 0 by rw [List.length_drop]; omega, List.take_zero, List.append_nil]
theorem abc_pst (h : o + v.length ≤ L.length) : pst (A ++ L ++ B) (A.length + o) v = A ++ pst L o v ++ B := by
  unfold pst
  have h1 : (A ++ L ++ B).take (A.length + o) = A ++ L.take o := by
    rw [List.append_assoc, List.take_append, List.take_of_length_le (by omega), show A.length + o - A.length = o by omega, List.take_append, show o - L.length = 0 by omega, List.take_zero, List.append_nil]
  have h2 : (A ++ L ++ B).drop (A.length + o + v.length) = L.drop (o + v.length) ++ B := by
    rw [List.append_assoc, List.drop_append, List.drop_of_length_le (by omega), List.nil_append, show A.length + o + v.length - A.length = o + v.length by omega, List.drop_append, show o + v.length - L.length = 0 by omega, List.drop_zero]
  rw [h1, h2]
  simp only [List.append_assoc]
end
theorem fl_at {s : Nat} {ls : List (List Value)} (h : ∀ l ∈ ls, l.length = s) {i j : Nat} (hi : i < ls.length) (hj : j < s) : (fl ls)[i * s + j]? = ls[i][j]? := by
  rw [fl_split hi, ← fl_head h hi]
  exact abc_at (by rw [h _ (List.getElem_mem hi)]; exact hj)
theorem fl_piece {s : Nat} {ls : List (List Value)} (h : ∀ l ∈ ls, l.length = s) {i o m : Nat} (hi : i < ls.length) (hj : o + m ≤ s) : ((fl ls).drop (i * s + o)).take m = (ls[i].drop o).take m := by
  rw [fl_split hi, ← fl_head h hi]
  exact abc_piece (by rw [h _ (List.getElem_mem hi)]; exact hj)
theorem fl_pst {s : Nat} {ls : List (List Value)} (h : ∀ l ∈ ls, l.length = s) {i o : Nat} {v : List Value} (hi : i < ls.length) (hj : o + v.length ≤ s) : pst (fl ls) (i * s + o) v = fl (ls.set i (pst ls[i] o v)) := by
  rw [fl_set hi]
  conv => lhs; rw [fl_split hi, ← fl_head h hi]
  exact abc_pst (by rw [h _ (List.getElem_mem hi)]; exact hj)
theorem paste_pst : ∀ (v c : List Value) (o : Nat), o + v.length ≤ c.length → pasteL c o v = pst c o v
  | [], c, o, h => by simp [pasteL, pst]
  | x :: v, c, o, h => by
    have h' : o + (v.length + 1) ≤ c.length := by simpa using h
    show pasteL (c.set o x) (o + 1) v = _
    rw [paste_pst v (c.set o x) (o + 1) (by rw [List.length_set]; omega)]
    unfold pst
    have e1 : (c.set o x).take (o + 1) = c.take o ++ [x] := by
      rw [List.take_add_one, List.getElem?_set_self (by omega), List.take_set_of_le (Nat.le_refl _)]; rfl
    have e2 : (c.set o x).drop (o + 1 + v.length) = c.drop (o + (x :: v).length) := by
      rw [List.drop_set_of_lt (by omega), List.length_cons]
      congr 1
      omega
    rw [e1, e2]
    simp
theorem pst_whole {c v : List Value} (h : v.length = c.length) : pst c 0 v = v := by
  unfold pst
  rw [List.take_zero, List.nil_append, Nat.zero_add, List.drop_of_length_le (by omega), List.append_nil]
theorem one_set {c : List Value} {o : Nat} {x : Value} (h : o < c.length) : c.set o x = pst c o [x] := by
  have := paste_pst [x] c o (by simp; omega)
  simpa [pasteL] using this
/-! what turns -/
def Tn (ks : List Nat) (X Y : World) : Prop := (Y.os = X.os ∧ Y.tape = X.tape ∧ Y.output = X.output) ∧ X.heap.size ≤ Y.heap.size ∧ ∀ k, k < X.heap.size → k ∉ ks → Y.heap[k]? = X.heap[k]?
theorem Tn.refl (ks : List Nat) (X : World) : Tn ks X X := ⟨⟨rfl, rfl, rfl⟩, Nat.le_refl _, fun _ _ _ => rfl⟩
theorem Tn.trans {ks : List Nat} {X Y Z : World} (h : Tn ks X Y) (k : Tn ks Y Z) : Tn ks X Z :=
  ⟨⟨k.1.1.trans h.1.1, k.1.2.1.trans h.1.2.1, k.1.2.2.trans h.1.2.2⟩, Nat.le_trans h.2.1 k.2.1, fun i h1 h2 => (k.2.2 i (Nat.lt_of_lt_of_le h1 h.2.1) h2).trans (h.2.2 i h1 h2)⟩
theorem Tn.of_below {ks : List Nat} {X Y : World} (h : Below X.heap.size X Y) : Tn ks X Y := ⟨⟨h.os, h.tape, h.output⟩, h.size, fun k h1 _ => h.block k h1⟩
theorem Tn.set {ks : List Nat} (X : World) {g : Nat} (k : Nat) (v : Value) (hg : g ∈ ks) : Tn ks X (X.setCell ⟨g, k, none⟩ v) :=
  ⟨⟨rfl, rfl, rfl⟩, by simp, fun j _ h2 => heap_setCell_other X ⟨g, k, none⟩ j v fun e => h2 (by have : j = g := e; rw [this]; exact hg)⟩
theorem setRow_other (X : World) (g j : Nat) (c : Array Value) (h : j ≠ g) : (X.setRow g c).heap[j]? = X.heap[j]? := by
  simp only [World.setRow]
  rw [Array.getElem?_modify, if_neg (Ne.symm h)]
theorem Tn.row {ks : List Nat} (X : World) {g : Nat} (c : Array Value) (hg : g ∈ ks) : Tn ks X (X.setRow g c) :=
  ⟨⟨rfl, rfl, rfl⟩, by simp [World.setRow], fun j _ h2 => setRow_other X g j c fun e => h2 (by rw [e]; exact hg)⟩
theorem Tn.below {ks : List Nat} {lo : Nat} {X Y : World} (h : Tn ks X Y) (hl : ∀ k ∈ ks, lo ≤ k) (hs : lo ≤ X.heap.size) : Below lo X Y :=
  ⟨h.1.1, h.1.2.1, h.1.2.2, h.2.1, fun k hk => h.2.2 k (by omega) fun hm => by have := hl k hm; omega⟩
theorem Tn.blk {ks : List Nat} {X Y : World} {k : Nat} {o : Obj} (h : Tn ks X Y) (hb : blk X k = some o) (hk : k ∉ ks) : blk Y k = some o := (h.2.2 k (blk_lt hb) hk).trans hb
theorem row_at {X : World} {g : Nat} {c c' : Array Value} {t : TypeId} {fr : Nat × Nat} (h : blk X g = some (.cells c t fr)) : blk (X.setRow g c') g = some (.cells c' t fr) := blk_setRow_of h _
end Go.Proofs.Ytkklppjimnkibaa.DkM

/-
  Arguments whose cells are all numbers and bools (arrays and structs of these, one in another), and slices of such: opened into their cells.
-/
import Derived.Test.YtkklppjimnkibaaChecked
import Derived.WalkKit
import Derived.ProofKit
import Derived.OpenShut
import Derived.ChangeOld
import Derived.Below
import Derived.Deep.Slices
import Derived.Handy
namespace Go.Proofs.Ytkklppjimnkibaa.Flat
open Go.ChangeShapes Go.WideShapes Go.ChangeAt Go.RowKit Go.Deep
set_option linter.unusedVariables false
set_option linter.unusedSimpArgs false

/-- what a cell is: a number of a kind, or a bool -/
abbrev Kd := Option IntKind

/-- a row of cells of these kinds -/
def Fits : List Kd → List Value → Prop
  | [], [] => True
  | some k :: ks, v :: vs => (∃ n, v = .int k n ∧ (Lit.int k n).wf = true) ∧ Fits ks vs
  | none :: ks, v :: vs => (∃ b, v = .bool b) ∧ Fits ks vs
  | _, _ => False

theorem fits_len : ∀ {ks vs}, Fits ks vs → vs.length = ks.length
  | [], [], _ => rfl
  | some _ :: _, _ :: _, h => by simp [fits_len h.2]
  | none :: _, _ :: _, h => by simp [fits_len h.2]
  | [], _ :: _, h => h.elim
  | some _ :: _, [], h => h.elim
  | none :: _, [], h => h.elim

theorem fits_append : ∀ {ks vs ks' vs'}, Fits ks vs → Fits ks' vs' → Fits (ks ++ ks') (vs ++ vs')
  | [], [], _, _, _, h' => h'
  | some _ :: _, _ :: _, _, _, h, h' => ⟨h.1, fits_append h.2 h'⟩
  | none :: _, _ :: _, _, _, h, h' => ⟨h.1, fits_append h.2 h'⟩
  | [], _ :: _, _, _, h, _ => h.elim
  | some _ :: _, [], _, _, h, _ => h.elim
  | none :: _, [], _, _, h, _ => h.elim

theorem fits_nil {vs : List Value} (h : Fits [] vs) : vs = [] := by
  cases vs with
  | nil => rfl
  | cons v vs => exact h.elim
theorem fits_int {k : IntKind} {ks : List Kd} {vs : List Value} (h : Fits (some k :: ks) vs) : ∃ n vs', vs = .int k n :: vs' ∧ (Lit.int k n).wf = true ∧ Fits ks vs' := by
  cases vs with
  | nil => exact h.elim
  | cons v vs => obtain ⟨⟨n, rfl, wf⟩, h⟩ := h; exact ⟨n, vs, rfl, wf, h⟩
theorem fits_bool {ks : List Kd} {vs : List Value} (h : Fits (none :: ks) vs) : ∃ b vs', vs = .bool b :: vs' ∧ Fits ks vs' := by
  cases vs with
  | nil => exact h.elim
  | cons v vs => obtain ⟨⟨n, rfl⟩, h⟩ := h; exact ⟨n, vs, rfl, h⟩

mutual
/-- the kinds of a type's cells, in order; none, where one is something else, or where fields do not stand side by side -/
def flat (P : Program) : Nat → TypeId → Option (List Kd)
  | 0, _ => none
  | f + 1, t =>
    match P.underlying t with
    | some .bool => some [none]
    | some (.int k) => some [some k]
    | some (.array n e) => match flat P f e with
      | some ks => if ks.length = P.cellsOf e then some (List.replicate n ks).flatten else none
      | none => none
    | some (.struct fs) => flatFields P f 0 fs.toList
    | _ => none
def flatFields (P : Program) : Nat → Nat → List Field → Option (List Kd)
  | _, _, [] => some []
  | 0, _, _ :: _ => none
  | f + 1, o, x :: xs => match flat P f x.type with
    | some ks => if x.offset = o ∧ ks.length = P.cellsOf x.type then (flatFields P f (o + ks.length) xs).map (ks ++ ·) else none
    | none => none
end

section
variable {H : Type} {enc : TypeId × Value → H} {P : Program} {w : World} {base : Nat} {spare : Nat → Bool} {held : Bool}

theorem take_drop_split (cs : List Value) (o a b : Nat) : (cs.drop o).take (a + b) = (cs.drop o).take a ++ (cs.drop (o + a)).take b := by
  rw [List.take_add, List.drop_drop]

theorem fits_array {ks : List Kd} {cs : List Value} : ∀ (n o : Nat), (∀ i, i < n → Fits ks ((cs.drop (o + i * ks.length)).take ks.length)) → Fits (List.replicate n ks).flatten ((cs.drop o).take (n * ks.length))
  | 0, o, _ => by simp [Fits]
  | n + 1, o, h => by
    rw [List.replicate_succ, List.flatten_cons, show (n + 1) * ks.length = ks.length + n * ks.length by rw [Nat.succ_mul, Nat.add_comm], take_drop_split]
    refine fits_append (by simpa using h 0 (by omega)) (fits_array n (o + ks.length) fun i hi => ?_)
    have := h (i + 1) (by omega)
    rwa [show o + (i + 1) * ks.length = o + ks.length + i * ks.length by rw [Nat.succ_mul]; omega] at this

mutual
theorem flat_fits : ∀ (f : Nat) (t : TypeId) (ks : List Kd), flat P f t = some ks → ∀ (n : Nat) (cs : List Value) x, cs.length = ks.length → DataW.trod enc P w base spare held n t cs = some x → Fits ks cs
  | 0, t, ks, h => by simp [flat] at h
  | f + 1, t, ks, h => by
    intro n cs x hl hx
    unfold flat at h
    split at h
    · rename_i hu
      cases h
      obtain ⟨b, rfl, _⟩ := DataW.trod_bool hu hx
      exact ⟨⟨b, rfl⟩, trivial⟩
    · rename_i k hu
      cases h
      obtain ⟨m, rfl, _, wf⟩ := DataW.trod_int hu hx
      exact ⟨⟨m, rfl, wf⟩, trivial⟩
    · rename_i m e hu
      split at h
      · rename_i ks' hks
        split at h
        · rename_i hlen
          cases h
          obtain ⟨xs, m', _, _, hcl, hxl, hg⟩ := DataW.trod_array hu hx
          have hall : cs = (cs.drop 0).take (m * ks'.length) := by
            have : cs.length = m * ks'.length := by rw [hl]; simp
            rw [List.drop_zero, List.take_of_length_le (by omega)]
          rw [hall]
          refine fits_array m 0 fun i hi => ?_
          have h1 := hg i hi
          rw [← hlen] at h1
          have hxi : xs[i]? = some (xs[i]'(by omega)) := List.getElem?_eq_getElem (by omega)
          rw [hxi] at h1
          rw [Nat.zero_add]
          refine flat_fits f e ks' hks _ _ _ ?_ h1
          have hcs : cs.length = m * ks'.length := by rw [hl]; simp
          rw [List.length_take, List.length_drop, hcs]
          have : i * ks'.length + ks'.length ≤ m * ks'.length := by
            rw [← Nat.succ_mul]; exact Nat.mul_le_mul_right _ hi
          omega
        · cases h
      · cases h
    · rename_i fs hu
      obtain ⟨xs, m', _, _, hcl, hxl, hg⟩ := DataW.trod_struct hu hx
      have := flat_fields f 0 fs.toList ks h m' cs (by omega) (fun y hy => by
        obtain ⟨i, hi, he⟩ := List.getElem_of_mem hy
        have hfi : fs[i]? = some y := by
          rw [← Array.getElem?_toList, List.getElem?_eq_getElem hi, he]
        have h1 := hg i y hfi
        have hil : i < xs.length := by rw [hxl]; simpa using hi
        rw [List.getElem?_eq_getElem hil] at h1
        exact ⟨_, h1⟩)
      rwa [List.drop_zero, List.take_of_length_le (by omega)] at this
    · cases h
theorem flat_fields : ∀ (f o : Nat) (fs : List Field) (ks : List Kd), flatFields P f o fs = some ks → ∀ (n : Nat) (cs : List Value), o + ks.length ≤ cs.length →
    (∀ y ∈ fs, ∃ x, DataW.trod enc P w base spare held n y.type ((cs.drop y.offset).take (P.cellsOf y.type)) = some x) → Fits ks ((cs.drop o).take ks.length)
  | _, o, [], ks, h => by
    intro n cs hl _
    simp [flatFields] at h
    subst h
    simp [Fits]
  | 0, o, x :: xs, ks, h => by simp [flatFields] at h
  | f + 1, o, x :: xs, ks, h => by
    intro n cs hl hall
    unfold flatFields at h
    split at h
    · rename_i ks' hks
      split at h
      · rename_i hc
        obtain ⟨ho, hlen⟩ := hc
        simp only [Option.map_eq_some_iff] at h
        obtain ⟨ks2, h2, rfl⟩ := h
        rw [List.length_append] at hl ⊢
        rw [take_drop_split]
        refine fits_append ?_ (flat_fields f (o + ks'.length) xs ks2 h2 n cs (by omega) fun y hy => hall y (List.mem_cons_of_mem _ hy))
        obtain ⟨v, hv⟩ := hall x (List.mem_cons_self ..)
        rw [ho, ← hlen] at hv
        exact flat_fits f x.type ks' hks n _ _ (by rw [List.length_take, List.length_drop]; omega) hv
      · cases h
    · cases h
end

theorem okWide_arr {r : Reach} {b0 n : Nat} {t e : TypeId} {v : Value} (ht : P.underlying t = some (.array n e)) (h : Value.okWide P w r b0 t v) : ∃ cs, v = .agg cs ∧ cs.size = P.cellsOf t := by
  unfold Value.okWide at h
  rw [ht] at h
  obtain ⟨cs, h1, h2, _⟩ := h
  exact ⟨cs, h1, h2⟩

/-- an array that came in by value -/
theorem open_flat_array {r : Reach} {b0 n f : Nat} {t e : TypeId} {v : Value} {d : DataW H} {p : List MemPlace} {ks : List Kd} (hu : P.underlying t = some (.array n e)) (hk : flat P f t = some ks) (hc : P.cellsOf t = ks.length)
    (hv : Value.okWide P w r b0 t v) (h : DataW.Trod enc P w base spare held t v d p) : ∃ cs : List Value, v = .agg ⟨cs⟩ ∧ Fits ks cs := by
  obtain ⟨⟨cs⟩, rfl, hsz⟩ := okWide_arr hu hv
  obtain ⟨fuel, hf⟩ := h
  exact ⟨cs, rfl, flat_fits f t ks hk fuel cs _ (by simpa [hc] using hsz) hf⟩
/-- a struct that came in by value -/
theorem open_flat_struct {r : Reach} {b0 f : Nat} {t : TypeId} {fs : Array Field} {v : Value} {d : DataW H} {p : List MemPlace} {ks : List Kd} (hu : P.underlying t = some (.struct fs)) (hk : flat P f t = some ks) (hc : P.cellsOf t = ks.length)
    (hv : Value.okWide P w r b0 t v) (h : DataW.Trod enc P w base spare held t v d p) : ∃ cs : List Value, v = .agg ⟨cs⟩ ∧ Fits ks cs := by
  obtain ⟨⟨cs⟩, rfl, hsz⟩ := okWide_struct hu hv
  obtain ⟨fuel, hf⟩ := h
  exact ⟨cs, rfl, flat_fits f t ks hk fuel cs _ (by simpa [hc] using hsz) hf⟩

/-- A SLICE OF SUCH: without spare room and elements, wherever it leads; or a row of cells, place by place up to its capacity (the first 'len' are its elements). -/
def IsRows (ks : List Kd) (w : World) (a : Option Addr) (len cap : Nat) (xs : List (List Value)) : Prop :=
  (len = 0 ∧ cap = 0 ∧ xs = []) ∨
  ∃ b off, a = some ⟨b, off, none⟩ ∧ b < w.heap.size ∧ 0 < cap ∧ len ≤ cap ∧ cap ≤ maxLen ∧ xs.length = cap ∧
    (∀ i, i < cap → Fits ks (xs.getD i [])) ∧ ∀ i j, i < cap → j < ks.length → w.cell? ⟨b, off + (i * ks.length + j), none⟩ = (xs.getD i [])[j]?

theorem cell_lt {a : Addr} {v : Value} (h : w.cell? a = some v) : a.block < w.heap.size := by
  rcases Nat.lt_or_ge a.block w.heap.size with h1 | h1
  · exact h1
  · unfold World.cell? at h
    rw [Array.getElem?_eq_none h1] at h
    split at h <;> simp_all

theorem addr_add (b off i : Nat) : (⟨b, off, none⟩ : Addr).add i = ⟨b, off + i, none⟩ := by
  unfold Addr.add
  by_cases h : i = 0 <;> simp [h]

theorem open_rows {r : Reach} {b0 f : Nat} {t e : TypeId} {v : Value} {d : DataW H} {p : List MemPlace} {ks : List Kd} (hu : P.underlying t = some (.slice e)) (hk : flat P f e = some ks) (hc : P.cellsOf e = ks.length) (hpos : 0 < ks.length)
    (hv : Value.okWide P w r b0 t v) (h : DataW.Trod enc P w base (fun _ => true) held t v d p) : ∃ a len cap xs, v = .slice a len cap ∧ IsRows ks w a len cap xs := by
  obtain ⟨a, len, cap, rfl⟩ := okWide_slice hu hv
  refine ⟨a, len, cap, ?_⟩
  obtain ⟨fuel, hf⟩ := h
  rcases open_slice hu hf with ⟨hcs, _⟩ | ⟨a', len', cap', m, n, D, Pl, hcs, hb, hl, hm, hmm, hx, hi⟩
  · simp [Value.cells] at hcs
    exact ⟨[], rfl, .inl ⟨hcs.2.1, hcs.2.2, rfl⟩⟩
  · simp [Value.cells] at hcs
    obtain ⟨rfl, rfl, rfl⟩ := hcs
    simp at hmm
    subst hmm
    by_cases h0 : m = 0
    · exact ⟨[], rfl, .inl ⟨by omega, h0, rfl⟩⟩
    · obtain ⟨V, hV⟩ := choose_lt (α := List Value) (p := fun i cs' => w.cells? base (a'.add (i * P.cellsOf e)) (P.cellsOf e) = some cs' ∧ DataW.trod enc P w base (fun _ => true) held n e cs' = some (D i, Pl i)) hi
      obtain ⟨b, off, spot⟩ := a'
      have hspot : spot = none := by
        obtain ⟨h1, h2⟩ := hV 0 (by omega)
        obtain ⟨_, hlen, hcell⟩ := World.cells?_some h1
        have h3 := hcell 0 (by rw [hc]; exact hpos)
        rw [List.getElem?_eq_getElem (by rw [hlen, hc]; exact hpos)] at h3
        simpa [Addr.add] using World.cell?_spot h3
      subst hspot
      have hlt : b < w.heap.size := by
        obtain ⟨h1, h2⟩ := hV 0 (by omega)
        obtain ⟨_, hlen, hcell⟩ := World.cells?_some h1
        have h3 := hcell 0 (by rw [hc]; exact hpos)
        rw [List.getElem?_eq_getElem (by rw [hlen, hc]; exact hpos)] at h3
        simpa [addr_add] using cell_lt h3
      refine ⟨(List.range m).map V, rfl, .inr ⟨b, off, rfl, hlt, by omega, hl, hm, by simp, fun i him => ?_, fun i j him hj => ?_⟩⟩
      · obtain ⟨h1, h2⟩ := hV i him
        obtain ⟨_, hlen, hcell⟩ := World.cells?_some h1
        have : ((List.range m).map V).getD i [] = V i := by simp [List.getD, him]
        rw [this]
        exact flat_fits f e ks hk n _ _ (by rw [hlen, hc]) h2
      · obtain ⟨h1, h2⟩ := hV i him
        obtain ⟨_, hlen, hcell⟩ := World.cells?_some h1
        have : ((List.range m).map V).getD i [] = V i := by simp [List.getD, him]
        rw [this, ← hcell j (by rw [hc]; exact hj), addr_add, addr_add, hc, Nat.add_assoc]
end
end Go.Proofs.Ytkklppjimnkibaa.Flat

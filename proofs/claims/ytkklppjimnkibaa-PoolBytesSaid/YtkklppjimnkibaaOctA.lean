/-
  append to a row of bytes of one's own, or to one behind which there is no room; numbers put as bytes.
-/
import Derived.Test.YtkklppjimnkibaaApp
import Derived.Test.YtkklppjimnkibaaRow
namespace Go.Proofs.Ytkklppjimnkibaa.OctA
open Go.RowKit Rd
set_option linter.unusedVariables false
set_option linter.unusedSimpArgs false
set_option maxRecDepth 10000

/-- a row of one's own, or one with no room behind it -/
def Own (w : World) (base : Nat) (e : TypeId) (size : Nat) (v : Value) (n : Nat) (xs : List Value) : Prop :=
  w.ownsRow base e size v n xs ∨ ∃ b off, v = .slice (some ⟨b, off, none⟩) n n ∧ b < w.heap.size ∧ n ≤ maxLen ∧ xs.length = n * size ∧ ∀ j u, xs[j]? = some u → w.cell? ⟨b, off + j, none⟩ = some u

theorem below_grownBy {w w' : World} {row : Option Nat} {B : Nat} (h : w.grownBy w' row) (hB : B ≤ w.heap.size) (hr : ∀ k, row = some k → B ≤ k) : Below B w w' :=
  ⟨h.os, h.tape, h.output, h.size, fun k hk => h.block k (by omega) (fun e => by have := hr k e.symm; omega)⟩

theorem run_append_either {P : Program} (w : World) (base : Nat) (t ty e : TypeId) (i : TypeInfo) (z : Value) (size bytes : Nat) (ht : P.underlying t = some (.slice e)) (hi : P.info? e = some i) (hz : i.zero = some z)
    (hsize : i.size = size) (hby : i.bytes = bytes) (hzs : z.cells.size = size) (hsz : 0 < size)
    (v : Value) (n : Nat) (xs : List Value) (hown : Own w base e size v n xs)
    (a : Addr) (m c : Nat) (news : List Value) (hl : news.length = m * size) (hm : 0 < m) (hnews : ∀ j u, news[j]? = some u → w.cell? (a.add j) = some u) (h1 : ∀ u ∈ news, u.oneCell' = true)
    (h63 : n + m ≤ maxLen) (hbytes : (n + m) * bytes ≤ 140737488355328) (hbase : base ≤ w.heap.size) :
    ∃ v' w', (Builtin.append_ #[t, t] ty #[v, .slice (some a) m c]).run P w = .ok v' w' ∧ w'.ownsRow base e size v' (n + m) (xs ++ news) ∧ Below base w w' := by
  rcases hown with hown | ⟨b, off, rfl, hbl, hnm, hlx, hx⟩
  · obtain ⟨v', w', h2, h3, h4, _⟩ := run_append_own (P := P) w base t ty e i z size bytes ht hi hz hsize hby hzs hsz v n xs hown a m c news hl hnews h1 h63 hbytes hbase
    exact ⟨v', w', h2, h3, below_grownBy h4 hbase fun k hk => (hown.lt k hk).1⟩
  · subst hsize
    subst hby
    have hlen : (xs ++ news).length = (n + m) * i.size := by rw [List.length_append, hlx, hl, Nat.add_mul]
    have hr := run_append_grow (P := P) w t ty e i z ht hi hz ⟨b, off, none⟩ n n xs hlx (fun j u hj => by rw [Addr.add_lit]; exact hx j u hj) a m c news hl hnews (by omega) (by simp only [maxLen] at h63; omega) (growslice_fits (by omega) hbytes)
    have hge := grownCap_ge w (n + m) n e
    have hcm : grownCap w (n + m) n e ≤ maxLen := grownCap_le_maxLen w (n + m) n e h63
    refine ⟨_, _, hr, ⟨hlen, .inr ⟨w.heap.size, _, _, rfl, hbase, heap_alloc_new w.drew _, hge, hcm, ?_, ?_⟩⟩, ⟨rfl, rfl, rfl, by simp, fun k hk => Below.heap_alloc w.drew _ k (by show k < w.heap.size; omega)⟩⟩
    · simp only [Array.size_append, List.size_toArray, size_zeroCells, hzs, hlx, hl, ← Nat.add_mul]
      congr 1
      omega
    · simp only [Array.toList_append, List.append_assoc]
      rw [← List.append_assoc, ← hlen]
      exact List.take_left
theorem wpList_append_either {P : Program} (w : World) {ops : Array Oper} {rest : List Oper} {o : Oper} {a : Act} {Q : Exit → Act → World → Prop} (hgd : o.guard = none) (s x : Operand) (t : TypeId)
    (ho : o.op = .call { callee := .builtin .append, args := #[s, x], argTypes := #[t, t] })
    (base : Nat) (e : TypeId) (i : TypeInfo) (z : Value) (size bytes : Nat) (ht : P.underlying t = some (.slice e)) (hi : P.info? e = some i) (hz : i.zero = some z)
    (hsize : i.size = size) (hby : i.bytes = bytes) (hzs : z.cells.size = size) (hsz : 0 < size)
    (v : Value) (n : Nat) (xs : List Value) (hs : a.eval s = v) (hown : Own w base e size v n xs)
    (ad : Addr) (m c : Nat) (news : List Value) (hx : a.eval x = .slice (some ad) m c) (hl : news.length = m * size) (hm : 0 < m) (hnews : ∀ j u, news[j]? = some u → w.cell? (ad.add j) = some u) (h1 : ∀ u ∈ news, u.oneCell' = true)
    (h63 : n + m ≤ maxLen) (hbytes : (n + m) * bytes ≤ 140737488355328) (hbase : base ≤ w.heap.size)
    (h : ∀ v' w', w'.ownsRow base e size v' (n + m) (xs ++ news) → Below base w w' → wpList P ops Q rest (a.put o.dst v') w') : wpList P ops Q (o :: rest) a w :=
  wpList_plain hgd fun K hK => by
    obtain ⟨v', w', hrun, h2, h3⟩ := run_append_either (P := P) w base t o.type e i z size bytes ht hi hz hsize hby hzs hsz v n xs hown ad m c news hl hm hnews h1 h63 hbytes hbase
    unfold Oper.wp execOp
    simp only [ho, resolve, invoke, builtin, Sem.run_bind, Sem.run_pure, Result.andThen_ok, List.map_toArray, List.map_cons, List.map_nil, hs, hx, hrun]
    exact hK _ _ (h v' w' h2 h3)
theorem Own.below {w w' : World} {base : Nat} {e : TypeId} {size : Nat} {v : Value} {n : Nat} {xs : List Value} (h : Own w base e size v n xs) (hb : Below w.heap.size w w') : Own w' base e size v n xs := by
  rcases h with h | ⟨b, off, rfl, hbl, hnm, hl, hx⟩
  · refine .inl ⟨h.1, ?_⟩
    rcases h.2 with hn | ⟨g, cap, cur, rfl, h2, hg, rest⟩
    · exact .inl hn
    · refine .inr ⟨g, cap, cur, rfl, h2, ?_, rest⟩
      rw [hb.block g (Array.getElem?_eq_some_iff.1 hg).1]
      exact hg
  · refine .inr ⟨b, off, rfl, Nat.lt_of_lt_of_le hbl hb.size, hnm, hl, fun j u hu => ?_⟩
    rw [hb.cell (p := ⟨b, off + j, none⟩) hbl]
    exact hx j u hu
theorem Own.val {w : World} {base : Nat} {e : TypeId} {size : Nat} {v : Value} {n : Nat} {xs : List Value} (h : Own w base e size v n xs) : ∃ a cap, v = .slice a n cap ∧ n ≤ cap ∧ cap ≤ maxLen ∧ Reads w size a n xs := by
  rcases h with h | ⟨b, off, rfl, hbl, hnm, hl, hx⟩
  · obtain ⟨a, cap, rfl, h1, h2⟩ := owns_val h
    exact ⟨a, cap, rfl, h1, h2, Reads.of_owns h⟩
  · exact ⟨_, n, rfl, Nat.le_refl _, hnm, hl, .inr ⟨b, off, rfl, hbl, fun i hi => by rw [hx i xs[i] (List.getElem?_eq_getElem hi), List.getElem?_eq_getElem hi]⟩⟩

/-- the bytes of a number, the high one first -/
def byt (k : Int) (i : Nat) : Int := k / (256 ^ i : Nat) % 256
def byts (k : Int) : Nat → List Int
  | 0 => []
  | s + 1 => byt k s :: byts k s
theorem byts_len (k : Int) : ∀ s, (byts k s).length = s
  | 0 => rfl
  | s + 1 => by simp [byts, byts_len k s]
theorem byt_bd (k : Int) (i : Nat) : 0 ≤ byt k i ∧ byt k i ≤ 255 := by unfold byt; omega
theorem byts_bd (k : Int) : ∀ s, ∀ z ∈ byts k s, 0 ≤ z ∧ z ≤ 255
  | 0, z, hz => by cases hz
  | s + 1, z, hz => by
    rcases List.mem_cons.1 hz with rfl | h
    · exact byt_bd k s
    · exact byts_bd k s z h
abbrev u8s (zs : List Int) : List Value := zs.map (Value.int .u8)
/-- the first j of them -/
def bytf (k : Int) (s j : Nat) : List Int := (List.range j).map fun i => byt k (s - 1 - i)
theorem bytf_succ (k : Int) (s j : Nat) : bytf k s (j + 1) = bytf k s j ++ [byt k (s - 1 - j)] := by simp [bytf, List.range_succ]
theorem bytf_all (k : Int) : ∀ s, bytf k s s = byts k s
  | 0 => rfl
  | s + 1 => by
    have : bytf k (s + 1) (s + 1) = byt k s :: bytf k s s := by
      unfold bytf
      rw [List.range_succ_eq_map, List.map_cons, List.map_map]
      refine congr (congrArg _ (by simp)) (List.map_congr_left fun i hi => ?_)
      simp only [Function.comp]
      congr 1
      omega
    rw [this, bytf_all k s]; rfl
theorem bytf_len (k : Int) (s j : Nat) : (bytf k s j).length = j := by simp [bytf]
end Go.Proofs.Ytkklppjimnkibaa.OctA

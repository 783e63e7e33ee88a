/-
  A pool: the mathematics. The document's row of pages; the slots and their order.
-/
import Derived.Test.YtkklppjimnkibaaPgN
import Derived.Test.YtkklppjimnkibaaLrB
namespace Go.Proofs.Ytkklppjimnkibaa.PoM
open PgM PgC LrM PgN
set_option linter.unusedVariables false
set_option linter.unusedSimpArgs false
/-- a page and its bytes -/
abbrev Ent := List Int × List Int
def ent (sl : List Ent) (i : Nat) : Ent := sl.getD i ([], [])
def rootL (d : Nat) : List Int := [(d : Int), 0, 0]
def Pg (d : Nat) (v : List Int) : Prop := v.length = 3 ∧ validB d (PgM.g v 0) (PgM.g v 1) (PgM.g v 2) = true
def keyN (d : Nat) (v : List Int) : Nat := (keyV d (PgM.g v 0) (PgM.g v 1) (PgM.g v 2)).toNat
theorem key_int {d : Nat} {v : List Int} (hd : d ≤ 3) (h : Pg d v) : keyV d (PgM.g v 0) (PgM.g v 1) (PgM.g v 2) = (keyN d v : Int) ∧ keyN d v < (allV d).length := by
  obtain ⟨k, e, hk⟩ := key_in hd h.2
  unfold keyN
  rw [e]
  exact ⟨by simp, by simpa using hk⟩
theorem key_inj3 {d : Nat} {v v' : List Int} (hd : d ≤ 3) (h : Pg d v) (h' : Pg d v') (e : keyN d v = keyN d v') : v = v' := by
  have e1 := (key_int hd h).1
  have e2 := (key_int hd h').1
  obtain ⟨a, b, c⟩ := key_inj hd h.2 h'.2 (by rw [e1, e2, e])
  obtain ⟨x, y, z, rfl⟩ := len3 h.1
  obtain ⟨x', y', z', rfl⟩ := len3 h'.1
  have a' : x = x' := a
  have b' : y = y' := b
  have c' : z = z' := c
  subst a' b' c'
  rfl
/-! the document's row -/
def ixR (R : List Ent) (v : List Int) : Option Nat := R.findIdx? fun e => e.1 == v
def hasR (R : List Ent) (v : List Int) : Bool := (ixR R v).isSome
def bytesR (R : List Ent) (v : List Int) : List Int := match ixR R v with | some i => (ent R i).2 | none => []
def putR (n : Nat) (R : List Ent) (v b : List Int) : List Ent :=
  match ixR R v with
  | some i => R.set i (v, b)
  | none => if R.length < n then R ++ [(v, b)] else if R.length < 2 then R else R.eraseIdx 1 ++ [(v, b)]
def goneR (n : Nat) (R : List Ent) (v : List Int) : List (List Int) :=
  match ixR R v with
  | some _ => []
  | none => if R.length < n then [] else if R.length < 2 then [] else [(ent R 1).1]
def codeR (n : Nat) (R : List Ent) (v : List Int) : Int :=
  match ixR R v with
  | some _ => 0
  | none => if R.length < n then 0 else if R.length < 2 then 6 else 0
def touchR (R : List Ent) (v : List Int) : List Ent :=
  match ixR R v with
  | some (i + 1) => R.eraseIdx (i + 1) ++ [ent R (i + 1)]
  | _ => R
theorem ix_none {R : List Ent} {v : List Int} : ixR R v = none ↔ ∀ e ∈ R, e.1 ≠ v := by
  unfold ixR
  rw [List.findIdx?_eq_none_iff]
  constructor
  · intro h e he hv
    have := h e he
    rw [hv] at this
    simp at this
  · intro h e he
    exact beq_eq_false_iff_ne.2 (h e he)
theorem ix_app {P S : List Ent} {e : Ent} (h : ∀ x ∈ P, x.1 ≠ e.1) : ixR (P ++ e :: S) e.1 = some P.length := by
  unfold ixR
  rw [List.findIdx?_append]
  have h1 : P.findIdx? (fun x => x.1 == e.1) = none := ix_none.2 h
  rw [h1, List.findIdx?_cons]
  simp
theorem set_app {α : Type} (P S : List α) (e e' : α) : (P ++ e :: S).set P.length e' = P ++ e' :: S := by simp
theorem erase_app {α : Type} (P S : List α) (e : α) : (P ++ e :: S).eraseIdx P.length = P ++ S := by
  rw [List.eraseIdx_append_of_length_le (Nat.le_refl _)]; simp
theorem ent_app (P S : List Ent) (e : Ent) : ent (P ++ e :: S) P.length = e := by simp [ent]
/-! the slots -/
def pm (m : Nat) (x : Nat) : Bool := decide (0 < x ∧ x < m)
def ri (m : Nat) (o : List Nat) : List Nat := 0 :: o.filter (pm m)
def rowR (sl : List Ent) (o : List Nat) : List Ent := (ri sl.length o).map (ent sl)
structure Perm (n : Nat) (o : List Nat) : Prop where
  nd : o.Nodup
  lt : ∀ x ∈ o, x < n
  all : ∀ x, x < n → x ∈ o
structure Rel (n d : Nat) (sl : List Ent) (o : List Nat) (wl : List Int) : Prop where
  d3 : d ≤ 3
  k1 : 1 ≤ sl.length
  kn : sl.length ≤ n
  pg : ∀ i, i < sl.length → Pg d (ent sl i).1
  bl : ∀ i, i < sl.length → (ent sl i).2.length = 144
  dist : ∀ i j, i < sl.length → j < sl.length → (ent sl i).1 = (ent sl j).1 → i = j
  root : (ent sl 0).1 = rootL d
  wlen : wl.length = (allV d).length
  wat : ∀ i, i < sl.length → wl.getD (keyN d (ent sl i).1) (-1) = (i : Int)
  wno : ∀ v, Pg d v → (∀ i, i < sl.length → (ent sl i).1 ≠ v) → wl.getD (keyN d v) (-1) = -1
  perm : Perm n o
theorem touch_perm {n i : Nat} {o : List Nat} (h : Perm n o) (hi : i < n) : Perm n (touchL o i) := by
  unfold touchL
  refine ⟨?_, ?_, ?_⟩
  · rw [List.nodup_append]
    refine ⟨h.nd.filter _, by simp, fun x hx y hy e => ?_⟩
    rw [List.mem_singleton.1 hy] at e
    have := (List.mem_filter.1 hx).2
    simp at this
    exact this e
  · intro x hx
    rcases List.mem_append.1 hx with hx | hx
    · exact h.lt x (List.mem_filter.1 hx).1
    · rw [List.mem_singleton.1 hx]; exact hi
  · intro x hx
    by_cases e : x = i
    · rw [e]; simp
    · exact List.mem_append_left _ (List.mem_filter.2 ⟨h.all x hx, decide_eq_true e⟩)
variable {n d : Nat} {sl : List Ent} {o : List Nat} {wl : List Int}
theorem ent_set {sl : List Ent} {i : Nat} (e : Ent) (hi : i < sl.length) (j : Nat) : ent (sl.set i e) j = if j = i then e else ent sl j := by
  unfold ent
  rw [List.getD_eq_getElem?_getD, List.getD_eq_getElem?_getD, List.getElem?_set]
  by_cases h : i = j
  · subst h; simp [hi]
  · rw [if_neg h, if_neg (fun e => h e.symm)]
theorem ent_more {sl : List Ent} (e : Ent) (j : Nat) : ent (sl ++ [e]) j = if j = sl.length then e else ent sl j := by
  unfold ent
  by_cases h : j = sl.length
  · subst h; simp
  · rw [if_neg h]
    by_cases h2 : j < sl.length
    · rw [List.getD_eq_getElem?_getD, List.getD_eq_getElem?_getD, List.getElem?_append_left h2]
    · rw [List.getD_eq_getElem?_getD, List.getD_eq_getElem?_getD, List.getElem?_eq_none (by simp; omega), List.getElem?_eq_none (by omega)]
theorem ri_mem (hp : Perm n o) {m : Nat} (h1 : 1 ≤ m) (hm : m ≤ n) (x : Nat) : x ∈ ri m o ↔ x < m := by
  unfold ri
  rw [List.mem_cons, List.mem_filter]
  constructor
  · rintro (rfl | ⟨-, h⟩)
    · omega
    · exact (of_decide_eq_true h).2
  · intro h
    by_cases e : x = 0
    · exact .inl e
    · exact .inr ⟨hp.all x (by omega), decide_eq_true ⟨by omega, h⟩⟩
theorem ri_nodup (hp : Perm n o) (m : Nat) : (ri m o).Nodup := by
  unfold ri
  refine List.nodup_cons.2 ⟨fun h => ?_, hp.nd.filter _⟩
  have := of_decide_eq_true (List.mem_filter.1 h).2
  omega
theorem ri_len (hp : Perm n o) {m : Nat} (h1 : 1 ≤ m) (hm : m ≤ n) : (ri m o).length = m := by
  have hs : (ri m o).Perm (List.range m) := (List.perm_ext_iff_of_nodup (ri_nodup hp m) List.nodup_range).2 fun x => by rw [ri_mem hp h1 hm, List.mem_range]
  simpa using hs.length_eq
namespace Rel
theorem len (h : Rel n d sl o wl) : (rowR sl o).length = sl.length := by unfold rowR; rw [List.length_map, ri_len h.perm h.k1 h.kn]
theorem mem (h : Rel n d sl o wl) {e : Ent} : e ∈ rowR sl o ↔ ∃ i, i < sl.length ∧ e = ent sl i := by
  unfold rowR
  rw [List.mem_map]
  constructor
  · rintro ⟨i, hi, rfl⟩
    exact ⟨i, (ri_mem h.perm h.k1 h.kn i).1 hi, rfl⟩
  · rintro ⟨i, hi, rfl⟩
    exact ⟨i, (ri_mem h.perm h.k1 h.kn i).2 hi, rfl⟩
/-- what a slot holds, where it stands in the row -/
theorem cut (h : Rel n d sl o wl) {i : Nat} (hi : i < sl.length) : ∃ p s, ri sl.length o = p ++ i :: s ∧ i ∉ p ∧ i ∉ s ∧ rowR sl o = p.map (ent sl) ++ ent sl i :: s.map (ent sl) ∧ ixR (rowR sl o) (ent sl i).1 = some p.length := by
  obtain ⟨p, s, e⟩ := List.append_of_mem ((ri_mem h.perm h.k1 h.kn i).2 hi)
  have nd := ri_nodup h.perm sl.length
  rw [e, List.nodup_append] at nd
  obtain ⟨n1, n2, n3⟩ := nd
  have ip : i ∉ p := fun hx => n3 i hx i List.mem_cons_self rfl
  have is : i ∉ s := (List.nodup_cons.1 n2).1
  have er : rowR sl o = p.map (ent sl) ++ ent sl i :: s.map (ent sl) := by unfold rowR; rw [e]; simp
  refine ⟨p, s, e, ip, is, er, ?_⟩
  rw [er, ix_app (fun x hx hv => ?_)]
  · simp
  · obtain ⟨j, hj, rfl⟩ := List.mem_map.1 hx
    have hjl : j < sl.length := (ri_mem h.perm h.k1 h.kn j).1 (by rw [e]; exact List.mem_append_left _ hj)
    exact ip (h.dist j i hjl hi hv ▸ hj)
theorem hit (h : Rel n d sl o wl) {v : List Int} (hv : Pg d v) : (∃ i, i < sl.length ∧ (ent sl i).1 = v ∧ wl.getD (keyN d v) (-1) = (i : Int)) ∨ ((∀ i, i < sl.length → (ent sl i).1 ≠ v) ∧ wl.getD (keyN d v) (-1) = -1 ∧ ixR (rowR sl o) v = none) := by
  by_cases hx : ∃ i, i < sl.length ∧ (ent sl i).1 = v
  · obtain ⟨i, hi, e⟩ := hx
    exact .inl ⟨i, hi, e, e ▸ h.wat i hi⟩
  · have hno : ∀ i, i < sl.length → (ent sl i).1 ≠ v := fun i hi e => hx ⟨i, hi, e⟩
    refine .inr ⟨hno, h.wno v hv hno, ix_none.2 fun e he => ?_⟩
    obtain ⟨i, hi, rfl⟩ := h.mem.1 he
    exact hno i hi
theorem bad (h : Rel n d sl o wl) {v : List Int} (hv : ¬ Pg d v) : ixR (rowR sl o) v = none := ix_none.2 fun e he hx => by
  obtain ⟨i, hi, rfl⟩ := h.mem.1 he
  exact hv (hx ▸ h.pg i hi)
theorem root_pg (h : Rel n d sl o wl) : Pg d (rootL d) := h.root ▸ h.pg 0 h.k1
/-- the bytes of a page that is there -/
theorem val (h : Rel n d sl o wl) {i : Nat} (hi : i < sl.length) : bytesR (rowR sl o) (ent sl i).1 = (ent sl i).2 := by
  obtain ⟨p, s, -, -, -, er, ei⟩ := h.cut hi
  unfold bytesR
  rw [ei, er]
  have := ent_app (p.map (ent sl)) (s.map (ent sl)) (ent sl i)
  rw [List.length_map] at this
  simp only [this]
/-- new bytes for a page that is there -/
theorem old (h : Rel n d sl o wl) {i : Nat} (hi : i < sl.length) {v b : List Int} (hv : (ent sl i).1 = v) (hb : b.length = 144) : Rel n d (sl.set i (v, b)) o wl ∧ rowR (sl.set i (v, b)) o = putR n (rowR sl o) v b ∧ goneR n (rowR sl o) v = [] ∧ codeR n (rowR sl o) v = 0 := by
  obtain ⟨p, s, e, ip, is, er, ei⟩ := h.cut hi
  have e1 : ∀ j, (ent (sl.set i (v, b)) j).1 = (ent sl j).1 := by
    intro j
    rw [ent_set _ hi]
    split
    · next hj => rw [hj, hv]
    · rfl
  have hl : (sl.set i (v, b)).length = sl.length := List.length_set
  refine ⟨⟨h.d3, by rw [hl]; exact h.k1, by rw [hl]; exact h.kn, fun j hj => ?_, fun j hj => ?_, fun j k hj hk => ?_, by rw [e1]; exact h.root, h.wlen, fun j hj => ?_, fun w hw hno => ?_, h.perm⟩, ?_, ?_, ?_⟩
  · rw [e1]; exact h.pg j (hl ▸ hj)
  · rw [ent_set _ hi]
    split
    · exact hb
    · exact h.bl j (hl ▸ hj)
  · rw [e1, e1]; exact h.dist j k (hl ▸ hj) (hl ▸ hk)
  · rw [e1]; exact h.wat j (hl ▸ hj)
  · exact h.wno w hw fun j hj => by rw [← e1]; exact hno j (hl.symm ▸ hj)
  · unfold putR
    rw [← hv, ei]
    simp only
    have hset : (rowR sl o).set p.length ((ent sl i).1, b) = p.map (ent sl) ++ ((ent sl i).1, b) :: s.map (ent sl) := by
      have := set_app (p.map (ent sl)) (s.map (ent sl)) (ent sl i) ((ent sl i).1, b)
      rw [List.length_map] at this
      rw [er, this]
    rw [hset]
    unfold rowR
    rw [List.length_set, e, List.map_append, List.map_cons]
    have hp : p.map (ent (sl.set i ((ent sl i).1, b))) = p.map (ent sl) := List.map_congr_left fun x hx => by rw [ent_set _ hi, if_neg (fun (e : x = i) => ip (e ▸ hx))]
    have hs : s.map (ent (sl.set i ((ent sl i).1, b))) = s.map (ent sl) := List.map_congr_left fun x hx => by rw [ent_set _ hi, if_neg (fun (e : x = i) => is (e ▸ hx))]
    rw [hp, hs, ent_set _ hi, if_pos rfl]
  · unfold goneR
    rw [← hv, ei]
  · unfold codeR
    rw [← hv, ei]
/-- a page more -/
theorem more (h : Rel n d sl o wl) (hlt : sl.length < n) {v b : List Int} (hv : Pg d v) (hno : ∀ i, i < sl.length → (ent sl i).1 ≠ v) (hb : b.length = 144) :
    Rel n d (sl ++ [(v, b)]) (touchL o sl.length) (wl.set (keyN d v) (sl.length : Int)) ∧ rowR (sl ++ [(v, b)]) (touchL o sl.length) = putR n (rowR sl o) v b ∧ goneR n (rowR sl o) v = [] ∧ codeR n (rowR sl o) v = 0 := by
  have hl : (sl ++ [(v, b)]).length = sl.length + 1 := by simp
  have kv := key_int h.d3 hv
  have ei : ixR (rowR sl o) v = none := ix_none.2 fun e he => by
    obtain ⟨i, hi, rfl⟩ := h.mem.1 he
    exact hno i hi
  refine ⟨⟨h.d3, by omega, by omega, fun j hj => ?_, fun j hj => ?_, fun j k hj hk hjk => ?_, ?_, by rw [List.length_set]; exact h.wlen, fun j hj => ?_, fun w hw hno' => ?_, touch_perm h.perm hlt⟩, ?_, ?_, ?_⟩
  · rw [ent_more]
    split
    · exact hv
    · exact h.pg j (by omega)
  · rw [ent_more]
    split
    · exact hb
    · exact h.bl j (by omega)
  · rw [ent_more, ent_more] at hjk
    split at hjk <;> split at hjk
    · omega
    · exact absurd hjk.symm (hno k (by omega))
    · exact absurd hjk (hno j (by omega))
    · exact h.dist j k (by omega) (by omega) hjk
  · have := h.k1
    rw [ent_more, if_neg (by omega)]; exact h.root
  · rw [ent_more]
    split
    · next e =>
      rw [List.getD_eq_getElem?_getD, List.getElem?_set_self (by rw [h.wlen]; exact kv.2), e]; rfl
    · next e =>
      have hj' : j < sl.length := by omega
      rw [List.getD_eq_getElem?_getD, List.getElem?_set_ne (fun e => hno j hj' (key_inj3 h.d3 (h.pg j hj') hv e.symm)), ← List.getD_eq_getElem?_getD]
      exact h.wat j hj'
  · have hw1 : v ≠ w := by
      have := hno' sl.length (by omega)
      rw [ent_more, if_pos rfl] at this
      exact this
    rw [List.getD_eq_getElem?_getD, List.getElem?_set_ne (fun e => hw1 (key_inj3 h.d3 hv hw e)), ← List.getD_eq_getElem?_getD]
    refine h.wno w hw fun j hj => ?_
    have := hno' j (by omega)
    rw [ent_more, if_neg (by omega : ¬ j = sl.length)] at this
    exact this
  · unfold putR
    rw [ei]
    simp only
    rw [h.len, if_pos hlt]
    unfold rowR ri touchL
    rw [hl, List.filter_append, List.map_cons, List.map_append, List.map_cons]
    have h1 : (o.filter fun x => decide (x ≠ sl.length)).filter (pm (sl.length + 1)) = o.filter (pm sl.length) := by
      rw [List.filter_filter]
      refine List.filter_congr fun x hx => ?_
      unfold pm
      by_cases hx : x = sl.length
      · rw [hx]; simp
      · rw [decide_eq_true (show x ≠ sl.length from hx), Bool.and_true]
        exact decide_eq_decide.2 ⟨fun h => ⟨h.1, by omega⟩, fun h => ⟨h.1, by omega⟩⟩
    have h2 : [sl.length].filter (pm (sl.length + 1)) = [sl.length] := by
      have := h.k1
      simp [pm]; omega
    have h3 : (o.filter (pm sl.length)).map (ent (sl ++ [(v, b)])) = (o.filter (pm sl.length)).map (ent sl) := List.map_congr_left fun x hx => by
      have := (of_decide_eq_true (List.mem_filter.1 hx).2).2
      rw [ent_more, if_neg (by omega)]
    have := h.k1
    rw [h1, h2, h3, ent_more, if_neg (by omega), List.map_cons, List.map_nil, ent_more, if_pos rfl]
    rfl
  · unfold goneR
    rw [ei]
    simp only
    rw [h.len, if_pos hlt]
  · unfold codeR
    rw [ei]
    simp only
    rw [h.len, if_pos hlt]
/-- the oldest goes -/
theorem goes (h : Rel n d sl o wl) (hle : ¬ sl.length < n) {i : Nat} {t : List Nat} (ho : o.filter (fun x => decide (x ≠ 0)) = i :: t) {v b : List Int} (hv : Pg d v) (hno : ∀ i, i < sl.length → (ent sl i).1 ≠ v) (hb : b.length = 144) :
    (0 < i ∧ i < sl.length) ∧
    Rel n d (sl.set i (v, b)) (touchL o i) ((wl.set (keyN d (ent sl i).1) (-1)).set (keyN d v) (i : Int)) ∧ rowR (sl.set i (v, b)) (touchL o i) = putR n (rowR sl o) v b ∧ goneR n (rowR sl o) v = [(ent sl i).1] ∧ codeR n (rowR sl o) v = 0 := by
  have hn : sl.length = n := by have := h.kn; omega
  have him : i ∈ o.filter (fun x => decide (x ≠ 0)) := by rw [ho]; exact List.mem_cons_self
  have hi0 : i ≠ 0 := of_decide_eq_true (List.mem_filter.1 him).2
  have hin : i < sl.length := by rw [hn]; exact h.perm.lt i (List.mem_filter.1 him).1
  have ef : o.filter (pm sl.length) = i :: t := by
    rw [← ho]
    refine List.filter_congr fun x hx => ?_
    have := h.perm.lt x hx
    unfold pm
    by_cases e : x = 0
    · simp [e]
    · simp [e]; omega
  have er : rowR sl o = ent sl 0 :: ent sl i :: t.map (ent sl) := by unfold rowR ri; rw [ef]; rfl
  have nd := ri_nodup h.perm sl.length
  unfold ri at nd
  rw [ef] at nd
  have hit : i ∉ t := (List.nodup_cons.1 (List.nodup_cons.1 nd).2).1
  have hl : (sl.set i (v, b)).length = sl.length := List.length_set
  have kv := key_int h.d3 hv
  have ki := key_int h.d3 (h.pg i hin)
  have kne : keyN d v ≠ keyN d (ent sl i).1 := fun e => hno i hin (key_inj3 h.d3 (h.pg i hin) hv e.symm)
  have ei : ixR (rowR sl o) v = none := ix_none.2 fun e he => by
    obtain ⟨i, hi, rfl⟩ := h.mem.1 he
    exact hno i hi
  have hlen : ¬ (rowR sl o).length < n := by rw [h.len]; exact hle
  have hlen2 : ¬ (rowR sl o).length < 2 := by rw [er]; simp
  refine ⟨⟨by omega, hin⟩, ⟨h.d3, by rw [hl]; exact h.k1, by rw [hl]; exact h.kn, fun j hj => ?_, fun j hj => ?_, fun j k hj hk hjk => ?_, ?_, by rw [List.length_set, List.length_set]; exact h.wlen, fun j hj => ?_, fun w hw hno' => ?_, touch_perm h.perm (hn ▸ hin)⟩, ?_, ?_, ?_⟩
  · rw [ent_set _ hin]
    split
    · exact hv
    · exact h.pg j (hl ▸ hj)
  · rw [ent_set _ hin]
    split
    · exact hb
    · exact h.bl j (hl ▸ hj)
  · rw [hl] at hj hk
    rw [ent_set _ hin, ent_set _ hin] at hjk
    split at hjk <;> split at hjk
    · omega
    · exact absurd hjk.symm (hno k hk)
    · exact absurd hjk (hno j hj)
    · exact h.dist j k hj hk hjk
  · rw [ent_set _ hin, if_neg (fun e => hi0 e.symm)]; exact h.root
  · rw [hl] at hj
    rw [ent_set _ hin]
    split
    · next e =>
      rw [List.getD_eq_getElem?_getD, List.getElem?_set_self (by rw [List.length_set, h.wlen]; exact kv.2), e]; rfl
    · next e =>
      rw [List.getD_eq_getElem?_getD, List.getElem?_set_ne (fun e => hno j hj (key_inj3 h.d3 (h.pg j hj) hv e.symm)), List.getElem?_set_ne (fun e' => e (h.dist j i hj hin (key_inj3 h.d3 (h.pg j hj) (h.pg i hin) e'.symm))), ← List.getD_eq_getElem?_getD]
      exact h.wat j hj
  · rw [hl] at hno'
    have hw1 : v ≠ w := by
      have := hno' i hin
      rw [ent_set _ hin, if_pos rfl] at this
      exact this
    rw [List.getD_eq_getElem?_getD, List.getElem?_set_ne (fun e => hw1 (key_inj3 h.d3 hv hw e))]
    by_cases ew : (ent sl i).1 = w
    · rw [← ew, List.getElem?_set_self (by rw [h.wlen]; exact ki.2)]; rfl
    · rw [List.getElem?_set_ne (fun e => ew (key_inj3 h.d3 (h.pg i hin) hw e)), ← List.getD_eq_getElem?_getD]
      refine h.wno w hw fun j hj e => ?_
      by_cases ej : j = i
      · exact ew (ej ▸ e)
      · have := hno' j hj
        rw [ent_set _ hin, if_neg ej] at this
        exact this e
  · unfold putR
    rw [ei]
    simp only
    rw [if_neg hlen, if_neg hlen2, er]
    unfold rowR ri touchL
    rw [hl, List.filter_append, List.map_cons, List.map_append]
    have h1 : (o.filter fun x => decide (x ≠ i)).filter (pm sl.length) = t := by
      have e1 : (o.filter fun x => decide (x ≠ i)).filter (pm sl.length) = (o.filter (pm sl.length)).filter (fun x => decide (x ≠ i)) := by
        rw [List.filter_filter, List.filter_filter]
        exact List.filter_congr fun x _ => Bool.and_comm _ _
      rw [e1, ef, List.filter_cons, if_neg (by simp), List.filter_eq_self.2]
      intro x hx
      exact decide_eq_true fun e => hit (e ▸ hx)
    have h2 : [i].filter (pm sl.length) = [i] := by
      simp [pm]; omega
    have h3 : t.map (ent (sl.set i (v, b))) = t.map (ent sl) := List.map_congr_left fun x hx => by
      rw [ent_set _ hin, if_neg (fun (e : x = i) => hit (e ▸ hx))]
    rw [h1, h2, h3, ent_set _ hin, if_neg (fun e => hi0 e.symm), List.map_cons, List.map_nil, ent_set _ hin, if_pos rfl]
    rfl
  · unfold goneR
    rw [ei]
    simp only
    rw [if_neg hlen, if_neg hlen2, er]
    rfl
  · unfold codeR
    rw [ei]
    simp only
    rw [if_neg hlen, if_neg hlen2]
/-- all are pinned -/
theorem full (h : Rel n d sl o wl) (hle : ¬ sl.length < n) (ho : o.filter (fun x => decide (x ≠ 0)) = []) {v b : List Int} (hv : Pg d v) (hno : ∀ i, i < sl.length → (ent sl i).1 ≠ v) :
    rowR sl o = putR n (rowR sl o) v b ∧ goneR n (rowR sl o) v = [] ∧ codeR n (rowR sl o) v = 6 := by
  have hn : sl.length = n := by have := h.kn; omega
  have h1 : n = 1 := by
    have := h.k1
    by_cases e : n = 1
    · exact e
    · have hm : 1 ∈ o.filter (fun x => decide (x ≠ 0)) := List.mem_filter.2 ⟨h.perm.all 1 (by omega), by decide⟩
      rw [ho] at hm
      cases hm
  have ei : ixR (rowR sl o) v = none := ix_none.2 fun e he => by
    obtain ⟨i, hi, rfl⟩ := h.mem.1 he
    exact hno i hi
  have hlen : ¬ (rowR sl o).length < n := by rw [h.len]; exact hle
  have hlen2 : (rowR sl o).length < 2 := by rw [h.len]; omega
  refine ⟨?_, ?_, ?_⟩
  · unfold putR; rw [ei]; simp only; rw [if_neg hlen, if_pos hlen2]
  · unfold goneR; rw [ei]; simp only; rw [if_neg hlen, if_pos hlen2]
  · unfold codeR; rw [ei]; simp only; rw [if_neg hlen, if_pos hlen2]
/-- a page is used -/
theorem used (h : Rel n d sl o wl) {i : Nat} (hi : i < sl.length) : Rel n d sl (touchL o i) wl ∧ rowR sl (touchL o i) = touchR (rowR sl o) (ent sl i).1 := by
  have hin : i < n := by have := h.kn; omega
  refine ⟨⟨h.d3, h.k1, h.kn, h.pg, h.bl, h.dist, h.root, h.wlen, h.wat, h.wno, touch_perm h.perm hin⟩, ?_⟩
  obtain ⟨p, s, e, ip, is, er, ei⟩ := h.cut hi
  have e1 : (o.filter fun x => decide (x ≠ i)).filter (pm sl.length) = (o.filter (pm sl.length)).filter (fun x => decide (x ≠ i)) := by
    rw [List.filter_filter, List.filter_filter]
    exact List.filter_congr fun x _ => Bool.and_comm _ _
  unfold touchR
  rw [ei]
  cases p with
  | nil =>
    simp only [List.length_nil]
    have hi0 : i = 0 := by
      unfold ri at e
      rw [List.nil_append] at e
      injection e with e _
      exact e.symm
    subst hi0
    unfold rowR ri touchL
    rw [List.filter_append, e1]
    have h1 : (o.filter (pm sl.length)).filter (fun x => decide (x ≠ 0)) = o.filter (pm sl.length) := by
      rw [List.filter_eq_self]
      intro x hx
      have := (of_decide_eq_true (List.mem_filter.1 hx).2).1
      exact decide_eq_true (by omega)
    have h2 : [0].filter (pm sl.length) = [] := rfl
    rw [h1, h2, List.append_nil]
  | cons p0 p =>
    simp only [List.length_cons]
    unfold ri at e
    rw [List.cons_append] at e
    injection e with e0 ef
    subst e0
    rw [List.mem_cons, not_or] at ip
    have hE : ent (rowR sl o) (p.length + 1) = ent sl i := by
      have := ent_app ((0 :: p).map (ent sl)) (s.map (ent sl)) (ent sl i)
      rw [List.length_map, List.length_cons] at this
      rw [er]
      exact this
    have hX : (rowR sl o).eraseIdx (p.length + 1) = (0 :: p).map (ent sl) ++ s.map (ent sl) := by
      have := erase_app ((0 :: p).map (ent sl)) (s.map (ent sl)) (ent sl i)
      rw [List.length_map, List.length_cons] at this
      rw [er]
      exact this
    rw [hE, hX]
    unfold rowR ri touchL
    rw [List.filter_append, e1, ef, filter_split ip.2 is]
    have h2 : [i].filter (pm sl.length) = [i] := by
      have := ip.1
      simp [pm]; omega
    rw [h2]
    simp
end Rel
theorem used_not {R : List Ent} {v : List Int} (h : ixR R v = none) : touchR R v = R := by unfold touchR; rw [h]
end Go.Proofs.Ytkklppjimnkibaa.PoM

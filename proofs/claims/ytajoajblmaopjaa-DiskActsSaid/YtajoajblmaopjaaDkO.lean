/-
  The reference's disk in the store, whole; Read.
-/
import Derived.Test.YtajoajblmaopjaaDkN
import Derived.Test.YtajoajblmaopjaaDkH
import Derived.Test.YtajoajblmaopjaaApp
namespace Go.Proofs.Ytajoajblmaopjaa.DkO
open Go.RowKit Rd
open Go.Proofs.Ytajoajblmaopjaa.Row hiding cs blk3_0 blk3_1 blk3_2
open Mid DkM DkA DkL DkN
open DkB (rd)
open DkH (Bd)
set_option linter.unusedVariables false
set_option linter.unusedSimpArgs false
set_option maxRecDepth 10000
theorem own_keep {w w' : World} {base s : Nat} {e : TypeId} {v : Value} {n : Nat} {xs : List Value} (h : w.ownsRow base e s v n xs) (hk : ∀ k, v.ownBlock = some k → w'.heap[k]? = w.heap[k]?) : w'.ownsRow base e s v n xs := by
  refine ⟨h.1, ?_⟩
  rcases h.2 with hn | ⟨g, cap, cur, rfl, hb, hg, rest⟩
  · exact .inl hn
  · exact .inr ⟨g, cap, cur, rfl, hb, by rw [hk g rfl]; exact hg, rest⟩
theorem owns_mono {w : World} {base base' : Nat} {e : TypeId} {size : Nat} {v : Value} {n : Nat} {xs : List Value} (h : w.ownsRow base e size v n xs) (hb : base' ≤ base) : w.ownsRow base' e size v n xs := by
  refine ⟨h.1, ?_⟩
  rcases h.2 with hn | ⟨g, cap, cur, rfl, h2, rest⟩
  · exact .inl hn
  · exact .inr ⟨g, cap, cur, rfl, Nat.le_trans hb h2, rest⟩
theorem own_type {w : World} {base s : Nat} {e : TypeId} {v : Value} {n : Nat} {xs : List Value} (h : w.ownsRow base e s v n xs) {k : Nat} (hk : v.ownBlock = some k) : ∃ cur : Array Value, w.heap[k]? = some (Obj.cells cur e (0, 0)) := by
  rcases h.2 with ⟨rfl, _⟩ | ⟨g, cap, cur, rfl, hb, hg, rest⟩
  · cases hk
  · cases hk; exact ⟨cur, hg⟩
/-- a row of bytes of one's own -/
def Oc (X : World) (B0 : Nat) (u : Value) (l : List Int) : Prop := X.ownsRow B0 5 1 u 32 (us l)
/-- the rows for good -/
def BR (X : World) (B0 bg n cb : Nat) (K : List (List Int)) : Prop := ∃ bs : List Value, X.ownsRow B0 32 1 (.slice (some ⟨bg, 0, none⟩) n cb) n bs ∧ ∀ i, i < n → ∃ u, bs[i]? = some u ∧ Oc X B0 u (K.getD i [])
/-- the rows held back -/
def HR (X : World) (B0 : Nat) (hv : Value) (L : List (Nat × List Int)) : Prop := ∃ hs : List Value, X.ownsRow B0 71 2 hv L.length hs ∧ ∀ k x, L[k]? = some x → hs[k * 2]? = some (.int .i64 (x.1 : Int)) ∧ ∃ u, hs[k * 2 + 1]? = some u ∧ Oc X B0 u x.2
/-- the reference's disk -/
structure Rf (X : World) (B0 pd bg n : Nat) (s : DS) : Prop where
  lo : B0 ≤ pd
  hd : ∃ cb hv, Rh X pd (.slice (some ⟨bg, 0, none⟩) n cb) hv s.lf s.ms s.dn s.wr ∧ BR X B0 bg n cb s.K ∧ HR X B0 hv (hl s.H 0)
  small : 1 ≤ n ∧ n ≤ 2048
  kl : s.K.length = n ∧ ∀ l ∈ s.K, Bd l
  hb : s.H.length = n ∧ ∀ h ∈ s.H, Bd h.2
/-- what the reference's calls leave alone -/
def Fr (B0 : Nat) (X Y : World) : Prop := Below B0 X Y ∧ ∀ (k : Nat) (cur : Array Value) (T : TypeId), X.heap[k]? = some (.cells cur T (0, 0)) → T ≠ 50 → T ≠ 32 → T ≠ 71 → Y.heap[k]? = X.heap[k]?
variable {X Y : World} {B0 pd bg n : Nat} {s : DS}
theorem Oc.keep {u : Value} {l : List Int} (h : Oc X B0 u l) (hk : ∀ (k : Nat) (cur : Array Value), X.heap[k]? = some (.cells cur 5 (0, 0)) → Y.heap[k]? = X.heap[k]?) : Oc Y B0 u l := own_keep h fun k hu => by
  obtain ⟨cur, hc⟩ := own_type h hu
  exact hk k cur hc
/-- all the blocks of the reference's kinds stand -/
def Same (X Y : World) : Prop := ∀ (k : Nat) (cur : Array Value) (T : TypeId), X.heap[k]? = some (.cells cur T (0, 0)) → (T = 50 ∨ T = 32 ∨ T = 71 ∨ T = 5) → Y.heap[k]? = X.heap[k]?
def Same3 (X Y : World) : Prop := ∀ (k : Nat) (cur : Array Value) (T : TypeId), X.heap[k]? = some (.cells cur T (0, 0)) → (T = 32 ∨ T = 71 ∨ T = 5) → Y.heap[k]? = X.heap[k]?
theorem Same.three (h : Same X Y) : Same3 X Y := fun k cur T hk ht => h k cur T hk (.inr ht)
/-- the head alone is turned -/
theorem three_of_tn {o : Obj} (ht : Tn [pd] X Y) (hp : blk X pd = some o) (ho : ∀ cur, o ≠ .cells cur 32 (0, 0)) (ho2 : ∀ cur, o ≠ .cells cur 71 (0, 0)) (ho3 : ∀ cur, o ≠ .cells cur 5 (0, 0)) : Same3 X Y := fun k cur T hk h => by
  refine ht.2.2 k (blk_lt (show blk X k = _ from hk)) ?_
  intro e
  simp at e
  subst e
  have h9 : some o = _ := hp.symm.trans hk
  injection h9 with h9
  rcases h with rfl | rfl | rfl
  · exact ho _ h9
  · exact ho2 _ h9
  · exact ho3 _ h9
theorem Same.of_below (h : Below X.heap.size X Y) : Same X Y := fun k cur T hk _ => h.block k (blk_lt (show blk X k = _ from hk))
theorem BR.keep {cb : Nat} {K : List (List Int)} (h : BR X B0 bg n cb K) (hs : Same3 X Y) : BR Y B0 bg n cb K := by
  obtain ⟨bs, h1, h2⟩ := h
  refine ⟨bs, own_keep h1 fun k hu => ?_, fun i hi => ?_⟩
  · obtain ⟨cur, hc⟩ := own_type h1 hu
    exact hs k cur _ hc (.inl rfl)
  · obtain ⟨u, h3, h4⟩ := h2 i hi
    exact ⟨u, h3, h4.keep fun k cur hk => hs k cur _ hk (.inr (.inr rfl))⟩
theorem HR.keep {hv : Value} {L : List (Nat × List Int)} (h : HR X B0 hv L) (hs : Same3 X Y) : HR Y B0 hv L := by
  obtain ⟨bs, h1, h2⟩ := h
  refine ⟨bs, own_keep h1 fun k hu => ?_, fun k x hx => ?_⟩
  · obtain ⟨cur, hc⟩ := own_type h1 hu
    exact hs k cur _ hc (.inr (.inl rfl))
  · obtain ⟨h5, u, h3, h4⟩ := h2 k x hx
    exact ⟨h5, u, h3, h4.keep fun k cur hk => hs k cur _ hk (.inr (.inr rfl))⟩
theorem Rf.keep (h : Rf X B0 pd bg n s) (hs : Same X Y) : Rf Y B0 pd bg n s := by
  obtain ⟨cb, hv, h1, h2, h3⟩ := h.hd
  exact ⟨h.lo, ⟨cb, hv, ⟨(hs pd _ _ h1.head (.inl rfl)).trans h1.head⟩, h2.keep hs.three, h3.keep hs.three⟩, h.small, h.kl, h.hb⟩
theorem Rf.below (h : Rf X B0 pd bg n s) (hb : Below X.heap.size X Y) : Rf Y B0 pd bg n s := h.keep (.of_below hb)
/-- a row of bytes, as it is read -/
theorem Oc.rd {u : Value} {l : List Int} (h : Oc X B0 u l) : ∃ g c, u = .slice (some ⟨g, 0, none⟩) 32 c ∧ 32 ≤ c ∧ c ≤ maxLen ∧ Reads X 1 (some ⟨g, 0, none⟩) 32 (us l) := by
  obtain ⟨g, c, h1, h2, h3, h4, h5, h6⟩ := owns_pos h (by omega)
  subst h1
  exact ⟨g, c, rfl, h4, h5, Reads.of_owns h⟩
theorem BR.at {cb i : Nat} {K : List (List Int)} (h : BR X B0 bg n cb K) (hi : i < n) : n ≤ cb ∧ ∃ g c, X.cell? ⟨bg, i, none⟩ = some (.slice (some ⟨g, 0, none⟩) 32 c) ∧ 32 ≤ c ∧ c ≤ maxLen ∧ Reads X 1 (some ⟨g, 0, none⟩) 32 (us (K.getD i [])) := by
  obtain ⟨bs, h1, h2⟩ := h
  obtain ⟨u, h3, h4⟩ := h2 i hi
  obtain ⟨g, c, rfl, h5, h6, h7⟩ := h4.rd
  obtain ⟨g9, c9, e9, -, -, h8, -, h9⟩ := owns_pos h1 (by omega)
  cases e9
  exact ⟨h8, g, c, by rw [h9 i (by omega), h3], h5, h6, h7⟩
theorem HR.at {hv : Value} {L : List (Nat × List Int)} {k : Nat} {x : Nat × List Int} (h : HR X B0 hv L) (hk : L[k]? = some x) : ∃ hg ch g c, hv = .slice (some ⟨hg, 0, none⟩) L.length ch ∧ L.length ≤ ch ∧ X.cell? ⟨hg, k * 2, none⟩ = some (.int .i64 (x.1 : Int)) ∧ X.cell? ⟨hg, k * 2 + 1, none⟩ = some (.slice (some ⟨g, 0, none⟩) 32 c) ∧ 32 ≤ c ∧ c ≤ maxLen ∧ Reads X 1 (some ⟨g, 0, none⟩) 32 (us x.2) := by
  have hlt := (List.getElem?_eq_some_iff.1 hk).1
  obtain ⟨hs, h1, h2⟩ := h
  obtain ⟨h3, u, h4, h5⟩ := h2 k x hk
  obtain ⟨g, c, rfl, h6, h7, h8⟩ := h5.rd
  obtain ⟨hg, ch, rfl, -, -, h9, -, h10⟩ := owns_pos h1 (by omega)
  exact ⟨hg, ch, g, c, rfl, h9, by rw [h10 _ (by omega), h3], by rw [h10 _ (by omega), h4], h6, h7, h8⟩
theorem hl_le : ∀ (H : List (Bool × List Int)) (o : Nat), (hl H o).length ≤ H.length
  | [], _ => Nat.le_refl _
  | (q, l) :: t, o => by
    unfold hl
    have := hl_le t (o + 1)
    split <;> simp <;> omega
/-- where back finds a sector -/
theorem rback (i : Nat) (w : World) (h : Rf w B0 pd bg n s) (hi : i < n) :
    Calls Try.prog 29 #[.pointer (some ⟨pd, 0, none⟩), .int .i64 i] w fun e w' => w = w' ∧ ((∃ k : Nat, k < (hl s.H 0).length ∧ e = .returned (.int .i64 k) ∧ ∃ l, (hl s.H 0)[k]? = some (i, l) ∧ s.H.getD i (false, []) = (true, l)) ∨ (e = .returned (.int .i64 (-1)) ∧ (s.H.getD i (false, [])).1 = false)) := by
  obtain ⟨cb, hv, h1, h2, h3⟩ := h.hd
  have hH : i < s.H.length := by rw [h.hb.1]; exact hi
  have hg : s.H.getD i (false, []) = s.H[i] := by simp [List.getD, hH]
  obtain ⟨hs, h4, h5⟩ := h3
  obtain ⟨a, c, rfl, -, -⟩ := owns_val h4
  have hle := hl_le s.H 0
  refine (back_any (i : Int) a (hl s.H 0).length c (fun k => (((hl s.H 0).getD k (0, [])).1 : Int)) w h1 (by have := h.hb.1; have := h.small; omega) ?_).mono ?_
  · rcases Nat.eq_zero_or_pos (hl s.H 0).length with h0 | h0
    · exact .inl h0
    · obtain ⟨g, c9, e9, -, -, -, -, h9⟩ := owns_pos h4 h0
      cases e9
      refine .inr ⟨g, 0, rfl, fun k hk => ?_⟩
      have hx : (hl s.H 0)[k]? = some (hl s.H 0)[k] := List.getElem?_eq_getElem hk
      obtain ⟨h6, -⟩ := h5 k _ hx
      rw [Nat.zero_add, h9 _ (by omega), h6]
      simp [List.getD, hk]
  · rintro e w' ⟨rfl, h6⟩
    refine ⟨rfl, ?_⟩
    rcases h6 with ⟨k, hk, rfl, hf⟩ | ⟨rfl, hf⟩
    · have hx : (hl s.H 0)[k]? = some (hl s.H 0)[k] := List.getElem?_eq_getElem hk
      have hf' : (hl s.H 0)[k].1 = i := by
        have : (((hl s.H 0).getD k (0, [])).1 : Int) = (i : Int) := hf
        simp [List.getD, hk] at this
        exact_mod_cast this
      cases hq : s.H[i].1 with
      | true =>
        obtain ⟨q1, q2⟩ := held_at hH hq
        have e1 := q2 k _ hx hf'
        subst e1
        exact .inl ⟨_, hk, rfl, s.H[i].2, q1, by rw [hg, ← hq]⟩
      | false =>
        obtain ⟨-, q2⟩ := free_at hH hq
        exact absurd hf' (q2 _ (List.getElem_mem hk))
    · refine .inr ⟨rfl, ?_⟩
      rw [hg]
      cases hq : s.H[i].1 with
      | false => rfl
      | true =>
        obtain ⟨q1, q2⟩ := held_at hH hq
        have hlt := (List.getElem?_eq_some_iff.1 q1).1
        have h7 := hf _ hlt
        have h8 : (hl s.H 0)[(hl (s.H.take i) 0).length] = (i, s.H[i].2) := by
          have := List.getElem?_eq_getElem hlt
          rw [q1] at this
          exact (Option.some.inj this).symm
        exact absurd (by simp [List.getD, hlt, h8]) h7
end Go.Proofs.Ytajoajblmaopjaa.DkO

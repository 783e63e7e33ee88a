/-
  A range over a function whose iterator may hold such a range itself: what an iterator promises; what its caller owes.
-/
import Derived.RangeFuncNested
import Derived.RangeFuncBound
import Derived.RangeFuncCalls
import Derived.RangeFuncLeaves
import Derived.Shelf.Abstract
import Derived.OwnWalkIn
import Derived.TacticsInMore
import Derived.LoopNIn
import Derived.LoopIn
import Derived.Maps.AppendAt
import Derived.Test.YtkklppjimnkibaaRow
import Derived.Test.YtkklppjimnkibaaEq
namespace Go.Proofs.Ytkklppjimnkibaa.It
open Go.RowKit Go.Shelf Rd Go.Proofs.Ytkklppjimnkibaa.Row
set_option linter.unusedVariables false
set_option linter.unusedSimpArgs false
variable {P : Program} {α : Type}

/-- from B on all blocks lie as they lay, but those that own names -/
def Hold (B : Nat) (own : Nat → Prop) (X Y : World) : Prop := X.heap.size ≤ Y.heap.size ∧ ∀ k, B ≤ k → k < X.heap.size → ¬ own k → Y.heap[k]? = X.heap[k]?
theorem Hold.refl (B : Nat) (own : Nat → Prop) (X : World) : Hold B own X X := ⟨Nat.le_refl _, fun _ _ _ _ => rfl⟩
theorem Hold.trans {B : Nat} {own : Nat → Prop} {X Y Z : World} (h : Hold B own X Y) (k : Hold B own Y Z) : Hold B own X Z :=
  ⟨Nat.le_trans h.1 k.1, fun i h1 h2 h3 => (k.2 i h1 (Nat.lt_of_lt_of_le h2 h.1) h3).trans (h.2 i h1 h2 h3)⟩
theorem Hold.mono {B B' : Nat} {own own' : Nat → Prop} {X Y : World} (h : Hold B own X Y) (hB : B ≤ B') (ho : ∀ k, own k → own' k) : Hold B' own' X Y :=
  ⟨h.1, fun i h1 h2 h3 => h.2 i (Nat.le_trans hB h1) h2 fun a => h3 (ho i a)⟩
theorem Hold.grown {B : Nat} {own : Nat → Prop} {X Y : World} {row : Option Nat} (h : X.grownBy Y row) (hr : ∀ r, row = some r → r < B ∨ own r) : Hold B own X Y :=
  ⟨h.size, fun i h1 h2 h3 => h.block i h2 fun e => (hr i e.symm).elim (fun a => by omega) fun a => h3 a⟩
/-- what a caller may turn of what came to lie since: cells alone; no step of the iterator's makes more of it -/
structure Mine (B : Nat) (J : List α → World → Prop) (Own : List α → World → Nat → Prop) : Prop where
  cells : ∀ s X k, J s X → Own s X k → ∃ c t fr, X.heap[k]? = some (.cells c t fr)
  back : ∀ s X Y row, J s X → X.grownBy Y row → (∀ r, row = some r → B ≤ r ∧ ∃ o : Obj, X.heap[r]? = some o ∧ o.isCells = false) → ∀ k, Own s Y k → Own s X k
theorem mine_none (B : Nat) (J : List α → World → Prop) : Mine B J (fun _ _ _ => False) := ⟨fun _ _ _ _ h => h.elim, fun _ _ _ _ _ _ _ _ h => h⟩
/-- gf, given a yield and lb, yields xs, one by one, till it is told to stop; K: what it asks of each world that it comes to. -/
def Seq (P : Program) (gf : Nat) (lb : Array Value) (encs : α → Array Value) (xs : List α) (K : World → Prop) : Prop :=
  ∀ (l : Nat) (J Jx : List α → World → Prop) (Own : List α → World → Nat → Prop) (W : World), OwnFrom W.heap.size J → OwnFrom W.heap.size Jx → Mine W.heap.size J Own → (∀ s X, J s X → K X) →
    (∀ pre x X, J pre X → pre ++ [x] <+: xs → W.heap.size ≤ X.heap.size → YieldAt Fence.wide 0 P l (encs x) X fun e X' =>
      Hold W.heap.size (Own pre X) X X' ∧ ((e = .returned (.bool true) ∧ J (pre ++ [x]) X' ∧ ∀ k, Own (pre ++ [x]) X' k → W.heap.size ≤ k → Own pre X k ∨ X.heap.size ≤ k) ∨ (e = .returned (.bool false) ∧ Jx (pre ++ [x]) X'))) →
    J [] W → Calls P gf (#[.func (.yield l) #[] #[]] ++ lb) W fun e X' => (∃ v, e = .returned v) ∧ (J xs X' ∨ ∃ pre, pre <+: xs ∧ Jx pre X')

/-- how a round's body may end -/
def Ends (B : Nat) (I : List α → World → Prop) (Ix : Code → List α → World → Prop) (Own : List α → World → Nat → Prop) (pre : List α) (x : α) (X : World) : Exit → Act → World → Prop
  | .normal, _, X' => Hold B (Own pre X) X X' ∧ I (pre ++ [x]) X' ∧ ∀ k, Own (pre ++ [x]) X' k → B ≤ k → Own pre X k ∨ X.heap.size ≤ k
  | .ret, _, X' => Hold B (Own pre X) X X' ∧ Ix .ret (pre ++ [x]) X'
  | .exit id, _, X' => Hold B (Own pre X) X X' ∧ Ix (.exit id) (pre ++ [x]) X'
  | _, _, _ => False

theorem ownFrom_mono {β : Type} {B B' : Nat} {I : β → World → Prop} (h : OwnFrom B I) (hB : B ≤ B') : OwnFrom B' I :=
  fun s X Y row hs hg hr => h s X Y row hs hg fun r e => ⟨Nat.le_trans hB (hr r e).1, (hr r e).2⟩
/-- a block below lies as it lay -/
theorem ownFrom_at {β : Type} {B k : Nat} {o : Obj} (hk : k < B) : OwnFrom B (fun (_ : β) X => X.heap[k]? = some o) := fun _ X Y row hs hg hr =>
  (hg.block k (Array.getElem?_eq_some_iff.1 hs).1 fun e => by have := (hr k e.symm).1; omega).trans hs
theorem ownFrom_size {β : Type} (B n : Nat) : OwnFrom B (fun (_ : β) X => n ≤ X.heap.size) := fun _ X Y row hs hg hr => Nat.le_trans hs hg.size

/-- the law for the caller of such an iterator, outside of any round -/
theorem range_seq {g : Operand} {ps : Array Tmp} {assign body : Code} {Q : Exit → Act → World → Prop} {a : Act} {w : World} {gf : Nat} {lb : Array Value}
    (hg : a.eval g = .func (.func gf) #[] lb) (eg : ∀ args w, (callFunc gf args).run P w = .ok (.enter gf args) w)
    {encs : α → Array Value} {xs : List α} {K : World → Prop} (hseq : Seq P gf lb encs xs K) (hps : ∀ x, (encs x).size = ps.size)
    (I : List α → World → Prop) (Ix : Code → List α → World → Prop) (Own : List α → World → Nat → Prop) (hI : OwnFrom w.heap.size I) (hIx : ∀ c, OwnFrom w.heap.size (Ix c)) (hM : Mine w.heap.size I Own) (hK : ∀ s X, I s X → K X) (h0 : I [] w)
    (hround : ∀ (l : Nat) (pre : List α) (x : α) (X : World), w.heap.size ≤ l → (∃ r, X.heap[l]? = some (.loop r)) → I pre X → pre ++ [x] <+: xs →
      assign.wpIn (Fence.wide.inRound l) 0 P (Exit.then (fun a1 X1 => X.grownBy X1 none ∧ ∀ X2, X1.grownBy X2 (some l) → I pre X2 → (∃ r, X1.heap[l]? = some (.loop r)) → body.wpIn (Fence.wide.inRound l) 0 P (Ends w.heap.size I Ix Own pre x X2) a1 X2) (fun _ _ _ => False))
        { tmps := (ps.zip (encs x)).foldl (fun t (p, v) => t.setIfInBounds p v) a.tmps, defers := [] } X)
    (hdone : ∀ (D : Nat) (X : World), w.heap.size ≤ D → I xs X → X.heap[D]? = some (.deferred (some [])) → Q .normal { a with defers := { target := .collected D, args := #[] } :: a.defers } X)
    (hstop : ∀ (D : Nat) (c : Code) (pre : List α) (X : World), w.heap.size ≤ D → pre <+: xs → Ix c pre X → X.heap[D]? = some (.deferred (some [])) → c.wpIn Fence.wide 0 P Q { a with defers := { target := .collected D, args := #[] } :: a.defers } X) :
    (Code.rangeFunc g ps assign body).wpIn Fence.wide 0 P Q a w := by
  refine wpIn_rangeFunc fun fn hfn => ?_
  -- the loop's record in each of its states; its place and the mark's
  let R : LoopState → Option Code → Obj := fun st pe => .loop { state := st, pending := pe, fn, tmps := a.tmps, params := ps, assign, body, defers := w.heap.size }
  have hL : w.heap.size + 1 = (w.alloc (.deferred (some []))).heap.size := by simp
  let S : LoopState → Option Code → World → Prop := fun st pe X => X.heap[w.heap.size + 1]? = some (R st pe) ∧ X.heap[w.heap.size]? = some (.deferred (some []))
  have hS0 : S .ready none ((w.alloc (.deferred (some []))).alloc (R .ready none)) :=
    ⟨by rw [hL]; exact World.alloc_heap_new _ _, (Below.heap_alloc _ _ _ (by simp)).trans (World.alloc_heap_new w _)⟩
  -- the record is turned, the mark and all else lie
  have turn : ∀ {st pe X} (o : Obj), S st pe X → (X.putObj (w.heap.size + 1) o).heap[w.heap.size + 1]? = some o ∧ (X.putObj (w.heap.size + 1) o).heap[w.heap.size]? = some (.deferred (some [])) := fun o h =>
    ⟨World.putObj_heap_same (Array.getElem?_eq_some_iff.1 h.1).1, (World.putObj_heap_other (by omega)).trans h.2⟩
  have keep : ∀ {own : Nat → Prop} {st pe X Y}, S st pe X → (∀ k, own k → ∃ c t fr, X.heap[k]? = some (.cells c t fr)) → Hold w.heap.size own X Y → S st pe Y := fun {own st pe X Y} h hc k =>
    ⟨(k.2 _ (by omega) (Array.getElem?_eq_some_iff.1 h.1).1 (fun e => by obtain ⟨c, t, fr, e⟩ := hc _ e; rw [h.1] at e; cases e)).trans h.1,
     (k.2 _ (Nat.le_refl _) (Array.getElem?_eq_some_iff.1 h.2).1 (fun e => by obtain ⟨c, t, fr, e⟩ := hc _ e; rw [h.2] at e; cases e)).trans h.2⟩
  have ownS : ∀ {β : Type} (B : Nat) (hB : w.heap.size + 1 < B) st pe, OwnFrom B (fun (_ : β) X => S st pe X) := fun B hB st pe =>
    OwnFrom.and (ownFrom_at (by omega)) (ownFrom_at (by omega))
  obtain ⟨W1, hW1⟩ : ∃ W1, (w.alloc (.deferred (some []))).alloc (R .ready none) = W1 := ⟨_, rfl⟩
  refine ⟨w.heap.size + 1, [{ target := .collected w.heap.size, args := #[] }], W1, { target := .fn (.func gf) lb, args := #[.func (.yield (w.heap.size + 1)) #[] #[]] }, W1, gf,
    #[.func (.yield (w.heap.size + 1)) #[] #[]] ++ lb, W1, ?_, ?_, fun _ _ => trivial, ?_, fun h => (by cases h), ?_⟩
  · rw [← hW1]; exact run_enterLoop_outer _ _ _ _ _
  · simp only [resolve, hg]
    simp [go_sem]
  · simp [invoke, go_sem, eg]
  have hsz : W1.heap.size = w.heap.size + 2 := by rw [← hW1]; simp
  have hI1 : I [] W1 := by rw [← hW1]; exact hI.alloc _ (hI.alloc _ h0)
  rw [hW1] at hS0
  refine callsIn_wide.2 ((hseq (w.heap.size + 1) (fun s X => I s X ∧ S .ready none X) (fun s X => ∃ c, Ix c s X ∧ S .done (some c) X) Own W1 ?_ ?_ ?_ (fun s X h => hK s X h.1) ?_ ⟨hI1, hS0⟩).mono ?_)
  · exact OwnFrom.and (ownFrom_mono hI (by rw [hsz]; omega)) (ownS _ (by rw [hsz]; omega) _ _)
  · intro s X Y row ⟨c, h1, h2⟩ hgr hrow
    exact ⟨c, ownFrom_mono (hIx c) (by rw [hsz]; omega) s X Y row h1 hgr hrow, ownS (β := Unit) _ (by rw [hsz]; omega) _ _ () X Y row h2 hgr hrow⟩
  · exact ⟨fun s X k h => hM.cells s X k h.1, fun s X Y row h hg hr => hM.back s X Y row h.1 hg fun r e => ⟨by have := (hr r e).1; rw [hsz] at this; omega, (hr r e).2⟩⟩
  · -- one round
    intro pre x X hX hpre hXs
    have hy := run_yield (P := P) (args := encs x) hX.2.1 (hps x)
    refine ⟨fn, _, assign, body, hy, roundIn_of_wpIn hfn (wpIn_mono (hround _ pre x X (by omega) ⟨_, hX.2.1⟩ hX.1 hpre) ?_)⟩
    rintro e a1 X1 hp
    cases e with
    | normal =>
      obtain ⟨k1, hbody⟩ := hp
      have i1 : I pre X1 := hI _ _ _ _ hX.1 k1 (fun r e => by cases e)
      have s1 : S .ready none X1 := ⟨(k1.block _ (Array.getElem?_eq_some_iff.1 hX.2.1).1 (by simp)).trans hX.2.1, (k1.block _ (Array.getElem?_eq_some_iff.1 hX.2.2).1 (by simp)).trans hX.2.2⟩
      have t1 : S .busy none (X1.putObj (w.heap.size + 1) (R .busy none)) := turn _ s1
      obtain ⟨X2, hX2⟩ : ∃ X2, X1.putObj (w.heap.size + 1) (R .busy none) = X2 := ⟨_, rfl⟩
      have g2 : X1.grownBy X2 (some (w.heap.size + 1)) := by rw [← hX2]; exact grownBy_putObj' _ _ _
      have rowc : ∀ r, some (w.heap.size + 1) = some r → w.heap.size ≤ r ∧ ∃ o : Obj, X1.heap[r]? = some o ∧ o.isCells = false := fun r e => by injection e with e; subst e; exact ⟨by omega, _, s1.1, rfl⟩
      have i2 : I pre X2 := hI _ _ _ _ i1 g2 rowc
      rw [hX2] at t1
      have hbk : ∀ k, Own pre X2 k → Own pre X k := fun k h => hM.back _ _ _ _ hX.1 k1 (fun r e => by cases e) k (hM.back _ _ _ _ i1 g2 rowc k h)
      have hrun := run_beginRound (P := P) s1.1 rfl
      refine ⟨_, hrun, ?_⟩
      have hX2' : X1.putObj (w.heap.size + 1) (.loop { state := .busy, pending := none, fn, tmps := a.tmps, params := ps, assign, body, defers := w.heap.size }) = X2 := hX2
      rw [hX2']
      refine wpIn_mono (hbody X2 g2 i2 ⟨_, s1.1⟩) ?_
      have ha : Hold W1.heap.size (Own pre X) X X2 := by
        refine (Hold.grown (own := Own pre X) k1 (fun r e => by cases e)).trans (Hold.grown g2 fun r e => ?_)
        injection e with e; subst e; left; rw [hsz]; omega
      -- a jump (or none) ends the round
      have fin : ∀ (jump : Option Code) (X3 : World), Hold w.heap.size (Own pre X2) X2 X3 → X3.heap[w.heap.size + 1]? = some (R .busy none) ∧
          (Instr.endRound (w.heap.size + 1) jump).run P X3 = .ok (.bool jump.isNone) (X3.putObj (w.heap.size + 1) (R (if jump.isNone then .ready else .done) jump)) ∧
          S (if jump.isNone then .ready else .done) jump (X3.putObj (w.heap.size + 1) (R (if jump.isNone then .ready else .done) jump)) ∧
          Hold W1.heap.size (Own pre X) X (X3.putObj (w.heap.size + 1) (R (if jump.isNone then .ready else .done) jump)) := fun jump X3 k3 => by
        have s3 : S .busy none X3 := keep t1 (fun k h => hM.cells _ _ k i2 h) k3
        refine ⟨s3.1, run_endRound (P := P) jump s3.1, turn _ s3, (ha.trans (k3.mono (by rw [hsz]; omega) hbk)).trans (Hold.grown (grownBy_putObj' _ _ _) fun r e => ?_)⟩
        injection e with e; subst e; left; rw [hsz]; omega
      rintro e a3 X3 hp
      cases e with
      | normal =>
        obtain ⟨k3, i3, o3⟩ := hp
        obtain ⟨f1, f2, f3, f4⟩ := fin none X3 k3
        refine ⟨_, _, f2, f4, .inl ⟨rfl, ⟨hI.putObj _ i3 (by omega) f1 rfl, f3⟩, fun k hk hB => ?_⟩⟩
        have h1 := hM.back _ _ _ _ i3 (grownBy_putObj' X3 (w.heap.size + 1) (R .ready none)) (fun r e => by injection e with e; subst e; exact ⟨by omega, _, f1, rfl⟩) k hk
        rcases o3 k h1 (by rw [hsz] at hB; omega) with h | h
        · exact .inl (hbk k h)
        · exact .inr (Nat.le_trans (Nat.le_trans k1.size g2.size) h)
      | ret =>
        obtain ⟨k3, i3⟩ := hp
        obtain ⟨f1, f2, f3, f4⟩ := fin (some .ret) X3 k3
        exact ⟨_, _, f2, f4, .inr ⟨rfl, .ret, (hIx _).putObj _ i3 (by omega) f1 rfl, f3⟩⟩
      | exit id =>
        obtain ⟨k3, i3⟩ := hp
        obtain ⟨f1, f2, f3, f4⟩ := fin (some (.exit id)) X3 k3
        exact ⟨_, _, f2, f4, .inr ⟨rfl, .exit id, (hIx _).putObj _ i3 (by omega) f1 rfl, f3⟩⟩
      | goto t => exact hp.elim
      | panic ch => exact hp.elim
      | outgrown => exact hp.elim
    | _ => exact hp.elim
  · -- behind the iterator
    rintro e X ⟨⟨v, rfl⟩, (⟨i, s⟩ | ⟨pre, hpre, c, i, s⟩)⟩
    · exact ⟨none, _, run_endLoop (P := P) s.1 (by simp), hdone _ _ (Nat.le_refl _) (hI.putObj _ i (by omega) s.1 rfl) (turn _ s).2⟩
    · exact ⟨some c, _, run_endLoop (P := P) s.1 (by simp), hstop _ c pre _ (Nat.le_refl _) hpre ((hIx c).putObj _ i (by omega) s.1 rfl) (turn _ s).2⟩

/-! What an iterator that holds ranges itself carries along: its caller's word, boxes of its own, marks -/
abbrev mk (D : Nat) : Deferred := { target := .collected D, args := #[] }
structure Has (B : Nat) (J : List α → World → Prop) (Own : List α → World → Nat → Prop) (bs : List (Nat × Obj)) (Ds : List Nat) (s : List α) (X : World) : Prop where
  j : J s X
  box : ∀ p ∈ bs, B ≤ p.1 ∧ X.heap[p.1]? = some p.2 ∧ ¬ Own s X p.1
  mark : ∀ D ∈ Ds, B ≤ D ∧ X.heap[D]? = some (.deferred (some []))
  size : B ≤ X.heap.size
theorem get_lt {X : World} {k : Nat} {o : Obj} (h : X.heap[k]? = some o) : k < X.heap.size := (Array.getElem?_eq_some_iff.1 h).1
theorem Has.own {B B' : Nat} {J : List α → World → Prop} {Own : List α → World → Nat → Prop} {bs : List (Nat × Obj)} {Ds : List Nat} (hJ : OwnFrom B J) (hM : Mine B J Own) (hB : B ≤ B') (d : List α) (hb : ∀ p ∈ bs, p.1 < B') (hD : ∀ D ∈ Ds, D < B') :
    OwnFrom B' (fun pre X => Has B J Own bs Ds (d ++ pre) X) := fun s X Y row h hg hr => by
  have hr' : ∀ r, row = some r → B ≤ r ∧ ∃ o : Obj, X.heap[r]? = some o ∧ o.isCells = false := fun r e => ⟨Nat.le_trans hB (hr r e).1, (hr r e).2⟩
  refine ⟨hJ _ _ _ _ h.j hg hr', fun p hp => ?_, fun D hp => ?_, Nat.le_trans h.size hg.size⟩
  · obtain ⟨h1, h2, h3⟩ := h.box p hp
    exact ⟨h1, (hg.block _ (get_lt h2) fun e => by have := (hr _ e.symm).1; have := hb p hp; omega).trans h2, fun a => h3 (hM.back _ _ _ _ h.j hg hr' _ a)⟩
  · obtain ⟨h1, h2⟩ := h.mark D hp
    exact ⟨h1, (hg.block _ (get_lt h2) fun e => by have := (hr _ e.symm).1; have := hD D hp; omega).trans h2⟩
theorem Has.step {B : Nat} {J : List α → World → Prop} {Own : List α → World → Nat → Prop} {bs : List (Nat × Obj)} {Ds : List Nat} {s : List α} {X Y : World} (h : Has B J Own bs Ds s X) (hJ : OwnFrom B J) (hM : Mine B J Own) (hg : X.grownBy Y none) : Has B J Own bs Ds s Y :=
  ⟨hJ _ _ _ _ h.j hg (fun r e => by cases e), fun p hp => ⟨(h.box p hp).1, (hg.block _ (get_lt (h.box p hp).2.1) (by simp)).trans (h.box p hp).2.1, fun a => (h.box p hp).2.2 (hM.back _ _ _ _ h.j hg (fun r e => by cases e) _ a)⟩,
   fun D hp => ⟨(h.mark D hp).1, (hg.block _ (get_lt (h.mark D hp).2) (by simp)).trans (h.mark D hp).2⟩, Nat.le_trans h.size hg.size⟩
/-- one box more, just laid -/
theorem Has.lay {B : Nat} {J : List α → World → Prop} {Own : List α → World → Nat → Prop} {bs : List (Nat × Obj)} {Ds : List Nat} {s : List α} {X : World} (h : Has B J Own bs Ds s X) (hJ : OwnFrom B J) (hM : Mine B J Own) (o : Obj) : Has B J Own ((X.heap.size, o) :: bs) Ds s (X.alloc o) := by
  have g : X.grownBy (X.alloc o) none := World.grownBy_alloc X o none
  have h2 := h.step hJ hM g
  refine ⟨h2.j, fun p hp => ?_, h2.mark, h2.size⟩
  rcases List.mem_cons.1 hp with rfl | hp
  · refine ⟨h.size, World.alloc_heap_new X o, fun a => ?_⟩
    obtain ⟨c, t, fr, e⟩ := hM.cells _ _ _ h.j (hM.back _ _ _ _ h.j g (fun r e => by cases e) _ a)
    have := get_lt e
    omega
  · exact h2.box p hp
theorem Has.round {B : Nat} {J : List α → World → Prop} {Own : List α → World → Nat → Prop} {bs : List (Nat × Obj)} {Ds : List Nat} {s : List α} {x : α} {X Y : World} (h : Has B J Own bs Ds s X) (hM : Mine B J Own) (hh : Hold B (Own s X) X Y) (hj : J (s ++ [x]) Y) (ho : ∀ k, Own (s ++ [x]) Y k → B ≤ k → Own s X k ∨ X.heap.size ≤ k) : Has B J Own bs Ds (s ++ [x]) Y := by
  refine ⟨hj, fun p hp => ?_, fun D hp => ?_, Nat.le_trans h.size hh.1⟩
  · obtain ⟨h1, h2, h3⟩ := h.box p hp
    refine ⟨h1, (hh.2 _ h1 (get_lt h2) h3).trans h2, fun a => ?_⟩
    rcases ho _ a h1 with b | b
    · exact h3 b
    · have := get_lt h2; omega
  · obtain ⟨h1, h2⟩ := h.mark D hp
    refine ⟨h1, (hh.2 _ h1 (get_lt h2) fun a => ?_).trans h2⟩
    obtain ⟨c, t, fr, e⟩ := hM.cells _ _ _ h.j a
    rw [h2] at e; cases e
theorem Has.marks {B : Nat} {J : List α → World → Prop} {Own : List α → World → Nat → Prop} {bs : List (Nat × Obj)} {Ds : List Nat} {s : List α} {X Y : World} (h : Has B J Own bs Ds s X) (hM : Mine B J Own) (hh : Hold B (Own s X) X Y) : ∀ D ∈ Ds, B ≤ D ∧ Y.heap[D]? = some (.deferred (some [])) := fun D hp => by
  obtain ⟨h1, h2⟩ := h.mark D hp
  refine ⟨h1, (hh.2 _ h1 (get_lt h2) fun a => ?_).trans h2⟩
  obtain ⟨c, t, fr, e⟩ := hM.cells _ _ _ h.j a
  rw [h2] at e; cases e
/-- a function leaves through its marks -/
theorem leaves_marks {fn : Func} {tmps : Array Value} {R : Ending → World → Prop} {B : Nat} (S : World → Prop) (hS : ∀ D Y, B ≤ D → S Y → Y.heap[D]? = some (.deferred (some [])) → S (Y.putObj D (.deferred none)))
    (hend : ∀ Y, S Y → ∃ v, (results fn tmps).run P Y = .ok v Y ∧ R (.returned v) Y) : ∀ (Ds : List Nat), Ds.Nodup → ∀ X, S X → (∀ D ∈ Ds, B ≤ D ∧ X.heap[D]? = some (.deferred (some []))) → LeavesInM Fence.wide 0 P fn tmps R (Ds.map mk) .returning X
  | [], _, X, hX, _ => hend X hX
  | D :: Ds, hn, X, hX, hm => by
    have h1 := hm D (List.mem_cons_self ..)
    have hn' := List.nodup_cons.1 hn
    refine ⟨by simp, .inl ⟨D, _, rfl, run_takeDeferred h1.2, ?_⟩⟩
    refine leaves_marks S hS hend Ds hn'.2 _ (hS D X h1.1 hX h1.2) fun D' h' => ?_
    have h2 := hm D' (List.mem_cons_of_mem _ h')
    exact ⟨h2.1, (World.putObj_heap_other (fun e => hn'.1 (by subst e; exact h'))).trans h2.2⟩
end Go.Proofs.Ytkklppjimnkibaa.It

/-
  A range over a function whose elements are known by what they keep alone: an iterator's promise where what it yields lies in blocks that it lays itself.
-/
import Derived.Test.YtdjiblgnealmkaaIt
namespace Go.Proofs.Ytdjiblgnealmkaa.ItG
open Go.RowKit Go.Shelf Rd Go.Proofs.Ytdjiblgnealmkaa.Row It
set_option linter.unusedVariables false
set_option linter.unusedSimpArgs false
variable {P : Program} {α : Type}
/-- gf, given a yield and lb, yields elements, one by one, till it is told to stop: those yielded are ok, each is as G says when it is yielded; when it ends of itself, they are all (fin) -/
def SeqG (P : Program) (gf : Nat) (lb : Array Value) (encs : α → Array Value) (ok fin : List α → Prop) (G : α → World → Prop) (K : World → Prop) : Prop :=
  ∀ (l : Nat) (J Jx : List α → World → Prop) (Own : World → Nat → Prop) (W : World), OwnFrom W.heap.size J → OwnFrom W.heap.size Jx → Mine W.heap.size J (fun _ => Own) → (∀ s X, J s X → K X) →
    (∀ pre x X, J pre X → ok (pre ++ [x]) → G x X → W.heap.size ≤ X.heap.size → YieldAt Fence.wide 0 P l (encs x) X fun e X' =>
      Hold W.heap.size (Own X) X X' ∧ ((e = .returned (.bool true) ∧ J (pre ++ [x]) X' ∧ ∀ k, Own X' k → W.heap.size ≤ k → Own X k ∨ X.heap.size ≤ k) ∨ (e = .returned (.bool false) ∧ Jx (pre ++ [x]) X'))) →
    J [] W → Calls P gf (#[.func (.yield l) #[] #[]] ++ lb) W fun e X' => (∃ v, e = .returned v) ∧ ((∃ xs, fin xs ∧ J xs X') ∨ ∃ pre, ok pre ∧ Jx pre X')
/-- the law for the caller of such an iterator, outside of any round -/
theorem range_seqG {g : Operand} {ps : Array Tmp} {assign body : Code} {Q : Exit → Act → World → Prop} {a : Act} {w : World} {gf : Nat} {lb : Array Value}
    (hg : a.eval g = .func (.func gf) #[] lb) (eg : ∀ args w, (callFunc gf args).run P w = .ok (.enter gf args) w)
    {encs : α → Array Value} {ok fin : List α → Prop} {G : α → World → Prop} {K : World → Prop} (hseq : SeqG P gf lb encs ok fin G K) (hps : ∀ x, (encs x).size = ps.size)
    (I : List α → World → Prop) (Ix : Code → List α → World → Prop) (Own0 : World → Nat → Prop) (hI : OwnFrom w.heap.size I) (hIx : ∀ c, OwnFrom w.heap.size (Ix c)) (hM : Mine w.heap.size I (fun _ => Own0)) (hK : ∀ s X, I s X → K X) (h0 : I [] w)
    (hround : ∀ (l : Nat) (pre : List α) (x : α) (X : World), w.heap.size ≤ l → (∃ r, X.heap[l]? = some (.loop r)) → I pre X → ok (pre ++ [x]) → G x X →
      assign.wpIn (Fence.wide.inRound l) 0 P (Exit.then (fun a1 X1 => X.grownBy X1 none ∧ ∀ X2, X1.grownBy X2 (some l) → I pre X2 → (∃ r, X1.heap[l]? = some (.loop r)) → body.wpIn (Fence.wide.inRound l) 0 P (It.Ends w.heap.size I Ix (fun _ => Own0) pre x X2) a1 X2) (fun _ _ _ => False))
        { tmps := (ps.zip (encs x)).foldl (fun t (p, v) => t.setIfInBounds p v) a.tmps, defers := [] } X)
    (hdone : ∀ (D : Nat) (xs : List α) (X : World), w.heap.size ≤ D → fin xs → I xs X → X.heap[D]? = some (.deferred (some [])) → Q .normal { a with defers := { target := .collected D, args := #[] } :: a.defers } X)
    (hstop : ∀ (D : Nat) (c : Code) (pre : List α) (X : World), w.heap.size ≤ D → ok pre → Ix c pre X → X.heap[D]? = some (.deferred (some [])) → c.wpIn Fence.wide 0 P Q { a with defers := { target := .collected D, args := #[] } :: a.defers } X) :
    (Code.rangeFunc g ps assign body).wpIn Fence.wide 0 P Q a w := by
  let Own : List α → World → Nat → Prop := fun _ => Own0
  refine wpIn_rangeFunc fun fn hfn => ?_
  -- the loop's record in each of its states; its place and the mark's
  let R : LoopState → Option Code → Obj := fun st pe => .loop { state := st, pending := pe, fn, tmps := a.tmps, params := ps, assign, body, defers := w.heap.size }
  have hL : w.heap.size + 1 = (w.alloc (.deferred (some []))).heap.size := by simp
  let S : LoopState → Option Code → World → Prop := fun st pe X => X.heap[w.heap.size + 1]? = some (R st pe) ∧ X.heap[w.heap.size]? = some (.deferred (some []))
  have hS0 : S .ready none ((w.alloc (.deferred (some []))).alloc (R .ready none)) :=
    ⟨by rw [hL]; exact World.alloc_heap_new _ _, (Below.heap_alloc _ _ _ (by simp)).trans (World.alloc_heap_new w _)⟩
  -- the record is turned, the mark and all else lie
  have turn : ∀ {st pe X} (o : Obj), S st pe X → (X.putObj (w.heap.size + 1) o).heap[w.heap.size + 1]? = some o ∧ (X.putObj (w.heap.size + 1) o).heap[w.heap.size]? = some (.deferred (some [])) := fun o h =>
    ⟨World.putObj_heap_same (Array.getElem?_eq_some_iff.1 h.1).1, (World.putObj_heap_other (by omega)).trans h.2⟩
  have keep : ∀ {own : Nat → Prop} {st pe X Y}, S st pe X → (∀ k, own k → ∃ c t fr, X.heap[k]? = some (.cells c t fr)) → Hold w.heap.size own X Y → S st pe Y := fun {own st pe X Y} h hc k =>
    ⟨(k.2 _ (by omega) (Array.getElem?_eq_some_iff.1 h.1).1 (fun e => by obtain ⟨c, t, fr, e⟩ := hc _ e; rw [h.1] at e; cases e)).trans h.1,
     (k.2 _ (Nat.le_refl _) (Array.getElem?_eq_some_iff.1 h.2).1 (fun e => by obtain ⟨c, t, fr, e⟩ := hc _ e; rw [h.2] at e; cases e)).trans h.2⟩
  have ownS : ∀ {β : Type} (B : Nat) (hB : w.heap.size + 1 < B) st pe, OwnFrom B (fun (_ : β) X => S st pe X) := fun B hB st pe =>
    OwnFrom.and (ownFrom_at (by omega)) (ownFrom_at (by omega))
  obtain ⟨W1, hW1⟩ : ∃ W1, (w.alloc (.deferred (some []))).alloc (R .ready none) = W1 := ⟨_, rfl⟩
  refine ⟨w.heap.size + 1, [{ target := .collected w.heap.size, args := #[] }], W1, { target := .fn (.func gf) lb, args := #[.func (.yield (w.heap.size + 1)) #[] #[]] }, W1, gf,
    #[.func (.yield (w.heap.size + 1)) #[] #[]] ++ lb, W1, ?_, ?_, fun _ _ => trivial, ?_, fun h => (by cases h), ?_⟩
  · rw [← hW1]; exact run_enterLoop_outer _ _ _ _ _
  · simp only [resolve, hg]
    simp [go_sem]
  · simp [invoke, go_sem, eg]
  have hsz : W1.heap.size = w.heap.size + 2 := by rw [← hW1]; simp
  have hI1 : I [] W1 := by rw [← hW1]; exact hI.alloc _ (hI.alloc _ h0)
  rw [hW1] at hS0
  refine callsIn_wide.2 ((hseq (w.heap.size + 1) (fun s X => I s X ∧ S .ready none X) (fun s X => ∃ c, Ix c s X ∧ S .done (some c) X) Own0 W1 ?_ ?_ ?_ (fun s X h => hK s X h.1) ?_ ⟨hI1, hS0⟩).mono ?_)
  · exact OwnFrom.and (ownFrom_mono hI (by rw [hsz]; omega)) (ownS _ (by rw [hsz]; omega) _ _)
  · intro s X Y row ⟨c, h1, h2⟩ hgr hrow
    exact ⟨c, ownFrom_mono (hIx c) (by rw [hsz]; omega) s X Y row h1 hgr hrow, ownS (β := Unit) _ (by rw [hsz]; omega) _ _ () X Y row h2 hgr hrow⟩
  · exact ⟨fun s X k h => hM.cells s X k h.1, fun s X Y row h hg hr => hM.back s X Y row h.1 hg fun r e => ⟨by have := (hr r e).1; rw [hsz] at this; omega, (hr r e).2⟩⟩
  · -- one round
    intro pre x X hX hpre hG hXs
    have hy := run_yield (P := P) (args := encs x) hX.2.1 (hps x)
    refine ⟨fn, _, assign, body, hy, roundIn_of_wpIn hfn (wpIn_mono (hround _ pre x X (by omega) ⟨_, hX.2.1⟩ hX.1 hpre hG) ?_)⟩
    rintro e a1 X1 hp
    cases e with
    | normal =>
      obtain ⟨k1, hbody⟩ := hp
      have i1 : I pre X1 := hI _ _ _ _ hX.1 k1 (fun r e => by cases e)
      have s1 : S .ready none X1 := ⟨(k1.block _ (Array.getElem?_eq_some_iff.1 hX.2.1).1 (by simp)).trans hX.2.1, (k1.block _ (Array.getElem?_eq_some_iff.1 hX.2.2).1 (by simp)).trans hX.2.2⟩
      have t1 : S .busy none (X1.putObj (w.heap.size + 1) (R .busy none)) := turn _ s1
      obtain ⟨X2, hX2⟩ : ∃ X2, X1.putObj (w.heap.size + 1) (R .busy none) = X2 := ⟨_, rfl⟩
      have g2 : X1.grownBy X2 (some (w.heap.size + 1)) := by rw [← hX2]; exact grownBy_putObj' _ _ _
      have rowc : ∀ r, some (w.heap.size + 1) = some r → w.heap.size ≤ r ∧ ∃ o : Obj, X1.heap[r]? = some o ∧ o.isCells = false := fun r e => by injection e with e; subst e; exact ⟨by omega, _, s1.1, rfl⟩
      have i2 : I pre X2 := hI _ _ _ _ i1 g2 rowc
      rw [hX2] at t1
      have hbk : ∀ k, Own pre X2 k → Own pre X k := fun k h => hM.back _ _ _ _ hX.1 k1 (fun r e => by cases e) k (hM.back _ _ _ _ i1 g2 rowc k h)
      have hrun := run_beginRound (P := P) s1.1 rfl
      refine ⟨_, hrun, ?_⟩
      have hX2' : X1.putObj (w.heap.size + 1) (.loop { state := .busy, pending := none, fn, tmps := a.tmps, params := ps, assign, body, defers := w.heap.size }) = X2 := hX2
      rw [hX2']
      refine wpIn_mono (hbody X2 g2 i2 ⟨_, s1.1⟩) ?_
      have ha : Hold W1.heap.size (Own pre X) X X2 := by
        refine (Hold.grown (own := Own pre X) k1 (fun r e => by cases e)).trans (Hold.grown g2 fun r e => ?_)
        injection e with e; subst e; left; rw [hsz]; omega
      -- a jump (or none) ends the round
      have fin : ∀ (jump : Option Code) (X3 : World), Hold w.heap.size (Own pre X2) X2 X3 → X3.heap[w.heap.size + 1]? = some (R .busy none) ∧
          (Instr.endRound (w.heap.size + 1) jump).run P X3 = .ok (.bool jump.isNone) (X3.putObj (w.heap.size + 1) (R (if jump.isNone then .ready else .done) jump)) ∧
          S (if jump.isNone then .ready else .done) jump (X3.putObj (w.heap.size + 1) (R (if jump.isNone then .ready else .done) jump)) ∧
          Hold W1.heap.size (Own pre X) X (X3.putObj (w.heap.size + 1) (R (if jump.isNone then .ready else .done) jump)) := fun jump X3 k3 => by
        have s3 : S .busy none X3 := keep t1 (fun k h => hM.cells _ _ k i2 h) k3
        refine ⟨s3.1, run_endRound (P := P) jump s3.1, turn _ s3, (ha.trans (k3.mono (by rw [hsz]; omega) hbk)).trans (Hold.grown (grownBy_putObj' _ _ _) fun r e => ?_)⟩
        injection e with e; subst e; left; rw [hsz]; omega
      rintro e a3 X3 hp
      cases e with
      | normal =>
        obtain ⟨k3, i3, o3⟩ := hp
        obtain ⟨f1, f2, f3, f4⟩ := fin none X3 k3
        refine ⟨_, _, f2, f4, .inl ⟨rfl, ⟨hI.putObj _ i3 (by omega) f1 rfl, f3⟩, fun k hk hB => ?_⟩⟩
        have h1 := hM.back _ _ _ _ i3 (grownBy_putObj' X3 (w.heap.size + 1) (R .ready none)) (fun r e => by injection e with e; subst e; exact ⟨by omega, _, f1, rfl⟩) k hk
        rcases o3 k h1 (by rw [hsz] at hB; omega) with h | h
        · exact .inl (hbk k h)
        · exact .inr (Nat.le_trans (Nat.le_trans k1.size g2.size) h)
      | ret =>
        obtain ⟨k3, i3⟩ := hp
        obtain ⟨f1, f2, f3, f4⟩ := fin (some .ret) X3 k3
        exact ⟨_, _, f2, f4, .inr ⟨rfl, .ret, (hIx _).putObj _ i3 (by omega) f1 rfl, f3⟩⟩
      | exit id =>
        obtain ⟨k3, i3⟩ := hp
        obtain ⟨f1, f2, f3, f4⟩ := fin (some (.exit id)) X3 k3
        exact ⟨_, _, f2, f4, .inr ⟨rfl, .exit id, (hIx _).putObj _ i3 (by omega) f1 rfl, f3⟩⟩
      | goto t => exact hp.elim
      | panic ch => exact hp.elim
      | outgrown => exact hp.elim
    | _ => exact hp.elim
  · -- behind the iterator
    rintro e X ⟨⟨v, rfl⟩, (⟨xs, hfin, i, s⟩ | ⟨pre, hpre, c, i, s⟩)⟩
    · exact ⟨none, _, run_endLoop (P := P) s.1 (by simp), hdone _ xs _ (Nat.le_refl _) hfin (hI.putObj _ i (by omega) s.1 rfl) (turn _ s).2⟩
    · exact ⟨some c, _, run_endLoop (P := P) s.1 (by simp), hstop _ c pre _ (Nat.le_refl _) hpre ((hIx c).putObj _ i (by omega) s.1 rfl) (turn _ s).2⟩

end Go.Proofs.Ytdjiblgnealmkaa.ItG

/-
  A region that draws its order, whose operations read, call what lays blocks alone, or lay blocks of their own: what each yields is said by a predicate that new blocks leave true.
-/
import Derived.Test.YtkklppjimnkibaaRegInv
import Derived.Test.YtkklppjimnkibaaAlc
namespace Go.Proofs.Ytkklppjimnkibaa.Pred
open Go.RowKit Reg Alc
set_option linter.unusedVariables false
set_option linter.unusedSimpArgs false

/-- what an operation of such a region may do: below block B nothing turns; each other block keeps its cells (its mark may turn) -/
def Ext (B : Nat) (w w' : World) : Prop := Below B w w' ∧ ∀ (k : Nat) (c : Array Value) (t : TypeId) (fr : Nat × Nat), w.heap[k]? = some (.cells c t fr) → ∃ fr', w'.heap[k]? = some (.cells c t fr')
theorem ext_refl (B : Nat) (w : World) : Ext B w w := ⟨Below.refl _ _, fun k c t fr h => ⟨fr, h⟩⟩
theorem ext_below {B : Nat} {w w' : World} (h : Below w.heap.size w w') (hB : B ≤ w.heap.size) : Ext B w w' := by
  refine ⟨h.mono hB, fun k c t fr hk => ⟨fr, ?_⟩⟩
  have hlt : k < w.heap.size := by
    rcases Nat.lt_or_ge k w.heap.size with h | h
    · exact h
    · rw [Array.getElem?_eq_none h] at hk; cases hk
  exact (h.block k hlt).trans hk

section
variable {P : Program} {W : World}
/-- '[]byte' of a constant: the row of the call's own is marked -/
theorem run_conv_own {w : World} {g n c : Nat} {t T e : TypeId} {C : Array Value} {fr : Nat × Nat} (ht : P.underlying t = some (.slice e)) (he : P.underlying e = some (.int .u8)) (hb : w.heap[g]? = some (.cells C T fr)) :
    ∃ w', (convert t t (.slice (some ⟨g, 0, none⟩) n c)).run P w = .ok (.slice (some ⟨g, 0, none⟩) n c) w' ∧ Ext g w w' := by
  have hsh : w.shape? g = some (T, C.size) := by unfold World.shape?; rw [hb]
  refine ⟨w.freeze ⟨g, C.size, none⟩ 1, ?_, ?_⟩
  · simp [convert, run_underlying ht, run_underlying he, markStringish, hsh]
  · have hh : (w.freeze ⟨g, C.size, none⟩ 1).heap = w.heap.modify g fun
        | .cells c elem (lo, hi) => .cells c elem (if lo == hi then (C.size, C.size + 1) else (min lo C.size, max hi (C.size + 1)))
        | o => o := by
      unfold World.freeze
      rw [if_neg (by decide)]
      rfl
    refine ⟨⟨?_, ?_, ?_, ?_, fun k hk => ?_⟩, fun k c t fr hk => ?_⟩
    · unfold World.freeze; rw [if_neg (by decide)]
    · unfold World.freeze; rw [if_neg (by decide)]
    · unfold World.freeze; rw [if_neg (by decide)]
    · rw [hh]; simp
    · rw [hh, Array.getElem?_modify, if_neg (by omega)]
    · rw [hh, Array.getElem?_modify]
      by_cases hg : g = k
      · subst hg
        rw [if_pos rfl, hk]
        obtain ⟨lo, hi⟩ := fr
        exact ⟨_, rfl⟩
      · rw [if_neg hg]; exact ⟨fr, hk⟩
/-- what an operation does in this state -/
def yields (P : Program) (ops : Array Oper) (o : Oper) (b : Act) (w : World) (R : Value → World → Prop) : Prop :=
  if Region.wanted o (yielded ops b.tmps) = true then
    match (execOp b.eval o).run P w with
    | .ok (.value u) w' => R u w'
    | .ok .skip w' => R undef w'
    | .ok (.enter f args) w' => Calls P f args w' fun e w'' => ∃ v, e = .returned v ∧ R v w''
    | _ => False
  else R undef w
theorem wpOp_of_yields {ops : Array Oper} {Q : Exit → Act → World → Prop} {i : Nat} {o : Oper} {b : Act} {w : World} {R : Value → World → Prop} {K : Act → World → Prop} (hi : ops[i]? = some o) (h : yields P ops o b w R) (hk : ∀ v w', R v w' → K (b.put o.dst v) w') : wpOp P ops Q i K b w := by
  unfold wpOp
  simp only [hi]
  unfold yields at h
  split
  · rename_i hw
    rw [if_pos hw] at h
    left
    unfold Oper.wp
    generalize (execOp b.eval o).run P w = r at h
    cases r with
    | ok nx w' =>
      cases nx <;> simp only at h <;> simp only [Oper.upon]
      · exact hk _ _ h
      · exact hk _ _ h
      all_goals first | exact h.mono (fun e w'' ⟨v, he, hr⟩ => by subst he; exact hk _ _ hr) | exact h.elim
    | halt x w' => exact h.elim
  · rename_i hw
    rw [if_neg hw] at h
    exact hk _ _ h

/-- the slots that operations fill -/
def dsts (ops : Array Oper) : List Nat := ops.toList.filterMap Oper.dst
/-- each reads a slot that another fills only if it waits for it; no two fill one -/
def predB (ops : Array Oper) (n : Nat) : Bool :=
  (List.range ops.size).all fun i => match ops[i]? with
    | some o => (List.range ops.size).all (fun k => match ops[k]? with
        | some o' => k == i || (match o'.dst with
          | some d => (match o.dst with | some d' => d != d' | none => true) && decide (d < n)
          | none => true)
        | none => true) && (match o.dst with | some d => decide (d < n) | none => true)
    | none => true

/-- what is asked of each operation: in whatever state in which what it waits for has come -/
def opOK (P : Program) (W : World) (a : Act) (ops : Array Oper) (V : Nat → Value → World → Prop) (i : Nat) (o : Oper) : Prop :=
  ∀ (b : Act) (w : World), Below W.heap.size W w → b.defers = a.defers → (∀ t, (dsts ops).contains t = false → b.tmps[t]?.getD undef = a.tmps[t]?.getD undef) →
    (∀ k o' d, ops[k]? = some o' → o'.dst = some d → waits .any ops ops.size i k = true → V k (b.tmps[d]?.getD undef) w) →
    yields P ops o b w fun v w' => Ext W.heap.size w w' ∧ V i v w'
def opsOK (P : Program) (W : World) (a : Act) (ops : Array Oper) (V : Nat → Value → World → Prop) : Nat → List Oper → Prop
  | _, [] => True
  | i, o :: os => opOK P W a ops V i o ∧ opsOK P W a ops V (i + 1) os
theorem opsOK_at {a : Act} {ops : Array Oper} {V : Nat → Value → World → Prop} : ∀ (l : List Oper) (i : Nat), opsOK P W a ops V i l → ∀ j o, l[j]? = some o → opOK P W a ops V (i + j) o
  | [], _, _, j, o, hj => by simp at hj
  | x :: l, i, h, 0, o, hj => by simp at hj; subst hj; exact h.1
  | x :: l, i, h, j + 1, o, hj => by
    have := opsOK_at l (i + 1) h.2 j o (by simpa using hj)
    rwa [show i + 1 + j = i + (j + 1) by omega] at this

/-- a way of few steps is a way: so that the kernel need not look at all ways -/
theorem waits_more {md : Region.Mode} {ops : Array Oper} {i : Nat} : ∀ (f n t : Nat), f ≤ n → waits md ops f t i = true → waits md ops n t i = true
  | 0, _, _, _, h => by simp [waits] at h
  | f + 1, 0, _, hn, _ => absurd hn (by omega)
  | f + 1, n + 1, t, hn, h => by
    rw [waits] at h ⊢
    cases ho : ops[t]? with
    | none => simp [ho] at h
    | some o =>
      simp only [ho] at h ⊢
      rw [Array.any_eq_true'] at h ⊢
      obtain ⟨e, he, h2⟩ := h
      rw [Bool.and_eq_true, Bool.or_eq_true] at h2
      refine ⟨e, he, ?_⟩
      rw [Bool.and_eq_true, Bool.or_eq_true]
      exact ⟨h2.1, h2.2.imp id (waits_more f n _ (by omega))⟩
theorem waits_near {md : Region.Mode} {ops : Array Oper} {n t i : Nat} (h : waits md ops 2 t i = true) (hn : Nat.ble 2 n = true) : waits md ops n t i = true := waits_more 2 n t (Nat.le_of_ble_eq_true hn) h

/-- where nothing may come up, all has come: each waits for what stands ahead of it alone -/
def backB (ops : Array Oper) : Bool := (List.range ops.size).all fun i => match ops[i]? with
  | some o => o.after.all fun e => !Region.binds .any e || decide (e.on < i)
  | none => true
theorem all_listed {ops : Array Oper} {listed : Array Bool} (hb : backB ops = true) (inv : Closed .any ops listed) (hr : Region.ready .any ops listed = []) : ∀ k, k < ops.size → listed.getD k false = true := by
  intro k
  induction k using Nat.strongRecOn with
  | _ k ih =>
    intro hk
    cases hl : listed.getD k false with
    | true => rfl
    | false =>
      exfalso
      have h0 : ops[k]? = some ops[k] := Array.getElem?_eq_getElem hk
      have : k ∈ Region.ready .any ops listed := by
        refine mem_ready.2 ⟨getD_in (by rw [inv.size]; exact hk) hl, ops[k], h0, fun e he hbd => ?_⟩
        have h1 := List.all_eq_true.1 hb k (List.mem_range.2 hk)
        rw [h0] at h1
        simp only [Array.all_eq_true_iff_forall_mem] at h1
        have h2 := h1 e he
        simp only [hbd, Bool.not_true, Bool.false_or, decide_eq_true_eq] at h2
        exact ih e.on h2 (by omega)
      rw [hr] at this
      cases this
theorem region_pred {id : Nat} {Q : Exit → Act → World → Prop} {a : Act} {l : List Oper} (V : Nat → Value → World → Prop) (hm : P.follows .mixedOrders = true) (hB : predB l.toArray a.tmps.size = true) (hK : backB l.toArray = true)
    (hst : ∀ i v w w', V i v w → Ext W.heap.size w w' → V i v w') (hop : opsOK P W a l.toArray V 0 l)
    (hend : ∀ (b : Act) (w : World), Below W.heap.size W w → b.defers = a.defers → b.tmps.size = a.tmps.size → (∀ t, t ∉ dsts l.toArray → b.tmps.getD t undef = a.tmps.getD t undef) → (∀ k o' d, l[k]? = some o' → o'.dst = some d → V k (b.tmps.getD d undef) w) → Q .normal b w) :
    (Code.region id l.toArray true).wp P Q a W := by
  have hC0 : Below W.heap.size W W.drew := ⟨rfl, rfl, rfl, Nat.le_refl _, fun _ _ => rfl⟩
  refine RegInv.region_inv hm (fun listed b w => Closed .any l.toArray listed ∧ Below W.heap.size W w ∧ b.defers = a.defers ∧ b.tmps.size = a.tmps.size ∧ (∀ t, t ∉ dsts l.toArray → b.tmps.getD t undef = a.tmps.getD t undef) ∧
    ∀ k o' d, l.toArray[k]? = some o' → o'.dst = some d → listed.getD k false = true → V k (b.tmps.getD d undef) w) ?_ ?_ ?_
  · refine ⟨⟨by simp, fun j oj _ hl => (by rw [getD_replicate_false] at hl; cases hl)⟩, hC0, rfl, rfl, fun t _ => rfl, fun k o' d _ _ hl => ?_⟩
    rw [getD_replicate_false] at hl
    cases hl
  · intro listed b w ⟨inv, hb, hd, hs, hn, hv⟩ hr
    refine hend b w hb hd hs hn fun k o' d hk hkd => hv k o' d (by simpa using hk) hkd ?_
    exact all_listed hK inv hr k (by simpa using (List.getElem?_eq_some_iff.1 hk).1)
  · intro listed b w i ⟨inv, hb, hd, hs, hn, hv⟩ hi
    obtain ⟨hun, o, ho, hall⟩ := mem_ready.1 hi
    have ho' : l[i]? = some o := by simpa using ho
    have hOK := opsOK_at l 0 hop i o ho'
    rw [Nat.zero_add] at hOK
    have hy := hOK b w hb hd (fun t ht => by simpa using hn t (by simpa using ht)) fun k o' d hk hkd hwt => by simpa using hv k o' d hk hkd (waits_spec inv l.toArray.size i hwt fun o2 ho2 => by rw [ho] at ho2; cases ho2; exact hall)
    refine wpOp_of_yields ho hy fun v w' ⟨hw', hV⟩ => ?_
    have hsz : ∀ d, o.dst = some d → d < a.tmps.size := by
      intro d hod
      have h1 := List.all_eq_true.1 hB i (List.mem_range.2 (Array.getElem?_eq_some_iff.1 ho).1)
      rw [ho] at h1
      simp only [Bool.and_eq_true, hod, decide_eq_true_eq] at h1
      exact h1.2
    refine ⟨inv.set hi, hb.trans hw'.1, by cases o.dst <;> exact hd, by rw [put_size]; exact hs, fun t ht => ?_, fun k o' d hk hkd hl => ?_⟩
    · rw [put_other _ _ _ _ (fun e => ht (List.mem_filterMap.2 ⟨o, by simpa using List.mem_of_getElem? ho', e⟩))]
      exact hn t ht
    · by_cases hik : i = k
      · subst hik
        have : o' = o := Option.some.inj (hk.symm.trans ho)
        subst this
        rw [hkd, put_same _ _ _ (by rw [hs]; exact hsz d hkd)]
        exact hV
      · rw [getD_set_ne false hik] at hl
        have hne : o.dst ≠ some d := by
          intro e
          have h1 := List.all_eq_true.1 hB i (List.mem_range.2 (Array.getElem?_eq_some_iff.1 ho).1)
          rw [ho] at h1
          simp only [Bool.and_eq_true, List.all_eq_true, List.mem_range] at h1
          have h2 := h1.1 k (Array.getElem?_eq_some_iff.1 hk).1
          rw [hk] at h2
          simp only [hkd, e, Bool.or_eq_true, beq_iff_eq, Bool.and_eq_true, bne_self_eq_false] at h2
          rcases h2 with h2 | h2
          · exact hik h2.symm
          · simp at h2
        rw [put_other _ _ _ _ hne]
        exact hst k _ w w' (hv k o' d hk hkd hl) hw'

theorem wanted_none {ops : Array Oper} {o : Oper} {b : Act} (h : o.guard = none) : Region.wanted o (yielded ops b.tmps) = true := by simp [Region.wanted, h]
theorem wanted_at {ops : Array Oper} {o : Oper} {b : Act} {g d : Nat} {f x : Bool} (hg : o.guard = some (g, f)) (hd : (ops[g]?).bind (·.dst) = some d) (hx : b.tmps[d]?.getD undef = .bool x) : Region.wanted o (yielded ops b.tmps) = (x == f) := by
  have h1 : b.tmps[d]? = some (.bool x) := by
    cases h : b.tmps[d]? with
    | none => rw [h] at hx; simp [undef] at hx
    | some v => rw [h] at hx; simpa using hx
  simp [Region.wanted, hg, yielded, hd, h1]
/-- a guard that was itself not carried out -/
theorem wanted_un {ops : Array Oper} {o : Oper} {b : Act} {g d : Nat} {f : Bool} (hg : o.guard = some (g, f)) (hd : (ops[g]?).bind (·.dst) = some d) (hx : b.tmps[d]?.getD undef = undef) : Region.wanted o (yielded ops b.tmps) = false := by
  cases h : b.tmps[d]? with
  | none => simp [Region.wanted, hg, yielded, hd, h]
  | some v =>
    rw [h] at hx
    have e : v = undef := by simpa using hx
    subst e
    simp [Region.wanted, hg, yielded, hd, h, undef]
theorem yields_run {ops : Array Oper} {o : Oper} {b : Act} {w w' : World} {v : Value} {R : Value → World → Prop} (hw : Region.wanted o (yielded ops b.tmps) = true) (hr : (execOp b.eval o).run P w = .ok (.value v) w') (h : R v w') : yields P ops o b w R := by
  unfold yields; rw [if_pos hw, hr]; exact h
theorem yields_call {ops : Array Oper} {o : Oper} {b : Act} {w : World} {f : FuncId} {args : Array Value} {R : Value → World → Prop} (hw : Region.wanted o (yielded ops b.tmps) = true) (hr : (execOp b.eval o).run P w = .ok (.enter f args) w)
    (h : Calls P f args w fun e w'' => ∃ v, e = .returned v ∧ R v w'') : yields P ops o b w R := by
  unfold yields; rw [if_pos hw, hr]; exact h
theorem yields_not {ops : Array Oper} {o : Oper} {b : Act} {w : World} {R : Value → World → Prop} (hw : Region.wanted o (yielded ops b.tmps) = false) (h : R undef w) : yields P ops o b w R := by
  unfold yields; rw [if_neg (by rw [hw]; exact Bool.false_ne_true)]; exact h

/-- the frame behind: what each has yielded, in its slot -/
def putsF (v : Nat → Value) : Nat → List Oper → Act → Act
  | _, [], a => a
  | i, o :: os, a => putsF v (i + 1) os (a.put o.dst (v i))
theorem putsF_nil (v : Nat → Value) (i : Nat) (a : Act) : putsF v i [] a = a := rfl
theorem putsF_cons (v : Nat → Value) (i : Nat) (o : Oper) (os : List Oper) (a : Act) : putsF v i (o :: os) a = putsF v (i + 1) os (a.put o.dst (v i)) := rfl
theorem putsF_size (v : Nat → Value) : ∀ (l : List Oper) (i : Nat) (a : Act), (putsF v i l a).tmps.size = a.tmps.size
  | [], _, _ => rfl
  | o :: l, i, a => by rw [putsF_cons, putsF_size v l, put_size]
theorem putsF_defers (v : Nat → Value) : ∀ (l : List Oper) (i : Nat) (a : Act), (putsF v i l a).defers = a.defers
  | [], _, _ => rfl
  | o :: l, i, a => by rw [putsF_cons, putsF_defers v l]; cases o.dst <;> rfl
theorem putsF_at {v : Nat → Value} {b : Act} {t : Nat} : ∀ (l : List Oper) (i : Nat) (a : Act), (∀ k o, l[k]? = some o → o.dst = some t → v (i + k) = b.tmps.getD t undef) → (a.tmps.getD t undef = b.tmps.getD t undef ∨ ∃ o ∈ l, o.dst = some t) →
    t < a.tmps.size → (putsF v i l a).tmps.getD t undef = b.tmps.getD t undef
  | [], i, a, _, h, _ => by
    rcases h with h | ⟨o, ho, _⟩
    · exact h
    · cases ho
  | o :: l, i, a, hv, h, ht => by
    rw [putsF_cons]
    refine putsF_at l (i + 1) _ (fun k o' hk hd => by have := hv (k + 1) o' (by simpa using hk) hd; rwa [show i + (k + 1) = i + 1 + k by omega] at this) ?_ (by rw [put_size]; exact ht)
    by_cases hd : o.dst = some t
    · left
      rw [hd, put_same _ _ _ ht]
      have := hv 0 o (by simp) hd
      rwa [Nat.add_zero] at this
    · rcases h with h | ⟨o', ho', hd'⟩
      · left; rw [put_other _ _ _ _ hd]; exact h
      · right
        rcases List.mem_cons.1 ho' with rfl | h2
        · exact absurd hd' hd
        · exact ⟨o', h2, hd'⟩
theorem region_vals {id : Nat} {Q : Exit → Act → World → Prop} {a : Act} {l : List Oper} (V : Nat → Value → World → Prop) (hm : P.follows .mixedOrders = true) (hB : predB l.toArray a.tmps.size = true) (hK : backB l.toArray = true)
    (hst : ∀ i v w w', V i v w → Ext W.heap.size w w' → V i v w') (hop : opsOK P W a l.toArray V 0 l)
    (hend : ∀ (v : Nat → Value) (w : World), Below W.heap.size W w → (∀ k o' d, l[k]? = some o' → o'.dst = some d → V k (v k) w) → Q .normal (putsF v 0 l a) w) :
    (Code.region id l.toArray true).wp P Q a W := by
  refine region_pred V hm hB hK hst hop fun b w hw hd hs hn hv => ?_
  have key : b = putsF (fun k => match l[k]? with | some o => (match o.dst with | some d => b.tmps.getD d undef | none => undef) | none => undef) 0 l a := by
    have h1 : b.tmps = (putsF (fun k => match l[k]? with | some o => (match o.dst with | some d => b.tmps.getD d undef | none => undef) | none => undef) 0 l a).tmps := by
      apply Array.ext
      · rw [putsF_size, hs]
      · intro t ht1 ht2
        have h2 := putsF_at (b := b) (t := t) (v := fun k => match l[k]? with | some o => (match o.dst with | some d => b.tmps.getD d undef | none => undef) | none => undef) l 0 a (fun k o hk hdk => by simp only [Nat.zero_add, hk, hdk]) (by
          by_cases hdt : t ∈ dsts l.toArray
          · right
            obtain ⟨o, ho, he⟩ := List.mem_filterMap.1 hdt
            exact ⟨o, by simpa using ho, he⟩
          · left; exact (hn t hdt).symm) (by rw [← hs]; exact ht1)
        rw [Array.getD_eq_getD_getElem?, Array.getD_eq_getD_getElem?, Array.getElem?_eq_getElem ht1, Array.getElem?_eq_getElem ht2] at h2
        simpa using h2.symm
    have h2 := putsF_defers (fun k => match l[k]? with | some o => (match o.dst with | some d => b.tmps.getD d undef | none => undef) | none => undef) l 0 a
    obtain ⟨bt, bd⟩ := b
    simp only at h1 hd
    generalize putsF _ 0 l a = c at h1 h2
    obtain ⟨ct, cd⟩ := c
    simp only at h1 h2
    rw [h1, hd, ← h2]
  rw [key]
  refine hend _ w hw fun k o' d hk hkd => ?_
  simp only [hk, hkd]
  exact hv k o' d hk hkd

/-! What may be said of a value -/
def Stab (p : Value → World → Prop) : Prop := ∀ v w w' B, p v w → Ext B w w' → p v w'
def Is (x : Value) : Value → World → Prop := fun v _ => v = x
theorem is_stab (x : Value) : Stab (Is x) := fun _ _ _ _ h _ => h
def Of (l : List (Value → World → Prop)) (i : Nat) : Value → World → Prop := l.getD i fun _ _ => False
def Stabs : List (Value → World → Prop) → Prop
  | [] => True
  | p :: l => Stab p ∧ Stabs l
theorem of_stab {B : Nat} : ∀ {l : List (Value → World → Prop)}, Stabs l → ∀ i v w w', Of l i v w → Ext B w w' → Of l i v w'
  | [], _, i, v, w, w', h, _ => by simp [Of] at h
  | p :: l, hs, 0, v, w, w', h, hb => hs.1 v w w' B h hb
  | p :: l, hs, i + 1, v, w, w', h, hb => of_stab hs.2 i v w w' h hb
end
end Go.Proofs.Ytkklppjimnkibaa.Pred

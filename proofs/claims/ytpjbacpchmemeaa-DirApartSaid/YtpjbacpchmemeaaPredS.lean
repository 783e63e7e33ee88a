/-
  A region that draws its order, as XPred has it, in which blocks are laid and then stored to besides: one store to each.
-/
import Derived.Test.YtpjbacpchmemeaaPred
import Derived.Test.YtpjbacpchmemeaaRow
namespace Go.Proofs.Ytpjbacpchmemeaa.PredS
open Go.RowKit Rd Reg Alc Go.Proofs.Ytpjbacpchmemeaa.Row
open Go.Proofs.Ytpjbacpchmemeaa.Pred (yields wpOp_of_yields dsts predB waits_more waits_near backB all_listed wanted_none wanted_at yields_run yields_call yields_not putsF putsF_size putsF_defers putsF_at)
set_option linter.unusedVariables false
set_option linter.unusedSimpArgs false

/-- a block that is laid by operation m, and stored to by operation st: its type, its cells at first, its cells behind the store -/
structure Sto where
  m : Nat
  st : Nat
  T : TypeId
  Z : Array Value
  X : Array Value
/-- what any step may do: below block B nothing turns; blocks of other types keep their cells -/
def Step (B : Nat) (S : List Sto) (w w' : World) : Prop := Below B w w' ∧ ∀ (k : Nat) (c : Array Value) (t : TypeId) (fr : Nat × Nat), w.heap[k]? = some (.cells c t fr) → (∀ s ∈ S, s.T ≠ t) → ∃ fr', w'.heap[k]? = some (.cells c t fr')
/-- what an operation may do that is no store: blocks of these types stay besides -/
def Ext (B : Nat) (S : List Sto) (w w' : World) : Prop := Step B S w w' ∧ ∀ (k : Nat) (c : Array Value) (t : TypeId) (fr : Nat × Nat), w.heap[k]? = some (.cells c t fr) → (∃ s ∈ S, s.T = t) → w'.heap[k]? = some (.cells c t fr)
theorem ext_refl (B : Nat) (S : List Sto) (w : World) : Ext B S w w := ⟨⟨Below.refl _ _, fun k c t fr h _ => ⟨fr, h⟩⟩, fun k c t fr h _ => h⟩
theorem heap_lt {w : World} {k : Nat} {o : Obj} (hk : w.heap[k]? = some o) : k < w.heap.size := by
  rcases Nat.lt_or_ge k w.heap.size with h | h
  · exact h
  · rw [Array.getElem?_eq_none h] at hk; cases hk
theorem ext_below {B : Nat} {S : List Sto} {w w' : World} (h : Below w.heap.size w w') (hB : B ≤ w.heap.size) : Ext B S w w' :=
  ⟨⟨h.mono hB, fun k c t fr hk _ => ⟨fr, (h.block k (heap_lt hk)).trans hk⟩⟩, fun k c t fr hk _ => (h.block k (heap_lt hk)).trans hk⟩
theorem step_alloc {B : Nat} {S : List Sto} {w : World} (o : Obj) (hB : B ≤ w.heap.size) : Ext B S w (w.alloc o) := ext_below ((Below.refl _ _).alloc (Nat.le_refl _) _) hB

section
variable {P : Program} {W : World}
theorem run_conv_own {S : List Sto} {w : World} {B g n c : Nat} {t T e : TypeId} {C : Array Value} {fr : Nat × Nat} (ht : P.underlying t = some (.slice e)) (he : P.underlying e = some (.int .u8)) (hb : w.heap[g]? = some (.cells C T fr)) (hB : B ≤ g) (hT : ∀ s ∈ S, s.T ≠ T) :
    ∃ w', (convert t t (.slice (some ⟨g, 0, none⟩) n c)).run P w = .ok (.slice (some ⟨g, 0, none⟩) n c) w' ∧ Ext B S w w' ∧ ∃ fr', w'.heap[g]? = some (.cells C T fr') := by
  have hsh : w.shape? g = some (T, C.size) := by unfold World.shape?; rw [hb]
  have hh : (w.freeze ⟨g, C.size, none⟩ 1).heap = w.heap.modify g fun
      | .cells c elem (lo, hi) => .cells c elem (if lo == hi then (C.size, C.size + 1) else (min lo C.size, max hi (C.size + 1)))
      | o => o := by
    unfold World.freeze
    rw [if_neg (by decide)]
    rfl
  have hg : ∃ fr', (w.freeze ⟨g, C.size, none⟩ 1).heap[g]? = some (.cells C T fr') := by
    rw [hh, Array.getElem?_modify, if_pos rfl, hb]
    obtain ⟨lo, hi⟩ := fr
    exact ⟨_, rfl⟩
  have ho : ∀ k, k ≠ g → (w.freeze ⟨g, C.size, none⟩ 1).heap[k]? = w.heap[k]? := fun k hk => by rw [hh, Array.getElem?_modify, if_neg (Ne.symm hk)]
  refine ⟨w.freeze ⟨g, C.size, none⟩ 1, ?_, ⟨⟨⟨?_, ?_, ?_, ?_, fun k hk => ho k (by omega)⟩, fun k c t fr hk hne => ?_⟩, fun k c t fr hk hin => ?_⟩, hg⟩
  · simp [convert, run_underlying ht, run_underlying he, markStringish, hsh]
  · unfold World.freeze; rw [if_neg (by decide)]
  · unfold World.freeze; rw [if_neg (by decide)]
  · unfold World.freeze; rw [if_neg (by decide)]
  · rw [hh]; simp
  · by_cases hkg : k = g
    · subst hkg
      rw [hb] at hk
      cases hk
      exact hg
    · rw [ho k hkg]; exact ⟨fr, hk⟩
  · by_cases hkg : k = g
    · subst hkg
      rw [hb] at hk
      cases hk
      obtain ⟨s, hs, e⟩ := hin
      exact absurd e (hT s hs)
    · rw [ho k hkg]; exact hk

def allocs (S : List Sto) (i : Nat) : Bool := S.any fun s => s.m == i
def stores (S : List Sto) (i : Nat) : Bool := S.any fun s => s.st == i
def skip (S : List Sto) (i : Nat) : Bool := allocs S i || stores S i

def known (S : List Sto) (ops : Array Oper) (V : Nat → Value → World → Prop) (i : Nat) (b : Act) (w : World) : Prop :=
  ∀ k o' d, ops[k]? = some o' → o'.dst = some d → allocs S k = false → waits .any ops ops.size i k = true → V k (b.tmps[d]?.getD undef) w
def opOK (P : Program) (W : World) (S : List Sto) (a : Act) (ops : Array Oper) (V : Nat → Value → World → Prop) (i : Nat) (o : Oper) : Prop :=
  ∀ (b : Act) (w : World), Below W.heap.size W w → b.defers = a.defers → (∀ t, (dsts ops).contains t = false → b.tmps[t]?.getD undef = a.tmps[t]?.getD undef) →
    known S ops V i b w → yields P ops o b w fun v w' => Ext W.heap.size S w w' ∧ V i v w'
def opsOK (P : Program) (W : World) (S : List Sto) (a : Act) (ops : Array Oper) (V : Nat → Value → World → Prop) : Nat → List Oper → Prop
  | _, [] => True
  | i, o :: os => (skip S i = true ∨ opOK P W S a ops V i o) ∧ opsOK P W S a ops V (i + 1) os
theorem opsOK_at {S : List Sto} {a : Act} {ops : Array Oper} {V : Nat → Value → World → Prop} : ∀ (l : List Oper) (i : Nat), opsOK P W S a ops V i l → ∀ j o, l[j]? = some o → skip S (i + j) = true ∨ opOK P W S a ops V (i + j) o
  | [], _, _, j, o, hj => by simp at hj
  | x :: l, i, h, 0, o, hj => by simp at hj; subst hj; exact h.1
  | x :: l, i, h, j + 1, o, hj => by
    have := opsOK_at l (i + 1) h.2 j o (by simpa using hj)
    rwa [show i + 1 + j = i + (j + 1) by omega] at this
/-- what is asked of a block that is laid and stored to: d its pointer's slot -/
def stoOK (P : Program) (W : World) (S : List Sto) (a : Act) (ops : Array Oper) (V : Nat → Value → World → Prop) (s : Sto) : Prop :=
  ∃ o d o', ops[s.m]? = some o ∧ o.dst = some d ∧ d < a.tmps.size ∧ o.guard = none ∧ (∀ (ρ : Operand → Value) w, (execOp ρ o).run P w = .ok (.value (.pointer (some ⟨w.heap.size, 0, none⟩))) (w.alloc (.cells s.Z s.T))) ∧
    ops[s.st]? = some o' ∧ o'.dst = none ∧ waits .any ops ops.size s.st s.m = true ∧
    ∀ (b : Act) (w : World) (g : Nat), Below W.heap.size W w → (∀ t, (dsts ops).contains t = false → b.tmps[t]?.getD undef = a.tmps[t]?.getD undef) →
      known S ops V s.st b w → b.tmps[d]?.getD undef = .pointer (some ⟨g, 0, none⟩) → W.heap.size ≤ g → blk w g = some (.cells s.Z s.T (0, 0)) → yields P ops o' b w fun v w' => w' = w.setRow g s.X
def stosOK (P : Program) (W : World) (S : List Sto) (a : Act) (ops : Array Oper) (V : Nat → Value → World → Prop) : List Sto → Prop
  | [] => True
  | s :: l => stoOK P W S a ops V s ∧ stosOK P W S a ops V l
theorem stosOK_at {S : List Sto} {a : Act} {ops : Array Oper} {V : Nat → Value → World → Prop} : ∀ {l : List Sto}, stosOK P W S a ops V l → ∀ s ∈ l, stoOK P W S a ops V s
  | [], _, s, h => by cases h
  | x :: l, h, s, hs => by
    rcases List.mem_cons.1 hs with rfl | h2
    · exact h.1
    · exact stosOK_at h.2 s h2
/-- no two of one place -/
def apartB : List Sto → Bool
  | [] => true
  | s :: l => l.all (fun s' => s.m != s'.m && s.st != s'.st && s.m != s'.st && s.st != s'.m) && s.m != s.st && apartB l
theorem apartB_spec : ∀ {l : List Sto}, apartB l = true → ∀ s ∈ l, ∀ s' ∈ l, s.m ≠ s'.st ∧ (s.m = s'.m → s = s') ∧ (s.st = s'.st → s = s')
  | [], _, s, h => by cases h
  | x :: l, h, s, hs => fun s' hs' => by
    simp only [apartB, Bool.and_eq_true, List.all_eq_true, bne_iff_ne, ne_eq] at h
    obtain ⟨⟨h1, h2⟩, h3⟩ := h
    rcases List.mem_cons.1 hs with rfl | h4 <;> rcases List.mem_cons.1 hs' with rfl | h5
    · exact ⟨h2, fun _ => rfl, fun _ => rfl⟩
    · have := h1 s' h5
      exact ⟨this.1.2, fun e => absurd e this.1.1.1, fun e => absurd e this.1.1.2⟩
    · have := h1 s h4
      exact ⟨fun e => this.2 e.symm, fun e => absurd e.symm this.1.1.1, fun e => absurd e.symm this.1.1.2⟩
    · exact apartB_spec h3 s h4 s' h5

theorem blk_setRow (w : World) (g : Nat) (c c0 : Array Value) (t : TypeId) (fr : Nat × Nat) (h : blk w g = some (.cells c0 t fr)) : blk (w.setRow g c) g = some (.cells c t fr) := blk_setRow_of h c
theorem step_setRow {B : Nat} {S : List Sto} {w : World} {g : Nat} {c c0 : Array Value} {t : TypeId} {fr : Nat × Nat} (h : blk w g = some (.cells c0 t fr)) (hg : B ≤ g) (ht : ∃ s ∈ S, s.T = t) : Step B S w (w.setRow g c) := by
  refine ⟨below_setRow (Below.refl _ _) hg c, fun k c' t' fr' hk hne => ?_⟩
  by_cases hkg : k = g
  · subst hkg
    have h2 : w.heap[k]? = some (.cells c0 t fr) := h
    rw [hk] at h2
    cases h2
    obtain ⟨s, hs, e⟩ := ht
    exact absurd e (hne s hs)
  · exact ⟨fr', (heap_setRow_other w g k c hkg).trans hk⟩
theorem yields_skip {ops : Array Oper} {o : Oper} {b : Act} {w w' : World} {R : Value → World → Prop} (hw : Region.wanted o (yielded ops b.tmps) = true) (hr : (execOp b.eval o).run P w = .ok .skip w') (h : R undef w') : yields P ops o b w R := by
  unfold yields; rw [if_pos hw, hr]; exact h
theorem slot_lt {ops : Array Oper} {n i : Nat} {o : Oper} {d : Nat} (hB : predB ops n = true) (ho : ops[i]? = some o) (hd : o.dst = some d) : d < n := by
  have h1 := List.all_eq_true.1 hB i (List.mem_range.2 (Array.getElem?_eq_some_iff.1 ho).1)
  rw [ho] at h1
  simp only [Bool.and_eq_true, hd, decide_eq_true_eq] at h1
  exact h1.2
theorem slot_ne {ops : Array Oper} {n i k : Nat} {o o' : Oper} {d : Nat} (hB : predB ops n = true) (ho : ops[i]? = some o) (hk : ops[k]? = some o') (hkd : o'.dst = some d) (hik : i ≠ k) : o.dst ≠ some d := by
  intro e
  have h1 := List.all_eq_true.1 hB i (List.mem_range.2 (Array.getElem?_eq_some_iff.1 ho).1)
  rw [ho] at h1
  simp only [Bool.and_eq_true, List.all_eq_true, List.mem_range] at h1
  have h2 := h1.1 k (Array.getElem?_eq_some_iff.1 hk).1
  rw [hk] at h2
  simp only [hkd, e, Bool.or_eq_true, beq_iff_eq, Bool.and_eq_true, bne_self_eq_false] at h2
  rcases h2 with h2 | h2
  · exact hik h2.symm
  · simp at h2
/-- what holds all the while -/
structure Inv (W : World) (S : List Sto) (a : Act) (ops : Array Oper) (V : Nat → Value → World → Prop) (listed : Array Bool) (b : Act) (w : World) : Prop where
  inv : Closed .any ops listed
  hb : Below W.heap.size W w
  hd : b.defers = a.defers
  hs : b.tmps.size = a.tmps.size
  hn : ∀ t, t ∉ dsts ops → b.tmps.getD t undef = a.tmps.getD t undef
  hv : ∀ k o' d, ops[k]? = some o' → o'.dst = some d → allocs S k = false → listed.getD k false = true → V k (b.tmps.getD d undef) w
  ha : ∀ s ∈ S, ∀ o d, ops[s.m]? = some o → o.dst = some d → listed.getD s.m false = true → ∃ g, b.tmps.getD d undef = .pointer (some ⟨g, 0, none⟩) ∧ W.heap.size ≤ g ∧ blk w g = some (.cells (if listed.getD s.st false = true then s.X else s.Z) s.T (0, 0))
  hne : ∀ s ∈ S, ∀ s' ∈ S, s.m ≠ s'.m → ∀ o d o' d', ops[s.m]? = some o → o.dst = some d → ops[s'.m]? = some o' → o'.dst = some d' → listed.getD s.m false = true → listed.getD s'.m false = true → b.tmps.getD d undef ≠ b.tmps.getD d' undef

theorem region_inv {id : Nat} {Q : Exit → Act → World → Prop} {a : Act} {l : List Oper} (S : List Sto) (V : Nat → Value → World → Prop) (hm : P.follows .mixedOrders = true) (hB : predB l.toArray a.tmps.size = true) (hK : backB l.toArray = true) (hA : apartB S = true)
    (hst : ∀ i v w w', V i v w → Step W.heap.size S w w' → V i v w') (hop : opsOK P W S a l.toArray V 0 l) (hso : stosOK P W S a l.toArray V S)
    (hend : ∀ (listed : Array Bool) (b : Act) (w : World), (∀ k, k < l.toArray.size → listed.getD k false = true) → Inv W S a l.toArray V listed b w → Q .normal b w) :
    (Code.region id l.toArray true).wp P Q a W := by
  refine RegInv.region_inv hm (Inv W S a l.toArray V) ?_ ?_ ?_
  · refine ⟨⟨by simp, fun j oj _ hl => (by rw [getD_replicate_false] at hl; cases hl)⟩, ⟨rfl, rfl, rfl, Nat.le_refl _, fun _ _ => rfl⟩, rfl, rfl, fun t _ => rfl, fun k o' d _ _ _ hl => ?_, fun s _ o d _ _ hl => ?_, fun s _ s' _ _ o d o' d' _ _ _ _ hl _ => ?_⟩
    all_goals (rw [getD_replicate_false] at hl; cases hl)
  · intro listed b w h hr
    exact hend listed b w (all_listed hK h.inv hr) h
  · intro listed b w i h hi
    obtain ⟨hun, o, ho, hall⟩ := mem_ready.1 hi
    have ho' : l[i]? = some o := by simpa using ho
    have hun' : listed.getD i false = false := by
      cases hx : listed.getD i false with
      | false => rfl
      | true =>
        have : i < listed.size := by
          rcases Nat.lt_or_ge i listed.size with h | h
          · exact h
          · simp [Array.getD, Nat.not_lt.2 h] at hx
        simp [this] at hun hx
        rw [hun] at hx; cases hx
    have hkn : known S l.toArray V i b w := fun k o' d hk hkd hka hwt => by
      simpa using h.hv k o' d hk hkd hka (waits_spec h.inv l.toArray.size i hwt fun o2 ho2 => by rw [ho] at ho2; cases ho2; exact hall)
    have hn' : ∀ t, (dsts l.toArray).contains t = false → b.tmps[t]?.getD undef = a.tmps[t]?.getD undef := fun t ht => by simpa using h.hn t (by simpa using ht)
    have hput : ∀ v, (b.put o.dst v).defers = a.defers := fun v => by cases o.dst <;> exact h.hd
    have hpn : ∀ v, ∀ t, t ∉ dsts l.toArray → (b.put o.dst v).tmps.getD t undef = a.tmps.getD t undef := fun v t ht => by
      rw [put_other _ _ _ _ (fun e => ht (List.mem_filterMap.2 ⟨o, by simpa using List.mem_of_getElem? ho', e⟩))]
      exact h.hn t ht
    have hset : ∀ k, k ≠ i → (listed.setIfInBounds i true).getD k false = listed.getD k false := fun k hk => getD_set_ne false (Ne.symm hk)
    have hseti : ∀ k, (listed.setIfInBounds i true).getD k false = true → k = i ∨ listed.getD k false = true := fun k hk => by
      by_cases hki : k = i
      · exact .inl hki
      · rw [hset k hki] at hk; exact .inr hk
    by_cases hal : allocs S i = true
    · -- a block is laid
      obtain ⟨s, hs, hsi⟩ := List.any_eq_true.1 hal
      have hsi : s.m = i := by simpa using hsi
      obtain ⟨o1, d, o2, h1, h1d, h1l, h1g, hrun, h2, h2d, hw, -⟩ := stosOK_at hso s hs
      rw [hsi, ho] at h1
      cases h1
      have hnst : listed.getD s.st false = false := by
        cases hx : listed.getD s.st false with
        | false => rfl
        | true =>
          have := waits_spec h.inv _ _ hw fun oo hoo => h.inv.closed _ _ hoo hx
          rw [hsi, hun'] at this; cases this
      have hy : yields P l.toArray o b w fun v w' => v = .pointer (some ⟨w.heap.size, 0, none⟩) ∧ w' = w.alloc (.cells s.Z s.T) := yields_run (wanted_none h1g) (hrun _ _) ⟨rfl, rfl⟩
      refine wpOp_of_yields ho hy fun v w' ⟨hv', hw'⟩ => ?_
      subst hv'
      subst hw'
      have hext := step_alloc (B := W.heap.size) (S := S) (w := w) (.cells s.Z s.T) h.hb.size
      refine ⟨h.inv.set hi, h.hb.trans hext.1.1, hput _, by rw [put_size]; exact h.hs, hpn _, fun k o' d' hk hkd hka hl => ?_, fun s' hs' o' d' ho2 hd2 hl => ?_, fun s1 hs1 s2 hs2 hne12 oa da ob db hoa hda hob hdb hl1 hl2 => ?_⟩
      · have hki : k ≠ i := fun e => by rw [e, hal] at hka; cases hka
        rw [hset k hki] at hl
        rw [put_other _ _ _ _ (slot_ne hB ho hk hkd (Ne.symm hki))]
        exact hst k _ w _ (h.hv k o' d' hk hkd hka hl) hext.1
      · by_cases hsm : s'.m = i
        · obtain rfl : s' = s := (apartB_spec hA s' hs' s hs).2.1 (hsm.trans hsi.symm)
          rw [hsm, ho] at ho2
          cases ho2
          rw [h1d] at hd2
          cases hd2
          rw [h1d, put_same _ _ _ (by rw [h.hs]; exact h1l), hset _ (by rw [← hsi]; exact fun e => (apartB_spec hA s' hs' s' hs').1 e.symm), hnst]
          exact ⟨_, rfl, h.hb.size, blk_alloc_at _ _ _ rfl⟩
        · rw [hset _ hsm] at hl
          obtain ⟨g, hg1, hg2, hg3⟩ := h.ha s' hs' o' d' ho2 hd2 hl
          refine ⟨g, by rw [put_other _ _ _ _ (slot_ne hB ho ho2 hd2 (Ne.symm hsm))]; exact hg1, hg2, ?_⟩
          rw [hset _ (by rw [← hsi]; exact fun e => (apartB_spec hA s hs s' hs').1 e.symm), blk_alloc_old _ _ _ (blk_lt hg3)]
          exact hg3
      · have old : ∀ s' ∈ S, s'.m ≠ i → ∀ o' d', l.toArray[s'.m]? = some o' → o'.dst = some d' → (listed.setIfInBounds i true).getD s'.m false = true → (b.put o.dst (.pointer (some ⟨w.heap.size, 0, none⟩))).tmps.getD d' undef ≠ .pointer (some ⟨w.heap.size, 0, none⟩) := fun s' hs' hsm o' d' ho2 hd2 hl e => by
          rw [hset _ hsm] at hl
          obtain ⟨g, hg1, hg2, hg3⟩ := h.ha s' hs' o' d' ho2 hd2 hl
          rw [put_other _ _ _ _ (slot_ne hB ho ho2 hd2 (Ne.symm hsm)), hg1] at e
          have := blk_lt hg3
          cases e
          omega
        by_cases e1 : s1.m = i
        · have e2 : s2.m ≠ i := fun e => hne12 (e1.trans e.symm)
          rw [e1, ho] at hoa
          cases hoa
          rw [hda, put_same _ _ _ (by rw [h.hs]; exact slot_lt hB ho hda)]
          have := old s2 hs2 e2 ob db hob hdb hl2
          rw [hda] at this
          exact Ne.symm this
        · by_cases e2 : s2.m = i
          · rw [e2, ho] at hob
            cases hob
            have := old s1 hs1 e1 oa da hoa hda hl1
            rw [hdb] at this ⊢
            rw [put_same _ _ _ (by rw [h.hs]; exact slot_lt hB ho hdb)]
            exact this
          · rw [put_other _ _ _ _ (slot_ne hB ho hoa hda (Ne.symm e1)), put_other _ _ _ _ (slot_ne hB ho hob hdb (Ne.symm e2))]
            rw [hset _ e1] at hl1
            rw [hset _ e2] at hl2
            exact h.hne s1 hs1 s2 hs2 hne12 oa da ob db hoa hda hob hdb hl1 hl2
    · by_cases hsto : stores S i = true
      · -- a block is stored to
        obtain ⟨s, hs, hsi⟩ := List.any_eq_true.1 hsto
        have hsi : s.st = i := by simpa using hsi
        obtain ⟨o1, d, o2, h1, h1d, h1l, h1g, hrun, h2, h2d, hw, hy⟩ := stosOK_at hso s hs
        rw [hsi, ho] at h2
        cases h2
        have hlm : listed.getD s.m false = true := waits_spec h.inv _ _ hw fun oo hoo => by rw [hsi, ho] at hoo; cases hoo; exact hall
        obtain ⟨g, hg1, hg2, hg3⟩ := h.ha s hs o1 d h1 h1d hlm
        rw [hsi, hun', if_neg (by simp)] at hg3
        rw [hsi] at hy
        refine wpOp_of_yields ho (hy b w g h.hb hn' hkn (by simpa using hg1) hg2 hg3) fun v w' hw' => ?_
        subst hw'
        have hstep := step_setRow (S := S) (c := s.X) hg3 hg2 ⟨s, hs, rfl⟩
        have hpe : ∀ t, (b.put o.dst v).tmps.getD t undef = b.tmps.getD t undef := fun t => put_other _ _ _ _ (by rw [h2d]; simp)
        refine ⟨h.inv.set hi, h.hb.trans hstep.1, hput _, by rw [put_size]; exact h.hs, hpn _, fun k o' d' hk hkd hka hl => ?_, fun s' hs' o' d' ho2 hd2 hl => ?_, fun s1 hs1 s2 hs2 hne12 oa da ob db hoa hda hob hdb hl1 hl2 => ?_⟩
        · have hki : k ≠ i := fun e => by rw [e, ho] at hk; cases hk; rw [h2d] at hkd; cases hkd
          rw [hset k hki] at hl
          rw [hpe]
          exact hst k _ w _ (h.hv k o' d' hk hkd hka hl) hstep
        · have hmi : s'.m ≠ i := fun e => (apartB_spec hA s' hs' s hs).1 (e.trans hsi.symm)
          rw [hset _ hmi] at hl
          obtain ⟨g', hg1', hg2', hg3'⟩ := h.ha s' hs' o' d' ho2 hd2 hl
          refine ⟨g', by rw [hpe]; exact hg1', hg2', ?_⟩
          by_cases hss : s'.st = i
          · obtain rfl : s' = s := (apartB_spec hA s' hs' s hs).2.2 (hss.trans hsi.symm)
            rw [ho2] at h1
            cases h1
            rw [hd2] at h1d
            cases h1d
            rw [hg1'] at hg1
            cases hg1
            have hli : (listed.setIfInBounds i true).getD i false = true := by
              have : i < listed.size := by rw [h.inv.size]; exact (Array.getElem?_eq_some_iff.1 ho).1
              simp [this]
            rw [hss, if_pos hli]
            exact blk_setRow _ _ _ _ _ _ hg3
          · rw [hset _ hss, blk_setRow_other]
            · exact hg3'
            · intro e
              subst e
              refine h.hne s' hs' s hs (fun e => hss ?_) o' d' o1 d ho2 hd2 h1 h1d hl hlm (hg1'.trans hg1.symm)
              rw [(apartB_spec hA s' hs' s hs).2.1 e]; exact hsi
        · have e1 : s1.m ≠ i := fun e => (apartB_spec hA s1 hs1 s hs).1 (e.trans hsi.symm)
          have e2 : s2.m ≠ i := fun e => (apartB_spec hA s2 hs2 s hs).1 (e.trans hsi.symm)
          rw [hpe, hpe]
          rw [hset _ e1] at hl1
          rw [hset _ e2] at hl2
          exact h.hne s1 hs1 s2 hs2 hne12 oa da ob db hoa hda hob hdb hl1 hl2
      · -- any other
        have hOK := (opsOK_at l 0 hop i o ho').resolve_left (by simp only [Nat.zero_add, skip, Bool.or_eq_true, not_or]; exact ⟨hal, hsto⟩)
        rw [Nat.zero_add] at hOK
        have hy := hOK b w h.hb h.hd hn' hkn
        refine wpOp_of_yields ho hy fun v w' ⟨hw', hV⟩ => ?_
        have nm : ∀ s ∈ S, s.m ≠ i := fun s hs e => hal (List.any_eq_true.2 ⟨s, hs, by simp [e]⟩)
        have ns : ∀ s ∈ S, s.st ≠ i := fun s hs e => hsto (List.any_eq_true.2 ⟨s, hs, by simp [e]⟩)
        refine ⟨h.inv.set hi, h.hb.trans hw'.1.1, hput _, by rw [put_size]; exact h.hs, hpn _, fun k o' d' hk hkd hka hl => ?_, fun s' hs' o' d' ho2 hd2 hl => ?_, fun s1 hs1 s2 hs2 hne12 oa da ob db hoa hda hob hdb hl1 hl2 => ?_⟩
        · by_cases hik : k = i
          · subst hik
            have : o' = o := Option.some.inj (hk.symm.trans ho)
            subst this
            rw [hkd, put_same _ _ _ (by rw [h.hs]; exact slot_lt hB ho hkd)]
            exact hV
          · rw [hset k hik] at hl
            rw [put_other _ _ _ _ (slot_ne hB ho hk hkd (Ne.symm hik))]
            exact hst k _ w _ (h.hv k o' d' hk hkd hka hl) hw'.1
        · rw [hset _ (nm s' hs')] at hl
          obtain ⟨g, hg1, hg2, hg3⟩ := h.ha s' hs' o' d' ho2 hd2 hl
          refine ⟨g, by rw [put_other _ _ _ _ (slot_ne hB ho ho2 hd2 (Ne.symm (nm s' hs')))]; exact hg1, hg2, ?_⟩
          rw [hset _ (ns s' hs')]
          exact hw'.2 g _ _ _ hg3 ⟨s', hs', rfl⟩
        · rw [put_other _ _ _ _ (slot_ne hB ho hoa hda (Ne.symm (nm s1 hs1))), put_other _ _ _ _ (slot_ne hB ho hob hdb (Ne.symm (nm s2 hs2)))]
          rw [hset _ (nm s1 hs1)] at hl1
          rw [hset _ (nm s2 hs2)] at hl2
          exact h.hne s1 hs1 s2 hs2 hne12 oa da ob db hoa hda hob hdb hl1 hl2

/-- what stands behind the region of the blocks that were laid -/
def laid (W : World) (v : Nat → Value) (w : World) : List Sto → Prop
  | [] => True
  | s :: l => (∃ g, v s.m = .pointer (some ⟨g, 0, none⟩) ∧ W.heap.size ≤ g ∧ blk w g = some (.cells s.X s.T (0, 0)) ∧ ∀ s' ∈ l, v s'.m ≠ .pointer (some ⟨g, 0, none⟩)) ∧ laid W v w l
theorem laid_of {v : Nat → Value} {w : World} {W : World} : ∀ {l : List Sto}, apartB l = true → (∀ s ∈ l, ∃ g, v s.m = .pointer (some ⟨g, 0, none⟩) ∧ W.heap.size ≤ g ∧ blk w g = some (.cells s.X s.T (0, 0))) → (∀ s ∈ l, ∀ s' ∈ l, s.m ≠ s'.m → v s.m ≠ v s'.m) → laid W v w l
  | [], _, _, _ => trivial
  | s :: l, hA, h, hne => by
    simp only [apartB, Bool.and_eq_true, List.all_eq_true, bne_iff_ne, ne_eq] at hA
    obtain ⟨g, h1, h2, h3⟩ := h s (by simp)
    refine ⟨⟨g, h1, h2, h3, fun s' hs' e => ?_⟩, laid_of hA.2 (fun s' hs' => h s' (by simp [hs'])) fun s1 h1 s2 h2 => hne s1 (by simp [h1]) s2 (by simp [h2])⟩
    exact hne s (by simp) s' (by simp [hs']) (hA.1.1 s' hs').1.1.1 (h1.trans e.symm)

theorem region_vals {id : Nat} {Q : Exit → Act → World → Prop} {a : Act} {l : List Oper} (S : List Sto) (V : Nat → Value → World → Prop) (hm : P.follows .mixedOrders = true) (hB : predB l.toArray a.tmps.size = true) (hK : backB l.toArray = true) (hA : apartB S = true)
    (hst : ∀ i v w w', V i v w → Step W.heap.size S w w' → V i v w') (hop : opsOK P W S a l.toArray V 0 l) (hso : stosOK P W S a l.toArray V S)
    (hend : ∀ (v : Nat → Value) (w : World), Below W.heap.size W w → (∀ k o' d, l[k]? = some o' → o'.dst = some d → allocs S k = false → V k (v k) w) → laid W v w S → Q .normal (putsF v 0 l a) w) :
    (Code.region id l.toArray true).wp P Q a W := by
  refine region_inv S V hm hB hK hA hst hop hso fun listed b w hall h => ?_
  have hs := h.hs
  have hd := h.hd
  have key : b = putsF (fun k => match l[k]? with | some o => (match o.dst with | some d => b.tmps.getD d undef | none => undef) | none => undef) 0 l a := by
    have h1 : b.tmps = (putsF (fun k => match l[k]? with | some o => (match o.dst with | some d => b.tmps.getD d undef | none => undef) | none => undef) 0 l a).tmps := by
      apply Array.ext
      · rw [putsF_size, hs]
      · intro t ht1 ht2
        have h2 := putsF_at (b := b) (t := t) (v := fun k => match l[k]? with | some o => (match o.dst with | some d => b.tmps.getD d undef | none => undef) | none => undef) l 0 a (fun k o hk hdk => by simp only [Nat.zero_add, hk, hdk]) (by
          by_cases hdt : t ∈ dsts l.toArray
          · right
            obtain ⟨o, ho, he⟩ := List.mem_filterMap.1 hdt
            exact ⟨o, by simpa using ho, he⟩
          · left; exact (h.hn t hdt).symm) (by rw [← hs]; exact ht1)
        rw [Array.getD_eq_getD_getElem?, Array.getD_eq_getD_getElem?, Array.getElem?_eq_getElem ht1, Array.getElem?_eq_getElem ht2] at h2
        simpa using h2.symm
    have h2 := putsF_defers (fun k => match l[k]? with | some o => (match o.dst with | some d => b.tmps.getD d undef | none => undef) | none => undef) l 0 a
    clear h
    obtain ⟨bt, bd⟩ := b
    simp only at h1 hd
    generalize putsF _ 0 l a = c at h1 h2
    obtain ⟨ct, cd⟩ := c
    simp only at h1 h2
    rw [h1, hd, ← h2]
  have lst : ∀ (k : Nat) (o' : Oper), l.toArray[k]? = some o' → listed.getD k false = true := fun k o' hk => hall k (Array.getElem?_eq_some_iff.1 hk).1
  have vm : ∀ (k : Nat) (o : Oper) (d : Nat), l.toArray[k]? = some o → o.dst = some d → (match l[k]? with | some o => (match o.dst with | some d => b.tmps.getD d undef | none => undef) | none => undef) = b.tmps.getD d undef := fun k o d hk hd => by
    have hk' : l[k]? = some o := by simpa using hk
    simp only [hk', hd]
  rw [key]
  refine hend _ w h.hb (fun k o' d hk hkd hka => ?_) (laid_of hA (fun s hs => ?_) fun s hs s' hs' hne => ?_)
  · simp only [hk, hkd]
    exact h.hv k o' d (by simpa using hk) hkd hka (lst k o' (by simpa using hk))
  · obtain ⟨o, d, o2, h1, h1d, h1l, h1g, hrun, h2, -⟩ := stosOK_at hso s hs
    obtain ⟨g, e1, e2, e3⟩ := h.ha s hs o d h1 h1d (lst _ _ h1)
    rw [if_pos (lst _ _ h2)] at e3
    exact ⟨g, (vm _ _ _ h1 h1d).trans e1, e2, e3⟩
  · obtain ⟨o, d, -, h1, h1d, -⟩ := stosOK_at hso s hs
    obtain ⟨o2, d2, -, h2, h2d, -⟩ := stosOK_at hso s' hs'
    have := h.hne s hs s' hs' hne o d o2 d2 h1 h1d h2 h2d (lst _ _ h1) (lst _ _ h2)
    exact fun e => this ((vm _ _ _ h1 h1d).symm.trans (e.trans (vm _ _ _ h2 h2d)))

/-! What may be said of a value -/
def Stab (S : List Sto) (p : Value → World → Prop) : Prop := ∀ v w w' B, p v w → Step B S w w' → p v w'
def Is (x : Value) : Value → World → Prop := fun v _ => v = x
theorem is_stab {S : List Sto} (x : Value) : Stab S (Is x) := fun _ _ _ _ h _ => h
def Of (l : List (Value → World → Prop)) (i : Nat) : Value → World → Prop := l.getD i fun _ _ => False
def Stabs (S : List Sto) : List (Value → World → Prop) → Prop
  | [] => True
  | p :: l => Stab S p ∧ Stabs S l
theorem of_stab {S : List Sto} {B : Nat} : ∀ {l : List (Value → World → Prop)}, Stabs S l → ∀ i v w w', Of l i v w → Step B S w w' → Of l i v w'
  | [], _, i, v, w, w', h, _ => by simp [Of] at h
  | p :: l, hs, 0, v, w, w', h, hb => hs.1 v w w' B h hb
  | p :: l, hs, i + 1, v, w, w', h, hb => of_stab hs.2 i v w w' h hb
/-- a slice of the call's own, of these bytes -/
def Sl (B : Nat) (zs : List Int) (T : TypeId) : Value → World → Prop := fun v w => ∃ g cap, v = .slice (some ⟨g, 0, none⟩) zs.length cap ∧ (B ≤ g ∧ cap = zs.length) ∧ ∃ fr, blk w g = some (.cells (cs .u8 zs) T fr)
theorem sl_stab {S : List Sto} (B : Nat) (zs : List Int) (T : TypeId) (hT : ∀ s ∈ S, s.T ≠ T) : Stab S (Sl B zs T) := fun v w w' B' ⟨g, cap, h1, h0, fr, h2⟩ hb => by
  obtain ⟨fr', h3⟩ := hb.2 g _ _ _ h2 hT
  exact ⟨g, cap, h1, h0, fr', h3⟩
theorem reads_sl {w : World} {g : Nat} {zs : List Int} {T : TypeId} {fr : Nat × Nat} (h : blk w g = some (.cells (cs .u8 zs) T fr)) : Reads w 1 (some ⟨g, 0, none⟩) zs.length (zs.map (Value.int .u8)) :=
  ⟨by simp, .inr ⟨g, 0, rfl, blk_lt h, fun i hi => by rw [Nat.zero_add, blk_cell h]; simp⟩⟩
end
end Go.Proofs.Ytpjbacpchmemeaa.PredS

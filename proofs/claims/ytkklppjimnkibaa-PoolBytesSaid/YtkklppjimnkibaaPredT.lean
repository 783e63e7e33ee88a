/-
  A region that draws its order and holds operations that turn the world, one behind the other: what holds of the world stands by how many of them are done.
-/
import Derived.Test.YtkklppjimnkibaaPred
import Derived.Test.YtkklppjimnkibaaPredC
namespace Go.Proofs.Ytkklppjimnkibaa.PredT
open Go.RowKit Rd Reg Alc Go.Proofs.Ytkklppjimnkibaa.Row
open Go.Proofs.Ytkklppjimnkibaa.Pred (yields wpOp_of_yields dsts predB waits_more waits_near backB all_listed wanted_none wanted_at yields_run yields_call yields_not putsF putsF_size putsF_defers putsF_at)
open Go.Proofs.Ytkklppjimnkibaa.PredC (depsOf slot_lt slot_ne)
set_option linter.unusedVariables false
set_option linter.unusedSimpArgs false
section
variable {P : Program} {W : World}
/-- a slot that is filled later, by what waits for this one, bears what it bore ahead -/
def early (a : Act) (ops : Array Oper) (i : Nat) (b : Act) : Prop := ∀ j o' d, ops[j]? = some o' → o'.dst = some d → waits .any ops ops.size j i = true → b.tmps[d]?.getD undef = a.tmps[d]?.getD undef
def known (ops : Array Oper) (V : Nat → Value → World → Nat → Prop) (i : Nat) (b : Act) (w : World) (p : Nat) : Prop :=
  ∀ k o' d, ops[k]? = some o' → o'.dst = some d → waits .any ops ops.size i k = true → V k (b.tmps[d]?.getD undef) w p
def opOK (P : Program) (W : World) (B : Nat) (ch : List Nat) (a : Act) (ops : Array Oper) (S : Nat → World → Prop) (V : Nat → Value → World → Nat → Prop) (i : Nat) (o : Oper) : Prop :=
  ∀ (b : Act) (w : World) (p : Nat), Below B W w → b.defers = a.defers → (∀ t, (dsts ops).contains t = false → b.tmps[t]?.getD undef = a.tmps[t]?.getD undef) → S p w →
    known ops V i b w p → early a ops i b → (∀ j c, ch[j]? = some c → waits .any ops ops.size c i = true → p ≤ j) → yields P ops o b w fun v w' => Below w.heap.size w w' ∧ V i v w' p
def opsOK (P : Program) (W : World) (B : Nat) (ch : List Nat) (a : Act) (ops : Array Oper) (S : Nat → World → Prop) (V : Nat → Value → World → Nat → Prop) : Nat → List Oper → Prop
  | _, [] => True
  | i, o :: os => (ch.contains i = true ∨ opOK P W B ch a ops S V i o) ∧ opsOK P W B ch a ops S V (i + 1) os
theorem opsOK_at {B : Nat} {ch : List Nat} {a : Act} {ops : Array Oper} {S : Nat → World → Prop} {V : Nat → Value → World → Nat → Prop} : ∀ (l : List Oper) (i : Nat), opsOK P W B ch a ops S V i l → ∀ j o, l[j]? = some o → ch.contains (i + j) = true ∨ opOK P W B ch a ops S V (i + j) o
  | [], _, _, j, o, hj => by simp at hj
  | x :: l, i, h, 0, o, hj => by simp at hj; subst hj; exact h.1
  | x :: l, i, h, j + 1, o, hj => by
    have := opsOK_at l (i + 1) h.2 j o (by simpa using hj)
    rwa [show i + 1 + j = i + (j + 1) by omega] at this
/-- one that turns the world -/
def turnOK (P : Program) (W : World) (B : Nat) (a : Act) (ops : Array Oper) (S : Nat → World → Prop) (V : Nat → Value → World → Nat → Prop) (prev : Option Nat) (j i : Nat) : Prop :=
  ∃ o, ops[i]? = some o ∧ (∀ k, prev = some k → waits .any ops ops.size i k = true) ∧ ∀ (b : Act) (w : World), Below B W w → b.defers = a.defers → (∀ t, (dsts ops).contains t = false → b.tmps[t]?.getD undef = a.tmps[t]?.getD undef) → S j w →
    known ops V i b w j → early a ops i b → yields P ops o b w fun v w' => Below B w w' ∧ S (j + 1) w' ∧ V i v w' (j + 1)
def turnsOK (P : Program) (W : World) (B : Nat) (a : Act) (ops : Array Oper) (S : Nat → World → Prop) (V : Nat → Value → World → Nat → Prop) : Nat → Option Nat → List Nat → Prop
  | _, _, [] => True
  | j, prev, c :: l => turnOK P W B a ops S V prev j c ∧ turnsOK P W B a ops S V (j + 1) (some c) l
/-- how many of them are done -/
def cnt (listed : Array Bool) : List Nat → Nat
  | [] => 0
  | c :: l => if listed.getD c false = true then cnt listed l + 1 else 0
variable {B : Nat} {a : Act} {ops : Array Oper} {S : Nat → World → Prop} {V : Nat → Value → World → Nat → Prop} {listed : Array Bool}
theorem head_listed (inv : Closed .any ops listed) :
    ∀ (l : List Nat) (j : Nat) (prev : Option Nat) (x : Nat), turnsOK P W B a ops S V j prev (x :: l) → ∀ c ∈ x :: l, (listed.getD c false = true ∨ depsOf ops listed c) → x = c ∨ listed.getD x false = true
  | [], _, _, x, h, c, hc, hd => .inl (List.mem_singleton.1 hc).symm
  | y :: l, j, prev, x, h, c, hc, hd => by
    rcases List.mem_cons.1 hc with rfl | hc
    · exact .inl rfl
    · have hy := head_listed inv l (j + 1) (some x) y h.2 c hc hd
      have hdy : depsOf ops listed y := by
        rcases hy with rfl | hy
        · rcases hd with hd | hd
          · exact fun o ho => inv.closed _ o ho hd
          · exact hd
        · exact fun o ho => inv.closed _ o ho hy
      obtain ⟨o, ho, hw, -⟩ := h.2.1
      exact .inr (waits_spec inv _ _ (hw x rfl) hdy)
theorem tail_not (inv : Closed .any ops listed) (l : List Nat) (j : Nat) (prev : Option Nat) (x : Nat)
    (h : turnsOK P W B a ops S V j prev (x :: l)) (hx : listed.getD x false = false) (c : Nat) (hc : c ∈ l) (hne : c ≠ x) : listed.getD c false = false := by
  cases e : listed.getD c false with
  | false => rfl
  | true =>
    rcases head_listed inv l j prev x h c (by simp [hc]) (.inl e) with h1 | h1
    · exact absurd h1.symm hne
    · rw [hx] at h1; cases h1
theorem cnt_set (inv : Closed .any ops listed) {c : Nat} (hc0 : listed.getD c false = false) (hcl : c < listed.size) (hd : depsOf ops listed c) :
    ∀ (l : List Nat) (j : Nat) (prev : Option Nat), l.Nodup → turnsOK P W B a ops S V j prev l → c ∈ l → (∃ pr, turnOK P W B a ops S V pr (j + cnt listed l) c) ∧ cnt (listed.setIfInBounds c true) l = cnt listed l + 1 ∧ cnt listed l < l.length
  | [], _, _, _, _, hc => by cases hc
  | x :: l, j, prev, hnd, h, hc => by
    by_cases hx : x = c
    · subst hx
      have h1 : (listed.setIfInBounds x true).getD x false = true := by simp [hcl]
      have h0 : cnt listed (x :: l) = 0 := by unfold cnt; rw [if_neg (by rw [hc0]; decide)]
      rw [h0]
      refine ⟨⟨prev, h.1⟩, ?_, by simp⟩
      unfold cnt
      rw [if_pos h1]
      cases l with
      | nil => rfl
      | cons y l =>
        have hyx : y ≠ x := fun e => by simp [e] at hnd
        have h2 := tail_not inv (y :: l) j prev x h hc0 y (by simp) hyx
        unfold cnt
        rw [if_neg (by rw [getD_set_ne false (Ne.symm hyx), h2]; decide)]
    · have hcl2 : c ∈ l := (List.mem_cons.1 hc).resolve_left (fun e => hx e.symm)
      have hxl : listed.getD x false = true := (head_listed inv l j prev x h c hc (.inr hd)).resolve_left hx
      obtain ⟨⟨pr, h1⟩, h2, h3⟩ := cnt_set inv hc0 hcl hd l (j + 1) (some x) (List.nodup_cons.1 hnd).2 h.2 hcl2
      have h0 : cnt listed (x :: l) = cnt listed l + 1 := by
        show (if listed.getD x false = true then cnt listed l + 1 else 0) = _
        rw [if_pos hxl]
      rw [h0]
      refine ⟨⟨pr, by rw [show j + (cnt listed l + 1) = j + 1 + cnt listed l by omega]; exact h1⟩, ?_, by simp; omega⟩
      rw [← h2]
      show (if _ then _ else _) = _
      rw [if_pos (by rw [getD_set_ne false (Ne.symm hx)]; exact hxl)]
theorem cnt_other {i : Nat} : ∀ (l : List Nat), i ∉ l → cnt (listed.setIfInBounds i true) l = cnt listed l
  | [], _ => rfl
  | x :: l, h => by
    simp only [List.mem_cons, not_or] at h
    unfold cnt
    rw [getD_set_ne false h.1, cnt_other l h.2]
theorem cnt_le : ∀ (l : List Nat) (j c : Nat), l[j]? = some c → listed.getD c false = false → cnt listed l ≤ j
  | [], j, c, h, _ => by simp at h
  | x :: l, 0, c, h, hf => by
    simp at h
    subst h
    show (if listed.getD x false = true then cnt listed l + 1 else 0) ≤ 0
    rw [hf, if_neg (by decide)]
    exact Nat.le_refl _
  | x :: l, j + 1, c, h, hf => by
    have := cnt_le l j c (by simpa using h) hf
    show (if listed.getD x false = true then cnt listed l + 1 else 0) ≤ j + 1
    split <;> omega
theorem cnt_all : ∀ (l : List Nat), (∀ c ∈ l, listed.getD c false = true) → cnt listed l = l.length
  | [], _ => rfl
  | x :: l, h => by
    unfold cnt
    rw [if_pos (h x (by simp)), cnt_all l (fun c hc => h c (by simp [hc]))]
    rfl
/-- what holds all the while -/
structure Inv (W : World) (B : Nat) (ch : List Nat) (a : Act) (ops : Array Oper) (S : Nat → World → Prop) (V : Nat → Value → World → Nat → Prop) (listed : Array Bool) (b : Act) (w : World) : Prop where
  inv : Closed .any ops listed
  hb : Below B W w
  hd : b.defers = a.defers
  hs : b.tmps.size = a.tmps.size
  hn : ∀ t, t ∉ dsts ops → b.tmps.getD t undef = a.tmps.getD t undef
  hv : ∀ k o' d, ops[k]? = some o' → o'.dst = some d → listed.getD k false = true → V k (b.tmps.getD d undef) w (cnt listed ch)
  hc : S (cnt listed ch) w
  hi : ∀ j o' d, ops[j]? = some o' → o'.dst = some d → listed.getD j false = false → b.tmps.getD d undef = a.tmps.getD d undef
omit listed in
theorem region_turns {id : Nat} {Q : Exit → Act → World → Prop} {a : Act} {l : List Oper} (B : Nat) (hBW : B ≤ W.heap.size) (ch : List Nat) (S : Nat → World → Prop) (V : Nat → Value → World → Nat → Prop)
    (hm : P.follows .mixedOrders = true) (hB : predB l.toArray a.tmps.size = true) (hK : backB l.toArray = true) (hnd : ch.Nodup)
    (hs1 : ∀ i v w w' p, V i v w p → Below w.heap.size w w' → V i v w' p)
    (hs2 : ∀ i v w w' p, p < ch.length → V i v w p → Below B w w' → V i v w' (p + 1))
    (hsS : ∀ p w w', S p w → Below w.heap.size w w' → S p w') (hW0 : S 0 W)
    (hop : opsOK P W B ch a l.toArray S V 0 l) (hso : turnsOK P W B a l.toArray S V 0 none ch)
    (hend : ∀ (listed : Array Bool) (b : Act) (w : World), (∀ k, k < l.toArray.size → listed.getD k false = true) → Inv W B ch a l.toArray S V listed b w → Q .normal b w) :
    (Code.region id l.toArray true).wp P Q a W := by
  have drew : ∀ B, Below B W W.drew := fun B => ⟨rfl, rfl, rfl, Nat.le_refl _, fun _ _ => rfl⟩
  refine RegInv.region_inv hm (fun listed b w => Inv W B ch a l.toArray S V listed b w) ?_ ?_ ?_
  · refine ⟨⟨by simp, fun j oj _ hl => (by rw [getD_replicate_false] at hl; cases hl)⟩, drew _, rfl, rfl, fun t _ => rfl, fun k o' d _ _ hl => ?_, ?_, fun _ _ _ _ _ _ => rfl⟩
    · rw [getD_replicate_false] at hl; cases hl
    · have : cnt (Array.replicate l.toArray.size false) ch = 0 := by
        cases ch with
        | nil => rfl
        | cons c ch => unfold cnt; rw [if_neg (by rw [getD_replicate_false]; decide)]
      rw [this]
      exact hsS _ _ _ hW0 (drew _)
  · intro listed b w h hr
    exact hend listed b w (all_listed hK h.inv hr) h
  · intro listed b w i h hi
    obtain ⟨hun, o, ho, hall⟩ := mem_ready.1 hi
    have ho' : l[i]? = some o := by simpa using ho
    have hil : i < listed.size := by rw [h.inv.size]; exact (Array.getElem?_eq_some_iff.1 ho).1
    have hun' : listed.getD i false = false := by
      simp [hil] at hun ⊢
      exact hun
    have hdeps : depsOf l.toArray listed i := fun o2 ho2 => by rw [ho] at ho2; cases ho2; exact hall
    have hkn : known l.toArray V i b w (cnt listed ch) := fun k o' d hk hkd hwt => by
      simpa using h.hv k o' d hk hkd (waits_spec h.inv l.toArray.size i hwt hdeps)
    have hn' : ∀ t, (dsts l.toArray).contains t = false → b.tmps[t]?.getD undef = a.tmps[t]?.getD undef := fun t ht => by simpa using h.hn t (by simpa using ht)
    have hput : ∀ v, (b.put o.dst v).defers = a.defers := fun v => by cases o.dst <;> exact h.hd
    have hpn : ∀ v, ∀ t, t ∉ dsts l.toArray → (b.put o.dst v).tmps.getD t undef = a.tmps.getD t undef := fun v t ht => by
      rw [put_other _ _ _ _ (fun e => ht (List.mem_filterMap.2 ⟨o, by simpa using List.mem_of_getElem? ho', e⟩))]
      exact h.hn t ht
    have hset : ∀ k, k ≠ i → (listed.setIfInBounds i true).getD k false = listed.getD k false := fun k hk => getD_set_ne false (Ne.symm hk)
    have hea : early a l.toArray i b := fun j o' d hj hjd hw => by
      have hjl : listed.getD j false = false := by
        cases e : listed.getD j false with
        | false => rfl
        | true =>
          have := waits_spec h.inv _ _ hw fun oo hoo => h.inv.closed _ _ hoo e
          rw [hun'] at this; cases this
      simpa using h.hi j o' d hj hjd hjl
    have hini : ∀ v, ∀ j o' d, l.toArray[j]? = some o' → o'.dst = some d → (listed.setIfInBounds i true).getD j false = false → (b.put o.dst v).tmps.getD d undef = a.tmps.getD d undef := fun v j o' d hj hjd hl => by
      have hji : i ≠ j := fun e => by subst e; simp [hil] at hl
      rw [hset j (Ne.symm hji)] at hl
      rw [put_other _ _ _ _ (slot_ne hB ho hj hjd hji)]
      exact h.hi j o' d hj hjd hl
    by_cases hch : ch.contains i = true
    · obtain ⟨⟨pr, o1, ho1, -, hy⟩, hcnt, hlt⟩ := cnt_set h.inv hun' hil hdeps ch 0 none hnd hso (by simpa using hch)
      rw [Nat.zero_add] at hy
      rw [ho] at ho1
      cases ho1
      refine wpOp_of_yields ho (hy b w h.hb h.hd hn' h.hc hkn hea) fun v w' ⟨hstep, hS, hV⟩ => ?_
      refine ⟨h.inv.set hi, h.hb.trans hstep, hput _, by rw [put_size]; exact h.hs, hpn _, fun k o' d' hk hkd hl => ?_, by rw [hcnt]; exact hS, hini _⟩
      rw [hcnt]
      by_cases hik : k = i
      · subst hik
        have : o' = o := Option.some.inj (hk.symm.trans ho)
        subst this
        rw [hkd, put_same _ _ _ (by rw [h.hs]; exact slot_lt hB ho hkd)]
        exact hV
      · rw [hset k hik] at hl
        rw [put_other _ _ _ _ (slot_ne hB ho hk hkd (Ne.symm hik))]
        exact hs2 k _ w _ _ hlt (h.hv k o' d' hk hkd hl) hstep
    · have hOK := (opsOK_at l 0 hop i o ho').resolve_left (by rw [Nat.zero_add]; exact hch)
      rw [Nat.zero_add] at hOK
      have hco : cnt (listed.setIfInBounds i true) ch = cnt listed ch := cnt_other ch (by simpa using hch)
      have hbf : ∀ j c, ch[j]? = some c → waits .any l.toArray l.toArray.size c i = true → cnt listed ch ≤ j := fun j c hjc hw => by
        refine cnt_le ch j c hjc ?_
        cases e : listed.getD c false with
        | false => rfl
        | true =>
          have := waits_spec h.inv _ _ hw fun oo hoo => h.inv.closed _ _ hoo e
          rw [hun'] at this; cases this
      refine wpOp_of_yields ho (hOK b w _ h.hb h.hd hn' h.hc hkn hea hbf) fun v w' ⟨hw', hV⟩ => ?_
      refine ⟨h.inv.set hi, h.hb.trans (hw'.mono (Nat.le_trans hBW h.hb.size)), hput _, by rw [put_size]; exact h.hs, hpn _, fun k o' d' hk hkd hl => ?_, by rw [hco]; exact hsS _ _ _ h.hc hw', hini _⟩
      rw [hco]
      by_cases hik : k = i
      · subst hik
        have : o' = o := Option.some.inj (hk.symm.trans ho)
        subst this
        rw [hkd, put_same _ _ _ (by rw [h.hs]; exact slot_lt hB ho hkd)]
        exact hV
      · rw [hset k hik] at hl
        rw [put_other _ _ _ _ (slot_ne hB ho hk hkd (Ne.symm hik))]
        exact hs1 k _ w _ _ (h.hv k o' d' hk hkd hl) hw'
omit listed in
theorem region_vals {id : Nat} {Q : Exit → Act → World → Prop} {a : Act} {l : List Oper} (B : Nat) (hBW : B ≤ W.heap.size) (ch : List Nat) (S : Nat → World → Prop) (V : Nat → Value → World → Nat → Prop)
    (hm : P.follows .mixedOrders = true) (hB : predB l.toArray a.tmps.size = true) (hK : backB l.toArray = true) (hnd : ch.Nodup) (hcl : ∀ c ∈ ch, c < l.length)
    (hs1 : ∀ i v w w' p, V i v w p → Below w.heap.size w w' → V i v w' p)
    (hs2 : ∀ i v w w' p, p < ch.length → V i v w p → Below B w w' → V i v w' (p + 1))
    (hsS : ∀ p w w', S p w → Below w.heap.size w w' → S p w') (hW0 : S 0 W)
    (hop : opsOK P W B ch a l.toArray S V 0 l) (hso : turnsOK P W B a l.toArray S V 0 none ch)
    (hend : ∀ (v : Nat → Value) (w : World), Below B W w → S ch.length w → (∀ k o' d, l[k]? = some o' → o'.dst = some d → V k (v k) w ch.length) → Q .normal (putsF v 0 l a) w) :
    (Code.region id l.toArray true).wp P Q a W := by
  refine region_turns B hBW ch S V hm hB hK hnd hs1 hs2 hsS hW0 hop hso fun listed b w hall h => ?_
  have hs := h.hs
  have hd := h.hd
  have key : b = putsF (fun k => match l[k]? with | some o => (match o.dst with | some d => b.tmps.getD d undef | none => undef) | none => undef) 0 l a := by
    have h1 : b.tmps = (putsF (fun k => match l[k]? with | some o => (match o.dst with | some d => b.tmps.getD d undef | none => undef) | none => undef) 0 l a).tmps := by
      apply Array.ext
      · rw [putsF_size, hs]
      · intro t ht1 ht2
        have h2 := putsF_at (b := b) (t := t) (v := fun k => match l[k]? with | some o => (match o.dst with | some d => b.tmps.getD d undef | none => undef) | none => undef) l 0 a (fun k o hk hdk => by simp only [Nat.zero_add, hk, hdk]) (by
          by_cases hdt : t ∈ dsts l.toArray
          · right
            obtain ⟨o, ho, he⟩ := List.mem_filterMap.1 hdt
            exact ⟨o, by simpa using ho, he⟩
          · left; exact (h.hn t hdt).symm) (by rw [← hs]; exact ht1)
        rw [Array.getD_eq_getD_getElem?, Array.getD_eq_getD_getElem?, Array.getElem?_eq_getElem ht1, Array.getElem?_eq_getElem ht2] at h2
        simpa using h2.symm
    have h2 := putsF_defers (fun k => match l[k]? with | some o => (match o.dst with | some d => b.tmps.getD d undef | none => undef) | none => undef) l 0 a
    clear h
    obtain ⟨bt, bd⟩ := b
    simp only at h1 hd
    generalize putsF _ 0 l a = c at h1 h2
    obtain ⟨ct, cd⟩ := c
    simp only at h1 h2
    rw [h1, hd, ← h2]
  rw [key]
  have hc := cnt_all (listed := listed) ch (fun c hc => hall c (by simpa using hcl c hc))
  have h1 := h.hc
  rw [hc] at h1
  refine hend _ w h.hb h1 (fun k o' d hk hkd => ?_)
  simp only [hk, hkd]
  have := h.hv k o' d (by simpa using hk) hkd (hall k (by have := (List.getElem?_eq_some_iff.1 hk).1; simpa using this))
  rwa [hc] at this
end
/-! What may be said of a value -/
abbrev Pr := Value → World → Nat → Prop
/-- it is this, and so many are done -/
def At (j : Nat) (x : Value) : Pr := fun v _ p => v = x ∧ j ≤ p
def Stab (B m : Nat) (q : Pr) : Prop := (∀ v w w' p, q v w p → Below w.heap.size w w' → q v w' p) ∧ ∀ v w w' p, p < m → q v w p → Below B w w' → q v w' (p + 1)
theorem at_stab (B m j : Nat) (x : Value) : Stab B m (At j x) := ⟨fun _ _ _ _ h _ => h, fun _ _ _ _ _ h _ => ⟨h.1, by have := h.2; omega⟩⟩
/-- a slice so long, and so many are done -/
def Len (j n : Nat) : Pr := fun v _ p => (∃ a c, v = .slice a n c) ∧ j ≤ p
theorem len_stab (B m j n : Nat) : Stab B m (Len j n) := ⟨fun _ _ _ _ h _ => h, fun _ _ _ _ _ h _ => ⟨h.1, by have := h.2; omega⟩⟩
/-- so many are done; and this, till the next is done -/
def When (j : Nat) (q : Value → World → Prop) : Pr := fun v w p => j ≤ p ∧ (p = j → q v w)
theorem when_stab (B m j : Nat) {q : Value → World → Prop} (h : ∀ v w w', q v w → Below w.heap.size w w' → q v w') : Stab B m (When j q) :=
  ⟨fun _ _ _ _ h1 hb => ⟨h1.1, fun e => h _ _ _ (h1.2 e) hb⟩, fun _ _ _ _ _ h1 _ => ⟨by have := h1.1; omega, fun e => by have := h1.1; omega⟩⟩
def Of (l : List Pr) (i : Nat) : Pr := l.getD i fun _ _ _ => False
def Stabs (B m : Nat) : List Pr → Prop
  | [] => True
  | q :: l => Stab B m q ∧ Stabs B m l
theorem of_stab1 {B m : Nat} : ∀ {l : List Pr}, Stabs B m l → ∀ i v w w' p, Of l i v w p → Below w.heap.size w w' → Of l i v w' p
  | [], _, i, v, w, w', p, h, _ => by simp [Of] at h
  | q :: l, hs, 0, v, w, w', p, h, hb => hs.1.1 v w w' p h hb
  | q :: l, hs, i + 1, v, w, w', p, h, hb => of_stab1 (l := l) hs.2 i v w w' p h hb
theorem of_stab2 {B m : Nat} : ∀ {l : List Pr}, Stabs B m l → ∀ i v w w' p, p < m → Of l i v w p → Below B w w' → Of l i v w' (p + 1)
  | [], _, i, v, w, w', p, _, h, _ => by simp [Of] at h
  | q :: l, hs, 0, v, w, w', p, hp, h, hb => hs.1.2 v w w' p hp h hb
  | q :: l, hs, i + 1, v, w, w', p, hp, h, hb => of_stab2 (l := l) hs.2 i v w w' p hp h hb
def Sel (l : List (World → Prop)) (p : Nat) : World → Prop := l.getD p fun _ => False
def Keeps (l : List (World → Prop)) : Prop := ∀ q ∈ l, ∀ w w', q w → Below w.heap.size w w' → q w'
theorem sel_stab : ∀ {l : List (World → Prop)}, Keeps l → ∀ p w w', Sel l p w → Below w.heap.size w w' → Sel l p w'
  | [], _, p, w, w', h, _ => by simp [Sel] at h
  | q :: l, hs, 0, w, w', h, hb => hs q (by simp) w w' h hb
  | q :: l, hs, p + 1, w, w', h, hb => sel_stab (l := l) (fun x hx => hs x (by simp [hx])) p w w' h hb
theorem sel_le : ∀ {l : List (World → Prop)} {p : Nat} {w : World}, Sel l p w → p < l.length
  | [], p, w, h => by simp [Sel] at h
  | q :: l, 0, w, h => by simp
  | q :: l, p + 1, w, h => by have := sel_le (l := l) (p := p) (w := w) h; simp; omega
theorem region_of {P : Program} {W : World} {id : Nat} {Q : Exit → Act → World → Prop} {a : Act} {l : List Oper} (B : Nat) (hBW : B ≤ W.heap.size) (ch : List Nat) (S : List (World → Prop)) (L : List Pr)
    (hm : P.follows .mixedOrders = true) (hB : predB l.toArray a.tmps.size = true) (hK : backB l.toArray = true) (hnd : ch.Nodup) (hcl : ∀ c ∈ ch, c < l.length)
    (hL : Stabs B ch.length L) (hS : Keeps S) (hW0 : Sel S 0 W)
    (hop : opsOK P W B ch a l.toArray (Sel S) (Of L) 0 l) (hso : turnsOK P W B a l.toArray (Sel S) (Of L) 0 none ch)
    (hend : ∀ (v : Nat → Value) (w : World), Below B W w → Sel S ch.length w → (∀ k o' d, l[k]? = some o' → o'.dst = some d → Of L k (v k) w ch.length) → Q .normal (putsF v 0 l a) w) :
    (Code.region id l.toArray true).wp P Q a W :=
  region_vals B hBW ch (Sel S) (Of L) hm hB hK hnd hcl (of_stab1 hL) (of_stab2 hL) (sel_stab hS) hW0 hop hso hend
end Go.Proofs.Ytkklppjimnkibaa.PredT

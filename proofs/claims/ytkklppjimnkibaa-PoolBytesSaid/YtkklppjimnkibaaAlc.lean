/-
  A region that draws its order, whose head reads and calls what lays blocks alone, and lays blocks of its own that wait for nothing, wherever they come; its tail in its own order.
-/
import Derived.Test.YtkklppjimnkibaaReg
namespace Go.Proofs.Ytkklppjimnkibaa.Alc
open Go.RowKit Reg
set_option linter.unusedVariables false
set_option linter.unusedSimpArgs false

/-- worlds that are this one with new blocks -/
def C (W : World) : World → Prop := fun w' => ∃ p : Regrown, w' = Sort.grow (redrawn W p.d) p.os
theorem mem_C {W w : World} : C W w ↔ Below W.heap.size W w := ⟨fun ⟨p, e⟩ => by rw [e]; exact below_regrown _ _ _, fun h => regrown_of_below h⟩
theorem C_refl (w : World) : C w w := mem_C.2 (Below.refl _ _)
theorem C_trans {a b c : World} (h : C a b) (k : C b c) : C a c := by
  rw [mem_C] at *
  exact h.trans (k.mono h.size)
theorem C_alloc {a b : World} (h : C a b) (o : Obj) : C a (b.alloc o) := by
  rw [mem_C] at *
  exact h.alloc h.size o

section
variable {P : Program} {ops : Array Oper} {md : Region.Mode} {W : World}

theorem quietUpon_mono {C1 C2 : World → Prop} {w : World} {v : Value} (h : ∀ x, C1 x → C2 x) : ∀ {r : Result Next}, Oper.quietUpon P C1 w v r → Oper.quietUpon P C2 w v r := by
  intro r hr
  cases r with
  | ok nx w' =>
    cases nx <;> simp only [Oper.quietUpon] at hr ⊢
    all_goals first | exact ⟨hr.1, h _ hr.2⟩ | exact ⟨hr.1, hr.2.mono fun e w'' he => ⟨he.1, h _ he.2⟩⟩ | exact hr
  | halt x w' => simp only [Oper.quietUpon] at hr
/-- from whatever world of the class the operation yields v, and lays blocks alone -/
def YR (P : Program) (ops : Array Oper) (W : World) (o : Oper) (v : Value) (a : Act) : Prop :=
  (Region.wanted o (yielded ops a.tmps) = true ∧ ∀ w, C W w → o.quietAt P a (C w) w v) ∨ (Region.wanted o (yielded ops a.tmps) = false ∧ v = undef)
theorem YR.of_same {o : Oper} {v : Value} {a a' : Act} (hy : YR P ops W o v a) (he : execOp a'.eval o = execOp a.eval o)
    (hw : Region.wanted o (yielded ops a'.tmps) = Region.wanted o (yielded ops a.tmps)) : YR P ops W o v a' := by
  unfold YR Oper.quietAt at *
  rw [he, hw]
  exact hy
def rOp (P : Program) (ops : Array Oper) (W : World) (i : Nat) (K : Act → Prop) (a : Act) : Prop :=
  match ops[i]? with
  | none => K a
  | some o => ∃ v, YR P ops W o v a ∧ K (a.put o.dst v)
theorem rOp_mono {i : Nat} {a : Act} {K K' : Act → Prop} (h : ∀ a, K a → K' a) (hh : rOp P ops W i K a) : rOp P ops W i K' a := by
  unfold rOp at *
  split
  · rename_i h0; simp only [h0] at hh; exact h _ hh
  · rename_i o h0; simp only [h0] at hh; obtain ⟨v, hv, hk⟩ := hh; exact ⟨v, hv, h _ hk⟩
theorem rOp_put {j : Nat} {oi oj : Oper} {v : Value} (hj : ops[j]? = some oj) (hap : oi.apart ops oj = true)
    (hsi : ∀ cs b, oi.op ≠ .select cs b) (hsj : ∀ cs b, oj.op ≠ .select cs b) {K : Act → Prop} {a : Act}
    (hy : YR P ops W oi v a) (h : rOp P ops W j K (a.put oi.dst v)) : rOp P ops W j (fun a' => YR P ops W oi v a' ∧ K (a'.put oi.dst v)) a := by
  obtain ⟨h1, h2, h3⟩ := Oper.apart_spec hap
  unfold rOp at *
  simp only [hj] at *
  obtain ⟨u, hu, hk⟩ := h
  refine ⟨u, hu.of_same (execOp_put oj hsj a oi.dst v h1).symm (wanted_put oj a oi.dst v h1).symm, hy.of_same (execOp_put oi hsi a oj.dst u h3) (wanted_put oi a oj.dst u h3), ?_⟩
  rw [← Act.put_comm a v u h2]
  exact hk

def headR (P : Program) (md : Region.Mode) (ops : Array Oper) (W : World) (hd : List Nat) (L : Array Bool → Act → Prop) : Nat → Array Bool → Act → Prop
  | 0, listed, a => L listed a
  | f + 1, listed, a => Region.ready md ops listed ≠ [] ∧ ∀ i ∈ Region.ready md ops listed, i ∈ hd ∧ rOp P ops W i (headR P md ops W hd L f (listed.setIfInBounds i true)) a

/-- what is listed has what it waits for listed -/
structure Closed (md : Region.Mode) (ops : Array Oper) (listed : Array Bool) : Prop where
  size : listed.size = ops.size
  closed : ∀ j oj, ops[j]? = some oj → listed.getD j false = true → ∀ e ∈ oj.after, Region.binds md e = true → listed.getD e.on false = true
theorem Closed.set {i : Nat} {listed : Array Bool} (inv : Closed md ops listed) (hi : i ∈ Region.ready md ops listed) : Closed md ops (listed.setIfInBounds i true) := by
  obtain ⟨_, oi, hoi, hall⟩ := mem_ready.1 hi
  refine ⟨by simp [inv.size], fun j oj hj hl e he hb => ?_⟩
  by_cases hij : i = j
  · subst hij
    have : oj = oi := Option.some.inj (hj.symm.trans hoi)
    subst this
    exact getD_set_true (hall e he hb)
  · rw [getD_set_ne false hij] at hl
    exact getD_set_true (inv.closed j oj hj hl e he hb)

/-- t waits for i, on whatever way -/
def waits (md : Region.Mode) (ops : Array Oper) : Nat → Nat → Nat → Bool
  | 0, _, _ => false
  | f + 1, t, i => match ops[t]? with
    | some o => o.after.any fun e => Region.binds md e && (e.on == i || waits md ops f e.on i)
    | none => false
theorem waits_spec {listed : Array Bool} (inv : Closed md ops listed) {i : Nat} : ∀ (f t : Nat), waits md ops f t i = true →
    (∀ o, ops[t]? = some o → ∀ e ∈ o.after, Region.binds md e = true → listed.getD e.on false = true) → listed.getD i false = true
  | 0, _, h, _ => by simp [waits] at h
  | f + 1, t, h, hall => by
    unfold waits at h
    split at h
    · rename_i o ho
      obtain ⟨e, he, hb⟩ := Array.any_eq_true'.1 h
      simp only [Bool.and_eq_true, Bool.or_eq_true, beq_iff_eq] at hb
      have hl := hall o ho e he hb.1
      rcases hb.2 with h1 | h1
      · rw [← h1]; exact hl
      · exact waits_spec inv f e.on h1 fun o' ho' e' he' hb' => inv.closed _ _ ho' hl e' he' hb'
    · cases h

def seqL (md : Region.Mode) (ops : Array Oper) : List Nat → Array Bool → Bool
  | [], listed => (Region.ready md ops listed).isEmpty
  | k :: ks, listed => decide (Region.ready md ops listed = [k]) && seqL md ops ks (listed.setIfInBounds k true)
def lexL (md : Region.Mode) (ops : Array Oper) (tl : List Nat) : List Nat → Array Bool → Bool
  | [], listed => seqL md ops tl listed
  | k :: ks, listed => (Region.ready md ops listed).contains k && Region.free md ops listed k && lexL md ops tl ks (listed.setIfInBounds k true)
theorem seqL_ready {tl : List Nat} {listed : Array Bool} (h : seqL md ops tl listed = true) : ∀ j ∈ Region.ready md ops listed, j ∈ tl := by
  cases tl with
  | nil => intro j hj; simp only [seqL, List.isEmpty_iff] at h; rw [h] at hj; cases hj
  | cons k ks =>
    intro j hj
    simp only [seqL, Bool.and_eq_true, decide_eq_true_eq] at h
    rw [h.1] at hj
    simp at hj
    simp [hj]
theorem wpAny_of_seqL {Q' : Exit → Act → World → Prop} : ∀ (tl : List Nat) (listed : Array Bool) (a : Act) (w : World), (∀ k ∈ tl, k < ops.size) →
    seqL md ops tl listed = true → wpList P ops Q' (tl.filterMap fun i => ops[i]?) a w → wpAny P md ops Q' tl.length listed a w
  | [], _, _, _, _, hB, h => ⟨by simpa [seqL] using hB, h⟩
  | k :: ks, listed, a, w, hl, hB, h => by
    have hk := hl k (by simp)
    have h0 : ops[k]? = some ops[k] := Array.getElem?_eq_getElem hk
    simp only [seqL, Bool.and_eq_true, decide_eq_true_eq] at hB
    rw [List.filterMap_cons, h0] at h
    simp only at h
    refine ⟨fun h1 => (by rw [hB.1] at h1; cases h1), fun i hi => ?_⟩
    rw [hB.1] at hi
    obtain rfl : i = k := by simpa using hi
    unfold wpOp
    simp only [h0]
    unfold wpList at h
    have ih := fun a' w' h' => wpAny_of_seqL (Q' := Q') ks (listed.setIfInBounds i true) a' w' (fun j hj => hl j (by simp [hj])) hB.2 h'
    split
    · rename_i hw
      rw [if_pos hw] at h
      exact h.imp (Oper.wp_mono ih) id
    · rename_i hw
      rw [if_neg hw] at h
      exact ih _ _ h

theorem headR_first {hd tl : List Nat} {i F : Nat} {oi : Oper} {v : Value} {L : Array Bool → Act → Prop} (hi : ops[i]? = some oi) (hsel : ∀ (j : Nat) (o : Oper) cs b, ops[j]? = some o → o.op ≠ .select cs b)
    (htl : ∀ t ∈ tl, waits md ops F t i = true) (hin : i ∈ hd) (hdone : ∀ listed a, L listed a → ∀ j ∈ Region.ready md ops listed, j ∈ tl) :
    ∀ (f : Nat) (listed : Array Bool) (a : Act), Closed md ops listed → (∀ j, listed.getD j true = false → j < ops.size → j ∈ hd ∨ j ∈ tl) →
      (∀ j oj, ops[j]? = some oj → j ≠ i → listed.getD j true = false → (∀ e ∈ oj.after, Region.binds md e = true → e.on ≠ i) → oi.apart ops oj = true) →
      i ∈ Region.ready md ops listed → YR P ops W oi v a → headR P md ops W hd L f (listed.setIfInBounds i true) (a.put oi.dst v) → headR P md ops W hd L (f + 1) listed a := by
  intro f
  have notl : ∀ (listed : Array Bool), Closed md ops listed → listed.getD i true = false → (∀ j, listed.getD j true = false → j < ops.size → j ∈ hd ∨ j ∈ tl) → ∀ j ∈ Region.ready md ops listed, j ∈ hd := by
    intro listed inv hun cov j hj
    obtain ⟨hjun, oj, hoj, hall⟩ := mem_ready.1 hj
    rcases cov j hjun (Array.getElem?_eq_some_iff.1 hoj).1 with h | h
    · exact h
    · have := waits_spec inv F j (htl j h) fun o ho => by rw [hoj] at ho; cases ho; exact hall
      rw [getD_both hun] at this
      cases this
  induction f with
  | zero =>
    intro listed a inv cov _ hr hy H
    have hun := (mem_ready.1 hr).1
    refine ⟨fun h => (by rw [h] at hr; cases hr), fun j hj => ?_⟩
    have hjn := notl listed inv hun cov j hj
    refine ⟨hjn, ?_⟩
    by_cases hji : j = i
    · subst hji; unfold rOp; simp only [hi]; exact ⟨v, hy, H⟩
    · obtain ⟨hjun, oj, hoj, hall⟩ := mem_ready.1 hj
      have hjt := hdone _ _ H j (ready_mono hj hji)
      have := waits_spec inv F j (htl j hjt) fun o ho => by rw [hoj] at ho; cases ho; exact hall
      rw [getD_both hun] at this
      cases this
  | succ f ih =>
    intro listed a inv cov hfree hr hy H
    have hun := (mem_ready.1 hr).1
    refine ⟨fun h => (by rw [h] at hr; cases hr), fun j hj => ?_⟩
    have hjn := notl listed inv hun cov j hj
    refine ⟨hjn, ?_⟩
    by_cases hji : j = i
    · subst hji; unfold rOp; simp only [hi]; exact ⟨v, hy, H⟩
    · have h1 := (H.2 j (ready_mono hj hji)).2
      obtain ⟨hjun, oj, hoj, hall⟩ := mem_ready.1 hj
      have hnot : ∀ e ∈ oj.after, Region.binds md e = true → e.on ≠ i := by
        intro e he hb heq
        have h2 := hall e he hb
        rw [heq, getD_both hun] at h2
        cases h2
      have h2 := rOp_put hoj (hfree j oj hoj hji hjun hnot) (fun cs b => hsel i oi cs b hi) (fun cs b => hsel j oj cs b hoj) hy h1
      refine rOp_mono (fun a' h3 => ih (listed.setIfInBounds j true) a' (inv.set hj) (fun k hk hlt => cov k (by
          by_cases hjk : j = k
          · subst hjk; exact hjun
          · rwa [getD_set_ne true hjk] at hk) hlt) (fun k ok hk hki hku hno => ?_) (ready_mono hr (Ne.symm hji)) h3.1 ?_) h2
      · by_cases hjk : j = k
        · subst hjk; exact hfree j ok hk hki hjun hno
        · rw [getD_set_ne true hjk] at hku; exact hfree k ok hk hki hku hno
      · rw [Array.setIfInBounds_comm _ _ hji]
        exact h3.2

/-! ### What comes out is the same from every world: it stands in the frame that is left -/
def dstsB (n : Nat) : List Oper → Bool
  | [] => true
  | o :: l => (match o.dst with | some d => decide (d < n) && l.all (fun o' => o'.dst != some d) | none => false) && dstsB n l
theorem put_size (a : Act) (x : Option Tmp) (v : Value) : (a.put x v).tmps.size = a.tmps.size := by
  cases x <;> simp [Act.put]
theorem put_other (a : Act) (x : Option Tmp) (v : Value) (d : Tmp) (h : x ≠ some d) : (a.put x v).tmps.getD d undef = a.tmps.getD d undef := by
  cases x with
  | none => rfl
  | some y =>
    have : y ≠ d := fun e => h (by rw [e])
    simp [Act.put, Array.getElem?_setIfInBounds_ne this]
theorem put_same (a : Act) (v : Value) (d : Tmp) (h : d < a.tmps.size) : (a.put (some d) v).tmps.getD d undef = v := by
  simp [Act.put, h]
theorem pin {Cx : World → Prop} {A : Act} {d : Tmp} : ∀ (l : List Oper) (b : Act), wpQuiet P ops Cx (fun a' => a' = A) l b → (∀ o ∈ l, o.dst ≠ some d) → A.tmps.getD d undef = b.tmps.getD d undef
  | [], b, h, _ => by have : b = A := h; rw [this]
  | o :: l, b, h, hd => by
    unfold wpQuiet at h
    split at h
    · obtain ⟨v, _, h2⟩ := h
      rw [pin l _ h2 (fun o' ho' => hd o' (by simp [ho'])), put_other _ _ _ _ (hd o (by simp))]
    · rw [pin l _ h (fun o' ho' => hd o' (by simp [ho'])), put_other _ _ _ _ (hd o (by simp))]

def Fam (P : Program) (ops : Array Oper) (W : World) (A : Act) (l : List Oper) (a : Act) : Prop := ∀ W1, C W W1 → wpQuiet P ops (C W1) (fun a' => a' = A) l a
theorem fam_step {A : Act} {o : Oper} {l : List Oper} {a : Act} (hd : dstsB a.tmps.size (o :: l) = true) (h : Fam P ops W A (o :: l) a) : ∃ v, YR P ops W o v a ∧ Fam P ops W A l (a.put o.dst v) := by
  simp only [dstsB, Bool.and_eq_true] at hd
  cases hdst : o.dst with
  | none => rw [hdst] at hd; simp at hd
  | some d =>
    rw [hdst] at hd
    simp only [Bool.and_eq_true, decide_eq_true_eq, List.all_eq_true, bne_iff_ne] at hd
    obtain ⟨⟨hlt, hne⟩, _⟩ := hd
    by_cases hw : Region.wanted o (yielded ops a.tmps) = true
    · have key : ∀ W1, C W W1 → (∀ w, C W1 w → o.quietAt P a (C W1) w (A.tmps.getD d undef)) ∧ wpQuiet P ops (C W1) (fun a' => a' = A) l (a.put (some d) (A.tmps.getD d undef)) := by
        intro W1 h1
        have h2 := h W1 h1
        unfold wpQuiet at h2
        rw [if_pos hw] at h2
        obtain ⟨v, hv, hq⟩ := h2
        rw [hdst] at hq
        have e := pin l _ hq hne
        rw [put_same _ _ _ hlt] at e
        subst e
        exact ⟨hv, hq⟩
      exact ⟨A.tmps.getD d undef, .inl ⟨hw, fun w hc => (key w hc).1 w (C_refl w)⟩, fun W1 h1 => (key W1 h1).2⟩
    · refine ⟨undef, .inr ⟨by simpa using hw, rfl⟩, fun W1 h1 => ?_⟩
      have h2 := h W1 h1
      unfold wpQuiet at h2
      rw [if_neg hw, hdst] at h2
      exact h2

theorem headR_lex {hd tl : List Nat} {F : Nat} {A : Act} (hsel : Region.noSelect ops = true) (htl : ∀ t ∈ tl, ∀ i ∈ hd, waits md ops F t i = true) :
    ∀ (ks : List Nat) (listed : Array Bool) (a : Act), (∀ k ∈ ks, k ∈ hd) → Closed md ops listed → (∀ j, listed.getD j true = false → j < ops.size → j ∈ hd ∨ j ∈ tl) →
    lexL md ops tl ks listed = true → dstsB a.tmps.size (ks.filterMap fun i => ops[i]?) = true → (∀ k ∈ ks, k < ops.size) → Fam P ops W A (ks.filterMap fun i => ops[i]?) a →
    headR P md ops W hd (fun listed' a' => seqL md ops tl listed' = true ∧ a' = A) ks.length listed a
  | [], listed, a, _, _, _, hB, _, _, h => ⟨by simpa [lexL] using hB, h W (C_refl W)⟩
  | k :: ks, listed, a, hks, inv, cov, hB, hds, hlt, h => by
    have hk := hlt k (by simp)
    have h0 : ops[k]? = some ops[k] := Array.getElem?_eq_getElem hk
    rw [List.filterMap_cons, h0] at h hds
    simp only at h hds
    simp only [lexL, Bool.and_eq_true] at hB
    have hr : k ∈ Region.ready md ops listed := by simpa using hB.1.1
    obtain ⟨v, hy, hF⟩ := fam_step hds h
    refine headR_first h0 (Region.noSelect_spec hsel) (fun t ht => htl t ht k (hks k (by simp))) (hks k (by simp)) (fun listed' a' hL => seqL_ready hL.1) ks.length listed a inv cov (Region.free_spec h0 hB.1.2) hr hy ?_
    refine headR_lex hsel htl ks _ _ (fun j hj => hks j (by simp [hj])) (inv.set hr) (fun j hj hlt' => cov j (by
      by_cases hkj : k = j
      · subst hkj; exact (mem_ready.1 hr).1
      · rwa [getD_set_ne true hkj] at hj) hlt') hB.2 (by rw [put_size]; simp only [dstsB, Bool.and_eq_true] at hds; exact hds.2) (fun j hj => hlt j (by simp [hj])) hF

/-! ### The blocks that are laid wherever they come -/
theorem getD_ext {x y : Array Bool} (hs : x.size = y.size) (h : ∀ j, j < x.size → x.getD j false = y.getD j false) : x = y := by
  apply Array.ext hs
  intro j h1 h2
  have := h j h1
  simpa [h1, h2] using this
def mark (al : List Nat) (listed : Array Bool) : Array Bool := Array.ofFn (n := listed.size) fun j => listed.getD j.1 false || al.contains j.1
theorem mark_size (al : List Nat) (listed : Array Bool) : (mark al listed).size = listed.size := by simp [mark]
theorem mark_getD (al : List Nat) (listed : Array Bool) (j : Nat) (d : Bool) : (mark al listed).getD j d = if j < listed.size then (listed.getD j false || al.contains j) else d := by
  unfold mark
  by_cases h : j < listed.size <;> simp [h]
theorem set_getD (listed : Array Bool) (i j : Nat) (d : Bool) : (listed.setIfInBounds i true).getD j d = if i = j ∧ j < listed.size then true else listed.getD j d := by
  by_cases hij : i = j
  · subst hij
    by_cases h : i < listed.size <;> simp [h]
  · rw [getD_set_ne d hij]; simp [hij]
theorem mark_set (al : List Nat) (listed : Array Bool) (i : Nat) : mark al (listed.setIfInBounds i true) = (mark al listed).setIfInBounds i true := by
  refine getD_ext (by simp [mark_size]) fun j hj => ?_
  rw [mark_size, Array.size_setIfInBounds] at hj
  rw [mark_getD, set_getD, set_getD, mark_getD]
  simp only [Array.size_setIfInBounds, mark_size, hj, if_true]
  by_cases hij : i = j <;> simp [hij, hj]
theorem mark_set_al (al : List Nat) (listed : Array Bool) (i : Nat) (h : i ∈ al) : mark al (listed.setIfInBounds i true) = mark al listed := by
  refine getD_ext (by simp [mark_size]) fun j hj => ?_
  rw [mark_size, Array.size_setIfInBounds] at hj
  rw [mark_getD, mark_getD, set_getD]
  simp only [Array.size_setIfInBounds, hj, if_true]
  by_cases hij : i = j
  · subst hij; simp [h, hj]
  · simp [hij]
theorem mark_all (al : List Nat) (listed : Array Bool) (h : ∀ m ∈ al, listed.getD m false = true) : mark al listed = listed := by
  refine getD_ext (by simp [mark_size]) fun j hj => ?_
  rw [mark_size] at hj
  rw [mark_getD, if_pos hj]
  by_cases hm : j ∈ al
  · simp [h j hm, hm]
  · simp [hm]

/-- the pointers that stand already -/
def setAll (ops : Array Oper) (ptr : Nat → Option Nat) : List Nat → Act → Act
  | [], a => a
  | m :: al, a => match ptr m, ops[m]? with
    | some g, some o => (setAll ops ptr al a).put o.dst (.pointer (some ⟨g, 0, none⟩))
    | _, _ => setAll ops ptr al a
theorem setAll_put (ptr : Nat → Option Nat) {o : Oper} (v : Value) : ∀ (al : List Nat) (a : Act), (∀ m ∈ al, ∀ om, ops[m]? = some om → om.apart ops o = true) →
    (setAll ops ptr al a).put o.dst v = setAll ops ptr al (a.put o.dst v)
  | [], a, _ => rfl
  | m :: al, a, h => by
    have ih := setAll_put ptr v al a (fun m' hm' => h m' (by simp [hm']))
    unfold setAll
    split
    · rename_i g om hg hom
      rw [← ih, Act.put_comm _ _ _ (Oper.apart_spec (h m (by simp) om hom)).2.1]
    · exact ih
theorem setAll_exec (ptr : Nat → Option Nat) {o : Oper} (hs : ∀ cs b, o.op ≠ .select cs b) : ∀ (al : List Nat) (a : Act), (∀ m ∈ al, ∀ om, ops[m]? = some om → om.apart ops o = true) →
    execOp (setAll ops ptr al a).eval o = execOp a.eval o ∧ Region.wanted o (yielded ops (setAll ops ptr al a).tmps) = Region.wanted o (yielded ops a.tmps)
  | [], a, _ => ⟨rfl, rfl⟩
  | m :: al, a, h => by
    obtain ⟨ih1, ih2⟩ := setAll_exec ptr hs al a (fun m' hm' => h m' (by simp [hm']))
    unfold setAll
    split
    · rename_i g om hg hom
      have h1 := (Oper.apart_spec (h m (by simp) om hom)).1
      exact ⟨(execOp_put o hs _ om.dst _ h1).trans ih1, (wanted_put o _ om.dst _ h1).trans ih2⟩
    · exact ⟨ih1, ih2⟩
def upd (ptr : Nat → Option Nat) (m g : Nat) : Nat → Option Nat := fun j => if j = m then some g else ptr j
theorem setAll_congr {ptr ptr' : Nat → Option Nat} : ∀ (al : List Nat) (a : Act), (∀ m ∈ al, ptr m = ptr' m) → setAll ops ptr al a = setAll ops ptr' al a
  | [], a, _ => rfl
  | m :: al, a, h => by
    have ih := setAll_congr al a (fun m' hm' => h m' (by simp [hm']))
    unfold setAll
    rw [h m (by simp), ih]
theorem setAll_upd {ptr : Nat → Option Nat} {m g : Nat} {om : Oper} (hom : ops[m]? = some om) (hp : ptr m = none) : ∀ (al : List Nat) (a : Act), al.Nodup → m ∈ al → (∀ m' ∈ al, m' ≠ m → ∀ o', ops[m']? = some o' → o'.apart ops om = true) →
    setAll ops (upd ptr m g) al a = (setAll ops ptr al a).put om.dst (.pointer (some ⟨g, 0, none⟩))
  | [], a, _, hm, _ => by cases hm
  | x :: al, a, hnd, hm, h => by
    have hnd' := List.nodup_cons.1 hnd
    by_cases hx : x = m
    · subst hx
      have e1 : setAll ops (upd ptr x g) al a = setAll ops ptr al a := setAll_congr al a fun m' hm' => by
        have : m' ≠ x := fun e => hnd'.1 (e ▸ hm')
        simp [upd, this]
      show setAll ops (upd ptr x g) (x :: al) a = (setAll ops ptr (x :: al) a).put om.dst _
      unfold setAll
      simp only [upd, if_true, hom, hp]
      exact congrArg (fun b : Act => b.put om.dst (.pointer (some ⟨g, 0, none⟩))) e1
    · have hm' : m ∈ al := by
        rcases List.mem_cons.1 hm with e | e
        · exact absurd e.symm hx
        · exact e
      have ih := setAll_upd (g := g) hom hp al a hnd'.2 hm' (fun m' h' => h m' (by simp [h']))
      show setAll ops (upd ptr m g) (x :: al) a = (setAll ops ptr (x :: al) a).put om.dst _
      unfold setAll
      simp only [upd, hx, if_false]
      cases hpx : ptr x with
      | none => simpa using ih
      | some gx =>
        cases hox : ops[x]? with
        | none => simpa using ih
        | some ox =>
          simp only
          rw [ih, Act.put_comm _ _ _ (fun d hd heq => (Oper.apart_spec (h x (by simp) hx ox hox)).2.1 d heq hd)]

/-- how many are not yet laid -/
def pend (ptr : Nat → Option Nat) (al : List Nat) : Nat := (al.filter fun m => (ptr m).isNone).length
theorem pend_upd {ptr : Nat → Option Nat} {m g : Nat} (hp : ptr m = none) : ∀ (al : List Nat), al.Nodup → m ∈ al → pend ptr al = pend (upd ptr m g) al + 1
  | [], _, hm => by cases hm
  | x :: al, hnd, hm => by
    have hnd' := List.nodup_cons.1 hnd
    by_cases hx : x = m
    · subst hx
      have e1 : (al.filter fun m => ((upd ptr x g) m).isNone) = al.filter fun m => (ptr m).isNone := by
        refine List.filter_congr fun m' hm' => ?_
        have : m' ≠ x := fun e => hnd'.1 (e ▸ hm')
        simp [upd, this]
      unfold pend
      rw [List.filter_cons, List.filter_cons, e1]
      simp [hp, upd]
    · have hm' : m ∈ al := by
        rcases List.mem_cons.1 hm with e | e
        · exact absurd e.symm hx
        · exact e
      have ih := pend_upd (g := g) hp al hnd'.2 hm'
      unfold pend at ih ⊢
      rw [List.filter_cons, List.filter_cons]
      have e2 : upd ptr m g x = ptr x := by simp [upd, hx]
      rw [e2]
      split <;> simp [ih]

/-- what is needed of a region, by its numbers: the head (in the order of the text), what is laid, the tail (in its order) -/
def allB (ops : Array Oper) (n : Nat) (hd al tl : List Nat) : Bool :=
  Region.noSelect ops && (List.range ops.size).all (fun j => hd.contains j || al.contains j || tl.contains j) && (hd ++ al ++ tl).all (fun j => decide (j < ops.size)) &&
  decide al.Nodup && al.all (fun m => !hd.contains m && !tl.contains m) &&
  tl.all (fun t => (hd ++ al).all fun i => waits .any ops ops.size t i) &&
  al.all (fun m => match ops[m]? with | some om => om.after.isEmpty && om.guard.isNone && (List.range ops.size).all (fun j => j == m || tl.contains j || (match ops[j]? with | some o => om.apart ops o | none => true)) | none => false) &&
  lexL .any ops tl hd (mark al (Array.replicate ops.size false)) && dstsB n (hd.filterMap fun i => ops[i]?) && decide (hd.length + al.length + tl.length = ops.size)

theorem run_al {Q' : Exit → Act → World → Prop} {A : Act} {hd al tl : List Nat} {Z : Nat → Obj} (n : Nat) (hB : allB ops n hd al tl = true)
    (hal : ∀ m ∈ al, ∀ o, ops[m]? = some o → ∀ (ρ : Operand → Value) w, (execOp ρ o).run P w = .ok (.value (.pointer (some ⟨w.heap.size, 0, none⟩))) (w.alloc (Z m)))
    (ht : ∀ (U : World) (ptr : Nat → Option Nat), C W U → (∀ m ∈ al, ∃ g, ptr m = some g ∧ W.heap.size ≤ g ∧ U.heap[g]? = some (Z m)) → (∀ m ∈ al, ∀ m' ∈ al, m ≠ m' → ptr m ≠ ptr m') →
      wpList P ops Q' (tl.filterMap fun i => ops[i]?) (setAll ops ptr al A) U) :
    ∀ (N f : Nat) (ptr : Nat → Option Nat) (listed : Array Bool) (a0 : Act) (w : World), f + pend ptr al = N → headR P .any ops W hd (fun l a => seqL .any ops tl l = true ∧ a = A) f (mark al listed) a0 →
      Closed .any ops listed → (∀ m ∈ al, listed.getD m false = (ptr m).isSome) → C W w → (∀ m ∈ al, ∀ g, ptr m = some g → W.heap.size ≤ g ∧ w.heap[g]? = some (Z m)) →
      (∀ m ∈ al, ∀ m' ∈ al, m ≠ m' → ptr m = ptr m' → ptr m = none) → wpAny P .any ops Q' (f + pend ptr al + tl.length) listed (setAll ops ptr al a0) w := by
  simp only [allB, Bool.and_eq_true, List.all_eq_true, List.mem_range, Bool.or_eq_true, decide_eq_true_eq, List.contains_iff_mem, Bool.not_eq_true', List.mem_append] at hB
  obtain ⟨⟨⟨⟨⟨⟨⟨⟨⟨hsel, hcov⟩, hlt⟩, hnd⟩, hdis⟩, htw⟩, halB⟩, hlex⟩, hds⟩, hlen⟩ := hB
  intro N
  induction N with
  | zero =>
    intro f ptr listed a0 w hN H inv hl hC hg hne
    obtain rfl : f = 0 := by omega
    have hp0 : pend ptr al = 0 := by omega
    have hall : ∀ m ∈ al, ∃ g, ptr m = some g := by
      intro m hm
      cases h : ptr m with
      | some g => exact ⟨g, rfl⟩
      | none =>
        have : m ∈ al.filter fun m => (ptr m).isNone := List.mem_filter.2 ⟨hm, by simp [h]⟩
        rw [List.eq_nil_of_length_eq_zero hp0] at this
        cases this
    have hmk : mark al listed = listed := mark_all al listed fun m hm => by rw [hl m hm]; obtain ⟨g, e⟩ := hall m hm; simp [e]
    obtain ⟨hs, rfl⟩ := H
    rw [hmk] at hs
    rw [hp0]
    simp only [Nat.zero_add]
    refine wpAny_of_seqL tl listed _ w (fun k hk => hlt k (.inr hk)) hs (ht w ptr hC (fun m hm => ?_) (fun m hm m' hm' hmm e => ?_))
    · obtain ⟨g, e⟩ := hall m hm
      exact ⟨g, e, hg m hm g e⟩
    · obtain ⟨g, e1⟩ := hall m hm
      have := hne m hm m' hm' hmm e
      rw [e1] at this
      cases this
  | succ N ih =>
    intro f ptr listed a0 w hN H inv hl hC hg hne
    rw [show f + pend ptr al + tl.length = (N + tl.length) + 1 by omega]
    have hone : ∀ m ∈ al, ptr m = none → m ∈ Region.ready .any ops listed := by
      intro m hm hp
      have hml := hlt m (.inl (.inr hm))
      refine mem_ready.2 ⟨getD_in (by rw [inv.size]; exact hml) (by rw [hl m hm, hp]; rfl), ops[m], Array.getElem?_eq_getElem hml, fun e he _ => ?_⟩
      have := halB m hm
      rw [Array.getElem?_eq_getElem hml] at this
      simp only [Bool.and_eq_true, Array.isEmpty_iff] at this
      rw [this.1.1] at he
      simp at he
    have hsome : Region.ready .any ops listed ≠ [] := by
      by_cases hp0 : pend ptr al = 0
      · have hall : ∀ m ∈ al, listed.getD m false = true := by
          intro m hm
          rw [hl m hm]
          cases h : ptr m with
          | some g => rfl
          | none =>
            have : m ∈ al.filter fun m => (ptr m).isNone := List.mem_filter.2 ⟨hm, by simp [h]⟩
            rw [List.eq_nil_of_length_eq_zero hp0] at this
            cases this
        rw [mark_all al listed hall] at H
        cases f with
        | zero => omega
        | succ f => exact H.1
      · obtain ⟨m, hm⟩ := List.exists_mem_of_length_pos (l := al.filter fun m => (ptr m).isNone) (by unfold pend at hp0; omega)
        obtain ⟨h1, h2⟩ := List.mem_filter.1 hm
        intro h0
        have := hone m h1 (by simpa using h2)
        rw [h0] at this
        cases this
    refine ⟨fun h0 => absurd h0 hsome, fun i hi => ?_⟩
    obtain ⟨hun, oi, hoi, hall⟩ := mem_ready.1 hi
    by_cases hia : i ∈ al
    · have hp : ptr i = none := by
        have := hl i hia
        rw [getD_both hun] at this
        cases h : ptr i with
        | none => rfl
        | some g => rw [h] at this; cases this
      have hB := halB i hia
      rw [hoi] at hB
      simp only [Bool.and_eq_true, List.all_eq_true, List.mem_range, Bool.or_eq_true, beq_iff_eq, List.contains_iff_mem, Option.isNone_iff_eq_none] at hB
      obtain ⟨⟨_, hgd⟩, hap⟩ := hB
      have hput := setAll_upd (g := w.heap.size) hoi hp al a0 hnd hia (fun m' hm' hne' o' ho' => by
        have h2 := halB m' hm'
        rw [ho'] at h2
        simp only [Bool.and_eq_true, List.all_eq_true, List.mem_range, Bool.or_eq_true, beq_iff_eq, List.contains_iff_mem] at h2
        have h3 := h2.2 i (Array.getElem?_eq_some_iff.1 hoi).1
        rw [hoi] at h3
        rcases h3 with (h3 | h3) | h3
        · exact absurd h3.symm hne'
        · have := (hdis i hia).2
          simp [h3] at this
        · exact h3)
      have hpe := pend_upd (g := w.heap.size) hp al hnd hia
      have hrun := hal i hia oi hoi
      unfold wpOp
      simp only [hoi]
      have hw : Region.wanted oi (yielded ops (setAll ops ptr al a0).tmps) = true := by simp [Region.wanted, hgd]
      rw [if_pos hw]
      left
      unfold Oper.wp
      rw [hrun]
      simp only [Oper.upon]
      rw [← hput]
      have := ih f (upd ptr i w.heap.size) (listed.setIfInBounds i true) a0 (w.alloc (Z i)) (by omega) (by rw [mark_set_al _ _ _ hia]; exact H) (inv.set hi) (fun m hm => ?_) (C_alloc hC _) (fun m hm g e => ?_) (fun m hm m' hm' hmm e => ?_)
      · rwa [show f + pend (upd ptr i w.heap.size) al + tl.length = N + tl.length by omega] at this
      · rw [set_getD]
        by_cases hmi : i = m
        · subst hmi
          have : i < listed.size := by rw [inv.size]; exact (Array.getElem?_eq_some_iff.1 hoi).1
          simp [upd, this]
        · rw [if_neg (fun h => hmi h.1), hl m hm]
          simp [upd, Ne.symm hmi]
      · by_cases hmi : m = i
        · subst hmi
          simp [upd] at e
          subst e
          exact ⟨(mem_C.1 hC).size, heap_alloc_new w _⟩
        · simp only [upd, hmi, if_false] at e
          obtain ⟨h1, h2⟩ := hg m hm g e
          refine ⟨h1, ?_⟩
          have hlt' : g < w.heap.size := by
            rcases Nat.lt_or_ge g w.heap.size with h | h
            · exact h
            · rw [Array.getElem?_eq_none h] at h2; cases h2
          exact (Below.heap_alloc w _ g hlt').trans h2
      · have old : ∀ m ∈ al, ∀ g, ptr m = some g → g < w.heap.size := by
          intro m hm g e
          obtain ⟨h1, h2⟩ := hg m hm g e
          rcases Nat.lt_or_ge g w.heap.size with h | h
          · exact h
          · rw [Array.getElem?_eq_none h] at h2; cases h2
        by_cases hmi : m = i
        · subst hmi
          simp only [upd, if_true, Ne.symm hmm, if_false] at e
          have := old m' hm' _ e.symm
          omega
        · by_cases hmi' : m' = i
          · subst hmi'
            simp only [upd, hmi, if_true, if_false] at e
            have := old m hm _ e
            omega
          · simp only [upd, hmi, hmi', if_false] at e ⊢
            exact hne m hm m' hm' hmm e
    · have hrm : i ∈ Region.ready .any ops (mark al listed) := by
        refine mem_ready.2 ⟨?_, oi, hoi, fun e he hb => ?_⟩
        · have hlt' : i < listed.size := by rw [inv.size]; exact (Array.getElem?_eq_some_iff.1 hoi).1
          rw [mark_getD, if_pos hlt', getD_both hun]
          simp [hia]
        · have h1 := hall e he hb
          have hlt' : e.on < listed.size := by
            rcases Nat.lt_or_ge e.on listed.size with h | h
            · exact h
            · simp [Array.getElem?_eq_none h] at h1
          rw [mark_getD, if_pos hlt', h1]
          rfl
      cases f with
      | zero =>
        have hit := seqL_ready H.1 i hrm
        have hp : pend ptr al ≠ 0 := by omega
        obtain ⟨m, hm⟩ := List.exists_mem_of_length_pos (l := al.filter fun m => (ptr m).isNone) (by unfold pend at hp; omega)
        obtain ⟨h1, h2⟩ := List.mem_filter.1 hm
        have h3 := waits_spec inv ops.size i (htw i hit m (.inr h1)) fun o ho => by rw [hoi] at ho; cases ho; exact hall
        rw [hl m h1] at h3
        cases h : ptr m <;> simp [h] at h2 h3
      | succ f =>
        obtain ⟨hih, hr⟩ := H.2 i hrm
        unfold rOp at hr
        simp only [hoi] at hr
        obtain ⟨v, hy, hK⟩ := hr
        rw [← mark_set] at hK
        have hap : ∀ m ∈ al, ∀ om, ops[m]? = some om → om.apart ops oi = true := by
          intro m hm om hom
          have h2 := halB m hm
          rw [hom] at h2
          simp only [Bool.and_eq_true, List.all_eq_true, List.mem_range, Bool.or_eq_true, beq_iff_eq, List.contains_iff_mem] at h2
          have h3 := h2.2 i (Array.getElem?_eq_some_iff.1 hoi).1
          rw [hoi] at h3
          rcases h3 with (h3 | h3) | h3
          · exact absurd (h3 ▸ hm) hia
          · have h4 := htw i h3 i (.inl hih)
            have h5 := waits_spec inv ops.size i h4 fun o ho => by rw [hoi] at ho; cases ho; exact hall
            rw [getD_both hun] at h5
            cases h5
          · exact h3
        have hselo := fun cs b => Region.noSelect_spec hsel i oi cs b hoi
        obtain ⟨hex, hwt⟩ := setAll_exec (ops := ops) ptr hselo al a0 hap
        have hy' := hy.of_same hex hwt
        have hput := setAll_put ptr v al a0 hap
        have next : ∀ w', C w w' → wpAny P .any ops Q' (N + tl.length) (listed.setIfInBounds i true) ((setAll ops ptr al a0).put oi.dst v) w' := by
          intro w' hw'
          rw [hput]
          have := ih f ptr (listed.setIfInBounds i true) (a0.put oi.dst v) w' (by omega) hK (inv.set hi) (fun m hm => by
            rw [set_getD, if_neg (fun h : i = m ∧ m < listed.size => hia (h.1.symm ▸ hm))]; exact hl m hm) (C_trans hC hw') (fun m hm g e => by
            obtain ⟨h1, h2⟩ := hg m hm g e
            have hlt' : g < w.heap.size := by
              rcases Nat.lt_or_ge g w.heap.size with h | h
              · exact h
              · rw [Array.getElem?_eq_none h] at h2; cases h2
            exact ⟨h1, ((mem_C.1 hw').block g hlt').trans h2⟩) hne
          rwa [show f + pend ptr al + tl.length = N + tl.length by omega] at this
        unfold wpOp
        simp only [hoi]
        rcases hy' with ⟨hw, hq⟩ | ⟨hw, rfl⟩
        · rw [if_pos hw]
          left
          refine Oper.wp_of_quiet (C := C w) (K := fun b => b = (setAll ops ptr al a0).put oi.dst v) (C_refl w) (fun b w' hw' e => by rw [e]; exact next w' hw') ⟨v, fun w' hw' => ?_, rfl⟩
          have h1 := hq w' (C_trans hC hw')
          unfold Oper.quietAt at h1 ⊢
          refine quietUpon_mono (fun x hx => C_trans hw' hx) h1
        · rw [if_neg (by rw [hw]; exact Bool.false_ne_true)]
          exact next w (C_refl w)

theorem alloc_region {id : Nat} {Q : Exit → Act → World → Prop} {a : Act} {l : List Oper} (hd al tl : List Nat) (n : Nat) (hm : P.follows .mixedOrders = true) (hn : a.tmps.size = n) (hB : allB l.toArray n hd al tl = true) (A : Act) (Z : Nat → Obj)
    (hal : ∀ m ∈ al, ∀ o, l.toArray[m]? = some o → ∀ (ρ : Operand → Value) w, (execOp ρ o).run P w = .ok (.value (.pointer (some ⟨w.heap.size, 0, none⟩))) (w.alloc (Z m)))
    (h : ∀ W1, Below W.heap.size W W1 → wpQuiet P l.toArray (C W1) (fun a' => a' = A) (hd.filterMap fun i => l.toArray[i]?) a)
    (ht : ∀ (U : World) (ptr : Nat → Option Nat), Below W.heap.size W U → (∀ m ∈ al, ∃ g, ptr m = some g ∧ W.heap.size ≤ g ∧ U.heap[g]? = some (Z m)) → (∀ m ∈ al, ∀ m' ∈ al, m ≠ m' → ptr m ≠ ptr m') →
      wpList P l.toArray Q (tl.filterMap fun i => l.toArray[i]?) (setAll l.toArray ptr al A) U) : (Code.region id l.toArray true).wp P Q a W := by
  refine wp_region_any hm ?_
  have hB' := hB
  simp only [allB, Bool.and_eq_true, List.all_eq_true, List.mem_range, Bool.or_eq_true, decide_eq_true_eq, List.contains_iff_mem, Bool.not_eq_true', List.mem_append] at hB'
  obtain ⟨⟨⟨⟨⟨⟨⟨⟨⟨hsel, hcov⟩, hlt⟩, hnd⟩, hdis⟩, htw⟩, halB⟩, hlex⟩, hds⟩, hlen⟩ := hB'
  have hC0 : C W W.drew := mem_C.2 ⟨rfl, rfl, rfl, Nat.le_refl _, fun _ _ => rfl⟩
  have inv0 : Closed .any l.toArray (Array.replicate l.toArray.size false) := ⟨by simp, fun j oj _ hl => (by rw [getD_replicate_false] at hl; cases hl)⟩
  have invm : Closed .any l.toArray (mark al (Array.replicate l.toArray.size false)) := by
    refine ⟨by rw [mark_size]; simp, fun j oj hj hl e he hb => ?_⟩
    rw [mark_getD, getD_replicate_false] at hl
    have hja : j ∈ al := by
      split at hl
      · simpa using hl
      · cases hl
    have := halB j hja
    rw [hj] at this
    simp only [Bool.and_eq_true, Array.isEmpty_iff] at this
    rw [this.1.1] at he
    simp at he
  have H := headR_lex (W := W) (F := l.toArray.size) (A := A) hsel (fun t ht' i hi => htw t ht' i (.inl hi)) hd _ a (fun k hk => hk) invm (fun j hj hjl => by
    rcases hcov j hjl with (h1 | h1) | h1
    · exact .inl h1
    · rw [mark_getD] at hj
      exfalso
      have hj2 : j < l.length := by simpa using hjl
      have hj3 : j ∈ al := h1
      simp [hj3, hj2] at hj
    · exact .inr h1) hlex (by rw [hn]; exact hds) (fun k hk => hlt k (.inl (.inl hk))) (fun W1 h1 => h W1 (mem_C.1 h1))
  have hp : pend (fun _ => none) al = al.length := by simp [pend]
  have e0 : setAll l.toArray (fun _ => none) al a = a := by
    clear hB hal ht h hcov hlt hnd hdis htw halB hlex H hp invm hlen
    induction al with
    | nil => rfl
    | cons x al ih => unfold setAll; exact ih
  have := run_al (W := W) (Q' := Q) (A := A) n hB hal (fun U ptr hU => ht U ptr (mem_C.1 hU)) _ hd.length (fun _ => none) _ a W.drew rfl H inv0 (fun m hm => by rw [getD_replicate_false]; rfl) hC0 (fun m hm g e => by cases e) (fun m hm m' hm' hmm e => rfl)
  rw [e0, hp, hlen] at this
  exact this

/-- the frame with these values in the slots of these operations -/
def puts : List Oper → List Value → Act → Act
  | o :: os, v :: vs, a => puts os vs (a.put o.dst v)
  | _, _, a => a
theorem puts_cons (o : Oper) (os : List Oper) (v : Value) (vs : List Value) (a : Act) : puts (o :: os) (v :: vs) a = puts os vs (a.put o.dst v) := rfl
theorem puts_nil (vs : List Value) (a : Act) : puts [] vs a = a := by unfold puts; rfl

/-- one block of its own; vs: what the operations of the head yield, in the order of the text -/
theorem alloc_one {id : Nat} {Q : Exit → Act → World → Prop} {a : Act} {l : List Oper} (hd tl : List Nat) (m : Nat) (d : Tmp) (o : Oper) (vs : List Value) (hom : l.toArray[m]? = some o) (hod : o.dst = some d) (hm : P.follows .mixedOrders = true) (hB : allB l.toArray a.tmps.size hd [m] tl = true) (Z : Obj)
    (hal : ∀ (ρ : Operand → Value) w, (execOp ρ o).run P w = .ok (.value (.pointer (some ⟨w.heap.size, 0, none⟩))) (w.alloc Z))
    (h1 : ∀ W1, Below W.heap.size W W1 → wpQuiet P l.toArray (fun w' => ∃ p : Regrown, w' = Sort.grow (redrawn W1 p.d) p.os) (fun a' => a' = puts (hd.filterMap fun i => l[i]?) vs a) (hd.filterMap fun i => l[i]?) a)
    (h2 : ∀ (U : World) (g : Nat), Below W.heap.size W U → W.heap.size ≤ g → U.heap[g]? = some Z → wpList P l.toArray Q (tl.filterMap fun i => l[i]?) ((puts (hd.filterMap fun i => l[i]?) vs a).put (some d) (.pointer (some ⟨g, 0, none⟩))) U) : (Code.region id l.toArray true).wp P Q a W := by
  have e : ∀ ks : List Nat, (ks.filterMap fun i => l.toArray[i]?) = ks.filterMap fun i => l[i]? := fun ks => by simp
  refine alloc_region hd [m] tl a.tmps.size hm rfl hB (puts (hd.filterMap fun i => l[i]?) vs a) (fun _ => Z) ?_ (fun W1 hW1 => by rw [e]; exact h1 W1 hW1) (fun U ptr hU hg hne => ?_)
  · intro m' hm' o' ho' ρ w
    obtain rfl : m' = m := by simpa using hm'
    rw [hom] at ho'
    cases ho'
    exact hal ρ w
  · obtain ⟨g, hp, hg1, hg2⟩ := hg m (by simp)
    have := h2 U g hU hg1 hg2
    rw [e]
    simp only [setAll, hp, hom]
    rw [hod]
    exact this
/-- the same for three -/
theorem alloc_three {id : Nat} {Q : Exit → Act → World → Prop} {a : Act} {l : List Oper} (hd tl : List Nat) (m1 m2 m3 : Nat) (d1 d2 d3 : Tmp) (o1 o2 o3 : Oper) (vs : List Value) (h1m : l.toArray[m1]? = some o1) (h2m : l.toArray[m2]? = some o2) (h3m : l.toArray[m3]? = some o3)
    (h1d : o1.dst = some d1) (h2d : o2.dst = some d2) (h3d : o3.dst = some d3) (h12 : m1 ≠ m2) (h13 : m1 ≠ m3) (h23 : m2 ≠ m3) (hm : P.follows .mixedOrders = true) (hB : allB l.toArray a.tmps.size hd [m1, m2, m3] tl = true) (Z1 Z2 Z3 : Obj)
    (ha1 : ∀ (ρ : Operand → Value) w, (execOp ρ o1).run P w = .ok (.value (.pointer (some ⟨w.heap.size, 0, none⟩))) (w.alloc Z1))
    (ha2 : ∀ (ρ : Operand → Value) w, (execOp ρ o2).run P w = .ok (.value (.pointer (some ⟨w.heap.size, 0, none⟩))) (w.alloc Z2))
    (ha3 : ∀ (ρ : Operand → Value) w, (execOp ρ o3).run P w = .ok (.value (.pointer (some ⟨w.heap.size, 0, none⟩))) (w.alloc Z3))
    (h1 : ∀ W1, Below W.heap.size W W1 → wpQuiet P l.toArray (fun w' => ∃ p : Regrown, w' = Sort.grow (redrawn W1 p.d) p.os) (fun a' => a' = puts (hd.filterMap fun i => l[i]?) vs a) (hd.filterMap fun i => l[i]?) a)
    (h2 : ∀ (U : World) (g1 g2 g3 : Nat), Below W.heap.size W U → W.heap.size ≤ g1 → W.heap.size ≤ g2 → W.heap.size ≤ g3 → U.heap[g1]? = some Z1 → U.heap[g2]? = some Z2 → U.heap[g3]? = some Z3 → g1 ≠ g2 → g1 ≠ g3 → g2 ≠ g3 →
      wpList P l.toArray Q (tl.filterMap fun i => l[i]?) ((((puts (hd.filterMap fun i => l[i]?) vs a).put (some d3) (.pointer (some ⟨g3, 0, none⟩))).put (some d2) (.pointer (some ⟨g2, 0, none⟩))).put (some d1) (.pointer (some ⟨g1, 0, none⟩))) U) : (Code.region id l.toArray true).wp P Q a W := by
  have e : ∀ ks : List Nat, (ks.filterMap fun i => l.toArray[i]?) = ks.filterMap fun i => l[i]? := fun ks => by simp
  refine alloc_region hd [m1, m2, m3] tl a.tmps.size hm rfl hB (puts (hd.filterMap fun i => l[i]?) vs a) (fun m => if m = m1 then Z1 else if m = m2 then Z2 else Z3) ?_ (fun W1 hW1 => by rw [e]; exact h1 W1 hW1) (fun U ptr hU hg hne => ?_)
  · intro m' hm' o' ho' ρ w
    have : m' = m1 ∨ m' = m2 ∨ m' = m3 := by simpa using hm'
    rcases this with rfl | rfl | rfl
    · rw [h1m] at ho'; cases ho'; rw [if_pos rfl]; exact ha1 ρ w
    · rw [h2m] at ho'; cases ho'; rw [if_neg (Ne.symm h12), if_pos rfl]; exact ha2 ρ w
    · rw [h3m] at ho'; cases ho'; rw [if_neg (Ne.symm h13), if_neg (Ne.symm h23)]; exact ha3 ρ w
  · obtain ⟨g1, p1, b1, k1⟩ := hg m1 (by simp)
    obtain ⟨g2, p2, b2, k2⟩ := hg m2 (by simp)
    obtain ⟨g3, p3, b3, k3⟩ := hg m3 (by simp)
    rw [if_pos rfl] at k1
    rw [if_neg (Ne.symm h12), if_pos rfl] at k2
    rw [if_neg (Ne.symm h13), if_neg (Ne.symm h23)] at k3
    have n12 := hne m1 (by simp) m2 (by simp) h12
    have n13 := hne m1 (by simp) m3 (by simp) h13
    have n23 := hne m2 (by simp) m3 (by simp) h23
    rw [p1, p2] at n12
    rw [p1, p3] at n13
    rw [p2, p3] at n23
    have := h2 U g1 g2 g3 hU b1 b2 b3 k1 k2 k3 (fun h => n12 (by rw [h])) (fun h => n13 (by rw [h])) (fun h => n23 (by rw [h]))
    rw [e]
    simp only [setAll, p1, p2, p3, h1m, h2m, h3m]
    rw [h1d, h2d, h3d]
    exact this
end
end Go.Proofs.Ytkklppjimnkibaa.Alc

/-
  A list's links in the store; end, has, join, Touch, Pin, New.
-/
import Derived.Test.YtabedlahdkkihaaLrM
import Derived.Test.YtabedlahdkkihaaIt
import Derived.Test.YtabedlahdkkihaaReg
import Derived.Test.YtabedlahdkkihaaMid
import Derived.Laws.MakeOwn
import Derived.BigQuiet
import Derived.BigGuard
import Derived.Deep.QuietTactic
namespace Go.Proofs.Ytabedlahdkkihaa.LrA
open Go.RowKit Rd Go.Proofs.Ytabedlahdkkihaa.Row LrM
set_option linter.unusedVariables false
set_option linter.unusedSimpArgs false
set_option maxRecDepth 10000
structure Lst (X : World) (b g n : Nat) (old yng : Nat → Nat) (pin : Nat → Bool) : Prop where
  b : blk X b = some (.cells #[.slice (some ⟨g, 0, none⟩) (n + 1) (n + 1)] 49 (0, 0))
  g : ∃ c, blk X g = some (.cells c 54 (0, 0)) ∧ c.size = (n + 1) * 3 ∧ ∀ i, i ≤ n → c[i * 3]? = some (.int .i64 (old i)) ∧ c[i * 3 + 1]? = some (.int .i64 (yng i)) ∧ c[i * 3 + 2]? = some (.bool (pin i))
  small : 1 ≤ n ∧ n ≤ 128
variable {X Y : World} {b g n : Nat} {old yng : Nat → Nat} {pin : Nat → Bool}
theorem Lst.ne (h : Lst X b g n old yng pin) : b ≠ g := by
  intro e
  subst e
  obtain ⟨c, hc, hs, -⟩ := h.g
  have := h.b.symm.trans hc
  injection this with this
  injection this with e1 e2 e3
  rw [← e1] at hs
  have : 1 = (n + 1) * 3 := hs
  omega
theorem Lst.lt (h : Lst X b g n old yng pin) : b < X.heap.size ∧ g < X.heap.size := ⟨blk_lt h.b, by obtain ⟨c, hc, -⟩ := h.g; exact blk_lt hc⟩
theorem Lst.kept (h : Lst X b g n old yng pin) (hb : Y.heap[b]? = X.heap[b]?) (hg : Y.heap[g]? = X.heap[g]?) : Lst Y b g n old yng pin :=
  ⟨hb.trans h.b, by obtain ⟨c, hc, h2⟩ := h.g; exact ⟨c, hg.trans hc, h2⟩, h.small⟩
theorem Lst.below {B : Nat} (h : Lst X b g n old yng pin) (hb : Below B X Y) (h1 : b < B) (h2 : g < B) : Lst Y b g n old yng pin := h.kept (hb.block b h1) (hb.block g h2)
theorem Lst.bel (h : Lst X b g n old yng pin) (hb : Below X.heap.size X Y) : Lst Y b g n old yng pin := h.below hb h.lt.1 h.lt.2
theorem Lst.c0 (h : Lst X b g n old yng pin) : X.cell? ⟨b, 0, none⟩ = some (.slice (some ⟨g, 0, none⟩) (n + 1) (n + 1)) := by rw [blk_cell h.b]; rfl
theorem Lst.cO (h : Lst X b g n old yng pin) {i : Nat} (hi : i ≤ n) : X.cell? ⟨g, i * 3, none⟩ = some (.int .i64 (old i)) := by
  obtain ⟨c, hc, -, h2⟩ := h.g
  rw [blk_cell hc]; exact (h2 i hi).1
theorem Lst.cY (h : Lst X b g n old yng pin) {i : Nat} (hi : i ≤ n) : X.cell? ⟨g, i * 3 + 1, none⟩ = some (.int .i64 (yng i)) := by
  obtain ⟨c, hc, -, h2⟩ := h.g
  rw [blk_cell hc]; exact (h2 i hi).2.1
theorem Lst.cP (h : Lst X b g n old yng pin) {i : Nat} (hi : i ≤ n) : X.cell? ⟨g, i * 3 + 2, none⟩ = some (.bool (pin i)) := by
  obtain ⟨c, hc, -, h2⟩ := h.g
  rw [blk_cell hc]; exact (h2 i hi).2.2
theorem Lst.fr (h : Lst X b g n old yng pin) (k : Nat) : X.frozen? ⟨g, k, none⟩ = false := by
  obtain ⟨c, hc, -⟩ := h.g
  exact blk_frozen hc k
theorem set_b (h : Lst X b g n old yng pin) (k : Nat) (v : Value) : blk (X.setCell ⟨g, k, none⟩ v) b = some (.cells #[.slice (some ⟨g, 0, none⟩) (n + 1) (n + 1)] 49 (0, 0)) :=
  (heap_setCell_other X ⟨g, k, none⟩ b v (fun e => h.ne (by first | exact e | exact e.symm))).trans h.b
theorem Lst.setO (h : Lst X b g n old yng pin) {a : Nat} (ha : a ≤ n) (v : Nat) : Lst (X.setCell ⟨g, a * 3, none⟩ (.int .i64 v)) b g n (put old a v) yng pin := by
  refine ⟨set_b h _ _, ?_, h.small⟩
  obtain ⟨c, hc, hs, h2⟩ := h.g
  refine ⟨_, blk_set X g _ _ _ _ hc, by simpa using hs, fun i hi => ?_⟩
  simp only [Array.getElem?_setIfInBounds]
  rw [if_neg (by omega : ¬ a * 3 = i * 3 + 1), if_neg (by omega : ¬ a * 3 = i * 3 + 2)]
  refine ⟨?_, (h2 i hi).2⟩
  by_cases e : i = a
  · subst e
    rw [if_pos rfl, if_pos (by omega), put_same]
  · rw [if_neg (by omega), put_ne _ _ e]; exact (h2 i hi).1
theorem Lst.setY (h : Lst X b g n old yng pin) {a : Nat} (ha : a ≤ n) (v : Nat) : Lst (X.setCell ⟨g, a * 3 + 1, none⟩ (.int .i64 v)) b g n old (put yng a v) pin := by
  refine ⟨set_b h _ _, ?_, h.small⟩
  obtain ⟨c, hc, hs, h2⟩ := h.g
  refine ⟨_, blk_set X g _ _ _ _ hc, by simpa using hs, fun i hi => ?_⟩
  simp only [Array.getElem?_setIfInBounds]
  rw [if_neg (by omega : ¬ a * 3 + 1 = i * 3), if_neg (by omega : ¬ a * 3 + 1 = i * 3 + 2)]
  refine ⟨(h2 i hi).1, ?_, (h2 i hi).2.2⟩
  by_cases e : i = a
  · subst e
    rw [if_pos rfl, if_pos (by omega), put_same]
  · rw [if_neg (by omega), put_ne _ _ e]; exact (h2 i hi).2.1
theorem Lst.setP (h : Lst X b g n old yng pin) {a : Nat} (ha : a ≤ n) (v : Bool) : Lst (X.setCell ⟨g, a * 3 + 2, none⟩ (.bool v)) b g n old yng (put pin a v) := by
  refine ⟨set_b h _ _, ?_, h.small⟩
  obtain ⟨c, hc, hs, h2⟩ := h.g
  refine ⟨_, blk_set X g _ _ _ _ hc, by simpa using hs, fun i hi => ?_⟩
  simp only [Array.getElem?_setIfInBounds]
  rw [if_neg (by omega : ¬ a * 3 + 2 = i * 3), if_neg (by omega : ¬ a * 3 + 2 = i * 3 + 1)]
  refine ⟨(h2 i hi).1, (h2 i hi).2.1, ?_⟩
  by_cases e : i = a
  · subst e
    rw [if_pos rfl, if_pos (by omega), put_same]
  · rw [if_neg (by omega), put_ne _ _ e]; exact (h2 i hi).2.2
theorem set_grown (X : World) (g k : Nat) (v : Value) : X.grownBy (X.setCell ⟨g, k, none⟩ v) (some g) :=
  ⟨rfl, rfl, rfl, by simp, fun j hj hne => heap_setCell_other X ⟨g, k, none⟩ j v (fun e => hne (by rw [e]))⟩
/-- a list: its order, who is pinned -/
def St (X : World) (b g n : Nat) (o : List Nat) (pin : Nat → Bool) : Prop := ∃ old yng, Lst X b g n old yng pin ∧ Ring n old yng o
theorem St.kept {o : List Nat} (h : St X b g n o pin) (hb : Y.heap[b]? = X.heap[b]?) (hg : Y.heap[g]? = X.heap[g]?) : St Y b g n o pin := by
  obtain ⟨old, yng, h1, h2⟩ := h
  exact ⟨old, yng, h1.kept hb hg, h2⟩
theorem St.lt {o : List Nat} (h : St X b g n o pin) : b < X.heap.size ∧ g < X.heap.size := by
  obtain ⟨old, yng, h1, h2⟩ := h
  exact h1.lt
theorem St.small {o : List Nat} (h : St X b g n o pin) : 1 ≤ n ∧ n ≤ 128 := by
  obtain ⟨old, yng, h1, h2⟩ := h
  exact h1.small
theorem St.ne {o : List Nat} (h : St X b g n o pin) : b ≠ g := by
  obtain ⟨old, yng, h1, h2⟩ := h
  exact h1.ne
theorem St.below {B : Nat} {o : List Nat} (h : St X b g n o pin) (hb : Below B X Y) (h1 : b < B) (h2 : g < B) : St Y b g n o pin := h.kept (hb.block b h1) (hb.block g h2)
theorem St.bel {o : List Nat} (h : St X b g n o pin) (hb : Below X.heap.size X Y) : St Y b g n o pin := h.below hb h.lt.1 h.lt.2
theorem St.perm {o : List Nat} (h : St X b g n o pin) : o.Nodup ∧ (∀ x ∈ o, x < n) ∧ ∀ x, x < n → x ∈ o := by
  obtain ⟨old, yng, h1, h2⟩ := h
  exact ⟨h2.nodup, h2.lt, h2.all⟩
theorem ret_int {k : IntKind} {a b : Int} (h : a = b) : Ending.returned (.int k a) = .returned (.int k b) := by rw [h]
theorem end_any (w : World) (h : Lst w b g n old yng pin) :
    Calls Try.prog 22 #[.pointer (some ⟨b, 0, none⟩)] w fun e w' => e = .returned (.int .i64 n) ∧ w = w' := by
  have c0 := h.c0
  have hs := h.small
  clear h
  go_enter Try.func22, Try.ntmps22
  go_wp2
  go_ret
  exact ⟨ret_int (by omega), rfl⟩
theorem end_quiet (w : World) (h : Lst w b g n old yng pin) :
    Calls Try.prog 22 #[.pointer (some ⟨b, 0, none⟩)] w fun e w' => e = .returned (.int .i64 n) ∧ w' = w := (end_any w h).mono fun _ _ h => ⟨h.1, h.2.symm⟩
theorem has_any (i : Int) (w : World) (h : Lst w b g n old yng pin) :
    Calls Try.prog 21 #[.pointer (some ⟨b, 0, none⟩), .int .i64 i] w fun e w' => e = .returned (.bool (decide (0 ≤ i ∧ i < n))) ∧ w = w' := by
  have CE : Hid (∀ X : World, Lst X b g n old yng pin → Calls Try.prog 22 #[.pointer (some ⟨b, 0, none⟩)] X fun e w' => e = .returned (.int .i64 n) ∧ X = w') := Lib.hid fun X hX => end_any X hX
  have H := Lib.hid h
  clear h
  by_cases h0 : 0 ≤ i
  · have d0 : decide (0 ≤ i) = true := decide_eq_true h0
    go_enter Try.func21, Try.ntmps21
    go_wp2_with fail
    refine (CE.out _ H.out).mono ?_
    rintro e w1 ⟨rfl, rfl⟩
    go_wp2
    go_ret
    refine ⟨?_, rfl⟩
    rw [show decide (0 ≤ i ∧ i < (n : Int)) = decide (i < (n : Int)) by simp [h0]]
    rfl
  · have d0 : decide (0 ≤ i) = false := decide_eq_false h0
    go_enter Try.func21, Try.ntmps21
    go_wp2
    go_ret
    refine ⟨?_, rfl⟩
    rfl
theorem has_nil (i : Int) (w : World) :
    Calls Try.prog 21 #[.pointer none, .int .i64 i] w fun e w' => e = .returned (.bool false) ∧ w = w' := by
  go_enter Try.func21, Try.ntmps21
  go_wp2
  go_ret
  exact ⟨rfl, rfl⟩
theorem join_any (a c : Nat) (ha : a ≤ n) (hc : c ≤ n) (w : World) (h : Lst w b g n old yng pin) :
    Calls Try.prog 19 #[.pointer (some ⟨b, 0, none⟩), .int .i64 a, .int .i64 c] w fun e w' => e = .returned (.tuple #[]) ∧ Lst w' b g n (put old c a) (put yng a c) pin ∧ w.grownBy w' (some g) := by
  have c0 := h.c0
  have cy := h.cY ha
  have fy := h.fr (a * 3 + 1)
  have hs := h.small
  have H := Lib.hid h
  have ha' : a < n + 1 := by omega
  have hc' : c < n + 1 := by omega
  clear h
  go_enter Try.func19, Try.ntmps19
  go_upto_region 1 with (fail)
  refine Rd.name_world ?_
  intro w1 hw
  have H1 : Hid (Lst w1 b g n old (put yng a c) pin) := Lib.hid (by rw [hw]; exact H.out.setY ha c)
  have G1 : Hid (w.grownBy w1 (some g)) := Lib.hid (by rw [hw]; exact set_grown _ _ _ _)
  clear hw c0 cy fy
  have c0 := H1.out.c0
  have co := H1.out.cO hc
  have fo := H1.out.fr (c * 3)
  go_wp2
  go_end0
  exact ⟨rfl, H1.out.setO hc a, G1.out.trans (set_grown _ _ _ _)⟩
set_option maxHeartbeats 1000000 in
theorem touch_yes (i : Nat) {o : List Nat} (w : World) (h : St w b g n o pin) (hi : i < n) :
    Calls Try.prog 10 #[.pointer (some ⟨b, 0, none⟩), .int .i64 i] w fun e w' => e = .returned (.int .i64 0) ∧ St w' b g n (touchL o i) pin ∧ w.grownBy w' (some g) := by
  obtain ⟨old, yng, h, hr⟩ := h
  obtain ⟨b1, b2, b3, hr2⟩ := ring_touch hr hi
  have HR := Lib.hid hr2
  have H := Lib.hid h
  have hs := h.small
  have CH : Hid (Calls Try.prog 21 #[.pointer (some ⟨b, 0, none⟩), .int .i64 i] w fun e w' => e = .returned (.bool true) ∧ w = w') := Lib.hid (by
    have := has_any i w h
    rw [decide_eq_true ⟨by omega, by omega⟩] at this
    exact this)
  have c0 := h.c0
  have co := h.cO (Nat.le_of_lt hi)
  have cy := h.cY (Nat.le_of_lt hi)
  have hi' : i < n + 1 := by omega
  obtain ⟨oi, eo⟩ : ∃ x, old i = x := ⟨_, rfl⟩
  obtain ⟨yi, ey⟩ : ∃ x, yng i = x := ⟨_, rfl⟩
  rw [eo, ey] at HR b3
  rw [eo] at co b1
  rw [ey] at cy b2
  obtain ⟨z, ez⟩ : ∃ x, put old yi oi n = x := ⟨_, rfl⟩
  rw [ez] at HR b3
  have EZ := Lib.hid ez
  clear h hr hr2 eo ey ez
  go_enter Try.func10, Try.ntmps10
  go_wp2_with fail
  refine CH.out.mono ?_
  rintro e _ ⟨rfl, rfl⟩
  clear CH
  go_wp2_with fail
  (refine Reg.quiet_tail 17 (by kernel_rfl) (by kernel_rfl) ?_; simp only [List.take_succ_cons, List.take_zero, List.drop_succ_cons, List.drop_zero]; (repeat go_big_quiet_step (fail)); refine wpQuiet_nil ?_)
  replace H : Hid (Lst w.drew b g n old yng pin) := Lib.hid (H.out.kept rfl rfl)
  have G0 : Hid (w.grownBy w.drew (some g)) := Lib.hid ⟨rfl, rfl, rfl, Nat.le_refl _, fun _ _ _ => rfl⟩
  obtain ⟨w1, hw1⟩ : ∃ x, w.drew = x := ⟨_, rfl⟩
  rw [hw1] at H G0 ⊢
  clear hw1 c0 co cy
  go_wp2_with fail
  refine (join_any oi yi b1 b2 _ H.out).mono ?_
  rintro e w2 ⟨rfl, h2, g2⟩
  have H2 := Lib.hid h2
  have G2 := Lib.hid (G0.out.trans g2)
  clear h2 g2 H G0
  have c0 := H2.out.c0
  have co := H2.out.cO (Nat.le_refl n)
  rw [EZ.out] at co
  have hn' : n < n + 1 := by omega
  go_wp2_with fail
  (refine Reg.quiet_tail 11 (by kernel_rfl) (by kernel_rfl) ?_; simp only [List.take_succ_cons, List.take_zero, List.drop_succ_cons, List.drop_zero]; iterate 6 (go_big_quiet_step (fail)))
  go_big_quiet_want
  go_big_quiet_op
  refine ⟨_, end_quiet w2.drew (H2.out.kept rfl rfl), ?_⟩
  go_big_quiet_on
  iterate 4 go_big_quiet_step (fail)
  refine wpQuiet_nil ?_
  have H3 : Hid (Lst w2.drew b g n _ _ pin) := Lib.hid (H2.out.kept rfl rfl)
  have G3 : Hid (w2.grownBy w2.drew (some g)) := Lib.hid ⟨rfl, rfl, rfl, Nat.le_refl _, fun _ _ _ => rfl⟩
  replace G3 := Lib.hid (G2.out.trans G3.out)
  obtain ⟨w3, hw3⟩ : ∃ x, w2.drew = x := ⟨_, rfl⟩
  rw [hw3] at H3 G3 ⊢
  clear hw3 c0 co H2 G2
  go_wp2_with fail
  refine (join_any z i b3 (Nat.le_of_lt hi) _ H3.out).mono ?_
  rintro e w4 ⟨rfl, h4, g4⟩
  have H4 := Lib.hid h4
  have G4 := Lib.hid (G3.out.trans g4)
  clear h4 g4 H3 G3
  go_wp2_with fail
  refine (end_any _ H4.out).mono ?_
  rintro e _ ⟨rfl, rfl⟩
  go_wp2_with fail
  refine (join_any i n (Nat.le_of_lt hi) (Nat.le_refl n) _ H4.out).mono ?_
  rintro e w5 ⟨rfl, h5, g5⟩
  have H5 := Lib.hid h5
  have G5 := Lib.hid (G4.out.trans g5)
  clear h5 g5 H4 G4
  go_wp2
  go_ret
  exact ⟨rfl, ⟨_, _, H5.out, HR.out⟩, G5.out⟩
theorem touch_no (i : Int) {o : List Nat} (w : World) (h : St w b g n o pin) (hi : ¬ (0 ≤ i ∧ i < n)) :
    Calls Try.prog 10 #[.pointer (some ⟨b, 0, none⟩), .int .i64 i] w fun e w' => e = .returned (.int .i64 1) ∧ w = w' := by
  obtain ⟨old, yng, h, hr⟩ := h
  have CH : Hid (Calls Try.prog 21 #[.pointer (some ⟨b, 0, none⟩), .int .i64 i] w fun e w' => e = .returned (.bool false) ∧ w = w') := Lib.hid (by
    have := has_any i w h
    rw [decide_eq_false hi] at this
    exact this)
  clear h hr hi
  go_enter Try.func10, Try.ntmps10
  go_wp2_with fail
  refine CH.out.mono ?_
  rintro e _ ⟨rfl, rfl⟩
  go_wp2
  go_ret
  exact ⟨rfl, rfl⟩
theorem touch_nil (i : Int) (w : World) :
    Calls Try.prog 10 #[.pointer none, .int .i64 i] w fun e w' => e = .returned (.int .i64 1) ∧ w = w' := by
  go_enter Try.func10, Try.ntmps10
  go_wp2_with fail
  refine (has_nil i w).mono ?_
  rintro e _ ⟨rfl, rfl⟩
  go_wp2
  go_ret
  exact ⟨rfl, rfl⟩
theorem pin_yes (i : Nat) {o : List Nat} (w : World) (h : St w b g n o pin) (hi : i < n) :
    Calls Try.prog 12 #[.pointer (some ⟨b, 0, none⟩), .int .i64 i] w fun e w' => e = .returned (.int .i64 0) ∧ St w' b g n o (put pin i true) ∧ w.grownBy w' (some g) := by
  obtain ⟨old, yng, h, hr⟩ := h
  have HR := Lib.hid hr
  have H := Lib.hid h
  have hs := h.small
  have CH : Hid (Calls Try.prog 21 #[.pointer (some ⟨b, 0, none⟩), .int .i64 i] w fun e w' => e = .returned (.bool true) ∧ w = w') := Lib.hid (by
    have := has_any i w h
    rw [decide_eq_true ⟨by omega, by omega⟩] at this
    exact this)
  have c0 := h.c0
  have cp := h.cP (Nat.le_of_lt hi)
  have fp := h.fr (i * 3 + 2)
  have hi' : i < n + 1 := by omega
  clear h hr
  go_enter Try.func12, Try.ntmps12
  go_wp2_with fail
  refine CH.out.mono ?_
  rintro e _ ⟨rfl, rfl⟩
  clear CH
  go_wp2
  go_ret
  exact ⟨rfl, ⟨_, _, H.out.setP (Nat.le_of_lt hi) true, HR.out⟩, set_grown _ _ _ _⟩
theorem pin_no (i : Int) {o : List Nat} (w : World) (h : St w b g n o pin) (hi : ¬ (0 ≤ i ∧ i < n)) :
    Calls Try.prog 12 #[.pointer (some ⟨b, 0, none⟩), .int .i64 i] w fun e w' => e = .returned (.int .i64 1) ∧ w = w' := by
  obtain ⟨old, yng, h, hr⟩ := h
  have CH : Hid (Calls Try.prog 21 #[.pointer (some ⟨b, 0, none⟩), .int .i64 i] w fun e w' => e = .returned (.bool false) ∧ w = w') := Lib.hid (by
    have := has_any i w h
    rw [decide_eq_false hi] at this
    exact this)
  clear h hr hi
  go_enter Try.func12, Try.ntmps12
  go_wp2_with fail
  refine CH.out.mono ?_
  rintro e _ ⟨rfl, rfl⟩
  go_wp2
  go_ret
  exact ⟨rfl, rfl⟩
end Go.Proofs.Ytabedlahdkkihaa.LrA

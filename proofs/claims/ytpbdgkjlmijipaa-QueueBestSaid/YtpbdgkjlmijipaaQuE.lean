/-
  The queue: how many wait; the iterator over them.
-/
import Derived.Test.YtpbdgkjlmijipaaQuD
import Derived.OwnWalkIn
namespace Go.Proofs.Ytpbdgkjlmijipaa.QuE
open Go.RowKit Go.Shelf Rd Go.Proofs.Ytpbdgkjlmijipaa.Row Mid PgM PgA PgB PgC QuA QuB QuC QuD It
open Go.Proofs.Ytpbdgkjlmijipaa.Num (ret_int ret_bool)
set_option linter.unusedVariables false
set_option linter.unusedSimpArgs false
set_option maxRecDepth 10000
attribute [local go_sem] Oper.semAt_some
attribute [local go_sem ↓] load_pg store_pg load_w store_w eq_pg3 eq_w4
attribute [local go_sem] one_int pc3 pc4 pc43 run_load_pg run_store_pg run_load_w run_store_w midLoad_eq rowLoad_eq rowStore_eq blk_alloc_at blk_alloc_old blk_drew blk_drewN blk_set_far blk_set_far' blk_grow setRow_alloc_at setRow_alloc_old setRow_drew setRow_drewN
theorem Qu.row {X : World} {t base most d n c g : Nat} {v : Value} {r : PgM.Row} (h : Qu X t base most d v r) (hv : v = .slice (some ⟨g, 0, none⟩) n c) {i : Nat} (hi : i < r.length) : ∃ c, blk X g = some (.cells c 36 (0, 0)) ∧ i * 4 + 4 ≤ c.size ∧ Mid.piece c (i * 4) 4 = cs .i64 (at_ r i) ∧ Mid.piece c (i * 4) 3 = cs .i64 ((at_ r i).take 3) := by
  obtain ⟨a, c', e, h1, h2⟩ := h.slice
  obtain ⟨g', e2, -, R, h3⟩ := h2 (fun e => by rw [e] at hi; exact absurd hi (by simp))
  rw [hv] at e
  injection e with e
  rw [e2] at e
  injection e with e
  injection e with e
  subst e
  exact fr_at h.w4 h3 hi
theorem Qu.small {X : World} {t base most d : Nat} {v : Value} {r : PgM.Row} (h : Qu X t base most d v r) : r.length ≤ 9223372036854775807 := by
  rcases h.own.2 with ⟨h1, h2⟩ | ⟨g, c, cur, h1, h3, h4, h5, h6, h7, h8⟩
  · omega
  · unfold maxLen at h6; omega
theorem len_any (t base most d : Nat) (v : Value) (r : PgM.Row) (w : World) (hq : Qu w t base most d v r) :
    Calls Try.prog 15 #[.pointer (some ⟨t, 0, none⟩)] w fun e w' => e = .returned (.int .i64 r.length) ∧ w = w' := by
  obtain ⟨a, c, rfl, hc, -⟩ := hq.slice
  have c2 := hq.c2
  clear hq
  go_enter Try.func15, Try.ntmps15
  go_wp2
  go_ret
  exact ⟨rfl, rfl⟩
theorem len_nil (w : World) : Calls Try.prog 15 #[.pointer none] w fun e w' => e = .returned (.int .i64 0) ∧ w = w' := by
  go_enter Try.func15, Try.ntmps15
  go_wp2
  go_ret
  exact ⟨rfl, rfl⟩
theorem enters_all : ∀ args w, (callFunc 37 args).run Try.prog w = .ok (.enter 37 args) w := enters_of Try.func37 (by kernel_rfl) rfl
theorem all_any (p : Option Addr) (w : World) :
    Calls Try.prog 30 #[.pointer p] w fun e w' => e = .returned (.func (.func 37) #[] #[.pointer (some ⟨w.heap.size, 0, none⟩)]) ∧ w' = w.alloc (.cells #[.pointer p] 26) := by
  go_enter Try.func30, Try.ntmps30
  go_wp2
  go_ret
  exact ⟨rfl, rfl⟩
def encW (x : List Int) : Array Value := #[.agg (cs .i64 x)]
def BoxQ (bx : Nat) (p : Option Addr) (X : World) : Prop := blk X bx = some (.cells #[.pointer p] 26 (0, 0))
theorem BoxQ.cell {bx : Nat} {p : Option Addr} {X : World} (h : BoxQ bx p X) : X.cell? ⟨bx, 0, none⟩ = some (.pointer p) := by rw [blk_cell h]; rfl
theorem asked_wide (P : Program) (o : Oper) (a : Act) (C : World → Prop) : Oper.askedIn Fence.wide P o a C = True := eq_true fun _ _ _ _ => trivial
attribute [local go_sem ↓] asked_wide
theorem own_step {β : Type} {B : Nat} {J : β → World → Prop} (h : OwnFrom B J) {s : β} {X Y : World} (hs : J s X) (hb : Below X.heap.size X Y) : J s Y := h s X Y none hs ⟨hb.os, hb.tape, hb.output, hb.size, fun k hk _ => hb.block k hk⟩ (fun r e => by cases e)
theorem take_at {r : PgM.Row} {k : Nat} (hk : k < r.length) : r.take (k + 1) = r.take k ++ [at_ r k] := by
  rw [at_eq hk, List.take_append_getElem hk]
theorem pre_at {r : PgM.Row} {k : Nat} (hk : k < r.length) : r.take k ++ [at_ r k] <+: r := by
  rw [← take_at hk]
  exact List.take_prefix _ _
theorem all_seq_nil (bx : Nat) :
    Seq Try.prog 37 #[.pointer (some ⟨bx, 0, none⟩)] encW [] (fun X => BoxQ bx none X ∧ True) := by
  intro lo J Jx Own W hJ hJx hM hK hY h0
  have cb := (hK [] W h0).1.cell
  refine callsIn_wide.1 (callsIn_of_wp (F := Fence.wide) (n := 0) Try.func37 rfl trivial ?_ rfl)
  simp only [Try.ntmps37, List.size_toArray, List.length_cons, List.length_nil, Nat.reduceAdd, Nat.reduceSub, Array.replicate_succ, Array.replicate_zero, List.push_toArray, List.append_toArray, List.nil_append, List.cons_append]
  gi_wp2
  refine bodyPost_ret (results_none rfl _ _ _) rfl ?_
  exact ⟨⟨_, rfl⟩, .inl h0⟩
set_option maxHeartbeats 4000000 in
theorem all_seq (bx t base most d : Nat) (v : Value) (r : PgM.Row) :
    Seq Try.prog 37 #[.pointer (some ⟨bx, 0, none⟩)] encW r (fun X => BoxQ bx (some ⟨t, 0, none⟩) X ∧ Qu X t base most d v r) := by
  intro lo J Jx Own W hJ hJx hM hK hY h0
  have HY := Lib.hid hY
  have HJ := Lib.hid hJ
  have HK := Lib.hid hK
  have k0 := hK [] W h0
  have cb := k0.1.cell
  have c2 := k0.2.c2
  obtain ⟨ad, cap, ev, hcap, hrow⟩ := k0.2.slice
  rw [ev] at c2
  have HV : Hid (v = .slice ad r.length cap ∧ (r ≠ [] → ∃ g, ad = some ⟨g, 0, none⟩)) := Lib.hid ⟨ev, fun h => by obtain ⟨g, e, _⟩ := hrow h; exact ⟨g, e⟩⟩
  have H0 := Lib.hid h0
  clear hY hJ hK k0 h0 ev hrow hcap
  refine callsIn_wide.1 (callsIn_of_wp (F := Fence.wide) (n := 0) Try.func37 rfl trivial ?_ rfl)
  simp only [Try.ntmps37, List.size_toArray, List.length_cons, List.length_nil, Nat.reduceAdd, Nat.reduceSub, Array.replicate_succ, Array.replicate_zero, List.push_toArray, List.append_toArray, List.nil_append, List.cons_append]
  gi_wp2_with fail
  clear cb c2
  gi_loopw [12] (fun i X => ∃ k : Nat, k ≤ r.length ∧ i = .int .i64 (k : Int) ∧ Hid (J (r.take k) X) ∧ W.heap.size ≤ X.heap.size) (fun i _ => r.length - (intOf i).toNat)
  case atStart => exact ⟨0, by omega, rfl, H0, Nat.le_refl _⟩
  case round =>
    obtain ⟨k, hk, rfl, HJk, hsz⟩ := hrel
    rename World => X
    by_cases hlt : k < r.length
    · obtain ⟨g, rfl⟩ := HV.out.2 (fun e => by rw [e] at hlt; exact absurd hlt (by simp))
      obtain ⟨c, bG, hc, pw, -⟩ := Qu.row (HK.out _ _ HJk.out).2 HV.out.1 hlt
      have HP := Lib.hid (pre_at hlt)
      have HT := Lib.hid (take_at hlt)
      have hl4 : (at_ r k).length = 4 := by rw [at_eq hlt]; exact (HK.out _ _ HJk.out).2.w4 _ (List.getElem_mem _)
      obtain ⟨x0, x1, x2, x3, ex⟩ := len4 hl4
      rw [ex] at pw HP HT
      have pw2 : Mid.piece c (k * 4) 4 = #[.int .i64 x0, .int .i64 x1, .int .i64 x2, .int .i64 x3] := pw
      have hki : (k : Int) < (r.length : Int) := by omega
      have hsm := Qu.small (HK.out _ _ HJk.out).2
      have hwr : wrap64 ((k : Int) + 1) = ((k + 1 : Nat) : Int) := by unfold wrap64; omega
      clear ex hl4 pw
      have hJ2 : ∀ o : Obj, J (r.take k) (X.alloc o) := fun o => own_step HJ.out HJk.out (Below.alloc (Below.refl _ _) (Nat.le_refl _) _)
      obtain ⟨Z, hZ⟩ : ∃ Z, X.alloc (.cells #[.int .i64 x0, .int .i64 x1, .int .i64 x2, .int .i64 x3] 36) = Z := ⟨_, rfl⟩
      have HJ2 : Hid (J (r.take k) Z) := Lib.hid (hZ ▸ hJ2 _)
      have hzs : W.heap.size ≤ Z.heap.size := by rw [← hZ]; simp; omega
      obtain ⟨fn, tmps, assign, body, hy, hR⟩ := HY.out _ _ Z HJ2.out HP.out hzs
      have hy' : (Instr.yield lo #[.agg #[.int .i64 x0, .int .i64 x1, .int .i64 x2, .int .i64 x3]]).run Try.prog Z = .ok (.round lo fn tmps assign body) Z := hy
      have hsz2 := hzs
      rw [← hZ] at hy'
      have HZ := Lib.hid hZ
      clear hy hJ2 hZ
      gi_wp2
      rw [HZ.out]
      refine ⟨rfl, hR.mono ?_⟩
      rintro e Z2 ⟨hkf, (⟨rfl, hJ2, ho2⟩ | ⟨rfl, hJ2⟩)⟩
      · have H3 := Lib.hid hJ2
        have S3 : W.heap.size ≤ Z2.heap.size := Nat.le_trans hzs hkf.1
        clear hJ2 hkf ho2 hy' bG
        rw [← HT.out] at H3
        gi_wp2
        go_roundw
        case rel => exact ⟨k + 1, by omega, rfl, H3, S3⟩
        case measure => simp [intOf]; omega
      · have H3 := Lib.hid hJ2
        clear hJ2 hkf hy'
        gi_wp2
        refine bodyPost_ret (results_none rfl _ _ _) rfl ?_
        exact ⟨⟨_, rfl⟩, .inr ⟨_, HP.out, H3.out⟩⟩
    · obtain rfl : k = r.length := by omega
      gi_wp2
      go_end0
      exact ⟨⟨_, rfl⟩, .inl (by have := HJk.out; rw [List.take_length] at this; exact this)⟩
/-- a slice leads to these wants -/
def RwAt (X : World) (ad : Option Addr) (r : PgM.Row) : Prop :=
  W4 r ∧ (r = [] ∨ ∃ b o c, ad = some ⟨b, o, none⟩ ∧ blk X b = some (.cells c 36 (0, 0)) ∧ o + r.length * 4 ≤ c.size ∧ ∀ i, i < r.length → Mid.piece c (o + i * 4) 4 = cs .i64 (at_ r i) ∧ Mid.piece c (o + i * 4) 3 = cs .i64 ((at_ r i).take 3))
theorem rwAt_nil (X : World) (ad : Option Addr) : RwAt X ad [] := ⟨fun v hv => absurd hv (by simp), .inl rfl⟩
theorem RwAt.kept {X Y : World} {ad : Option Addr} {r : PgM.Row} (h : RwAt X ad r) (hk : ∀ a, ad = some a → Y.heap[a.block]? = X.heap[a.block]?) : RwAt Y ad r := by
  refine ⟨h.1, h.2.imp id ?_⟩
  rintro ⟨b, o, c, e, h1, h2⟩
  exact ⟨b, o, c, e, (hk _ e).trans h1, h2⟩
theorem RwAt.bel {X Y : World} {ad : Option Addr} {r : PgM.Row} (h : RwAt X ad r) (hb : Below X.heap.size X Y) : RwAt Y ad r := by
  refine ⟨h.1, h.2.imp id ?_⟩
  rintro ⟨b, o, c, e, h1, h2⟩
  exact ⟨b, o, c, e, (blk_below hb _ (blk_lt h1)).trans h1, h2⟩
theorem rwAt_of_owns {X : World} {base n c : Nat} {ad : Option Addr} {r : PgM.Row} (h : X.ownsRow base 36 4 (.slice ad n c) n (fl r)) (hn : n = r.length) (hw : W4 r) : RwAt X ad r := by
  refine ⟨hw, ?_⟩
  rcases h.2 with ⟨e, h0⟩ | ⟨g, cap, cur, e, hb, hg, hnc, hc, hs, ht⟩
  · exact .inl (List.eq_nil_of_length_eq_zero (by omega))
  · cases e
    have hcur : cur = (fl r ++ cur.toList.drop (n * 4)).toArray := by rw [← ht, List.take_append_drop, Array.toArray_toList]
    have hg2 : blk X g = some (.cells (fl r ++ cur.toList.drop (n * 4)).toArray 36 (0, 0)) := by rw [← hcur]; exact hg
    refine .inr ⟨g, 0, _, rfl, hg2, by rw [← hcur, hs]; omega, fun i hi => ?_⟩
    obtain ⟨c2, h1, h2, h3, h4⟩ := fr_at hw hg2 hi
    rw [hg2] at h1
    have e2 : (fl r ++ cur.toList.drop (n * 4)).toArray = c2 := by injection h1 with h1; injection h1
    rw [e2, Nat.zero_add]
    exact ⟨h3, h4⟩
theorem RwAt.tail {X : World} {ad : Option Addr} {x : List Int} {r : PgM.Row} (h : RwAt X ad (x :: r)) : ∃ b o, ad = some ⟨b, o, none⟩ ∧ RwAt X (some ⟨b, o + 4, none⟩) r := by
  obtain ⟨h1, h2⟩ := h
  rcases h2 with h2 | ⟨b, o, c, e, h3, h4, h5⟩
  · cases h2
  · refine ⟨b, o, e, fun v hv => h1 v (List.mem_cons_of_mem _ hv), .inr ⟨b, o + 4, c, rfl, h3, by simp only [List.length_cons] at h4; omega, fun i hi => ?_⟩⟩
    have := h5 (i + 1) (by simp; omega)
    rw [show o + (i + 1) * 4 = o + 4 + i * 4 by omega] at this
    exact this
theorem at_take {r : PgM.Row} {k i : Nat} (h : i < k) : at_ (r.take k) i = at_ r i := by
  unfold at_
  rw [List.getD_eq_getElem?_getD, List.getD_eq_getElem?_getD, List.getElem?_take_of_lt h]
theorem RwAt.take {X : World} {ad : Option Addr} {r : PgM.Row} (h : RwAt X ad r) (k : Nat) : RwAt X ad (r.take k) := by
  obtain ⟨h1, h2⟩ := h
  refine ⟨w4_take h1 k, ?_⟩
  rcases h2 with rfl | ⟨b, o, c, e, h3, h4, h5⟩
  · exact .inl (by simp)
  · refine .inr ⟨b, o, c, e, h3, by rw [List.length_take]; omega, fun i hi => ?_⟩
    rw [List.length_take] at hi
    rw [at_take (by omega)]
    exact h5 i (by omega)
theorem RwAt.row {X : World} {ad : Option Addr} {r : PgM.Row} (h : RwAt X ad r) {i : Nat} (hi : i < r.length) : ∃ b o c, ad = some ⟨b, o, none⟩ ∧ blk X b = some (.cells c 36 (0, 0)) ∧ o + i * 4 + 4 ≤ c.size ∧ Mid.piece c (o + i * 4) 4 = cs .i64 (at_ r i) ∧ Mid.piece c (o + i * 4) 3 = cs .i64 ((at_ r i).take 3) := by
  rcases h.2 with h2 | ⟨b, o, c, e, h3, h4, h5⟩
  · rw [h2] at hi; exact absurd hi (by simp)
  · exact ⟨b, o, c, e, h3, by omega, h5 i hi⟩
end Go.Proofs.Ytpbdgkjlmijipaa.QuE

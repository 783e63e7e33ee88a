/-
  New; the iterator over the order.
-/
import Derived.Test.YtabedlahdkkihaaLrA
import Derived.Sort.BigQuietIn
import Derived.Lib.QuietBelowIn
namespace Go.Proofs.Ytabedlahdkkihaa.LrB
open Go.RowKit Go.Shelf Rd Go.Proofs.Ytabedlahdkkihaa.Row LrM LrA It
set_option linter.unusedVariables false
set_option linter.unusedSimpArgs false
set_option maxRecDepth 10000
attribute [local go_sem] Oper.semAt_some
theorem grown_of {X Y : World} (h : Below X.heap.size X Y) : X.grownBy Y none := ⟨h.os, h.tape, h.output, h.size, fun k hk _ => h.block k hk⟩
theorem own_step {β : Type} {B : Nat} {J : β → World → Prop} (h : OwnFrom B J) {s : β} {X Y : World} (hs : J s X) (hb : Below X.heap.size X Y) : J s Y := h s X Y none hs (grown_of hb) (fun r e => by cases e)
theorem below_turn {w X Y : World} {g : Nat} (h : Below w.heap.size w X) (hg : X.grownBy Y (some g)) (hl : w.heap.size ≤ g) : Below w.heap.size w Y :=
  ⟨hg.os.trans h.os, hg.tape.trans h.tape, hg.output.trans h.output, Nat.le_trans h.size hg.size, fun k hk => (hg.block k (by have := h.size; omega) fun e => by injection e with e; omega).trans (h.block k hk)⟩
theorem blk_turn {X Y : World} {g k : Nat} {o : Obj} (h : blk X k = some o) (hg : X.grownBy Y (some g)) (hk : k ≠ g) : blk Y k = some o :=
  (hg.block k (blk_lt h) fun e => hk (by injection e)).trans h
/-! New -/
theorem info_link : (Try.prog.info? 54).map (fun i => (i.zero, i.size, i.bytes)) = some (some (.agg #[.int .i64 0, .int .i64 0, .bool false]), 3, 24) := by kernel_rfl
def zeroC (m : Nat) : Array Value := madeCells #[.int .i64 0, .int .i64 0, .bool false] m
theorem zero_at {m j : Nat} (h : j < m) : (zeroC m)[j]? = some (#[Value.int .i64 0, Value.int .i64 0, Value.bool false][j % 3]!) := by
  unfold zeroC madeCells
  rw [Array.getElem?_eq_getElem (by simpa using h)]
  simp
theorem run_make_link (n : Nat) (hn : n ≤ 100000) (w : World) :
    (Instr.makeSlice 47 (.int .i64 (n : Int)) (.int .i64 (n : Int))).run Try.prog w = .ok (.slice (some ⟨w.heap.size, 0, none⟩) n n) (w.alloc (.cells (zeroC (n * 3)) 54)) := by
  obtain ⟨i, hi, hz, hs, hb⟩ := info_parts info_link
  have hr := run_make (P := Try.prog) w 47 54 i (.agg #[.int .i64 0, .int .i64 0, .bool false]) Try.underlying47 hi hz .i64 .i64 (n : Int) (n : Int) (by omega) (by omega) (by rw [hb]; omega) (by omega)
  simp only [Int.toNat_natCast, hs] at hr
  exact hr
theorem run_make_link1 (n : Nat) (hn : n ≤ 1000) (w : World) :
    (Instr.makeSlice 47 (.int .i64 ((n : Int) + 1)) (.int .i64 ((n : Int) + 1))).run Try.prog w = .ok (.slice (some ⟨w.heap.size, 0, none⟩) (n + 1) (n + 1)) (w.alloc (.cells (zeroC ((n + 1) * 3)) 54)) :=
  run_make_link (n + 1) (by omega) w
theorem lst_start (w : World) (n : Nat) (hn : 1 ≤ n ∧ n ≤ 128) : Lst ((w.alloc (.cells (zeroC ((n + 1) * 3)) 54)).alloc (.cells #[.slice (some ⟨w.heap.size, 0, none⟩) (n + 1) (n + 1)] 49)) (w.heap.size + 1) w.heap.size n (fun _ => 0) (fun _ => 0) (fun _ => false) := by
  refine ⟨blk2_1 _ _ _, ⟨_, blk2_0 _ _ _, by simp [zeroC, madeCells], fun i hi => ⟨?_, ?_, ?_⟩⟩, hn⟩
  · rw [zero_at (by omega), show i * 3 % 3 = 0 by omega]; rfl
  · rw [zero_at (by omega), show (i * 3 + 1) % 3 = 1 by omega]; rfl
  · rw [zero_at (by omega), show (i * 3 + 2) % 3 = 2 by omega]; rfl
theorem new_no (m : Int) (hm : ¬ (1 ≤ m ∧ m ≤ 128)) (w : World) :
    Calls Try.prog 8 #[.int .i64 m] w fun e w' => e = .returned (.tuple #[.pointer none, .int .i64 1]) ∧ w = w' := by
  by_cases h0 : m < 1
  · have d0 : decide (m < 1) = true := decide_eq_true h0
    go_enter Try.func8, Try.ntmps8
    go_wp2
    go_ret2
    exact ⟨rfl, rfl⟩
  · have d0 : decide (m < 1) = false := decide_eq_false h0
    have d1 : decide (128 < m) = true := decide_eq_true (by omega)
    clear hm
    go_enter Try.func8, Try.ntmps8
    go_wp2
    go_ret2
    exact ⟨rfl, rfl⟩
attribute [local go_sem ↓] run_make_link1
set_option maxHeartbeats 1000000 in
theorem new_any (n : Nat) (hn : 1 ≤ n ∧ n ≤ 128) (w : World) :
    Calls Try.prog 8 #[.int .i64 n] w fun e w' => (∃ b g, e = .returned (.tuple #[.pointer (some ⟨b, 0, none⟩), .int .i64 0]) ∧ w.heap.size ≤ b ∧ w.heap.size ≤ g ∧ St w' b g n (List.range n) (fun _ => false)) ∧ Below w.heap.size w w' := by
  have HS := Lib.hid (lst_start w n hn)
  have d0 : decide ((n : Int) < 1) = false := decide_eq_false (by omega)
  have d1 : decide ((128 : Int) < n) = false := decide_eq_false (by omega)
  have hn1 := hn.1
  have hn2 := hn.2
  have hw1 : n ≤ 1000 := by omega
  have hn3 : 1 ≤ n := hn1
  clear hn
  go_enter Try.func8, Try.ntmps8
  go_upto_region 4 with (fail)
  refine Rd.name_world ?_
  intro w1 hw
  replace HS : Hid (Lst w1 (w.heap.size + 1) w.heap.size n (fun _ => 0) (fun _ => 0) (fun _ => false)) := Lib.hid (by rw [hw]; exact HS.out)
  have L1 : Below w.heap.size w w1 := by
    rw [hw]
    repeat' (first | (with_reducible exact Below.refl _ _) | (with_reducible refine Rd.below_step ?_ (by assumption)) | (with_reducible refine Rd.below_alloc ?_ _) | (with_reducible refine Rd.below_drewN ?_ _) | (with_reducible refine Below.drew ?_) | (with_reducible refine Below.setCell ?_ ?_ _) | (with_reducible refine Rd.below_setRow ?_ ?_ _) | go_size | (simp only [World.size_alloc]; omega) | omega)
  obtain ⟨g, hg⟩ : ∃ g, w.heap.size = g := ⟨_, rfl⟩
  obtain ⟨b, hb⟩ : ∃ b, w.heap.size + 1 = b := ⟨_, rfl⟩
  have hgw : w.heap.size ≤ g := by omega
  have hbw : w.heap.size ≤ b := by omega
  have HL : Hid (Below w.heap.size w w1) := Lib.hid L1
  clear hw L1
  rw [hb, hg] at HS
  rw [hb, hg]
  clear hb hg
  have c0 := HS.out.c0
  go_wp2_with fail
  clear c0
  go_loopw [22] (fun i X => ∃ k : Nat, k ≤ n + 1 ∧ i = .int .i64 k ∧ Hid (∃ old yng, Lst X b g n old yng (fun _ => false) ∧ ∀ j, j < k → yng j = (j + 1) % (n + 1) ∧ old ((j + 1) % (n + 1)) = j) ∧ Hid (Below w.heap.size w X)) (fun i _ => n + 1 - (intOf i).toNat)
  case atStart => exact ⟨0, by omega, rfl, Lib.hid ⟨_, _, HS.out, fun j hj => absurd hj (by omega)⟩, HL⟩
  case round =>
    obtain ⟨k, hk, rfl, HX, HB⟩ := hrel
    rename World => X
    obtain ⟨old, yng, hX, hP⟩ := HX.out
    by_cases hlt : k < n + 1
    · have hlt' : (k : Int) < (n : Int) + 1 := by omega
      have c0 := hX.c0
      obtain ⟨c, hc⟩ : ∃ c : Nat, (k + 1) % (n + 1) = c := ⟨_, rfl⟩
      have hc' : ((k : Int) + 1) % ((n : Int) + 1) = (c : Int) := by rw [← hc]; norm_cast
      have hcn : c ≤ n := by have := Nat.mod_lt (k + 1) (show 0 < n + 1 by omega); omega
      have HC := Lib.hid hc
      have HX' := Lib.hid hX
      have HP := Lib.hid hP
      clear hc hX hP HX
      go_wp2_with fail
      refine (join_any k c (by omega) hcn _ HX'.out).mono ?_
      rintro e X1 ⟨rfl, h1, g1⟩
      have H1 := Lib.hid h1
      have B1 := Lib.hid (below_turn HB.out g1 hgw)
      clear h1 g1 c0 hc' HB HX'
      go_wp2
      refine ⟨⟨k + 1, by omega, by go_num, Lib.hid ⟨_, _, H1.out, fun j hj => ?_⟩, B1⟩, by simp [intOf]; omega⟩
      by_cases e : j = k
      · subst e
        rw [HC.out, put_same, put_same]
        exact ⟨rfl, rfl⟩
      · have hjk : j < k := by omega
        have := HP.out j hjk
        rw [put_ne _ _ e, put_ne _ _ (fun e2 => by
          rw [← HC.out] at e2
          rw [Nat.mod_eq_of_lt (show j + 1 < n + 1 by omega)] at e2
          by_cases e3 : k + 1 < n + 1
          · rw [Nat.mod_eq_of_lt e3] at e2; omega
          · rw [show k + 1 = n + 1 by omega, Nat.mod_self] at e2; omega)]
        exact this
    · obtain rfl : k = n + 1 := by omega
      have hst : St X b g n (List.range n) (fun _ => false) := by
        refine ⟨old, yng, hX, ring_start (fun i hi => ?_) ?_ ?_ hn3⟩
        · have := hP i (by omega)
          rw [Nat.mod_eq_of_lt (by omega)] at this
          exact this
        · have := (hP n (by omega)).1
          rw [Nat.mod_self] at this
          exact this
        · have := (hP n (by omega)).2
          rw [Nat.mod_self] at this
          exact this
      have HST := Lib.hid hst
      clear hst hX hP HX
      go_wp2
      go_ret2
      exact ⟨⟨b, g, rfl, hbw, hgw, HST.out⟩, HB.out⟩
/-! the order -/
theorem enters_order : ∀ args w, (callFunc 24 args).run Try.prog w = .ok (.enter 24 args) w := enters_of Try.func24 (by kernel_rfl) rfl
theorem order_any (p : Option Addr) (w : World) :
    Calls Try.prog 23 #[.pointer p] w fun e w' => e = .returned (.func (.func 24) #[] #[.pointer (some ⟨w.heap.size, 0, none⟩)]) ∧ w' = w.alloc (.cells #[.pointer p] 24) := by
  have hmf : ∀ (fn : Fn) (first cap : Array Value) (w : World), (Instr.makeFunc fn first cap).run Try.prog w = .ok (.func fn first cap) w := fun _ _ _ _ => rfl
  go_enter Try.func23, Try.ntmps23
  go_wp2
  go_ret
  exact ⟨rfl, rfl⟩
def encI (x : Nat) : Array Value := #[.int .i64 x]
def BoxP (bx : Nat) (p : Option Addr) (X : World) : Prop := blk X bx = some (.cells #[.pointer p] 24 (0, 0))
theorem BoxP.cell {bx : Nat} {p : Option Addr} {X : World} (h : BoxP bx p X) : X.cell? ⟨bx, 0, none⟩ = some (.pointer p) := by rw [blk_cell h]; rfl
def nx (o : List Nat) (n k : Nat) : Nat := (o ++ [n]).getD k n
theorem nx_lt {o : List Nat} {n k : Nat} (h : k < o.length) : nx o n k = o[k] := by
  unfold nx
  rw [List.getD_eq_getElem?_getD, List.getElem?_append_left h, List.getElem?_eq_getElem h]; rfl
theorem nx_end (o : List Nat) (n : Nat) : nx o n o.length = n := by
  unfold nx
  rw [List.getD_eq_getElem?_getD, List.getElem?_append_right (Nat.le_refl _)]; simp
theorem ring_first {n : Nat} {old yng : Nat → Nat} {o : List Nat} (h : Ring n old yng o) : yng n = nx o n 0 := by
  have := h.link
  cases o with
  | nil => exact this.1.1
  | cons a o => exact this.1.1
theorem ring_next {n k : Nat} {old yng : Nat → Nat} {o : List Nat} (h : Ring n old yng o) (hk : k < o.length) : yng (nx o n k) = nx o n (k + 1) := by
  have hL := h.link
  rw [nx_lt hk]
  have e : n :: o ++ [n] = (n :: o.take k) ++ o[k] :: nx o n (k + 1) :: (o ++ [n]).drop (k + 2) := by
    have h1 : o ++ [n] = (o ++ [n]).take k ++ (o ++ [n]).drop k := (List.take_append_drop _ _).symm
    have h2 : (o ++ [n]).drop k = o[k] :: (o ++ [n]).drop (k + 1) := by
      rw [List.drop_eq_getElem_cons (by simp; omega)]
      congr 1
      rw [List.getElem_append_left hk]
    have h3 : (o ++ [n]).drop (k + 1) = nx o n (k + 1) :: (o ++ [n]).drop (k + 2) := by
      rw [List.drop_eq_getElem_cons (by simp; omega)]
      congr 1
      unfold nx
      rw [List.getD_eq_getElem?_getD, List.getElem?_eq_getElem (by simp; omega)]; rfl
    have h5 : (o ++ [n]).take k = o.take k := List.take_append_of_le_length (by omega)
    have h4 : o ++ [n] = o.take k ++ (o[k] :: nx o n (k + 1) :: (o ++ [n]).drop (k + 2)) := by
      rw [← h3, ← h2, ← h5]
      exact h1
    rw [List.cons_append, List.cons_append, ← h4]
  rw [e] at hL
  exact link_next hL
theorem nx_ne {n k : Nat} {o : List Nat} (h : ∀ x ∈ o, x < n) (hk : k < o.length) : nx o n k < n := by
  rw [nx_lt hk]; exact h _ (List.getElem_mem _)
def posI (o : List Nat) (n : Nat) (v : Value) : Nat := (o ++ [n]).idxOf (intOf v).toNat
theorem pos_nx {n k : Nat} {o : List Nat} (hd : o.Nodup) (h : ∀ x ∈ o, x < n) (hk : k ≤ o.length) : posI o n (.int .i64 (nx o n k)) = k := by
  have hnd : (o ++ [n]).Nodup := by
    rw [List.nodup_append]
    exact ⟨hd, by simp, fun x hx y hy e => by rw [List.mem_singleton.1 hy] at e; have := h x hx; omega⟩
  have hkl : k < (o ++ [n]).length := by simp; omega
  unfold posI nx
  simp only [intOf, Int.toNat_natCast]
  rw [List.getD_eq_getElem?_getD, List.getElem?_eq_getElem hkl, Option.getD_some]
  exact List.Nodup.idxOf_getElem hnd k hkl
theorem pre_nx {n k : Nat} {o : List Nat} (hk : k < o.length) : o.take k ++ [nx o n k] <+: o := by
  rw [nx_lt hk, List.take_append_getElem hk]
  exact List.take_prefix _ _
theorem take_nx {n k : Nat} {o : List Nat} (hk : k < o.length) : o.take (k + 1) = o.take k ++ [nx o n k] := by
  rw [nx_lt hk, List.take_append_getElem hk]
variable {b g n : Nat} {old yng : Nat → Nat} {pin : Nat → Bool}
theorem end_below (w : World) (h : Lst w b g n old yng pin) :
    Calls Try.prog 22 #[.pointer (some ⟨b, 0, none⟩)] w fun e w' => e = .returned (.int .i64 n) ∧ Below w.heap.size w w' := (end_any w h).mono fun _ _ h => ⟨h.1, h.2 ▸ Below.refl _ _⟩
theorem asked_wide (P : Program) (o : Oper) (a : Act) (C : World → Prop) : Oper.askedIn Fence.wide P o a C = True := eq_true fun _ _ _ _ => trivial
attribute [local go_sem ↓] asked_wide
set_option maxHeartbeats 4000000 in
theorem order_seq (bx : Nat) (o : List Nat) (hr : Ring n old yng o) :
    Seq Try.prog 24 #[.pointer (some ⟨bx, 0, none⟩)] encI o (fun X => BoxP bx (some ⟨b, 0, none⟩) X ∧ Lst X b g n old yng pin) := by
  intro lo J Jx Own W hJ hJx hM hK hY h0
  have HY := Lib.hid hY
  have HJ := Lib.hid hJ
  have HK := Lib.hid hK
  have HR := Lib.hid hr
  clear hY hJ hr
  have k0 := hK [] W h0
  have cb := k0.1.cell
  have c0 := k0.2.c0
  have hsm := k0.2.small
  have HL := Lib.hid k0.2
  have cy := k0.2.cY (Nat.le_refl n)
  rw [ring_first HR.out] at cy
  have g0 := Go.cell_regrown cb
  have g1 := Go.cell_regrown c0
  have g2 := Go.cell_regrown cy
  have H0 := Lib.hid h0
  have hnn : n < n + 1 := by omega
  obtain ⟨x0, ex0⟩ : ∃ x, nx o n 0 = x := ⟨_, rfl⟩
  rw [ex0] at g2
  have E0 := Lib.hid ex0
  clear h0 k0 hK cy ex0
  refine callsIn_wide.1 (callsIn_of_wp (F := Fence.wide) (n := 0) Try.func24 rfl trivial ?_ rfl)
  simp only [Try.ntmps24, List.size_toArray, List.length_cons, List.length_nil, Nat.reduceAdd, Nat.reduceSub, Array.replicate_succ, Array.replicate_zero, List.push_toArray, List.append_toArray, List.nil_append, List.cons_append]
  gi_wp2_with fail
  refine wpIn_region_quiet_below rfl (by kernel_rfl) (by kernel_rfl) ?_
  iterate 10 gi_big_quiet_step ((exact ⟨rfl, CallsIn.regrown_of (callsIn_wide.2 (end_below _ (HL.out.bel (below_regrown _ _ _))))⟩))
  refine wpQuietIn_nil ?_
  intro U hU
  have KU := Rd.below_of_regrown hU
  have H1 := Lib.hid (own_step HJ.out H0.out KU)
  have S1 := KU.size
  clear hU KU g0 g1 g2 cb c0 HL H0
  gi_wp2_with fail
  gi_loopw [3] (fun i X => ∃ k : Nat, k ≤ o.length ∧ i = .int .i64 (nx o n k) ∧ Hid (J (o.take k) X) ∧ W.heap.size ≤ X.heap.size) (fun i _ => o.length - posI o n i)
  case atStart => exact ⟨0, by omega, by rw [E0.out], H1, S1⟩
  case round =>
    obtain ⟨k, hk, rfl, HJk, hsz⟩ := hrel
    rename World => X
    clear H1 S1
    have kx := HK.out _ _ HJk.out
    have cb := kx.1.cell
    have HL := Lib.hid kx.2
    clear kx
    by_cases hlt : k < o.length
    · have hxn := nx_ne HR.out.lt hlt
      have HP := Lib.hid (pre_nx (n := n) hlt)
      have HT := Lib.hid (take_nx (n := n) hlt)
      have HN := Lib.hid (ring_next HR.out hlt)
      have HM1 := Lib.hid (pos_nx HR.out.nodup HR.out.lt (show k ≤ o.length by omega))
      have HM2 := Lib.hid (pos_nx HR.out.nodup HR.out.lt (show k + 1 ≤ o.length by omega))
      obtain ⟨x, ex⟩ : ∃ x, nx o n k = x := ⟨_, rfl⟩
      rw [ex] at hxn HP HT HN HM1 ⊢
      have hne : (x : Int) < n := by omega
      clear ex
      obtain ⟨fn, tmps, assign, body, hy, hR⟩ := HY.out _ _ X HJk.out HP.out hsz
      have hy' : (Instr.yield lo #[.int .i64 x]).run Try.prog X = .ok (.round lo fn tmps assign body) X := hy
      clear hy
      gi_wp2_with (refine ⟨trivial, rfl, ?_⟩; refine (callsIn_wide.2 (end_any _ HL.out)).mono ?_; rintro e _ ⟨rfl, rfl⟩)
      refine ⟨rfl, hR.mono ?_⟩
      rintro e Z2 ⟨hkf, (⟨rfl, hJ2, ho2⟩ | ⟨rfl, hJ2⟩)⟩
      · have H3 := Lib.hid hJ2
        have S3 : W.heap.size ≤ Z2.heap.size := Nat.le_trans hsz hkf.1
        clear hJ2 hkf ho2 hy' cb HL
        rw [← HT.out] at H3
        have kz := HK.out _ _ H3.out
        have cb := kz.1.cell
        have c0 := kz.2.c0
        have cy := kz.2.cY (Nat.le_of_lt hxn)
        have hxn' : x < n + 1 := by omega
        rw [HN.out] at cy
        clear kz
        gi_wp2
        go_roundw
        case rel => exact ⟨k + 1, by omega, rfl, H3, S3⟩
        case measure => rw [HM1.out, HM2.out]; omega
      · have H3 := Lib.hid hJ2
        clear hJ2 hkf hy'
        gi_wp2
        refine bodyPost_ret (results_none rfl _ _ _) rfl ?_
        exact ⟨⟨_, rfl⟩, .inr ⟨_, HP.out, H3.out⟩⟩
    · obtain rfl : k = o.length := by omega
      rw [nx_end] at *
      gi_wp2_with (refine ⟨trivial, rfl, ?_⟩; refine (callsIn_wide.2 (end_any _ HL.out)).mono ?_; rintro e _ ⟨rfl, rfl⟩)
      go_end0
      exact ⟨⟨_, rfl⟩, .inl (by have := HJk.out; rw [List.take_length] at this; exact this)⟩
end Go.Proofs.Ytabedlahdkkihaa.LrB

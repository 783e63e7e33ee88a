/-
  The reference's NewDisk and Set.
-/
import Derived.Test.YtajoajblmaopjaaDkP
import Derived.Test.YtajoajblmaopjaaDkD
import Derived.Test.YtajoajblmaopjaaPredT
namespace Go.Proofs.Ytajoajblmaopjaa.DkQ
open Go.RowKit Rd
open Go.Proofs.Ytajoajblmaopjaa.Row hiding cs blk3_0 blk3_1 blk3_2
open Mid DkM DkA DkL DkN DkO DkP
open DkB (rd z32_len)
open DkH (Bd)
open DkD (newS z32_bd run_make_32)
set_option linter.unusedVariables false
set_option linter.unusedSimpArgs false
set_option maxRecDepth 10000
variable {X Y : World} {B0 pd bg n : Nat} {s : DS}
theorem info_row : (Try.prog.info? 32).map (fun i => (i.zero, i.size, i.bytes)) = some (some (.slice none 0 0), 1, 24) := by kernel_rfl
theorem yields_app_rw {ops : Array Oper} {o : Oper} {b : Act} {w : World} {R : Value → World → Prop} (hgd : o.guard = none) (s x : Operand)
    (ho : o.op = .call { callee := .builtin .append, args := #[s, x], argTypes := #[47, 47] })
    (base : Nat) (v : Value) (n : Nat) (r : List Value) (hs : b.eval s = v) (hown : w.ownsRow base 32 1 v n r)
    (g c : Nat) (y : Value) (hx : b.eval x = .slice (some ⟨g, 0, none⟩) 1 c) (hg : blk w g = some (.cells #[y] 32 (0, 0))) (hy : y.oneCell' = true)
    (h63 : n ≤ 1000000) (hbase : base ≤ w.heap.size)
    (h : ∀ v' w', w'.ownsRow base 32 1 v' (n + 1) (r ++ [y]) → w.grownBy w' v.ownBlock → R v' w') : Pred.yields Try.prog ops o b w R := by
  obtain ⟨i0, hi, hz0, hz1, hz2⟩ := info_parts info_row
  obtain ⟨v', w', hrun, h2, h3⟩ := App.run_append_reads (P := Try.prog) w base 47 o.type 32 i0 _ 1 24 Try.underlying47 hi hz0 hz1 hz2 rfl (by decide) v n r hown (some ⟨g, 0, none⟩) 1 c [y]
    ⟨rfl, Or.inr ⟨g, 0, rfl, blk_lt hg, fun j hj => by rw [Nat.zero_add, blk_cell hg, List.getElem?_toArray]⟩⟩ (by intro u hu; simp at hu; subst hu; exact hy) (by unfold maxLen; omega) (by omega) hbase
  refine Pred.yields_run (v := v') (w' := w') (Pred.wanted_none hgd) ?_ (h v' w' h2 h3)
  unfold execOp
  simp only [ho, resolve, invoke, builtin, Sem.run_bind, Sem.run_pure, Result.andThen_ok, List.map_toArray, List.map_cons, List.map_nil, hs, hx, hrun]
theorem yields_skip {ops : Array Oper} {o : Oper} {b : Act} {w w' : World} {R : Value → World → Prop} (hw : Region.wanted o (yielded ops b.tmps) = true) (hr : (execOp b.eval o).run Try.prog w = .ok .skip w') (h : R undef w') : Pred.yields Try.prog ops o b w R := by
  unfold Pred.yields; rw [if_pos hw, hr]; exact h
def OneRw (u : Value) (w : World) (y : Value) : Prop := ∃ g, u = .slice (some ⟨g, 0, none⟩) 1 1 ∧ blk w g = some (.cells #[y] 32 (0, 0))
theorem OneRw.below {u y : Value} (h : OneRw u X y) (hb : Below X.heap.size X Y) : OneRw u Y y := by
  obtain ⟨g, h1, h2⟩ := h
  exact ⟨g, h1, (blk_below hb g (blk_lt h2)).trans h2⟩
theorem own_below {B e m z : Nat} {v : Value} {xs : List Value} (h : X.ownsRow B e z v m xs) (hb : Below X.heap.size X Y) : Y.ownsRow B e z v m xs := own_keep h fun k hu => by
  obtain ⟨cur, hc⟩ := own_type h hu
  exact hb.block k (blk_lt (show blk X k = _ from hc))
/-- a disk that is being built: k rows -/
def Nr (X : World) (B0 : Nat) (v : Value) (k : Nat) : Prop := ∃ bs : List Value, X.ownsRow B0 32 1 v k bs ∧ ∀ i, i < k → ∃ u, bs[i]? = some u ∧ Oc X B0 u z32
theorem Nr.below {v : Value} {k : Nat} (h : Nr X B0 v k) (hb : Below X.heap.size X Y) : Nr Y B0 v k := by
  obtain ⟨bs, h1, h2⟩ := h
  exact ⟨bs, own_below h1 hb, fun i hi => by
    obtain ⟨u, h3, h4⟩ := h2 i hi
    exact ⟨u, h3, own_below h4 hb⟩⟩
def Nh (X : World) (pd : Nat) (v : Value) : Prop := Rh X pd v (.slice none 0 0) (-1) 0 false 0
theorem Nh.below {v : Value} (h : Nh X pd v) (hb : Below X.heap.size X Y) : Nh Y pd v := ⟨(blk_below hb pd (blk_lt h.head)).trans h.head⟩
theorem made32 (X : World) (hB : B0 ≤ X.heap.size) : Oc (X.alloc (.cells (us z32).toArray 5)) B0 (.slice (some ⟨X.heap.size, 0, none⟩) 32 32) z32 :=
  ⟨rfl, .inr ⟨_, 32, _, rfl, hB, blk_alloc_at _ _ _ rfl, Nat.le_refl _, by decide, rfl, rfl⟩⟩
theorem rnew_no (m : Int) (w : World) (hm : ¬ (1 ≤ m ∧ m ≤ 2048)) :
    Calls Try.prog 9 #[.int .i64 m] w fun e w' => e = .returned (.pointer none) ∧ w = w' := by
  by_cases h0 : m < 1
  · have d0 : decide (m < 1) = true := decide_eq_true h0
    go_enter Try.func9, Try.ntmps9
    go_wp2
    go_ret
    exact ⟨rfl, rfl⟩
  · have d0 : decide (m < 1) = false := decide_eq_false h0
    have d1 : decide (2048 < m) = true := decide_eq_true (by omega)
    go_enter Try.func9, Try.ntmps9
    go_wp2
    go_ret
    exact ⟨rfl, rfl⟩
attribute [local go_sem ↓] run_make_32
set_option maxHeartbeats 8000000 in
theorem rnew_any (n : Nat) (w : World) (hn : 1 ≤ n ∧ n ≤ 2048) :
    Calls Try.prog 9 #[.int .i64 n] w fun e w' => (∃ pd bg, e = .returned (.pointer (some ⟨pd, 0, none⟩)) ∧ Rf w' w.heap.size pd bg n (newS n)) ∧ Below w.heap.size w w' := by
  obtain ⟨hn1, hn2⟩ := hn
  have d0 : decide ((n : Int) < 1) = false := decide_eq_false (by omega)
  have d1 : decide (2048 < (n : Int)) = false := decide_eq_false (by omega)
  go_enter Try.func9, Try.ntmps9
  go_upto_region 5 with (fail)
  refine Rd.name_world ?_
  intro W hW
  have bP : blk W w.heap.size = some (.cells #[.slice none 0 0, .slice none 0 0, .int .i64 (-1), .int .i64 0, .bool false, .int .i64 0] 50 (0, 0)) := by rw [hW]; exact blk_alloc_at _ _ _ rfl
  have L0 : Below w.heap.size w W := by rw [hW]; repeat' (first | (with_reducible exact Below.refl _ _) | (with_reducible refine Rd.below_step ?_ (by assumption)) | (with_reducible refine Rd.below_alloc ?_ _) | (with_reducible refine Rd.below_drewN ?_ _) | (with_reducible refine Below.drew ?_) | (with_reducible refine Below.setCell ?_ ?_ _) | (with_reducible refine Rd.below_setRow ?_ ?_ _) | go_size | (simp only [World.size_alloc]; omega) | omega)
  obtain ⟨pd, hpd⟩ : ∃ p, w.heap.size = p := ⟨_, rfl⟩
  have hN0 : Hid (∃ v, Nh W pd v ∧ Nr W pd v 0) := Lib.hid ⟨_, ⟨by rw [← hpd]; exact bP⟩, [], World.ownsRow_nil _ _ _ _, fun i hi => absurd hi (by omega)⟩
  rw [hpd] at L0 ⊢
  clear hW bP
  go_loopw [4] (fun v X => ∃ k : Nat, k ≤ n ∧ v = .int .i64 k ∧ Hid (∃ v, Nh X pd v ∧ Nr X pd v k) ∧ Below pd w X) (fun v _ => n - (intOf v).toNat)
  case atStart => exact ⟨0, by omega, rfl, hN0, L0⟩
  case round =>
    obtain ⟨k, hk, rfl, HN, hb⟩ := hrel
    rename World => Z
    clear hN0 L0
    by_cases hkn : k < n
    · have hkn' : (k : Int) < (n : Int) := by omega
      obtain ⟨v, hh, hr⟩ := HN.out
      have hv9 : ∃ a c, v = .slice a k c := by
        obtain ⟨bs, h1, -⟩ := hr
        obtain ⟨a, c, e, -, -⟩ := owns_val h1
        exact ⟨a, c, e⟩
      obtain ⟨va, vc, rfl⟩ := hv9
      have hlt := blk_lt hh.head
      have hZ : pd ≤ Z.heap.size := by omega
      have HH := Lib.hid (And.intro hh hr)
      clear HN hh hr
      go_upto_region 7 with (fail)
      refine PredT.region_of (W := Z) (pd) hZ [7, 10] [
          fun y => Nh y pd (.slice va k vc) ∧ Nr y pd (.slice va k vc) k,
          fun y => Nh y pd (.slice va k vc),
          fun y => ∃ v, Nh y pd v ∧ Nr y pd v (k + 1)] [
          PredT.At 0 (.pointer (some ⟨pd, 0, none⟩)),
          PredT.At 0 (.pointer (some ⟨pd, 0, none⟩)),
          PredT.At 0 (.pointer (some ⟨pd, 0, none⟩)),
          PredT.At 0 (.pointer (some ⟨pd, 0, none⟩)),
          PredT.At 0 (.slice va k vc),
          PredT.When 0 (fun u y => Oc y pd u z32),
          PredT.When 0 (fun u y => ∃ z, OneRw u y z ∧ Oc y pd z z32),
          PredT.When 1 (fun u y => Nh y pd (.slice va k vc) ∧ Nr y pd u (k + 1)),
          PredT.At 0 (.pointer (some ⟨pd, 0, none⟩)),
          PredT.At 0 (.pointer (some ⟨pd, 0, none⟩)),
          PredT.At 0 (undef)] (by kernel_rfl) (by kernel_rfl) (by kernel_rfl) (by decide) (by decide) ?_ ?_ ?_ ?_ ?_ ?_
      · exact ⟨PredT.at_stab _ _ _ _, PredT.at_stab _ _ _ _, PredT.at_stab _ _ _ _, PredT.at_stab _ _ _ _, PredT.at_stab _ _ _ _, PredT.when_stab _ _ _ (fun u y y' h hb => own_below h hb), PredT.when_stab _ _ _ (fun u y y' ⟨z, h1, h2⟩ hb => ⟨z, h1.below hb, own_below h2 hb⟩), PredT.when_stab _ _ _ (fun u y y' ⟨h0, h1⟩ hb => ⟨h0.below hb, h1.below hb⟩), PredT.at_stab _ _ _ _, PredT.at_stab _ _ _ _, PredT.at_stab _ _ _ _, trivial⟩
      · intro q hq
        rcases List.mem_cons.1 hq with rfl | hq
        · exact fun y y' ⟨h1, h2⟩ hb => ⟨h1.below hb, h2.below hb⟩
        rcases List.mem_cons.1 hq with rfl | hq
        · exact fun y y' h hb => h.below hb
        rcases List.mem_cons.1 hq with rfl | hq
        · exact fun y y' ⟨u, h1, h2⟩ hb => ⟨u, h1.below hb, h2.below hb⟩
        cases hq
      · exact HH.out
      · refine ⟨.inr ?_, .inr ?_, .inr ?_, .inr ?_, .inr ?_, .inr ?_, .inr ?_, .inl rfl, .inr ?_, .inr ?_, .inl rfl, trivial⟩
        · intro b9 X ph hE hd hn hS hV hI hF
          have r3 : b9.tmps[3]?.getD undef = .pointer (some ⟨pd, 0, none⟩) := (hn 3 (by kernel_rfl)).trans rfl
          exact Pred.yields_run (v := .pointer (some ⟨pd, 0, none⟩)) (Pred.wanted_none rfl) (by go_simp) ⟨Below.refl _ _, rfl, Nat.zero_le _⟩
        · intro b9 X ph hE hd hn hS hV hI hF
          have r3 : b9.tmps[3]?.getD undef = .pointer (some ⟨pd, 0, none⟩) := (hn 3 (by kernel_rfl)).trans rfl
          exact Pred.yields_run (v := .pointer (some ⟨pd, 0, none⟩)) (Pred.wanted_none rfl) (by go_simp) ⟨Below.refl _ _, rfl, Nat.zero_le _⟩
        · intro b9 X ph hE hd hn hS hV hI hF
          obtain ⟨r19, j19⟩ : PredT.At 0 (.pointer (some ⟨pd, 0, none⟩)) (b9.tmps[19]?.getD undef) X ph := hV 1 _ 19 rfl rfl (Pred.waits_near (by kernel_rfl) (by kernel_rfl))
          exact Pred.yields_run (v := .pointer (some ⟨pd, 0, none⟩)) (Pred.wanted_none rfl) (by go_simp) ⟨Below.refl _ _, rfl, Nat.zero_le _⟩
        · intro b9 X ph hE hd hn hS hV hI hF
          obtain ⟨r20, j20⟩ : PredT.At 0 (.pointer (some ⟨pd, 0, none⟩)) (b9.tmps[20]?.getD undef) X ph := hV 2 _ 20 rfl rfl (Pred.waits_near (by kernel_rfl) (by kernel_rfl))
          exact Pred.yields_run (v := .pointer (some ⟨pd, 0, none⟩)) (Pred.wanted_none rfl) (by go_simp) ⟨Below.refl _ _, rfl, Nat.zero_le _⟩
        · intro b9 X ph hE hd hn hS hV hI hF
          obtain ⟨r21, j21⟩ : PredT.At 0 (.pointer (some ⟨pd, 0, none⟩)) (b9.tmps[21]?.getD undef) X ph := hV 3 _ 21 rfl rfl (Pred.waits_near (by kernel_rfl) (by kernel_rfl))
          have hp0 : ph = 0 := Nat.le_zero.1 (hF 0 7 rfl (Pred.waits_more 8 _ _ (Nat.le_of_ble_eq_true (by kernel_rfl)) (by kernel_rfl)))
          subst hp0
          have hb0 : Nh X pd (.slice va k vc) ∧ Nr X pd (.slice va k vc) k := hS
          have z := Rh.c0 hb0.1
          exact Pred.yields_run (v := .slice va k vc) (Pred.wanted_none rfl) (by go_simp) ⟨Below.refl _ _, rfl, Nat.zero_le _⟩
        · intro b9 X ph hE hd hn hS hV hI hF
          have hsz := hE.size
          exact Pred.yields_run (v := .slice (some ⟨X.heap.size, 0, none⟩) 32 32) (w' := X.alloc (.cells (us z32).toArray 5)) (Pred.wanted_none rfl) (by go_simp) ⟨(Below.refl _ _).alloc (Nat.le_refl _) _, Nat.zero_le _, fun _ => made32 X (by omega)⟩
        · intro b9 X ph hE hd hn hS hV hI hF
          obtain ⟨j23, r23⟩ : PredT.When 0 (fun u y => Oc y pd u z32) (b9.tmps[23]?.getD undef) X ph := hV 5 _ 23 rfl rfl (Pred.waits_near (by kernel_rfl) (by kernel_rfl))
          have hp0 : ph = 0 := Nat.le_zero.1 (hF 0 7 rfl (Pred.waits_more 8 _ _ (Nat.le_of_ble_eq_true (by kernel_rfl)) (by kernel_rfl)))
          subst hp0
          have hb0 : Nh X pd (.slice va k vc) ∧ Nr X pd (.slice va k vc) k := hS
          have ho := r23 rfl
          obtain ⟨a9, c9, hv, -, -⟩ := owns_val ho
          have r23e : b9.tmps[23]?.getD undef = .slice a9 32 c9 := hv
          rw [r23e] at ho
          have hB9 := (Below.refl X.heap.size X).alloc (Nat.le_refl _) (.cells #[.slice a9 32 c9] 32)
          exact Pred.yields_run (v := .slice (some ⟨X.heap.size, 0, none⟩) 1 1) (w' := X.alloc (.cells #[.slice a9 32 c9] 32)) (Pred.wanted_none rfl) (by go_simp) ⟨hB9, Nat.zero_le _, fun _ => ⟨_, ⟨X.heap.size, rfl, blk_alloc_at _ _ _ rfl⟩, own_below ho hB9⟩⟩
        · intro b9 X ph hE hd hn hS hV hI hF
          obtain ⟨r18, j18⟩ : PredT.At 0 (.pointer (some ⟨pd, 0, none⟩)) (b9.tmps[18]?.getD undef) X ph := hV 0 _ 18 rfl rfl (Pred.waits_near (by kernel_rfl) (by kernel_rfl))
          exact Pred.yields_run (v := .pointer (some ⟨pd, 0, none⟩)) (Pred.wanted_none rfl) (by go_simp) ⟨Below.refl _ _, rfl, Nat.zero_le _⟩
        · intro b9 X ph hE hd hn hS hV hI hF
          obtain ⟨r26, j26⟩ : PredT.At 0 (.pointer (some ⟨pd, 0, none⟩)) (b9.tmps[26]?.getD undef) X ph := hV 8 _ 26 rfl rfl (Pred.waits_near (by kernel_rfl) (by kernel_rfl))
          exact Pred.yields_run (v := .pointer (some ⟨pd, 0, none⟩)) (Pred.wanted_none rfl) (by go_simp) ⟨Below.refl _ _, rfl, Nat.zero_le _⟩
      · refine ⟨?_, ?_, trivial⟩
        · refine ⟨_, rfl, fun k hk => (by cases hk), fun b9 X hE hd hn hS hV hI => ?_⟩
          obtain ⟨r22, j22⟩ : PredT.At 0 (.slice va k vc) (b9.tmps[22]?.getD undef) X 0 := hV 4 _ 22 rfl rfl (Pred.waits_near (by kernel_rfl) (by kernel_rfl))
          obtain ⟨j24, r24⟩ : PredT.When 0 (fun u y => ∃ z, OneRw u y z ∧ Oc y pd z z32) (b9.tmps[24]?.getD undef) X 0 := hV 6 _ 24 rfl rfl (Pred.waits_near (by kernel_rfl) (by kernel_rfl))
          replace hS : (fun y => Nh y pd (.slice va k vc) ∧ Nr y pd (.slice va k vc) k) X := hS
          obtain ⟨z, ⟨g9, hg9, hgc⟩, hz⟩ := r24 rfl
          have hXs := hE.size
          obtain ⟨hb0, bs, hr1, hr2⟩ := hS
          obtain ⟨az, cz, ez, -, -⟩ := owns_val hz
          refine yields_app_rw rfl (.tmp 22) (.tmp 24) rfl pd (.slice va k vc) k bs (by simpa [Act.eval] using r22) hr1 g9 1 z (by simpa [Act.eval] using hg9) hgc (by rw [ez]; rfl) (by omega) (by omega) ?_
          intro u y hown hgr
          have hne : ∀ (k : Nat) (cur : Array Value) (T : TypeId), X.heap[k]? = some (.cells cur T (0, 0)) → T ≠ 32 → y.heap[k]? = X.heap[k]? := fun k cur T hk hT => hgr.block k (blk_lt (show blk X k = _ from hk)) (fun e => by obtain ⟨cur2, h9⟩ := own_type hr1 e.symm; rw [hk] at h9; cases h9; exact hT rfl)
          have hbl : Nh y pd (.slice va k vc) := ⟨(hne pd _ _ hb0.head (by decide)).trans hb0.head⟩
          have hoc : ∀ {u : Value}, Oc X pd u z32 → Oc y pd u z32 := fun h => h.keep fun k cur hk => hne k cur _ hk (by decide)
          refine ⟨OctA.below_grownBy hgr (by omega) (fun k hk => (hr1.lt k hk).1), hbl, by omega, fun _ => ⟨hbl, bs ++ [z], hown, fun i hi => ?_⟩⟩
          have hbl2 : bs.length = k := by have := hr1.1; omega
          by_cases hik : i < k
          · obtain ⟨u9, h1, h2⟩ := hr2 i hik
            exact ⟨u9, by rw [List.getElem?_append_left (by omega)]; exact h1, hoc h2⟩
          · obtain rfl : i = k := by omega
            exact ⟨z, by rw [List.getElem?_append_right (by omega), hbl2, Nat.sub_self]; rfl, hoc hz⟩
        · refine ⟨_, rfl, fun k hk => (by cases hk; exact Pred.waits_near (by kernel_rfl) (by kernel_rfl)), fun b9 X hE hd hn hS hV hI => ?_⟩
          obtain ⟨r27, j27⟩ : PredT.At 0 (.pointer (some ⟨pd, 0, none⟩)) (b9.tmps[27]?.getD undef) X 1 := hV 9 _ 27 rfl rfl (Pred.waits_near (by kernel_rfl) (by kernel_rfl))
          obtain ⟨j25, r25⟩ : PredT.When 1 (fun u y => Nh y pd (.slice va k vc) ∧ Nr y pd u (k + 1)) (b9.tmps[25]?.getD undef) X 1 := hV 7 _ 25 rfl rfl (Pred.waits_near (by kernel_rfl) (by kernel_rfl))
          replace hS : (fun y => Nh y pd (.slice va k vc)) X := hS
          obtain ⟨hbl, hnr⟩ := r25 rfl
          clear r25
          obtain ⟨u, hu⟩ : ∃ u, b9.tmps[25]?.getD undef = u := ⟨_, rfl⟩
          rw [hu] at hnr
          obtain ⟨bs, hr1, hr2⟩ := hnr
          obtain ⟨au, cu, rfl, hu1, hu2⟩ := owns_val hr1
          have f0 := Rh.fz hbl 0
          have cz := Rh.c0 hbl
          have hk9 : ∀ (k1 : Nat) (cur : Array Value) (T : TypeId), X.heap[k1]? = some (.cells cur T (0, 0)) → T ≠ 50 → (X.setCell ⟨pd, 0, none⟩ (.slice au (k + 1) cu)).heap[k1]? = X.heap[k1]? := fun k1 cur T hk hT => heap_setCell_other _ _ _ _ (fun e => by have e9 : k1 = pd := e; rw [e9] at hk; have := hk.symm.trans hbl.head; cases this; exact hT rfl)
          refine yields_skip (w' := X.setCell ⟨pd, 0, none⟩ (.slice au (k + 1) cu)) (Pred.wanted_none rfl) (by go_simp) ⟨?_, ⟨_, ⟨blk_set X pd 0 _ _ _ hbl.head⟩, bs, own_keep hr1 fun k1 h1 => ?_, fun i hi => ?_⟩, rfl, Nat.zero_le _⟩
          · exact ⟨rfl, rfl, rfl, by simp, fun k1 h1 => heap_setCell_other _ _ _ _ (by show k1 ≠ pd; omega)⟩
          · obtain ⟨cur, hc⟩ := own_type hr1 h1
            exact hk9 k1 cur _ hc (by decide)
          · obtain ⟨u9, h1, h2⟩ := hr2 i hi
            exact ⟨u9, h1, h2.keep fun k1 cur hk => hk9 k1 cur _ hk (by decide)⟩
      intro v X hE hS hv
      replace hS : (fun y => ∃ v, Nh y pd v ∧ Nr y pd v (k + 1)) X := hS
      have e0 : v 0 = .pointer (some ⟨pd, 0, none⟩) := (hv 0 _ 18 rfl rfl).1
      have e1 : v 1 = .pointer (some ⟨pd, 0, none⟩) := (hv 1 _ 19 rfl rfl).1
      have e2 : v 2 = .pointer (some ⟨pd, 0, none⟩) := (hv 2 _ 20 rfl rfl).1
      have e3 : v 3 = .pointer (some ⟨pd, 0, none⟩) := (hv 3 _ 21 rfl rfl).1
      have e4 : v 4 = .slice va k vc := (hv 4 _ 22 rfl rfl).1
      generalize hg5 : v 5 = vv5
      generalize hg6 : v 6 = vv6
      generalize hg7 : v 7 = vv7
      have e8 : v 8 = .pointer (some ⟨pd, 0, none⟩) := (hv 8 _ 26 rfl rfl).1
      have e9 : v 9 = .pointer (some ⟨pd, 0, none⟩) := (hv 9 _ 27 rfl rfl).1
      simp only [Pred.putsF_cons, Pred.putsF_nil, Nat.zero_add, Nat.reduceAdd, e0, e1, e2, e3, e4, hg5, hg6, hg7, e8, e9, Act.put, List.setIfInBounds_toArray, List.set_cons_zero, List.set_cons_succ]
      clear e0 e1 e2 e3 e4 hg5 hg6 hg7 e8 e9 hv
      have HS := Lib.hid hS
      have LX : Below pd w X := hb.trans hE
      clear hE hb HH
      go_wp2_with fail
      go_roundw
      case rel => exact ⟨k + 1, by omega, by go_num, HS, LX⟩
      case measure => simp [intOf]; omega
    · obtain rfl : k = n := by omega
      have hF := HN.out
      have HB := hb
      clear HN
      go_wp2
      go_ret
      subst hpd
      obtain ⟨v, h1, bs, h2, h3⟩ := hF
      obtain ⟨bg, cb, rfl, hbg, -, -, -, -⟩ := owns_pos h2 (by omega)
      have e1 : hl (newS k).H 0 = [] := hl_none (fun a ha => by rw [List.eq_of_mem_replicate ha]) 0
      refine ⟨⟨_, bg, rfl, Nat.le_refl _, ⟨cb, _, h1, ⟨bs, h2, fun i hi => ?_⟩, ?_⟩, ⟨hn1, hn2⟩, ⟨by simp [newS], fun l hl => ?_⟩, ⟨by simp [newS], fun h hh => ?_⟩⟩, HB⟩
      · obtain ⟨u, h4, h5⟩ := h3 i hi
        have e2 : (newS k).K.getD i [] = z32 := by simp [newS, List.getD, hi]
        exact ⟨u, h4, by rw [e2]; exact h5⟩
      · rw [e1]
        exact ⟨[], World.ownsRow_nil _ _ _ _, fun j x hx => by simp at hx⟩
      · rw [List.eq_of_mem_replicate hl]; exact ⟨z32_len, z32_bd⟩
      · rw [List.eq_of_mem_replicate hh]; exact ⟨z32_len, z32_bd⟩
end Go.Proofs.Ytajoajblmaopjaa.DkQ

/-
  Whatever is done to a disk, each call tells what the reference tells (DiskActs).
-/
import Derived.Test.YtajoajblmaopjaaDkZu
import Derived.Test.YtajoajblmaopjaaAlike
import Derived.Test.YtajoajblmaopjaaInts
import Derived.Test.YtajoajblmaopjaaDkK
import Derived.Deep.CutRange
import Derived.Deep.CutBlock
namespace Go.Proofs.Ytajoajblmaopjaa.DkZw
open Go.RowKit Rd
open Go.Proofs.Ytajoajblmaopjaa.Row hiding cs blk3_0 blk3_1 blk3_2
open Mid DkM DkA DkB DkC DkO DkP DkS DkZ DkZs DkZu
open DkE (awake_any src_of)
open Pred (Is is_stab)
open DkD (new_no new_any newS)
open DkQ (rnew_no rnew_any)
open DkR (Fr.refl Fr.trans)
open DkK (sector_int secI secI_bd)
open DkH (Bd)
set_option linter.unusedVariables false
set_option linter.unusedSimpArgs false
set_option maxRecDepth 10000
variable {w X Y : World} {b kg hg B0 pd bg n : Nat} {s t s' t' : DS}
/-- both, side by side -/
structure Sx (w X : World) (b kg hg B0 pd bg n c : Nat) (s t : DS) : Prop where
  d : Dk X b kg hg n s
  r : Rf X B0 pd bg n t
  k : Lk c s t
  below : Below w.heap.size w X
  lo : w.heap.size ≤ b ∧ w.heap.size ≤ kg ∧ w.heap.size ≤ hg ∧ w.heap.size ≤ B0
theorem Sx.bel {c : Nat} (h : Sx w X b kg hg B0 pd bg n c s t) (hb : Below X.heap.size X Y) : Sx w Y b kg hg B0 pd bg n c s t :=
  ⟨h.d.bel hb, h.r.below hb, h.k, h.below.trans (hb.mono h.below.size), h.lo⟩
theorem Sx.up {c d : Nat} (h : Sx w X b kg hg B0 pd bg n c s t) (hc : c ≤ d) : Sx w X b kg hg B0 pd bg n d s t := ⟨h.d, h.r, h.k.more hc, h.below, h.lo⟩
/-- after the disk's call, ahead of the reference's -/
structure Hx (w X : World) (b kg hg B0 pd bg n : Nat) (s t : DS) : Prop where
  d : Dk X b kg hg n s
  r : Rf X B0 pd bg n t
  below : Below w.heap.size w X
  lo : w.heap.size ≤ b ∧ w.heap.size ≤ kg ∧ w.heap.size ≤ hg ∧ w.heap.size ≤ B0
theorem Hx.bel (h : Hx w X b kg hg B0 pd bg n s t) (hb : Below X.heap.size X Y) : Hx w Y b kg hg B0 pd bg n s t :=
  ⟨h.d.bel hb, h.r.below hb, h.below.trans (hb.mono h.below.size), h.lo⟩
theorem Sx.half {c : Nat} (h : Sx w X b kg hg B0 pd bg n c s t) (d : Dk Y b kg hg n s') (ht : Tn [b, kg, hg] X Y) : Hx w Y b kg hg B0 pd bg n s' t :=
  ⟨d, rf_tn h.r h.d ht, h.below.trans (ht.below (by intro k hk; simp at hk; have := h.lo; omega) h.below.size), h.lo⟩
theorem Hx.whole {c : Nat} (h : Hx w X b kg hg B0 pd bg n s' t) (r : Rf Y B0 pd bg n t') (hf : Fr B0 X Y) (hk : Lk c s' t') : Sx w Y b kg hg B0 pd bg n c s' t' :=
  ⟨dk_fr h.d hf, r, hk, h.below.trans (hf.1.mono h.lo.2.2.2), h.lo⟩
/-- a block of another kind stands while either side turns -/
theorem blk_tn {g : Nat} {cur : Array Value} {T : TypeId} (h : blk X g = some (.cells cur T (0, 0))) (hd : Dk X b kg hg n s) (ht : Tn [b, kg, hg] X Y) (h1 : T ≠ 63) (h2 : T ≠ 66) (h3 : T ≠ 68) : blk Y g = some (.cells cur T (0, 0)) ∧ g ∉ [b, kg, hg] := by
  have hm : g ∉ [b, kg, hg] := fun hm => by
    simp only [List.mem_cons, List.not_mem_nil, or_false] at hm
    rcases hm with rfl | rfl | rfl
    · have := h.symm.trans hd.head; cases this; exact h1 rfl
    · have := h.symm.trans hd.kept; cases this; exact h2 rfl
    · have := h.symm.trans hd.held; cases this; exact h3 rfl
  exact ⟨ht.blk h hm, hm⟩
theorem blk_fr {g : Nat} {cur : Array Value} {T : TypeId} (h : blk X g = some (.cells cur T (0, 0))) (hf : Fr B0 X Y) (h1 : T ≠ 50) (h2 : T ≠ 32) (h3 : T ≠ 71) : blk Y g = some (.cells cur T (0, 0)) := (hf.2 g cur T h h1 h2 h3).trans h
theorem iv_ints (r : List Nat) : iv r = Alk.i64s (r.map fun (x : Nat) => (x : Int)) := by simp [iv, Alk.i64s]
theorem up_len (s : DS) : ∀ m, (upN s m).2.2.length ≤ m
  | 0 => Nat.le_refl _
  | m + 1 => by
    have ih := up_len s m
    unfold upN
    simp only
    split
    · split
      · simp; exact ih
      · exact Nat.le_succ_of_le ih
    · exact Nat.le_succ_of_le ih
theorem ul_len (s : DS) : (uL n s).length ≤ n := by
  unfold uL
  split
  · exact up_len s n
  · exact Nat.zero_le _
theorem rdl_bd (h : Rf X B0 pd bg n s) (i : Int) : ∀ z ∈ rdL n s i, 0 ≤ z ∧ z ≤ 255 := by
  unfold rdL
  by_cases h0 : mayE n s.dn i = 0
  · rw [if_pos h0]
    obtain ⟨hd, j, rfl, hj⟩ := may_zero h0
    exact (rd_bd h hj).2
  · rw [if_neg h0]; intro z hz; cases hz
theorem Rh_bel {bv hv : Value} {fu ms nw : Int} {dn : Bool} (h : DkN.Rh X pd bv hv fu ms dn nw) (hb : Below X.heap.size X Y) : DkN.Rh Y pd bv hv fu ms dn nw := ⟨(blk_below hb pd (blk_lt h.head)).trans h.head⟩
def Ab (X : World) (q : Nat) (kd at_ nn : Int) : Prop := blk X q = some (.cells #[.int .i64 kd, .int .i64 at_, .int .i64 nn] 31 (0, 0))
def Bb (X : World) (p : Nat) (nn : Int) : Prop := blk X p = some (.cells (us (secI nn)).toArray 5 (0, 0))
set_option maxHeartbeats 8000000 in
theorem acts_gen (m : Int) (ai : Option Addr) (len cap : Nat) (zs : List Int) (w : World) (hm1 : -9223372036854775808 ≤ m) (hm2 : m ≤ 9223372036854775807)
    (hz : ∀ z ∈ zs, Ints.In64 z) (hzl : zs.length = len * 3) (hR : Reads w 3 ai len (Ints.i64s zs)) :
    Calls Try.prog 3 #[.int .i64 m, .slice ai len cap] w fun e w' => e = .returned (.bool true) ∧ Below w.heap.size w w' := by
  have HRD := Lib.hid hR
  have HZ := Lib.hid hz
  have HZL := Lib.hid hzl
  clear hR hz hzl
  by_cases h0 : 60 < len
  · have d0 : decide (60 < len) = true := decide_eq_true h0
    go_enter Try.func3, Try.ntmps3
    go_wp2_with fail
    refine (awake_any _).mono ?_
    rintro e w2 ⟨rfl, hb2⟩
    go_wp2
    go_ret
    exact ⟨rfl, hb2⟩
  have d0 : decide (60 < len) = false := decide_eq_false h0
  have hl60 : len ≤ 60 := by omega
  by_cases hn : 1 ≤ m ∧ m ≤ 2048
  case neg =>
    go_enter Try.func3, Try.ntmps3
    go_wp2_with fail
    refine (new_no m hn _).mono ?_
    rintro e _ ⟨rfl, rfl⟩
    go_wp2_with fail
    refine (rnew_no m _ hn).mono ?_
    rintro e _ ⟨rfl, rfl⟩
    go_wp2_with fail
    refine (awake_any _).mono ?_
    rintro e w2 ⟨rfl, hb2⟩
    go_wp2
    go_ret
    exact ⟨rfl, hb2⟩
  obtain ⟨n, en⟩ : ∃ n : Nat, m = n := ⟨m.toNat, by omega⟩
  subst en
  have HNN : Hid (1 ≤ n ∧ n ≤ 2048) := Lib.hid (by omega)
  clear hm1 hm2 hn h0
  go_enter Try.func3, Try.ntmps3
  go_wp2_with fail
  refine (new_any n HNN.out _).mono ?_
  rintro e w1 ⟨⟨b, kg, hg, rfl, hb, hk, hh, d1⟩, L1⟩
  go_wp2_with fail
  refine (rnew_any n _ HNN.out).mono ?_
  rintro e w2 ⟨⟨pd, bg, rfl, r2⟩, L2⟩
  have HS : Hid (Sx w w2 b kg hg w1.heap.size pd bg n 0 (newS n) (newS n)) := Lib.hid ⟨d1.bel L2, r2, ⟨⟨0, rfl, fun _ => rfl⟩, by show (-1 : Int) ≤ -1; omega, by show (-1 : Int) ≤ _; omega, by show (0 : Int) ≤ 0; omega, by show (0 : Int) ≤ _; omega⟩, L1.trans (L2.mono L1.size), hb, hk, hh, L1.size⟩
  obtain ⟨B0, hB0⟩ : ∃ x, w1.heap.size = x := ⟨_, rfl⟩
  rw [hB0] at HS
  clear d1 r2 L1 L2 hb hk hh d0 hB0
  go_wp2_with fail
  go_loopw [8] (fun i X => ∃ (k c : Nat) (s t : DS), k ≤ len ∧ c ≤ k ∧ i = .int .i64 k ∧ Hid (Sx w X b kg hg B0 pd bg n c s t)) (fun i _ => len - (intOf i).toNat)
  case atStart => exact ⟨0, 0, _, _, by omega, by omega, rfl, HS⟩
  case round =>
    clear HS
    obtain ⟨k, c, s, t, hk9, hck, rfl, HS⟩ := hrel
    rename World => X
    by_cases hlt : k < len
    · have hlt' : (k : Int) < (len : Int) := by omega
      obtain ⟨ab, ao, rfl, hab, hcl⟩ := Ints.cell_of HRD.out (k := k * 3) (by rw [HZL.out]; omega) (by omega)
      obtain ⟨kd, hkd⟩ : ∃ v, zs.getD (k * 3) 0 = v := ⟨_, rfl⟩
      obtain ⟨at_, hat⟩ : ∃ v, zs.getD (k * 3 + 1) 0 = v := ⟨_, rfl⟩
      obtain ⟨nn, hnn⟩ : ∃ v, zs.getD (k * 3 + 2) 0 = v := ⟨_, rfl⟩
      have HZ3 : Hid (Ints.In64 kd ∧ Ints.In64 at_ ∧ Ints.In64 nn) := Lib.hid ⟨hkd ▸ Ints.getD_in HZ.out _, hat ▸ Ints.getD_in HZ.out _, hnn ▸ Ints.getD_in HZ.out _⟩
      have k0 : X.cell? ⟨ab, ao + k * 3, none⟩ = some (.int .i64 kd) := by rw [← hkd]; exact (HS.out.below.cell (p := ⟨ab, _, none⟩) hab).trans (hcl _ (by rw [HZL.out]; omega))
      have k1 : X.cell? ⟨ab, ao + k * 3 + 1, none⟩ = some (.int .i64 at_) := by rw [← hat]; exact (HS.out.below.cell (p := ⟨ab, _, none⟩) hab).trans (hcl (k * 3 + 1) (by rw [HZL.out]; omega))
      have k2 : X.cell? ⟨ab, ao + k * 3 + 2, none⟩ = some (.int .i64 nn) := by rw [← hnn]; exact (HS.out.below.cell (p := ⟨ab, _, none⟩) hab).trans (hcl (k * 3 + 2) (by rw [HZL.out]; omega))
      clear hcl hkd hat hnn
      go_upto_region 13 with (fail)
      refine Rd.name_world ?_
      intro W hW
      obtain ⟨q, hq⟩ : ∃ x, X.heap.size = x := ⟨_, rfl⟩
      have hab9 : Ab W q kd at_ nn := by rw [hW, ← hq]; exact blk_alloc_at _ _ _ rfl
      have hbw : Below X.heap.size X W := by rw [hW]; exact (Below.refl _ _).alloc (Nat.le_refl _) _
      have HS1 : Hid (Sx w W b kg hg B0 pd bg n c s t) := Lib.hid (HS.out.bel hbw)
      have HA : Hid (Ab W q kd at_ nn) := Lib.hid hab9
      rw [hq]
      have c0 : W.cell? ⟨q, 0, none⟩ = some (.int .i64 kd) := by rw [blk_cell hab9]; rfl
      clear hW hab9 hbw hq k0 k1 k2 HS
      go_upto_block 2 with (fail)
      go_cut [10] from 60 to 126 (fun _ Y => ∃ (s' t' : DS), Hid (Sx w Y b kg hg B0 pd bg n (c + 1) s' t') ∧ Hid (Ab Y q kd at_ nn))
      case first =>
        clear c0
        by_cases e2 : kd = 2
        · subst e2
          go_wp2_with fail
          refine (cflush_all _ HS1.out.d).mono ?_
          rintro e Y1 ⟨rfl, d1, t1⟩
          have HH := Lib.hid (HS1.out.half d1 t1)
          have HA1 : Hid (Ab Y1 q 2 at_ nn) := Lib.hid (blk_tn HA.out HS1.out.d t1 (by decide) (by decide) (by decide)).1
          clear d1 t1
          go_wp2_with fail
          refine (rflush_all _ HH.out.r).mono ?_
          rintro e Y2 ⟨rfl, r2, f2⟩
          have HS2 := Lib.hid (HH.out.whole r2 f2 ((HS1.out.k.lN).more (Nat.le_succ c)))
          have HA2 : Hid (Ab Y2 q 2 at_ nn) := Lib.hid (blk_fr HA1.out f2 (by decide) (by decide) (by decide))
          rw [HS1.out.k.lE]
          have e1 : (lE s == lE s) = true := by simp
          clear r2 f2 HH HA1 HS1 HA
          generalize lE s = v1 at *
          go_wp2
          go_meet
          exact ⟨_, _, HS2, HA2⟩
        have q2 : (kd == 2) = false := by simpa using e2
        by_cases e3 : kd = 3
        · subst e3
          go_upto_region 24 with (fail)
          refine PredT.region_of (W := W) (w.heap.size) HS1.out.below.size [5, 11] [
              fun y => Sx w y b kg hg B0 pd bg n c s t ∧ Ab y q 3 at_ nn,
              fun y => Hx w y b kg hg B0 pd bg n (fN s at_ nn) t ∧ Ab y q 3 at_ nn,
              fun y => Sx w y b kg hg B0 pd bg n (c + 1) (fN s at_ nn) (fN t at_ nn) ∧ Ab y q 3 at_ nn] [
              PredT.At 0 (.pointer (some ⟨b, 0, none⟩)),
              PredT.At 0 (.pointer (some ⟨q, 1, none⟩)),
              PredT.At 0 (.int .i64 at_),
              PredT.At 0 (.pointer (some ⟨q, 2, none⟩)),
              PredT.At 0 (.int .i64 nn),
              PredT.At 1 (.int .i64 (fE s at_)),
              PredT.At 0 (.pointer (some ⟨pd, 0, none⟩)),
              PredT.At 0 (.pointer (some ⟨q, 1, none⟩)),
              PredT.At 0 (.int .i64 at_),
              PredT.At 0 (.pointer (some ⟨q, 2, none⟩)),
              PredT.At 0 (.int .i64 nn),
              PredT.At 2 (.int .i64 (fE s at_)),
              PredT.At 2 (.bool false)] (by kernel_rfl) (by kernel_rfl) (by kernel_rfl) (by decide) (by decide) ?_ ?_ ?_ ?_ ?_ ?_
          · exact ⟨PredT.at_stab _ _ _ _, PredT.at_stab _ _ _ _, PredT.at_stab _ _ _ _, PredT.at_stab _ _ _ _, PredT.at_stab _ _ _ _, PredT.at_stab _ _ _ _, PredT.at_stab _ _ _ _, PredT.at_stab _ _ _ _, PredT.at_stab _ _ _ _, PredT.at_stab _ _ _ _, PredT.at_stab _ _ _ _, PredT.at_stab _ _ _ _, PredT.at_stab _ _ _ _, trivial⟩
          · intro q hq
            rcases List.mem_cons.1 hq with rfl | hq
            · exact fun y y' ⟨h1, h2⟩ hb => ⟨h1.bel hb, (blk_below hb q (blk_lt h2)).trans h2⟩
            rcases List.mem_cons.1 hq with rfl | hq
            · exact fun y y' ⟨h1, h2⟩ hb => ⟨h1.bel hb, (blk_below hb q (blk_lt h2)).trans h2⟩
            rcases List.mem_cons.1 hq with rfl | hq
            · exact fun y y' ⟨h1, h2⟩ hb => ⟨h1.bel hb, (blk_below hb q (blk_lt h2)).trans h2⟩
            cases hq
          · exact ⟨HS1.out, HA.out⟩
          · refine ⟨.inr ?_, .inr ?_, .inr ?_, .inr ?_, .inr ?_, .inl rfl, .inr ?_, .inr ?_, .inr ?_, .inr ?_, .inr ?_, .inl rfl, .inr ?_, trivial⟩
            · intro b9 X ph hE hd hn hS hV hI hF
              have r5 : b9.tmps[5]?.getD undef = .pointer (some ⟨b, 0, none⟩) := (hn 5 (by kernel_rfl)).trans rfl
              exact Pred.yields_run (v := .pointer (some ⟨b, 0, none⟩)) (Pred.wanted_none rfl) (by go_simp) ⟨Below.refl _ _, rfl, Nat.zero_le _⟩
            · intro b9 X ph hE hd hn hS hV hI hF
              have r9 : b9.tmps[9]?.getD undef = .pointer (some ⟨q, 0, none⟩) := (hn 9 (by kernel_rfl)).trans rfl
              exact Pred.yields_run (v := .pointer (some ⟨q, 1, none⟩)) (Pred.wanted_none rfl) (by go_simp) ⟨Below.refl _ _, rfl, Nat.zero_le _⟩
            · intro b9 X ph hE hd hn hS hV hI hF
              obtain ⟨r92, j92⟩ : PredT.At 0 (.pointer (some ⟨q, 1, none⟩)) (b9.tmps[92]?.getD undef) X ph := hV 1 _ 92 rfl rfl (Pred.waits_near (by kernel_rfl) (by kernel_rfl))
              have hp := PredT.sel_le hS
              have hab : Ab X q 3 at_ nn := by
                rcases (show ph = 0 ∨ ph = 1 ∨ ph = 2 by simp at hp; omega) with rfl | rfl | rfl
                · exact hS.2
                · exact hS.2
                · exact hS.2
              have z : X.cell? ⟨q, 1, none⟩ = some (.int .i64 at_) := by rw [blk_cell hab]; rfl
              exact Pred.yields_run (v := .int .i64 at_) (Pred.wanted_none rfl) (by go_simp) ⟨Below.refl _ _, rfl, Nat.zero_le _⟩
            · intro b9 X ph hE hd hn hS hV hI hF
              have r9 : b9.tmps[9]?.getD undef = .pointer (some ⟨q, 0, none⟩) := (hn 9 (by kernel_rfl)).trans rfl
              exact Pred.yields_run (v := .pointer (some ⟨q, 2, none⟩)) (Pred.wanted_none rfl) (by go_simp) ⟨Below.refl _ _, rfl, Nat.zero_le _⟩
            · intro b9 X ph hE hd hn hS hV hI hF
              obtain ⟨r94, j94⟩ : PredT.At 0 (.pointer (some ⟨q, 2, none⟩)) (b9.tmps[94]?.getD undef) X ph := hV 3 _ 94 rfl rfl (Pred.waits_near (by kernel_rfl) (by kernel_rfl))
              have hp := PredT.sel_le hS
              have hab : Ab X q 3 at_ nn := by
                rcases (show ph = 0 ∨ ph = 1 ∨ ph = 2 by simp at hp; omega) with rfl | rfl | rfl
                · exact hS.2
                · exact hS.2
                · exact hS.2
              have z : X.cell? ⟨q, 2, none⟩ = some (.int .i64 nn) := by rw [blk_cell hab]; rfl
              exact Pred.yields_run (v := .int .i64 nn) (Pred.wanted_none rfl) (by go_simp) ⟨Below.refl _ _, rfl, Nat.zero_le _⟩
            · intro b9 X ph hE hd hn hS hV hI hF
              have r7 : b9.tmps[7]?.getD undef = .pointer (some ⟨pd, 0, none⟩) := (hn 7 (by kernel_rfl)).trans rfl
              exact Pred.yields_run (v := .pointer (some ⟨pd, 0, none⟩)) (Pred.wanted_none rfl) (by go_simp) ⟨Below.refl _ _, rfl, Nat.zero_le _⟩
            · intro b9 X ph hE hd hn hS hV hI hF
              have r9 : b9.tmps[9]?.getD undef = .pointer (some ⟨q, 0, none⟩) := (hn 9 (by kernel_rfl)).trans rfl
              exact Pred.yields_run (v := .pointer (some ⟨q, 1, none⟩)) (Pred.wanted_none rfl) (by go_simp) ⟨Below.refl _ _, rfl, Nat.zero_le _⟩
            · intro b9 X ph hE hd hn hS hV hI hF
              obtain ⟨r98, j98⟩ : PredT.At 0 (.pointer (some ⟨q, 1, none⟩)) (b9.tmps[98]?.getD undef) X ph := hV 7 _ 98 rfl rfl (Pred.waits_near (by kernel_rfl) (by kernel_rfl))
              have hp := PredT.sel_le hS
              have hab : Ab X q 3 at_ nn := by
                rcases (show ph = 0 ∨ ph = 1 ∨ ph = 2 by simp at hp; omega) with rfl | rfl | rfl
                · exact hS.2
                · exact hS.2
                · exact hS.2
              have z : X.cell? ⟨q, 1, none⟩ = some (.int .i64 at_) := by rw [blk_cell hab]; rfl
              exact Pred.yields_run (v := .int .i64 at_) (Pred.wanted_none rfl) (by go_simp) ⟨Below.refl _ _, rfl, Nat.zero_le _⟩
            · intro b9 X ph hE hd hn hS hV hI hF
              have r9 : b9.tmps[9]?.getD undef = .pointer (some ⟨q, 0, none⟩) := (hn 9 (by kernel_rfl)).trans rfl
              exact Pred.yields_run (v := .pointer (some ⟨q, 2, none⟩)) (Pred.wanted_none rfl) (by go_simp) ⟨Below.refl _ _, rfl, Nat.zero_le _⟩
            · intro b9 X ph hE hd hn hS hV hI hF
              obtain ⟨r100, j100⟩ : PredT.At 0 (.pointer (some ⟨q, 2, none⟩)) (b9.tmps[100]?.getD undef) X ph := hV 9 _ 100 rfl rfl (Pred.waits_near (by kernel_rfl) (by kernel_rfl))
              have hp := PredT.sel_le hS
              have hab : Ab X q 3 at_ nn := by
                rcases (show ph = 0 ∨ ph = 1 ∨ ph = 2 by simp at hp; omega) with rfl | rfl | rfl
                · exact hS.2
                · exact hS.2
                · exact hS.2
              have z : X.cell? ⟨q, 2, none⟩ = some (.int .i64 nn) := by rw [blk_cell hab]; rfl
              exact Pred.yields_run (v := .int .i64 nn) (Pred.wanted_none rfl) (by go_simp) ⟨Below.refl _ _, rfl, Nat.zero_le _⟩
            · intro b9 X ph hE hd hn hS hV hI hF
              obtain ⟨r96, j96⟩ : PredT.At 1 (.int .i64 (fE s at_)) (b9.tmps[96]?.getD undef) X ph := hV 5 _ 96 rfl rfl (Pred.waits_near (by kernel_rfl) (by kernel_rfl))
              obtain ⟨r102, j102⟩ : PredT.At 2 (.int .i64 (fE s at_)) (b9.tmps[102]?.getD undef) X ph := hV 11 _ 102 rfl rfl (Pred.waits_near (by kernel_rfl) (by kernel_rfl))
              have e1 : (fE s at_ != fE s at_) = false := by simp
              exact Pred.yields_run (v := .bool false) (Pred.wanted_none rfl) (by go_simp) ⟨Below.refl _ _, rfl, by omega⟩
          · refine ⟨?_, ?_, trivial⟩
            · refine ⟨_, rfl, fun k hk => (by cases hk), fun b9 X hE hd hn hS hV hI => ?_⟩
              obtain ⟨r91, j91⟩ : PredT.At 0 (.pointer (some ⟨b, 0, none⟩)) (b9.tmps[91]?.getD undef) X 0 := hV 0 _ 91 rfl rfl (Pred.waits_near (by kernel_rfl) (by kernel_rfl))
              obtain ⟨r93, j93⟩ : PredT.At 0 (.int .i64 at_) (b9.tmps[93]?.getD undef) X 0 := hV 2 _ 93 rfl rfl (Pred.waits_near (by kernel_rfl) (by kernel_rfl))
              obtain ⟨r95, j95⟩ : PredT.At 0 (.int .i64 nn) (b9.tmps[95]?.getD undef) X 0 := hV 4 _ 95 rfl rfl (Pred.waits_near (by kernel_rfl) (by kernel_rfl))
              replace hS : (fun y => Sx w y b kg hg B0 pd bg n c s t ∧ Ab y q 3 at_ nn) X := hS
              refine Pred.yields_call (f := 15) (args := #[.pointer (some ⟨b, 0, none⟩), .int .i64 at_, .int .i64 nn]) (Pred.wanted_none rfl) (by go_simp) ?_
              exact (cfuse_all at_ nn _ hS.1.d).mono fun e y ⟨he, d1, t1⟩ => ⟨_, he, t1.below (by intro k hk; simp at hk; have := hS.1.lo; omega) hS.1.below.size, ⟨hS.1.half d1 t1, (blk_tn hS.2 hS.1.d t1 (by decide) (by decide) (by decide)).1⟩, rfl, Nat.le_refl _⟩
            · refine ⟨_, rfl, fun k hk => (by cases hk; exact Pred.waits_near (by kernel_rfl) (by kernel_rfl)), fun b9 X hE hd hn hS hV hI => ?_⟩
              obtain ⟨r97, j97⟩ : PredT.At 0 (.pointer (some ⟨pd, 0, none⟩)) (b9.tmps[97]?.getD undef) X 1 := hV 6 _ 97 rfl rfl (Pred.waits_near (by kernel_rfl) (by kernel_rfl))
              obtain ⟨r99, j99⟩ : PredT.At 0 (.int .i64 at_) (b9.tmps[99]?.getD undef) X 1 := hV 8 _ 99 rfl rfl (Pred.waits_near (by kernel_rfl) (by kernel_rfl))
              obtain ⟨r101, j101⟩ : PredT.At 0 (.int .i64 nn) (b9.tmps[101]?.getD undef) X 1 := hV 10 _ 101 rfl rfl (Pred.waits_near (by kernel_rfl) (by kernel_rfl))
              replace hS : (fun y => Hx w y b kg hg B0 pd bg n (fN s at_ nn) t ∧ Ab y q 3 at_ nn) X := hS
              refine Pred.yields_call (f := 16) (args := #[.pointer (some ⟨pd, 0, none⟩), .int .i64 at_, .int .i64 nn]) (Pred.wanted_none rfl) (by go_simp) ?_
              exact (rset_all at_ nn _ hS.1.r).mono fun e y ⟨he, r2, f2⟩ => ⟨_, he, f2.1.mono hS.1.lo.2.2.2, ⟨hS.1.whole r2 f2 ((HS1.out.k.fN at_ nn).more (Nat.le_succ c)), blk_fr hS.2 f2 (by decide) (by decide) (by decide)⟩, by rw [HS1.out.k.fE], Nat.le_refl _⟩
          intro v X hE hS hv
          replace hS : (fun y => Sx w y b kg hg B0 pd bg n (c + 1) (fN s at_ nn) (fN t at_ nn) ∧ Ab y q 3 at_ nn) X := hS
          have e0 : v 0 = .pointer (some ⟨b, 0, none⟩) := (hv 0 _ 91 rfl rfl).1
          have e1 : v 1 = .pointer (some ⟨q, 1, none⟩) := (hv 1 _ 92 rfl rfl).1
          have e2 : v 2 = .int .i64 at_ := (hv 2 _ 93 rfl rfl).1
          have e3 : v 3 = .pointer (some ⟨q, 2, none⟩) := (hv 3 _ 94 rfl rfl).1
          have e4 : v 4 = .int .i64 nn := (hv 4 _ 95 rfl rfl).1
          have e5 : v 5 = .int .i64 (fE s at_) := (hv 5 _ 96 rfl rfl).1
          have e6 : v 6 = .pointer (some ⟨pd, 0, none⟩) := (hv 6 _ 97 rfl rfl).1
          have e7 : v 7 = .pointer (some ⟨q, 1, none⟩) := (hv 7 _ 98 rfl rfl).1
          have e8 : v 8 = .int .i64 at_ := (hv 8 _ 99 rfl rfl).1
          have e9 : v 9 = .pointer (some ⟨q, 2, none⟩) := (hv 9 _ 100 rfl rfl).1
          have e10 : v 10 = .int .i64 nn := (hv 10 _ 101 rfl rfl).1
          have e11 : v 11 = .int .i64 (fE s at_) := (hv 11 _ 102 rfl rfl).1
          have e12 : v 12 = .bool false := (hv 12 _ 103 rfl rfl).1
          simp only [Pred.putsF_cons, Pred.putsF_nil, Nat.zero_add, Nat.reduceAdd, e0, e1, e2, e3, e4, e5, e6, e7, e8, e9, e10, e11, e12, Act.put, List.setIfInBounds_toArray, List.set_cons_zero, List.set_cons_succ]
          clear e0 e1 e2 e3 e4 e5 e6 e7 e8 e9 e10 e11 e12 hv
          have HS2 := Lib.hid hS.1
          have HA2 := Lib.hid hS.2
          clear hE hS HS1 HA
          go_wp2
          go_meet
          exact ⟨_, _, HS2, HA2⟩
        have q3 : (kd == 3) = false := by simpa using e3
        by_cases e4 : kd = 4
        · subst e4
          go_upto_region 27 with (fail)
          refine PredT.region_of (W := W) (w.heap.size) HS1.out.below.size [5, 11] [
              fun y => Sx w y b kg hg B0 pd bg n c s t ∧ Ab y q 4 at_ nn,
              fun y => Hx w y b kg hg B0 pd bg n (kN n s at_ nn) t ∧ Ab y q 4 at_ nn,
              fun y => Sx w y b kg hg B0 pd bg n (c + 1) (kN n s at_ nn) (kN n t at_ nn) ∧ Ab y q 4 at_ nn] [
              PredT.At 0 (.pointer (some ⟨b, 0, none⟩)),
              PredT.At 0 (.pointer (some ⟨q, 1, none⟩)),
              PredT.At 0 (.int .i64 at_),
              PredT.At 0 (.pointer (some ⟨q, 2, none⟩)),
              PredT.At 0 (.int .i64 nn),
              PredT.At 1 (.int .i64 (kE n s at_ nn)),
              PredT.At 0 (.pointer (some ⟨pd, 0, none⟩)),
              PredT.At 0 (.pointer (some ⟨q, 1, none⟩)),
              PredT.At 0 (.int .i64 at_),
              PredT.At 0 (.pointer (some ⟨q, 2, none⟩)),
              PredT.At 0 (.int .i64 nn),
              PredT.At 2 (.int .i64 (kE n s at_ nn)),
              PredT.At 2 (.bool false)] (by kernel_rfl) (by kernel_rfl) (by kernel_rfl) (by decide) (by decide) ?_ ?_ ?_ ?_ ?_ ?_
          · exact ⟨PredT.at_stab _ _ _ _, PredT.at_stab _ _ _ _, PredT.at_stab _ _ _ _, PredT.at_stab _ _ _ _, PredT.at_stab _ _ _ _, PredT.at_stab _ _ _ _, PredT.at_stab _ _ _ _, PredT.at_stab _ _ _ _, PredT.at_stab _ _ _ _, PredT.at_stab _ _ _ _, PredT.at_stab _ _ _ _, PredT.at_stab _ _ _ _, PredT.at_stab _ _ _ _, trivial⟩
          · intro q hq
            rcases List.mem_cons.1 hq with rfl | hq
            · exact fun y y' ⟨h1, h2⟩ hb => ⟨h1.bel hb, (blk_below hb q (blk_lt h2)).trans h2⟩
            rcases List.mem_cons.1 hq with rfl | hq
            · exact fun y y' ⟨h1, h2⟩ hb => ⟨h1.bel hb, (blk_below hb q (blk_lt h2)).trans h2⟩
            rcases List.mem_cons.1 hq with rfl | hq
            · exact fun y y' ⟨h1, h2⟩ hb => ⟨h1.bel hb, (blk_below hb q (blk_lt h2)).trans h2⟩
            cases hq
          · exact ⟨HS1.out, HA.out⟩
          · refine ⟨.inr ?_, .inr ?_, .inr ?_, .inr ?_, .inr ?_, .inl rfl, .inr ?_, .inr ?_, .inr ?_, .inr ?_, .inr ?_, .inl rfl, .inr ?_, trivial⟩
            · intro b9 X ph hE hd hn hS hV hI hF
              have r5 : b9.tmps[5]?.getD undef = .pointer (some ⟨b, 0, none⟩) := (hn 5 (by kernel_rfl)).trans rfl
              exact Pred.yields_run (v := .pointer (some ⟨b, 0, none⟩)) (Pred.wanted_none rfl) (by go_simp) ⟨Below.refl _ _, rfl, Nat.zero_le _⟩
            · intro b9 X ph hE hd hn hS hV hI hF
              have r9 : b9.tmps[9]?.getD undef = .pointer (some ⟨q, 0, none⟩) := (hn 9 (by kernel_rfl)).trans rfl
              exact Pred.yields_run (v := .pointer (some ⟨q, 1, none⟩)) (Pred.wanted_none rfl) (by go_simp) ⟨Below.refl _ _, rfl, Nat.zero_le _⟩
            · intro b9 X ph hE hd hn hS hV hI hF
              obtain ⟨r107, j107⟩ : PredT.At 0 (.pointer (some ⟨q, 1, none⟩)) (b9.tmps[107]?.getD undef) X ph := hV 1 _ 107 rfl rfl (Pred.waits_near (by kernel_rfl) (by kernel_rfl))
              have hp := PredT.sel_le hS
              have hab : Ab X q 4 at_ nn := by
                rcases (show ph = 0 ∨ ph = 1 ∨ ph = 2 by simp at hp; omega) with rfl | rfl | rfl
                · exact hS.2
                · exact hS.2
                · exact hS.2
              have z : X.cell? ⟨q, 1, none⟩ = some (.int .i64 at_) := by rw [blk_cell hab]; rfl
              exact Pred.yields_run (v := .int .i64 at_) (Pred.wanted_none rfl) (by go_simp) ⟨Below.refl _ _, rfl, Nat.zero_le _⟩
            · intro b9 X ph hE hd hn hS hV hI hF
              have r9 : b9.tmps[9]?.getD undef = .pointer (some ⟨q, 0, none⟩) := (hn 9 (by kernel_rfl)).trans rfl
              exact Pred.yields_run (v := .pointer (some ⟨q, 2, none⟩)) (Pred.wanted_none rfl) (by go_simp) ⟨Below.refl _ _, rfl, Nat.zero_le _⟩
            · intro b9 X ph hE hd hn hS hV hI hF
              obtain ⟨r109, j109⟩ : PredT.At 0 (.pointer (some ⟨q, 2, none⟩)) (b9.tmps[109]?.getD undef) X ph := hV 3 _ 109 rfl rfl (Pred.waits_near (by kernel_rfl) (by kernel_rfl))
              have hp := PredT.sel_le hS
              have hab : Ab X q 4 at_ nn := by
                rcases (show ph = 0 ∨ ph = 1 ∨ ph = 2 by simp at hp; omega) with rfl | rfl | rfl
                · exact hS.2
                · exact hS.2
                · exact hS.2
              have z : X.cell? ⟨q, 2, none⟩ = some (.int .i64 nn) := by rw [blk_cell hab]; rfl
              exact Pred.yields_run (v := .int .i64 nn) (Pred.wanted_none rfl) (by go_simp) ⟨Below.refl _ _, rfl, Nat.zero_le _⟩
            · intro b9 X ph hE hd hn hS hV hI hF
              have r7 : b9.tmps[7]?.getD undef = .pointer (some ⟨pd, 0, none⟩) := (hn 7 (by kernel_rfl)).trans rfl
              exact Pred.yields_run (v := .pointer (some ⟨pd, 0, none⟩)) (Pred.wanted_none rfl) (by go_simp) ⟨Below.refl _ _, rfl, Nat.zero_le _⟩
            · intro b9 X ph hE hd hn hS hV hI hF
              have r9 : b9.tmps[9]?.getD undef = .pointer (some ⟨q, 0, none⟩) := (hn 9 (by kernel_rfl)).trans rfl
              exact Pred.yields_run (v := .pointer (some ⟨q, 1, none⟩)) (Pred.wanted_none rfl) (by go_simp) ⟨Below.refl _ _, rfl, Nat.zero_le _⟩
            · intro b9 X ph hE hd hn hS hV hI hF
              obtain ⟨r113, j113⟩ : PredT.At 0 (.pointer (some ⟨q, 1, none⟩)) (b9.tmps[113]?.getD undef) X ph := hV 7 _ 113 rfl rfl (Pred.waits_near (by kernel_rfl) (by kernel_rfl))
              have hp := PredT.sel_le hS
              have hab : Ab X q 4 at_ nn := by
                rcases (show ph = 0 ∨ ph = 1 ∨ ph = 2 by simp at hp; omega) with rfl | rfl | rfl
                · exact hS.2
                · exact hS.2
                · exact hS.2
              have z : X.cell? ⟨q, 1, none⟩ = some (.int .i64 at_) := by rw [blk_cell hab]; rfl
              exact Pred.yields_run (v := .int .i64 at_) (Pred.wanted_none rfl) (by go_simp) ⟨Below.refl _ _, rfl, Nat.zero_le _⟩
            · intro b9 X ph hE hd hn hS hV hI hF
              have r9 : b9.tmps[9]?.getD undef = .pointer (some ⟨q, 0, none⟩) := (hn 9 (by kernel_rfl)).trans rfl
              exact Pred.yields_run (v := .pointer (some ⟨q, 2, none⟩)) (Pred.wanted_none rfl) (by go_simp) ⟨Below.refl _ _, rfl, Nat.zero_le _⟩
            · intro b9 X ph hE hd hn hS hV hI hF
              obtain ⟨r115, j115⟩ : PredT.At 0 (.pointer (some ⟨q, 2, none⟩)) (b9.tmps[115]?.getD undef) X ph := hV 9 _ 115 rfl rfl (Pred.waits_near (by kernel_rfl) (by kernel_rfl))
              have hp := PredT.sel_le hS
              have hab : Ab X q 4 at_ nn := by
                rcases (show ph = 0 ∨ ph = 1 ∨ ph = 2 by simp at hp; omega) with rfl | rfl | rfl
                · exact hS.2
                · exact hS.2
                · exact hS.2
              have z : X.cell? ⟨q, 2, none⟩ = some (.int .i64 nn) := by rw [blk_cell hab]; rfl
              exact Pred.yields_run (v := .int .i64 nn) (Pred.wanted_none rfl) (by go_simp) ⟨Below.refl _ _, rfl, Nat.zero_le _⟩
            · intro b9 X ph hE hd hn hS hV hI hF
              obtain ⟨r111, j111⟩ : PredT.At 1 (.int .i64 (kE n s at_ nn)) (b9.tmps[111]?.getD undef) X ph := hV 5 _ 111 rfl rfl (Pred.waits_near (by kernel_rfl) (by kernel_rfl))
              obtain ⟨r117, j117⟩ : PredT.At 2 (.int .i64 (kE n s at_ nn)) (b9.tmps[117]?.getD undef) X ph := hV 11 _ 117 rfl rfl (Pred.waits_near (by kernel_rfl) (by kernel_rfl))
              have e1 : (kE n s at_ nn != kE n s at_ nn) = false := by simp
              exact Pred.yields_run (v := .bool false) (Pred.wanted_none rfl) (by go_simp) ⟨Below.refl _ _, rfl, by omega⟩
          · refine ⟨?_, ?_, trivial⟩
            · refine ⟨_, rfl, fun k hk => (by cases hk), fun b9 X hE hd hn hS hV hI => ?_⟩
              obtain ⟨r106, j106⟩ : PredT.At 0 (.pointer (some ⟨b, 0, none⟩)) (b9.tmps[106]?.getD undef) X 0 := hV 0 _ 106 rfl rfl (Pred.waits_near (by kernel_rfl) (by kernel_rfl))
              obtain ⟨r108, j108⟩ : PredT.At 0 (.int .i64 at_) (b9.tmps[108]?.getD undef) X 0 := hV 2 _ 108 rfl rfl (Pred.waits_near (by kernel_rfl) (by kernel_rfl))
              obtain ⟨r110, j110⟩ : PredT.At 0 (.int .i64 nn) (b9.tmps[110]?.getD undef) X 0 := hV 4 _ 110 rfl rfl (Pred.waits_near (by kernel_rfl) (by kernel_rfl))
              replace hS : (fun y => Sx w y b kg hg B0 pd bg n c s t ∧ Ab y q 4 at_ nn) X := hS
              refine Pred.yields_call (f := 17) (args := #[.pointer (some ⟨b, 0, none⟩), .int .i64 at_, .int .i64 nn]) (Pred.wanted_none rfl) (by go_simp) ?_
              exact (ccorrupt_all at_ nn _ hS.1.d (fun l hl => hS.1.r.kl.2 l (by rw [HS1.out.k.kh.1]; exact hl)) (fun x hx => hS.1.r.hb.2 x (by rw [HS1.out.k.kh.2.1]; exact hx))).mono fun e y ⟨he, d1, t1⟩ => ⟨_, he, t1.below (by intro k hk; simp at hk; have := hS.1.lo; omega) hS.1.below.size, ⟨hS.1.half d1 t1, (blk_tn hS.2 hS.1.d t1 (by decide) (by decide) (by decide)).1⟩, rfl, Nat.le_refl _⟩
            · refine ⟨_, rfl, fun k hk => (by cases hk; exact Pred.waits_near (by kernel_rfl) (by kernel_rfl)), fun b9 X hE hd hn hS hV hI => ?_⟩
              obtain ⟨r112, j112⟩ : PredT.At 0 (.pointer (some ⟨pd, 0, none⟩)) (b9.tmps[112]?.getD undef) X 1 := hV 6 _ 112 rfl rfl (Pred.waits_near (by kernel_rfl) (by kernel_rfl))
              obtain ⟨r114, j114⟩ : PredT.At 0 (.int .i64 at_) (b9.tmps[114]?.getD undef) X 1 := hV 8 _ 114 rfl rfl (Pred.waits_near (by kernel_rfl) (by kernel_rfl))
              obtain ⟨r116, j116⟩ : PredT.At 0 (.int .i64 nn) (b9.tmps[116]?.getD undef) X 1 := hV 10 _ 116 rfl rfl (Pred.waits_near (by kernel_rfl) (by kernel_rfl))
              replace hS : (fun y => Hx w y b kg hg B0 pd bg n (kN n s at_ nn) t ∧ Ab y q 4 at_ nn) X := hS
              refine Pred.yields_call (f := 18) (args := #[.pointer (some ⟨pd, 0, none⟩), .int .i64 at_, .int .i64 nn]) (Pred.wanted_none rfl) (by go_simp) ?_
              exact (rcorrupt_all at_ nn _ hS.1.r).mono fun e y ⟨he, r2, f2⟩ => ⟨_, he, f2.1.mono hS.1.lo.2.2.2, ⟨hS.1.whole r2 f2 ((HS1.out.k.kN at_ nn).more (Nat.le_succ c)), blk_fr hS.2 f2 (by decide) (by decide) (by decide)⟩, by rw [HS1.out.k.kE], Nat.le_refl _⟩
          intro v X hE hS hv
          replace hS : (fun y => Sx w y b kg hg B0 pd bg n (c + 1) (kN n s at_ nn) (kN n t at_ nn) ∧ Ab y q 4 at_ nn) X := hS
          have e0 : v 0 = .pointer (some ⟨b, 0, none⟩) := (hv 0 _ 106 rfl rfl).1
          have e1 : v 1 = .pointer (some ⟨q, 1, none⟩) := (hv 1 _ 107 rfl rfl).1
          have e2 : v 2 = .int .i64 at_ := (hv 2 _ 108 rfl rfl).1
          have e3 : v 3 = .pointer (some ⟨q, 2, none⟩) := (hv 3 _ 109 rfl rfl).1
          have e4 : v 4 = .int .i64 nn := (hv 4 _ 110 rfl rfl).1
          have e5 : v 5 = .int .i64 (kE n s at_ nn) := (hv 5 _ 111 rfl rfl).1
          have e6 : v 6 = .pointer (some ⟨pd, 0, none⟩) := (hv 6 _ 112 rfl rfl).1
          have e7 : v 7 = .pointer (some ⟨q, 1, none⟩) := (hv 7 _ 113 rfl rfl).1
          have e8 : v 8 = .int .i64 at_ := (hv 8 _ 114 rfl rfl).1
          have e9 : v 9 = .pointer (some ⟨q, 2, none⟩) := (hv 9 _ 115 rfl rfl).1
          have e10 : v 10 = .int .i64 nn := (hv 10 _ 116 rfl rfl).1
          have e11 : v 11 = .int .i64 (kE n s at_ nn) := (hv 11 _ 117 rfl rfl).1
          have e12 : v 12 = .bool false := (hv 12 _ 118 rfl rfl).1
          simp only [Pred.putsF_cons, Pred.putsF_nil, Nat.zero_add, Nat.reduceAdd, e0, e1, e2, e3, e4, e5, e6, e7, e8, e9, e10, e11, e12, Act.put, List.setIfInBounds_toArray, List.set_cons_zero, List.set_cons_succ]
          clear e0 e1 e2 e3 e4 e5 e6 e7 e8 e9 e10 e11 e12 hv
          have HS2 := Lib.hid hS.1
          have HA2 := Lib.hid hS.2
          clear hE hS HS1 HA
          go_wp2
          go_meet
          exact ⟨_, _, HS2, HA2⟩
        have q4 : (kd == 4) = false := by simpa using e4
        by_cases e5 : kd = 5
        · subst e5
          go_wp2_with fail
          refine (cup_all _ HS1.out.d).mono ?_
          rintro e Y1 ⟨⟨v, rfl, ho⟩, d1, t1⟩
          obtain ⟨va, vc, rfl, hv1, hv2⟩ := owns_val ho
          have HH := Lib.hid (HS1.out.half d1 t1)
          have HA1 : Hid (Ab Y1 q 5 at_ nn) := Lib.hid (blk_tn HA.out HS1.out.d t1 (by decide) (by decide) (by decide)).1
          have HO := Lib.hid ho
          clear d1 t1 ho
          go_wp2_with fail
          refine (rup_all _ HH.out.r).mono ?_
          rintro e Y2 ⟨⟨ad, ca, rfl, hr⟩, r2, f2⟩
          have HS2 := Lib.hid (HH.out.whole r2 f2 (HS1.out.k.uN.more (Nat.le_succ c)))
          have HA2 : Hid (Ab Y2 q 5 at_ nn) := Lib.hid (blk_fr HA1.out f2 (by decide) (by decide) (by decide))
          have ho2 := DkO.own_keep HO.out fun k hu => (by
            obtain ⟨cur, hc⟩ := DkO.own_type HO.out hu
            exact f2.2 k cur _ hc (by decide) (by decide) (by decide))
          have hr1 := Reads.of_owns ho2
          rw [HS1.out.k.uL] at hr ⊢
          have HR1 := Lib.hid (And.intro hr1 hr)
          have hlen : (uL n s).length ≤ 1000000 := by have := ul_len (n := n) s; have := HNN.out.2; omega
          clear r2 f2 ho2 hr1 hr HH HA1 HO HS1 HA
          go_wp2_with fail
          refine (Alk.ints_any _ _ _ _ _ _ ((uL n s).map fun (x : Nat) => (x : Int)) ((uL n s).map fun (x : Nat) => (x : Int)) _ (by rw [← iv_ints]; exact HR1.out.1) (by rw [← iv_ints]; exact HR1.out.2) hlen hlen).mono ?_
          rintro e Y3 ⟨rfl, hb3⟩
          have HS3 := Lib.hid (HS2.out.bel hb3)
          have HA3 : Hid (Ab Y3 q 5 at_ nn) := Lib.hid ((blk_below hb3 q (blk_lt HA2.out)).trans HA2.out)
          clear hb3 HS2 HA2 HR1
          rw [decide_eq_true rfl]
          go_wp2
          go_meet
          exact ⟨_, _, HS3, HA3⟩
        have q5 : (kd == 5) = false := by simpa using e5
        by_cases e6 : kd = 1
        · subst e6
          have z2 : W.cell? ⟨q, 2, none⟩ = some (.int .i64 nn) := by rw [blk_cell HA.out]; rfl
          go_wp2_with fail
          refine (sector_int nn _).mono ?_
          rintro e Y1 ⟨rfl, hbl, hb1⟩
          have HS2 := Lib.hid (HS1.out.bel hb1)
          have HA2 : Hid (Ab Y1 q 1 at_ nn) := Lib.hid ((blk_below hb1 q (blk_lt HA.out)).trans HA.out)
          obtain ⟨p, hp⟩ : ∃ x, W.heap.size = x := ⟨_, rfl⟩
          rw [hp] at hbl ⊢
          have HB2 : Hid (Bb Y1 p nn) := Lib.hid hbl
          clear hbl hb1 hp HS1 HA z2
          have z2 : Y1.cell? ⟨q, 2, none⟩ = some (.int .i64 nn) := by rw [blk_cell HA2.out]; rfl
          have bl : -1 ≤ s.lf ∧ s.lf ≤ 1048576 := ⟨HS2.out.k.2.1, HS2.out.k.2.2.1⟩
          have bw : 0 ≤ s.wr ∧ s.wr ≤ 1000000 := ⟨HS2.out.k.2.2.2.1, by have := HS2.out.k.2.2.2.2; omega⟩
          have BLW : Hid ((-1 ≤ s.lf ∧ s.lf ≤ 1048576) ∧ (0 ≤ s.wr ∧ s.wr ≤ 1000000) ∧ (-1 ≤ t.lf ∧ t.lf ≤ 1048576) ∧ (0 ≤ t.wr ∧ t.wr ≤ 1000000)) := Lib.hid ⟨bl, bw, by rw [HS2.out.k.kh.2.2.1]; exact bl, by rw [HS2.out.k.kh.2.2.2.2]; exact bw⟩
          clear bl bw
          go_wp2_with fail
          · clear z2
            refine PredT.region_of (W := Y1) (w.heap.size) HS2.out.below.size [4, 9] [
                fun y => Sx w y b kg hg B0 pd bg n c s t ∧ Ab y q 1 at_ nn ∧ Bb y p nn,
                fun y => Hx w y b kg hg B0 pd bg n (wN n s at_ 31 (secI nn)) t ∧ Ab y q 1 at_ nn ∧ Bb y p nn,
                fun y => Sx w y b kg hg B0 pd bg n (c + 1) (wN n s at_ 31 (secI nn)) (wN n t at_ 31 (secI nn)) ∧ Ab y q 1 at_ nn ∧ Bb y p nn] [
                PredT.At 0 (.pointer (some ⟨b, 0, none⟩)),
                PredT.At 0 (.pointer (some ⟨q, 1, none⟩)),
                PredT.At 0 (.int .i64 at_),
                PredT.At 0 (.slice (some ⟨p, 0, none⟩) 31 32),
                PredT.At 1 (.int .i64 (wE n s at_ 31)),
                PredT.At 0 (.pointer (some ⟨pd, 0, none⟩)),
                PredT.At 0 (.pointer (some ⟨q, 1, none⟩)),
                PredT.At 0 (.int .i64 at_),
                PredT.At 0 (.slice (some ⟨p, 0, none⟩) 31 32),
                PredT.At 2 (.int .i64 (wE n s at_ 31)),
                PredT.At 2 (.bool false)] (by kernel_rfl) (by kernel_rfl) (by kernel_rfl) (by decide) (by decide) ?_ ?_ ?_ ?_ ?_ ?_
            · exact ⟨PredT.at_stab _ _ _ _, PredT.at_stab _ _ _ _, PredT.at_stab _ _ _ _, PredT.at_stab _ _ _ _, PredT.at_stab _ _ _ _, PredT.at_stab _ _ _ _, PredT.at_stab _ _ _ _, PredT.at_stab _ _ _ _, PredT.at_stab _ _ _ _, PredT.at_stab _ _ _ _, PredT.at_stab _ _ _ _, trivial⟩
            · intro q hq
              rcases List.mem_cons.1 hq with rfl | hq
              · exact fun y y' ⟨h1, h2, h3⟩ hb => ⟨h1.bel hb, (blk_below hb q (blk_lt h2)).trans h2, (blk_below hb p (blk_lt h3)).trans h3⟩
              rcases List.mem_cons.1 hq with rfl | hq
              · exact fun y y' ⟨h1, h2, h3⟩ hb => ⟨h1.bel hb, (blk_below hb q (blk_lt h2)).trans h2, (blk_below hb p (blk_lt h3)).trans h3⟩
              rcases List.mem_cons.1 hq with rfl | hq
              · exact fun y y' ⟨h1, h2, h3⟩ hb => ⟨h1.bel hb, (blk_below hb q (blk_lt h2)).trans h2, (blk_below hb p (blk_lt h3)).trans h3⟩
              cases hq
            · exact ⟨HS2.out, HA2.out, HB2.out⟩
            · refine ⟨.inr ?_, .inr ?_, .inr ?_, .inr ?_, .inl rfl, .inr ?_, .inr ?_, .inr ?_, .inr ?_, .inl rfl, .inr ?_, trivial⟩
              · intro b9 X ph hE hd hn hS hV hI hF
                have r5 : b9.tmps[5]?.getD undef = .pointer (some ⟨b, 0, none⟩) := (hn 5 (by kernel_rfl)).trans rfl
                exact Pred.yields_run (v := .pointer (some ⟨b, 0, none⟩)) (Pred.wanted_none rfl) (by go_simp) ⟨Below.refl _ _, rfl, Nat.zero_le _⟩
              · intro b9 X ph hE hd hn hS hV hI hF
                have r9 : b9.tmps[9]?.getD undef = .pointer (some ⟨q, 0, none⟩) := (hn 9 (by kernel_rfl)).trans rfl
                exact Pred.yields_run (v := .pointer (some ⟨q, 1, none⟩)) (Pred.wanted_none rfl) (by go_simp) ⟨Below.refl _ _, rfl, Nat.zero_le _⟩
              · intro b9 X ph hE hd hn hS hV hI hF
                obtain ⟨r72, j72⟩ : PredT.At 0 (.pointer (some ⟨q, 1, none⟩)) (b9.tmps[72]?.getD undef) X ph := hV 1 _ 72 rfl rfl (Pred.waits_near (by kernel_rfl) (by kernel_rfl))
                have hp := PredT.sel_le hS
                have hab : Ab X q 1 at_ nn := by
                  rcases (show ph = 0 ∨ ph = 1 ∨ ph = 2 by simp at hp; omega) with rfl | rfl | rfl
                  · exact hS.2.1
                  · exact hS.2.1
                  · exact hS.2.1
                have z : X.cell? ⟨q, 1, none⟩ = some (.int .i64 at_) := by rw [blk_cell hab]; rfl
                exact Pred.yields_run (v := .int .i64 at_) (Pred.wanted_none rfl) (by go_simp) ⟨Below.refl _ _, rfl, Nat.zero_le _⟩
              · intro b9 X ph hE hd hn hS hV hI hF
                have r10 : b9.tmps[10]?.getD undef = .slice (some ⟨p, 0, none⟩) 31 32 := (hn 10 (by kernel_rfl)).trans rfl
                exact Pred.yields_run (v := .slice (some ⟨p, 0, none⟩) 31 32) (Pred.wanted_none rfl) (by go_simp) ⟨Below.refl _ _, rfl, Nat.zero_le _⟩
              · intro b9 X ph hE hd hn hS hV hI hF
                have r7 : b9.tmps[7]?.getD undef = .pointer (some ⟨pd, 0, none⟩) := (hn 7 (by kernel_rfl)).trans rfl
                exact Pred.yields_run (v := .pointer (some ⟨pd, 0, none⟩)) (Pred.wanted_none rfl) (by go_simp) ⟨Below.refl _ _, rfl, Nat.zero_le _⟩
              · intro b9 X ph hE hd hn hS hV hI hF
                have r9 : b9.tmps[9]?.getD undef = .pointer (some ⟨q, 0, none⟩) := (hn 9 (by kernel_rfl)).trans rfl
                exact Pred.yields_run (v := .pointer (some ⟨q, 1, none⟩)) (Pred.wanted_none rfl) (by go_simp) ⟨Below.refl _ _, rfl, Nat.zero_le _⟩
              · intro b9 X ph hE hd hn hS hV hI hF
                obtain ⟨r77, j77⟩ : PredT.At 0 (.pointer (some ⟨q, 1, none⟩)) (b9.tmps[77]?.getD undef) X ph := hV 6 _ 77 rfl rfl (Pred.waits_near (by kernel_rfl) (by kernel_rfl))
                have hp := PredT.sel_le hS
                have hab : Ab X q 1 at_ nn := by
                  rcases (show ph = 0 ∨ ph = 1 ∨ ph = 2 by simp at hp; omega) with rfl | rfl | rfl
                  · exact hS.2.1
                  · exact hS.2.1
                  · exact hS.2.1
                have z : X.cell? ⟨q, 1, none⟩ = some (.int .i64 at_) := by rw [blk_cell hab]; rfl
                exact Pred.yields_run (v := .int .i64 at_) (Pred.wanted_none rfl) (by go_simp) ⟨Below.refl _ _, rfl, Nat.zero_le _⟩
              · intro b9 X ph hE hd hn hS hV hI hF
                have r10 : b9.tmps[10]?.getD undef = .slice (some ⟨p, 0, none⟩) 31 32 := (hn 10 (by kernel_rfl)).trans rfl
                exact Pred.yields_run (v := .slice (some ⟨p, 0, none⟩) 31 32) (Pred.wanted_none rfl) (by go_simp) ⟨Below.refl _ _, rfl, Nat.zero_le _⟩
              · intro b9 X ph hE hd hn hS hV hI hF
                obtain ⟨r75, j75⟩ : PredT.At 1 (.int .i64 (wE n s at_ 31)) (b9.tmps[75]?.getD undef) X ph := hV 4 _ 75 rfl rfl (Pred.waits_near (by kernel_rfl) (by kernel_rfl))
                obtain ⟨r80, j80⟩ : PredT.At 2 (.int .i64 (wE n s at_ 31)) (b9.tmps[80]?.getD undef) X ph := hV 9 _ 80 rfl rfl (Pred.waits_near (by kernel_rfl) (by kernel_rfl))
                have e1 : (wE n s at_ 31 != wE n s at_ 31) = false := by simp
                exact Pred.yields_run (v := .bool false) (Pred.wanted_none rfl) (by go_simp) ⟨Below.refl _ _, rfl, by omega⟩
            · refine ⟨?_, ?_, trivial⟩
              · refine ⟨_, rfl, fun k hk => (by cases hk), fun b9 X hE hd hn hS hV hI => ?_⟩
                obtain ⟨r71, j71⟩ : PredT.At 0 (.pointer (some ⟨b, 0, none⟩)) (b9.tmps[71]?.getD undef) X 0 := hV 0 _ 71 rfl rfl (Pred.waits_near (by kernel_rfl) (by kernel_rfl))
                obtain ⟨r73, j73⟩ : PredT.At 0 (.int .i64 at_) (b9.tmps[73]?.getD undef) X 0 := hV 2 _ 73 rfl rfl (Pred.waits_near (by kernel_rfl) (by kernel_rfl))
                obtain ⟨r74, j74⟩ : PredT.At 0 (.slice (some ⟨p, 0, none⟩) 31 32) (b9.tmps[74]?.getD undef) X 0 := hV 3 _ 74 rfl rfl (Pred.waits_near (by kernel_rfl) (by kernel_rfl))
                replace hS : (fun y => Sx w y b kg hg B0 pd bg n c s t ∧ Ab y q 1 at_ nn ∧ Bb y p nn) X := hS
                refine Pred.yields_call (f := 11) (args := #[.pointer (some ⟨b, 0, none⟩), .int .i64 at_, .slice (some ⟨p, 0, none⟩) 31 32]) (Pred.wanted_none rfl) (by go_simp) ?_
                exact (cwrite_all at_ 31 p 0 32 (secI nn) _ hS.1.d BLW.out.1 BLW.out.2.1 (secI_bd nn).1 (blk_lt hS.2.2) (blk_tn hS.2.2 hS.1.d (Tn.refl _ _) (by decide) (by decide) (by decide)).2 (src_of hS.2.2)).mono fun e y ⟨he, d1, t1⟩ => ⟨_, he, t1.below (by intro k hk; simp at hk; have := hS.1.lo; omega) hS.1.below.size, ⟨hS.1.half d1 t1, (blk_tn hS.2.1 hS.1.d t1 (by decide) (by decide) (by decide)).1, (blk_tn hS.2.2 hS.1.d t1 (by decide) (by decide) (by decide)).1⟩, rfl, Nat.le_refl _⟩
              · refine ⟨_, rfl, fun k hk => (by cases hk; exact Pred.waits_near (by kernel_rfl) (by kernel_rfl)), fun b9 X hE hd hn hS hV hI => ?_⟩
                obtain ⟨r76, j76⟩ : PredT.At 0 (.pointer (some ⟨pd, 0, none⟩)) (b9.tmps[76]?.getD undef) X 1 := hV 5 _ 76 rfl rfl (Pred.waits_near (by kernel_rfl) (by kernel_rfl))
                obtain ⟨r78, j78⟩ : PredT.At 0 (.int .i64 at_) (b9.tmps[78]?.getD undef) X 1 := hV 7 _ 78 rfl rfl (Pred.waits_near (by kernel_rfl) (by kernel_rfl))
                obtain ⟨r79, j79⟩ : PredT.At 0 (.slice (some ⟨p, 0, none⟩) 31 32) (b9.tmps[79]?.getD undef) X 1 := hV 8 _ 79 rfl rfl (Pred.waits_near (by kernel_rfl) (by kernel_rfl))
                replace hS : (fun y => Hx w y b kg hg B0 pd bg n (wN n s at_ 31 (secI nn)) t ∧ Ab y q 1 at_ nn ∧ Bb y p nn) X := hS
                refine Pred.yields_call (f := 12) (args := #[.pointer (some ⟨pd, 0, none⟩), .int .i64 at_, .slice (some ⟨p, 0, none⟩) 31 32]) (Pred.wanted_none rfl) (by go_simp) ?_
                refine (rwrite_all at_ 31 p 0 32 (secI nn) _ hS.1.r BLW.out.2.2.1 BLW.out.2.2.2 (secI_bd nn) (by omega) (fun Y hY => ?_)).mono fun e y ⟨he, r2, f2⟩ => ⟨_, he, f2.1.mono hS.1.lo.2.2.2, ⟨hS.1.whole r2 f2 (HS2.out.k.wN at_ 31 (secI nn)), blk_fr hS.2.1 f2 (by decide) (by decide) (by decide), blk_fr hS.2.2 f2 (by decide) (by decide) (by decide)⟩, by rw [HS2.out.k.wE], Nat.le_refl _⟩
                have h9 := blk_fr hS.2.2 hY (by decide) (by decide) (by decide)
                exact ⟨by simp [us, (secI_bd nn).1], .inr ⟨p, 0, rfl, blk_lt h9, fun k hk => by rw [Nat.zero_add, blk_cell h9, List.getElem?_toArray]⟩⟩
            intro v X hE hS hv
            replace hS : (fun y => Sx w y b kg hg B0 pd bg n (c + 1) (wN n s at_ 31 (secI nn)) (wN n t at_ 31 (secI nn)) ∧ Ab y q 1 at_ nn ∧ Bb y p nn) X := hS
            have e0 : v 0 = .pointer (some ⟨b, 0, none⟩) := (hv 0 _ 71 rfl rfl).1
            have e1 : v 1 = .pointer (some ⟨q, 1, none⟩) := (hv 1 _ 72 rfl rfl).1
            have e2 : v 2 = .int .i64 at_ := (hv 2 _ 73 rfl rfl).1
            have e3 : v 3 = .slice (some ⟨p, 0, none⟩) 31 32 := (hv 3 _ 74 rfl rfl).1
            have e4 : v 4 = .int .i64 (wE n s at_ 31) := (hv 4 _ 75 rfl rfl).1
            have e5 : v 5 = .pointer (some ⟨pd, 0, none⟩) := (hv 5 _ 76 rfl rfl).1
            have e6 : v 6 = .pointer (some ⟨q, 1, none⟩) := (hv 6 _ 77 rfl rfl).1
            have e7 : v 7 = .int .i64 at_ := (hv 7 _ 78 rfl rfl).1
            have e8 : v 8 = .slice (some ⟨p, 0, none⟩) 31 32 := (hv 8 _ 79 rfl rfl).1
            have e9 : v 9 = .int .i64 (wE n s at_ 31) := (hv 9 _ 80 rfl rfl).1
            have e10 : v 10 = .bool false := (hv 10 _ 81 rfl rfl).1
            simp only [Pred.putsF_cons, Pred.putsF_nil, Nat.zero_add, Nat.reduceAdd, e0, e1, e2, e3, e4, e5, e6, e7, e8, e9, e10, Act.put, List.setIfInBounds_toArray, List.set_cons_zero, List.set_cons_succ]
            clear e0 e1 e2 e3 e4 e5 e6 e7 e8 e9 e10 hv
            have HS3 := Lib.hid hS.1
            have HA3 := Lib.hid hS.2.1
            clear hE hS HS2 HA2 HB2
            go_wp2
            go_meet
            exact ⟨_, _, HS3, HA3⟩
          · clear z2
            refine PredT.region_of (W := Y1) (w.heap.size) HS2.out.below.size [4, 9] [
                fun y => Sx w y b kg hg B0 pd bg n c s t ∧ Ab y q 1 at_ nn ∧ Bb y p nn,
                fun y => Hx w y b kg hg B0 pd bg n (wN n s at_ 32 (secI nn)) t ∧ Ab y q 1 at_ nn ∧ Bb y p nn,
                fun y => Sx w y b kg hg B0 pd bg n (c + 1) (wN n s at_ 32 (secI nn)) (wN n t at_ 32 (secI nn)) ∧ Ab y q 1 at_ nn ∧ Bb y p nn] [
                PredT.At 0 (.pointer (some ⟨b, 0, none⟩)),
                PredT.At 0 (.pointer (some ⟨q, 1, none⟩)),
                PredT.At 0 (.int .i64 at_),
                PredT.At 0 (.slice (some ⟨p, 0, none⟩) 32 32),
                PredT.At 1 (.int .i64 (wE n s at_ 32)),
                PredT.At 0 (.pointer (some ⟨pd, 0, none⟩)),
                PredT.At 0 (.pointer (some ⟨q, 1, none⟩)),
                PredT.At 0 (.int .i64 at_),
                PredT.At 0 (.slice (some ⟨p, 0, none⟩) 32 32),
                PredT.At 2 (.int .i64 (wE n s at_ 32)),
                PredT.At 2 (.bool false)] (by kernel_rfl) (by kernel_rfl) (by kernel_rfl) (by decide) (by decide) ?_ ?_ ?_ ?_ ?_ ?_
            · exact ⟨PredT.at_stab _ _ _ _, PredT.at_stab _ _ _ _, PredT.at_stab _ _ _ _, PredT.at_stab _ _ _ _, PredT.at_stab _ _ _ _, PredT.at_stab _ _ _ _, PredT.at_stab _ _ _ _, PredT.at_stab _ _ _ _, PredT.at_stab _ _ _ _, PredT.at_stab _ _ _ _, PredT.at_stab _ _ _ _, trivial⟩
            · intro q hq
              rcases List.mem_cons.1 hq with rfl | hq
              · exact fun y y' ⟨h1, h2, h3⟩ hb => ⟨h1.bel hb, (blk_below hb q (blk_lt h2)).trans h2, (blk_below hb p (blk_lt h3)).trans h3⟩
              rcases List.mem_cons.1 hq with rfl | hq
              · exact fun y y' ⟨h1, h2, h3⟩ hb => ⟨h1.bel hb, (blk_below hb q (blk_lt h2)).trans h2, (blk_below hb p (blk_lt h3)).trans h3⟩
              rcases List.mem_cons.1 hq with rfl | hq
              · exact fun y y' ⟨h1, h2, h3⟩ hb => ⟨h1.bel hb, (blk_below hb q (blk_lt h2)).trans h2, (blk_below hb p (blk_lt h3)).trans h3⟩
              cases hq
            · exact ⟨HS2.out, HA2.out, HB2.out⟩
            · refine ⟨.inr ?_, .inr ?_, .inr ?_, .inr ?_, .inl rfl, .inr ?_, .inr ?_, .inr ?_, .inr ?_, .inl rfl, .inr ?_, trivial⟩
              · intro b9 X ph hE hd hn hS hV hI hF
                have r5 : b9.tmps[5]?.getD undef = .pointer (some ⟨b, 0, none⟩) := (hn 5 (by kernel_rfl)).trans rfl
                exact Pred.yields_run (v := .pointer (some ⟨b, 0, none⟩)) (Pred.wanted_none rfl) (by go_simp) ⟨Below.refl _ _, rfl, Nat.zero_le _⟩
              · intro b9 X ph hE hd hn hS hV hI hF
                have r9 : b9.tmps[9]?.getD undef = .pointer (some ⟨q, 0, none⟩) := (hn 9 (by kernel_rfl)).trans rfl
                exact Pred.yields_run (v := .pointer (some ⟨q, 1, none⟩)) (Pred.wanted_none rfl) (by go_simp) ⟨Below.refl _ _, rfl, Nat.zero_le _⟩
              · intro b9 X ph hE hd hn hS hV hI hF
                obtain ⟨r72, j72⟩ : PredT.At 0 (.pointer (some ⟨q, 1, none⟩)) (b9.tmps[72]?.getD undef) X ph := hV 1 _ 72 rfl rfl (Pred.waits_near (by kernel_rfl) (by kernel_rfl))
                have hp := PredT.sel_le hS
                have hab : Ab X q 1 at_ nn := by
                  rcases (show ph = 0 ∨ ph = 1 ∨ ph = 2 by simp at hp; omega) with rfl | rfl | rfl
                  · exact hS.2.1
                  · exact hS.2.1
                  · exact hS.2.1
                have z : X.cell? ⟨q, 1, none⟩ = some (.int .i64 at_) := by rw [blk_cell hab]; rfl
                exact Pred.yields_run (v := .int .i64 at_) (Pred.wanted_none rfl) (by go_simp) ⟨Below.refl _ _, rfl, Nat.zero_le _⟩
              · intro b9 X ph hE hd hn hS hV hI hF
                have r10 : b9.tmps[10]?.getD undef = .slice (some ⟨p, 0, none⟩) 32 32 := (hn 10 (by kernel_rfl)).trans rfl
                exact Pred.yields_run (v := .slice (some ⟨p, 0, none⟩) 32 32) (Pred.wanted_none rfl) (by go_simp) ⟨Below.refl _ _, rfl, Nat.zero_le _⟩
              · intro b9 X ph hE hd hn hS hV hI hF
                have r7 : b9.tmps[7]?.getD undef = .pointer (some ⟨pd, 0, none⟩) := (hn 7 (by kernel_rfl)).trans rfl
                exact Pred.yields_run (v := .pointer (some ⟨pd, 0, none⟩)) (Pred.wanted_none rfl) (by go_simp) ⟨Below.refl _ _, rfl, Nat.zero_le _⟩
              · intro b9 X ph hE hd hn hS hV hI hF
                have r9 : b9.tmps[9]?.getD undef = .pointer (some ⟨q, 0, none⟩) := (hn 9 (by kernel_rfl)).trans rfl
                exact Pred.yields_run (v := .pointer (some ⟨q, 1, none⟩)) (Pred.wanted_none rfl) (by go_simp) ⟨Below.refl _ _, rfl, Nat.zero_le _⟩
              · intro b9 X ph hE hd hn hS hV hI hF
                obtain ⟨r77, j77⟩ : PredT.At 0 (.pointer (some ⟨q, 1, none⟩)) (b9.tmps[77]?.getD undef) X ph := hV 6 _ 77 rfl rfl (Pred.waits_near (by kernel_rfl) (by kernel_rfl))
                have hp := PredT.sel_le hS
                have hab : Ab X q 1 at_ nn := by
                  rcases (show ph = 0 ∨ ph = 1 ∨ ph = 2 by simp at hp; omega) with rfl | rfl | rfl
                  · exact hS.2.1
                  · exact hS.2.1
                  · exact hS.2.1
                have z : X.cell? ⟨q, 1, none⟩ = some (.int .i64 at_) := by rw [blk_cell hab]; rfl
                exact Pred.yields_run (v := .int .i64 at_) (Pred.wanted_none rfl) (by go_simp) ⟨Below.refl _ _, rfl, Nat.zero_le _⟩
              · intro b9 X ph hE hd hn hS hV hI hF
                have r10 : b9.tmps[10]?.getD undef = .slice (some ⟨p, 0, none⟩) 32 32 := (hn 10 (by kernel_rfl)).trans rfl
                exact Pred.yields_run (v := .slice (some ⟨p, 0, none⟩) 32 32) (Pred.wanted_none rfl) (by go_simp) ⟨Below.refl _ _, rfl, Nat.zero_le _⟩
              · intro b9 X ph hE hd hn hS hV hI hF
                obtain ⟨r75, j75⟩ : PredT.At 1 (.int .i64 (wE n s at_ 32)) (b9.tmps[75]?.getD undef) X ph := hV 4 _ 75 rfl rfl (Pred.waits_near (by kernel_rfl) (by kernel_rfl))
                obtain ⟨r80, j80⟩ : PredT.At 2 (.int .i64 (wE n s at_ 32)) (b9.tmps[80]?.getD undef) X ph := hV 9 _ 80 rfl rfl (Pred.waits_near (by kernel_rfl) (by kernel_rfl))
                have e1 : (wE n s at_ 32 != wE n s at_ 32) = false := by simp
                exact Pred.yields_run (v := .bool false) (Pred.wanted_none rfl) (by go_simp) ⟨Below.refl _ _, rfl, by omega⟩
            · refine ⟨?_, ?_, trivial⟩
              · refine ⟨_, rfl, fun k hk => (by cases hk), fun b9 X hE hd hn hS hV hI => ?_⟩
                obtain ⟨r71, j71⟩ : PredT.At 0 (.pointer (some ⟨b, 0, none⟩)) (b9.tmps[71]?.getD undef) X 0 := hV 0 _ 71 rfl rfl (Pred.waits_near (by kernel_rfl) (by kernel_rfl))
                obtain ⟨r73, j73⟩ : PredT.At 0 (.int .i64 at_) (b9.tmps[73]?.getD undef) X 0 := hV 2 _ 73 rfl rfl (Pred.waits_near (by kernel_rfl) (by kernel_rfl))
                obtain ⟨r74, j74⟩ : PredT.At 0 (.slice (some ⟨p, 0, none⟩) 32 32) (b9.tmps[74]?.getD undef) X 0 := hV 3 _ 74 rfl rfl (Pred.waits_near (by kernel_rfl) (by kernel_rfl))
                replace hS : (fun y => Sx w y b kg hg B0 pd bg n c s t ∧ Ab y q 1 at_ nn ∧ Bb y p nn) X := hS
                refine Pred.yields_call (f := 11) (args := #[.pointer (some ⟨b, 0, none⟩), .int .i64 at_, .slice (some ⟨p, 0, none⟩) 32 32]) (Pred.wanted_none rfl) (by go_simp) ?_
                exact (cwrite_all at_ 32 p 0 32 (secI nn) _ hS.1.d BLW.out.1 BLW.out.2.1 (secI_bd nn).1 (blk_lt hS.2.2) (blk_tn hS.2.2 hS.1.d (Tn.refl _ _) (by decide) (by decide) (by decide)).2 (src_of hS.2.2)).mono fun e y ⟨he, d1, t1⟩ => ⟨_, he, t1.below (by intro k hk; simp at hk; have := hS.1.lo; omega) hS.1.below.size, ⟨hS.1.half d1 t1, (blk_tn hS.2.1 hS.1.d t1 (by decide) (by decide) (by decide)).1, (blk_tn hS.2.2 hS.1.d t1 (by decide) (by decide) (by decide)).1⟩, rfl, Nat.le_refl _⟩
              · refine ⟨_, rfl, fun k hk => (by cases hk; exact Pred.waits_near (by kernel_rfl) (by kernel_rfl)), fun b9 X hE hd hn hS hV hI => ?_⟩
                obtain ⟨r76, j76⟩ : PredT.At 0 (.pointer (some ⟨pd, 0, none⟩)) (b9.tmps[76]?.getD undef) X 1 := hV 5 _ 76 rfl rfl (Pred.waits_near (by kernel_rfl) (by kernel_rfl))
                obtain ⟨r78, j78⟩ : PredT.At 0 (.int .i64 at_) (b9.tmps[78]?.getD undef) X 1 := hV 7 _ 78 rfl rfl (Pred.waits_near (by kernel_rfl) (by kernel_rfl))
                obtain ⟨r79, j79⟩ : PredT.At 0 (.slice (some ⟨p, 0, none⟩) 32 32) (b9.tmps[79]?.getD undef) X 1 := hV 8 _ 79 rfl rfl (Pred.waits_near (by kernel_rfl) (by kernel_rfl))
                replace hS : (fun y => Hx w y b kg hg B0 pd bg n (wN n s at_ 32 (secI nn)) t ∧ Ab y q 1 at_ nn ∧ Bb y p nn) X := hS
                refine Pred.yields_call (f := 12) (args := #[.pointer (some ⟨pd, 0, none⟩), .int .i64 at_, .slice (some ⟨p, 0, none⟩) 32 32]) (Pred.wanted_none rfl) (by go_simp) ?_
                refine (rwrite_all at_ 32 p 0 32 (secI nn) _ hS.1.r BLW.out.2.2.1 BLW.out.2.2.2 (secI_bd nn) (by omega) (fun Y hY => ?_)).mono fun e y ⟨he, r2, f2⟩ => ⟨_, he, f2.1.mono hS.1.lo.2.2.2, ⟨hS.1.whole r2 f2 (HS2.out.k.wN at_ 32 (secI nn)), blk_fr hS.2.1 f2 (by decide) (by decide) (by decide), blk_fr hS.2.2 f2 (by decide) (by decide) (by decide)⟩, by rw [HS2.out.k.wE], Nat.le_refl _⟩
                have h9 := blk_fr hS.2.2 hY (by decide) (by decide) (by decide)
                exact ⟨by simp [us, (secI_bd nn).1], .inr ⟨p, 0, rfl, blk_lt h9, fun k hk => by rw [Nat.zero_add, blk_cell h9, List.getElem?_toArray]⟩⟩
            intro v X hE hS hv
            replace hS : (fun y => Sx w y b kg hg B0 pd bg n (c + 1) (wN n s at_ 32 (secI nn)) (wN n t at_ 32 (secI nn)) ∧ Ab y q 1 at_ nn ∧ Bb y p nn) X := hS
            have e0 : v 0 = .pointer (some ⟨b, 0, none⟩) := (hv 0 _ 71 rfl rfl).1
            have e1 : v 1 = .pointer (some ⟨q, 1, none⟩) := (hv 1 _ 72 rfl rfl).1
            have e2 : v 2 = .int .i64 at_ := (hv 2 _ 73 rfl rfl).1
            have e3 : v 3 = .slice (some ⟨p, 0, none⟩) 32 32 := (hv 3 _ 74 rfl rfl).1
            have e4 : v 4 = .int .i64 (wE n s at_ 32) := (hv 4 _ 75 rfl rfl).1
            have e5 : v 5 = .pointer (some ⟨pd, 0, none⟩) := (hv 5 _ 76 rfl rfl).1
            have e6 : v 6 = .pointer (some ⟨q, 1, none⟩) := (hv 6 _ 77 rfl rfl).1
            have e7 : v 7 = .int .i64 at_ := (hv 7 _ 78 rfl rfl).1
            have e8 : v 8 = .slice (some ⟨p, 0, none⟩) 32 32 := (hv 8 _ 79 rfl rfl).1
            have e9 : v 9 = .int .i64 (wE n s at_ 32) := (hv 9 _ 80 rfl rfl).1
            have e10 : v 10 = .bool false := (hv 10 _ 81 rfl rfl).1
            simp only [Pred.putsF_cons, Pred.putsF_nil, Nat.zero_add, Nat.reduceAdd, e0, e1, e2, e3, e4, e5, e6, e7, e8, e9, e10, Act.put, List.setIfInBounds_toArray, List.set_cons_zero, List.set_cons_succ]
            clear e0 e1 e2 e3 e4 e5 e6 e7 e8 e9 e10 hv
            have HS3 := Lib.hid hS.1
            have HA3 := Lib.hid hS.2.1
            clear hE hS HS2 HA2 HB2
            go_wp2
            go_meet
            exact ⟨_, _, HS3, HA3⟩
        have q1 : (kd == 1) = false := by simpa using e6
        go_wp2
        go_meet
        exact ⟨_, _, Lib.hid (HS1.out.up (Nat.le_succ c)), HA⟩
      case rest =>
      obtain ⟨s', t', HS2, HA2⟩ := hcut
      rename World => Y
      clear c0 HS1 HA
      have z1 : Y.cell? ⟨q, 1, none⟩ = some (.int .i64 at_) := by rw [blk_cell HA2.out]; rfl
      go_wp2_with fail
      refine (cread_all at_ _ HS2.out.d).mono ?_
      rintro e Y1 ⟨⟨x, rfl, hx⟩, hb1⟩
      have HX1 := Lib.hid hx
      have HS3 := Lib.hid (HS2.out.bel hb1)
      have HA3 : Hid (Ab Y1 q kd at_ nn) := Lib.hid ((blk_below hb1 q (blk_lt HA2.out)).trans HA2.out)
      clear hx hb1 HS2 HA2 z1
      have z1 : Y1.cell? ⟨q, 1, none⟩ = some (.int .i64 at_) := by rw [blk_cell HA3.out]; rfl
      go_wp2_with fail
      refine (rread_all at_ _ HS3.out.r).mono ?_
      rintro e Y2 ⟨⟨y, rfl, hy⟩, hb2⟩
      rw [Lk.rdL HS3.out.k] at hy
      have HY2 := Lib.hid hy
      have HX2 := Lib.hid (HX1.out.below hb2)
      have HS4 := Lib.hid (HS3.out.bel hb2)
      rw [Lk.may HS3.out.k]
      obtain ⟨me, hme⟩ : ∃ v, mayE n s'.dn at_ = v := ⟨_, rfl⟩
      rw [hme]
      clear hy hb2 HX1 HS3 HA3 z1 hme
      have HBD : Hid (∀ z ∈ rdL n s' at_, 0 ≤ z ∧ z ≤ 255) := Lib.hid (by rw [← Lk.rdL HS4.out.k]; exact rdl_bd HS4.out.r at_)
      obtain ⟨cb, hv, hrh, -, -⟩ := HS4.out.r.hd
      rw [HS4.out.k.kh.2.2.2.1, HS4.out.k.kh.2.2.2.2] at hrh
      have HRH := Lib.hid hrh
      clear hrh
      go_upto_region 34 with (fail)
      refine Pred.region_vals (Pred.Of [
          Is (x),
          Is (.string (bytesOf (rdL n s' at_))),
          Is (y),
          Is (.string (bytesOf (rdL n s' at_))),
          Is (.bool false),
          Is (.bool false),
          Is (.int .i64 me),
          Is (.int .i64 me),
          Is (.bool false),
          Is (.bool false),
          Is (.bool false),
          Is (.pointer (some ⟨b, 0, none⟩)),
          Is (.bool s'.dn),
          Is (.pointer (some ⟨pd, 0, none⟩)),
          Is (.pointer (some ⟨pd, 0, none⟩)),
          Is (.pointer (some ⟨pd, 4, none⟩)),
          Is (.bool s'.dn),
          Is (.bool false),
          Is (.bool false),
          Is (.bool false),
          Is (.pointer (some ⟨b, 0, none⟩)),
          Is (.int .i64 s'.wr),
          Is (.pointer (some ⟨pd, 0, none⟩)),
          Is (.pointer (some ⟨pd, 0, none⟩)),
          Is (.pointer (some ⟨pd, 5, none⟩)),
          Is (.int .i64 s'.wr),
          Is (.bool false),
          Is (.bool false),
          Is (.bool false),
          Is (.pointer (some ⟨b, 0, none⟩)),
          Is (.int .i64 (n : Int)),
          Is (.pointer (some ⟨pd, 0, none⟩)),
          Is (.pointer (some ⟨pd, 0, none⟩)),
          Is (.pointer (some ⟨pd, 0, none⟩)),
          Is (.slice (some ⟨bg, 0, none⟩) n cb),
          Is (.int .i64 (n : Int)),
          Is (.bool false),
          Is (.bool false)]) (by kernel_rfl) (by kernel_rfl) (by kernel_rfl) (Pred.of_stab ?_) ?_ ?_
      · exact ⟨is_stab _, is_stab _, is_stab _, is_stab _, is_stab _, is_stab _, is_stab _, is_stab _, is_stab _, is_stab _, is_stab _, is_stab _, is_stab _, is_stab _, is_stab _, is_stab _, is_stab _, is_stab _, is_stab _, is_stab _, is_stab _, is_stab _, is_stab _, is_stab _, is_stab _, is_stab _, is_stab _, is_stab _, is_stab _, is_stab _, is_stab _, is_stab _, is_stab _, is_stab _, is_stab _, is_stab _, is_stab _, is_stab _, trivial⟩
      · refine ⟨?_, ?_, ?_, ?_, ?_, ?_, ?_, ?_, ?_, ?_, ?_, ?_, ?_, ?_, ?_, ?_, ?_, ?_, ?_, ?_, ?_, ?_, ?_, ?_, ?_, ?_, ?_, ?_, ?_, ?_, ?_, ?_, ?_, ?_, ?_, ?_, ?_, ?_, trivial⟩
        · intro b9 X hE hd hn hV
          have r11 : b9.tmps[11]?.getD undef = x := (hn 11 (by kernel_rfl)).trans rfl
          exact Pred.yields_run (v := x) (Pred.wanted_none rfl) (by go_simp) ⟨Pred.ext_refl _ _, rfl⟩
        · intro b9 X hE hd hn hV
          have r141 : b9.tmps[141]?.getD undef = x := hV 0 _ 141 rfl rfl (Pred.waits_near (by kernel_rfl) (by kernel_rfl))
          have cz := str_out (HX2.out.below hE) HBD.out
          exact Pred.yields_run (v := .string (bytesOf (rdL n s' at_))) (Pred.wanted_none rfl) (by go_simp) ⟨Pred.ext_refl _ _, rfl⟩
        · intro b9 X hE hd hn hV
          have r13 : b9.tmps[13]?.getD undef = y := (hn 13 (by kernel_rfl)).trans rfl
          exact Pred.yields_run (v := y) (Pred.wanted_none rfl) (by go_simp) ⟨Pred.ext_refl _ _, rfl⟩
        · intro b9 X hE hd hn hV
          have r143 : b9.tmps[143]?.getD undef = y := hV 2 _ 143 rfl rfl (Pred.waits_near (by kernel_rfl) (by kernel_rfl))
          have cz := str_out (HY2.out.below hE) HBD.out
          exact Pred.yields_run (v := .string (bytesOf (rdL n s' at_))) (Pred.wanted_none rfl) (by go_simp) ⟨Pred.ext_refl _ _, rfl⟩
        · intro b9 X hE hd hn hV
          have r142 : b9.tmps[142]?.getD undef = .string (bytesOf (rdL n s' at_)) := hV 1 _ 142 rfl rfl (Pred.waits_near (by kernel_rfl) (by kernel_rfl))
          have r144 : b9.tmps[144]?.getD undef = .string (bytesOf (rdL n s' at_)) := hV 3 _ 144 rfl rfl (Pred.waits_near (by kernel_rfl) (by kernel_rfl))
          exact Pred.yields_run (v := .bool false) (Pred.wanted_none rfl) (by go_simp) ⟨Pred.ext_refl _ _, rfl⟩
        · intro b9 X hE hd hn hV
          have r145 : b9.tmps[145]?.getD undef = .bool false := hV 4 _ 145 rfl rfl (Pred.waits_near (by kernel_rfl) (by kernel_rfl))
          exact Pred.yields_run (v := .bool false) (Pred.wanted_none rfl) (by go_simp) ⟨Pred.ext_refl _ _, rfl⟩
        · intro b9 X hE hd hn hV
          have r12 : b9.tmps[12]?.getD undef = .int .i64 me := (hn 12 (by kernel_rfl)).trans rfl
          have r146 : b9.tmps[146]?.getD undef = .bool false := hV 5 _ 146 rfl rfl (Pred.waits_near (by kernel_rfl) (by kernel_rfl))
          exact Pred.yields_run (v := .int .i64 me) ((Pred.wanted_at (g := 5) (d := 146) (f := false) rfl rfl r146).trans rfl) (by go_simp) ⟨Pred.ext_refl _ _, rfl⟩
        · intro b9 X hE hd hn hV
          have r14 : b9.tmps[14]?.getD undef = .int .i64 me := (hn 14 (by kernel_rfl)).trans rfl
          have r146 : b9.tmps[146]?.getD undef = .bool false := hV 5 _ 146 rfl rfl (Pred.waits_near (by kernel_rfl) (by kernel_rfl))
          exact Pred.yields_run (v := .int .i64 me) ((Pred.wanted_at (g := 5) (d := 146) (f := false) rfl rfl r146).trans rfl) (by go_simp) ⟨Pred.ext_refl _ _, rfl⟩
        · intro b9 X hE hd hn hV
          have r147 : b9.tmps[147]?.getD undef = .int .i64 me := hV 6 _ 147 rfl rfl (Pred.waits_near (by kernel_rfl) (by kernel_rfl))
          have r148 : b9.tmps[148]?.getD undef = .int .i64 me := hV 7 _ 148 rfl rfl (Pred.waits_near (by kernel_rfl) (by kernel_rfl))
          have r146 : b9.tmps[146]?.getD undef = .bool false := hV 5 _ 146 rfl rfl (Pred.waits_near (by kernel_rfl) (by kernel_rfl))
          exact Pred.yields_run (v := .bool false) ((Pred.wanted_at (g := 5) (d := 146) (f := false) rfl rfl r146).trans rfl) (by go_simp) ⟨Pred.ext_refl _ _, rfl⟩
        · intro b9 X hE hd hn hV
          have r146 : b9.tmps[146]?.getD undef = .bool false := hV 5 _ 146 rfl rfl (Pred.waits_near (by kernel_rfl) (by kernel_rfl))
          have r149 : b9.tmps[149]?.getD undef = .bool false := hV 8 _ 149 rfl rfl (Pred.waits_near (by kernel_rfl) (by kernel_rfl))
          exact Pred.yields_run (v := .bool false) (Pred.wanted_none rfl) (by go_simp) ⟨Pred.ext_refl _ _, rfl⟩
        · intro b9 X hE hd hn hV
          have r150 : b9.tmps[150]?.getD undef = .bool false := hV 9 _ 150 rfl rfl (Pred.waits_near (by kernel_rfl) (by kernel_rfl))
          exact Pred.yields_run (v := .bool false) (Pred.wanted_none rfl) (by go_simp) ⟨Pred.ext_refl _ _, rfl⟩
        · intro b9 X hE hd hn hV
          have r5 : b9.tmps[5]?.getD undef = .pointer (some ⟨b, 0, none⟩) := (hn 5 (by kernel_rfl)).trans rfl
          have r151 : b9.tmps[151]?.getD undef = .bool false := hV 10 _ 151 rfl rfl (Pred.waits_near (by kernel_rfl) (by kernel_rfl))
          exact Pred.yields_run (v := .pointer (some ⟨b, 0, none⟩)) ((Pred.wanted_at (g := 10) (d := 151) (f := false) rfl rfl r151).trans rfl) (by go_simp) ⟨Pred.ext_refl _ _, rfl⟩
        · intro b9 X hE hd hn hV
          have r152 : b9.tmps[152]?.getD undef = .pointer (some ⟨b, 0, none⟩) := hV 11 _ 152 rfl rfl (Pred.waits_near (by kernel_rfl) (by kernel_rfl))
          have r151 : b9.tmps[151]?.getD undef = .bool false := hV 10 _ 151 rfl rfl (Pred.waits_near (by kernel_rfl) (by kernel_rfl))
          refine Pred.yields_call (f := 24) (args := #[.pointer (some ⟨b, 0, none⟩)]) ((Pred.wanted_at (g := 10) (d := 151) (f := false) rfl rfl r151).trans rfl) (by go_simp) ?_
          exact (down_any _ (HS4.out.d.bel hE)).mono fun e w2 ⟨he, hw⟩ => ⟨_, he, hw ▸ Pred.ext_refl _ _, rfl⟩
        · intro b9 X hE hd hn hV
          have r7 : b9.tmps[7]?.getD undef = .pointer (some ⟨pd, 0, none⟩) := (hn 7 (by kernel_rfl)).trans rfl
          have r151 : b9.tmps[151]?.getD undef = .bool false := hV 10 _ 151 rfl rfl (Pred.waits_near (by kernel_rfl) (by kernel_rfl))
          exact Pred.yields_run (v := .pointer (some ⟨pd, 0, none⟩)) ((Pred.wanted_at (g := 10) (d := 151) (f := false) rfl rfl r151).trans rfl) (by go_simp) ⟨Pred.ext_refl _ _, rfl⟩
        · intro b9 X hE hd hn hV
          have r154 : b9.tmps[154]?.getD undef = .pointer (some ⟨pd, 0, none⟩) := hV 13 _ 154 rfl rfl (Pred.waits_near (by kernel_rfl) (by kernel_rfl))
          have r151 : b9.tmps[151]?.getD undef = .bool false := hV 10 _ 151 rfl rfl (Pred.waits_near (by kernel_rfl) (by kernel_rfl))
          exact Pred.yields_run (v := .pointer (some ⟨pd, 0, none⟩)) ((Pred.wanted_at (g := 10) (d := 151) (f := false) rfl rfl r151).trans rfl) (by go_simp) ⟨Pred.ext_refl _ _, rfl⟩
        · intro b9 X hE hd hn hV
          have r155 : b9.tmps[155]?.getD undef = .pointer (some ⟨pd, 0, none⟩) := hV 14 _ 155 rfl rfl (Pred.waits_near (by kernel_rfl) (by kernel_rfl))
          have r151 : b9.tmps[151]?.getD undef = .bool false := hV 10 _ 151 rfl rfl (Pred.waits_near (by kernel_rfl) (by kernel_rfl))
          exact Pred.yields_run (v := .pointer (some ⟨pd, 4, none⟩)) ((Pred.wanted_at (g := 10) (d := 151) (f := false) rfl rfl r151).trans rfl) (by go_simp) ⟨Pred.ext_refl _ _, rfl⟩
        · intro b9 X hE hd hn hV
          have r156 : b9.tmps[156]?.getD undef = .pointer (some ⟨pd, 4, none⟩) := hV 15 _ 156 rfl rfl (Pred.waits_near (by kernel_rfl) (by kernel_rfl))
          have r151 : b9.tmps[151]?.getD undef = .bool false := hV 10 _ 151 rfl rfl (Pred.waits_near (by kernel_rfl) (by kernel_rfl))
          have rh := Rh_bel HRH.out hE
          have cz := DkN.Rh.c4 rh
          exact Pred.yields_run (v := .bool s'.dn) ((Pred.wanted_at (g := 10) (d := 151) (f := false) rfl rfl r151).trans rfl) (by go_simp) ⟨Pred.ext_refl _ _, rfl⟩
        · intro b9 X hE hd hn hV
          have r153 : b9.tmps[153]?.getD undef = .bool s'.dn := hV 12 _ 153 rfl rfl (Pred.waits_near (by kernel_rfl) (by kernel_rfl))
          have r157 : b9.tmps[157]?.getD undef = .bool s'.dn := hV 16 _ 157 rfl rfl (Pred.waits_near (by kernel_rfl) (by kernel_rfl))
          have r151 : b9.tmps[151]?.getD undef = .bool false := hV 10 _ 151 rfl rfl (Pred.waits_near (by kernel_rfl) (by kernel_rfl))
          exact Pred.yields_run (v := .bool false) ((Pred.wanted_at (g := 10) (d := 151) (f := false) rfl rfl r151).trans rfl) (by go_simp) ⟨Pred.ext_refl _ _, rfl⟩
        · intro b9 X hE hd hn hV
          have r151 : b9.tmps[151]?.getD undef = .bool false := hV 10 _ 151 rfl rfl (Pred.waits_near (by kernel_rfl) (by kernel_rfl))
          have r158 : b9.tmps[158]?.getD undef = .bool false := hV 17 _ 158 rfl rfl (Pred.waits_near (by kernel_rfl) (by kernel_rfl))
          exact Pred.yields_run (v := .bool false) (Pred.wanted_none rfl) (by go_simp) ⟨Pred.ext_refl _ _, rfl⟩
        · intro b9 X hE hd hn hV
          have r159 : b9.tmps[159]?.getD undef = .bool false := hV 18 _ 159 rfl rfl (Pred.waits_near (by kernel_rfl) (by kernel_rfl))
          exact Pred.yields_run (v := .bool false) (Pred.wanted_none rfl) (by go_simp) ⟨Pred.ext_refl _ _, rfl⟩
        · intro b9 X hE hd hn hV
          have r5 : b9.tmps[5]?.getD undef = .pointer (some ⟨b, 0, none⟩) := (hn 5 (by kernel_rfl)).trans rfl
          have r160 : b9.tmps[160]?.getD undef = .bool false := hV 19 _ 160 rfl rfl (Pred.waits_near (by kernel_rfl) (by kernel_rfl))
          exact Pred.yields_run (v := .pointer (some ⟨b, 0, none⟩)) ((Pred.wanted_at (g := 19) (d := 160) (f := false) rfl rfl r160).trans rfl) (by go_simp) ⟨Pred.ext_refl _ _, rfl⟩
        · intro b9 X hE hd hn hV
          have r161 : b9.tmps[161]?.getD undef = .pointer (some ⟨b, 0, none⟩) := hV 20 _ 161 rfl rfl (Pred.waits_near (by kernel_rfl) (by kernel_rfl))
          have r160 : b9.tmps[160]?.getD undef = .bool false := hV 19 _ 160 rfl rfl (Pred.waits_near (by kernel_rfl) (by kernel_rfl))
          refine Pred.yields_call (f := 25) (args := #[.pointer (some ⟨b, 0, none⟩)]) ((Pred.wanted_at (g := 19) (d := 160) (f := false) rfl rfl r160).trans rfl) (by go_simp) ?_
          exact (writes_any _ (HS4.out.d.bel hE)).mono fun e w2 ⟨he, hw⟩ => ⟨_, he, hw ▸ Pred.ext_refl _ _, rfl⟩
        · intro b9 X hE hd hn hV
          have r7 : b9.tmps[7]?.getD undef = .pointer (some ⟨pd, 0, none⟩) := (hn 7 (by kernel_rfl)).trans rfl
          have r160 : b9.tmps[160]?.getD undef = .bool false := hV 19 _ 160 rfl rfl (Pred.waits_near (by kernel_rfl) (by kernel_rfl))
          exact Pred.yields_run (v := .pointer (some ⟨pd, 0, none⟩)) ((Pred.wanted_at (g := 19) (d := 160) (f := false) rfl rfl r160).trans rfl) (by go_simp) ⟨Pred.ext_refl _ _, rfl⟩
        · intro b9 X hE hd hn hV
          have r163 : b9.tmps[163]?.getD undef = .pointer (some ⟨pd, 0, none⟩) := hV 22 _ 163 rfl rfl (Pred.waits_near (by kernel_rfl) (by kernel_rfl))
          have r160 : b9.tmps[160]?.getD undef = .bool false := hV 19 _ 160 rfl rfl (Pred.waits_near (by kernel_rfl) (by kernel_rfl))
          exact Pred.yields_run (v := .pointer (some ⟨pd, 0, none⟩)) ((Pred.wanted_at (g := 19) (d := 160) (f := false) rfl rfl r160).trans rfl) (by go_simp) ⟨Pred.ext_refl _ _, rfl⟩
        · intro b9 X hE hd hn hV
          have r164 : b9.tmps[164]?.getD undef = .pointer (some ⟨pd, 0, none⟩) := hV 23 _ 164 rfl rfl (Pred.waits_near (by kernel_rfl) (by kernel_rfl))
          have r160 : b9.tmps[160]?.getD undef = .bool false := hV 19 _ 160 rfl rfl (Pred.waits_near (by kernel_rfl) (by kernel_rfl))
          exact Pred.yields_run (v := .pointer (some ⟨pd, 5, none⟩)) ((Pred.wanted_at (g := 19) (d := 160) (f := false) rfl rfl r160).trans rfl) (by go_simp) ⟨Pred.ext_refl _ _, rfl⟩
        · intro b9 X hE hd hn hV
          have r165 : b9.tmps[165]?.getD undef = .pointer (some ⟨pd, 5, none⟩) := hV 24 _ 165 rfl rfl (Pred.waits_near (by kernel_rfl) (by kernel_rfl))
          have r160 : b9.tmps[160]?.getD undef = .bool false := hV 19 _ 160 rfl rfl (Pred.waits_near (by kernel_rfl) (by kernel_rfl))
          have rh := Rh_bel HRH.out hE
          have cz := DkN.Rh.c5 rh
          exact Pred.yields_run (v := .int .i64 s'.wr) ((Pred.wanted_at (g := 19) (d := 160) (f := false) rfl rfl r160).trans rfl) (by go_simp) ⟨Pred.ext_refl _ _, rfl⟩
        · intro b9 X hE hd hn hV
          have r162 : b9.tmps[162]?.getD undef = .int .i64 s'.wr := hV 21 _ 162 rfl rfl (Pred.waits_near (by kernel_rfl) (by kernel_rfl))
          have r166 : b9.tmps[166]?.getD undef = .int .i64 s'.wr := hV 25 _ 166 rfl rfl (Pred.waits_near (by kernel_rfl) (by kernel_rfl))
          have r160 : b9.tmps[160]?.getD undef = .bool false := hV 19 _ 160 rfl rfl (Pred.waits_near (by kernel_rfl) (by kernel_rfl))
          exact Pred.yields_run (v := .bool false) ((Pred.wanted_at (g := 19) (d := 160) (f := false) rfl rfl r160).trans rfl) (by go_simp) ⟨Pred.ext_refl _ _, rfl⟩
        · intro b9 X hE hd hn hV
          have r160 : b9.tmps[160]?.getD undef = .bool false := hV 19 _ 160 rfl rfl (Pred.waits_near (by kernel_rfl) (by kernel_rfl))
          have r167 : b9.tmps[167]?.getD undef = .bool false := hV 26 _ 167 rfl rfl (Pred.waits_near (by kernel_rfl) (by kernel_rfl))
          exact Pred.yields_run (v := .bool false) (Pred.wanted_none rfl) (by go_simp) ⟨Pred.ext_refl _ _, rfl⟩
        · intro b9 X hE hd hn hV
          have r168 : b9.tmps[168]?.getD undef = .bool false := hV 27 _ 168 rfl rfl (Pred.waits_near (by kernel_rfl) (by kernel_rfl))
          exact Pred.yields_run (v := .bool false) (Pred.wanted_none rfl) (by go_simp) ⟨Pred.ext_refl _ _, rfl⟩
        · intro b9 X hE hd hn hV
          have r5 : b9.tmps[5]?.getD undef = .pointer (some ⟨b, 0, none⟩) := (hn 5 (by kernel_rfl)).trans rfl
          have r169 : b9.tmps[169]?.getD undef = .bool false := hV 28 _ 169 rfl rfl (Pred.waits_near (by kernel_rfl) (by kernel_rfl))
          exact Pred.yields_run (v := .pointer (some ⟨b, 0, none⟩)) ((Pred.wanted_at (g := 28) (d := 169) (f := false) rfl rfl r169).trans rfl) (by go_simp) ⟨Pred.ext_refl _ _, rfl⟩
        · intro b9 X hE hd hn hV
          have r170 : b9.tmps[170]?.getD undef = .pointer (some ⟨b, 0, none⟩) := hV 29 _ 170 rfl rfl (Pred.waits_near (by kernel_rfl) (by kernel_rfl))
          have r169 : b9.tmps[169]?.getD undef = .bool false := hV 28 _ 169 rfl rfl (Pred.waits_near (by kernel_rfl) (by kernel_rfl))
          refine Pred.yields_call (f := 26) (args := #[.pointer (some ⟨b, 0, none⟩)]) ((Pred.wanted_at (g := 28) (d := 169) (f := false) rfl rfl r169).trans rfl) (by go_simp) ?_
          exact (len_any _ (HS4.out.d.bel hE)).mono fun e w2 ⟨he, hw⟩ => ⟨_, he, hw ▸ Pred.ext_refl _ _, rfl⟩
        · intro b9 X hE hd hn hV
          have r7 : b9.tmps[7]?.getD undef = .pointer (some ⟨pd, 0, none⟩) := (hn 7 (by kernel_rfl)).trans rfl
          have r169 : b9.tmps[169]?.getD undef = .bool false := hV 28 _ 169 rfl rfl (Pred.waits_near (by kernel_rfl) (by kernel_rfl))
          exact Pred.yields_run (v := .pointer (some ⟨pd, 0, none⟩)) ((Pred.wanted_at (g := 28) (d := 169) (f := false) rfl rfl r169).trans rfl) (by go_simp) ⟨Pred.ext_refl _ _, rfl⟩
        · intro b9 X hE hd hn hV
          have r172 : b9.tmps[172]?.getD undef = .pointer (some ⟨pd, 0, none⟩) := hV 31 _ 172 rfl rfl (Pred.waits_near (by kernel_rfl) (by kernel_rfl))
          have r169 : b9.tmps[169]?.getD undef = .bool false := hV 28 _ 169 rfl rfl (Pred.waits_near (by kernel_rfl) (by kernel_rfl))
          exact Pred.yields_run (v := .pointer (some ⟨pd, 0, none⟩)) ((Pred.wanted_at (g := 28) (d := 169) (f := false) rfl rfl r169).trans rfl) (by go_simp) ⟨Pred.ext_refl _ _, rfl⟩
        · intro b9 X hE hd hn hV
          have r173 : b9.tmps[173]?.getD undef = .pointer (some ⟨pd, 0, none⟩) := hV 32 _ 173 rfl rfl (Pred.waits_near (by kernel_rfl) (by kernel_rfl))
          have r169 : b9.tmps[169]?.getD undef = .bool false := hV 28 _ 169 rfl rfl (Pred.waits_near (by kernel_rfl) (by kernel_rfl))
          exact Pred.yields_run (v := .pointer (some ⟨pd, 0, none⟩)) ((Pred.wanted_at (g := 28) (d := 169) (f := false) rfl rfl r169).trans rfl) (by go_simp) ⟨Pred.ext_refl _ _, rfl⟩
        · intro b9 X hE hd hn hV
          have r174 : b9.tmps[174]?.getD undef = .pointer (some ⟨pd, 0, none⟩) := hV 33 _ 174 rfl rfl (Pred.waits_near (by kernel_rfl) (by kernel_rfl))
          have r169 : b9.tmps[169]?.getD undef = .bool false := hV 28 _ 169 rfl rfl (Pred.waits_near (by kernel_rfl) (by kernel_rfl))
          have rh := Rh_bel HRH.out hE
          have cz := DkN.Rh.c0 rh
          exact Pred.yields_run (v := .slice (some ⟨bg, 0, none⟩) n cb) ((Pred.wanted_at (g := 28) (d := 169) (f := false) rfl rfl r169).trans rfl) (by go_simp) ⟨Pred.ext_refl _ _, rfl⟩
        · intro b9 X hE hd hn hV
          have r175 : b9.tmps[175]?.getD undef = .slice (some ⟨bg, 0, none⟩) n cb := hV 34 _ 175 rfl rfl (Pred.waits_near (by kernel_rfl) (by kernel_rfl))
          have r169 : b9.tmps[169]?.getD undef = .bool false := hV 28 _ 169 rfl rfl (Pred.waits_near (by kernel_rfl) (by kernel_rfl))
          exact Pred.yields_run (v := .int .i64 (n : Int)) ((Pred.wanted_at (g := 28) (d := 169) (f := false) rfl rfl r169).trans rfl) (by go_simp) ⟨Pred.ext_refl _ _, rfl⟩
        · intro b9 X hE hd hn hV
          have r171 : b9.tmps[171]?.getD undef = .int .i64 (n : Int) := hV 30 _ 171 rfl rfl (Pred.waits_near (by kernel_rfl) (by kernel_rfl))
          have r176 : b9.tmps[176]?.getD undef = .int .i64 (n : Int) := hV 35 _ 176 rfl rfl (Pred.waits_near (by kernel_rfl) (by kernel_rfl))
          have r169 : b9.tmps[169]?.getD undef = .bool false := hV 28 _ 169 rfl rfl (Pred.waits_near (by kernel_rfl) (by kernel_rfl))
          exact Pred.yields_run (v := .bool false) ((Pred.wanted_at (g := 28) (d := 169) (f := false) rfl rfl r169).trans rfl) (by go_simp) ⟨Pred.ext_refl _ _, rfl⟩
        · intro b9 X hE hd hn hV
          have r169 : b9.tmps[169]?.getD undef = .bool false := hV 28 _ 169 rfl rfl (Pred.waits_near (by kernel_rfl) (by kernel_rfl))
          have r177 : b9.tmps[177]?.getD undef = .bool false := hV 36 _ 177 rfl rfl (Pred.waits_near (by kernel_rfl) (by kernel_rfl))
          exact Pred.yields_run (v := .bool false) (Pred.wanted_none rfl) (by go_simp) ⟨Pred.ext_refl _ _, rfl⟩
      intro v X hE hv
      have e0 : v 0 = x := hv 0 _ 141 rfl rfl
      have e1 : v 1 = .string (bytesOf (rdL n s' at_)) := hv 1 _ 142 rfl rfl
      have e2 : v 2 = y := hv 2 _ 143 rfl rfl
      have e3 : v 3 = .string (bytesOf (rdL n s' at_)) := hv 3 _ 144 rfl rfl
      have e4 : v 4 = .bool false := hv 4 _ 145 rfl rfl
      have e5 : v 5 = .bool false := hv 5 _ 146 rfl rfl
      have e6 : v 6 = .int .i64 me := hv 6 _ 147 rfl rfl
      have e7 : v 7 = .int .i64 me := hv 7 _ 148 rfl rfl
      have e8 : v 8 = .bool false := hv 8 _ 149 rfl rfl
      have e9 : v 9 = .bool false := hv 9 _ 150 rfl rfl
      have e10 : v 10 = .bool false := hv 10 _ 151 rfl rfl
      have e11 : v 11 = .pointer (some ⟨b, 0, none⟩) := hv 11 _ 152 rfl rfl
      have e12 : v 12 = .bool s'.dn := hv 12 _ 153 rfl rfl
      have e13 : v 13 = .pointer (some ⟨pd, 0, none⟩) := hv 13 _ 154 rfl rfl
      have e14 : v 14 = .pointer (some ⟨pd, 0, none⟩) := hv 14 _ 155 rfl rfl
      have e15 : v 15 = .pointer (some ⟨pd, 4, none⟩) := hv 15 _ 156 rfl rfl
      have e16 : v 16 = .bool s'.dn := hv 16 _ 157 rfl rfl
      have e17 : v 17 = .bool false := hv 17 _ 158 rfl rfl
      have e18 : v 18 = .bool false := hv 18 _ 159 rfl rfl
      have e19 : v 19 = .bool false := hv 19 _ 160 rfl rfl
      have e20 : v 20 = .pointer (some ⟨b, 0, none⟩) := hv 20 _ 161 rfl rfl
      have e21 : v 21 = .int .i64 s'.wr := hv 21 _ 162 rfl rfl
      have e22 : v 22 = .pointer (some ⟨pd, 0, none⟩) := hv 22 _ 163 rfl rfl
      have e23 : v 23 = .pointer (some ⟨pd, 0, none⟩) := hv 23 _ 164 rfl rfl
      have e24 : v 24 = .pointer (some ⟨pd, 5, none⟩) := hv 24 _ 165 rfl rfl
      have e25 : v 25 = .int .i64 s'.wr := hv 25 _ 166 rfl rfl
      have e26 : v 26 = .bool false := hv 26 _ 167 rfl rfl
      have e27 : v 27 = .bool false := hv 27 _ 168 rfl rfl
      have e28 : v 28 = .bool false := hv 28 _ 169 rfl rfl
      have e29 : v 29 = .pointer (some ⟨b, 0, none⟩) := hv 29 _ 170 rfl rfl
      have e30 : v 30 = .int .i64 (n : Int) := hv 30 _ 171 rfl rfl
      have e31 : v 31 = .pointer (some ⟨pd, 0, none⟩) := hv 31 _ 172 rfl rfl
      have e32 : v 32 = .pointer (some ⟨pd, 0, none⟩) := hv 32 _ 173 rfl rfl
      have e33 : v 33 = .pointer (some ⟨pd, 0, none⟩) := hv 33 _ 174 rfl rfl
      have e34 : v 34 = .slice (some ⟨bg, 0, none⟩) n cb := hv 34 _ 175 rfl rfl
      have e35 : v 35 = .int .i64 (n : Int) := hv 35 _ 176 rfl rfl
      have e36 : v 36 = .bool false := hv 36 _ 177 rfl rfl
      have e37 : v 37 = .bool false := hv 37 _ 178 rfl rfl
      simp only [Pred.putsF_cons, Pred.putsF_nil, Nat.zero_add, Nat.reduceAdd, e0, e1, e2, e3, e4, e5, e6, e7, e8, e9, e10, e11, e12, e13, e14, e15, e16, e17, e18, e19, e20, e21, e22, e23, e24, e25, e26, e27, e28, e29, e30, e31, e32, e33, e34, e35, e36, e37, Act.put, List.setIfInBounds_toArray, List.set_cons_zero, List.set_cons_succ]
      clear e0 e1 e2 e3 e4 e5 e6 e7 e8 e9 e10 e11 e12 e13 e14 e15 e16 e17 e18 e19 e20 e21 e22 e23 e24 e25 e26 e27 e28 e29 e30 e31 e32 e33 e34 e35 e36 e37 hv
      have HS5 := Lib.hid (HS4.out.bel hE)
      clear hE HS4 HX2 HY2 HRH
      go_wp2
      exact ⟨⟨k + 1, c + 1, _, _, by omega, by omega, by go_num, HS5⟩, by simp [intOf]; omega⟩
    · obtain rfl : k = len := by omega
      clear hlt
      go_wp2_with fail
      refine (rup_all _ HS.out.r).mono ?_
      rintro e Y1 ⟨⟨ad, ca, rfl, hr⟩, r1, f1⟩
      have HH : Hid (Hx w Y1 b kg hg B0 pd bg n s (uR n t)) := Lib.hid ⟨dk_fr HS.out.d f1, r1, HS.out.below.trans (f1.1.mono HS.out.lo.2.2.2), HS.out.lo⟩
      have HK := Lib.hid HS.out.k
      clear hr r1 f1 HS
      go_wp2_with fail
      refine (cup_all _ HH.out.d).mono ?_
      rintro e Y2 ⟨⟨v, rfl, ho⟩, d1, t1⟩
      have HS2 : Hid (Sx w Y2 b kg hg B0 pd bg n c (uN n s) (uR n t)) := Lib.hid ⟨d1, rf_tn HH.out.r HH.out.d t1, HK.out.uN, HH.out.below.trans (t1.below (by intro k hk; simp at hk; have := HH.out.lo; omega) HH.out.below.size), HH.out.lo⟩
      clear ho d1 t1 HH HK
      obtain ⟨s', hs'⟩ : ∃ x, uN n s = x := ⟨_, rfl⟩
      obtain ⟨t', ht'⟩ : ∃ x, uR n t = x := ⟨_, rfl⟩
      rw [hs', ht'] at HS2
      clear hs' ht'
      obtain ⟨mm, m1⟩ : ∃ mm : Nat, (if (40 : Int) < (n : Int) then (40 : Int) else (n : Int)) = (mm : Int) := by
        by_cases h : (40 : Int) < (n : Int)
        · exact ⟨40, by rw [if_pos h]; rfl⟩
        · exact ⟨n, by rw [if_neg h]⟩
      go_wp2_with fail
      go_loopw [15] (fun i X => ∃ (j : Nat), j ≤ mm ∧ i = .int .i64 j ∧ Hid (Sx w X b kg hg B0 pd bg n c s' t')) (fun i _ => mm - (intOf i).toNat)
      case atStart => exact ⟨0, by omega, rfl, HS2⟩
      case round =>
        clear HS2
        obtain ⟨j, hj, rfl, HS2⟩ := hrel
        rename World => Y
        by_cases hlt : j < mm
        · have hlt' : (j : Int) < (mm : Int) := by omega
          go_upto_region 41 with (fail)
          go_wp2_with fail
          refine (cread_all j _ HS2.out.d).mono ?_
          rintro e Y1 ⟨⟨x, rfl, hx⟩, hb1⟩
          have HX1 := Lib.hid hx
          have HS3 := Lib.hid (HS2.out.bel hb1)
          clear hx hb1 HS2
          go_wp2_with fail
          refine (rread_all j _ HS3.out.r).mono ?_
          rintro e Y2 ⟨⟨y, rfl, hy⟩, hb2⟩
          rw [Lk.rdL HS3.out.k] at hy
          have HY2 := Lib.hid hy
          have HX2 := Lib.hid (HX1.out.below hb2)
          have HS4 := Lib.hid (HS3.out.bel hb2)
          rw [Lk.may HS3.out.k]
          obtain ⟨me, hme⟩ : ∃ v, mayE n s'.dn (j : Int) = v := ⟨_, rfl⟩
          rw [hme]
          clear hy hb2 HX1 HS3 hme
          have HBD : Hid (∀ z ∈ rdL n s' j, 0 ≤ z ∧ z ≤ 255) := Lib.hid (by rw [← Lk.rdL HS4.out.k]; exact rdl_bd HS4.out.r j)
          go_upto_region 43 with (fail)
          have cz1 := str_out HX2.out HBD.out
          have cz2 := str_out HY2.out HBD.out
          go_wp2
          exact ⟨⟨j + 1, by omega, by go_num, HS4⟩, by simp [intOf]; omega⟩
        · obtain rfl : j = mm := by omega
          go_wp2_with fail
          refine (awake_any _).mono ?_
          rintro e w2 ⟨rfl, hb2⟩
          go_wp2
          go_ret
          exact ⟨rfl, HS2.out.below.trans (hb2.mono HS2.out.below.size)⟩
end Go.Proofs.Ytajoajblmaopjaa.DkZw

/-
  cut.Page refused; the walk over none.
-/
import Derived.Test.YtdjiblgnealmkaaCtF
namespace Go.Proofs.Ytdjiblgnealmkaa.CtG
open Go.RowKit Go.Shelf Rd Go.Proofs.Ytdjiblgnealmkaa.Row Mid DkM It PgD PgE ItG CtA CtC CtD
open MpM (Px RB cp)
open MpA (Pyr Depth_any)
set_option linter.unusedVariables false
set_option linter.unusedSimpArgs false
set_option maxRecDepth 10000
variable {b D : Nat} {wr : Bool} {ts : List Px}
attribute [local go_sem ↓] PgA.load_pg PgA.store_pg
attribute [local go_sem] PgA.pc3 PgA.run_load_pg PgA.run_store_pg midLoad_eq rowLoad_eq rowStore_eq blk_alloc_at blk_alloc_old blk_drew blk_drewN blk_grow one_int
set_option maxHeartbeats 8000000 in
theorem Page_no (L X Y : Int) (w : World) (h : Pyr w b D wr ts) (hv : PgM.validB D L X Y = false) :
    Calls Try.prog 28 #[.pointer (some ⟨b, 0, none⟩), PgA.pg L X Y] w fun e w' => e = .returned (.tuple #[.slice none 0 0, .int .i64 1]) ∧ Below w.heap.size w w' := by
  have CD := Lib.hid fun Z (hZ : Pyr Z b D wr ts) => Depth_any Z hZ
  have CV := Lib.hid fun Z => (hv ▸ PgA.valid_any (D : Int) L X Y Z : Calls Try.prog 54 #[.int .i64 D, PgA.pg L X Y] Z fun e w' => e = .returned (.bool false) ∧ Below Z.heap.size Z w')
  have hblt := h.lt
  clear hv
  go_enter Try.func28, Try.ntmps28
  go_upto_region 1 with (fail)
  refine Rd.name_world ?_
  intro W hW
  have L0 : Below w.heap.size w W := by rw [hW]; repeat' (first | (with_reducible exact Below.refl _ _) | (with_reducible refine Rd.below_step ?_ (by assumption)) | (with_reducible refine Rd.below_alloc ?_ _) | (with_reducible refine Rd.below_drewN ?_ _) | (with_reducible refine Below.drew ?_) | (with_reducible refine Below.setCell ?_ ?_ _) | (with_reducible refine Rd.below_setRow ?_ ?_ _) | go_size | (simp only [World.size_alloc]; omega) | omega)
  have bP : blk W w.heap.size = some (.cells #[.int .i64 L, .int .i64 X, .int .i64 Y] 61 (0, 0)) := by rw [hW]; exact blk_alloc_at _ _ _ rfl
  have hPW := h.below L0
  have lP := blk_lt bP
  clear hW
  refine PredT.region_of (W := W) (W.heap.size) (Nat.le_refl _) [] [
      fun _ => True] [
      PredT.At 0 (.pointer (some ⟨b, 0, none⟩)),
      PredT.At 0 (.bool false),
      PredT.At 0 (.bool false),
      PredT.At 0 (.pointer (some ⟨b, 0, none⟩)),
      PredT.At 0 (.int .i64 D),
      PredT.At 0 (PgA.pg L X Y),
      PredT.At 0 (.bool false),
      PredT.At 0 (.bool true),
      PredT.At 0 (.bool true)] (by kernel_rfl) (by kernel_rfl) (by kernel_rfl) (by decide) (by decide) ?_ ?_ ?_ ?_ ?_ ?_
  · exact ⟨PredT.at_stab _ _ _ _, PredT.at_stab _ _ _ _, PredT.at_stab _ _ _ _, PredT.at_stab _ _ _ _, PredT.at_stab _ _ _ _, PredT.at_stab _ _ _ _, PredT.at_stab _ _ _ _, PredT.at_stab _ _ _ _, PredT.at_stab _ _ _ _, trivial⟩
  · intro q hq
    rcases List.mem_cons.1 hq with rfl | hq
    · exact fun _ _ h _ => trivial
    cases hq
  · exact trivial
  · refine ⟨.inr ?_, .inr ?_, .inr ?_, .inr ?_, .inr ?_, .inr ?_, .inr ?_, .inr ?_, .inr ?_, trivial⟩
    · intro b9 Z9 ph hE hd hn hS hV hI hF
      have r0 : b9.tmps[0]?.getD undef = .pointer (some ⟨b, 0, none⟩) := (hn 0 (by kernel_rfl)).trans rfl
      exact Pred.yields_run (v := .pointer (some ⟨b, 0, none⟩)) (Pred.wanted_none rfl) (by go_simp) ⟨Below.refl _ _, rfl, Nat.zero_le _⟩
    · intro b9 Z9 ph hE hd hn hS hV hI hF
      obtain ⟨r9, j9⟩ : PredT.At 0 (.pointer (some ⟨b, 0, none⟩)) (b9.tmps[9]?.getD undef) Z9 ph := hV 0 _ 9 rfl rfl (Pred.waits_near (by kernel_rfl) (by kernel_rfl))
      exact Pred.yields_run (v := .bool false) (Pred.wanted_none rfl) (by go_simp) ⟨Below.refl _ _, rfl, Nat.zero_le _⟩
    · intro b9 Z9 ph hE hd hn hS hV hI hF
      obtain ⟨r10, j10⟩ : PredT.At 0 (.bool false) (b9.tmps[10]?.getD undef) Z9 ph := hV 1 _ 10 rfl rfl (Pred.waits_near (by kernel_rfl) (by kernel_rfl))
      exact Pred.yields_run (v := .bool false) (Pred.wanted_none rfl) (by go_simp) ⟨Below.refl _ _, rfl, Nat.zero_le _⟩
    · intro b9 Z9 ph hE hd hn hS hV hI hF
      have r0 : b9.tmps[0]?.getD undef = .pointer (some ⟨b, 0, none⟩) := (hn 0 (by kernel_rfl)).trans rfl
      obtain ⟨r11, j11⟩ : PredT.At 0 (.bool false) (b9.tmps[11]?.getD undef) Z9 ph := hV 2 _ 11 rfl rfl (Pred.waits_near (by kernel_rfl) (by kernel_rfl))
      exact Pred.yields_run (v := .pointer (some ⟨b, 0, none⟩)) ((Pred.wanted_at (g := 2) (d := 11) (f := false) rfl rfl r11).trans rfl) (by go_simp) ⟨Below.refl _ _, rfl, Nat.zero_le _⟩
    · intro b9 Z9 ph hE hd hn hS hV hI hF
      obtain ⟨r12, j12⟩ : PredT.At 0 (.pointer (some ⟨b, 0, none⟩)) (b9.tmps[12]?.getD undef) Z9 ph := hV 3 _ 12 rfl rfl (Pred.waits_near (by kernel_rfl) (by kernel_rfl))
      obtain ⟨r11, j11⟩ : PredT.At 0 (.bool false) (b9.tmps[11]?.getD undef) Z9 ph := hV 2 _ 11 rfl rfl (Pred.waits_near (by kernel_rfl) (by kernel_rfl))
      refine Pred.yields_call (f := 23) (args := #[.pointer (some ⟨b, 0, none⟩)]) ((Pred.wanted_at (g := 2) (d := 11) (f := false) rfl rfl r11).trans rfl) (by go_simp) ?_
      refine (CD.out Z9 (hPW.below hE)).mono ?_
      rintro e _ ⟨rfl, rfl⟩
      exact ⟨_, rfl, Below.refl _ _, rfl, Nat.zero_le _⟩
    · intro b9 Z9 ph hE hd hn hS hV hI hF
      have r3 : b9.tmps[3]?.getD undef = .pointer (some ⟨w.heap.size, 0, none⟩) := (hn 3 (by kernel_rfl)).trans rfl
      obtain ⟨r11, j11⟩ : PredT.At 0 (.bool false) (b9.tmps[11]?.getD undef) Z9 ph := hV 2 _ 11 rfl rfl (Pred.waits_near (by kernel_rfl) (by kernel_rfl))
      have hbP := (blk_below hE _ lP).trans bP
      exact Pred.yields_run (v := PgA.pg L X Y) ((Pred.wanted_at (g := 2) (d := 11) (f := false) rfl rfl r11).trans rfl) (by go_simp) ⟨Below.refl _ _, rfl, Nat.zero_le _⟩
    · intro b9 Z9 ph hE hd hn hS hV hI hF
      obtain ⟨r13, j13⟩ : PredT.At 0 (.int .i64 D) (b9.tmps[13]?.getD undef) Z9 ph := hV 4 _ 13 rfl rfl (Pred.waits_near (by kernel_rfl) (by kernel_rfl))
      obtain ⟨r14, j14⟩ : PredT.At 0 (PgA.pg L X Y) (b9.tmps[14]?.getD undef) Z9 ph := hV 5 _ 14 rfl rfl (Pred.waits_near (by kernel_rfl) (by kernel_rfl))
      obtain ⟨r11, j11⟩ : PredT.At 0 (.bool false) (b9.tmps[11]?.getD undef) Z9 ph := hV 2 _ 11 rfl rfl (Pred.waits_near (by kernel_rfl) (by kernel_rfl))
      refine Pred.yields_call (f := 54) (args := #[.int .i64 D, PgA.pg L X Y]) ((Pred.wanted_at (g := 2) (d := 11) (f := false) rfl rfl r11).trans rfl) (by go_simp) ?_
      refine (CV.out Z9).mono ?_
      rintro e w9 ⟨rfl, hb⟩
      exact ⟨_, rfl, hb, rfl, Nat.zero_le _⟩
    · intro b9 Z9 ph hE hd hn hS hV hI hF
      obtain ⟨r15, j15⟩ : PredT.At 0 (.bool false) (b9.tmps[15]?.getD undef) Z9 ph := hV 6 _ 15 rfl rfl (Pred.waits_near (by kernel_rfl) (by kernel_rfl))
      obtain ⟨r11, j11⟩ : PredT.At 0 (.bool false) (b9.tmps[11]?.getD undef) Z9 ph := hV 2 _ 11 rfl rfl (Pred.waits_near (by kernel_rfl) (by kernel_rfl))
      exact Pred.yields_run (v := .bool true) ((Pred.wanted_at (g := 2) (d := 11) (f := false) rfl rfl r11).trans rfl) (by go_simp) ⟨Below.refl _ _, rfl, Nat.zero_le _⟩
    · intro b9 Z9 ph hE hd hn hS hV hI hF
      obtain ⟨r11, j11⟩ : PredT.At 0 (.bool false) (b9.tmps[11]?.getD undef) Z9 ph := hV 2 _ 11 rfl rfl (Pred.waits_near (by kernel_rfl) (by kernel_rfl))
      obtain ⟨r16, j16⟩ : PredT.At 0 (.bool true) (b9.tmps[16]?.getD undef) Z9 ph := hV 7 _ 16 rfl rfl (Pred.waits_near (by kernel_rfl) (by kernel_rfl))
      exact Pred.yields_run (v := .bool true) (Pred.wanted_none rfl) (by go_simp) ⟨Below.refl _ _, rfl, Nat.zero_le _⟩
  · trivial
  intro v Z1 hE hS hv
  replace hS : (fun _ => True) Z1 := hS
  have e0 : v 0 = .pointer (some ⟨b, 0, none⟩) := (hv 0 _ 9 rfl rfl).1
  have e1 : v 1 = .bool false := (hv 1 _ 10 rfl rfl).1
  have e2 : v 2 = .bool false := (hv 2 _ 11 rfl rfl).1
  have e3 : v 3 = .pointer (some ⟨b, 0, none⟩) := (hv 3 _ 12 rfl rfl).1
  have e4 : v 4 = .int .i64 D := (hv 4 _ 13 rfl rfl).1
  have e5 : v 5 = PgA.pg L X Y := (hv 5 _ 14 rfl rfl).1
  have e6 : v 6 = .bool false := (hv 6 _ 15 rfl rfl).1
  have e7 : v 7 = .bool true := (hv 7 _ 16 rfl rfl).1
  have e8 : v 8 = .bool true := (hv 8 _ 17 rfl rfl).1
  simp only [Pred.putsF_cons, Pred.putsF_nil, Nat.zero_add, Nat.reduceAdd, e0, e1, e2, e3, e4, e5, e6, e7, e8, Act.put, List.setIfInBounds_toArray, List.set_cons_zero, List.set_cons_succ]
  clear e0 e1 e2 e3 e4 e5 e6 e7 e8 hv
  have L1 : Below w.heap.size w Z1 := L0.trans (hE.mono L0.size)
  clear hE hS hPW bP L0 h CD CV
  go_wp2_with fail
  go_ret2
  exact ⟨rfl, L1⟩
attribute [local go_sem] Oper.semAt_some
attribute [local go_sem ↓] nil_iter
set_option maxHeartbeats 4000000 in
theorem ctall_none (bx : Nat) : SeqG Try.prog 67 #[.pointer (some ⟨bx, 0, none⟩)] encI (fun _ => False) (fun l => l = []) (fun _ _ => True) (BoxM bx (.pointer none)) := by
  intro lo J Jx Own W hJ hJx hM hK hY h0
  refine callsIn_wide.1 (callsIn_of_wp_marks (F := Fence.wide) (n := 0) Try.func67 rfl trivial ?_ rfl)
  simp only [Try.ntmps67, List.size_toArray, List.length_cons, List.length_nil, Nat.reduceAdd, Nat.reduceSub, Array.replicate_succ, Array.replicate_zero, List.push_toArray, List.append_toArray, List.nil_append, List.cons_append]
  have A0 : Has W.heap.size J (fun _ => Own) [] [] [] W := ⟨h0, fun p hp => (by cases hp), fun p hp => (by cases hp), Nat.le_refl _⟩
  have A1 := Lib.hid (A0.lay hJ hM (.cells #[.func (.yield lo) #[] #[]] 109))
  have c0 := (hK _ _ A1.out.j).cell
  clear A0 hY h0 hK
  gi_wp2
  exact ⟨_, results_none rfl _ _ _, ⟨_, rfl⟩, .inl ⟨[], rfl, A1.out.j⟩⟩
set_option maxHeartbeats 8000000 in
theorem lall_nil (w : World) : Calls Try.prog 35 #[.pointer none, .int .i64 (-1)] w fun e w' => (∃ (ad : Option Addr) (c : Nat), e = .returned (.slice ad 0 c)) ∧ Below w.heap.size w w' := by
  refine callsIn_wide.1 (callsIn_of_wp_marks (F := Fence.wide) (n := 0) Try.func35 rfl trivial ?_ rfl)
  simp only [Try.ntmps35, List.size_toArray, List.length_cons, List.length_nil, Nat.reduceAdd, Nat.reduceSub, Array.replicate_succ, Array.replicate_zero, List.push_toArray, List.append_toArray, List.nil_append, List.cons_append]
  gi_wp2_with fail
  refine ⟨trivial, rfl, (callsIn_wide.2 (ctAll_any (.pointer none) _ rfl (.inl rfl))).mono ?_⟩
  rintro e W1 ⟨rfl, hW1⟩
  have R0 : AllSt w (-1) (.pointer none) 0 true [] [] W1 := by rw [hW1]; exact all_start w _ _ 0 true []
  have hs1 : W1.heap.size = w.heap.size + 3 := by rw [hW1]; simp
  have HR0 := Lib.hid R0
  clear hW1 R0
  gi_wp2_with fail
  simp only [Nat.add_assoc, Nat.reduceAdd]
  refine range_seqG (gf := 67) (lb := #[.pointer (some ⟨w.heap.size + 2, 0, none⟩)]) rfl enters_ct (ctall_none (w.heap.size + 2)) (fun _ => rfl)
    (fun pre Z => AllSt w (-1) (.pointer none) 0 true [] pre Z)
    (fun c pre Z => False)
    (AllOwn w) ?hI ?hIx (all_mine w _ _ 0 true [] _ (by omega)) (fun _ _ h => h.m) HR0.out ?round ?done ?stop
  case hI => exact fun s X Y row h hg hr => h.grown hg fun r e => ⟨by have := (hr r e).1; omega, (hr r e).2⟩
  case hIx => exact fun c s X Y row h => h.elim
  case stop => exact fun D9 c pre Z _ h => h.elim
  case round => exact fun l pre x X _ _ _ h => h.elim
  case done =>
    rintro D9 xs Z hD9 rfl hI hdef
    have HI := Lib.hid hI
    obtain ⟨v, hv, ow⟩ := hI.row
    obtain ⟨ad, cap, rfl, _⟩ := owns_val ow
    have c5 := hv.cell
    clear hI hv ow
    gi_wp2_with fail
    refine leaves_marks (Ds := [D9]) (B := w.heap.size + 3) (fun Y => AllSt w (-1) (.pointer none) 0 true [] [] Y) (fun E Y hE hY he => hY.grown (grownBy_putObj' _ _ _) fun r e => by injection e with e; subst e; exact ⟨hE, _, he, rfl⟩) (fun Y hY => ⟨_, results_tmp rfl _ _ _, ⟨ad, cap, rfl⟩, hY.below⟩) (by simp) Z HI.out fun E hp => ?_
    obtain rfl : E = D9 := by simpa using hp
    exact ⟨by omega, hdef⟩
end Go.Proofs.Ytdjiblgnealmkaa.CtG

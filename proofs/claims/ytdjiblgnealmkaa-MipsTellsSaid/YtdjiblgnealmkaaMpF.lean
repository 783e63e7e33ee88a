/-
  Texture; within.
-/
import Derived.Test.YtdjiblgnealmkaaMpE
import Derived.Laws.CopyRow
namespace Go.Proofs.Ytdjiblgnealmkaa.MpF
open Go.RowKit Rd Go.Proofs.Ytdjiblgnealmkaa.Row Mid DkM HueA MpM MpA MpB MpC MpD MpE
set_option linter.unusedVariables false
set_option linter.unusedSimpArgs false
set_option maxRecDepth 10000
variable {X Y : World} {B b D K : Nat} {wr : Bool} {ps : List Px} {v : Value}
theorem load_tex (x : Value) : Instr.loadAt 24 x = loadRow 24 x := rfl
theorem store_tex (x v : Value) : Instr.storeAt 24 x v = storeRow 24 x v := rfl
theorem run_load_tex (g o : Nat) (W : World) : (loadRow 24 (.pointer (some ⟨g, o, none⟩))).run Try.prog W = rowLoad Try.prog 24 3 g o W := run_loadRow Try.underlying24 rfl (by kernel_rfl) g o W
theorem run_store_tex (g o : Nat) (c : Array Value) (W : World) : (storeRow 24 (.pointer (some ⟨g, o, none⟩)) (.agg c)).run Try.prog W = rowStore Try.prog 24 3 g o c W := run_storeRow (by kernel_rfl) g o c W
theorem info_tex : (Try.prog.info? 24).map (·.size) = some 3 := by kernel_rfl
theorem ret_tex {fn : Func} {R : Ending → World → Prop} {a : Act} {W : World} {p : Tmp} (h : fn.results = #[.cell p 24]) (g : Nat) (x y z : Value) (hp : a.tmps.getD p undef = .pointer (some ⟨g, 0, none⟩))
    (hg : blk W g = some (.cells #[x, y, z] 24 (0, 0))) (hd : a.defers = []) (hR : R (.returned (.agg #[x, y, z])) W) : bodyPost Try.prog fn R .ret a W :=
  bodyPost_ret (results_row1 h _ _ g _ _ _ _ hp hg Try.underlying24 rfl (by rw [info_tex]; rfl)) hd hR
attribute [local go_sem ↓] load_tex store_tex
attribute [local go_sem] run_load_tex run_store_tex rowStore_eq rowLoad_eq one_int one_bool
set_option maxHeartbeats 8000000 in
theorem Texture_any (w : World) (h : Pyr w b D wr ps) :
    Calls Try.prog 22 #[.pointer (some ⟨b, 0, none⟩)] w fun e w' => (∃ u, e = .returned (.agg #[.int .i64 D, .bool wr, u]) ∧ w'.ownsRow w.heap.size 39 4 u (sd D * sd D) (cp ps)) ∧ Below w.heap.size w w' := by
  have hblt := h.lt
  have CH := Lib.hid fun X (hX : Pyr X b D wr ps) => (show decide ((0 : Int) ≤ 0 ∧ (0 : Int) ≤ D) = true from decide_eq_true (by omega)) ▸ has_any 0 X hX
  go_enter Try.func22, Try.ntmps22
  go_wp2_with fail
  refine (CH.out _ (h.below (by repeat' (first | (with_reducible exact Below.refl _ _) | (with_reducible refine Rd.below_step ?_ (by assumption)) | (with_reducible refine Rd.below_alloc ?_ _) | (with_reducible refine Rd.below_drewN ?_ _) | (with_reducible refine Below.drew ?_) | (with_reducible refine Below.setCell ?_ ?_ _) | (with_reducible refine Rd.below_setRow ?_ ?_ _) | go_size | (simp only [World.size_alloc]; omega) | omega)))).mono ?_
  rintro e _ ⟨rfl, rfl⟩
  go_upto_region 3 with (fail)
  refine Rd.name_world ?_
  intro W hW
  have L0 : Below w.heap.size w W := by rw [hW]; repeat' (first | (with_reducible exact Below.refl _ _) | (with_reducible refine Rd.below_step ?_ (by assumption)) | (with_reducible refine Rd.below_alloc ?_ _) | (with_reducible refine Rd.below_drewN ?_ _) | (with_reducible refine Below.drew ?_) | (with_reducible refine Below.setCell ?_ ?_ _) | (with_reducible refine Rd.below_setRow ?_ ?_ _) | go_size | (simp only [World.size_alloc]; omega) | omega)
  have hB : blk W w.heap.size = some (.cells #[.int .i64 0, .bool false, .slice none 0 0] 24 (0, 0)) := by rw [hW]; exact blk_alloc_at _ _ _ rfl
  have hWs := blk_lt hB
  obtain ⟨g, cap, c2, hg, hc1, hc2, hL⟩ := h.c2
  obtain ⟨c, cap', d0, hc, hcc, hcm, hr⟩ := hL 0 (by omega)
  rw [Int.toNat_natCast, Nat.sub_zero] at d0
  rw [Nat.sub_zero] at hr hcc
  obtain ⟨q, hq⟩ : ∃ q, q = sd D * sd D := ⟨_, rfl⟩
  rw [← hq] at d0 hr hcc
  have hq1 : q ≤ 1024 := by rw [hq]; exact sq_le (sd_le h.d3)
  have HQ0 := Lib.hid hq
  rw [show lev ps D 0 = ps from rfl] at hr
  have c0 := h.c0
  have c1 := h.c1
  have hbW := h.lt
  have hb9 : b < w.heap.size := h.lt
  have hrX : ∀ X, Below w.heap.size W X → Reads X 4 (some ⟨c, 0, none⟩) q (cp ps) := fun X hE => hr.below (L0.trans hE) (Nat.le_refl _)
  clear hW hq hL
  refine PredT.region_of (W := W) (w.heap.size) (Nat.le_of_lt hWs) [16] [
      fun y => blk y w.heap.size = some (.cells #[.int .i64 0, .bool false, .slice none 0 0] 24 (0, 0)),
      fun y => ∃ u, blk y w.heap.size = some (.cells #[.int .i64 D, .bool wr, u] 24 (0, 0)) ∧ y.ownsRow w.heap.size 39 4 u q (cp ps)] [
      PredT.At 0 (.pointer (some ⟨b, 0, none⟩)),
      PredT.At 0 (.pointer (some ⟨b, 0, none⟩)),
      PredT.At 0 (.pointer (some ⟨b, 0, none⟩)),
      PredT.At 0 (.int .i64 D),
      PredT.At 0 (.pointer (some ⟨b, 0, none⟩)),
      PredT.At 0 (.pointer (some ⟨b, 0, none⟩)),
      PredT.At 0 (.pointer (some ⟨b, 1, none⟩)),
      PredT.At 0 (.bool wr),
      PredT.At 0 (.pointer (some ⟨b, 0, none⟩)),
      PredT.At 0 (.pointer (some ⟨b, 0, none⟩)),
      PredT.At 0 (.pointer (some ⟨b, 2, none⟩)),
      PredT.At 0 (.slice (some ⟨g, 0, none⟩) (D + 1) cap),
      PredT.At 0 (.pointer (some ⟨g, 0, none⟩)),
      PredT.At 0 (.slice (some ⟨c, 0, none⟩) q cap'),
      PredT.When 0 (fun u y => y.ownsRow w.heap.size 39 4 u q (cp ps)),
      PredT.When 0 (fun u y => ∃ v, u = .agg #[.int .i64 D, .bool wr, v] ∧ y.ownsRow w.heap.size 39 4 v q (cp ps)),
      PredT.At 0 (undef)] (by kernel_rfl) (by kernel_rfl) (by kernel_rfl) (by decide) (by decide) ?_ ?_ ?_ ?_ ?_ ?_
  · exact ⟨PredT.at_stab _ _ _ _, PredT.at_stab _ _ _ _, PredT.at_stab _ _ _ _, PredT.at_stab _ _ _ _, PredT.at_stab _ _ _ _, PredT.at_stab _ _ _ _, PredT.at_stab _ _ _ _, PredT.at_stab _ _ _ _, PredT.at_stab _ _ _ _, PredT.at_stab _ _ _ _, PredT.at_stab _ _ _ _, PredT.at_stab _ _ _ _, PredT.at_stab _ _ _ _, PredT.at_stab _ _ _ _, PredT.when_stab _ _ _ (fun u y y' h hb => owns_below' h hb), PredT.when_stab _ _ _ (fun u y y' ⟨v, h0, h1⟩ hb => ⟨v, h0, owns_below' h1 hb⟩), PredT.at_stab _ _ _ _, trivial⟩
  · intro q hq
    rcases List.mem_cons.1 hq with rfl | hq
    · exact fun y y' h hb => (blk_below hb _ (blk_lt h)).trans h
    rcases List.mem_cons.1 hq with rfl | hq
    · exact fun y y' ⟨u, h1, h2⟩ hb => ⟨u, (blk_below hb _ (blk_lt h1)).trans h1, owns_below' h2 hb⟩
    cases hq
  · exact hB
  · refine ⟨.inr ?_, .inr ?_, .inr ?_, .inr ?_, .inr ?_, .inr ?_, .inr ?_, .inr ?_, .inr ?_, .inr ?_, .inr ?_, .inr ?_, .inr ?_, .inr ?_, .inr ?_, .inr ?_, .inl rfl, trivial⟩
    · intro b9 X ph hE hd hn hS hV hI hF
      have r0 : b9.tmps[0]?.getD undef = .pointer (some ⟨b, 0, none⟩) := (hn 0 (by kernel_rfl)).trans rfl
      exact Pred.yields_run (v := .pointer (some ⟨b, 0, none⟩)) (Pred.wanted_none rfl) (by go_simp) ⟨Below.refl _ _, rfl, Nat.zero_le _⟩
    · intro b9 X ph hE hd hn hS hV hI hF
      obtain ⟨r7, j7⟩ : PredT.At 0 (.pointer (some ⟨b, 0, none⟩)) (b9.tmps[7]?.getD undef) X ph := hV 0 _ 7 rfl rfl (Pred.waits_near (by kernel_rfl) (by kernel_rfl))
      exact Pred.yields_run (v := .pointer (some ⟨b, 0, none⟩)) (Pred.wanted_none rfl) (by go_simp) ⟨Below.refl _ _, rfl, Nat.zero_le _⟩
    · intro b9 X ph hE hd hn hS hV hI hF
      obtain ⟨r8, j8⟩ : PredT.At 0 (.pointer (some ⟨b, 0, none⟩)) (b9.tmps[8]?.getD undef) X ph := hV 1 _ 8 rfl rfl (Pred.waits_near (by kernel_rfl) (by kernel_rfl))
      exact Pred.yields_run (v := .pointer (some ⟨b, 0, none⟩)) (Pred.wanted_none rfl) (by go_simp) ⟨Below.refl _ _, rfl, Nat.zero_le _⟩
    · intro b9 X ph hE hd hn hS hV hI hF
      obtain ⟨r9, j9⟩ : PredT.At 0 (.pointer (some ⟨b, 0, none⟩)) (b9.tmps[9]?.getD undef) X ph := hV 2 _ 9 rfl rfl (Pred.waits_near (by kernel_rfl) (by kernel_rfl))
      have z := ((L0.trans hE).cell (p := ⟨b, 0, none⟩) (by show b < w.heap.size; omega)).trans c0
      exact Pred.yields_run (v := .int .i64 D) (Pred.wanted_none rfl) (by go_simp) ⟨Below.refl _ _, rfl, Nat.zero_le _⟩
    · intro b9 X ph hE hd hn hS hV hI hF
      have r0 : b9.tmps[0]?.getD undef = .pointer (some ⟨b, 0, none⟩) := (hn 0 (by kernel_rfl)).trans rfl
      exact Pred.yields_run (v := .pointer (some ⟨b, 0, none⟩)) (Pred.wanted_none rfl) (by go_simp) ⟨Below.refl _ _, rfl, Nat.zero_le _⟩
    · intro b9 X ph hE hd hn hS hV hI hF
      obtain ⟨r11, j11⟩ : PredT.At 0 (.pointer (some ⟨b, 0, none⟩)) (b9.tmps[11]?.getD undef) X ph := hV 4 _ 11 rfl rfl (Pred.waits_near (by kernel_rfl) (by kernel_rfl))
      exact Pred.yields_run (v := .pointer (some ⟨b, 0, none⟩)) (Pred.wanted_none rfl) (by go_simp) ⟨Below.refl _ _, rfl, Nat.zero_le _⟩
    · intro b9 X ph hE hd hn hS hV hI hF
      obtain ⟨r12, j12⟩ : PredT.At 0 (.pointer (some ⟨b, 0, none⟩)) (b9.tmps[12]?.getD undef) X ph := hV 5 _ 12 rfl rfl (Pred.waits_near (by kernel_rfl) (by kernel_rfl))
      exact Pred.yields_run (v := .pointer (some ⟨b, 1, none⟩)) (Pred.wanted_none rfl) (by go_simp) ⟨Below.refl _ _, rfl, Nat.zero_le _⟩
    · intro b9 X ph hE hd hn hS hV hI hF
      obtain ⟨r13, j13⟩ : PredT.At 0 (.pointer (some ⟨b, 1, none⟩)) (b9.tmps[13]?.getD undef) X ph := hV 6 _ 13 rfl rfl (Pred.waits_near (by kernel_rfl) (by kernel_rfl))
      have z := ((L0.trans hE).cell (p := ⟨b, 1, none⟩) (by show b < w.heap.size; omega)).trans c1
      exact Pred.yields_run (v := .bool wr) (Pred.wanted_none rfl) (by go_simp) ⟨Below.refl _ _, rfl, Nat.zero_le _⟩
    · intro b9 X ph hE hd hn hS hV hI hF
      have r0 : b9.tmps[0]?.getD undef = .pointer (some ⟨b, 0, none⟩) := (hn 0 (by kernel_rfl)).trans rfl
      exact Pred.yields_run (v := .pointer (some ⟨b, 0, none⟩)) (Pred.wanted_none rfl) (by go_simp) ⟨Below.refl _ _, rfl, Nat.zero_le _⟩
    · intro b9 X ph hE hd hn hS hV hI hF
      obtain ⟨r15, j15⟩ : PredT.At 0 (.pointer (some ⟨b, 0, none⟩)) (b9.tmps[15]?.getD undef) X ph := hV 8 _ 15 rfl rfl (Pred.waits_near (by kernel_rfl) (by kernel_rfl))
      exact Pred.yields_run (v := .pointer (some ⟨b, 0, none⟩)) (Pred.wanted_none rfl) (by go_simp) ⟨Below.refl _ _, rfl, Nat.zero_le _⟩
    · intro b9 X ph hE hd hn hS hV hI hF
      obtain ⟨r16, j16⟩ : PredT.At 0 (.pointer (some ⟨b, 0, none⟩)) (b9.tmps[16]?.getD undef) X ph := hV 9 _ 16 rfl rfl (Pred.waits_near (by kernel_rfl) (by kernel_rfl))
      exact Pred.yields_run (v := .pointer (some ⟨b, 2, none⟩)) (Pred.wanted_none rfl) (by go_simp) ⟨Below.refl _ _, rfl, Nat.zero_le _⟩
    · intro b9 X ph hE hd hn hS hV hI hF
      obtain ⟨r17, j17⟩ : PredT.At 0 (.pointer (some ⟨b, 2, none⟩)) (b9.tmps[17]?.getD undef) X ph := hV 10 _ 17 rfl rfl (Pred.waits_near (by kernel_rfl) (by kernel_rfl))
      have z := ((L0.trans hE).cell (p := ⟨b, 2, none⟩) (by show b < w.heap.size; omega)).trans c2
      exact Pred.yields_run (v := .slice (some ⟨g, 0, none⟩) (D + 1) cap) (Pred.wanted_none rfl) (by go_simp) ⟨Below.refl _ _, rfl, Nat.zero_le _⟩
    · intro b9 X ph hE hd hn hS hV hI hF
      obtain ⟨r18, j18⟩ : PredT.At 0 (.slice (some ⟨g, 0, none⟩) (D + 1) cap) (b9.tmps[18]?.getD undef) X ph := hV 11 _ 18 rfl rfl (Pred.waits_near (by kernel_rfl) (by kernel_rfl))
      have h9 : (0 : Int) < (D : Int) + 1 := by omega
      exact Pred.yields_run (v := .pointer (some ⟨g, 0, none⟩)) (Pred.wanted_none rfl) (by go_simp) ⟨Below.refl _ _, rfl, Nat.zero_le _⟩
    · intro b9 X ph hE hd hn hS hV hI hF
      obtain ⟨r19, j19⟩ : PredT.At 0 (.pointer (some ⟨g, 0, none⟩)) (b9.tmps[19]?.getD undef) X ph := hV 12 _ 19 rfl rfl (Pred.waits_near (by kernel_rfl) (by kernel_rfl))
      have z := ((L0.trans hE).cell (p := ⟨g, 0, none⟩) (by show g < w.heap.size; omega)).trans d0
      exact Pred.yields_run (v := .slice (some ⟨c, 0, none⟩) q cap') (Pred.wanted_none rfl) (by go_simp) ⟨Below.refl _ _, rfl, Nat.zero_le _⟩
    · intro b9 X ph hE hd hn hS hV hI hF
      obtain ⟨r20, j20⟩ : PredT.At 0 (.slice (some ⟨c, 0, none⟩) q cap') (b9.tmps[20]?.getD undef) X ph := hV 13 _ 20 rfl rfl (Pred.waits_near (by kernel_rfl) (by kernel_rfl))
      refine Pred.yields_call (f := 41) (args := #[.slice (some ⟨c, 0, none⟩) q cap']) (Pred.wanted_none rfl) (by go_simp) ?_
      refine (clone_px ⟨c, 0, none⟩ q cap' ps X (hrX X hE) (by omega)).mono ?_
      rintro e w9 ⟨v9, rfl, ho, hb⟩
      have hsz := hE.size
      exact ⟨_, rfl, hb, Nat.zero_le _, fun _ => owns_mono ho (by omega)⟩
    · intro b9 X ph hE hd hn hS hV hI hF
      obtain ⟨r10, j10⟩ : PredT.At 0 (.int .i64 D) (b9.tmps[10]?.getD undef) X ph := hV 3 _ 10 rfl rfl (Pred.waits_near (by kernel_rfl) (by kernel_rfl))
      obtain ⟨r14, j14⟩ : PredT.At 0 (.bool wr) (b9.tmps[14]?.getD undef) X ph := hV 7 _ 14 rfl rfl (Pred.waits_near (by kernel_rfl) (by kernel_rfl))
      obtain ⟨j21, r21⟩ : PredT.When 0 (fun u y => y.ownsRow w.heap.size 39 4 u q (cp ps)) (b9.tmps[21]?.getD undef) X ph := hV 14 _ 21 rfl rfl (Pred.waits_near (by kernel_rfl) (by kernel_rfl))
      have hph : ph = 0 := Nat.le_zero.1 (hF 0 16 rfl (Pred.waits_more 8 _ _ (Nat.le_of_ble_eq_true (by kernel_rfl)) (by kernel_rfl)))
      have ho := r21 hph
      obtain ⟨a9, c9, hv, _⟩ := owns_val ho
      have r21e : b9.tmps[21]?.getD undef = .slice a9 q c9 := hv
      rw [r21e] at ho
      exact Pred.yields_run (v := .agg #[.int .i64 D, .bool wr, .slice a9 q c9]) (Pred.wanted_none rfl) (by go_simp) ⟨Below.refl _ _, Nat.zero_le _, fun _ => ⟨_, rfl, ho⟩⟩
  · refine ⟨?_, trivial⟩
    · refine ⟨_, rfl, fun k hk => (by cases hk), fun b9 X hE hd hn hS hV hI => ?_⟩
      have r2 : b9.tmps[2]?.getD undef = .pointer (some ⟨w.heap.size, 0, none⟩) := (hn 2 (by kernel_rfl)).trans rfl
      obtain ⟨j22, r22⟩ : PredT.When 0 (fun u y => ∃ v, u = .agg #[.int .i64 D, .bool wr, v] ∧ y.ownsRow w.heap.size 39 4 v q (cp ps)) (b9.tmps[22]?.getD undef) X 0 := hV 15 _ 22 rfl rfl (Pred.waits_near (by kernel_rfl) (by kernel_rfl))
      replace hS : (fun y => blk y w.heap.size = some (.cells #[.int .i64 0, .bool false, .slice none 0 0] 24 (0, 0))) X := hS
      obtain ⟨v, hv, ho⟩ := r22 rfl
      have r22e : b9.tmps[22]?.getD undef = .agg #[.int .i64 D, .bool wr, v] := hv
      clear r22
      have hone := own_one ho
      obtain ⟨a9, c9, rfl, _⟩ := owns_val ho
      have hS0 : blk X w.heap.size = _ := hS
      refine yields_skip (w' := X.setRow w.heap.size #[.int .i64 D, .bool wr, .slice a9 q c9]) (Pred.wanted_none rfl) (by go_simp) ⟨below_setRow (Below.refl _ _) (Nat.le_refl _) _, ⟨_, blk_setRow_of hS0 _, own_keep ho fun k1 h1 => ?_⟩, rfl, Nat.zero_le _⟩
      obtain ⟨cur, hc⟩ := own_type ho h1
      exact setRow_other _ _ _ _ (fun e => by rw [e] at hc; have := hc.symm.trans hS0; cases this)
  intro v X hE hS hv
  replace hS : (fun y => ∃ u, blk y w.heap.size = some (.cells #[.int .i64 D, .bool wr, u] 24 (0, 0)) ∧ y.ownsRow w.heap.size 39 4 u q (cp ps)) X := hS
  have e0 : v 0 = .pointer (some ⟨b, 0, none⟩) := (hv 0 _ 7 rfl rfl).1
  have e1 : v 1 = .pointer (some ⟨b, 0, none⟩) := (hv 1 _ 8 rfl rfl).1
  have e2 : v 2 = .pointer (some ⟨b, 0, none⟩) := (hv 2 _ 9 rfl rfl).1
  have e3 : v 3 = .int .i64 D := (hv 3 _ 10 rfl rfl).1
  have e4 : v 4 = .pointer (some ⟨b, 0, none⟩) := (hv 4 _ 11 rfl rfl).1
  have e5 : v 5 = .pointer (some ⟨b, 0, none⟩) := (hv 5 _ 12 rfl rfl).1
  have e6 : v 6 = .pointer (some ⟨b, 1, none⟩) := (hv 6 _ 13 rfl rfl).1
  have e7 : v 7 = .bool wr := (hv 7 _ 14 rfl rfl).1
  have e8 : v 8 = .pointer (some ⟨b, 0, none⟩) := (hv 8 _ 15 rfl rfl).1
  have e9 : v 9 = .pointer (some ⟨b, 0, none⟩) := (hv 9 _ 16 rfl rfl).1
  have e10 : v 10 = .pointer (some ⟨b, 2, none⟩) := (hv 10 _ 17 rfl rfl).1
  have e11 : v 11 = .slice (some ⟨g, 0, none⟩) (D + 1) cap := (hv 11 _ 18 rfl rfl).1
  have e12 : v 12 = .pointer (some ⟨g, 0, none⟩) := (hv 12 _ 19 rfl rfl).1
  have e13 : v 13 = .slice (some ⟨c, 0, none⟩) q cap' := (hv 13 _ 20 rfl rfl).1
  generalize hg14 : v 14 = vv14
  generalize hg15 : v 15 = vv15
  simp only [Pred.putsF_cons, Pred.putsF_nil, Nat.zero_add, Nat.reduceAdd, e0, e1, e2, e3, e4, e5, e6, e7, e8, e9, e10, e11, e12, e13, hg14, hg15, Act.put, List.setIfInBounds_toArray, List.set_cons_zero, List.set_cons_succ]
  clear e0 e1 e2 e3 e4 e5 e6 e7 e8 e9 e10 e11 e12 e13 hg14 hg15 hv
  obtain ⟨u, hu, ho⟩ := hS
  have L4 : Below w.heap.size w X := L0.trans hE
  go_wp2_with fail
  exact ret_tex rfl w.heap.size _ _ u rfl hu rfl ⟨⟨u, rfl, by rw [← HQ0.out]; exact ho⟩, L4⟩

/-! within -/
def withinV (n : Nat) (x y : Int) : Bool := decide (0 ≤ x ∧ 1 ≤ y ∧ x < n ∧ y ≤ n - x)
set_option maxHeartbeats 8000000 in
theorem within_any (x y : Int) (w : World) (h : Pyr w b D wr ps) :
    Calls Try.prog 45 #[.pointer (some ⟨b, 0, none⟩), .int .i64 x, .int .i64 y] w fun e w' => e = .returned (.bool (withinV (sd D) x y)) ∧ w = w' := by
  have C := Size_any (0 : Int) w h
  rw [show szE D (0 : Int) = sd D from szE_in (l := 0) (by omega)] at C
  have CC := Lib.hid C
  have hd := h.d3
  obtain ⟨n, hn⟩ : ∃ n, n = sd D := ⟨_, rfl⟩
  have hn2 : n ≤ 32 := by rw [hn]; exact sd_le (by omega)
  rw [← hn] at CC ⊢
  clear C h hn
  obtain ⟨R, hR⟩ : ∃ R, withinV n x y = R := ⟨_, rfl⟩
  rw [hR]
  by_cases h0 : 0 ≤ x
  case neg =>
    have d0 : decide (0 ≤ x) = false := decide_eq_false h0
    have hr : R = false := by rw [← hR]; exact decide_eq_false (by omega)
    subst hr
    clear hR
    go_enter Try.func45, Try.ntmps45
    go_wp2_with fail
    all_goals (go_ret; exact ⟨rfl, rfl⟩)
  have d0 : decide (0 ≤ x) = true := decide_eq_true h0
  by_cases h1 : 1 ≤ y
  case neg =>
    have d1 : decide (1 ≤ y) = false := decide_eq_false h1
    have hr : R = false := by rw [← hR]; exact decide_eq_false (by omega)
    subst hr
    clear hR
    go_enter Try.func45, Try.ntmps45
    go_wp2_with fail
    all_goals (go_ret; exact ⟨rfl, rfl⟩)
  have d1 : decide (1 ≤ y) = true := decide_eq_true h1
  by_cases h2 : x < n
  case neg =>
    have d2 : decide (x < (n : Int)) = false := decide_eq_false h2
    have hr : R = false := by rw [← hR]; exact decide_eq_false (by omega)
    subst hr
    clear hR
    go_enter Try.func45, Try.ntmps45
    go_wp2_with (go_at_call 19; refine CC.out.mono ?_; rintro e _ ⟨rfl, rfl⟩)
    all_goals (go_ret; exact ⟨rfl, rfl⟩)
  have d2 : decide (x < (n : Int)) = true := decide_eq_true h2
  have hr : R = decide (y ≤ (n : Int) - x) := by rw [← hR]; exact decide_eq_decide.2 ⟨fun h => by omega, fun h => by omega⟩
  have HR := Lib.hid hr
  clear hR hr
  go_enter Try.func45, Try.ntmps45
  go_wp2_with (go_at_call 19; refine CC.out.mono ?_; rintro e _ ⟨rfl, rfl⟩)
  go_ret
  exact ⟨by rw [HR.out]; rfl, rfl⟩
/-! copy of texels -/
theorem run_copy4 {P : Program} (w : World) (dT sT ty elem : TypeId) (g o dLen dCap : Nat) (a : Addr) (sLen sCap : Nat) (cur : Array Value) (t : TypeId) (cs : List Value)
    (hu : P.underlying dT = some (.slice elem)) (hs : (P.info? elem).map (·.size) = some 4)
    (hg : w.heap[g]? = some (.cells cur t (0, 0))) (hn : cs.length = Nat.min sLen dLen * 4)
    (hsrc : ∀ j v, cs[j]? = some v → w.cell? (a.add j) = some v) (hfit : o + cs.length ≤ cur.size) (h1 : ∀ v ∈ cs, v.oneCell' = true) :
    (Builtin.copy_ #[dT, sT] ty #[.slice (some ⟨g, o, none⟩) dLen dCap, .slice (some a) sLen sCap]).run P w =
      .ok (goInt (Nat.min sLen dLen)) (w.setRow g (cur.toList.take o ++ cs ++ cur.toList.drop (o + cs.length)).toArray) := by
  have hl := run_loadCells_list (P := P) w a cs hsrc
  have hst := run_storeCells_at P g o t cs 0 cur w hg (by simpa using hfit) h1
  cases hq : P.info? elem with
  | none => simp [hq] at hs
  | some i =>
    have hi : i.size = 4 := by simpa [hq] using hs
    simp [Builtin.copy_, run_underlying hu, Builtin.lenOf, Builtin.firstCells, sizeOf, typeInfo, hq, hi, ← hn, hl, hst]
end Go.Proofs.Ytdjiblgnealmkaa.MpF

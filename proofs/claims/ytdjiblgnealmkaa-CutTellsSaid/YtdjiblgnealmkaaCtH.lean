/-
  The law's awake.
-/
import Derived.Test.YtdjiblgnealmkaaCtG
import Derived.Test.YtdjiblgnealmkaaMpU
namespace Go.Proofs.Ytdjiblgnealmkaa.CtH
open Go.RowKit Rd Go.Proofs.Ytdjiblgnealmkaa.Row Mid DkM HueA MpM MpA MpB MpC MpD MpE MpF MpG
open MpQ MpS MpT MpU
open CtA CtB CtC CtD CtE CtF CtG
open Ints (i64s In64)
set_option linter.unusedVariables false
set_option linter.unusedSimpArgs false
set_option maxRecDepth 10000
/-- a page's texel -/
theorem pageP_at {ts : List Px} {D : Nat} {wr : Bool} {L X Y : Int} {i j : Nat} (hi : i < 6) (hj : j < 6) : at_ (pageP ts D wr L X Y) (6 * j + i) = atP ts D wr L (4 * X + ((i : Int) - 1)) (4 * Y + ((j : Int) - 1)) := by
  have h : 6 * j + i < 36 := by omega
  have e1 : (6 * j + i) % 6 = i := by omega
  have e2 : (6 * j + i) / 6 = j := by omega
  unfold at_ pageP
  rw [List.getD_eq_getElem?_getD, List.getElem?_map, List.getElem?_range h]
  simp only [Option.map_some, Option.getD_some, e1, e2]
theorem fin_len {D : Nat} {xs : List El} (h : finE D xs) : xs.length = (PgM.allV (D : Int)).length := by rw [← h, List.length_map]
/-- nothing is alike nil -/
theorem changed_none (mb D : Nat) (wr : Bool) (ts : List Px) (w : World) (hP : Pyr w mb D wr ts) :
    Calls Try.prog 36 #[.pointer none, .pointer (some ⟨mb, 0, none⟩)] w fun e w' => (∃ (xs : List El) (ad : Option Addr) (c : Nat), finE D xs ∧ e = .returned (.slice ad xs.length c) ∧ Reads w' 4 ad xs.length (itC xs) ∧ ∀ x ∈ xs, Gp ts D wr x w') ∧ Below w.heap.size w w' := by
  refine (changed_gen (fun _ => false) (.pointer none) mb D wr ts w hP (.inl rfl) (fun L P Q g c X _ _ _ => alike_nil _ L P Q _ _ _ X)).mono ?_
  rintro e w' ⟨⟨xs, ad, c, h1, h2, h3, h4⟩, hb⟩
  have hk : kp (fun _ => false) xs = xs := by simp [kp]
  rw [hk] at h2 h3
  exact ⟨⟨xs, ad, c, h1, h2, h3, h4⟩, hb⟩
/-- a pyramid is alike itself -/
theorem changed_self (mb D : Nat) (wr : Bool) (ts : List Px) (w : World) (hP : Pyr w mb D wr ts) :
    Calls Try.prog 36 #[.pointer (some ⟨mb, 0, none⟩), .pointer (some ⟨mb, 0, none⟩)] w fun e w' => (∃ (ad : Option Addr) (c : Nat), e = .returned (.slice ad 0 c)) ∧ Below w.heap.size w w' := by
  refine (changed_gen (fun _ => true) _ mb D wr ts w hP (.inr ⟨mb, rfl⟩) ?_).mono ?_
  · intro L P Q g c X hv hb hG
    obtain ⟨L', P', Q', he, -, ho⟩ := hG
    injection he with e1 he; injection he with e2 he; injection he with e3 he
    subst e1; subst e2; subst e3
    have hPX := hP.below hb
    have h := alike_any mb mb D wr wr ts ts L P Q ⟨g, 0, none⟩ c X hPX hPX hv (Reads.of_owns ho)
    rw [eqB_self] at h
    exact h
  rintro e w' ⟨⟨xs, ad, c, h1, h2, h3, h4⟩, hb⟩
  have hk : kp (fun _ => true) xs = [] := by simp [kp]
  rw [hk] at h2
  exact ⟨⟨ad, c, h2⟩, hb⟩
theorem col_here {W : World} {g : Nat} {p : Px} {t : TypeId} {fr : Nat × Nat} (h : blk W g = some (.cells p.c t fr)) : (loadRow 39 (.pointer (some ⟨g, 0, none⟩))).run Try.prog W = .ok p.v W := by
  rw [CtB.run_load_col, rowLoad_eq, h]
  simp [Px.c_size]
attribute [local go_sem ↓] load_tex store_tex load_col store_col alloc_col
attribute [local go_sem] eq_px px_self Px.c_size Px.c_all c_all4 fold_px run_load_tex run_store_tex run_alloc_col run_store_col rowStore_eq rowLoad_eq one_int one_bool one_sl blk_alloc_at blk_alloc_old blk_drew blk_drewN blk_grow setRow_alloc_at setRow_alloc_old setRow_drew setRow_drewN
set_option maxHeartbeats 8000000 in
theorem awake_any (w : World) : Calls Try.prog 27 #[] w fun e w' => e = .returned (.bool true) ∧ Below w.heap.size w w' := by
  go_enter Try.func27, Try.ntmps27
  go_wp2_with fail
  refine (Paint_any 0 true _ 1 1 [2] _ (by omega) (by omega) (one_int2 w 2 _) (by intro z hz; simp at hz; subst hz; exact ⟨by decide, by decide⟩) (by omega)).mono ?_
  rintro e w1 ⟨⟨D, u, ts, hD, hD3, rfl, hts, hRB, hou⟩, hb1⟩
  have L1 : Below w.heap.size w w1 := by repeat' (first | (with_reducible exact Below.refl _ _) | (with_reducible refine Rd.below_step ?_ (by assumption)) | (with_reducible refine Rd.below_alloc ?_ _) | (with_reducible refine Rd.below_drewN ?_ _) | (with_reducible refine Below.drew ?_) | (with_reducible refine Below.setCell ?_ ?_ _) | (with_reducible refine Rd.below_setRow ?_ ?_ _) | go_size | (simp only [World.size_alloc]; omega) | omega)
  have s1 := L1.size
  have hD0 : D = 0 := by omega
  obtain ⟨q, hq⟩ : ∃ q, q = sd D * sd D := ⟨_, rfl⟩
  have hq1 : q = 16 := by rw [hq, hD0]; rfl
  rw [← hq] at hou hts
  obtain ⟨g, cap, rfl, hg0, hg1, hgc, hgm, -⟩ := owns_pos hou (by omega)
  have HQ := Lib.hid hq
  have HD := Lib.hid hD0
  have hRd := Reads.of_owns hou
  clear hD hq hb1 hou hD0 hq1 hts
  go_wp2_with fail
  refine (Build_any true ⟨g, 0, none⟩ q cap _ hRd hD3 HQ.out hRB).mono ?_
  rintro e w2 ⟨⟨b, rfl, hb2lo, hP⟩, hb2⟩
  have L2 : Below w.heap.size w w2 := by repeat' (first | (with_reducible exact Below.refl _ _) | (with_reducible refine Rd.below_step ?_ (by assumption)) | (with_reducible refine Rd.below_alloc ?_ _) | (with_reducible refine Rd.below_drewN ?_ _) | (with_reducible refine Below.drew ?_) | (with_reducible refine Below.setCell ?_ ?_ _) | (with_reducible refine Rd.below_setRow ?_ ?_ _) | go_size | (simp only [World.size_alloc]; omega) | omega)
  clear hRd L1 s1 hb2 hb2lo
  go_wp2_with fail
  refine (Page_any 0 0 0 w2 hP (by rw [HD.out]; decide)).mono ?_
  rintro e w3 ⟨⟨u3, rfl, ho3⟩, hb3⟩
  obtain ⟨g3, cap3, rfl, -, -, hc3, -, -⟩ := owns_pos ho3 (by omega)
  have hR3 : Reads w3 1 (some ⟨g3, 0, none⟩) 144 (cp (pageP ts D true 0 0 0)) := by rw [cp_fb]; exact Reads.of_owns ho3
  have hP3 := hP.below hb3
  have L3 : Below w.heap.size w w3 := L2.trans (hb3.mono L2.size)
  clear ho3 hP hb3 L2
  go_wp2_with fail
  refine (Page_no 0 1 0 w3 hP3 (by rw [HD.out]; decide)).mono ?_
  rintro e w4 ⟨rfl, hb4⟩
  have hP4 := hP3.below hb4
  have hR4 := hR3.below hb4 (Nat.le_refl _)
  have L4 : Below w.heap.size w w4 := L3.trans (hb4.mono L3.size)
  clear hP3 hR3 hb4 L3
  obtain ⟨p, hp⟩ : ∃ p, atP ts D true 0 3 0 = p := ⟨_, rfl⟩
  have hpB : p.B := by rw [← hp]; exact atP_B hRB _ _ _ _ _
  have E1 : at_ (pageP ts D true 0 0 0) (6 * 1 + 0) = p := by
    rw [pageP_at (by omega) (by omega), ← hp, HD.out]
    exact Eq.trans (atP_in (l := 0) (by omega)) (Eq.trans (congrArg _ (by decide)) (atP_in (l := 0) (by omega)).symm)
  have CT := Lib.hid fun X hX => (E1 ▸ Texel_any g3 0 cap3 (pageP ts D true 0 0 0) 0 1 X hX hc3 (pageP_len 0 0 0) (by omega) (by omega) : Calls Try.prog 30 #[.slice (some ⟨g3, 0, none⟩) 144 cap3, .int .i64 (-1), .int .i64 0] X fun e w' => e = .returned (.tuple #[p.v, .bool true]) ∧ Below X.heap.size X w')
  clear E1
  go_wp2_with fail
  refine (CT.out w4 hR4).mono ?_
  rintro e w5 ⟨rfl, hb5⟩
  have hP5 := hP4.below hb5
  have L5 : Below w.heap.size w w5 := L4.trans (hb5.mono L4.size)
  have hB5 := (Below.refl w5.heap.size w5).alloc (Nat.le_refl _) (.cells p.c 39)
  have hC5 : blk (w5.alloc (.cells p.c 39)) w5.heap.size = some (.cells p.c 39 (0, 0)) := blk_alloc_at _ _ _ rfl
  clear CT hP4 hR4 hb5 L4
  go_wp2_with fail
  refine (Texel_no _ 144 cap3 5 0 _ (.inr (.inl (by omega))) (by omega)).mono ?_
  rintro e w6 ⟨rfl, hb6⟩
  have hb56 : Below w5.heap.size w5 w6 := hB5.trans (hb6.mono (by simp))
  have hC6 := bd_keep hC5 hb6
  have hP6 := hP5.below hb56
  have L6 : Below w.heap.size w w6 := L5.trans (hb56.mono L5.size)
  clear hP5 hb56 hb6 hC5 hB5
  have CA := Lib.hid fun X (hX : Pyr X b D true ts) => (hp ▸ At_any 0 3 0 X hX ⟨by decide, by decide⟩ ⟨by decide, by decide⟩ : Calls Try.prog _ _ X fun e w' => e = .returned p.v ∧ Below X.heap.size X w')
  have CL := Lib.hid fun X (hX : Pyr X b D true ts) => ((lall_any b D true ts X hX).mono (fun e w' ⟨⟨xs, ad, c, h1, h2, h3, h4⟩, hb⟩ => ⟨⟨ad, c, by rw [h2, fin_len h1, HD.out]; rfl⟩, hb⟩) : Calls Try.prog 35 #[.pointer (some ⟨b, 0, none⟩), .int .i64 (-1)] X fun e w' => (∃ (ad : Option Addr) (c : Nat), e = .returned (.slice ad 1 c)) ∧ Below X.heap.size X w')
  have CN := Lib.hid fun X (hX : Pyr X b D true ts) => ((changed_none b D true ts X hX).mono (fun e w' ⟨⟨xs, ad, c, h1, h2, h3, h4⟩, hb⟩ => ⟨⟨ad, c, by rw [h2, fin_len h1, HD.out]; rfl⟩, hb⟩) : Calls Try.prog 36 #[.pointer none, .pointer (some ⟨b, 0, none⟩)] X fun e w' => (∃ (ad : Option Addr) (c : Nat), e = .returned (.slice ad 1 c)) ∧ Below X.heap.size X w')
  clear hp
  go_upto_region 8 with (fail)
  refine Rd.name_world ?_
  intro W hW
  have L7 : Below w.heap.size w W := by rw [hW]; repeat' (first | (with_reducible exact Below.refl _ _) | (with_reducible refine Rd.below_step ?_ (by assumption)) | (with_reducible refine Rd.below_alloc ?_ _) | (with_reducible refine Rd.below_drewN ?_ _) | (with_reducible refine Below.drew ?_) | (with_reducible refine Below.setCell ?_ ?_ _) | (with_reducible refine Rd.below_setRow ?_ ?_ _) | go_size | (simp only [World.size_alloc]; omega) | omega)
  have B7 : Below w6.heap.size w6 W := by rw [hW]; repeat' (first | (with_reducible exact Below.refl _ _) | (with_reducible refine Rd.below_step ?_ (by assumption)) | (with_reducible refine Rd.below_alloc ?_ _) | (with_reducible refine Rd.below_drewN ?_ _) | (with_reducible refine Below.drew ?_) | (with_reducible refine Below.setCell ?_ ?_ _) | (with_reducible refine Rd.below_setRow ?_ ?_ _) | go_size | (simp only [World.size_alloc]; omega) | omega)
  have hPW := hP6.below B7
  have bC := (blk_below B7 _ (blk_lt hC6)).trans hC6
  have lC := blk_lt bC
  clear hW hP6 hC6 B7 L6 L5
  refine PredT.region_of (W := W) (W.heap.size) (Nat.le_refl _) [] [
      fun _ => True] [
      PredT.At 0 (.int .i64 0),
      PredT.At 0 (.bool true),
      PredT.At 0 (.bool true),
      PredT.At 0 (.slice (some ⟨g3, 0, none⟩) 144 cap3),
      PredT.At 0 (.int .i64 144),
      PredT.At 0 (.bool true),
      PredT.At 0 (.bool true),
      PredT.At 0 (.bool true),
      PredT.At 0 (.int .i64 1),
      PredT.At 0 (.bool true),
      PredT.At 0 (.bool true),
      PredT.At 0 (.bool true),
      PredT.At 0 (.bool true),
      PredT.At 0 (.bool true),
      PredT.At 0 (.bool true),
      PredT.At 0 (p.v),
      PredT.At 0 (.pointer (some ⟨b, 0, none⟩)),
      PredT.At 0 (p.v),
      PredT.At 0 (.bool true),
      PredT.At 0 (.bool true),
      PredT.At 0 (.bool true),
      PredT.At 0 (.bool false),
      PredT.At 0 (.bool true),
      PredT.At 0 (.bool true),
      PredT.At 0 (.bool true),
      PredT.At 0 (.pointer (some ⟨b, 0, none⟩)),
      PredT.Len 0 (1),
      PredT.At 0 (.int .i64 1),
      PredT.At 0 (.bool true),
      PredT.At 0 (.bool true),
      PredT.At 0 (.bool true),
      PredT.At 0 (.pointer (some ⟨b, 0, none⟩)),
      PredT.Len 0 (1),
      PredT.At 0 (.int .i64 1),
      PredT.At 0 (.bool true),
      PredT.At 0 (.bool true),
      PredT.At 0 (.bool true),
      PredT.At 0 (.pointer (some ⟨b, 0, none⟩)),
      PredT.At 0 (.pointer (some ⟨b, 0, none⟩)),
      PredT.Len 0 (0),
      PredT.At 0 (.int .i64 0),
      PredT.At 0 (.bool true),
      PredT.At 0 (.bool true),
      PredT.At 0 (.bool true),
      PredT.Len 0 (0),
      PredT.At 0 (.int .i64 0),
      PredT.At 0 (.bool true),
      PredT.At 0 (.bool true),
      PredT.At 0 (.bool true)] (by kernel_rfl) (by kernel_rfl) (by kernel_rfl) (by decide) (by decide) ?_ ?_ ?_ ?_ ?_ ?_
  · exact ⟨PredT.at_stab _ _ _ _, PredT.at_stab _ _ _ _, PredT.at_stab _ _ _ _, PredT.at_stab _ _ _ _, PredT.at_stab _ _ _ _, PredT.at_stab _ _ _ _, PredT.at_stab _ _ _ _, PredT.at_stab _ _ _ _, PredT.at_stab _ _ _ _, PredT.at_stab _ _ _ _, PredT.at_stab _ _ _ _, PredT.at_stab _ _ _ _, PredT.at_stab _ _ _ _, PredT.at_stab _ _ _ _, PredT.at_stab _ _ _ _, PredT.at_stab _ _ _ _, PredT.at_stab _ _ _ _, PredT.at_stab _ _ _ _, PredT.at_stab _ _ _ _, PredT.at_stab _ _ _ _, PredT.at_stab _ _ _ _, PredT.at_stab _ _ _ _, PredT.at_stab _ _ _ _, PredT.at_stab _ _ _ _, PredT.at_stab _ _ _ _, PredT.at_stab _ _ _ _, PredT.len_stab _ _ _ _, PredT.at_stab _ _ _ _, PredT.at_stab _ _ _ _, PredT.at_stab _ _ _ _, PredT.at_stab _ _ _ _, PredT.at_stab _ _ _ _, PredT.len_stab _ _ _ _, PredT.at_stab _ _ _ _, PredT.at_stab _ _ _ _, PredT.at_stab _ _ _ _, PredT.at_stab _ _ _ _, PredT.at_stab _ _ _ _, PredT.at_stab _ _ _ _, PredT.len_stab _ _ _ _, PredT.at_stab _ _ _ _, PredT.at_stab _ _ _ _, PredT.at_stab _ _ _ _, PredT.at_stab _ _ _ _, PredT.len_stab _ _ _ _, PredT.at_stab _ _ _ _, PredT.at_stab _ _ _ _, PredT.at_stab _ _ _ _, PredT.at_stab _ _ _ _, trivial⟩
  · intro q hq
    rcases List.mem_cons.1 hq with rfl | hq
    · exact fun _ _ h _ => trivial
    cases hq
  · exact trivial
  · refine ⟨.inr ?_, .inr ?_, .inr ?_, .inr ?_, .inr ?_, .inr ?_, .inr ?_, .inr ?_, .inr ?_, .inr ?_, .inr ?_, .inr ?_, .inr ?_, .inr ?_, .inr ?_, .inr ?_, .inr ?_, .inr ?_, .inr ?_, .inr ?_, .inr ?_, .inr ?_, .inr ?_, .inr ?_, .inr ?_, .inr ?_, .inr ?_, .inr ?_, .inr ?_, .inr ?_, .inr ?_, .inr ?_, .inr ?_, .inr ?_, .inr ?_, .inr ?_, .inr ?_, .inr ?_, .inr ?_, .inr ?_, .inr ?_, .inr ?_, .inr ?_, .inr ?_, .inr ?_, .inr ?_, .inr ?_, .inr ?_, .inr ?_, trivial⟩
    · intro b9 X ph hE hd hn hS hV hI hF
      have r4 : b9.tmps[4]?.getD undef = .int .i64 0 := (hn 4 (by kernel_rfl)).trans rfl
      exact Pred.yields_run (v := .int .i64 0) (Pred.wanted_none rfl) (by go_simp) ⟨Below.refl _ _, rfl, Nat.zero_le _⟩
    · intro b9 X ph hE hd hn hS hV hI hF
      obtain ⟨r45, j45⟩ : PredT.At 0 (.int .i64 0) (b9.tmps[45]?.getD undef) X ph := hV 0 _ 45 rfl rfl (Pred.waits_near (by kernel_rfl) (by kernel_rfl))
      exact Pred.yields_run (v := .bool true) (Pred.wanted_none rfl) (by go_simp) ⟨Below.refl _ _, rfl, Nat.zero_le _⟩
    · intro b9 X ph hE hd hn hS hV hI hF
      obtain ⟨r46, j46⟩ : PredT.At 0 (.bool true) (b9.tmps[46]?.getD undef) X ph := hV 1 _ 46 rfl rfl (Pred.waits_near (by kernel_rfl) (by kernel_rfl))
      exact Pred.yields_run (v := .bool true) (Pred.wanted_none rfl) (by go_simp) ⟨Below.refl _ _, rfl, Nat.zero_le _⟩
    · intro b9 X ph hE hd hn hS hV hI hF
      have r3 : b9.tmps[3]?.getD undef = .slice (some ⟨g3, 0, none⟩) 144 cap3 := (hn 3 (by kernel_rfl)).trans rfl
      obtain ⟨r47, j47⟩ : PredT.At 0 (.bool true) (b9.tmps[47]?.getD undef) X ph := hV 2 _ 47 rfl rfl (Pred.waits_near (by kernel_rfl) (by kernel_rfl))
      exact Pred.yields_run (v := .slice (some ⟨g3, 0, none⟩) 144 cap3) ((Pred.wanted_at (g := 2) (d := 47) (f := true) rfl rfl r47).trans rfl) (by go_simp) ⟨Below.refl _ _, rfl, Nat.zero_le _⟩
    · intro b9 X ph hE hd hn hS hV hI hF
      obtain ⟨r48, j48⟩ : PredT.At 0 (.slice (some ⟨g3, 0, none⟩) 144 cap3) (b9.tmps[48]?.getD undef) X ph := hV 3 _ 48 rfl rfl (Pred.waits_near (by kernel_rfl) (by kernel_rfl))
      obtain ⟨r47, j47⟩ : PredT.At 0 (.bool true) (b9.tmps[47]?.getD undef) X ph := hV 2 _ 47 rfl rfl (Pred.waits_near (by kernel_rfl) (by kernel_rfl))
      exact Pred.yields_run (v := .int .i64 144) ((Pred.wanted_at (g := 2) (d := 47) (f := true) rfl rfl r47).trans rfl) (by go_simp) ⟨Below.refl _ _, rfl, Nat.zero_le _⟩
    · intro b9 X ph hE hd hn hS hV hI hF
      obtain ⟨r49, j49⟩ : PredT.At 0 (.int .i64 144) (b9.tmps[49]?.getD undef) X ph := hV 4 _ 49 rfl rfl (Pred.waits_near (by kernel_rfl) (by kernel_rfl))
      obtain ⟨r47, j47⟩ : PredT.At 0 (.bool true) (b9.tmps[47]?.getD undef) X ph := hV 2 _ 47 rfl rfl (Pred.waits_near (by kernel_rfl) (by kernel_rfl))
      exact Pred.yields_run (v := .bool true) ((Pred.wanted_at (g := 2) (d := 47) (f := true) rfl rfl r47).trans rfl) (by go_simp) ⟨Below.refl _ _, rfl, Nat.zero_le _⟩
    · intro b9 X ph hE hd hn hS hV hI hF
      obtain ⟨r47, j47⟩ : PredT.At 0 (.bool true) (b9.tmps[47]?.getD undef) X ph := hV 2 _ 47 rfl rfl (Pred.waits_near (by kernel_rfl) (by kernel_rfl))
      obtain ⟨r50, j50⟩ : PredT.At 0 (.bool true) (b9.tmps[50]?.getD undef) X ph := hV 5 _ 50 rfl rfl (Pred.waits_near (by kernel_rfl) (by kernel_rfl))
      exact Pred.yields_run (v := .bool true) (Pred.wanted_none rfl) (by go_simp) ⟨Below.refl _ _, rfl, Nat.zero_le _⟩
    · intro b9 X ph hE hd hn hS hV hI hF
      obtain ⟨r51, j51⟩ : PredT.At 0 (.bool true) (b9.tmps[51]?.getD undef) X ph := hV 6 _ 51 rfl rfl (Pred.waits_near (by kernel_rfl) (by kernel_rfl))
      exact Pred.yields_run (v := .bool true) (Pred.wanted_none rfl) (by go_simp) ⟨Below.refl _ _, rfl, Nat.zero_le _⟩
    · intro b9 X ph hE hd hn hS hV hI hF
      have r6 : b9.tmps[6]?.getD undef = .int .i64 1 := (hn 6 (by kernel_rfl)).trans rfl
      obtain ⟨r52, j52⟩ : PredT.At 0 (.bool true) (b9.tmps[52]?.getD undef) X ph := hV 7 _ 52 rfl rfl (Pred.waits_near (by kernel_rfl) (by kernel_rfl))
      exact Pred.yields_run (v := .int .i64 1) ((Pred.wanted_at (g := 7) (d := 52) (f := true) rfl rfl r52).trans rfl) (by go_simp) ⟨Below.refl _ _, rfl, Nat.zero_le _⟩
    · intro b9 X ph hE hd hn hS hV hI hF
      obtain ⟨r53, j53⟩ : PredT.At 0 (.int .i64 1) (b9.tmps[53]?.getD undef) X ph := hV 8 _ 53 rfl rfl (Pred.waits_near (by kernel_rfl) (by kernel_rfl))
      obtain ⟨r52, j52⟩ : PredT.At 0 (.bool true) (b9.tmps[52]?.getD undef) X ph := hV 7 _ 52 rfl rfl (Pred.waits_near (by kernel_rfl) (by kernel_rfl))
      exact Pred.yields_run (v := .bool true) ((Pred.wanted_at (g := 7) (d := 52) (f := true) rfl rfl r52).trans rfl) (by go_simp) ⟨Below.refl _ _, rfl, Nat.zero_le _⟩
    · intro b9 X ph hE hd hn hS hV hI hF
      obtain ⟨r52, j52⟩ : PredT.At 0 (.bool true) (b9.tmps[52]?.getD undef) X ph := hV 7 _ 52 rfl rfl (Pred.waits_near (by kernel_rfl) (by kernel_rfl))
      obtain ⟨r54, j54⟩ : PredT.At 0 (.bool true) (b9.tmps[54]?.getD undef) X ph := hV 9 _ 54 rfl rfl (Pred.waits_near (by kernel_rfl) (by kernel_rfl))
      exact Pred.yields_run (v := .bool true) (Pred.wanted_none rfl) (by go_simp) ⟨Below.refl _ _, rfl, Nat.zero_le _⟩
    · intro b9 X ph hE hd hn hS hV hI hF
      obtain ⟨r55, j55⟩ : PredT.At 0 (.bool true) (b9.tmps[55]?.getD undef) X ph := hV 10 _ 55 rfl rfl (Pred.waits_near (by kernel_rfl) (by kernel_rfl))
      exact Pred.yields_run (v := .bool true) (Pred.wanted_none rfl) (by go_simp) ⟨Below.refl _ _, rfl, Nat.zero_le _⟩
    · intro b9 X ph hE hd hn hS hV hI hF
      have r8 : b9.tmps[8]?.getD undef = .bool true := (hn 8 (by kernel_rfl)).trans rfl
      obtain ⟨r56, j56⟩ : PredT.At 0 (.bool true) (b9.tmps[56]?.getD undef) X ph := hV 11 _ 56 rfl rfl (Pred.waits_near (by kernel_rfl) (by kernel_rfl))
      exact Pred.yields_run (v := .bool true) ((Pred.wanted_at (g := 11) (d := 56) (f := true) rfl rfl r56).trans rfl) (by go_simp) ⟨Below.refl _ _, rfl, Nat.zero_le _⟩
    · intro b9 X ph hE hd hn hS hV hI hF
      obtain ⟨r56, j56⟩ : PredT.At 0 (.bool true) (b9.tmps[56]?.getD undef) X ph := hV 11 _ 56 rfl rfl (Pred.waits_near (by kernel_rfl) (by kernel_rfl))
      obtain ⟨r57, j57⟩ : PredT.At 0 (.bool true) (b9.tmps[57]?.getD undef) X ph := hV 12 _ 57 rfl rfl (Pred.waits_near (by kernel_rfl) (by kernel_rfl))
      exact Pred.yields_run (v := .bool true) (Pred.wanted_none rfl) (by go_simp) ⟨Below.refl _ _, rfl, Nat.zero_le _⟩
    · intro b9 X ph hE hd hn hS hV hI hF
      obtain ⟨r58, j58⟩ : PredT.At 0 (.bool true) (b9.tmps[58]?.getD undef) X ph := hV 13 _ 58 rfl rfl (Pred.waits_near (by kernel_rfl) (by kernel_rfl))
      exact Pred.yields_run (v := .bool true) (Pred.wanted_none rfl) (by go_simp) ⟨Below.refl _ _, rfl, Nat.zero_le _⟩
    · intro b9 X ph hE hd hn hS hV hI hF
      have r7 : b9.tmps[7]?.getD undef = .pointer (some ⟨w5.heap.size, 0, none⟩) := (hn 7 (by kernel_rfl)).trans rfl
      obtain ⟨r59, j59⟩ : PredT.At 0 (.bool true) (b9.tmps[59]?.getD undef) X ph := hV 14 _ 59 rfl rfl (Pred.waits_near (by kernel_rfl) (by kernel_rfl))
      have hld := col_here ((blk_below hE _ lC).trans bC)
      exact Pred.yields_run (v := p.v) ((Pred.wanted_at (g := 14) (d := 59) (f := true) rfl rfl r59).trans rfl) (by go_simp) ⟨Below.refl _ _, rfl, Nat.zero_le _⟩
    · intro b9 X ph hE hd hn hS hV hI hF
      have r1 : b9.tmps[1]?.getD undef = .pointer (some ⟨b, 0, none⟩) := (hn 1 (by kernel_rfl)).trans rfl
      obtain ⟨r59, j59⟩ : PredT.At 0 (.bool true) (b9.tmps[59]?.getD undef) X ph := hV 14 _ 59 rfl rfl (Pred.waits_near (by kernel_rfl) (by kernel_rfl))
      exact Pred.yields_run (v := .pointer (some ⟨b, 0, none⟩)) ((Pred.wanted_at (g := 14) (d := 59) (f := true) rfl rfl r59).trans rfl) (by go_simp) ⟨Below.refl _ _, rfl, Nat.zero_le _⟩
    · intro b9 X ph hE hd hn hS hV hI hF
      obtain ⟨r61, j61⟩ : PredT.At 0 (.pointer (some ⟨b, 0, none⟩)) (b9.tmps[61]?.getD undef) X ph := hV 16 _ 61 rfl rfl (Pred.waits_near (by kernel_rfl) (by kernel_rfl))
      obtain ⟨r59, j59⟩ : PredT.At 0 (.bool true) (b9.tmps[59]?.getD undef) X ph := hV 14 _ 59 rfl rfl (Pred.waits_near (by kernel_rfl) (by kernel_rfl))
      refine Pred.yields_call (f := 17) (args := #[.pointer (some ⟨b, 0, none⟩), .int .i64 0, .int .i64 3, .int .i64 0]) ((Pred.wanted_at (g := 14) (d := 59) (f := true) rfl rfl r59).trans rfl) (by go_simp) ?_
      refine (CA.out X (hPW.below hE)).mono ?_
      rintro e w9 ⟨rfl, hb⟩
      exact ⟨_, rfl, hb, rfl, Nat.zero_le _⟩
    · intro b9 X ph hE hd hn hS hV hI hF
      obtain ⟨r60, j60⟩ : PredT.At 0 (p.v) (b9.tmps[60]?.getD undef) X ph := hV 15 _ 60 rfl rfl (Pred.waits_near (by kernel_rfl) (by kernel_rfl))
      obtain ⟨r62, j62⟩ : PredT.At 0 (p.v) (b9.tmps[62]?.getD undef) X ph := hV 17 _ 62 rfl rfl (Pred.waits_near (by kernel_rfl) (by kernel_rfl))
      obtain ⟨r59, j59⟩ : PredT.At 0 (.bool true) (b9.tmps[59]?.getD undef) X ph := hV 14 _ 59 rfl rfl (Pred.waits_near (by kernel_rfl) (by kernel_rfl))
      exact Pred.yields_run (v := .bool true) ((Pred.wanted_at (g := 14) (d := 59) (f := true) rfl rfl r59).trans rfl) (by go_simp) ⟨Below.refl _ _, rfl, Nat.zero_le _⟩
    · intro b9 X ph hE hd hn hS hV hI hF
      obtain ⟨r59, j59⟩ : PredT.At 0 (.bool true) (b9.tmps[59]?.getD undef) X ph := hV 14 _ 59 rfl rfl (Pred.waits_near (by kernel_rfl) (by kernel_rfl))
      obtain ⟨r63, j63⟩ : PredT.At 0 (.bool true) (b9.tmps[63]?.getD undef) X ph := hV 18 _ 63 rfl rfl (Pred.waits_near (by kernel_rfl) (by kernel_rfl))
      exact Pred.yields_run (v := .bool true) (Pred.wanted_none rfl) (by go_simp) ⟨Below.refl _ _, rfl, Nat.zero_le _⟩
    · intro b9 X ph hE hd hn hS hV hI hF
      obtain ⟨r64, j64⟩ : PredT.At 0 (.bool true) (b9.tmps[64]?.getD undef) X ph := hV 19 _ 64 rfl rfl (Pred.waits_near (by kernel_rfl) (by kernel_rfl))
      exact Pred.yields_run (v := .bool true) (Pred.wanted_none rfl) (by go_simp) ⟨Below.refl _ _, rfl, Nat.zero_le _⟩
    · intro b9 X ph hE hd hn hS hV hI hF
      have r10 : b9.tmps[10]?.getD undef = .bool false := (hn 10 (by kernel_rfl)).trans rfl
      obtain ⟨r65, j65⟩ : PredT.At 0 (.bool true) (b9.tmps[65]?.getD undef) X ph := hV 20 _ 65 rfl rfl (Pred.waits_near (by kernel_rfl) (by kernel_rfl))
      exact Pred.yields_run (v := .bool false) ((Pred.wanted_at (g := 20) (d := 65) (f := true) rfl rfl r65).trans rfl) (by go_simp) ⟨Below.refl _ _, rfl, Nat.zero_le _⟩
    · intro b9 X ph hE hd hn hS hV hI hF
      obtain ⟨r66, j66⟩ : PredT.At 0 (.bool false) (b9.tmps[66]?.getD undef) X ph := hV 21 _ 66 rfl rfl (Pred.waits_near (by kernel_rfl) (by kernel_rfl))
      obtain ⟨r65, j65⟩ : PredT.At 0 (.bool true) (b9.tmps[65]?.getD undef) X ph := hV 20 _ 65 rfl rfl (Pred.waits_near (by kernel_rfl) (by kernel_rfl))
      exact Pred.yields_run (v := .bool true) ((Pred.wanted_at (g := 20) (d := 65) (f := true) rfl rfl r65).trans rfl) (by go_simp) ⟨Below.refl _ _, rfl, Nat.zero_le _⟩
    · intro b9 X ph hE hd hn hS hV hI hF
      obtain ⟨r65, j65⟩ : PredT.At 0 (.bool true) (b9.tmps[65]?.getD undef) X ph := hV 20 _ 65 rfl rfl (Pred.waits_near (by kernel_rfl) (by kernel_rfl))
      obtain ⟨r67, j67⟩ : PredT.At 0 (.bool true) (b9.tmps[67]?.getD undef) X ph := hV 22 _ 67 rfl rfl (Pred.waits_near (by kernel_rfl) (by kernel_rfl))
      exact Pred.yields_run (v := .bool true) (Pred.wanted_none rfl) (by go_simp) ⟨Below.refl _ _, rfl, Nat.zero_le _⟩
    · intro b9 X ph hE hd hn hS hV hI hF
      obtain ⟨r68, j68⟩ : PredT.At 0 (.bool true) (b9.tmps[68]?.getD undef) X ph := hV 23 _ 68 rfl rfl (Pred.waits_near (by kernel_rfl) (by kernel_rfl))
      exact Pred.yields_run (v := .bool true) (Pred.wanted_none rfl) (by go_simp) ⟨Below.refl _ _, rfl, Nat.zero_le _⟩
    · intro b9 X ph hE hd hn hS hV hI hF
      have r1 : b9.tmps[1]?.getD undef = .pointer (some ⟨b, 0, none⟩) := (hn 1 (by kernel_rfl)).trans rfl
      obtain ⟨r69, j69⟩ : PredT.At 0 (.bool true) (b9.tmps[69]?.getD undef) X ph := hV 24 _ 69 rfl rfl (Pred.waits_near (by kernel_rfl) (by kernel_rfl))
      exact Pred.yields_run (v := .pointer (some ⟨b, 0, none⟩)) ((Pred.wanted_at (g := 24) (d := 69) (f := true) rfl rfl r69).trans rfl) (by go_simp) ⟨Below.refl _ _, rfl, Nat.zero_le _⟩
    · intro b9 X ph hE hd hn hS hV hI hF
      obtain ⟨r70, j70⟩ : PredT.At 0 (.pointer (some ⟨b, 0, none⟩)) (b9.tmps[70]?.getD undef) X ph := hV 25 _ 70 rfl rfl (Pred.waits_near (by kernel_rfl) (by kernel_rfl))
      obtain ⟨r69, j69⟩ : PredT.At 0 (.bool true) (b9.tmps[69]?.getD undef) X ph := hV 24 _ 69 rfl rfl (Pred.waits_near (by kernel_rfl) (by kernel_rfl))
      refine Pred.yields_call (f := 35) (args := #[.pointer (some ⟨b, 0, none⟩), .int .i64 (-1)]) ((Pred.wanted_at (g := 24) (d := 69) (f := true) rfl rfl r69).trans rfl) (by go_simp) ?_
      refine (CL.out X (hPW.below hE)).mono ?_
      rintro e w9 ⟨⟨ad, c, rfl⟩, hb⟩
      exact ⟨_, rfl, hb, ⟨ad, c, rfl⟩, Nat.zero_le _⟩
    · intro b9 X ph hE hd hn hS hV hI hF
      obtain ⟨⟨a71, c71, r71⟩, j71⟩ : PredT.Len 0 (1) (b9.tmps[71]?.getD undef) X ph := hV 26 _ 71 rfl rfl (Pred.waits_near (by kernel_rfl) (by kernel_rfl))
      obtain ⟨r69, j69⟩ : PredT.At 0 (.bool true) (b9.tmps[69]?.getD undef) X ph := hV 24 _ 69 rfl rfl (Pred.waits_near (by kernel_rfl) (by kernel_rfl))
      exact Pred.yields_run (v := .int .i64 1) ((Pred.wanted_at (g := 24) (d := 69) (f := true) rfl rfl r69).trans rfl) (by go_simp) ⟨Below.refl _ _, rfl, Nat.zero_le _⟩
    · intro b9 X ph hE hd hn hS hV hI hF
      obtain ⟨r72, j72⟩ : PredT.At 0 (.int .i64 1) (b9.tmps[72]?.getD undef) X ph := hV 27 _ 72 rfl rfl (Pred.waits_near (by kernel_rfl) (by kernel_rfl))
      obtain ⟨r69, j69⟩ : PredT.At 0 (.bool true) (b9.tmps[69]?.getD undef) X ph := hV 24 _ 69 rfl rfl (Pred.waits_near (by kernel_rfl) (by kernel_rfl))
      exact Pred.yields_run (v := .bool true) ((Pred.wanted_at (g := 24) (d := 69) (f := true) rfl rfl r69).trans rfl) (by go_simp) ⟨Below.refl _ _, rfl, Nat.zero_le _⟩
    · intro b9 X ph hE hd hn hS hV hI hF
      obtain ⟨r69, j69⟩ : PredT.At 0 (.bool true) (b9.tmps[69]?.getD undef) X ph := hV 24 _ 69 rfl rfl (Pred.waits_near (by kernel_rfl) (by kernel_rfl))
      obtain ⟨r73, j73⟩ : PredT.At 0 (.bool true) (b9.tmps[73]?.getD undef) X ph := hV 28 _ 73 rfl rfl (Pred.waits_near (by kernel_rfl) (by kernel_rfl))
      exact Pred.yields_run (v := .bool true) (Pred.wanted_none rfl) (by go_simp) ⟨Below.refl _ _, rfl, Nat.zero_le _⟩
    · intro b9 X ph hE hd hn hS hV hI hF
      obtain ⟨r74, j74⟩ : PredT.At 0 (.bool true) (b9.tmps[74]?.getD undef) X ph := hV 29 _ 74 rfl rfl (Pred.waits_near (by kernel_rfl) (by kernel_rfl))
      exact Pred.yields_run (v := .bool true) (Pred.wanted_none rfl) (by go_simp) ⟨Below.refl _ _, rfl, Nat.zero_le _⟩
    · intro b9 X ph hE hd hn hS hV hI hF
      have r1 : b9.tmps[1]?.getD undef = .pointer (some ⟨b, 0, none⟩) := (hn 1 (by kernel_rfl)).trans rfl
      obtain ⟨r75, j75⟩ : PredT.At 0 (.bool true) (b9.tmps[75]?.getD undef) X ph := hV 30 _ 75 rfl rfl (Pred.waits_near (by kernel_rfl) (by kernel_rfl))
      exact Pred.yields_run (v := .pointer (some ⟨b, 0, none⟩)) ((Pred.wanted_at (g := 30) (d := 75) (f := true) rfl rfl r75).trans rfl) (by go_simp) ⟨Below.refl _ _, rfl, Nat.zero_le _⟩
    · intro b9 X ph hE hd hn hS hV hI hF
      obtain ⟨r76, j76⟩ : PredT.At 0 (.pointer (some ⟨b, 0, none⟩)) (b9.tmps[76]?.getD undef) X ph := hV 31 _ 76 rfl rfl (Pred.waits_near (by kernel_rfl) (by kernel_rfl))
      obtain ⟨r75, j75⟩ : PredT.At 0 (.bool true) (b9.tmps[75]?.getD undef) X ph := hV 30 _ 75 rfl rfl (Pred.waits_near (by kernel_rfl) (by kernel_rfl))
      refine Pred.yields_call (f := 36) (args := #[.pointer none, .pointer (some ⟨b, 0, none⟩)]) ((Pred.wanted_at (g := 30) (d := 75) (f := true) rfl rfl r75).trans rfl) (by go_simp) ?_
      refine (CN.out X (hPW.below hE)).mono ?_
      rintro e w9 ⟨⟨ad, c, rfl⟩, hb⟩
      exact ⟨_, rfl, hb, ⟨ad, c, rfl⟩, Nat.zero_le _⟩
    · intro b9 X ph hE hd hn hS hV hI hF
      obtain ⟨⟨a77, c77, r77⟩, j77⟩ : PredT.Len 0 (1) (b9.tmps[77]?.getD undef) X ph := hV 32 _ 77 rfl rfl (Pred.waits_near (by kernel_rfl) (by kernel_rfl))
      obtain ⟨r75, j75⟩ : PredT.At 0 (.bool true) (b9.tmps[75]?.getD undef) X ph := hV 30 _ 75 rfl rfl (Pred.waits_near (by kernel_rfl) (by kernel_rfl))
      exact Pred.yields_run (v := .int .i64 1) ((Pred.wanted_at (g := 30) (d := 75) (f := true) rfl rfl r75).trans rfl) (by go_simp) ⟨Below.refl _ _, rfl, Nat.zero_le _⟩
    · intro b9 X ph hE hd hn hS hV hI hF
      obtain ⟨r78, j78⟩ : PredT.At 0 (.int .i64 1) (b9.tmps[78]?.getD undef) X ph := hV 33 _ 78 rfl rfl (Pred.waits_near (by kernel_rfl) (by kernel_rfl))
      obtain ⟨r75, j75⟩ : PredT.At 0 (.bool true) (b9.tmps[75]?.getD undef) X ph := hV 30 _ 75 rfl rfl (Pred.waits_near (by kernel_rfl) (by kernel_rfl))
      exact Pred.yields_run (v := .bool true) ((Pred.wanted_at (g := 30) (d := 75) (f := true) rfl rfl r75).trans rfl) (by go_simp) ⟨Below.refl _ _, rfl, Nat.zero_le _⟩
    · intro b9 X ph hE hd hn hS hV hI hF
      obtain ⟨r75, j75⟩ : PredT.At 0 (.bool true) (b9.tmps[75]?.getD undef) X ph := hV 30 _ 75 rfl rfl (Pred.waits_near (by kernel_rfl) (by kernel_rfl))
      obtain ⟨r79, j79⟩ : PredT.At 0 (.bool true) (b9.tmps[79]?.getD undef) X ph := hV 34 _ 79 rfl rfl (Pred.waits_near (by kernel_rfl) (by kernel_rfl))
      exact Pred.yields_run (v := .bool true) (Pred.wanted_none rfl) (by go_simp) ⟨Below.refl _ _, rfl, Nat.zero_le _⟩
    · intro b9 X ph hE hd hn hS hV hI hF
      obtain ⟨r80, j80⟩ : PredT.At 0 (.bool true) (b9.tmps[80]?.getD undef) X ph := hV 35 _ 80 rfl rfl (Pred.waits_near (by kernel_rfl) (by kernel_rfl))
      exact Pred.yields_run (v := .bool true) (Pred.wanted_none rfl) (by go_simp) ⟨Below.refl _ _, rfl, Nat.zero_le _⟩
    · intro b9 X ph hE hd hn hS hV hI hF
      have r1 : b9.tmps[1]?.getD undef = .pointer (some ⟨b, 0, none⟩) := (hn 1 (by kernel_rfl)).trans rfl
      obtain ⟨r81, j81⟩ : PredT.At 0 (.bool true) (b9.tmps[81]?.getD undef) X ph := hV 36 _ 81 rfl rfl (Pred.waits_near (by kernel_rfl) (by kernel_rfl))
      exact Pred.yields_run (v := .pointer (some ⟨b, 0, none⟩)) ((Pred.wanted_at (g := 36) (d := 81) (f := true) rfl rfl r81).trans rfl) (by go_simp) ⟨Below.refl _ _, rfl, Nat.zero_le _⟩
    · intro b9 X ph hE hd hn hS hV hI hF
      have r1 : b9.tmps[1]?.getD undef = .pointer (some ⟨b, 0, none⟩) := (hn 1 (by kernel_rfl)).trans rfl
      obtain ⟨r81, j81⟩ : PredT.At 0 (.bool true) (b9.tmps[81]?.getD undef) X ph := hV 36 _ 81 rfl rfl (Pred.waits_near (by kernel_rfl) (by kernel_rfl))
      exact Pred.yields_run (v := .pointer (some ⟨b, 0, none⟩)) ((Pred.wanted_at (g := 36) (d := 81) (f := true) rfl rfl r81).trans rfl) (by go_simp) ⟨Below.refl _ _, rfl, Nat.zero_le _⟩
    · intro b9 X ph hE hd hn hS hV hI hF
      obtain ⟨r82, j82⟩ : PredT.At 0 (.pointer (some ⟨b, 0, none⟩)) (b9.tmps[82]?.getD undef) X ph := hV 37 _ 82 rfl rfl (Pred.waits_near (by kernel_rfl) (by kernel_rfl))
      obtain ⟨r83, j83⟩ : PredT.At 0 (.pointer (some ⟨b, 0, none⟩)) (b9.tmps[83]?.getD undef) X ph := hV 38 _ 83 rfl rfl (Pred.waits_near (by kernel_rfl) (by kernel_rfl))
      obtain ⟨r81, j81⟩ : PredT.At 0 (.bool true) (b9.tmps[81]?.getD undef) X ph := hV 36 _ 81 rfl rfl (Pred.waits_near (by kernel_rfl) (by kernel_rfl))
      refine Pred.yields_call (f := 36) (args := #[.pointer (some ⟨b, 0, none⟩), .pointer (some ⟨b, 0, none⟩)]) ((Pred.wanted_at (g := 36) (d := 81) (f := true) rfl rfl r81).trans rfl) (by go_simp) ?_
      refine (changed_self b D true ts X (hPW.below hE)).mono ?_
      rintro e w9 ⟨⟨ad, c, rfl⟩, hb⟩
      exact ⟨_, rfl, hb, ⟨ad, c, rfl⟩, Nat.zero_le _⟩
    · intro b9 X ph hE hd hn hS hV hI hF
      obtain ⟨⟨a84, c84, r84⟩, j84⟩ : PredT.Len 0 (0) (b9.tmps[84]?.getD undef) X ph := hV 39 _ 84 rfl rfl (Pred.waits_near (by kernel_rfl) (by kernel_rfl))
      obtain ⟨r81, j81⟩ : PredT.At 0 (.bool true) (b9.tmps[81]?.getD undef) X ph := hV 36 _ 81 rfl rfl (Pred.waits_near (by kernel_rfl) (by kernel_rfl))
      exact Pred.yields_run (v := .int .i64 0) ((Pred.wanted_at (g := 36) (d := 81) (f := true) rfl rfl r81).trans rfl) (by go_simp) ⟨Below.refl _ _, rfl, Nat.zero_le _⟩
    · intro b9 X ph hE hd hn hS hV hI hF
      obtain ⟨r85, j85⟩ : PredT.At 0 (.int .i64 0) (b9.tmps[85]?.getD undef) X ph := hV 40 _ 85 rfl rfl (Pred.waits_near (by kernel_rfl) (by kernel_rfl))
      obtain ⟨r81, j81⟩ : PredT.At 0 (.bool true) (b9.tmps[81]?.getD undef) X ph := hV 36 _ 81 rfl rfl (Pred.waits_near (by kernel_rfl) (by kernel_rfl))
      exact Pred.yields_run (v := .bool true) ((Pred.wanted_at (g := 36) (d := 81) (f := true) rfl rfl r81).trans rfl) (by go_simp) ⟨Below.refl _ _, rfl, Nat.zero_le _⟩
    · intro b9 X ph hE hd hn hS hV hI hF
      obtain ⟨r81, j81⟩ : PredT.At 0 (.bool true) (b9.tmps[81]?.getD undef) X ph := hV 36 _ 81 rfl rfl (Pred.waits_near (by kernel_rfl) (by kernel_rfl))
      obtain ⟨r86, j86⟩ : PredT.At 0 (.bool true) (b9.tmps[86]?.getD undef) X ph := hV 41 _ 86 rfl rfl (Pred.waits_near (by kernel_rfl) (by kernel_rfl))
      exact Pred.yields_run (v := .bool true) (Pred.wanted_none rfl) (by go_simp) ⟨Below.refl _ _, rfl, Nat.zero_le _⟩
    · intro b9 X ph hE hd hn hS hV hI hF
      obtain ⟨r87, j87⟩ : PredT.At 0 (.bool true) (b9.tmps[87]?.getD undef) X ph := hV 42 _ 87 rfl rfl (Pred.waits_near (by kernel_rfl) (by kernel_rfl))
      exact Pred.yields_run (v := .bool true) (Pred.wanted_none rfl) (by go_simp) ⟨Below.refl _ _, rfl, Nat.zero_le _⟩
    · intro b9 X ph hE hd hn hS hV hI hF
      obtain ⟨r88, j88⟩ : PredT.At 0 (.bool true) (b9.tmps[88]?.getD undef) X ph := hV 43 _ 88 rfl rfl (Pred.waits_near (by kernel_rfl) (by kernel_rfl))
      refine Pred.yields_call (f := 35) (args := #[.pointer none, .int .i64 (-1)]) ((Pred.wanted_at (g := 43) (d := 88) (f := true) rfl rfl r88).trans rfl) (by go_simp) ?_
      refine (lall_nil X).mono ?_
      rintro e w9 ⟨⟨ad, c, rfl⟩, hb⟩
      exact ⟨_, rfl, hb, ⟨ad, c, rfl⟩, Nat.zero_le _⟩
    · intro b9 X ph hE hd hn hS hV hI hF
      obtain ⟨⟨a89, c89, r89⟩, j89⟩ : PredT.Len 0 (0) (b9.tmps[89]?.getD undef) X ph := hV 44 _ 89 rfl rfl (Pred.waits_near (by kernel_rfl) (by kernel_rfl))
      obtain ⟨r88, j88⟩ : PredT.At 0 (.bool true) (b9.tmps[88]?.getD undef) X ph := hV 43 _ 88 rfl rfl (Pred.waits_near (by kernel_rfl) (by kernel_rfl))
      exact Pred.yields_run (v := .int .i64 0) ((Pred.wanted_at (g := 43) (d := 88) (f := true) rfl rfl r88).trans rfl) (by go_simp) ⟨Below.refl _ _, rfl, Nat.zero_le _⟩
    · intro b9 X ph hE hd hn hS hV hI hF
      obtain ⟨r90, j90⟩ : PredT.At 0 (.int .i64 0) (b9.tmps[90]?.getD undef) X ph := hV 45 _ 90 rfl rfl (Pred.waits_near (by kernel_rfl) (by kernel_rfl))
      obtain ⟨r88, j88⟩ : PredT.At 0 (.bool true) (b9.tmps[88]?.getD undef) X ph := hV 43 _ 88 rfl rfl (Pred.waits_near (by kernel_rfl) (by kernel_rfl))
      exact Pred.yields_run (v := .bool true) ((Pred.wanted_at (g := 43) (d := 88) (f := true) rfl rfl r88).trans rfl) (by go_simp) ⟨Below.refl _ _, rfl, Nat.zero_le _⟩
    · intro b9 X ph hE hd hn hS hV hI hF
      obtain ⟨r88, j88⟩ : PredT.At 0 (.bool true) (b9.tmps[88]?.getD undef) X ph := hV 43 _ 88 rfl rfl (Pred.waits_near (by kernel_rfl) (by kernel_rfl))
      obtain ⟨r91, j91⟩ : PredT.At 0 (.bool true) (b9.tmps[91]?.getD undef) X ph := hV 46 _ 91 rfl rfl (Pred.waits_near (by kernel_rfl) (by kernel_rfl))
      exact Pred.yields_run (v := .bool true) (Pred.wanted_none rfl) (by go_simp) ⟨Below.refl _ _, rfl, Nat.zero_le _⟩
    · intro b9 X ph hE hd hn hS hV hI hF
      obtain ⟨r92, j92⟩ : PredT.At 0 (.bool true) (b9.tmps[92]?.getD undef) X ph := hV 47 _ 92 rfl rfl (Pred.waits_near (by kernel_rfl) (by kernel_rfl))
      exact Pred.yields_run (v := .bool true) (Pred.wanted_none rfl) (by go_simp) ⟨Below.refl _ _, rfl, Nat.zero_le _⟩
  · trivial
  intro v X hE hS hv
  replace hS : (fun _ => True) X := hS
  have e0 : v 0 = .int .i64 0 := (hv 0 _ 45 rfl rfl).1
  have e1 : v 1 = .bool true := (hv 1 _ 46 rfl rfl).1
  have e2 : v 2 = .bool true := (hv 2 _ 47 rfl rfl).1
  have e3 : v 3 = .slice (some ⟨g3, 0, none⟩) 144 cap3 := (hv 3 _ 48 rfl rfl).1
  have e4 : v 4 = .int .i64 144 := (hv 4 _ 49 rfl rfl).1
  have e5 : v 5 = .bool true := (hv 5 _ 50 rfl rfl).1
  have e6 : v 6 = .bool true := (hv 6 _ 51 rfl rfl).1
  have e7 : v 7 = .bool true := (hv 7 _ 52 rfl rfl).1
  have e8 : v 8 = .int .i64 1 := (hv 8 _ 53 rfl rfl).1
  have e9 : v 9 = .bool true := (hv 9 _ 54 rfl rfl).1
  have e10 : v 10 = .bool true := (hv 10 _ 55 rfl rfl).1
  have e11 : v 11 = .bool true := (hv 11 _ 56 rfl rfl).1
  have e12 : v 12 = .bool true := (hv 12 _ 57 rfl rfl).1
  have e13 : v 13 = .bool true := (hv 13 _ 58 rfl rfl).1
  have e14 : v 14 = .bool true := (hv 14 _ 59 rfl rfl).1
  have e15 : v 15 = p.v := (hv 15 _ 60 rfl rfl).1
  have e16 : v 16 = .pointer (some ⟨b, 0, none⟩) := (hv 16 _ 61 rfl rfl).1
  have e17 : v 17 = p.v := (hv 17 _ 62 rfl rfl).1
  have e18 : v 18 = .bool true := (hv 18 _ 63 rfl rfl).1
  have e19 : v 19 = .bool true := (hv 19 _ 64 rfl rfl).1
  have e20 : v 20 = .bool true := (hv 20 _ 65 rfl rfl).1
  have e21 : v 21 = .bool false := (hv 21 _ 66 rfl rfl).1
  have e22 : v 22 = .bool true := (hv 22 _ 67 rfl rfl).1
  have e23 : v 23 = .bool true := (hv 23 _ 68 rfl rfl).1
  have e24 : v 24 = .bool true := (hv 24 _ 69 rfl rfl).1
  have e25 : v 25 = .pointer (some ⟨b, 0, none⟩) := (hv 25 _ 70 rfl rfl).1
  obtain ⟨⟨aa26, cc26, e26⟩, -⟩ : PredT.Len 0 (1) (v 26) X _ := hv 26 _ 71 rfl rfl
  have e27 : v 27 = .int .i64 1 := (hv 27 _ 72 rfl rfl).1
  have e28 : v 28 = .bool true := (hv 28 _ 73 rfl rfl).1
  have e29 : v 29 = .bool true := (hv 29 _ 74 rfl rfl).1
  have e30 : v 30 = .bool true := (hv 30 _ 75 rfl rfl).1
  have e31 : v 31 = .pointer (some ⟨b, 0, none⟩) := (hv 31 _ 76 rfl rfl).1
  obtain ⟨⟨aa32, cc32, e32⟩, -⟩ : PredT.Len 0 (1) (v 32) X _ := hv 32 _ 77 rfl rfl
  have e33 : v 33 = .int .i64 1 := (hv 33 _ 78 rfl rfl).1
  have e34 : v 34 = .bool true := (hv 34 _ 79 rfl rfl).1
  have e35 : v 35 = .bool true := (hv 35 _ 80 rfl rfl).1
  have e36 : v 36 = .bool true := (hv 36 _ 81 rfl rfl).1
  have e37 : v 37 = .pointer (some ⟨b, 0, none⟩) := (hv 37 _ 82 rfl rfl).1
  have e38 : v 38 = .pointer (some ⟨b, 0, none⟩) := (hv 38 _ 83 rfl rfl).1
  obtain ⟨⟨aa39, cc39, e39⟩, -⟩ : PredT.Len 0 (0) (v 39) X _ := hv 39 _ 84 rfl rfl
  have e40 : v 40 = .int .i64 0 := (hv 40 _ 85 rfl rfl).1
  have e41 : v 41 = .bool true := (hv 41 _ 86 rfl rfl).1
  have e42 : v 42 = .bool true := (hv 42 _ 87 rfl rfl).1
  have e43 : v 43 = .bool true := (hv 43 _ 88 rfl rfl).1
  obtain ⟨⟨aa44, cc44, e44⟩, -⟩ : PredT.Len 0 (0) (v 44) X _ := hv 44 _ 89 rfl rfl
  have e45 : v 45 = .int .i64 0 := (hv 45 _ 90 rfl rfl).1
  have e46 : v 46 = .bool true := (hv 46 _ 91 rfl rfl).1
  have e47 : v 47 = .bool true := (hv 47 _ 92 rfl rfl).1
  have e48 : v 48 = .bool true := (hv 48 _ 0 rfl rfl).1
  simp only [Pred.putsF_cons, Pred.putsF_nil, Nat.zero_add, Nat.reduceAdd, e0, e1, e2, e3, e4, e5, e6, e7, e8, e9, e10, e11, e12, e13, e14, e15, e16, e17, e18, e19, e20, e21, e22, e23, e24, e25, e26, e27, e28, e29, e30, e31, e32, e33, e34, e35, e36, e37, e38, e39, e40, e41, e42, e43, e44, e45, e46, e47, e48, Act.put, List.setIfInBounds_toArray, List.set_cons_zero, List.set_cons_succ]
  clear e0 e1 e2 e3 e4 e5 e6 e7 e8 e9 e10 e11 e12 e13 e14 e15 e16 e17 e18 e19 e20 e21 e22 e23 e24 e25 e26 e27 e28 e29 e30 e31 e32 e33 e34 e35 e36 e37 e38 e39 e40 e41 e42 e43 e44 e45 e46 e47 e48 hv
  have L9 : Below w.heap.size w X := L7.trans (hE.mono L7.size)
  clear hE hPW bC
  go_wp2
  go_ret
  exact ⟨rfl, L9⟩
end Go.Proofs.Ytdjiblgnealmkaa.CtH

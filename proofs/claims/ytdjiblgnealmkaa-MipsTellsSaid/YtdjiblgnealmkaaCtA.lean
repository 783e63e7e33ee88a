/-
  A page's bytes: 36 texels; cut.Page.
-/
import Derived.Test.YtdjiblgnealmkaaMpU
import Derived.Test.YtdjiblgnealmkaaPgB
namespace Go.Proofs.Ytdjiblgnealmkaa.CtA
open Go.RowKit Rd Go.Proofs.Ytdjiblgnealmkaa.Row Mid DkM HueA MpM MpA MpB MpC MpD MpE MpF MpG
open MpU (atP_in atP_nat)
set_option linter.unusedVariables false
set_option linter.unusedSimpArgs false
set_option maxRecDepth 10000
variable {b D : Nat} {wr : Bool} {ts : List Px}
/-- a row's bytes -/
def fb (ps : List Px) : List Int := ps.flatMap fun p => [p.r, p.g, p.b, p.a]
theorem cp_fb : ∀ ps : List Px, cp ps = (fb ps).map (Value.int .u8)
  | [] => rfl
  | p :: ps => by
    rw [show p :: ps = [p] ++ ps from rfl, cp_app, cp_fb ps, cp_one]
    simp [fb, Px.l]
theorem fb_len : ∀ ps : List Px, (fb ps).length = 4 * ps.length
  | [] => rfl
  | p :: ps => by simp only [fb, List.flatMap_cons, List.length_append, List.length_cons, List.length_nil]; have := fb_len ps; unfold fb at this; omega
theorem fb_bd {ps : List Px} (h : RB ps) : ∀ z ∈ fb ps, 0 ≤ z ∧ z ≤ 255 := by
  intro z hz
  obtain ⟨p, hp, hz⟩ := List.mem_flatMap.1 hz
  obtain ⟨h1, h2, h3, h4⟩ := h p hp
  simp at hz
  rcases hz with rfl | rfl | rfl | rfl <;> assumption
/-- a page's texels, with its border -/
def pageP (ts : List Px) (D : Nat) (wr : Bool) (L X Y : Int) : List Px := (List.range 36).map fun i => atP ts D wr L (4 * X + (((i % 6 : Nat) : Int) - 1)) (4 * Y + (((i / 6 : Nat) : Int) - 1))
theorem pageP_len (L X Y : Int) : (pageP ts D wr L X Y).length = 36 := by simp [pageP]
theorem pageP_B (h : RB ts) (L X Y : Int) : RB (pageP ts D wr L X Y) := by
  intro p hp
  obtain ⟨i, _, rfl⟩ := List.mem_map.1 hp
  exact atP_B h _ _ _ _ _
theorem pageP_take {L X Y : Int} {i j : Nat} (hi : i < 6) (hj : j < 6) : (pageP ts D wr L X Y).take (6 * j + i + 1) = (pageP ts D wr L X Y).take (6 * j + i) ++ [atP ts D wr L (4 * X + ((i : Int) - 1)) (4 * Y + ((j : Int) - 1))] := by
  have hl : 6 * j + i < (pageP ts D wr L X Y).length := by rw [pageP_len]; omega
  have e : (pageP ts D wr L X Y)[6 * j + i]'hl = atP ts D wr L (4 * X + ((i : Int) - 1)) (4 * Y + ((j : Int) - 1)) := by
    simp only [pageP, List.getElem_map, List.getElem_range]
    rw [show (6 * j + i) % 6 = i by omega, show (6 * j + i) / 6 = j by omega]
  rw [← e, List.take_append_getElem hl]
attribute [local go_sem ↓] load_col store_col alloc_col PgA.load_pg PgA.store_pg
attribute [local go_sem] PgA.pc3 PgA.run_load_pg PgA.run_store_pg midLoad_eq rowLoad_eq run_alloc_col run_store_col rowStore_eq blk_alloc_at blk_alloc_old blk_drew blk_drewN blk_grow Px.c_size Px.c_all c_all4 fold_px one_int
set_option maxHeartbeats 8000000 in
theorem Page_any (L X Y : Int) (w : World) (h : Pyr w b D wr ts) (hv : PgM.validB D L X Y = true) :
    Calls Try.prog 28 #[.pointer (some ⟨b, 0, none⟩), PgA.pg L X Y] w fun e w' => (∃ v, e = .returned (.tuple #[v, .int .i64 0]) ∧ w'.ownsRow w.heap.size 5 1 v 144 ((fb (pageP ts D wr L X Y)).map (Value.int .u8))) ∧ Below w.heap.size w w' := by
  have hB := h.bb
  have CD := Lib.hid fun Z (hZ : Pyr Z b D wr ts) => Depth_any Z hZ
  have CV := Lib.hid fun Z => (hv ▸ PgA.valid_any (D : Int) L X Y Z : Calls Try.prog 54 #[.int .i64 D, PgA.pg L X Y] Z fun e w' => e = .returned (.bool true) ∧ Below Z.heap.size Z w')
  obtain ⟨⟨v1, v2⟩, ⟨v3, v4⟩, ⟨v5, v6⟩, v7, v8⟩ := PgM.valid_yes hv
  have hsd := (PgM.sd_bd v3 v4 v2).2
  have hblt := h.lt
  clear hv
  go_enter Try.func28, Try.ntmps28
  go_upto_region 1 with (fail)
  refine Rd.name_world ?_
  intro W hW
  have L0 : Below w.heap.size w W := by rw [hW]; repeat' (first | (with_reducible exact Below.refl _ _) | (with_reducible refine Rd.below_step ?_ (by assumption)) | (with_reducible refine Rd.below_alloc ?_ _) | (with_reducible refine Rd.below_drewN ?_ _) | (with_reducible refine Below.drew ?_) | (with_reducible refine Below.setCell ?_ ?_ _) | (with_reducible refine Rd.below_setRow ?_ ?_ _) | go_size | (simp only [World.size_alloc]; omega) | omega)
  have bP : blk W w.heap.size = some (.cells #[.int .i64 L, .int .i64 X, .int .i64 Y] 61 (0, 0)) := by rw [hW]; exact blk_alloc_at _ _ _ rfl
  have hPW := h.below L0
  have lP := blk_lt bP
  clear hW
  refine PredT.region_of (W := W) (W.heap.size) (Nat.le_refl _) [] [
      fun _ => True] [
      PredT.At 0 (.pointer (some ⟨b, 0, none⟩)),
      PredT.At 0 (.bool false),
      PredT.At 0 (.bool false),
      PredT.At 0 (.pointer (some ⟨b, 0, none⟩)),
      PredT.At 0 (.int .i64 D),
      PredT.At 0 (PgA.pg L X Y),
      PredT.At 0 (.bool true),
      PredT.At 0 (.bool false),
      PredT.At 0 (.bool false)] (by kernel_rfl) (by kernel_rfl) (by kernel_rfl) (by decide) (by decide) ?_ ?_ ?_ ?_ ?_ ?_
  · exact ⟨PredT.at_stab _ _ _ _, PredT.at_stab _ _ _ _, PredT.at_stab _ _ _ _, PredT.at_stab _ _ _ _, PredT.at_stab _ _ _ _, PredT.at_stab _ _ _ _, PredT.at_stab _ _ _ _, PredT.at_stab _ _ _ _, PredT.at_stab _ _ _ _, trivial⟩
  · intro q hq
    rcases List.mem_cons.1 hq with rfl | hq
    · exact fun _ _ h _ => trivial
    cases hq
  · exact trivial
  · refine ⟨.inr ?_, .inr ?_, .inr ?_, .inr ?_, .inr ?_, .inr ?_, .inr ?_, .inr ?_, .inr ?_, trivial⟩
    · intro b9 Z9 ph hE hd hn hS hV hI hF
      have r0 : b9.tmps[0]?.getD undef = .pointer (some ⟨b, 0, none⟩) := (hn 0 (by kernel_rfl)).trans rfl
      exact Pred.yields_run (v := .pointer (some ⟨b, 0, none⟩)) (Pred.wanted_none rfl) (by go_simp) ⟨Below.refl _ _, rfl, Nat.zero_le _⟩
    · intro b9 Z9 ph hE hd hn hS hV hI hF
      obtain ⟨r9, j9⟩ : PredT.At 0 (.pointer (some ⟨b, 0, none⟩)) (b9.tmps[9]?.getD undef) Z9 ph := hV 0 _ 9 rfl rfl (Pred.waits_near (by kernel_rfl) (by kernel_rfl))
      exact Pred.yields_run (v := .bool false) (Pred.wanted_none rfl) (by go_simp) ⟨Below.refl _ _, rfl, Nat.zero_le _⟩
    · intro b9 Z9 ph hE hd hn hS hV hI hF
      obtain ⟨r10, j10⟩ : PredT.At 0 (.bool false) (b9.tmps[10]?.getD undef) Z9 ph := hV 1 _ 10 rfl rfl (Pred.waits_near (by kernel_rfl) (by kernel_rfl))
      exact Pred.yields_run (v := .bool false) (Pred.wanted_none rfl) (by go_simp) ⟨Below.refl _ _, rfl, Nat.zero_le _⟩
    · intro b9 Z9 ph hE hd hn hS hV hI hF
      have r0 : b9.tmps[0]?.getD undef = .pointer (some ⟨b, 0, none⟩) := (hn 0 (by kernel_rfl)).trans rfl
      obtain ⟨r11, j11⟩ : PredT.At 0 (.bool false) (b9.tmps[11]?.getD undef) Z9 ph := hV 2 _ 11 rfl rfl (Pred.waits_near (by kernel_rfl) (by kernel_rfl))
      exact Pred.yields_run (v := .pointer (some ⟨b, 0, none⟩)) ((Pred.wanted_at (g := 2) (d := 11) (f := false) rfl rfl r11).trans rfl) (by go_simp) ⟨Below.refl _ _, rfl, Nat.zero_le _⟩
    · intro b9 Z9 ph hE hd hn hS hV hI hF
      obtain ⟨r12, j12⟩ : PredT.At 0 (.pointer (some ⟨b, 0, none⟩)) (b9.tmps[12]?.getD undef) Z9 ph := hV 3 _ 12 rfl rfl (Pred.waits_near (by kernel_rfl) (by kernel_rfl))
      obtain ⟨r11, j11⟩ : PredT.At 0 (.bool false) (b9.tmps[11]?.getD undef) Z9 ph := hV 2 _ 11 rfl rfl (Pred.waits_near (by kernel_rfl) (by kernel_rfl))
      refine Pred.yields_call (f := 23) (args := #[.pointer (some ⟨b, 0, none⟩)]) ((Pred.wanted_at (g := 2) (d := 11) (f := false) rfl rfl r11).trans rfl) (by go_simp) ?_
      refine (CD.out Z9 (hPW.below hE)).mono ?_
      rintro e _ ⟨rfl, rfl⟩
      exact ⟨_, rfl, Below.refl _ _, rfl, Nat.zero_le _⟩
    · intro b9 Z9 ph hE hd hn hS hV hI hF
      have r3 : b9.tmps[3]?.getD undef = .pointer (some ⟨w.heap.size, 0, none⟩) := (hn 3 (by kernel_rfl)).trans rfl
      obtain ⟨r11, j11⟩ : PredT.At 0 (.bool false) (b9.tmps[11]?.getD undef) Z9 ph := hV 2 _ 11 rfl rfl (Pred.waits_near (by kernel_rfl) (by kernel_rfl))
      have hbP := (blk_below hE _ lP).trans bP
      exact Pred.yields_run (v := PgA.pg L X Y) ((Pred.wanted_at (g := 2) (d := 11) (f := false) rfl rfl r11).trans rfl) (by go_simp) ⟨Below.refl _ _, rfl, Nat.zero_le _⟩
    · intro b9 Z9 ph hE hd hn hS hV hI hF
      obtain ⟨r13, j13⟩ : PredT.At 0 (.int .i64 D) (b9.tmps[13]?.getD undef) Z9 ph := hV 4 _ 13 rfl rfl (Pred.waits_near (by kernel_rfl) (by kernel_rfl))
      obtain ⟨r14, j14⟩ : PredT.At 0 (PgA.pg L X Y) (b9.tmps[14]?.getD undef) Z9 ph := hV 5 _ 14 rfl rfl (Pred.waits_near (by kernel_rfl) (by kernel_rfl))
      obtain ⟨r11, j11⟩ : PredT.At 0 (.bool false) (b9.tmps[11]?.getD undef) Z9 ph := hV 2 _ 11 rfl rfl (Pred.waits_near (by kernel_rfl) (by kernel_rfl))
      refine Pred.yields_call (f := 54) (args := #[.int .i64 D, PgA.pg L X Y]) ((Pred.wanted_at (g := 2) (d := 11) (f := false) rfl rfl r11).trans rfl) (by go_simp) ?_
      refine (CV.out Z9).mono ?_
      rintro e w9 ⟨rfl, hb⟩
      exact ⟨_, rfl, hb, rfl, Nat.zero_le _⟩
    · intro b9 Z9 ph hE hd hn hS hV hI hF
      obtain ⟨r15, j15⟩ : PredT.At 0 (.bool true) (b9.tmps[15]?.getD undef) Z9 ph := hV 6 _ 15 rfl rfl (Pred.waits_near (by kernel_rfl) (by kernel_rfl))
      obtain ⟨r11, j11⟩ : PredT.At 0 (.bool false) (b9.tmps[11]?.getD undef) Z9 ph := hV 2 _ 11 rfl rfl (Pred.waits_near (by kernel_rfl) (by kernel_rfl))
      exact Pred.yields_run (v := .bool false) ((Pred.wanted_at (g := 2) (d := 11) (f := false) rfl rfl r11).trans rfl) (by go_simp) ⟨Below.refl _ _, rfl, Nat.zero_le _⟩
    · intro b9 Z9 ph hE hd hn hS hV hI hF
      obtain ⟨r11, j11⟩ : PredT.At 0 (.bool false) (b9.tmps[11]?.getD undef) Z9 ph := hV 2 _ 11 rfl rfl (Pred.waits_near (by kernel_rfl) (by kernel_rfl))
      obtain ⟨r16, j16⟩ : PredT.At 0 (.bool false) (b9.tmps[16]?.getD undef) Z9 ph := hV 7 _ 16 rfl rfl (Pred.waits_near (by kernel_rfl) (by kernel_rfl))
      exact Pred.yields_run (v := .bool false) (Pred.wanted_none rfl) (by go_simp) ⟨Below.refl _ _, rfl, Nat.zero_le _⟩
  · trivial
  intro v Z1 hE hS hv
  replace hS : (fun _ => True) Z1 := hS
  have e0 : v 0 = .pointer (some ⟨b, 0, none⟩) := (hv 0 _ 9 rfl rfl).1
  have e1 : v 1 = .bool false := (hv 1 _ 10 rfl rfl).1
  have e2 : v 2 = .bool false := (hv 2 _ 11 rfl rfl).1
  have e3 : v 3 = .pointer (some ⟨b, 0, none⟩) := (hv 3 _ 12 rfl rfl).1
  have e4 : v 4 = .int .i64 D := (hv 4 _ 13 rfl rfl).1
  have e5 : v 5 = PgA.pg L X Y := (hv 5 _ 14 rfl rfl).1
  have e6 : v 6 = .bool true := (hv 6 _ 15 rfl rfl).1
  have e7 : v 7 = .bool false := (hv 7 _ 16 rfl rfl).1
  have e8 : v 8 = .bool false := (hv 8 _ 17 rfl rfl).1
  simp only [Pred.putsF_cons, Pred.putsF_nil, Nat.zero_add, Nat.reduceAdd, e0, e1, e2, e3, e4, e5, e6, e7, e8, Act.put, List.setIfInBounds_toArray, List.set_cons_zero, List.set_cons_succ]
  clear e0 e1 e2 e3 e4 e5 e6 e7 e8 hv
  have bP1 := (blk_below hE _ lP).trans bP
  have hP1 := hPW.below hE
  have L1 : Below w.heap.size w Z1 := L0.trans (hE.mono L0.size)
  have lP1 := blk_lt bP1
  clear hE hS hPW bP L0 h CD CV
  go_wp2_with fail
  go_loopw [6, 7] (fun v i Z => ∃ (j : Nat), j ≤ 6 ∧ i = .int .i64 ((j : Int) - 1) ∧ Hid (Z.ownsRow Z1.heap.size 39 4 v (6 * j) (cp ((pageP ts D wr L X Y).take (6 * j)))) ∧ Hid (Below Z1.heap.size Z1 Z)) (fun _ i _ => (5 - intOf i).toNat)
  case atStart => exact ⟨0, by omega, rfl, Lib.hid (by simpa [cp, fl] using World.ownsRow_nil _ _ _ _), Lib.hid (Below.refl _ _)⟩
  case round =>
    obtain ⟨j, hj, rfl, HO, HL⟩ := hrel
    rename World => Z2
    by_cases hlt : j < 6
    · have hlt' : (j : Int) - 1 < 5 := by omega
      go_wp2_with fail
      go_loopw [6, 8] (fun v i Z => ∃ (k : Nat), k ≤ 6 ∧ i = .int .i64 ((k : Int) - 1) ∧ Hid (Z.ownsRow Z1.heap.size 39 4 v (6 * j + k) (cp ((pageP ts D wr L X Y).take (6 * j + k)))) ∧ Hid (Below Z1.heap.size Z1 Z)) (fun _ i _ => (5 - intOf i).toNat)
      case atStart => exact ⟨0, by omega, rfl, HO, HL⟩
      case round =>
        obtain ⟨k, hk, rfl, HO2, HL2⟩ := hrel
        rename World => Z3
        clear HO HL
        by_cases hlt2 : k < 6
        · have hlt2' : (k : Int) - 1 < 5 := by omega
          have bP3 := (blk_below HL2.out _ lP1).trans bP1
          have hP3 := hP1.below HL2.out
          have c0 : Z3.cell? ⟨w.heap.size, 0, none⟩ = some (.int .i64 L) := by rw [blk_cell bP3]; first | done | rfl
          have c1 : Z3.cell? ⟨w.heap.size, 1, none⟩ = some (.int .i64 X) := by rw [blk_cell bP3]; first | done | rfl
          have c2 : Z3.cell? ⟨w.heap.size, 2, none⟩ = some (.int .i64 Y) := by rw [blk_cell bP3]; first | done | rfl
          obtain ⟨p, hp⟩ : ∃ p, atP ts D wr L (4 * X + ((k : Int) - 1)) (4 * Y + ((j : Int) - 1)) = p := ⟨_, rfl⟩
          have HT : Hid ((pageP ts D wr L X Y).take (6 * j + k + 1) = (pageP ts D wr L X Y).take (6 * j + k) ++ [p]) := Lib.hid (by rw [← hp]; exact pageP_take hlt2 hlt)
          have CA : Hid (Calls Try.prog 17 #[.pointer (some ⟨b, 0, none⟩), .int .i64 L, .int .i64 (4 * X + ((k : Int) - 1)), .int .i64 (4 * Y + ((j : Int) - 1))] Z3 fun e w' => e = .returned p.v ∧ Below Z3.heap.size Z3 w') := Lib.hid (by
            rw [← hp]
            exact At_any L _ _ Z3 hP3 ⟨by omega, by omega⟩ ⟨by omega, by omega⟩)
          have hZs := HL2.out.size
          clear hp hP3 bP3
          go_wp2_with fail
          refine CA.out.mono ?_
          rintro e Z4 ⟨rfl, hb4⟩
          have HO4 := Lib.hid (owns_below' HO2.out hb4)
          have L4 : Below Z1.heap.size Z1 Z4 := HL2.out.trans (hb4.mono hZs)
          have s4 := L4.size
          clear HO2 hb4 c0 c1 c2 CA
          go_wp2_with (at_builtin; refine app_px rfl (.tmp 26) (.tmp 41) rfl Z1.heap.size _ _ _ rfl (HO4.out.alloc _) Z4.heap.size 1 p rfl (blk_alloc_at _ _ _ rfl) (by omega) (by simp; omega) ?_; intro v5 Z5 ho5 hg5)
          have L5 : Below Z1.heap.size Z1 Z5 := (L4.alloc s4 _).grown hg5 (by simp; omega) (fun j hj => (HO4.out.lt j hj).1)
          first
            | exact ⟨⟨k + 1, by omega, by go_num, Lib.hid (by rw [show 6 * j + (k + 1) = 6 * j + k + 1 by omega, HT.out]; exact ho5), Lib.hid L5⟩, by simp [intOf]; omega⟩
            | (go_roundw
               case rel => exact ⟨k + 1, by omega, congrArg (Value.int .i64) (by omega), Lib.hid (by rw [show 6 * j + (k + 1) = 6 * j + k + 1 by omega, HT.out]; exact ho5), Lib.hid L5⟩
               case measure => simp [intOf]; omega)
        · obtain rfl : k = 6 := by omega
          have hlt2' : ¬ ((6 : Nat) : Int) - 1 < 5 := by omega
          go_wp2_with fail
          first
            | exact ⟨⟨j + 1, by omega, by go_num, by rw [Nat.mul_add, Nat.mul_one]; exact HO2, HL2⟩, by simp [intOf]; omega⟩
            | (go_roundw
               case rel => exact ⟨j + 1, by omega, congrArg (Value.int .i64) (by omega), by rw [Nat.mul_add, Nat.mul_one]; exact HO2, HL2⟩
               case measure => simp [intOf]; omega)
    · obtain rfl : j = 6 := by omega
      have hlt' : ¬ ((6 : Nat) : Int) - 1 < 5 := by omega
      have ho := HO.out
      rw [List.take_of_length_le (by rw [pageP_len]; omega)] at ho
      obtain ⟨a9, c9, hv9, _⟩ := owns_val ho
      subst hv9
      have hRd := Reads.of_owns ho
      rw [cp_fb] at hRd
      have CB := Lib.hid (HueB.bytes_any a9 36 c9 _ Z2 hRd (by omega))
      have sZ := HL.out.size
      clear HO ho hRd
      go_wp2_with fail
      refine CB.out.mono ?_
      rintro e Z6 ⟨v6, rfl, ho6, hb6⟩
      go_wp2_with fail
      go_ret2
      exact ⟨⟨_, rfl, owns_mono ho6 (by have := L1.size; omega)⟩, (L1.trans (HL.out.mono L1.size)).trans (hb6.mono (by have := L1.size; omega))⟩
end Go.Proofs.Ytdjiblgnealmkaa.CtA

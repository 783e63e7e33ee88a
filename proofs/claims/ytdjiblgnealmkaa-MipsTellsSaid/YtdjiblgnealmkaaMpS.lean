/-
  wainscotref17: StepOf, of a step that changes texels.
-/
import Derived.Test.YtdjiblgnealmkaaMpQ
namespace Go.Proofs.Ytdjiblgnealmkaa.MpS
open Go.RowKit Rd Go.Proofs.Ytdjiblgnealmkaa.Row Mid DkM HueA MpM MpA MpB MpC MpD MpE MpF MpG
open MpP (at17 round17)
open MpQ
open Ints (i64s In64)
set_option linter.unusedVariables false
set_option linter.unusedSimpArgs false
set_option maxRecDepth 10000
variable {X Y : World} {B tb : Nat} {T : TypeId} {v u : Value} {ts : List Px}
def Ever (q : Value → Prop) : PredT.Pr := fun v _ _ => q v
theorem ever_stab (B m : Nat) (q : Value → Prop) : PredT.Stab B m (Ever q) := ⟨fun _ _ _ _ h _ => h, fun _ _ _ _ _ h _ => h⟩
theorem load_stp (x : Value) : Instr.loadAt 57 x = loadRow 57 x := rfl
theorem store_stp (x v : Value) : Instr.storeAt 57 x v = storeRow 57 x v := rfl
theorem alloc_stp : Instr.alloc 57 true (.tuple #[]) = allocRow 57 := rfl
theorem run_load_stp (g o : Nat) (W : World) : (loadRow 57 (.pointer (some ⟨g, o, none⟩))).run Try.prog W = rowLoad Try.prog 57 25 g o W := run_loadRow Try.underlying57 rfl (by kernel_rfl) g o W
theorem run_store_stp (g o : Nat) (c : Array Value) (W : World) : (storeRow 57 (.pointer (some ⟨g, o, none⟩)) (.agg c)).run Try.prog W = rowStore Try.prog 57 25 g o c W := run_storeRow (by kernel_rfl) g o c W
abbrev stpH (x y w h : Int) : Value → Array Value := fun v => #[.int .i64 4, .int .i64 0, .int .i64 0, .int .i64 0, .int .i64 0, .int .i64 0, .int .i64 0, .int .i64 0, .int .i64 0, .int .i64 0, .int .i64 0, .int .i64 0, .int .i64 0, .int .i64 0, .int .i64 0, .int .i64 0, .int .i64 0, .slice none 0 0, .int .i64 x, .int .i64 y, .int .i64 w, .int .i64 h, v, .int .i64 0, .int .i64 0]
def stp0 : Array Value := #[.int .i64 0, .int .i64 0, .int .i64 0, .int .i64 0, .int .i64 0, .int .i64 0, .int .i64 0, .int .i64 0, .int .i64 0, .int .i64 0, .int .i64 0, .int .i64 0, .int .i64 0, .int .i64 0, .int .i64 0, .int .i64 0, .int .i64 0, .slice none 0 0, .int .i64 0, .int .i64 0, .int .i64 0, .int .i64 0, .slice none 0 0, .int .i64 0, .int .i64 0]
theorem stp0_size : stp0.size = 25 := rfl
theorem run_alloc_stp (w : World) : (allocRow 57).run Try.prog w = .ok (.pointer (some ⟨w.heap.size, 0, none⟩)) (w.alloc (.cells stp0 57)) := by kernel_rfl
theorem info_stp : (Try.prog.info? 57).map (·.size) = some 25 := by kernel_rfl
theorem ret_stp {fn : Func} {R : Ending → World → Prop} {a : Act} {W : World} {p : Tmp} (h : fn.results = #[.cell p 57]) (g : Nat) (x y w h9 : Int) (v : Value) (hp : a.tmps.getD p undef = .pointer (some ⟨g, 0, none⟩))
    (hg : blk W g = some (.cells (stpH x y w h9 v) 57 (0, 0))) (hd : a.defers = []) (hR : R (.returned (.agg (stpH x y w h9 v))) W) : bodyPost Try.prog fn R .ret a W :=
  bodyPost_ret (results_row1 h _ _ g _ _ _ _ hp hg Try.underlying57 rfl (by rw [info_stp]; rfl)) hd hR
theorem one_sl (a : Option Addr) (n c : Nat) : (Value.slice a n c).oneCell' = true := rfl
attribute [local go_sem ↓] load_stp store_stp alloc_stp load_col store_col alloc_col
attribute [local go_sem] Mid.run_minT Px.c_size Px.c_all c_all4 fold_px run_load_stp run_store_stp run_alloc_stp stp0_size run_alloc_col run_store_col rowStore_eq rowLoad_eq one_int one_bool one_sl blk_alloc_at blk_alloc_old blk_drew blk_drewN blk_grow setRow_alloc_at setRow_alloc_old setRow_drew setRow_drewN
set_option maxHeartbeats 8000000 in
theorem StepOf_4 (D : Nat) (a : Option Addr) (len cap : Nat) (zs : List Int) (w : World) (hD : D ≤ 3) (hzr : Reads w 1 a len (i64s zs)) (hz : ∀ z ∈ zs, In64 z) (hlen : len ≤ 1000000) :
    Calls Try.prog 26 #[.int .i64 D, .slice a len cap, .int .i64 4, .int .i64 0] w fun e w' => (∃ (x y ww hh : Nat) (u : Value) (ts : List Px), e = .returned (.agg (stpH x y ww hh u)) ∧ 1 ≤ ww ∧ 1 ≤ hh ∧ ww ≤ 4 ∧ hh ≤ 4 ∧ x + ww ≤ sd D ∧ y + hh ≤ sd D ∧ ts.length = ww * hh ∧ RB ts ∧ w'.ownsRow w.heap.size 39 4 u (ww * hh) (cp ts)) ∧ Below w.heap.size w w' := by
  have CR := Lib.hid fun X => (show (4 : Int) % 8 = 4 from rfl) ▸ round17 4 8 X (by omega) (by omega) (by omega) (by omega)
  obtain ⟨n, hn⟩ : ∃ n, n = sd D := ⟨_, rfl⟩
  have hsh : (4 : Int) * 2 ^ D = (n : Int) := by
    rw [hn]
    rcases (show D = 0 ∨ D = 1 ∨ D = 2 ∨ D = 3 by omega) with rfl | rfl | rfl | rfl <;> rfl
  have hn2 : n ≤ 32 := by rw [hn]; exact sd_le hD
  have hn4 : 4 ≤ n := by rw [hn]; exact sd_pos D
  have hD0 : ¬ (D : Int) < 0 := by omega
  rw [← hn]
  clear hn
  go_enter Try.func26, Try.ntmps26
  go_wp2_with fail
  refine (CR.out _).mono ?_
  rintro e _ ⟨rfl, rfl⟩
  have LA : Below w.heap.size w (w.alloc (.cells stp0 57)) := (Below.refl _ _).alloc (Nat.le_refl _) _
  have hR0 : blk (w.alloc (.cells stp0 57)) w.heap.size = some (.cells stp0 57 (0, 0)) := blk_alloc_at _ _ _ rfl
  go_wp2_with fail
  refine (at17 a len cap 0 n zs _ (hzr.below LA (Nat.le_refl _)) hz hlen (by omega) (by omega) (by omega)).mono ?_
  rintro e w2 ⟨⟨x, rfl, hx0, hx1⟩, hb2⟩
  obtain ⟨x, rfl⟩ : ∃ k : Nat, x = k := ⟨x.toNat, by omega⟩
  have L2 : Below w.heap.size w w2 := by repeat' (first | (with_reducible exact Below.refl _ _) | (with_reducible refine Rd.below_step ?_ (by assumption)) | (with_reducible refine Rd.below_alloc ?_ _) | (with_reducible refine Rd.below_drewN ?_ _) | (with_reducible refine Below.drew ?_) | (with_reducible refine Below.setCell ?_ ?_ _) | (with_reducible refine Rd.below_setRow ?_ ?_ _) | go_size | (simp only [World.size_alloc]; omega) | omega)
  have hR2 := (blk_below hb2 _ (blk_lt hR0)).trans hR0
  clear hR0 LA hb2
  go_wp2_with fail
  refine (at17 a len cap 1 n zs _ (hzr.below L2 (Nat.le_refl _)) hz hlen (by omega) (by omega) (by omega)).mono ?_
  rintro e w3 ⟨⟨y, rfl, hy0, hy1⟩, hb3⟩
  obtain ⟨y, rfl⟩ : ∃ k : Nat, y = k := ⟨y.toNat, by omega⟩
  have L3 : Below w.heap.size w w3 := by repeat' (first | (with_reducible exact Below.refl _ _) | (with_reducible refine Rd.below_step ?_ (by assumption)) | (with_reducible refine Rd.below_alloc ?_ _) | (with_reducible refine Rd.below_drewN ?_ _) | (with_reducible refine Below.drew ?_) | (with_reducible refine Below.setCell ?_ ?_ _) | (with_reducible refine Rd.below_setRow ?_ ?_ _) | go_size | (simp only [World.size_alloc]; omega) | omega)
  have hR3 := (blk_below hb3 _ (blk_lt hR2)).trans hR2
  have hs3 := blk_lt hR3
  clear hR2 L2 hb3
  go_upto_region 16 with (fail)
  refine Rd.name_world ?_
  intro W hW
  have hB0 : blk W w3.heap.size = some (.cells (stpH x y 0 0 (.slice none 0 0)) 57 (0, 0)) := by rw [hW]; exact blk_alloc_at _ _ _ rfl
  have L4 : Below w.heap.size w W := by rw [hW]; repeat' (first | (with_reducible exact Below.refl _ _) | (with_reducible refine Rd.below_step ?_ (by assumption)) | (with_reducible refine Rd.below_alloc ?_ _) | (with_reducible refine Rd.below_drewN ?_ _) | (with_reducible refine Below.drew ?_) | (with_reducible refine Below.setCell ?_ ?_ _) | (with_reducible refine Rd.below_setRow ?_ ?_ _) | go_size | (simp only [World.size_alloc]; omega) | omega)
  have hRW : blk W w.heap.size = some (.cells stp0 57 (0, 0)) := by rw [hW]; exact (blk_below ((Below.refl w3.heap.size w3).alloc (Nat.le_refl _) _) _ hs3).trans hR3
  have hWs := blk_lt hB0
  have hBW : w.heap.size + 1 ≤ W.heap.size := by omega
  have hBt : w.heap.size + 1 ≤ w3.heap.size := hs3
  have hZX := fun X (hE : Below (w.heap.size + 1) W X) => hzr.below (L4.trans (hE.mono (Nat.le_succ _))) (Nat.le_refl _)
  clear hW hR3 L3
  refine PredT.region_of (W := W) ((w.heap.size + 1)) hBW [21, 23] [
      fun y9 => blk y9 w3.heap.size = some (.cells (stpH x y 0 0 (.slice none 0 0)) 57 (0, 0)),
      fun y9 => ∃ ww : Int, 1 ≤ ww ∧ ww ≤ 4 ∧ x + ww ≤ n ∧ blk y9 w3.heap.size = some (.cells (stpH x y ww 0 (.slice none 0 0)) 57 (0, 0)),
      fun y9 => ∃ ww hh : Int, 1 ≤ ww ∧ ww ≤ 4 ∧ x + ww ≤ n ∧ 1 ≤ hh ∧ hh ≤ 4 ∧ y + hh ≤ n ∧ blk y9 w3.heap.size = some (.cells (stpH x y ww hh (.slice none 0 0)) 57 (0, 0))] [
      PredT.At 0 (.slice a len cap),
      PredT.At 0 (.int .i64 0),
      PredT.At 0 (.int .i64 2),
      PredT.At 0 (.int .i64 n),
      PredT.At 0 (.pointer (some ⟨w3.heap.size, 18, none⟩)),
      PredT.At 0 (.int .i64 x),
      PredT.At 0 (.int .i64 ((n : Int) - x)),
      PredT.At 0 (.int .i64 (min 4 ((n : Int) - x))),
      Ever (fun u => ∃ z : Int, u = .int .i64 z ∧ 0 ≤ z ∧ z < min 4 ((n : Int) - x)),
      Ever (fun u => ∃ z : Int, u = .int .i64 z ∧ 1 ≤ z ∧ z ≤ 4 ∧ x + z ≤ n),
      PredT.At 0 (.slice a len cap),
      PredT.At 0 (.int .i64 0),
      PredT.At 0 (.int .i64 3),
      PredT.At 0 (.int .i64 n),
      PredT.At 0 (.pointer (some ⟨w3.heap.size, 19, none⟩)),
      PredT.At 0 (.int .i64 y),
      PredT.At 0 (.int .i64 ((n : Int) - y)),
      PredT.At 0 (.int .i64 (min 4 ((n : Int) - y))),
      Ever (fun u => ∃ z : Int, u = .int .i64 z ∧ 0 ≤ z ∧ z < min 4 ((n : Int) - y)),
      Ever (fun u => ∃ z : Int, u = .int .i64 z ∧ 1 ≤ z ∧ z ≤ 4 ∧ y + z ≤ n),
      PredT.At 0 (.pointer (some ⟨w3.heap.size, 20, none⟩)),
      PredT.At 0 (undef),
      PredT.At 0 (.pointer (some ⟨w3.heap.size, 21, none⟩)),
      PredT.At 0 (undef)] (by kernel_rfl) (by kernel_rfl) (by kernel_rfl) (by decide) (by decide) ?_ ?_ ?_ ?_ ?_ ?_
  · exact ⟨PredT.at_stab _ _ _ _, PredT.at_stab _ _ _ _, PredT.at_stab _ _ _ _, PredT.at_stab _ _ _ _, PredT.at_stab _ _ _ _, PredT.at_stab _ _ _ _, PredT.at_stab _ _ _ _, PredT.at_stab _ _ _ _, ever_stab _ _ _, ever_stab _ _ _, PredT.at_stab _ _ _ _, PredT.at_stab _ _ _ _, PredT.at_stab _ _ _ _, PredT.at_stab _ _ _ _, PredT.at_stab _ _ _ _, PredT.at_stab _ _ _ _, PredT.at_stab _ _ _ _, PredT.at_stab _ _ _ _, ever_stab _ _ _, ever_stab _ _ _, PredT.at_stab _ _ _ _, PredT.at_stab _ _ _ _, PredT.at_stab _ _ _ _, PredT.at_stab _ _ _ _, trivial⟩
  · intro q hq
    rcases List.mem_cons.1 hq with rfl | hq
    · exact fun y y' h hb => (blk_below hb _ (blk_lt h)).trans h
    rcases List.mem_cons.1 hq with rfl | hq
    · exact fun y y' ⟨ww, h1, h2, h3, h⟩ hb => ⟨ww, h1, h2, h3, (blk_below hb _ (blk_lt h)).trans h⟩
    rcases List.mem_cons.1 hq with rfl | hq
    · exact fun y y' ⟨ww, hh, h1, h2, h3, h4, h5, h6, h⟩ hb => ⟨ww, hh, h1, h2, h3, h4, h5, h6, (blk_below hb _ (blk_lt h)).trans h⟩
    cases hq
  · exact hB0
  · refine ⟨.inr ?_, .inr ?_, .inr ?_, .inr ?_, .inr ?_, .inr ?_, .inr ?_, .inr ?_, .inr ?_, .inr ?_, .inr ?_, .inr ?_, .inr ?_, .inr ?_, .inr ?_, .inr ?_, .inr ?_, .inr ?_, .inr ?_, .inr ?_, .inr ?_, .inl rfl, .inr ?_, .inl rfl, trivial⟩
    · intro b9 X ph hE hd hn hS hV hI hF
      have r1 : b9.tmps[1]?.getD undef = .slice a len cap := (hn 1 (by kernel_rfl)).trans rfl
      exact Pred.yields_run (v := .slice a len cap) (Pred.wanted_none rfl) (by go_simp) ⟨Below.refl _ _, rfl, Nat.zero_le _⟩
    · intro b9 X ph hE hd hn hS hV hI hF
      have r3 : b9.tmps[3]?.getD undef = .int .i64 0 := (hn 3 (by kernel_rfl)).trans rfl
      exact Pred.yields_run (v := .int .i64 0) (Pred.wanted_none rfl) (by go_simp) ⟨Below.refl _ _, rfl, Nat.zero_le _⟩
    · intro b9 X ph hE hd hn hS hV hI hF
      obtain ⟨r73, j73⟩ : PredT.At 0 (.int .i64 0) (b9.tmps[73]?.getD undef) X ph := hV 1 _ 73 rfl rfl (Pred.waits_near (by kernel_rfl) (by kernel_rfl))
      have h7 := IntWalk.i64_in 2 (by omega)
      exact Pred.yields_run (v := .int .i64 2) (Pred.wanted_none rfl) (by go_simp) ⟨Below.refl _ _, rfl, Nat.zero_le _⟩
    · intro b9 X ph hE hd hn hS hV hI hF
      have r9 : b9.tmps[9]?.getD undef = .int .i64 n := (hn 9 (by kernel_rfl)).trans rfl
      exact Pred.yields_run (v := .int .i64 n) (Pred.wanted_none rfl) (by go_simp) ⟨Below.refl _ _, rfl, Nat.zero_le _⟩
    · intro b9 X ph hE hd hn hS hV hI hF
      have r12 : b9.tmps[12]?.getD undef = .pointer (some ⟨w3.heap.size, 0, none⟩) := (hn 12 (by kernel_rfl)).trans rfl
      exact Pred.yields_run (v := .pointer (some ⟨w3.heap.size, 18, none⟩)) (Pred.wanted_none rfl) (by go_simp) ⟨Below.refl _ _, rfl, Nat.zero_le _⟩
    · intro b9 X ph hE hd hn hS hV hI hF
      obtain ⟨r76, j76⟩ : PredT.At 0 (.pointer (some ⟨w3.heap.size, 18, none⟩)) (b9.tmps[76]?.getD undef) X ph := hV 4 _ 76 rfl rfl (Pred.waits_near (by kernel_rfl) (by kernel_rfl))
      have hp0 : ph = 0 := Nat.le_zero.1 (hF 0 21 rfl (Pred.waits_more 6 _ _ (Nat.le_of_ble_eq_true (by kernel_rfl)) (by kernel_rfl)))
      subst hp0
      have hb0 : (fun y9 => blk y9 w3.heap.size = some (.cells (stpH x y 0 0 (.slice none 0 0)) 57 (0, 0))) X := hS
      have z : X.cell? ⟨w3.heap.size, 18, none⟩ = some (.int .i64 x) := by rw [blk_cell hb0]; first | done | rfl
      exact Pred.yields_run (v := .int .i64 x) (Pred.wanted_none rfl) (by go_simp) ⟨Below.refl _ _, rfl, Nat.zero_le _⟩
    · intro b9 X ph hE hd hn hS hV hI hF
      obtain ⟨r75, j75⟩ : PredT.At 0 (.int .i64 n) (b9.tmps[75]?.getD undef) X ph := hV 3 _ 75 rfl rfl (Pred.waits_near (by kernel_rfl) (by kernel_rfl))
      obtain ⟨r77, j77⟩ : PredT.At 0 (.int .i64 x) (b9.tmps[77]?.getD undef) X ph := hV 5 _ 77 rfl rfl (Pred.waits_near (by kernel_rfl) (by kernel_rfl))
      have h8 := IntWalk.i64_in ((n : Int) - x) (by omega)
      exact Pred.yields_run (v := .int .i64 ((n : Int) - x)) (Pred.wanted_none rfl) (by go_simp) ⟨Below.refl _ _, rfl, Nat.zero_le _⟩
    · intro b9 X ph hE hd hn hS hV hI hF
      obtain ⟨r78, j78⟩ : PredT.At 0 (.int .i64 ((n : Int) - x)) (b9.tmps[78]?.getD undef) X ph := hV 6 _ 78 rfl rfl (Pred.waits_near (by kernel_rfl) (by kernel_rfl))
      have h7 : (if (n : Int) - x < 4 then (n : Int) - x else 4) = min 4 ((n : Int) - x) := by split <;> omega
      exact Pred.yields_run (v := .int .i64 (min 4 ((n : Int) - x))) (Pred.wanted_none rfl) (by go_simp) ⟨Below.refl _ _, rfl, Nat.zero_le _⟩
    · intro b9 X ph hE hd hn hS hV hI hF
      obtain ⟨r72, j72⟩ : PredT.At 0 (.slice a len cap) (b9.tmps[72]?.getD undef) X ph := hV 0 _ 72 rfl rfl (Pred.waits_near (by kernel_rfl) (by kernel_rfl))
      obtain ⟨r74, j74⟩ : PredT.At 0 (.int .i64 2) (b9.tmps[74]?.getD undef) X ph := hV 2 _ 74 rfl rfl (Pred.waits_near (by kernel_rfl) (by kernel_rfl))
      obtain ⟨r79, j79⟩ : PredT.At 0 (.int .i64 (min 4 ((n : Int) - x))) (b9.tmps[79]?.getD undef) X ph := hV 7 _ 79 rfl rfl (Pred.waits_near (by kernel_rfl) (by kernel_rfl))
      refine Pred.yields_call (f := 39) (args := #[.slice a len cap, .int .i64 2, .int .i64 (min 4 ((n : Int) - x))]) (Pred.wanted_none rfl) (by go_simp) ?_
      refine (at17 a len cap 2 (min 4 ((n : Int) - x)) zs X (hZX X hE) hz hlen (by omega) (by omega) (by omega)).mono ?_
      rintro e w8 ⟨⟨z, rfl, hz1, hz2⟩, hb⟩
      exact ⟨_, rfl, hb, z, rfl, hz1, hz2⟩
    · intro b9 X ph hE hd hn hS hV hI hF
      have r80 : (fun u => ∃ z : Int, u = .int .i64 z ∧ 0 ≤ z ∧ z < min 4 ((n : Int) - x)) (b9.tmps[80]?.getD undef) := hV 8 _ 80 rfl rfl (Pred.waits_near (by kernel_rfl) (by kernel_rfl))
      obtain ⟨z, hv, hz1, hz2⟩ := r80
      have rde : b9.tmps[80]?.getD undef = .int .i64 z := hv
      have h8 := IntWalk.i64_in (1 + z) (by omega)
      exact Pred.yields_run (v := .int .i64 (1 + z)) (Pred.wanted_none rfl) (by go_simp) ⟨Below.refl _ _, 1 + z, rfl, by omega, by omega, by omega⟩
    · intro b9 X ph hE hd hn hS hV hI hF
      have r1 : b9.tmps[1]?.getD undef = .slice a len cap := (hn 1 (by kernel_rfl)).trans rfl
      exact Pred.yields_run (v := .slice a len cap) (Pred.wanted_none rfl) (by go_simp) ⟨Below.refl _ _, rfl, Nat.zero_le _⟩
    · intro b9 X ph hE hd hn hS hV hI hF
      have r3 : b9.tmps[3]?.getD undef = .int .i64 0 := (hn 3 (by kernel_rfl)).trans rfl
      exact Pred.yields_run (v := .int .i64 0) (Pred.wanted_none rfl) (by go_simp) ⟨Below.refl _ _, rfl, Nat.zero_le _⟩
    · intro b9 X ph hE hd hn hS hV hI hF
      obtain ⟨r83, j83⟩ : PredT.At 0 (.int .i64 0) (b9.tmps[83]?.getD undef) X ph := hV 11 _ 83 rfl rfl (Pred.waits_near (by kernel_rfl) (by kernel_rfl))
      have h7 := IntWalk.i64_in 3 (by omega)
      exact Pred.yields_run (v := .int .i64 3) (Pred.wanted_none rfl) (by go_simp) ⟨Below.refl _ _, rfl, Nat.zero_le _⟩
    · intro b9 X ph hE hd hn hS hV hI hF
      have r9 : b9.tmps[9]?.getD undef = .int .i64 n := (hn 9 (by kernel_rfl)).trans rfl
      exact Pred.yields_run (v := .int .i64 n) (Pred.wanted_none rfl) (by go_simp) ⟨Below.refl _ _, rfl, Nat.zero_le _⟩
    · intro b9 X ph hE hd hn hS hV hI hF
      have r12 : b9.tmps[12]?.getD undef = .pointer (some ⟨w3.heap.size, 0, none⟩) := (hn 12 (by kernel_rfl)).trans rfl
      exact Pred.yields_run (v := .pointer (some ⟨w3.heap.size, 19, none⟩)) (Pred.wanted_none rfl) (by go_simp) ⟨Below.refl _ _, rfl, Nat.zero_le _⟩
    · intro b9 X ph hE hd hn hS hV hI hF
      obtain ⟨r86, j86⟩ : PredT.At 0 (.pointer (some ⟨w3.heap.size, 19, none⟩)) (b9.tmps[86]?.getD undef) X ph := hV 14 _ 86 rfl rfl (Pred.waits_near (by kernel_rfl) (by kernel_rfl))
      have hp0 : ph = 0 := Nat.le_zero.1 (hF 0 21 rfl (Pred.waits_more 6 _ _ (Nat.le_of_ble_eq_true (by kernel_rfl)) (by kernel_rfl)))
      subst hp0
      have hb0 : (fun y9 => blk y9 w3.heap.size = some (.cells (stpH x y 0 0 (.slice none 0 0)) 57 (0, 0))) X := hS
      have z : X.cell? ⟨w3.heap.size, 19, none⟩ = some (.int .i64 y) := by rw [blk_cell hb0]; first | done | rfl
      exact Pred.yields_run (v := .int .i64 y) (Pred.wanted_none rfl) (by go_simp) ⟨Below.refl _ _, rfl, Nat.zero_le _⟩
    · intro b9 X ph hE hd hn hS hV hI hF
      obtain ⟨r85, j85⟩ : PredT.At 0 (.int .i64 n) (b9.tmps[85]?.getD undef) X ph := hV 13 _ 85 rfl rfl (Pred.waits_near (by kernel_rfl) (by kernel_rfl))
      obtain ⟨r87, j87⟩ : PredT.At 0 (.int .i64 y) (b9.tmps[87]?.getD undef) X ph := hV 15 _ 87 rfl rfl (Pred.waits_near (by kernel_rfl) (by kernel_rfl))
      have h8 := IntWalk.i64_in ((n : Int) - y) (by omega)
      exact Pred.yields_run (v := .int .i64 ((n : Int) - y)) (Pred.wanted_none rfl) (by go_simp) ⟨Below.refl _ _, rfl, Nat.zero_le _⟩
    · intro b9 X ph hE hd hn hS hV hI hF
      obtain ⟨r88, j88⟩ : PredT.At 0 (.int .i64 ((n : Int) - y)) (b9.tmps[88]?.getD undef) X ph := hV 16 _ 88 rfl rfl (Pred.waits_near (by kernel_rfl) (by kernel_rfl))
      have h7 : (if (n : Int) - y < 4 then (n : Int) - y else 4) = min 4 ((n : Int) - y) := by split <;> omega
      exact Pred.yields_run (v := .int .i64 (min 4 ((n : Int) - y))) (Pred.wanted_none rfl) (by go_simp) ⟨Below.refl _ _, rfl, Nat.zero_le _⟩
    · intro b9 X ph hE hd hn hS hV hI hF
      obtain ⟨r82, j82⟩ : PredT.At 0 (.slice a len cap) (b9.tmps[82]?.getD undef) X ph := hV 10 _ 82 rfl rfl (Pred.waits_near (by kernel_rfl) (by kernel_rfl))
      obtain ⟨r84, j84⟩ : PredT.At 0 (.int .i64 3) (b9.tmps[84]?.getD undef) X ph := hV 12 _ 84 rfl rfl (Pred.waits_near (by kernel_rfl) (by kernel_rfl))
      obtain ⟨r89, j89⟩ : PredT.At 0 (.int .i64 (min 4 ((n : Int) - y))) (b9.tmps[89]?.getD undef) X ph := hV 17 _ 89 rfl rfl (Pred.waits_near (by kernel_rfl) (by kernel_rfl))
      refine Pred.yields_call (f := 39) (args := #[.slice a len cap, .int .i64 3, .int .i64 (min 4 ((n : Int) - y))]) (Pred.wanted_none rfl) (by go_simp) ?_
      refine (at17 a len cap 3 (min 4 ((n : Int) - y)) zs X (hZX X hE) hz hlen (by omega) (by omega) (by omega)).mono ?_
      rintro e w8 ⟨⟨z, rfl, hz1, hz2⟩, hb⟩
      exact ⟨_, rfl, hb, z, rfl, hz1, hz2⟩
    · intro b9 X ph hE hd hn hS hV hI hF
      have r90 : (fun u => ∃ z : Int, u = .int .i64 z ∧ 0 ≤ z ∧ z < min 4 ((n : Int) - y)) (b9.tmps[90]?.getD undef) := hV 18 _ 90 rfl rfl (Pred.waits_near (by kernel_rfl) (by kernel_rfl))
      obtain ⟨z, hv, hz1, hz2⟩ := r90
      have rde : b9.tmps[90]?.getD undef = .int .i64 z := hv
      have h8 := IntWalk.i64_in (1 + z) (by omega)
      exact Pred.yields_run (v := .int .i64 (1 + z)) (Pred.wanted_none rfl) (by go_simp) ⟨Below.refl _ _, 1 + z, rfl, by omega, by omega, by omega⟩
    · intro b9 X ph hE hd hn hS hV hI hF
      have r12 : b9.tmps[12]?.getD undef = .pointer (some ⟨w3.heap.size, 0, none⟩) := (hn 12 (by kernel_rfl)).trans rfl
      exact Pred.yields_run (v := .pointer (some ⟨w3.heap.size, 20, none⟩)) (Pred.wanted_none rfl) (by go_simp) ⟨Below.refl _ _, rfl, Nat.zero_le _⟩
    · intro b9 X ph hE hd hn hS hV hI hF
      have r12 : b9.tmps[12]?.getD undef = .pointer (some ⟨w3.heap.size, 0, none⟩) := (hn 12 (by kernel_rfl)).trans rfl
      exact Pred.yields_run (v := .pointer (some ⟨w3.heap.size, 21, none⟩)) (Pred.wanted_none rfl) (by go_simp) ⟨Below.refl _ _, rfl, Nat.zero_le _⟩
  · refine ⟨?_, ?_, trivial⟩
    · refine ⟨_, rfl, fun k hk => (by cases hk), fun b9 X hE hd hn hS hV hI => ?_⟩
      obtain ⟨r92, j92⟩ : PredT.At 0 (.pointer (some ⟨w3.heap.size, 20, none⟩)) (b9.tmps[92]?.getD undef) X 0 := hV 20 _ 92 rfl rfl (Pred.waits_near (by kernel_rfl) (by kernel_rfl))
      have r81 : (fun u => ∃ z : Int, u = .int .i64 z ∧ 1 ≤ z ∧ z ≤ 4 ∧ x + z ≤ n) (b9.tmps[81]?.getD undef) := hV 9 _ 81 rfl rfl (Pred.waits_near (by kernel_rfl) (by kernel_rfl))
      replace hS : (fun y9 => blk y9 w3.heap.size = some (.cells (stpH x y 0 0 (.slice none 0 0)) 57 (0, 0))) X := hS
      obtain ⟨ww, hv, h1, h2, h3⟩ := r81
      have rde : b9.tmps[81]?.getD undef = .int .i64 ww := hv
      have hb0 : blk X w3.heap.size = some (.cells (stpH x y 0 0 (.slice none 0 0)) 57 (0, 0)) := hS
      have f0 := blk_frozen hb0 20
      have cz : X.cell? ⟨w3.heap.size, 20, none⟩ = some (.int .i64 0) := by rw [blk_cell hb0]; first | done | rfl
      refine yields_skip (w' := X.setCell ⟨w3.heap.size, 20, none⟩ (.int .i64 ww)) (Pred.wanted_none rfl) (by go_simp) ⟨?_, ⟨ww, h1, h2, h3, blk_set X w3.heap.size 20 _ _ _ hb0⟩, rfl, Nat.zero_le _⟩
      exact ⟨rfl, rfl, rfl, by simp, fun k1 h1 => heap_setCell_other _ _ _ _ (by show k1 ≠ w3.heap.size; omega)⟩
    · refine ⟨_, rfl, fun k hk => (by cases hk; exact Pred.waits_near (by kernel_rfl) (by kernel_rfl)), fun b9 X hE hd hn hS hV hI => ?_⟩
      obtain ⟨r93, j93⟩ : PredT.At 0 (.pointer (some ⟨w3.heap.size, 21, none⟩)) (b9.tmps[93]?.getD undef) X 1 := hV 22 _ 93 rfl rfl (Pred.waits_near (by kernel_rfl) (by kernel_rfl))
      have r91 : (fun u => ∃ z : Int, u = .int .i64 z ∧ 1 ≤ z ∧ z ≤ 4 ∧ y + z ≤ n) (b9.tmps[91]?.getD undef) := hV 19 _ 91 rfl rfl (Pred.waits_near (by kernel_rfl) (by kernel_rfl))
      replace hS : (fun y9 => ∃ ww : Int, 1 ≤ ww ∧ ww ≤ 4 ∧ x + ww ≤ n ∧ blk y9 w3.heap.size = some (.cells (stpH x y ww 0 (.slice none 0 0)) 57 (0, 0))) X := hS
      obtain ⟨hh, hv, h4, h5, h6⟩ := r91
      have rde : b9.tmps[91]?.getD undef = .int .i64 hh := hv
      obtain ⟨ww, h1, h2, h3, hb0⟩ := hS
      have f0 := blk_frozen hb0 21
      have cz : X.cell? ⟨w3.heap.size, 21, none⟩ = some (.int .i64 0) := by rw [blk_cell hb0]; first | done | rfl
      refine yields_skip (w' := X.setCell ⟨w3.heap.size, 21, none⟩ (.int .i64 hh)) (Pred.wanted_none rfl) (by go_simp) ⟨?_, ⟨ww, hh, h1, h2, h3, h4, h5, h6, blk_set X w3.heap.size 21 _ _ _ hb0⟩, rfl, Nat.zero_le _⟩
      exact ⟨rfl, rfl, rfl, by simp, fun k1 h1 => heap_setCell_other _ _ _ _ (by show k1 ≠ w3.heap.size; omega)⟩
  intro v X hE hS hv
  replace hS : (fun y9 => ∃ ww hh : Int, 1 ≤ ww ∧ ww ≤ 4 ∧ x + ww ≤ n ∧ 1 ≤ hh ∧ hh ≤ 4 ∧ y + hh ≤ n ∧ blk y9 w3.heap.size = some (.cells (stpH x y ww hh (.slice none 0 0)) 57 (0, 0))) X := hS
  have e0 : v 0 = .slice a len cap := (hv 0 _ 72 rfl rfl).1
  have e1 : v 1 = .int .i64 0 := (hv 1 _ 73 rfl rfl).1
  have e2 : v 2 = .int .i64 2 := (hv 2 _ 74 rfl rfl).1
  have e3 : v 3 = .int .i64 n := (hv 3 _ 75 rfl rfl).1
  have e4 : v 4 = .pointer (some ⟨w3.heap.size, 18, none⟩) := (hv 4 _ 76 rfl rfl).1
  have e5 : v 5 = .int .i64 x := (hv 5 _ 77 rfl rfl).1
  have e6 : v 6 = .int .i64 ((n : Int) - x) := (hv 6 _ 78 rfl rfl).1
  have e7 : v 7 = .int .i64 (min 4 ((n : Int) - x)) := (hv 7 _ 79 rfl rfl).1
  generalize hg8 : v 8 = vv8
  generalize hg9 : v 9 = vv9
  have e10 : v 10 = .slice a len cap := (hv 10 _ 82 rfl rfl).1
  have e11 : v 11 = .int .i64 0 := (hv 11 _ 83 rfl rfl).1
  have e12 : v 12 = .int .i64 3 := (hv 12 _ 84 rfl rfl).1
  have e13 : v 13 = .int .i64 n := (hv 13 _ 85 rfl rfl).1
  have e14 : v 14 = .pointer (some ⟨w3.heap.size, 19, none⟩) := (hv 14 _ 86 rfl rfl).1
  have e15 : v 15 = .int .i64 y := (hv 15 _ 87 rfl rfl).1
  have e16 : v 16 = .int .i64 ((n : Int) - y) := (hv 16 _ 88 rfl rfl).1
  have e17 : v 17 = .int .i64 (min 4 ((n : Int) - y)) := (hv 17 _ 89 rfl rfl).1
  generalize hg18 : v 18 = vv18
  generalize hg19 : v 19 = vv19
  have e20 : v 20 = .pointer (some ⟨w3.heap.size, 20, none⟩) := (hv 20 _ 92 rfl rfl).1
  have e22 : v 22 = .pointer (some ⟨w3.heap.size, 21, none⟩) := (hv 22 _ 93 rfl rfl).1
  simp only [Pred.putsF_cons, Pred.putsF_nil, Nat.zero_add, Nat.reduceAdd, e0, e1, e2, e3, e4, e5, e6, e7, hg8, hg9, e10, e11, e12, e13, e14, e15, e16, e17, hg18, hg19, e20, e22, Act.put, List.setIfInBounds_toArray, List.set_cons_zero, List.set_cons_succ]
  clear e0 e1 e2 e3 e4 e5 e6 e7 hg8 hg9 e10 e11 e12 e13 e14 e15 e16 e17 hg18 hg19 e20 e22 hv
  obtain ⟨ww, hh, h1, h2, h3, h4, h5, h6, hb⟩ := hS
  obtain ⟨ww, rfl⟩ : ∃ k : Nat, ww = k := ⟨ww.toNat, by omega⟩
  obtain ⟨hh, rfl⟩ : ∃ k : Nat, hh = k := ⟨hh.toNat, by omega⟩
  obtain ⟨q, hq⟩ : ∃ q, q = ww * hh := ⟨_, rfl⟩
  have hq1 : (ww : Int) * (hh : Int) = (q : Int) := by rw [hq]; push_cast; rfl
  have hq2 : q ≤ 4 * 4 := by rw [hq]; exact Nat.mul_le_mul (by omega) (by omega)
  have HQ := Lib.hid hq
  have hXs := hE.size
  have hT0 : Tp X (w.heap.size + 1) w3.heap.size (stpH x y ww hh) 57 (.slice none 0 0) [] := ⟨hBt, hb, World.ownsRow_nil _ _ _ _⟩
  have hRX := (blk_below hE _ (Nat.lt_succ_self _)).trans hRW
  have L5 : Below w.heap.size w X := L4.trans (hE.mono (Nat.le_succ _))
  replace hZX := fun Y (hE2 : Below (w.heap.size + 1) X Y) => hZX Y (hE.trans hE2)
  clear hq hB0 hRW hb hBW hE L4
  go_wp2_with fail
  go_loopw [13] (fun i Y => ∃ k : Nat, k ≤ q ∧ i = .int .i64 k ∧ Hid (∃ ts v, ts.length = k ∧ RB ts ∧ Tp Y (w.heap.size + 1) w3.heap.size (stpH x y ww hh) 57 v ts) ∧ Below (w.heap.size + 1) X Y) (fun i _ => q - (intOf i).toNat)
  case atStart => exact ⟨0, by omega, rfl, Lib.hid ⟨[], _, rfl, fun p hp => (by cases hp), hT0⟩, Below.refl _ _⟩
  case round =>
    obtain ⟨k, hk, rfl, HB, HL⟩ := hrel
    rename World => Y
    clear hT0
    have hBW := HL.size
    obtain ⟨ts, v0, hts, hRB, hT⟩ := HB.out
    have c20 : Y.cell? ⟨w3.heap.size, 20, none⟩ = some (.int .i64 ww) := by rw [blk_cell hT.head]; first | done | rfl
    have c21 : Y.cell? ⟨w3.heap.size, 21, none⟩ = some (.int .i64 hh) := by rw [blk_cell hT.head]; first | done | rfl
    by_cases hlt : k < q
    · have hlt' : (k : Int) < (q : Int) := by omega
      have hBW : w.heap.size + 1 ≤ Y.heap.size := by omega
      replace hZX := fun Z (hE2 : Below (w.heap.size + 1) Y Z) => hZX Z (HL.trans hE2)
      have fin : ∀ (X : World) (v2 : Value) (p : Px), p.B → Tp X (w.heap.size + 1) w3.heap.size (stpH x y ww hh) 57 v2 (ts ++ [p]) → ∃ ts v, ts.length = k + 1 ∧ RB ts ∧ Tp X (w.heap.size + 1) w3.heap.size (stpH x y ww hh) 57 v ts :=
        fun X v2 p hp hT => ⟨ts ++ [p], v2, by rw [List.length_append, hts]; rfl, fun z hz => (List.mem_append.1 hz).elim (hRB z) (fun h => by simp at h; subst h; exact hp), hT⟩
      have FIN := Lib.hid fin
      have hk2 : ts.length ≤ 1024 := by omega
      clear fin hts HB
      go_upto_region 20 with (fail)
      refine PredT.region_of (W := Y) ((w.heap.size + 1)) hBW [10, 12] [
          fun y9 => Tp y9 (w.heap.size + 1) w3.heap.size (stpH x y ww hh) 57 v0 ts,
          fun y9 => blk y9 w3.heap.size = some (.cells ((stpH x y ww hh) v0) 57 (0, 0)),
          fun y9 => ∃ (v2 : Value) (p : Px), p.B ∧ Tp y9 (w.heap.size + 1) w3.heap.size (stpH x y ww hh) 57 v2 (ts ++ [p])] [
          PredT.At 0 (.pointer (some ⟨w3.heap.size, 22, none⟩)),
          PredT.At 0 (v0),
          PredT.At 0 (.slice a len cap),
          PredT.At 0 (.int .i64 0),
          PredT.At 0 (.int .i64 4),
          PredT.At 0 (.int .i64 k),
          PredT.At 0 (.int .i64 (4 + (k : Int))),
          PredT.When 0 (fun u _ => ∃ z : Int, u = .int .i64 z ∧ 0 ≤ z ∧ z < 1000),
          PredT.When 0 (fun u _ => ∃ p : Px, u = p.v ∧ p.B),
          PredT.When 0 (fun u y9 => ∃ p : Px, p.B ∧ OnePx p u y9),
          PredT.When 1 (fun u y9 => blk y9 w3.heap.size = some (.cells ((stpH x y ww hh) v0) 57 (0, 0)) ∧ ∃ p : Px, p.B ∧ y9.ownsRow (w.heap.size + 1) 39 4 u (ts ++ [p]).length (cp (ts ++ [p]))),
          PredT.At 0 (.pointer (some ⟨w3.heap.size, 22, none⟩)),
          PredT.At 0 (undef)] (by kernel_rfl) (by kernel_rfl) (by kernel_rfl) (by decide) (by decide) ?_ ?_ ?_ ?_ ?_ ?_
      · exact ⟨PredT.at_stab _ _ _ _, PredT.at_stab _ _ _ _, PredT.at_stab _ _ _ _, PredT.at_stab _ _ _ _, PredT.at_stab _ _ _ _, PredT.at_stab _ _ _ _, PredT.at_stab _ _ _ _, PredT.when_stab _ _ _ (fun u y y' h _ => h), PredT.when_stab _ _ _ (fun u y y' h _ => h), PredT.when_stab _ _ _ (fun u y y' ⟨p, h1, h2⟩ hb => ⟨p, h1, onepx_stab p _ _ _ h2 hb⟩), PredT.when_stab _ _ _ (fun u y y' ⟨h0, p, h1, h2⟩ hb => ⟨(blk_below hb _ (blk_lt h0)).trans h0, p, h1, owns_below' h2 hb⟩), PredT.at_stab _ _ _ _, PredT.at_stab _ _ _ _, trivial⟩
      · intro q hq
        rcases List.mem_cons.1 hq with rfl | hq
        · exact fun y y' h hb => h.below hb
        rcases List.mem_cons.1 hq with rfl | hq
        · exact fun y y' h hb => (blk_below hb _ (blk_lt h)).trans h
        rcases List.mem_cons.1 hq with rfl | hq
        · exact fun y y' ⟨v2, p, h1, h2⟩ hb => ⟨v2, p, h1, h2.below hb⟩
        cases hq
      · exact hT
      · refine ⟨.inr ?_, .inr ?_, .inr ?_, .inr ?_, .inr ?_, .inr ?_, .inr ?_, .inr ?_, .inr ?_, .inr ?_, .inl rfl, .inr ?_, .inl rfl, trivial⟩
        · intro b9 X ph hE hd hn hS hV hI hF
          have r12 : b9.tmps[12]?.getD undef = .pointer (some ⟨w3.heap.size, 0, none⟩) := (hn 12 (by kernel_rfl)).trans rfl
          exact Pred.yields_run (v := .pointer (some ⟨w3.heap.size, 22, none⟩)) (Pred.wanted_none rfl) (by go_simp) ⟨Below.refl _ _, rfl, Nat.zero_le _⟩
        · intro b9 X ph hE hd hn hS hV hI hF
          obtain ⟨r103, j103⟩ : PredT.At 0 (.pointer (some ⟨w3.heap.size, 22, none⟩)) (b9.tmps[103]?.getD undef) X ph := hV 0 _ 103 rfl rfl (Pred.waits_near (by kernel_rfl) (by kernel_rfl))
          have hp0 : ph = 0 := Nat.le_zero.1 (hF 0 10 rfl (Pred.waits_more 6 _ _ (Nat.le_of_ble_eq_true (by kernel_rfl)) (by kernel_rfl)))
          subst hp0
          have hb0 : (fun y9 => Tp y9 (w.heap.size + 1) w3.heap.size (stpH x y ww hh) 57 v0 ts) X := hS
          have z : X.cell? ⟨w3.heap.size, 22, none⟩ = some v0 := by rw [blk_cell hb0.head]; first | done | rfl
          obtain ⟨a9, c9, rfl, _⟩ := owns_val hb0.row
          exact Pred.yields_run (v := .slice a9 ts.length c9) (Pred.wanted_none rfl) (by go_simp) ⟨Below.refl _ _, rfl, Nat.zero_le _⟩
        · intro b9 X ph hE hd hn hS hV hI hF
          have r1 : b9.tmps[1]?.getD undef = .slice a len cap := (hn 1 (by kernel_rfl)).trans rfl
          exact Pred.yields_run (v := .slice a len cap) (Pred.wanted_none rfl) (by go_simp) ⟨Below.refl _ _, rfl, Nat.zero_le _⟩
        · intro b9 X ph hE hd hn hS hV hI hF
          have r3 : b9.tmps[3]?.getD undef = .int .i64 0 := (hn 3 (by kernel_rfl)).trans rfl
          exact Pred.yields_run (v := .int .i64 0) (Pred.wanted_none rfl) (by go_simp) ⟨Below.refl _ _, rfl, Nat.zero_le _⟩
        · intro b9 X ph hE hd hn hS hV hI hF
          obtain ⟨r106, j106⟩ : PredT.At 0 (.int .i64 0) (b9.tmps[106]?.getD undef) X ph := hV 3 _ 106 rfl rfl (Pred.waits_near (by kernel_rfl) (by kernel_rfl))
          have h7 := IntWalk.i64_in 4 (by omega)
          exact Pred.yields_run (v := .int .i64 4) (Pred.wanted_none rfl) (by go_simp) ⟨Below.refl _ _, rfl, Nat.zero_le _⟩
        · intro b9 X ph hE hd hn hS hV hI hF
          have r13 : b9.tmps[13]?.getD undef = .int .i64 k := (hn 13 (by kernel_rfl)).trans rfl
          exact Pred.yields_run (v := .int .i64 k) (Pred.wanted_none rfl) (by go_simp) ⟨Below.refl _ _, rfl, Nat.zero_le _⟩
        · intro b9 X ph hE hd hn hS hV hI hF
          obtain ⟨r107, j107⟩ : PredT.At 0 (.int .i64 4) (b9.tmps[107]?.getD undef) X ph := hV 4 _ 107 rfl rfl (Pred.waits_near (by kernel_rfl) (by kernel_rfl))
          obtain ⟨r108, j108⟩ : PredT.At 0 (.int .i64 k) (b9.tmps[108]?.getD undef) X ph := hV 5 _ 108 rfl rfl (Pred.waits_near (by kernel_rfl) (by kernel_rfl))
          have h8 := IntWalk.i64_in (4 + (k : Int)) (by omega)
          exact Pred.yields_run (v := .int .i64 (4 + (k : Int))) (Pred.wanted_none rfl) (by go_simp) ⟨Below.refl _ _, rfl, Nat.zero_le _⟩
        · intro b9 X ph hE hd hn hS hV hI hF
          obtain ⟨r105, j105⟩ : PredT.At 0 (.slice a len cap) (b9.tmps[105]?.getD undef) X ph := hV 2 _ 105 rfl rfl (Pred.waits_near (by kernel_rfl) (by kernel_rfl))
          obtain ⟨r109, j109⟩ : PredT.At 0 (.int .i64 (4 + (k : Int))) (b9.tmps[109]?.getD undef) X ph := hV 6 _ 109 rfl rfl (Pred.waits_near (by kernel_rfl) (by kernel_rfl))
          refine Pred.yields_call (f := 39) (args := #[.slice a len cap, .int .i64 (4 + (k : Int)), .int .i64 1000]) (Pred.wanted_none rfl) (by go_simp) ?_
          have hc := at17 a len cap (4 + k) 1000 zs X (hZX X hE) hz hlen (by omega) (by omega) (by omega)
          rw [show ((4 + k : Nat) : Int) = 4 + (k : Int) by push_cast; rfl] at hc
          refine hc.mono ?_
          rintro e w8 ⟨⟨z, rfl, hz1, hz2⟩, hb⟩
          exact ⟨_, rfl, hb, Nat.zero_le _, fun _ => ⟨z, rfl, hz1, hz2⟩⟩
        · intro b9 X ph hE hd hn hS hV hI hF
          obtain ⟨j110, r110⟩ : PredT.When 0 (fun u _ => ∃ z : Int, u = .int .i64 z ∧ 0 ≤ z ∧ z < 1000) (b9.tmps[110]?.getD undef) X ph := hV 7 _ 110 rfl rfl (Pred.waits_near (by kernel_rfl) (by kernel_rfl))
          obtain ⟨z, hv, hz1, hz2⟩ := r110 (Nat.le_zero.1 (hF 0 10 rfl (Pred.waits_more 6 _ _ (Nat.le_of_ble_eq_true (by kernel_rfl)) (by kernel_rfl))))
          have rde : b9.tmps[110]?.getD undef = .int .i64 z := hv
          clear r110
          refine Pred.yields_call (f := 40) (args := #[.int .i64 (z)]) (Pred.wanted_none rfl) (by go_simp) ?_
          refine (MpP.shade (z) X (by omega) (by omega)).mono ?_
          rintro e w8 ⟨⟨p, rfl, hp⟩, hb⟩
          exact ⟨_, rfl, hb, Nat.zero_le _, fun _ => ⟨p, rfl, hp⟩⟩
        · intro b9 X ph hE hd hn hS hV hI hF
          obtain ⟨j111, r111⟩ : PredT.When 0 (fun u _ => ∃ p : Px, u = p.v ∧ p.B) (b9.tmps[111]?.getD undef) X ph := hV 8 _ 111 rfl rfl (Pred.waits_near (by kernel_rfl) (by kernel_rfl))
          obtain ⟨p, hv, hp⟩ := r111 (Nat.le_zero.1 (hF 0 10 rfl (Pred.waits_more 6 _ _ (Nat.le_of_ble_eq_true (by kernel_rfl)) (by kernel_rfl))))
          have rde : b9.tmps[111]?.getD undef = p.v := hv
          clear r111
          exact Pred.yields_run (v := .slice (some ⟨X.heap.size, 0, none⟩) 1 1) (w' := X.alloc (.cells p.c 39)) (Pred.wanted_none rfl) (by go_simp) ⟨(Below.refl _ _).alloc (Nat.le_refl _) _, Nat.zero_le _, fun _ => ⟨p, hp, X.heap.size, rfl, blk_alloc_at _ _ _ rfl⟩⟩
        · intro b9 X ph hE hd hn hS hV hI hF
          have r12 : b9.tmps[12]?.getD undef = .pointer (some ⟨w3.heap.size, 0, none⟩) := (hn 12 (by kernel_rfl)).trans rfl
          exact Pred.yields_run (v := .pointer (some ⟨w3.heap.size, 22, none⟩)) (Pred.wanted_none rfl) (by go_simp) ⟨Below.refl _ _, rfl, Nat.zero_le _⟩
      · refine ⟨?_, ?_, trivial⟩
        · refine ⟨_, rfl, fun k hk => (by cases hk), fun b9 X hE hd hn hS hV hI => ?_⟩
          obtain ⟨r104, j104⟩ : PredT.At 0 (v0) (b9.tmps[104]?.getD undef) X 0 := hV 1 _ 104 rfl rfl (Pred.waits_near (by kernel_rfl) (by kernel_rfl))
          obtain ⟨j112, r112⟩ : PredT.When 0 (fun u y9 => ∃ p : Px, p.B ∧ OnePx p u y9) (b9.tmps[112]?.getD undef) X 0 := hV 9 _ 112 rfl rfl (Pred.waits_near (by kernel_rfl) (by kernel_rfl))
          replace hS : (fun y9 => Tp y9 (w.heap.size + 1) w3.heap.size (stpH x y ww hh) 57 v0 ts) X := hS
          obtain ⟨p, hp, g9, hg9, hgc⟩ := r112 rfl
          have hb0 : (fun y9 => Tp y9 (w.heap.size + 1) w3.heap.size (stpH x y ww hh) 57 v0 ts) X := hS
          have hXs := hE.size
          refine yields_app_px rfl (.tmp 104) (.tmp 112) rfl (w.heap.size + 1) v0 ts.length ts (by simpa [Act.eval] using r104) hb0.row g9 1 p (by simpa [Act.eval] using hg9) hgc (by omega) (by omega) ?_
          intro u y hown hgr
          have hbl := hb0.grown hgr (by decide)
          exact ⟨OctA.below_grownBy hgr (by omega) (fun k hk => (hb0.row.lt k hk).1), hbl, by omega, fun _ => ⟨hbl, p, hp, by rw [List.length_append]; exact hown⟩⟩
        · refine ⟨_, rfl, fun k hk => (by cases hk; exact Pred.waits_near (by kernel_rfl) (by kernel_rfl)), fun b9 X hE hd hn hS hV hI => ?_⟩
          obtain ⟨r114, j114⟩ : PredT.At 0 (.pointer (some ⟨w3.heap.size, 22, none⟩)) (b9.tmps[114]?.getD undef) X 1 := hV 11 _ 114 rfl rfl (Pred.waits_near (by kernel_rfl) (by kernel_rfl))
          obtain ⟨j113, r113⟩ : PredT.When 1 (fun u y9 => blk y9 w3.heap.size = some (.cells ((stpH x y ww hh) v0) 57 (0, 0)) ∧ ∃ p : Px, p.B ∧ y9.ownsRow (w.heap.size + 1) 39 4 u (ts ++ [p]).length (cp (ts ++ [p]))) (b9.tmps[113]?.getD undef) X 1 := hV 10 _ 113 rfl rfl (Pred.waits_near (by kernel_rfl) (by kernel_rfl))
          replace hS : (fun y9 => blk y9 w3.heap.size = some (.cells ((stpH x y ww hh) v0) 57 (0, 0))) X := hS
          obtain ⟨hbl, p, hp, hr1⟩ := r113 rfl
          clear r113
          obtain ⟨u, hu⟩ : ∃ u, b9.tmps[113]?.getD undef = u := ⟨_, rfl⟩
          rw [hu] at hr1
          obtain ⟨au, cu, rfl, hu1, hu2⟩ := owns_val hr1
          have f0 := blk_frozen hbl 22
          have cz : X.cell? ⟨w3.heap.size, 22, none⟩ = some v0 := by rw [blk_cell hbl]; first | done | rfl
          refine yields_skip (w' := X.setCell ⟨w3.heap.size, 22, none⟩ (.slice au (ts ++ [p]).length cu)) (Pred.wanted_none rfl) (by go_simp) ⟨?_, ⟨_, p, hp, Tp.st hbl hr1 hBt (by decide) (fun _ _ => rfl)⟩, rfl, Nat.zero_le _⟩
          exact ⟨rfl, rfl, rfl, by simp, fun k1 h1 => heap_setCell_other _ _ _ _ (by show k1 ≠ w3.heap.size; omega)⟩
      intro v X hE hS hv
      replace hS : (fun y9 => ∃ (v2 : Value) (p : Px), p.B ∧ Tp y9 (w.heap.size + 1) w3.heap.size (stpH x y ww hh) 57 v2 (ts ++ [p])) X := hS
      have e0 : v 0 = .pointer (some ⟨w3.heap.size, 22, none⟩) := (hv 0 _ 103 rfl rfl).1
      have e1 : v 1 = v0 := (hv 1 _ 104 rfl rfl).1
      have e2 : v 2 = .slice a len cap := (hv 2 _ 105 rfl rfl).1
      have e3 : v 3 = .int .i64 0 := (hv 3 _ 106 rfl rfl).1
      have e4 : v 4 = .int .i64 4 := (hv 4 _ 107 rfl rfl).1
      have e5 : v 5 = .int .i64 k := (hv 5 _ 108 rfl rfl).1
      have e6 : v 6 = .int .i64 (4 + (k : Int)) := (hv 6 _ 109 rfl rfl).1
      generalize hg7 : v 7 = vv7
      generalize hg8 : v 8 = vv8
      generalize hg9 : v 9 = vv9
      generalize hg10 : v 10 = vv10
      have e11 : v 11 = .pointer (some ⟨w3.heap.size, 22, none⟩) := (hv 11 _ 114 rfl rfl).1
      simp only [Pred.putsF_cons, Pred.putsF_nil, Nat.zero_add, Nat.reduceAdd, e0, e1, e2, e3, e4, e5, e6, hg7, hg8, hg9, hg10, e11, Act.put, List.setIfInBounds_toArray, List.set_cons_zero, List.set_cons_succ]
      clear e0 e1 e2 e3 e4 e5 e6 hg7 hg8 hg9 hg10 e11 hv
      obtain ⟨v2, p, hp, hT⟩ := hS
      rename_i X1
      have L6 := HL.trans hE
      go_wp2_with fail
      try go_roundw
      try (case rel => exact ⟨k + 1, by omega, by go_num, Lib.hid (FIN.out _ _ _ hp hT), L6⟩)
      try (case measure => simp [intOf]; omega)
    · obtain rfl : k = q := by omega
      have hlt' : ¬ (k : Int) < (k : Int) := by omega
      have hR3 := (blk_below HL _ (Nat.lt_succ_self _)).trans hRX
      have h7 := hT.head
      have hrow := hT.row
      have L6 : Below w.heap.size w Y := L5.trans (HL.mono (Nat.le_succ _))
      obtain ⟨a9, c9, hv9, _⟩ := owns_val hrow
      subst hv9
      clear HB hT
      go_wp2_with fail
      refine ret_stp rfl w.heap.size x y ww hh _ rfl (blk_setRow_of hR3 _) rfl ⟨⟨x, y, ww, hh, _, rfl, by omega, by omega, by omega, by omega, by omega, by omega, ts, by rw [hts]; exact HQ.out, hRB, ?_⟩, by repeat' (first | (with_reducible exact Below.refl _ _) | (with_reducible refine Rd.below_step ?_ (by assumption)) | (with_reducible refine Rd.below_alloc ?_ _) | (with_reducible refine Rd.below_drewN ?_ _) | (with_reducible refine Below.drew ?_) | (with_reducible refine Below.setCell ?_ ?_ _) | (with_reducible refine Rd.below_setRow ?_ ?_ _) | go_size | (simp only [World.size_alloc]; omega) | omega)⟩
      rw [← HQ.out, ← hts]
      exact owns_mono (own_keep hrow fun k1 h1 => setRow_other _ _ _ _ (fun e => by have := (hrow.lt k1 h1).1; omega)) (Nat.le_succ _)
end Go.Proofs.Ytdjiblgnealmkaa.MpS

/-
  Sums are linear.
-/
import Derived.Test.YtnlppgdkimaddaaCrcG
namespace Go.Proofs.Ytnlppgdkimaddaa.CrcH
open Go.RowKit Rd Go.Proofs.Ytnlppgdkimaddaa.Row CrcA CrcB CrcC CrcD CrcE CrcG Alk
open Go.Proofs.Ytnlppgdkimaddaa.Pred (Is is_stab Stab)
set_option linter.unusedVariables false
set_option linter.unusedSimpArgs false
set_option maxRecDepth 100000
attribute [local go_sem ↓] load_tbl store_tbl alloc_tbl
attribute [local go_sem] run_alloc_tbl run_load_tbl run_store_tbl rowLoad_eq rowStore_eq blk_alloc_at blk_alloc_old blk_drew blk_drewN blk_set_far blk_set_far' blk_grow setRow_alloc_at setRow_alloc_old setRow_drew setRow_drewN all_map one_int


theorem info_u8 : (Try.prog.info? 5).map (fun i => (i.zero, i.size, i.bytes)) = some (some (.int .u8 0), 1, 1) := by kernel_rfl
theorem xor3 (a b c d e f : Nat) : (a ^^^ d) ^^^ (b ^^^ e) ^^^ (c ^^^ f) = (a ^^^ b ^^^ c) ^^^ (d ^^^ e ^^^ f) := by
  apply Nat.eq_of_testBit_eq
  intro i
  simp only [Nat.testBit_xor]
  cases a.testBit i <;> cases b.testBit i <;> cases c.testBit i <;> cases d.testBit i <;> cases e.testBit i <;> cases f.testBit i <;> rfl
/-- byte by byte -/
def xorL (xs ys : List Int) : List Int := (xs.zip ys).map fun p => ((p.1.toNat ^^^ p.2.toNat : Nat) : Int)
theorem xorL_len {xs ys : List Int} {n : Nat} (hx : xs.length = n) (hy : ys.length = n) : (xorL xs ys).length = n := by simp [xorL, hx, hy]
theorem xorL_b8 {xs ys : List Int} (hx : B8s xs) (hy : B8s ys) : B8s (xorL xs ys) := by
  intro z hz
  obtain ⟨⟨p, q⟩, hp, rfl⟩ := List.mem_map.1 hz
  have h1 := hx p (List.of_mem_zip hp).1
  have h2 := hy q (List.of_mem_zip hp).2
  have := xor8 (show p.toNat < 256 by omega) (show q.toNat < 256 by omega)
  simp only
  omega
theorem onF_xor : ∀ (xs ys : List Int) (c d e : Nat), xs.length = ys.length → onF (c ^^^ d ^^^ e) (xorL xs ys) = onF c xs ^^^ onF d ys ^^^ onF e (List.replicate xs.length 0)
  | [], [], c, d, e, _ => rfl
  | x :: xs, y :: ys, c, d, e, h => by
    have ih := onF_xor xs ys (stepN c x.toNat) (stepN d y.toNat) (stepN e 0) (by simpa using h)
    show onF (stepN (c ^^^ d ^^^ e) (((x.toNat ^^^ y.toNat : Nat) : Int).toNat)) (xorL xs ys) = onF (stepN c x.toNat) xs ^^^ onF (stepN d y.toNat) ys ^^^ onF (stepN e 0) (List.replicate xs.length 0)
    rw [← ih, Int.toNat_natCast]
    congr 1
    rw [← stepN_xor, ← stepN_xor, Nat.xor_zero]
theorem ones3 : 4294967295 ^^^ 4294967295 ^^^ 4294967295 = 4294967295 := by decide
theorem onV_ones {zs : List Int} (h : B8s zs) : onV 0 zs = 4294967295 ^^^ onF 4294967295 zs := by
  unfold onV
  rw [xor_ones _ (onF_lt zs _ h (by omega))]
theorem rep_b8 (n : Nat) : B8s (List.replicate n 0) := fun z hz => by have := List.eq_of_mem_replicate hz; omega
theorem onV_xor {xs ys : List Int} (h : xs.length = ys.length) (hx : B8s xs) (hy : B8s ys) : onV 0 (xorL xs ys) = onV 0 xs ^^^ onV 0 ys ^^^ onV 0 (List.replicate xs.length 0) := by
  rw [onV_ones (xorL_b8 hx hy), onV_ones hx, onV_ones hy, onV_ones (rep_b8 _), xor3, ones3, ← onF_xor xs ys _ _ _ h, ones3]
def xf (xs ys : List Int) (i : Nat) : Int := (((xs.getD i 0).toNat ^^^ (ys.getD i 0).toNat : Nat) : Int)
theorem fill_xor {xs ys : List Int} {n : Nat} (hx : xs.length = n) (hy : ys.length = n) : fillK n (xf xs ys) n = xorL xs ys := by
  rw [fillK_all]
  apply List.ext_getElem?
  intro i
  by_cases hi : i < n
  · have h1 : i < xs.length := by omega
    have h2 : i < ys.length := by omega
    rw [List.getElem?_eq_getElem (by simp; exact hi), List.getElem?_eq_getElem (by rw [xorL_len hx hy]; exact hi)]
    simp only [xorL, xf, List.getD, fillK, List.getElem_map, List.getElem_range, List.getElem_zip, List.getElem?_eq_getElem h1, List.getElem?_eq_getElem h2, Option.getD_some]
  · rw [List.getElem?_eq_none (by simp; omega), List.getElem?_eq_none (by rw [xorL_len hx hy]; omega)]
theorem made_u8 (n : Nat) : madeCells (Value.cells (.int .u8 0)) n = cs .u8 (List.replicate n 0) := by
  apply Array.ext
  · simp [madeCells]
  · intro i h1 h2
    simp only [madeCells, Value.cells, Nat.mod_one, cs, List.map_replicate, Array.getElem_map, List.getElem_toArray, List.getElem_replicate]
    show #[Value.int IntKind.u8 0][(Array.range n)[i]'(by simpa [madeCells] using h1) % 1]! = _
    rw [Nat.mod_one]
    rfl
theorem run_make_u8 (n : Nat) (hn : n ≤ 100000) (w : World) :
    (Instr.makeSlice 22 (.int .i64 (n : Int)) (.int .i64 (n : Int))).run Try.prog w = .ok (.slice (some ⟨w.heap.size, 0, none⟩) n n) (w.alloc (.cells (cs .u8 (List.replicate n 0)) 5)) := by
  obtain ⟨i, hi, hz, hs, hb⟩ := info_parts info_u8
  have hr := run_make (P := Try.prog) w 22 5 i (.int .u8 0) Try.underlying22 hi hz .i64 .i64 (n : Int) (n : Int) (by omega) (by omega) (by rw [hb]; omega) (by omega)
  simp only [Int.toNat_natCast, hs, Nat.mul_one] at hr
  rw [hr, made_u8]

set_option maxHeartbeats 4000000 in
theorem CrcSums_walk (a0 : Option Addr) (len0 cap0 : Nat) (x0 : List (List Value)) (a1 : Option Addr) (len1 cap1 : Nat) (x1 : List (List Value)) (w : World) (w0 : Flat.IsRows [some .u8] w a0 len0 cap0 x0) (w1 : Flat.IsRows [some .u8] w a1 len1 cap1 x1) :
    Calls Try.prog 6 #[.slice a0 len0 cap0, .slice a1 len1 cap1] w fun e w' => e = .returned (.bool true) ∧ Below w.heap.size w w' := by
  obtain ⟨zs, hzl, hz, hR, hlc, hcm, hcase⟩ := Bytes.rows_bytes w0
  obtain ⟨ys, hyl, hy, hS, hlc1, hcm1, hcase1⟩ := Bytes.rows_bytes w1
  clear w0 w1 hcase hcase1
  unfold maxLen at hcm hcm1
  by_cases hbig : 1000 < len0
  · have hbig' : (1000 : Int) < (len0 : Int) := by omega
    clear hzl hyl
    go_enter Try.func6, Try.ntmps6
    go_wp2_with (go_at_call 7; refine (awake_any _).mono ?_; rintro e w3 ⟨rfl, hb⟩)
    go_ret
    exact ⟨rfl, by repeat' (first | (with_reducible exact Below.refl _ _) | (with_reducible refine Rd.below_step ?_ (by assumption)) | (with_reducible refine Rd.below_alloc ?_ _) | (with_reducible refine Rd.below_drewN ?_ _) | (with_reducible refine Below.drew ?_) | (with_reducible refine Below.setCell ?_ ?_ _) | (with_reducible refine Rd.below_setRow ?_ ?_ _) | go_size | (simp only [World.size_alloc]; omega) | omega)⟩
  have hsm : ¬ (1000 : Int) < (len0 : Int) := by omega
  by_cases hbig1 : 1000 < len1
  · have hbig' : (1000 : Int) < (len1 : Int) := by omega
    have hd : decide ((1000 : Int) < (len0 : Int)) = false := by simpa using hsm
    clear hzl hyl
    go_enter Try.func6, Try.ntmps6
    go_wp2_with (go_at_call 7; refine (awake_any _).mono ?_; rintro e w3 ⟨rfl, hb⟩)
    go_ret
    exact ⟨rfl, by repeat' (first | (with_reducible exact Below.refl _ _) | (with_reducible refine Rd.below_step ?_ (by assumption)) | (with_reducible refine Rd.below_alloc ?_ _) | (with_reducible refine Rd.below_drewN ?_ _) | (with_reducible refine Below.drew ?_) | (with_reducible refine Below.setCell ?_ ?_ _) | (with_reducible refine Rd.below_setRow ?_ ?_ _) | go_size | (simp only [World.size_alloc]; omega) | omega)⟩
  have hsm1 : ¬ (1000 : Int) < (len1 : Int) := by omega
  obtain ⟨n, hn⟩ : ∃ n : Nat, (if len1 < len0 then (len1 : Int) else (len0 : Int)) = (n : Int) ∧ n ≤ len0 ∧ n ≤ len1 ∧ n ≤ 1000 := by
    by_cases h : len1 < len0
    · exact ⟨len1, by rw [if_pos h], by omega, by omega, by omega⟩
    · exact ⟨len0, by rw [if_neg h], by omega, by omega, by omega⟩
  obtain ⟨hn0, hn1, hn2, hn3⟩ := hn
  have HN := Lib.hid hn0
  have X1 := Lib.hid (show (zs.take n).length = n by simp; omega)
  have X2 := Lib.hid (show (ys.take n).length = n by simp; omega)
  have RA := Lib.hid (Bytes.Reads.take hR hn1)
  have RB := Lib.hid (Bytes.Reads.take hS hn2)
  have ZA := Lib.hid (show B8s (zs.take n) from fun z h => hz z (List.mem_of_mem_take h))
  have ZB := Lib.hid (show B8s (ys.take n) from fun z h => hy z (List.mem_of_mem_take h))
  clear hn0 hzl hyl hR hS hz hy
  generalize zs.take n = xs at *
  generalize ys.take n = ys at *
  have hd0 : decide ((1000 : Int) < (len0 : Int)) = false := by simpa using hsm
  have hd1 : decide ((1000 : Int) < (len1 : Int)) = false := by simpa using hsm1
  have hmk := run_make_u8 n (by omega)
  go_enter Try.func6, Try.ntmps6
  go_upto_region 4 with (fail)
  rw [HN.out]
  go_wp2_with fail
  clear hmk
  go_loopw [7] (fun i wr => ∃ k : Nat, k ≤ n ∧ i = .int .i64 k ∧ Hid (blk wr w.heap.size = some (.cells (cs .u8 (fillK n (xf xs ys) k)) 5 (0, 0)) ∧ Below w.heap.size w wr)) (fun i _ => n - (intOf i).toNat)
  case atStart => exact ⟨0, Nat.zero_le _, rfl, by rw [fillK_0]; exact blk_alloc_at _ _ _ rfl, by repeat' (first | (with_reducible exact Below.refl _ _) | (with_reducible refine Rd.below_step ?_ (by assumption)) | (with_reducible refine Rd.below_alloc ?_ _) | (with_reducible refine Rd.below_drewN ?_ _) | (with_reducible refine Below.drew ?_) | (with_reducible refine Below.setCell ?_ ?_ _) | (with_reducible refine Rd.below_setRow ?_ ?_ _) | go_size | (simp only [World.size_alloc]; omega) | omega)⟩
  case round =>
    obtain ⟨k, hk, rfl, HB⟩ := hrel
    obtain ⟨c1, L1⟩ := HB.out
    by_cases hlt : k < n
    · obtain ⟨_, hA⟩ := RA.out
      obtain ⟨_, hBy⟩ := RB.out
      rcases hA with h0 | ⟨ab, ao, rfl, hab, hac⟩
      · omega
      rcases hBy with h0 | ⟨bb, bo, rfl, hbb, hbc⟩
      · omega
      have l1 := X1.out
      have l2 := X2.out
      have ca : wr.cell? ⟨ab, ao + k, none⟩ = some (.int .u8 (xs.getD k 0)) := by
        rw [L1.cell (p := ⟨ab, ao + k, none⟩) hab, hac k (by simp; omega), u8s_at _ _ (by omega)]
      have cb : wr.cell? ⟨bb, bo + k, none⟩ = some (.int .u8 (ys.getD k 0)) := by
        rw [L1.cell (p := ⟨bb, bo + k, none⟩) hbb, hbc k (by simp; omega), u8s_at _ _ (by omega)]
      have hx := getD_b8 ZA.out k
      have hy := getD_b8 ZB.out k
      have HF := Lib.hid (show xf xs ys k = (((xs.getD k 0).toNat ^^^ (ys.getD k 0).toNat : Nat) : Int) from rfl)
      generalize xs.getD k 0 = x at ca hx HF
      generalize ys.getD k 0 = y at cb hy HF
      obtain ⟨x, rfl⟩ := Int.eq_ofNat_of_zero_le hx.1
      obtain ⟨y, rfl⟩ := Int.eq_ofNat_of_zero_le hy.1
      have hxy : bits .xor .u8 (x : Int) (y : Int) = ((x ^^^ y : Nat) : Int) := u8_xor_nat x y (by omega) (by omega)
      have c0 : wr.cell? ⟨w.heap.size, k, none⟩ = some (.int .u8 ((fillK n (xf xs ys) k).getD k 0)) := by
        rw [blk_cell c1]; exact cs_at (at_of (by rw [fillK_len]; omega))
      have f0 : wr.frozen? ⟨w.heap.size, k, none⟩ = false := blk_frozen c1 _
      have hk0 : (k : Int) < (len0 : Int) := by omega
      have hk1 : (k : Int) < (len1 : Int) := by omega
      have hk2 : (k : Int) < (n : Int) := by omega
      have C1 := Lib.hid c1
      clear hac hbc hx hy c1 l1 l2
      go_wp2
      (refine Reg.quiet_tail 12 (by kernel_rfl) (by kernel_rfl) ?_; simp only [List.take_succ_cons, List.take_zero, List.drop_succ_cons, List.drop_zero]; (repeat go_big_quiet_step (fail)); refine wpQuiet_nil ?_)
      go_wp2
      go_roundw
      case rel =>
        refine ⟨k + 1, by omega, by go_num, ?_, by repeat' (first | (with_reducible exact Below.refl _ _) | (with_reducible refine Rd.below_step ?_ (by assumption)) | (with_reducible refine Rd.below_alloc ?_ _) | (with_reducible refine Rd.below_drewN ?_ _) | (with_reducible refine Below.drew ?_) | (with_reducible refine Below.setCell ?_ ?_ _) | (with_reducible refine Rd.below_setRow ?_ ?_ _) | go_size | (simp only [World.size_alloc]; omega) | omega)⟩
        have e := blk_set wr w.heap.size k (.int .u8 (xf xs ys k)) _ _ C1.out
        rw [set_cs, fillK_set _ _ _ (by omega), HF.out, Int.toNat_natCast, Int.toNat_natCast] at e
        exact e
      case measure => simp [intOf]; omega
    · obtain rfl : k = n := by omega
      rw [fill_xor X1.out X2.out] at c1
      have C1 := Lib.hid c1
      clear HB c1
      have hl := tblL_len
      go_wp2_with fail
      refine (make_any _).mono ?_
      rintro e w1 ⟨rfl, hb1⟩
      have s1 := hb1.size
      have lw := blk_lt C1.out
      go_upto_region 10 with (fail)
      refine Rd.name_world ?_
      intro W hW
      have T0 : blk W w1.heap.size = some (.cells (cs .u32 tblL) 26 (0, 0)) := by rw [hW]; exact blk_alloc_at _ _ _ rfl
      have lT := blk_lt T0
      have C2 : blk W w.heap.size = some (.cells (cs .u8 (xorL xs ys)) 5 (0, 0)) := by rw [hW]; exact (blk_alloc_old _ _ _ (by omega)).trans ((blk_below hb1 _ lw).trans C1.out)
      have lC := blk_lt C2
      have LW : Below w.heap.size w W := by rw [hW]; repeat' (first | (with_reducible exact Below.refl _ _) | (with_reducible refine Rd.below_step ?_ (by assumption)) | (with_reducible refine Rd.below_alloc ?_ _) | (with_reducible refine Rd.below_drewN ?_ _) | (with_reducible refine Below.drew ?_) | (with_reducible refine Below.setCell ?_ ?_ _) | (with_reducible refine Rd.below_setRow ?_ ?_ _) | go_size | (simp only [World.size_alloc]; omega) | omega)
      clear hW hb1 L1 C1
      have hP := onV_xor (X1.out.trans X2.out.symm) ZA.out ZB.out
      rw [X1.out] at hP
      have bA := onV_lt 0 ZA.out (by omega)
      have bB := onV_lt 0 ZB.out (by omega)
      have bC := onV_lt 0 (rep_b8 k) (by omega)
      have xA : bits .xor .u32 ((onV 0 xs : Nat) : Int) ((onV 0 ys : Nat) : Int) = ((onV 0 xs ^^^ onV 0 ys : Nat) : Int) := u32_xor_nat _ _ bA bB
      have xB : bits .xor .u32 ((onV 0 xs ^^^ onV 0 ys : Nat) : Int) ((onV 0 (List.replicate k 0) : Nat) : Int) = ((onV 0 xs ^^^ onV 0 ys ^^^ onV 0 (List.replicate k 0) : Nat) : Int) := u32_xor_nat _ _ (xor32 bA bB) bC
      have hk0 : k ≤ cap0 := by omega
      have hk1 : k ≤ cap1 := by omega
      have HN2 := Lib.hid hP
      have ZX := Lib.hid (xorL_b8 ZA.out ZB.out)
      have XL := Lib.hid (xorL_len X1.out X2.out)
      have hmk := run_make_u8 k (by omega)
      have ka : (k : Int) ≤ (cap0 : Int) := by omega
      have kb : (k : Int) ≤ (cap1 : Int) := by omega
      clear hP bA bB bC
      refine Pred.region_vals (Pred.Of [
          Is (.agg (cs .u32 tblL)),
          Is (.slice (some ⟨w.heap.size, 0, none⟩) k k),
          Is (.int .u32 ((onV 0 (xorL xs ys) : Nat) : Int)),
          Is (.agg (cs .u32 tblL)),
          Is (.slice a0 len0 cap0),
          Is (.int .i64 (k : Int)),
          Is (.slice a0 k cap0),
          Is (.int .u32 ((onV 0 xs : Nat) : Int)),
          Is (.agg (cs .u32 tblL)),
          Is (.slice a1 len1 cap1),
          Is (.int .i64 (k : Int)),
          Is (.slice a1 k cap1),
          Is (.int .u32 ((onV 0 ys : Nat) : Int)),
          Is (.int .u32 ((onV 0 xs ^^^ onV 0 ys : Nat) : Int)),
          Is (.agg (cs .u32 tblL)),
          Is (.int .i64 (k : Int)),
          Sl W.heap.size (List.replicate k 0) 5,
          Is (.int .u32 ((onV 0 (List.replicate k 0) : Nat) : Int)),
          Is (.int .u32 ((onV 0 xs ^^^ onV 0 ys ^^^ onV 0 (List.replicate k 0) : Nat) : Int)),
          Is (.bool true),
          Is (.bool true),
          Is (.bool true),
          Is (.bool true),
          Is (.bool true)]) (by kernel_rfl) (by kernel_rfl) (by kernel_rfl) (Pred.of_stab ?_) ?_ ?_
      · exact ⟨is_stab _, is_stab _, is_stab _, is_stab _, is_stab _, is_stab _, is_stab _, is_stab _, is_stab _, is_stab _, is_stab _, is_stab _, is_stab _, is_stab _, is_stab _, is_stab _, sl_stab _ _ _, is_stab _, is_stab _, is_stab _, is_stab _, is_stab _, is_stab _, is_stab _, trivial⟩
      · refine ⟨?_, ?_, ?_, ?_, ?_, ?_, ?_, ?_, ?_, ?_, ?_, ?_, ?_, ?_, ?_, ?_, ?_, ?_, ?_, ?_, ?_, ?_, ?_, ?_, trivial⟩
        · intro b X hE hd hn hV
          have r8 : b.tmps[8]?.getD undef = .pointer (some ⟨w1.heap.size, 0, none⟩) := (hn 8 (by kernel_rfl)).trans rfl
          have q := (blk_below hE _ lT).trans T0
          exact Pred.yields_run (v := .agg (cs .u32 tblL)) (Pred.wanted_none rfl) (by go_simp) ⟨Pred.ext_refl _ _, rfl⟩
        · intro b X hE hd hn hV
          have r6 : b.tmps[6]?.getD undef = .slice (some ⟨w.heap.size, 0, none⟩) k k := (hn 6 (by kernel_rfl)).trans rfl
          exact Pred.yields_run (v := .slice (some ⟨w.heap.size, 0, none⟩) k k) (Pred.wanted_none rfl) (by go_simp) ⟨Pred.ext_refl _ _, rfl⟩
        · intro b X hE hd hn hV
          have r43 : b.tmps[43]?.getD undef = .agg (cs .u32 tblL) := hV 0 _ 43 rfl rfl (by kernel_rfl)
          have r44 : b.tmps[44]?.getD undef = .slice (some ⟨w.heap.size, 0, none⟩) k k := hV 1 _ 44 rfl rfl (by kernel_rfl)
          refine Pred.yields_call (f := 10) (args := #[.agg (cs .u32 tblL), .slice (some ⟨w.heap.size, 0, none⟩) k k]) (Pred.wanted_none rfl) (by go_simp) ?_
          exact (of_any _ _ _ (xorL xs ys) _ (by have := reads_blk ((blk_below hE _ lC).trans C2); rw [XL.out] at this; exact this) ZX.out (by omega)).mono fun e w2 ⟨he, hb⟩ => ⟨_, he, Pred.ext_below hb hE.size, rfl⟩
        · intro b X hE hd hn hV
          have r8 : b.tmps[8]?.getD undef = .pointer (some ⟨w1.heap.size, 0, none⟩) := (hn 8 (by kernel_rfl)).trans rfl
          have q := (blk_below hE _ lT).trans T0
          exact Pred.yields_run (v := .agg (cs .u32 tblL)) (Pred.wanted_none rfl) (by go_simp) ⟨Pred.ext_refl _ _, rfl⟩
        · intro b X hE hd hn hV
          have r0 : b.tmps[0]?.getD undef = .slice a0 len0 cap0 := (hn 0 (by kernel_rfl)).trans rfl
          exact Pred.yields_run (v := .slice a0 len0 cap0) (Pred.wanted_none rfl) (by go_simp) ⟨Pred.ext_refl _ _, rfl⟩
        · intro b X hE hd hn hV
          have r5 : b.tmps[5]?.getD undef = .int .i64 (k : Int) := (hn 5 (by kernel_rfl)).trans rfl
          exact Pred.yields_run (v := .int .i64 (k : Int)) (Pred.wanted_none rfl) (by go_simp) ⟨Pred.ext_refl _ _, rfl⟩
        · intro b X hE hd hn hV
          have r47 : b.tmps[47]?.getD undef = .slice a0 len0 cap0 := hV 4 _ 47 rfl rfl (by kernel_rfl)
          have r48 : b.tmps[48]?.getD undef = .int .i64 (k : Int) := hV 5 _ 48 rfl rfl (by kernel_rfl)
          exact Pred.yields_run (v := .slice a0 k cap0) (Pred.wanted_none rfl) (by go_simp) ⟨Pred.ext_refl _ _, rfl⟩
        · intro b X hE hd hn hV
          have r46 : b.tmps[46]?.getD undef = .agg (cs .u32 tblL) := hV 3 _ 46 rfl rfl (by kernel_rfl)
          have r49 : b.tmps[49]?.getD undef = .slice a0 k cap0 := hV 6 _ 49 rfl rfl (by kernel_rfl)
          refine Pred.yields_call (f := 10) (args := #[.agg (cs .u32 tblL), .slice a0 k cap0]) (Pred.wanted_none rfl) (by go_simp) ?_
          exact (of_any _ _ _ xs _ (RA.out.below (LW.trans (hE.mono LW.size)) (Nat.le_refl _)) ZA.out (by omega)).mono fun e w2 ⟨he, hb⟩ => ⟨_, he, Pred.ext_below hb hE.size, rfl⟩
        · intro b X hE hd hn hV
          have r8 : b.tmps[8]?.getD undef = .pointer (some ⟨w1.heap.size, 0, none⟩) := (hn 8 (by kernel_rfl)).trans rfl
          have q := (blk_below hE _ lT).trans T0
          exact Pred.yields_run (v := .agg (cs .u32 tblL)) (Pred.wanted_none rfl) (by go_simp) ⟨Pred.ext_refl _ _, rfl⟩
        · intro b X hE hd hn hV
          have r1 : b.tmps[1]?.getD undef = .slice a1 len1 cap1 := (hn 1 (by kernel_rfl)).trans rfl
          exact Pred.yields_run (v := .slice a1 len1 cap1) (Pred.wanted_none rfl) (by go_simp) ⟨Pred.ext_refl _ _, rfl⟩
        · intro b X hE hd hn hV
          have r5 : b.tmps[5]?.getD undef = .int .i64 (k : Int) := (hn 5 (by kernel_rfl)).trans rfl
          exact Pred.yields_run (v := .int .i64 (k : Int)) (Pred.wanted_none rfl) (by go_simp) ⟨Pred.ext_refl _ _, rfl⟩
        · intro b X hE hd hn hV
          have r52 : b.tmps[52]?.getD undef = .slice a1 len1 cap1 := hV 9 _ 52 rfl rfl (by kernel_rfl)
          have r53 : b.tmps[53]?.getD undef = .int .i64 (k : Int) := hV 10 _ 53 rfl rfl (by kernel_rfl)
          exact Pred.yields_run (v := .slice a1 k cap1) (Pred.wanted_none rfl) (by go_simp) ⟨Pred.ext_refl _ _, rfl⟩
        · intro b X hE hd hn hV
          have r51 : b.tmps[51]?.getD undef = .agg (cs .u32 tblL) := hV 8 _ 51 rfl rfl (by kernel_rfl)
          have r54 : b.tmps[54]?.getD undef = .slice a1 k cap1 := hV 11 _ 54 rfl rfl (by kernel_rfl)
          refine Pred.yields_call (f := 10) (args := #[.agg (cs .u32 tblL), .slice a1 k cap1]) (Pred.wanted_none rfl) (by go_simp) ?_
          exact (of_any _ _ _ ys _ (RB.out.below (LW.trans (hE.mono LW.size)) (Nat.le_refl _)) ZB.out (by omega)).mono fun e w2 ⟨he, hb⟩ => ⟨_, he, Pred.ext_below hb hE.size, rfl⟩
        · intro b X hE hd hn hV
          have r50 : b.tmps[50]?.getD undef = .int .u32 ((onV 0 xs : Nat) : Int) := hV 7 _ 50 rfl rfl (by kernel_rfl)
          have r55 : b.tmps[55]?.getD undef = .int .u32 ((onV 0 ys : Nat) : Int) := hV 12 _ 55 rfl rfl (by kernel_rfl)
          exact Pred.yields_run (v := .int .u32 ((onV 0 xs ^^^ onV 0 ys : Nat) : Int)) (Pred.wanted_none rfl) (by go_simp) ⟨Pred.ext_refl _ _, rfl⟩
        · intro b X hE hd hn hV
          have r8 : b.tmps[8]?.getD undef = .pointer (some ⟨w1.heap.size, 0, none⟩) := (hn 8 (by kernel_rfl)).trans rfl
          have q := (blk_below hE _ lT).trans T0
          exact Pred.yields_run (v := .agg (cs .u32 tblL)) (Pred.wanted_none rfl) (by go_simp) ⟨Pred.ext_refl _ _, rfl⟩
        · intro b X hE hd hn hV
          have r5 : b.tmps[5]?.getD undef = .int .i64 (k : Int) := (hn 5 (by kernel_rfl)).trans rfl
          exact Pred.yields_run (v := .int .i64 (k : Int)) (Pred.wanted_none rfl) (by go_simp) ⟨Pred.ext_refl _ _, rfl⟩
        · intro b X hE hd hn hV
          have r58 : b.tmps[58]?.getD undef = .int .i64 (k : Int) := hV 15 _ 58 rfl rfl (by kernel_rfl)
          exact Pred.yields_run (v := .slice (some ⟨X.heap.size, 0, none⟩) k k) (w' := X.alloc (.cells (cs .u8 (List.replicate k 0)) 5)) (Pred.wanted_none rfl) (by go_simp) ⟨Pred.ext_below ((Below.refl _ _).alloc (Nat.le_refl _) _) hE.size, X.heap.size, k, by simp, hE.size, _, blk_alloc_at _ _ _ rfl⟩
        · intro b X hE hd hn hV
          have r57 : b.tmps[57]?.getD undef = .agg (cs .u32 tblL) := hV 14 _ 57 rfl rfl (by kernel_rfl)
          obtain ⟨g59, c59, r59, o59, f59, q59⟩ : Sl W.heap.size (List.replicate k 0) 5 (b.tmps[59]?.getD undef) X := hV 16 _ 59 rfl rfl (by kernel_rfl)
          have k59 := blk_lt q59
          refine Pred.yields_call (f := 10) (args := #[.agg (cs .u32 tblL), .slice (some ⟨g59, 0, none⟩) k c59]) (Pred.wanted_none rfl) (by go_simp) ?_
          exact (of_any _ _ _ (List.replicate k 0) _ (by simpa using reads_blk q59) (rep_b8 k) (by omega)).mono fun e w2 ⟨he, hb⟩ => ⟨_, he, Pred.ext_below hb hE.size, rfl⟩
        · intro b X hE hd hn hV
          have r56 : b.tmps[56]?.getD undef = .int .u32 ((onV 0 xs ^^^ onV 0 ys : Nat) : Int) := hV 13 _ 56 rfl rfl (by kernel_rfl)
          have r60 : b.tmps[60]?.getD undef = .int .u32 ((onV 0 (List.replicate k 0) : Nat) : Int) := hV 17 _ 60 rfl rfl (by kernel_rfl)
          exact Pred.yields_run (v := .int .u32 ((onV 0 xs ^^^ onV 0 ys ^^^ onV 0 (List.replicate k 0) : Nat) : Int)) (Pred.wanted_none rfl) (by go_simp) ⟨Pred.ext_refl _ _, rfl⟩
        · intro b X hE hd hn hV
          have r45 : b.tmps[45]?.getD undef = .int .u32 ((onV 0 (xorL xs ys) : Nat) : Int) := hV 2 _ 45 rfl rfl (by kernel_rfl)
          have r61 : b.tmps[61]?.getD undef = .int .u32 ((onV 0 xs ^^^ onV 0 ys ^^^ onV 0 (List.replicate k 0) : Nat) : Int) := hV 18 _ 61 rfl rfl (by kernel_rfl)
          have hP := HN2.out
          exact Pred.yields_run (v := .bool true) (Pred.wanted_none rfl) (by go_simp) ⟨Pred.ext_refl _ _, rfl⟩
        · intro b X hE hd hn hV
          have r62 : b.tmps[62]?.getD undef = .bool true := hV 19 _ 62 rfl rfl (by kernel_rfl)
          exact Pred.yields_run (v := .bool true) (Pred.wanted_none rfl) (by go_simp) ⟨Pred.ext_refl _ _, rfl⟩
        · intro b X hE hd hn hV
          have r63 : b.tmps[63]?.getD undef = .bool true := hV 20 _ 63 rfl rfl (by kernel_rfl)
          refine Pred.yields_call (f := 7) (args := #[]) ((Pred.wanted_at (g := 20) (d := 63) (f := true) rfl rfl r63).trans rfl) (by go_simp) ?_
          exact (awake_any _).mono fun e w2 ⟨he, hb⟩ => ⟨_, he, Pred.ext_below hb hE.size, rfl⟩
        · intro b X hE hd hn hV
          have r63 : b.tmps[63]?.getD undef = .bool true := hV 20 _ 63 rfl rfl (by kernel_rfl)
          have r64 : b.tmps[64]?.getD undef = .bool true := hV 21 _ 64 rfl rfl (by kernel_rfl)
          exact Pred.yields_run (v := .bool true) (Pred.wanted_none rfl) (by go_simp) ⟨Pred.ext_refl _ _, rfl⟩
        · intro b X hE hd hn hV
          have r65 : b.tmps[65]?.getD undef = .bool true := hV 22 _ 65 rfl rfl (by kernel_rfl)
          exact Pred.yields_run (v := .bool true) (Pred.wanted_none rfl) (by go_simp) ⟨Pred.ext_refl _ _, rfl⟩
      intro v X hE hv
      have e0 : v 0 = .agg (cs .u32 tblL) := hv 0 _ 43 rfl rfl
      have e1 : v 1 = .slice (some ⟨w.heap.size, 0, none⟩) k k := hv 1 _ 44 rfl rfl
      have e2 : v 2 = .int .u32 ((onV 0 (xorL xs ys) : Nat) : Int) := hv 2 _ 45 rfl rfl
      have e3 : v 3 = .agg (cs .u32 tblL) := hv 3 _ 46 rfl rfl
      have e4 : v 4 = .slice a0 len0 cap0 := hv 4 _ 47 rfl rfl
      have e5 : v 5 = .int .i64 (k : Int) := hv 5 _ 48 rfl rfl
      have e6 : v 6 = .slice a0 k cap0 := hv 6 _ 49 rfl rfl
      have e7 : v 7 = .int .u32 ((onV 0 xs : Nat) : Int) := hv 7 _ 50 rfl rfl
      have e8 : v 8 = .agg (cs .u32 tblL) := hv 8 _ 51 rfl rfl
      have e9 : v 9 = .slice a1 len1 cap1 := hv 9 _ 52 rfl rfl
      have e10 : v 10 = .int .i64 (k : Int) := hv 10 _ 53 rfl rfl
      have e11 : v 11 = .slice a1 k cap1 := hv 11 _ 54 rfl rfl
      have e12 : v 12 = .int .u32 ((onV 0 ys : Nat) : Int) := hv 12 _ 55 rfl rfl
      have e13 : v 13 = .int .u32 ((onV 0 xs ^^^ onV 0 ys : Nat) : Int) := hv 13 _ 56 rfl rfl
      have e14 : v 14 = .agg (cs .u32 tblL) := hv 14 _ 57 rfl rfl
      have e15 : v 15 = .int .i64 (k : Int) := hv 15 _ 58 rfl rfl
      obtain ⟨g16, c16, e16, o16, f16, q16⟩ : Sl W.heap.size (List.replicate k 0) 5 (v 16) X := hv 16 _ 59 rfl rfl
      have e17 : v 17 = .int .u32 ((onV 0 (List.replicate k 0) : Nat) : Int) := hv 17 _ 60 rfl rfl
      have e18 : v 18 = .int .u32 ((onV 0 xs ^^^ onV 0 ys ^^^ onV 0 (List.replicate k 0) : Nat) : Int) := hv 18 _ 61 rfl rfl
      have e19 : v 19 = .bool true := hv 19 _ 62 rfl rfl
      have e20 : v 20 = .bool true := hv 20 _ 63 rfl rfl
      have e21 : v 21 = .bool true := hv 21 _ 64 rfl rfl
      have e22 : v 22 = .bool true := hv 22 _ 65 rfl rfl
      have e23 : v 23 = .bool true := hv 23 _ 4 rfl rfl
      simp only [Pred.putsF_cons, Pred.putsF_nil, Nat.zero_add, Nat.reduceAdd, e0, e1, e2, e3, e4, e5, e6, e7, e8, e9, e10, e11, e12, e13, e14, e15, e16, e17, e18, e19, e20, e21, e22, e23, Act.put, List.setIfInBounds_toArray, List.set_cons_zero, List.set_cons_succ]
      clear e0 e1 e2 e3 e4 e5 e6 e7 e8 e9 e10 e11 e12 e13 e14 e15 e16 e17 e18 e19 e20 e21 e22 e23 hv
      go_wp2
      go_ret
      exact ⟨rfl, by repeat' (first | (with_reducible exact Below.refl _ _) | (with_reducible refine Rd.below_step ?_ (by assumption)) | (with_reducible refine Rd.below_alloc ?_ _) | (with_reducible refine Rd.below_drewN ?_ _) | (with_reducible refine Below.drew ?_) | (with_reducible refine Below.setCell ?_ ?_ _) | (with_reducible refine Rd.below_setRow ?_ ?_ _) | go_size | (simp only [World.size_alloc]; omega) | omega)⟩
end Go.Proofs.Ytnlppgdkimaddaa.CrcH

/-
  The law of package mips: as the document says.
-/
import Derived.Test.YtdjiblgnealmkaaMtA
import Derived.Test.YtdjiblgnealmkaaFlT
import Derived.Test.YtdjiblgnealmkaaBytes
import Derived.Test.YtdjiblgnealmkaaLex
import Derived.Deep.CutRange
namespace Go.Proofs.Ytdjiblgnealmkaa.MtB
open Go.RowKit Rd Go.Proofs.Ytdjiblgnealmkaa.Row Mid DkM HueA MpM MpA MpB MpC MpD MpE MpF MpG
open MpQ MpS MpT MpU
open RfA RfB RfE MtA
open CtA (fb cp_fb)
open Ints (i64s In64)
set_option linter.unusedVariables false
set_option linter.unusedSimpArgs false
set_option maxRecDepth 10000
theorem px_of : ∀ (n : Nat) (zs : List Int), zs.length = 4 * n → (∀ z ∈ zs, 0 ≤ z ∧ z ≤ 255) → ∃ ps : List Px, ps.length = n ∧ fb ps = zs ∧ RB ps
  | 0, zs, h, _ => ⟨[], rfl, by
      have e : zs = [] := List.eq_nil_of_length_eq_zero (by omega)
      rw [e]; rfl, fun p hp => by cases hp⟩
  | n + 1, zs, h, hb => by
    match zs, h with
    | a :: b :: c :: d :: r, h =>
      obtain ⟨ps, h1, h2, h3⟩ := px_of n r (by simp at h; omega) (fun z hz => hb z (by simp [hz]))
      refine ⟨⟨a, b, c, d⟩ :: ps, by simp [h1], by rw [← h2]; rfl, fun p hp => ?_⟩
      rcases List.mem_cons.1 hp with rfl | hp
      · exact ⟨hb a (by simp), hb b (by simp), hb c (by simp), hb d (by simp)⟩
      · exact h3 p hp
    | [], h => simp at h
    | [a], h => simp at h; omega
    | [a, b], h => simp at h; omega
    | [a, b, c], h => simp at h; omega
/-- a slice of colours that came in -/
theorem rows_px {w : World} {a : Option Addr} {len cap : Nat} {xs : List (List Value)} (h : Flat.IsRows [some .u8, some .u8, some .u8, some .u8] w a len cap xs) :
    ∃ ps : List Px, ps.length = len ∧ RB ps ∧ Reads w 4 a len (cp ps) ∧ len ≤ cap ∧ cap ≤ maxLen := by
  obtain ⟨zs, h1, h2, h3, h4, h5, h6⟩ := Bytes.rows_row (s := 4) (by omega) h
  obtain ⟨ps, h7, h8, h9⟩ := px_of len zs (by omega) h2
  exact ⟨ps, h7, h9, by rw [cp_fb, h8]; exact h3, h4, h5⟩
/-- the law's texture, as it stands -/
def Tx (w X : World) : Prop := ∃ (Dt : Int) (wr : Bool) (ad : Option Addr) (n c : Nat) (ts : List Px), blk X w.heap.size = some (.cells #[.int .i64 Dt, .bool wr, .slice ad n c] 24 (0, 0)) ∧ Reads X 4 ad n (cp ts) ∧ RB ts ∧ n ≤ 1100
theorem Tx.below {w X Y : World} (h : Tx w X) (hb : Below X.heap.size X Y) : Tx w Y := by
  obtain ⟨Dt, wr, ad, n, c, ts, h1, h2, h3, h4⟩ := h
  exact ⟨Dt, wr, ad, n, c, ts, bd_keep h1 hb, h2.below hb (Nat.le_refl _), h3, h4⟩
theorem cell_of_blk {X Y : World} {g : Nat} (h : blk X g = blk Y g) (i : Nat) : X.cell? ⟨g, i, none⟩ = Y.cell? ⟨g, i, none⟩ := by
  have h' : X.heap[g]? = Y.heap[g]? := h
  unfold World.cell?
  simp only [h']
theorem reads_some {X : World} {a : Option Addr} {n : Nat} {cs : List Value} (h : Reads X 4 a n cs) (hn : 0 < n) : ∃ b off, a = some ⟨b, off, none⟩ := by
  rcases h.2 with h | ⟨b, off, h, -⟩
  · omega
  · exact ⟨b, off, h⟩
attribute [local go_sem ↓] store_tex load_col store_col alloc_col
attribute [local go_sem] eq_px px_self Px.c_size Px.c_all c_all4 fold_px run_store_tex run_alloc_col run_store_col rowStore_eq rowLoad_eq one_int one_bool one_sl blk_alloc_at blk_alloc_old blk_drew blk_drewN blk_grow setRow_alloc_at setRow_alloc_old setRow_drew setRow_drewN
set_option maxHeartbeats 8000000 in
theorem MipsTells_walk (a0_0 : Int) (a0_1 : Bool) (a0 : Option Addr) (len0 cap0 : Nat) (x0 : List (List Value)) (a1 : Int) (a2 : Bool) (a3 : Option Addr) (len3 cap3 : Nat) (x3 : List (List Value)) (a4 : Option Addr) (len4 cap4 : Nat) (x4 : List (List Value)) (a5 : Int) (a6 : Int) (a7 : Int) (a8 : Int) (a9 : Option Addr) (len9 cap9 : Nat) (x9 : List (List Value)) (w : World) (w0_0 : (Lit.int .i64 a0_0).wf = true) (w0 : Flat.IsRows [some .u8, some .u8, some .u8, some .u8] w a0 len0 cap0 x0) (w1 : (Lit.int .i64 a1).wf = true) (w3 : Flat.IsRows [some .i64] w a3 len3 cap3 x3) (w4 : Flat.IsRows [some .i64, some .i64, some .i64] w a4 len4 cap4 x4) (w5 : (Lit.int .i64 a5).wf = true) (w6 : (Lit.int .i64 a6).wf = true) (w7 : (Lit.int .i64 a7).wf = true) (w8 : (Lit.int .i64 a8).wf = true) (w9 : Flat.IsRows [some .u8, some .u8, some .u8, some .u8] w a9 len9 cap9 x9) :
    Calls Try.prog 3 #[.agg #[.int .i64 a0_0, .bool a0_1, .slice a0 len0 cap0], .int .i64 a1, .bool a2, .slice a3 len3 cap3, .slice a4 len4 cap4, .int .i64 a5, .int .i64 a6, .int .i64 a7, .int .i64 a8, .slice a9 len9 cap9] w fun e w' => e = .returned (.bool true) ∧ Below w.heap.size w w' := by
  obtain ⟨t0, -, hB0, hR0, hc0, hm0⟩ := rows_px w0
  obtain ⟨zs, hzl, hz, hR3, hlc, hcm, -⟩ := Ints.rows_row (s := 1) (by omega) w3
  obtain ⟨qs, hal, haz, hR4, hac, ham, -⟩ := Ints.rows_row (s := 3) (by omega) w4
  obtain ⟨cs, hcl, hcB, hR9, hcc, hcm9⟩ := rows_px w9
  obtain ⟨d1, d2⟩ := bounds_i64 w1
  have b5 := bounds_i64 w5
  have b6 := bounds_i64 w6
  have b7 := bounds_i64 w7
  have b8 := bounds_i64 w8
  clear w0_0 w0 w1 w3 w4 w5 w6 w7 w8 w9
  have m9 : maxLen = 9223372036854775807 := rfl
  have hl0 : len0 ≤ 9223372036854775807 := by omega
  have hl3 : len3 ≤ 9223372036854775807 := by omega
  have hl4 : len4 ≤ 9223372036854775807 := by omega
  have hl9 : len9 ≤ 9223372036854775807 := by omega
  have hbx := (Below.refl w.heap.size w).alloc (Nat.le_refl _) (.cells #[.int .i64 a0_0, .bool a0_1, .slice a0 len0 cap0] 24)
  have hTx : blk (w.alloc (.cells #[.int .i64 a0_0, .bool a0_1, .slice a0 len0 cap0] 24)) w.heap.size = some (.cells #[.int .i64 a0_0, .bool a0_1, .slice a0 len0 cap0] 24 (0, 0)) := blk_alloc_at _ _ _ rfl
  clear m9
  by_cases g0 : 1100 < len0
  · have g0' : (1100 : Int) < (len0 : Int) := by omega
    clear hR0 hR3 hR4 hR9 hzl hal hcl hTx
    go_enter Try.func3, Try.ntmps3
    go_wp2_with (go_at_call 10; refine (MpU.awake_any _).mono ?_; rintro e w3 ⟨rfl, hb⟩; have hs := hb.size; simp only [World.size_alloc] at hs)
    go_ret
    exact ⟨rfl, by repeat' (first | (with_reducible exact Below.refl _ _) | (with_reducible refine Rd.below_step ?_ (by assumption)) | (with_reducible refine Rd.below_alloc ?_ _) | (with_reducible refine Rd.below_drewN ?_ _) | (with_reducible refine Below.drew ?_) | (with_reducible refine Below.setCell ?_ ?_ _) | (with_reducible refine Rd.below_setRow ?_ ?_ _) | go_size | (simp only [World.size_alloc]; omega) | omega)⟩
  have g0' : ¬ (1100 : Int) < (len0 : Int) := by omega
  by_cases g3 : 50 < len3
  · have g3' : (50 : Int) < (len3 : Int) := by omega
    clear hR0 hR3 hR4 hR9 hzl hal hcl hTx
    go_enter Try.func3, Try.ntmps3
    go_wp2_with (go_at_call 10; refine (MpU.awake_any _).mono ?_; rintro e w3 ⟨rfl, hb⟩; have hs := hb.size; simp only [World.size_alloc] at hs)
    go_ret
    exact ⟨rfl, by repeat' (first | (with_reducible exact Below.refl _ _) | (with_reducible refine Rd.below_step ?_ (by assumption)) | (with_reducible refine Rd.below_alloc ?_ _) | (with_reducible refine Rd.below_drewN ?_ _) | (with_reducible refine Below.drew ?_) | (with_reducible refine Below.setCell ?_ ?_ _) | (with_reducible refine Rd.below_setRow ?_ ?_ _) | go_size | (simp only [World.size_alloc]; omega) | omega)⟩
  have g3' : ¬ (50 : Int) < (len3 : Int) := by omega
  by_cases g4 : 30 < len4
  · have g4' : (30 : Int) < (len4 : Int) := by omega
    clear hR0 hR3 hR4 hR9 hzl hal hcl hTx
    go_enter Try.func3, Try.ntmps3
    go_wp2_with (go_at_call 10; refine (MpU.awake_any _).mono ?_; rintro e w3 ⟨rfl, hb⟩; have hs := hb.size; simp only [World.size_alloc] at hs)
    go_ret
    exact ⟨rfl, by repeat' (first | (with_reducible exact Below.refl _ _) | (with_reducible refine Rd.below_step ?_ (by assumption)) | (with_reducible refine Rd.below_alloc ?_ _) | (with_reducible refine Rd.below_drewN ?_ _) | (with_reducible refine Below.drew ?_) | (with_reducible refine Below.setCell ?_ ?_ _) | (with_reducible refine Rd.below_setRow ?_ ?_ _) | go_size | (simp only [World.size_alloc]; omega) | omega)⟩
  have g4' : ¬ (30 : Int) < (len4 : Int) := by omega
  by_cases g9 : 64 < len9
  · have g9' : (64 : Int) < (len9 : Int) := by omega
    clear hR0 hR3 hR4 hR9 hzl hal hcl hTx
    go_enter Try.func3, Try.ntmps3
    go_wp2_with (go_at_call 10; refine (MpU.awake_any _).mono ?_; rintro e w3 ⟨rfl, hb⟩; have hs := hb.size; simp only [World.size_alloc] at hs)
    go_ret
    exact ⟨rfl, by repeat' (first | (with_reducible exact Below.refl _ _) | (with_reducible refine Rd.below_step ?_ (by assumption)) | (with_reducible refine Rd.below_alloc ?_ _) | (with_reducible refine Rd.below_drewN ?_ _) | (with_reducible refine Below.drew ?_) | (with_reducible refine Below.setCell ?_ ?_ _) | (with_reducible refine Rd.below_setRow ?_ ?_ _) | go_size | (simp only [World.size_alloc]; omega) | omega)⟩
  have g9' : ¬ (64 : Int) < (len9 : Int) := by omega
  have hTX : Tx w (w.alloc (.cells #[.int .i64 a0_0, .bool a0_1, .slice a0 len0 cap0] 24)) := ⟨a0_0, a0_1, a0, len0, cap0, t0, hTx, hR0.below hbx (Nat.le_refl _), hB0, by omega⟩
  have HAL := Lib.hid hal
  have HCL := Lib.hid hcl
  have HTX := Lib.hid hTX
  have HR3 := Lib.hid hR3
  have HR4 := Lib.hid hR4
  have HR9 := Lib.hid hR9
  clear hTx hR0 hB0 hzl hal hcl hTX hR3 hR4 hR9
  go_enter Try.func3, Try.ntmps3
  go_upto_region 4 with (fail)
  go_loopw [21] (fun q X => ∃ t : Nat, t ≤ 2 ∧ q = .int .i64 t ∧ Hid (Tx w X) ∧ Below w.heap.size w X) (fun q _ => 2 - (intOf q).toNat)
  case atStart => exact ⟨0, by omega, rfl, HTX, hbx⟩
  case round =>
    obtain ⟨t, ht, rfl, HT, hb⟩ := hrel
    rename World => X0
    clear HTX hbx
    by_cases ht2 : t < 2
    · have ht2' : (t : Int) < 2 := by omega
      go_upto_if 54 with (fail)
      go_cut [21, 49, 53, 54] from 55 to 59 (fun v _ _ _ Y => v = .int .i64 t ∧ Hid (Tx w Y) ∧ Below w.heap.size w Y)
      case first =>
        by_cases ht1 : t = 1
        · have ht1' : (t : Int) = 1 := by omega
          clear ht1
          go_wp2_with fail
          refine (Paint_any a1 a2 a3 len3 cap3 zs _ d1 d2 (HR3.out.below hb (Nat.le_refl _)) hz (by omega)).mono ?_
          rintro e X1 ⟨⟨D, u, ts, -, hD3, rfl, hts, hRB, hou⟩, hb1⟩
          have hq1 : sd D * sd D ≤ 1024 := sq_le (sd_le hD3)
          obtain ⟨au, cu, rfl, -, -⟩ := owns_val hou
          have hT1 := HT.out.below hb1
          have hRu := Reads.of_owns hou
          obtain ⟨Dt, wr, ad, n, c, t9, hbl, -, -, -⟩ := hT1
          have hBs := hb1.size
          have hb0 := hb.size
          have HNEW : Hid (Tx w (X1.setRow w.heap.size #[.int .i64 D, .bool a2, .slice au (sd D * sd D) cu])) := Lib.hid ⟨D, a2, au, _, cu, ts, blk_setRow_of hbl _, by
            refine ⟨hRu.1, ?_⟩
            obtain ⟨h1, h2⟩ := hou
            have hp : 0 < sd D * sd D := Nat.mul_pos (by have := sd_pos D; omega) (by have := sd_pos D; omega)
            obtain ⟨g9, c9, e9, hg9, hl9, -, -, hcell⟩ := owns_pos ⟨h1, h2⟩ hp
            cases e9
            refine .inr ⟨g9, 0, rfl, by simpa using hl9, fun i hi => ?_⟩
            have hne : g9 ≠ w.heap.size := fun e => by
              have h5 := own_type (k := g9) ⟨h1, h2⟩ rfl
              obtain ⟨cur, h6⟩ := h5
              rw [e] at h6
              have h7 : X1.heap[w.heap.size]? = _ := hbl
              rw [h7] at h6
              cases h6
            have h8 := hcell i (by rw [← h1]; exact hi)
            rw [Nat.zero_add, ← h8]
            exact cell_of_blk (blk_setRow_other _ _ _ _ hne) i, hRB, by omega⟩
          have hBN : Below w.heap.size w (X1.setRow w.heap.size #[.int .i64 D, .bool a2, .slice au (sd D * sd D) cu]) := (hb.trans (hb1.mono hb0)).trans ⟨rfl, rfl, rfl, by simp, fun k hk => blk_setRow_other _ _ _ _ (by omega)⟩
          clear HT hb hb1 hou hRu hBs hb0
          go_wp2_with fail
          try go_meet
          try (case rel => exact ⟨by first | rfl | exact congrArg (Value.int .i64) ht1'.symm, HNEW, hBN⟩)
        · have ht1' : ¬ (t : Int) = 1 := by omega
          clear ht1
          go_wp2_with fail
          try go_meet
          try (case rel => exact ⟨by rfl, HT, hb⟩)
      case rest =>
      obtain ⟨rfl, HT2, hb2⟩ := hcut
      rename World => Y
      clear HT hb
      obtain ⟨Dt, wr, ad, n, c, ts, hbl, hRd, hRB, hn11⟩ := HT2.out
      have hYs := hb2.size
      have hlw := blk_lt hbl
      have HCE : Hid (∀ X, Below Y.heap.size Y X → X.cell? ⟨w.heap.size, 0, none⟩ = some (.int .i64 Dt) ∧ X.cell? ⟨w.heap.size, 1, none⟩ = some (.bool wr) ∧ X.cell? ⟨w.heap.size, 2, none⟩ = some (.slice ad n c) ∧ Reads X 4 ad n (cp ts)) := Lib.hid fun X hX => ⟨by rw [blk_cell (bd_keep hbl hX)]; rfl, by rw [blk_cell (bd_keep hbl hX)]; rfl, by rw [blk_cell (bd_keep hbl hX)]; rfl, hRd.below hX (Nat.le_refl _)⟩
      obtain ⟨u0, u1, u2, -⟩ := HCE.out Y (Below.refl _ _)
      cases hM : mayT Dt n with
      | false =>
        clear hRd hbl hRB
        go_wp2_with fail
        refine (Build_no Dt wr ad n c Y hM).mono ?_
        rintro e w1 ⟨rfl, hb3⟩
        obtain ⟨u0, u1, u2, -⟩ := HCE.out w1 hb3
        go_wp2_with fail
        refine (RBuild_no Dt wr ad n c w1 hM).mono ?_
        rintro e w2 ⟨rfl, hb4⟩
        have b4 : Below Y.heap.size Y w2 := hb3.trans (hb4.mono hb3.size)
        obtain ⟨u0, u1, u2, -⟩ := HCE.out w2 b4
        clear hb3 hb4
        go_wp2_with fail
        refine (hM ▸ May_any Dt wr ad n c w2 : Calls Try.prog 14 #[.agg #[.int .i64 Dt, .bool wr, .slice ad n c]] w2 fun e w' => e = .returned (.bool false) ∧ Below w2.heap.size w2 w').mono ?_
        rintro e w3 ⟨rfl, hb5⟩
        have b5' : Below Y.heap.size Y w3 := b4.trans (hb5.mono b4.size)
        have HN := Lib.hid (HT2.out.below b5')
        have hBN := hb2.trans (b5'.mono hb2.size)
        clear b4 hb5 b5' HCE HT2 hb2 u0 u1 u2
        go_wp2_with fail
        exact ⟨⟨t + 1, by omega, by go_num, HN, hBN⟩, by simp [intOf]; omega⟩
      | true =>
        obtain ⟨hD0, hD3, hn⟩ := of_decide_eq_true hM
        obtain ⟨D, rfl⟩ : ∃ D : Nat, Dt = D := ⟨Dt.toNat, by omega⟩
        rw [Int.toNat_natCast] at hn
        have hD3 : D ≤ 3 := by omega
        have hnp : 0 < n := by rw [hn]; exact Nat.mul_pos (by have := sd_pos D; omega) (by have := sd_pos D; omega)
        have HNN := Lib.hid hn
        obtain ⟨gb, go9, rfl⟩ := reads_some hRd hnp
        clear hn hD0 hbl
        go_wp2_with fail
        refine (Build_any wr ⟨gb, go9, none⟩ n c Y hRd hD3 HNN.out hRB).mono ?_
        rintro e w1 ⟨⟨bm, rfl, -, hPm⟩, hb3⟩
        obtain ⟨u0, u1, u2, hR1⟩ := HCE.out w1 hb3
        go_wp2_with fail
        refine (RBuild_any wr ⟨gb, go9, none⟩ n c w1 hR1 hD3 HNN.out hRB).mono ?_
        rintro e w2 ⟨⟨bq, rfl, -, hRq⟩, hb4⟩
        have b4 : Below Y.heap.size Y w2 := hb3.trans (hb4.mono hb3.size)
        have hPm2 := hPm.below hb4
        obtain ⟨u0, u1, u2, -⟩ := HCE.out w2 b4
        clear hb3 hb4 hPm hRd hR1
        go_wp2_with fail
        refine (hM ▸ May_any (D : Int) wr (some ⟨gb, go9, none⟩) n c w2 : Calls Try.prog 14 #[.agg #[.int .i64 D, .bool wr, .slice (some ⟨gb, go9, none⟩) n c]] w2 fun e w' => e = .returned (.bool true) ∧ Below w2.heap.size w2 w').mono ?_
        rintro e w3 ⟨rfl, hb5⟩
        have b5' : Below Y.heap.size Y w3 := b4.trans (hb5.mono b4.size)
        have hPm3 := hPm2.below hb5
        have hRq3 := hRq.below hb5
        have hY3 : Below w.heap.size w w3 := hb2.trans (b5'.mono hb2.size)
        clear b4 hb5 hPm2 hRq u0 u1 u2 hM
        go_wp2_with fail
        by_cases hok : withinV (sd D) a5 a7 = true ∧ withinV (sd D) a6 a8 = true ∧ (len9 : Int) = a7 * a8
        · obtain ⟨o1, o2, o3⟩ := hok
          have w1' := of_decide_eq_true o1
          have w2' := of_decide_eq_true o2
          have hs32 := sd_le hD3
          obtain ⟨X5, e5⟩ : ∃ k : Nat, a5 = k := ⟨a5.toNat, by omega⟩
          obtain ⟨X6, e6⟩ : ∃ k : Nat, a6 = k := ⟨a6.toNat, by omega⟩
          obtain ⟨X7, e7⟩ : ∃ k : Nat, a7 = k := ⟨a7.toNat, by omega⟩
          obtain ⟨X8, e8⟩ : ∃ k : Nat, a8 = k := ⟨a8.toNat, by omega⟩
          subst e5 e6 e7 e8
          have hm : len9 = X7 * X8 := by exact_mod_cast o3
          have hmp : 0 < len9 := by rw [hm]; exact Nat.mul_pos (by omega) (by omega)
          have HM := Lib.hid hm
          obtain ⟨lb, lo9, rfl⟩ := reads_some HR9.out hmp
          have x1 : X5 + X7 ≤ sd D := by omega
          have x2 : X6 + X8 ≤ sd D := by omega
          have x3 : 1 ≤ X7 := by omega
          have x4 : 1 ≤ X8 := by omega
          clear o1 o2 o3 w1' w2' hm b5 b6 b7 b8
          refine (With_any X5 X6 X7 X8 lb lo9 len9 cap9 cs w3 hPm3 x1 x2 x3 x4 HM.out hcc (HR9.out.below hY3 (Nat.le_refl _)) hcB).mono ?_
          rintro e v1 ⟨⟨bn, rfl, -, hN1⟩, hv1⟩
          have hP1 := hPm3.below hv1
          have hR1 := hRq3.below hv1
          go_wp2_with fail
          refine (RWith_any X5 X6 X7 X8 lb lo9 len9 cap9 cs v1 hR1 x1 x2 x3 x4 HM.out (HR9.out.below (hY3.trans (hv1.mono hY3.size)) (Nat.le_refl _)) hcB).mono ?_
          rintro e v2 ⟨⟨bo, rfl, -, hOv⟩, hv2⟩
          have hPv := hP1.below hv2
          have hRv := hR1.below hv2
          have hNv := hN1.below hv2
          have b6' : Below w3.heap.size w3 v2 := hv1.trans (hv2.mono hv1.size)
          obtain ⟨tn, htn⟩ : ∃ t, put ts (sd D) X5 X6 X7 cs X8 = t := ⟨_, rfl⟩
          rw [htn] at hNv hOv
          clear hv1 hv2 hP1 hR1 hN1 hPm3 hRq3 htn
          have b7' : Below Y.heap.size Y v2 := b5'.trans (b6'.mono b5'.size)
          have LV : Below w.heap.size w v2 := hb2.trans (b7'.mono hb2.size)
          have HA4 : Hid (∀ i, i < len4 → ∃ (ab ao : Nat) (z0 z1 z2 : Int), a4 = some ⟨ab, ao, none⟩ ∧ ab < w.heap.size ∧ In64 z0 ∧ In64 z1 ∧ In64 z2 ∧ w.cell? ⟨ab, ao + i * 3, none⟩ = some (.int .i64 z0) ∧ w.cell? ⟨ab, ao + i * 3 + 1, none⟩ = some (.int .i64 z1) ∧ w.cell? ⟨ab, ao + i * 3 + 2, none⟩ = some (.int .i64 z2)) := Lib.hid fun i hi => by
            obtain ⟨h1, h2⟩ := HR4.out
            rcases h2 with h2 | ⟨ab, ao, h3, h4, h5⟩
            · omega
            · have hq : ∀ j, j < 3 → ∃ z, In64 z ∧ w.cell? ⟨ab, ao + i * 3 + j, none⟩ = some (.int .i64 z) := fun j hj => by
                have hlt : i * 3 + j < qs.length := by rw [HAL.out]; omega
                refine ⟨qs[i * 3 + j], haz _ (List.getElem_mem hlt), ?_⟩
                rw [Nat.add_assoc, h5 (i * 3 + j) (by rw [h1]; omega)]
                simp [i64s, hlt]
              obtain ⟨z0, i0, e0⟩ := hq 0 (by omega)
              obtain ⟨z1, i1, e1⟩ := hq 1 (by omega)
              obtain ⟨z2, i2, e2⟩ := hq 2 (by omega)
              exact ⟨ab, ao, z0, z1, z2, h3, h4, i0, i1, i2, e0, e1, e2⟩
          clear b6' hY3
          go_upto_region 18 with (fail)
          go_loopw [28] (fun q X => ∃ i : Nat, i ≤ len4 ∧ q = .int .i64 i ∧ Below v2.heap.size v2 X) (fun q _ => len4 - (intOf q).toNat)
          case atStart => exact ⟨0, by omega, rfl, Below.refl _ _⟩
          case round =>
            obtain ⟨i, hi, rfl, hbz⟩ := hrel
            rename World => Z
            by_cases hil : i < len4
            · have hil' : (i : Int) < (len4 : Int) := by omega
              obtain ⟨ab, ao, z0, z1, z2, rfl, hab, i0, i1, i2, e0, e1, e2⟩ := HA4.out i hil
              have LZ : Below w.heap.size w Z := LV.trans (hbz.mono LV.size)
              have y0 := (LZ.cell (p := ⟨ab, ao + i * 3, none⟩) hab).trans e0
              have y1 := (LZ.cell (p := ⟨ab, ao + i * 3 + 1, none⟩) hab).trans e1
              have y2 := (LZ.cell (p := ⟨ab, ao + i * 3 + 2, none⟩) hab).trans e2
              have lA : ab < Z.heap.size := by have := LZ.size; omega
              have hPz := hPv.below hbz
              have hRz := hRv.below hbz
              obtain ⟨p, hp⟩ : ∃ p, atP ts D wr z0 z1 z2 = p := ⟨_, rfl⟩
              obtain ⟨s, hs⟩ : ∃ s, szE D z0 = s := ⟨_, rfl⟩
              have CA := Lib.hid fun X (hX : Pyr X bm D wr ts) => (hp ▸ At_any z0 z1 z2 X hX i1 i2 : Calls Try.prog 17 #[.pointer (some ⟨bm, 0, none⟩), .int .i64 z0, .int .i64 z1, .int .i64 z2] X fun e w' => e = .returned p.v ∧ Below X.heap.size X w')
              have CR := Lib.hid fun X (hX : Rp X bq D (D + 1) wr ts) => (hp ▸ RAt_any z0 z1 z2 X hX (fun _ _ => by omega) i1 i2 : Calls Try.prog 18 #[.pointer (some ⟨bq, 0, none⟩), .int .i64 z0, .int .i64 z1, .int .i64 z2] X fun e w' => e = .returned p.v ∧ Below X.heap.size X w')
              have CS := Lib.hid fun X (hX : Pyr X bm D wr ts) => (hs ▸ Size_any z0 X hX : Calls Try.prog 19 #[.pointer (some ⟨bm, 0, none⟩), .int .i64 z0] X fun e w' => e = .returned (.int .i64 s) ∧ X = w')
              have CT := Lib.hid fun X (hX : Rp X bq D (D + 1) wr ts) => (hs ▸ RSize_any z0 X hX : Calls Try.prog 20 #[.pointer (some ⟨bq, 0, none⟩), .int .i64 z0] X fun e w' => e = .returned (.int .i64 s) ∧ Below X.heap.size X w')
              clear e0 e1 e2 LZ hp hs
              have hNz := hNv.below hbz
              have hOz := hOv.below hbz
              obtain ⟨pn, hpn⟩ : ∃ p, atP tn D wr z0 z1 z2 = p := ⟨_, rfl⟩
              have CB := Lib.hid fun X (hX : Pyr X bn D wr tn) => (hpn ▸ At_any z0 z1 z2 X hX i1 i2 : Calls Try.prog 17 #[.pointer (some ⟨bn, 0, none⟩), .int .i64 z0, .int .i64 z1, .int .i64 z2] X fun e w' => e = .returned pn.v ∧ Below X.heap.size X w')
              have CO := Lib.hid fun X (hX : Rp X bo D (D + 1) wr tn) => (hpn ▸ RAt_any z0 z1 z2 X hX (fun _ _ => by omega) i1 i2 : Calls Try.prog 18 #[.pointer (some ⟨bo, 0, none⟩), .int .i64 z0, .int .i64 z1, .int .i64 z2] X fun e w' => e = .returned pn.v ∧ Below X.heap.size X w')
              clear hpn
              go_upto_region 20 with (fail)
              try simp only [List.append_eq, List.cons_append, List.nil_append]
              refine PredT.region_of (W := Z) (Z.heap.size) (Nat.le_refl _) [] [
                  fun _ => True] [
                  PredT.At 0 (.pointer (some ⟨bm, 0, none⟩)),
                  PredT.At 0 (.slice (some ⟨ab, ao, none⟩) len4 cap4),
                  PredT.At 0 (.int .i64 i),
                  PredT.At 0 (.pointer (some ⟨ab, ao + i * 3, none⟩)),
                  PredT.At 0 (.pointer (some ⟨ab, ao + i * 3, none⟩)),
                  PredT.At 0 (.int .i64 z0),
                  PredT.At 0 (.slice (some ⟨ab, ao, none⟩) len4 cap4),
                  PredT.At 0 (.int .i64 i),
                  PredT.At 0 (.pointer (some ⟨ab, ao + i * 3, none⟩)),
                  PredT.At 0 (.pointer (some ⟨ab, ao + i * 3 + 1, none⟩)),
                  PredT.At 0 (.int .i64 z1),
                  PredT.At 0 (.slice (some ⟨ab, ao, none⟩) len4 cap4),
                  PredT.At 0 (.int .i64 i),
                  PredT.At 0 (.pointer (some ⟨ab, ao + i * 3, none⟩)),
                  PredT.At 0 (.pointer (some ⟨ab, ao + i * 3 + 2, none⟩)),
                  PredT.At 0 (.int .i64 z2),
                  PredT.At 0 (p.v),
                  PredT.At 0 (.pointer (some ⟨bq, 0, none⟩)),
                  PredT.At 0 (.slice (some ⟨ab, ao, none⟩) len4 cap4),
                  PredT.At 0 (.int .i64 i),
                  PredT.At 0 (.pointer (some ⟨ab, ao + i * 3, none⟩)),
                  PredT.At 0 (.pointer (some ⟨ab, ao + i * 3, none⟩)),
                  PredT.At 0 (.int .i64 z0),
                  PredT.At 0 (.slice (some ⟨ab, ao, none⟩) len4 cap4),
                  PredT.At 0 (.int .i64 i),
                  PredT.At 0 (.pointer (some ⟨ab, ao + i * 3, none⟩)),
                  PredT.At 0 (.pointer (some ⟨ab, ao + i * 3 + 1, none⟩)),
                  PredT.At 0 (.int .i64 z1),
                  PredT.At 0 (.slice (some ⟨ab, ao, none⟩) len4 cap4),
                  PredT.At 0 (.int .i64 i),
                  PredT.At 0 (.pointer (some ⟨ab, ao + i * 3, none⟩)),
                  PredT.At 0 (.pointer (some ⟨ab, ao + i * 3 + 2, none⟩)),
                  PredT.At 0 (.int .i64 z2),
                  PredT.At 0 (p.v),
                  PredT.At 0 (.bool false),
                  PredT.At 0 (.bool false),
                  PredT.At 0 (.pointer (some ⟨bm, 0, none⟩)),
                  PredT.At 0 (.slice (some ⟨ab, ao, none⟩) len4 cap4),
                  PredT.At 0 (.int .i64 i),
                  PredT.At 0 (.pointer (some ⟨ab, ao + i * 3, none⟩)),
                  PredT.At 0 (.pointer (some ⟨ab, ao + i * 3, none⟩)),
                  PredT.At 0 (.int .i64 z0),
                  PredT.At 0 (.int .i64 s),
                  PredT.At 0 (.pointer (some ⟨bq, 0, none⟩)),
                  PredT.At 0 (.slice (some ⟨ab, ao, none⟩) len4 cap4),
                  PredT.At 0 (.int .i64 i),
                  PredT.At 0 (.pointer (some ⟨ab, ao + i * 3, none⟩)),
                  PredT.At 0 (.pointer (some ⟨ab, ao + i * 3, none⟩)),
                  PredT.At 0 (.int .i64 z0),
                  PredT.At 0 (.int .i64 s),
                  PredT.At 0 (.bool false),
                  PredT.At 0 (.bool false),
                  PredT.At 0 (.bool false),
                  PredT.At 0 (.pointer (some ⟨bo, 0, none⟩)),
                  PredT.At 0 (.bool true),
                  PredT.At 0 (.bool true),
                  PredT.At 0 (.pointer (some ⟨bn, 0, none⟩)),
                  PredT.At 0 (.slice (some ⟨ab, ao, none⟩) len4 cap4),
                  PredT.At 0 (.int .i64 i),
                  PredT.At 0 (.pointer (some ⟨ab, ao + i * 3, none⟩)),
                  PredT.At 0 (.pointer (some ⟨ab, ao + i * 3, none⟩)),
                  PredT.At 0 (.int .i64 z0),
                  PredT.At 0 (.slice (some ⟨ab, ao, none⟩) len4 cap4),
                  PredT.At 0 (.int .i64 i),
                  PredT.At 0 (.pointer (some ⟨ab, ao + i * 3, none⟩)),
                  PredT.At 0 (.pointer (some ⟨ab, ao + i * 3 + 1, none⟩)),
                  PredT.At 0 (.int .i64 z1),
                  PredT.At 0 (.slice (some ⟨ab, ao, none⟩) len4 cap4),
                  PredT.At 0 (.int .i64 i),
                  PredT.At 0 (.pointer (some ⟨ab, ao + i * 3, none⟩)),
                  PredT.At 0 (.pointer (some ⟨ab, ao + i * 3 + 2, none⟩)),
                  PredT.At 0 (.int .i64 z2),
                  PredT.At 0 (pn.v),
                  PredT.At 0 (.pointer (some ⟨bo, 0, none⟩)),
                  PredT.At 0 (.slice (some ⟨ab, ao, none⟩) len4 cap4),
                  PredT.At 0 (.int .i64 i),
                  PredT.At 0 (.pointer (some ⟨ab, ao + i * 3, none⟩)),
                  PredT.At 0 (.pointer (some ⟨ab, ao + i * 3, none⟩)),
                  PredT.At 0 (.int .i64 z0),
                  PredT.At 0 (.slice (some ⟨ab, ao, none⟩) len4 cap4),
                  PredT.At 0 (.int .i64 i),
                  PredT.At 0 (.pointer (some ⟨ab, ao + i * 3, none⟩)),
                  PredT.At 0 (.pointer (some ⟨ab, ao + i * 3 + 1, none⟩)),
                  PredT.At 0 (.int .i64 z1),
                  PredT.At 0 (.slice (some ⟨ab, ao, none⟩) len4 cap4),
                  PredT.At 0 (.int .i64 i),
                  PredT.At 0 (.pointer (some ⟨ab, ao + i * 3, none⟩)),
                  PredT.At 0 (.pointer (some ⟨ab, ao + i * 3 + 2, none⟩)),
                  PredT.At 0 (.int .i64 z2),
                  PredT.At 0 (pn.v),
                  PredT.At 0 (.bool false),
                  PredT.At 0 (.bool false),
                  PredT.At 0 (.bool false)] (by kernel_rfl) (by kernel_rfl) (by kernel_rfl) (by decide) (by decide) ?_ ?_ ?_ ?_ ?_ ?_
              · exact ⟨PredT.at_stab _ _ _ _, PredT.at_stab _ _ _ _, PredT.at_stab _ _ _ _, PredT.at_stab _ _ _ _, PredT.at_stab _ _ _ _, PredT.at_stab _ _ _ _, PredT.at_stab _ _ _ _, PredT.at_stab _ _ _ _, PredT.at_stab _ _ _ _, PredT.at_stab _ _ _ _, PredT.at_stab _ _ _ _, PredT.at_stab _ _ _ _, PredT.at_stab _ _ _ _, PredT.at_stab _ _ _ _, PredT.at_stab _ _ _ _, PredT.at_stab _ _ _ _, PredT.at_stab _ _ _ _, PredT.at_stab _ _ _ _, PredT.at_stab _ _ _ _, PredT.at_stab _ _ _ _, PredT.at_stab _ _ _ _, PredT.at_stab _ _ _ _, PredT.at_stab _ _ _ _, PredT.at_stab _ _ _ _, PredT.at_stab _ _ _ _, PredT.at_stab _ _ _ _, PredT.at_stab _ _ _ _, PredT.at_stab _ _ _ _, PredT.at_stab _ _ _ _, PredT.at_stab _ _ _ _, PredT.at_stab _ _ _ _, PredT.at_stab _ _ _ _, PredT.at_stab _ _ _ _, PredT.at_stab _ _ _ _, PredT.at_stab _ _ _ _, PredT.at_stab _ _ _ _, PredT.at_stab _ _ _ _, PredT.at_stab _ _ _ _, PredT.at_stab _ _ _ _, PredT.at_stab _ _ _ _, PredT.at_stab _ _ _ _, PredT.at_stab _ _ _ _, PredT.at_stab _ _ _ _, PredT.at_stab _ _ _ _, PredT.at_stab _ _ _ _, PredT.at_stab _ _ _ _, PredT.at_stab _ _ _ _, PredT.at_stab _ _ _ _, PredT.at_stab _ _ _ _, PredT.at_stab _ _ _ _, PredT.at_stab _ _ _ _, PredT.at_stab _ _ _ _, PredT.at_stab _ _ _ _, PredT.at_stab _ _ _ _, PredT.at_stab _ _ _ _, PredT.at_stab _ _ _ _, PredT.at_stab _ _ _ _, PredT.at_stab _ _ _ _, PredT.at_stab _ _ _ _, PredT.at_stab _ _ _ _, PredT.at_stab _ _ _ _, PredT.at_stab _ _ _ _, PredT.at_stab _ _ _ _, PredT.at_stab _ _ _ _, PredT.at_stab _ _ _ _, PredT.at_stab _ _ _ _, PredT.at_stab _ _ _ _, PredT.at_stab _ _ _ _, PredT.at_stab _ _ _ _, PredT.at_stab _ _ _ _, PredT.at_stab _ _ _ _, PredT.at_stab _ _ _ _, PredT.at_stab _ _ _ _, PredT.at_stab _ _ _ _, PredT.at_stab _ _ _ _, PredT.at_stab _ _ _ _, PredT.at_stab _ _ _ _, PredT.at_stab _ _ _ _, PredT.at_stab _ _ _ _, PredT.at_stab _ _ _ _, PredT.at_stab _ _ _ _, PredT.at_stab _ _ _ _, PredT.at_stab _ _ _ _, PredT.at_stab _ _ _ _, PredT.at_stab _ _ _ _, PredT.at_stab _ _ _ _, PredT.at_stab _ _ _ _, PredT.at_stab _ _ _ _, PredT.at_stab _ _ _ _, PredT.at_stab _ _ _ _, PredT.at_stab _ _ _ _, PredT.at_stab _ _ _ _, PredT.at_stab _ _ _ _, trivial⟩
              · intro q hq
                rcases List.mem_cons.1 hq with rfl | hq
                · exact fun _ _ h _ => trivial
                cases hq
              · exact trivial
              · refine ⟨.inr ?_, .inr ?_, .inr ?_, .inr ?_, .inr ?_, .inr ?_, .inr ?_, .inr ?_, .inr ?_, .inr ?_, .inr ?_, .inr ?_, .inr ?_, .inr ?_, .inr ?_, .inr ?_, .inr ?_, .inr ?_, .inr ?_, .inr ?_, .inr ?_, .inr ?_, .inr ?_, .inr ?_, .inr ?_, .inr ?_, .inr ?_, .inr ?_, .inr ?_, .inr ?_, .inr ?_, .inr ?_, .inr ?_, .inr ?_, .inr ?_, .inr ?_, .inr ?_, .inr ?_, .inr ?_, .inr ?_, .inr ?_, .inr ?_, .inr ?_, .inr ?_, .inr ?_, .inr ?_, .inr ?_, .inr ?_, .inr ?_, .inr ?_, .inr ?_, .inr ?_, .inr ?_, .inr ?_, .inr ?_, .inr ?_, .inr ?_, .inr ?_, .inr ?_, .inr ?_, .inr ?_, .inr ?_, .inr ?_, .inr ?_, .inr ?_, .inr ?_, .inr ?_, .inr ?_, .inr ?_, .inr ?_, .inr ?_, .inr ?_, .inr ?_, .inr ?_, .inr ?_, .inr ?_, .inr ?_, .inr ?_, .inr ?_, .inr ?_, .inr ?_, .inr ?_, .inr ?_, .inr ?_, .inr ?_, .inr ?_, .inr ?_, .inr ?_, .inr ?_, .inr ?_, .inr ?_, .inr ?_, .inr ?_, trivial⟩
                · intro b9 X ph hE hd hn hS hV hI hF
                  have r22 : b9.tmps[22]?.getD undef = .pointer (some ⟨bm, 0, none⟩) := (hn 22 (by kernel_rfl)).trans rfl
                  exact Pred.yields_run (v := .pointer (some ⟨bm, 0, none⟩)) (Pred.wanted_none rfl) (by go_simp) ⟨Below.refl _ _, rfl, Nat.zero_le _⟩
                · intro b9 X ph hE hd hn hS hV hI hF
                  have r4 : b9.tmps[4]?.getD undef = .slice (some ⟨ab, ao, none⟩) len4 cap4 := (hn 4 (by kernel_rfl)).trans rfl
                  exact Pred.yields_run (v := .slice (some ⟨ab, ao, none⟩) len4 cap4) (Pred.wanted_none rfl) (by go_simp) ⟨Below.refl _ _, rfl, Nat.zero_le _⟩
                · intro b9 X ph hE hd hn hS hV hI hF
                  have r28 : b9.tmps[28]?.getD undef = .int .i64 i := (hn 28 (by kernel_rfl)).trans rfl
                  exact Pred.yields_run (v := .int .i64 i) (Pred.wanted_none rfl) (by go_simp) ⟨Below.refl _ _, rfl, Nat.zero_le _⟩
                · intro b9 X ph hE hd hn hS hV hI hF
                  obtain ⟨r132, j132⟩ : PredT.At 0 (.slice (some ⟨ab, ao, none⟩) len4 cap4) (b9.tmps[132]?.getD undef) X ph := hV 1 _ 132 rfl rfl (Pred.waits_near (by kernel_rfl) (by kernel_rfl))
                  obtain ⟨r133, j133⟩ : PredT.At 0 (.int .i64 i) (b9.tmps[133]?.getD undef) X ph := hV 2 _ 133 rfl rfl (Pred.waits_near (by kernel_rfl) (by kernel_rfl))
                  exact Pred.yields_run (v := .pointer (some ⟨ab, ao + i * 3, none⟩)) (Pred.wanted_none rfl) (by go_simp) ⟨Below.refl _ _, rfl, Nat.zero_le _⟩
                · intro b9 X ph hE hd hn hS hV hI hF
                  obtain ⟨r134, j134⟩ : PredT.At 0 (.pointer (some ⟨ab, ao + i * 3, none⟩)) (b9.tmps[134]?.getD undef) X ph := hV 3 _ 134 rfl rfl (Pred.waits_near (by kernel_rfl) (by kernel_rfl))
                  exact Pred.yields_run (v := .pointer (some ⟨ab, ao + i * 3, none⟩)) (Pred.wanted_none rfl) (by go_simp) ⟨Below.refl _ _, rfl, Nat.zero_le _⟩
                · intro b9 X ph hE hd hn hS hV hI hF
                  obtain ⟨r135, j135⟩ : PredT.At 0 (.pointer (some ⟨ab, ao + i * 3, none⟩)) (b9.tmps[135]?.getD undef) X ph := hV 4 _ 135 rfl rfl (Pred.waits_near (by kernel_rfl) (by kernel_rfl))
                  have z9 := (hE.cell (p := ⟨ab, ao + i * 3, none⟩) lA).trans y0
                  exact Pred.yields_run (v := .int .i64 z0) (Pred.wanted_none rfl) (by go_simp) ⟨Below.refl _ _, rfl, Nat.zero_le _⟩
                · intro b9 X ph hE hd hn hS hV hI hF
                  have r4 : b9.tmps[4]?.getD undef = .slice (some ⟨ab, ao, none⟩) len4 cap4 := (hn 4 (by kernel_rfl)).trans rfl
                  exact Pred.yields_run (v := .slice (some ⟨ab, ao, none⟩) len4 cap4) (Pred.wanted_none rfl) (by go_simp) ⟨Below.refl _ _, rfl, Nat.zero_le _⟩
                · intro b9 X ph hE hd hn hS hV hI hF
                  have r28 : b9.tmps[28]?.getD undef = .int .i64 i := (hn 28 (by kernel_rfl)).trans rfl
                  exact Pred.yields_run (v := .int .i64 i) (Pred.wanted_none rfl) (by go_simp) ⟨Below.refl _ _, rfl, Nat.zero_le _⟩
                · intro b9 X ph hE hd hn hS hV hI hF
                  obtain ⟨r137, j137⟩ : PredT.At 0 (.slice (some ⟨ab, ao, none⟩) len4 cap4) (b9.tmps[137]?.getD undef) X ph := hV 6 _ 137 rfl rfl (Pred.waits_near (by kernel_rfl) (by kernel_rfl))
                  obtain ⟨r138, j138⟩ : PredT.At 0 (.int .i64 i) (b9.tmps[138]?.getD undef) X ph := hV 7 _ 138 rfl rfl (Pred.waits_near (by kernel_rfl) (by kernel_rfl))
                  exact Pred.yields_run (v := .pointer (some ⟨ab, ao + i * 3, none⟩)) (Pred.wanted_none rfl) (by go_simp) ⟨Below.refl _ _, rfl, Nat.zero_le _⟩
                · intro b9 X ph hE hd hn hS hV hI hF
                  obtain ⟨r139, j139⟩ : PredT.At 0 (.pointer (some ⟨ab, ao + i * 3, none⟩)) (b9.tmps[139]?.getD undef) X ph := hV 8 _ 139 rfl rfl (Pred.waits_near (by kernel_rfl) (by kernel_rfl))
                  exact Pred.yields_run (v := .pointer (some ⟨ab, ao + i * 3 + 1, none⟩)) (Pred.wanted_none rfl) (by go_simp) ⟨Below.refl _ _, rfl, Nat.zero_le _⟩
                · intro b9 X ph hE hd hn hS hV hI hF
                  obtain ⟨r140, j140⟩ : PredT.At 0 (.pointer (some ⟨ab, ao + i * 3 + 1, none⟩)) (b9.tmps[140]?.getD undef) X ph := hV 9 _ 140 rfl rfl (Pred.waits_near (by kernel_rfl) (by kernel_rfl))
                  have z9 := (hE.cell (p := ⟨ab, ao + i * 3 + 1, none⟩) lA).trans y1
                  exact Pred.yields_run (v := .int .i64 z1) (Pred.wanted_none rfl) (by go_simp) ⟨Below.refl _ _, rfl, Nat.zero_le _⟩
                · intro b9 X ph hE hd hn hS hV hI hF
                  have r4 : b9.tmps[4]?.getD undef = .slice (some ⟨ab, ao, none⟩) len4 cap4 := (hn 4 (by kernel_rfl)).trans rfl
                  exact Pred.yields_run (v := .slice (some ⟨ab, ao, none⟩) len4 cap4) (Pred.wanted_none rfl) (by go_simp) ⟨Below.refl _ _, rfl, Nat.zero_le _⟩
                · intro b9 X ph hE hd hn hS hV hI hF
                  have r28 : b9.tmps[28]?.getD undef = .int .i64 i := (hn 28 (by kernel_rfl)).trans rfl
                  exact Pred.yields_run (v := .int .i64 i) (Pred.wanted_none rfl) (by go_simp) ⟨Below.refl _ _, rfl, Nat.zero_le _⟩
                · intro b9 X ph hE hd hn hS hV hI hF
                  obtain ⟨r142, j142⟩ : PredT.At 0 (.slice (some ⟨ab, ao, none⟩) len4 cap4) (b9.tmps[142]?.getD undef) X ph := hV 11 _ 142 rfl rfl (Pred.waits_near (by kernel_rfl) (by kernel_rfl))
                  obtain ⟨r143, j143⟩ : PredT.At 0 (.int .i64 i) (b9.tmps[143]?.getD undef) X ph := hV 12 _ 143 rfl rfl (Pred.waits_near (by kernel_rfl) (by kernel_rfl))
                  exact Pred.yields_run (v := .pointer (some ⟨ab, ao + i * 3, none⟩)) (Pred.wanted_none rfl) (by go_simp) ⟨Below.refl _ _, rfl, Nat.zero_le _⟩
                · intro b9 X ph hE hd hn hS hV hI hF
                  obtain ⟨r144, j144⟩ : PredT.At 0 (.pointer (some ⟨ab, ao + i * 3, none⟩)) (b9.tmps[144]?.getD undef) X ph := hV 13 _ 144 rfl rfl (Pred.waits_near (by kernel_rfl) (by kernel_rfl))
                  exact Pred.yields_run (v := .pointer (some ⟨ab, ao + i * 3 + 2, none⟩)) (Pred.wanted_none rfl) (by go_simp) ⟨Below.refl _ _, rfl, Nat.zero_le _⟩
                · intro b9 X ph hE hd hn hS hV hI hF
                  obtain ⟨r145, j145⟩ : PredT.At 0 (.pointer (some ⟨ab, ao + i * 3 + 2, none⟩)) (b9.tmps[145]?.getD undef) X ph := hV 14 _ 145 rfl rfl (Pred.waits_near (by kernel_rfl) (by kernel_rfl))
                  have z9 := (hE.cell (p := ⟨ab, ao + i * 3 + 2, none⟩) lA).trans y2
                  exact Pred.yields_run (v := .int .i64 z2) (Pred.wanted_none rfl) (by go_simp) ⟨Below.refl _ _, rfl, Nat.zero_le _⟩
                · intro b9 X ph hE hd hn hS hV hI hF
                  obtain ⟨r131, j131⟩ : PredT.At 0 (.pointer (some ⟨bm, 0, none⟩)) (b9.tmps[131]?.getD undef) X ph := hV 0 _ 131 rfl rfl (Pred.waits_near (by kernel_rfl) (by kernel_rfl))
                  obtain ⟨r136, j136⟩ : PredT.At 0 (.int .i64 z0) (b9.tmps[136]?.getD undef) X ph := hV 5 _ 136 rfl rfl (Pred.waits_near (by kernel_rfl) (by kernel_rfl))
                  obtain ⟨r141, j141⟩ : PredT.At 0 (.int .i64 z1) (b9.tmps[141]?.getD undef) X ph := hV 10 _ 141 rfl rfl (Pred.waits_near (by kernel_rfl) (by kernel_rfl))
                  obtain ⟨r146, j146⟩ : PredT.At 0 (.int .i64 z2) (b9.tmps[146]?.getD undef) X ph := hV 15 _ 146 rfl rfl (Pred.waits_near (by kernel_rfl) (by kernel_rfl))
                  refine Pred.yields_call (f := 17) (args := #[.pointer (some ⟨bm, 0, none⟩), .int .i64 z0, .int .i64 z1, .int .i64 z2]) (Pred.wanted_none rfl) (by go_simp) ?_
                  refine (CA.out X (hPz.below hE)).mono ?_
                  rintro e w9 ⟨rfl, hb⟩
                  exact ⟨_, rfl, hb, rfl, Nat.zero_le _⟩
                · intro b9 X ph hE hd hn hS hV hI hF
                  have r24 : b9.tmps[24]?.getD undef = .pointer (some ⟨bq, 0, none⟩) := (hn 24 (by kernel_rfl)).trans rfl
                  exact Pred.yields_run (v := .pointer (some ⟨bq, 0, none⟩)) (Pred.wanted_none rfl) (by go_simp) ⟨Below.refl _ _, rfl, Nat.zero_le _⟩
                · intro b9 X ph hE hd hn hS hV hI hF
                  have r4 : b9.tmps[4]?.getD undef = .slice (some ⟨ab, ao, none⟩) len4 cap4 := (hn 4 (by kernel_rfl)).trans rfl
                  exact Pred.yields_run (v := .slice (some ⟨ab, ao, none⟩) len4 cap4) (Pred.wanted_none rfl) (by go_simp) ⟨Below.refl _ _, rfl, Nat.zero_le _⟩
                · intro b9 X ph hE hd hn hS hV hI hF
                  have r28 : b9.tmps[28]?.getD undef = .int .i64 i := (hn 28 (by kernel_rfl)).trans rfl
                  exact Pred.yields_run (v := .int .i64 i) (Pred.wanted_none rfl) (by go_simp) ⟨Below.refl _ _, rfl, Nat.zero_le _⟩
                · intro b9 X ph hE hd hn hS hV hI hF
                  obtain ⟨r149, j149⟩ : PredT.At 0 (.slice (some ⟨ab, ao, none⟩) len4 cap4) (b9.tmps[149]?.getD undef) X ph := hV 18 _ 149 rfl rfl (Pred.waits_near (by kernel_rfl) (by kernel_rfl))
                  obtain ⟨r150, j150⟩ : PredT.At 0 (.int .i64 i) (b9.tmps[150]?.getD undef) X ph := hV 19 _ 150 rfl rfl (Pred.waits_near (by kernel_rfl) (by kernel_rfl))
                  exact Pred.yields_run (v := .pointer (some ⟨ab, ao + i * 3, none⟩)) (Pred.wanted_none rfl) (by go_simp) ⟨Below.refl _ _, rfl, Nat.zero_le _⟩
                · intro b9 X ph hE hd hn hS hV hI hF
                  obtain ⟨r151, j151⟩ : PredT.At 0 (.pointer (some ⟨ab, ao + i * 3, none⟩)) (b9.tmps[151]?.getD undef) X ph := hV 20 _ 151 rfl rfl (Pred.waits_near (by kernel_rfl) (by kernel_rfl))
                  exact Pred.yields_run (v := .pointer (some ⟨ab, ao + i * 3, none⟩)) (Pred.wanted_none rfl) (by go_simp) ⟨Below.refl _ _, rfl, Nat.zero_le _⟩
                · intro b9 X ph hE hd hn hS hV hI hF
                  obtain ⟨r152, j152⟩ : PredT.At 0 (.pointer (some ⟨ab, ao + i * 3, none⟩)) (b9.tmps[152]?.getD undef) X ph := hV 21 _ 152 rfl rfl (Pred.waits_near (by kernel_rfl) (by kernel_rfl))
                  have z9 := (hE.cell (p := ⟨ab, ao + i * 3, none⟩) lA).trans y0
                  exact Pred.yields_run (v := .int .i64 z0) (Pred.wanted_none rfl) (by go_simp) ⟨Below.refl _ _, rfl, Nat.zero_le _⟩
                · intro b9 X ph hE hd hn hS hV hI hF
                  have r4 : b9.tmps[4]?.getD undef = .slice (some ⟨ab, ao, none⟩) len4 cap4 := (hn 4 (by kernel_rfl)).trans rfl
                  exact Pred.yields_run (v := .slice (some ⟨ab, ao, none⟩) len4 cap4) (Pred.wanted_none rfl) (by go_simp) ⟨Below.refl _ _, rfl, Nat.zero_le _⟩
                · intro b9 X ph hE hd hn hS hV hI hF
                  have r28 : b9.tmps[28]?.getD undef = .int .i64 i := (hn 28 (by kernel_rfl)).trans rfl
                  exact Pred.yields_run (v := .int .i64 i) (Pred.wanted_none rfl) (by go_simp) ⟨Below.refl _ _, rfl, Nat.zero_le _⟩
                · intro b9 X ph hE hd hn hS hV hI hF
                  obtain ⟨r154, j154⟩ : PredT.At 0 (.slice (some ⟨ab, ao, none⟩) len4 cap4) (b9.tmps[154]?.getD undef) X ph := hV 23 _ 154 rfl rfl (Pred.waits_near (by kernel_rfl) (by kernel_rfl))
                  obtain ⟨r155, j155⟩ : PredT.At 0 (.int .i64 i) (b9.tmps[155]?.getD undef) X ph := hV 24 _ 155 rfl rfl (Pred.waits_near (by kernel_rfl) (by kernel_rfl))
                  exact Pred.yields_run (v := .pointer (some ⟨ab, ao + i * 3, none⟩)) (Pred.wanted_none rfl) (by go_simp) ⟨Below.refl _ _, rfl, Nat.zero_le _⟩
                · intro b9 X ph hE hd hn hS hV hI hF
                  obtain ⟨r156, j156⟩ : PredT.At 0 (.pointer (some ⟨ab, ao + i * 3, none⟩)) (b9.tmps[156]?.getD undef) X ph := hV 25 _ 156 rfl rfl (Pred.waits_near (by kernel_rfl) (by kernel_rfl))
                  exact Pred.yields_run (v := .pointer (some ⟨ab, ao + i * 3 + 1, none⟩)) (Pred.wanted_none rfl) (by go_simp) ⟨Below.refl _ _, rfl, Nat.zero_le _⟩
                · intro b9 X ph hE hd hn hS hV hI hF
                  obtain ⟨r157, j157⟩ : PredT.At 0 (.pointer (some ⟨ab, ao + i * 3 + 1, none⟩)) (b9.tmps[157]?.getD undef) X ph := hV 26 _ 157 rfl rfl (Pred.waits_near (by kernel_rfl) (by kernel_rfl))
                  have z9 := (hE.cell (p := ⟨ab, ao + i * 3 + 1, none⟩) lA).trans y1
                  exact Pred.yields_run (v := .int .i64 z1) (Pred.wanted_none rfl) (by go_simp) ⟨Below.refl _ _, rfl, Nat.zero_le _⟩
                · intro b9 X ph hE hd hn hS hV hI hF
                  have r4 : b9.tmps[4]?.getD undef = .slice (some ⟨ab, ao, none⟩) len4 cap4 := (hn 4 (by kernel_rfl)).trans rfl
                  exact Pred.yields_run (v := .slice (some ⟨ab, ao, none⟩) len4 cap4) (Pred.wanted_none rfl) (by go_simp) ⟨Below.refl _ _, rfl, Nat.zero_le _⟩
                · intro b9 X ph hE hd hn hS hV hI hF
                  have r28 : b9.tmps[28]?.getD undef = .int .i64 i := (hn 28 (by kernel_rfl)).trans rfl
                  exact Pred.yields_run (v := .int .i64 i) (Pred.wanted_none rfl) (by go_simp) ⟨Below.refl _ _, rfl, Nat.zero_le _⟩
                · intro b9 X ph hE hd hn hS hV hI hF
                  obtain ⟨r159, j159⟩ : PredT.At 0 (.slice (some ⟨ab, ao, none⟩) len4 cap4) (b9.tmps[159]?.getD undef) X ph := hV 28 _ 159 rfl rfl (Pred.waits_near (by kernel_rfl) (by kernel_rfl))
                  obtain ⟨r160, j160⟩ : PredT.At 0 (.int .i64 i) (b9.tmps[160]?.getD undef) X ph := hV 29 _ 160 rfl rfl (Pred.waits_near (by kernel_rfl) (by kernel_rfl))
                  exact Pred.yields_run (v := .pointer (some ⟨ab, ao + i * 3, none⟩)) (Pred.wanted_none rfl) (by go_simp) ⟨Below.refl _ _, rfl, Nat.zero_le _⟩
                · intro b9 X ph hE hd hn hS hV hI hF
                  obtain ⟨r161, j161⟩ : PredT.At 0 (.pointer (some ⟨ab, ao + i * 3, none⟩)) (b9.tmps[161]?.getD undef) X ph := hV 30 _ 161 rfl rfl (Pred.waits_near (by kernel_rfl) (by kernel_rfl))
                  exact Pred.yields_run (v := .pointer (some ⟨ab, ao + i * 3 + 2, none⟩)) (Pred.wanted_none rfl) (by go_simp) ⟨Below.refl _ _, rfl, Nat.zero_le _⟩
                · intro b9 X ph hE hd hn hS hV hI hF
                  obtain ⟨r162, j162⟩ : PredT.At 0 (.pointer (some ⟨ab, ao + i * 3 + 2, none⟩)) (b9.tmps[162]?.getD undef) X ph := hV 31 _ 162 rfl rfl (Pred.waits_near (by kernel_rfl) (by kernel_rfl))
                  have z9 := (hE.cell (p := ⟨ab, ao + i * 3 + 2, none⟩) lA).trans y2
                  exact Pred.yields_run (v := .int .i64 z2) (Pred.wanted_none rfl) (by go_simp) ⟨Below.refl _ _, rfl, Nat.zero_le _⟩
                · intro b9 X ph hE hd hn hS hV hI hF
                  obtain ⟨r148, j148⟩ : PredT.At 0 (.pointer (some ⟨bq, 0, none⟩)) (b9.tmps[148]?.getD undef) X ph := hV 17 _ 148 rfl rfl (Pred.waits_near (by kernel_rfl) (by kernel_rfl))
                  obtain ⟨r153, j153⟩ : PredT.At 0 (.int .i64 z0) (b9.tmps[153]?.getD undef) X ph := hV 22 _ 153 rfl rfl (Pred.waits_near (by kernel_rfl) (by kernel_rfl))
                  obtain ⟨r158, j158⟩ : PredT.At 0 (.int .i64 z1) (b9.tmps[158]?.getD undef) X ph := hV 27 _ 158 rfl rfl (Pred.waits_near (by kernel_rfl) (by kernel_rfl))
                  obtain ⟨r163, j163⟩ : PredT.At 0 (.int .i64 z2) (b9.tmps[163]?.getD undef) X ph := hV 32 _ 163 rfl rfl (Pred.waits_near (by kernel_rfl) (by kernel_rfl))
                  refine Pred.yields_call (f := 18) (args := #[.pointer (some ⟨bq, 0, none⟩), .int .i64 z0, .int .i64 z1, .int .i64 z2]) (Pred.wanted_none rfl) (by go_simp) ?_
                  refine (CR.out X (hRz.below hE)).mono ?_
                  rintro e w9 ⟨rfl, hb⟩
                  exact ⟨_, rfl, hb, rfl, Nat.zero_le _⟩
                · intro b9 X ph hE hd hn hS hV hI hF
                  obtain ⟨r147, j147⟩ : PredT.At 0 (p.v) (b9.tmps[147]?.getD undef) X ph := hV 16 _ 147 rfl rfl (Pred.waits_near (by kernel_rfl) (by kernel_rfl))
                  obtain ⟨r164, j164⟩ : PredT.At 0 (p.v) (b9.tmps[164]?.getD undef) X ph := hV 33 _ 164 rfl rfl (Pred.waits_near (by kernel_rfl) (by kernel_rfl))
                  exact Pred.yields_run (v := .bool false) (Pred.wanted_none rfl) (by go_simp) ⟨Below.refl _ _, rfl, Nat.zero_le _⟩
                · intro b9 X ph hE hd hn hS hV hI hF
                  obtain ⟨r165, j165⟩ : PredT.At 0 (.bool false) (b9.tmps[165]?.getD undef) X ph := hV 34 _ 165 rfl rfl (Pred.waits_near (by kernel_rfl) (by kernel_rfl))
                  exact Pred.yields_run (v := .bool false) (Pred.wanted_none rfl) (by go_simp) ⟨Below.refl _ _, rfl, Nat.zero_le _⟩
                · intro b9 X ph hE hd hn hS hV hI hF
                  have r22 : b9.tmps[22]?.getD undef = .pointer (some ⟨bm, 0, none⟩) := (hn 22 (by kernel_rfl)).trans rfl
                  obtain ⟨r166, j166⟩ : PredT.At 0 (.bool false) (b9.tmps[166]?.getD undef) X ph := hV 35 _ 166 rfl rfl (Pred.waits_near (by kernel_rfl) (by kernel_rfl))
                  exact Pred.yields_run (v := .pointer (some ⟨bm, 0, none⟩)) ((Pred.wanted_at (g := 35) (d := 166) (f := false) rfl rfl r166).trans rfl) (by go_simp) ⟨Below.refl _ _, rfl, Nat.zero_le _⟩
                · intro b9 X ph hE hd hn hS hV hI hF
                  have r4 : b9.tmps[4]?.getD undef = .slice (some ⟨ab, ao, none⟩) len4 cap4 := (hn 4 (by kernel_rfl)).trans rfl
                  obtain ⟨r166, j166⟩ : PredT.At 0 (.bool false) (b9.tmps[166]?.getD undef) X ph := hV 35 _ 166 rfl rfl (Pred.waits_near (by kernel_rfl) (by kernel_rfl))
                  exact Pred.yields_run (v := .slice (some ⟨ab, ao, none⟩) len4 cap4) ((Pred.wanted_at (g := 35) (d := 166) (f := false) rfl rfl r166).trans rfl) (by go_simp) ⟨Below.refl _ _, rfl, Nat.zero_le _⟩
                · intro b9 X ph hE hd hn hS hV hI hF
                  have r28 : b9.tmps[28]?.getD undef = .int .i64 i := (hn 28 (by kernel_rfl)).trans rfl
                  obtain ⟨r166, j166⟩ : PredT.At 0 (.bool false) (b9.tmps[166]?.getD undef) X ph := hV 35 _ 166 rfl rfl (Pred.waits_near (by kernel_rfl) (by kernel_rfl))
                  exact Pred.yields_run (v := .int .i64 i) ((Pred.wanted_at (g := 35) (d := 166) (f := false) rfl rfl r166).trans rfl) (by go_simp) ⟨Below.refl _ _, rfl, Nat.zero_le _⟩
                · intro b9 X ph hE hd hn hS hV hI hF
                  obtain ⟨r168, j168⟩ : PredT.At 0 (.slice (some ⟨ab, ao, none⟩) len4 cap4) (b9.tmps[168]?.getD undef) X ph := hV 37 _ 168 rfl rfl (Pred.waits_near (by kernel_rfl) (by kernel_rfl))
                  obtain ⟨r169, j169⟩ : PredT.At 0 (.int .i64 i) (b9.tmps[169]?.getD undef) X ph := hV 38 _ 169 rfl rfl (Pred.waits_near (by kernel_rfl) (by kernel_rfl))
                  obtain ⟨r166, j166⟩ : PredT.At 0 (.bool false) (b9.tmps[166]?.getD undef) X ph := hV 35 _ 166 rfl rfl (Pred.waits_near (by kernel_rfl) (by kernel_rfl))
                  exact Pred.yields_run (v := .pointer (some ⟨ab, ao + i * 3, none⟩)) ((Pred.wanted_at (g := 35) (d := 166) (f := false) rfl rfl r166).trans rfl) (by go_simp) ⟨Below.refl _ _, rfl, Nat.zero_le _⟩
                · intro b9 X ph hE hd hn hS hV hI hF
                  obtain ⟨r170, j170⟩ : PredT.At 0 (.pointer (some ⟨ab, ao + i * 3, none⟩)) (b9.tmps[170]?.getD undef) X ph := hV 39 _ 170 rfl rfl (Pred.waits_near (by kernel_rfl) (by kernel_rfl))
                  obtain ⟨r166, j166⟩ : PredT.At 0 (.bool false) (b9.tmps[166]?.getD undef) X ph := hV 35 _ 166 rfl rfl (Pred.waits_near (by kernel_rfl) (by kernel_rfl))
                  exact Pred.yields_run (v := .pointer (some ⟨ab, ao + i * 3, none⟩)) ((Pred.wanted_at (g := 35) (d := 166) (f := false) rfl rfl r166).trans rfl) (by go_simp) ⟨Below.refl _ _, rfl, Nat.zero_le _⟩
                · intro b9 X ph hE hd hn hS hV hI hF
                  obtain ⟨r171, j171⟩ : PredT.At 0 (.pointer (some ⟨ab, ao + i * 3, none⟩)) (b9.tmps[171]?.getD undef) X ph := hV 40 _ 171 rfl rfl (Pred.waits_near (by kernel_rfl) (by kernel_rfl))
                  obtain ⟨r166, j166⟩ : PredT.At 0 (.bool false) (b9.tmps[166]?.getD undef) X ph := hV 35 _ 166 rfl rfl (Pred.waits_near (by kernel_rfl) (by kernel_rfl))
                  have z9 := (hE.cell (p := ⟨ab, ao + i * 3, none⟩) lA).trans y0
                  exact Pred.yields_run (v := .int .i64 z0) ((Pred.wanted_at (g := 35) (d := 166) (f := false) rfl rfl r166).trans rfl) (by go_simp) ⟨Below.refl _ _, rfl, Nat.zero_le _⟩
                · intro b9 X ph hE hd hn hS hV hI hF
                  obtain ⟨r167, j167⟩ : PredT.At 0 (.pointer (some ⟨bm, 0, none⟩)) (b9.tmps[167]?.getD undef) X ph := hV 36 _ 167 rfl rfl (Pred.waits_near (by kernel_rfl) (by kernel_rfl))
                  obtain ⟨r172, j172⟩ : PredT.At 0 (.int .i64 z0) (b9.tmps[172]?.getD undef) X ph := hV 41 _ 172 rfl rfl (Pred.waits_near (by kernel_rfl) (by kernel_rfl))
                  obtain ⟨r166, j166⟩ : PredT.At 0 (.bool false) (b9.tmps[166]?.getD undef) X ph := hV 35 _ 166 rfl rfl (Pred.waits_near (by kernel_rfl) (by kernel_rfl))
                  refine Pred.yields_call (f := 19) (args := #[.pointer (some ⟨bm, 0, none⟩), .int .i64 z0]) ((Pred.wanted_at (g := 35) (d := 166) (f := false) rfl rfl r166).trans rfl) (by go_simp) ?_
                  refine (CS.out X (hPz.below hE)).mono ?_
                  rintro e w9 ⟨rfl, rfl⟩
                  exact ⟨_, rfl, Below.refl _ _, rfl, Nat.zero_le _⟩
                · intro b9 X ph hE hd hn hS hV hI hF
                  have r24 : b9.tmps[24]?.getD undef = .pointer (some ⟨bq, 0, none⟩) := (hn 24 (by kernel_rfl)).trans rfl
                  obtain ⟨r166, j166⟩ : PredT.At 0 (.bool false) (b9.tmps[166]?.getD undef) X ph := hV 35 _ 166 rfl rfl (Pred.waits_near (by kernel_rfl) (by kernel_rfl))
                  exact Pred.yields_run (v := .pointer (some ⟨bq, 0, none⟩)) ((Pred.wanted_at (g := 35) (d := 166) (f := false) rfl rfl r166).trans rfl) (by go_simp) ⟨Below.refl _ _, rfl, Nat.zero_le _⟩
                · intro b9 X ph hE hd hn hS hV hI hF
                  have r4 : b9.tmps[4]?.getD undef = .slice (some ⟨ab, ao, none⟩) len4 cap4 := (hn 4 (by kernel_rfl)).trans rfl
                  obtain ⟨r166, j166⟩ : PredT.At 0 (.bool false) (b9.tmps[166]?.getD undef) X ph := hV 35 _ 166 rfl rfl (Pred.waits_near (by kernel_rfl) (by kernel_rfl))
                  exact Pred.yields_run (v := .slice (some ⟨ab, ao, none⟩) len4 cap4) ((Pred.wanted_at (g := 35) (d := 166) (f := false) rfl rfl r166).trans rfl) (by go_simp) ⟨Below.refl _ _, rfl, Nat.zero_le _⟩
                · intro b9 X ph hE hd hn hS hV hI hF
                  have r28 : b9.tmps[28]?.getD undef = .int .i64 i := (hn 28 (by kernel_rfl)).trans rfl
                  obtain ⟨r166, j166⟩ : PredT.At 0 (.bool false) (b9.tmps[166]?.getD undef) X ph := hV 35 _ 166 rfl rfl (Pred.waits_near (by kernel_rfl) (by kernel_rfl))
                  exact Pred.yields_run (v := .int .i64 i) ((Pred.wanted_at (g := 35) (d := 166) (f := false) rfl rfl r166).trans rfl) (by go_simp) ⟨Below.refl _ _, rfl, Nat.zero_le _⟩
                · intro b9 X ph hE hd hn hS hV hI hF
                  obtain ⟨r175, j175⟩ : PredT.At 0 (.slice (some ⟨ab, ao, none⟩) len4 cap4) (b9.tmps[175]?.getD undef) X ph := hV 44 _ 175 rfl rfl (Pred.waits_near (by kernel_rfl) (by kernel_rfl))
                  obtain ⟨r176, j176⟩ : PredT.At 0 (.int .i64 i) (b9.tmps[176]?.getD undef) X ph := hV 45 _ 176 rfl rfl (Pred.waits_near (by kernel_rfl) (by kernel_rfl))
                  obtain ⟨r166, j166⟩ : PredT.At 0 (.bool false) (b9.tmps[166]?.getD undef) X ph := hV 35 _ 166 rfl rfl (Pred.waits_near (by kernel_rfl) (by kernel_rfl))
                  exact Pred.yields_run (v := .pointer (some ⟨ab, ao + i * 3, none⟩)) ((Pred.wanted_at (g := 35) (d := 166) (f := false) rfl rfl r166).trans rfl) (by go_simp) ⟨Below.refl _ _, rfl, Nat.zero_le _⟩
                · intro b9 X ph hE hd hn hS hV hI hF
                  obtain ⟨r177, j177⟩ : PredT.At 0 (.pointer (some ⟨ab, ao + i * 3, none⟩)) (b9.tmps[177]?.getD undef) X ph := hV 46 _ 177 rfl rfl (Pred.waits_near (by kernel_rfl) (by kernel_rfl))
                  obtain ⟨r166, j166⟩ : PredT.At 0 (.bool false) (b9.tmps[166]?.getD undef) X ph := hV 35 _ 166 rfl rfl (Pred.waits_near (by kernel_rfl) (by kernel_rfl))
                  exact Pred.yields_run (v := .pointer (some ⟨ab, ao + i * 3, none⟩)) ((Pred.wanted_at (g := 35) (d := 166) (f := false) rfl rfl r166).trans rfl) (by go_simp) ⟨Below.refl _ _, rfl, Nat.zero_le _⟩
                · intro b9 X ph hE hd hn hS hV hI hF
                  obtain ⟨r178, j178⟩ : PredT.At 0 (.pointer (some ⟨ab, ao + i * 3, none⟩)) (b9.tmps[178]?.getD undef) X ph := hV 47 _ 178 rfl rfl (Pred.waits_near (by kernel_rfl) (by kernel_rfl))
                  obtain ⟨r166, j166⟩ : PredT.At 0 (.bool false) (b9.tmps[166]?.getD undef) X ph := hV 35 _ 166 rfl rfl (Pred.waits_near (by kernel_rfl) (by kernel_rfl))
                  have z9 := (hE.cell (p := ⟨ab, ao + i * 3, none⟩) lA).trans y0
                  exact Pred.yields_run (v := .int .i64 z0) ((Pred.wanted_at (g := 35) (d := 166) (f := false) rfl rfl r166).trans rfl) (by go_simp) ⟨Below.refl _ _, rfl, Nat.zero_le _⟩
                · intro b9 X ph hE hd hn hS hV hI hF
                  obtain ⟨r174, j174⟩ : PredT.At 0 (.pointer (some ⟨bq, 0, none⟩)) (b9.tmps[174]?.getD undef) X ph := hV 43 _ 174 rfl rfl (Pred.waits_near (by kernel_rfl) (by kernel_rfl))
                  obtain ⟨r179, j179⟩ : PredT.At 0 (.int .i64 z0) (b9.tmps[179]?.getD undef) X ph := hV 48 _ 179 rfl rfl (Pred.waits_near (by kernel_rfl) (by kernel_rfl))
                  obtain ⟨r166, j166⟩ : PredT.At 0 (.bool false) (b9.tmps[166]?.getD undef) X ph := hV 35 _ 166 rfl rfl (Pred.waits_near (by kernel_rfl) (by kernel_rfl))
                  refine Pred.yields_call (f := 20) (args := #[.pointer (some ⟨bq, 0, none⟩), .int .i64 z0]) ((Pred.wanted_at (g := 35) (d := 166) (f := false) rfl rfl r166).trans rfl) (by go_simp) ?_
                  refine (CT.out X (hRz.below hE)).mono ?_
                  rintro e w9 ⟨rfl, hb⟩
                  exact ⟨_, rfl, hb, rfl, Nat.zero_le _⟩
                · intro b9 X ph hE hd hn hS hV hI hF
                  obtain ⟨r173, j173⟩ : PredT.At 0 (.int .i64 s) (b9.tmps[173]?.getD undef) X ph := hV 42 _ 173 rfl rfl (Pred.waits_near (by kernel_rfl) (by kernel_rfl))
                  obtain ⟨r180, j180⟩ : PredT.At 0 (.int .i64 s) (b9.tmps[180]?.getD undef) X ph := hV 49 _ 180 rfl rfl (Pred.waits_near (by kernel_rfl) (by kernel_rfl))
                  obtain ⟨r166, j166⟩ : PredT.At 0 (.bool false) (b9.tmps[166]?.getD undef) X ph := hV 35 _ 166 rfl rfl (Pred.waits_near (by kernel_rfl) (by kernel_rfl))
                  exact Pred.yields_run (v := .bool false) ((Pred.wanted_at (g := 35) (d := 166) (f := false) rfl rfl r166).trans rfl) (by go_simp) ⟨Below.refl _ _, rfl, Nat.zero_le _⟩
                · intro b9 X ph hE hd hn hS hV hI hF
                  obtain ⟨r166, j166⟩ : PredT.At 0 (.bool false) (b9.tmps[166]?.getD undef) X ph := hV 35 _ 166 rfl rfl (Pred.waits_near (by kernel_rfl) (by kernel_rfl))
                  obtain ⟨r181, j181⟩ : PredT.At 0 (.bool false) (b9.tmps[181]?.getD undef) X ph := hV 50 _ 181 rfl rfl (Pred.waits_near (by kernel_rfl) (by kernel_rfl))
                  exact Pred.yields_run (v := .bool false) (Pred.wanted_none rfl) (by go_simp) ⟨Below.refl _ _, rfl, Nat.zero_le _⟩
                · intro b9 X ph hE hd hn hS hV hI hF
                  obtain ⟨r182, j182⟩ : PredT.At 0 (.bool false) (b9.tmps[182]?.getD undef) X ph := hV 51 _ 182 rfl rfl (Pred.waits_near (by kernel_rfl) (by kernel_rfl))
                  exact Pred.yields_run (v := .bool false) (Pred.wanted_none rfl) (by go_simp) ⟨Below.refl _ _, rfl, Nat.zero_le _⟩
                · intro b9 X ph hE hd hn hS hV hI hF
                  have r27 : b9.tmps[27]?.getD undef = .pointer (some ⟨bo, 0, none⟩) := (hn 27 (by kernel_rfl)).trans rfl
                  obtain ⟨r183, j183⟩ : PredT.At 0 (.bool false) (b9.tmps[183]?.getD undef) X ph := hV 52 _ 183 rfl rfl (Pred.waits_near (by kernel_rfl) (by kernel_rfl))
                  exact Pred.yields_run (v := .pointer (some ⟨bo, 0, none⟩)) ((Pred.wanted_at (g := 52) (d := 183) (f := false) rfl rfl r183).trans rfl) (by go_simp) ⟨Below.refl _ _, rfl, Nat.zero_le _⟩
                · intro b9 X ph hE hd hn hS hV hI hF
                  obtain ⟨r184, j184⟩ : PredT.At 0 (.pointer (some ⟨bo, 0, none⟩)) (b9.tmps[184]?.getD undef) X ph := hV 53 _ 184 rfl rfl (Pred.waits_near (by kernel_rfl) (by kernel_rfl))
                  obtain ⟨r183, j183⟩ : PredT.At 0 (.bool false) (b9.tmps[183]?.getD undef) X ph := hV 52 _ 183 rfl rfl (Pred.waits_near (by kernel_rfl) (by kernel_rfl))
                  exact Pred.yields_run (v := .bool true) ((Pred.wanted_at (g := 52) (d := 183) (f := false) rfl rfl r183).trans rfl) (by go_simp) ⟨Below.refl _ _, rfl, Nat.zero_le _⟩
                · intro b9 X ph hE hd hn hS hV hI hF
                  obtain ⟨r185, j185⟩ : PredT.At 0 (.bool true) (b9.tmps[185]?.getD undef) X ph := hV 54 _ 185 rfl rfl (Pred.waits_near (by kernel_rfl) (by kernel_rfl))
                  obtain ⟨r183, j183⟩ : PredT.At 0 (.bool false) (b9.tmps[183]?.getD undef) X ph := hV 52 _ 183 rfl rfl (Pred.waits_near (by kernel_rfl) (by kernel_rfl))
                  exact Pred.yields_run (v := .bool true) ((Pred.wanted_at (g := 52) (d := 183) (f := false) rfl rfl r183).trans rfl) (by go_simp) ⟨Below.refl _ _, rfl, Nat.zero_le _⟩
                · intro b9 X ph hE hd hn hS hV hI hF
                  have r25 : b9.tmps[25]?.getD undef = .pointer (some ⟨bn, 0, none⟩) := (hn 25 (by kernel_rfl)).trans rfl
                  obtain ⟨r186, j186⟩ : PredT.At 0 (.bool true) (b9.tmps[186]?.getD undef) X ph := hV 55 _ 186 rfl rfl (Pred.waits_near (by kernel_rfl) (by kernel_rfl))
                  exact Pred.yields_run (v := .pointer (some ⟨bn, 0, none⟩)) ((Pred.wanted_at (g := 55) (d := 186) (f := true) rfl rfl r186).trans rfl) (by go_simp) ⟨Below.refl _ _, rfl, Nat.zero_le _⟩
                · intro b9 X ph hE hd hn hS hV hI hF
                  have r4 : b9.tmps[4]?.getD undef = .slice (some ⟨ab, ao, none⟩) len4 cap4 := (hn 4 (by kernel_rfl)).trans rfl
                  obtain ⟨r186, j186⟩ : PredT.At 0 (.bool true) (b9.tmps[186]?.getD undef) X ph := hV 55 _ 186 rfl rfl (Pred.waits_near (by kernel_rfl) (by kernel_rfl))
                  exact Pred.yields_run (v := .slice (some ⟨ab, ao, none⟩) len4 cap4) ((Pred.wanted_at (g := 55) (d := 186) (f := true) rfl rfl r186).trans rfl) (by go_simp) ⟨Below.refl _ _, rfl, Nat.zero_le _⟩
                · intro b9 X ph hE hd hn hS hV hI hF
                  have r28 : b9.tmps[28]?.getD undef = .int .i64 i := (hn 28 (by kernel_rfl)).trans rfl
                  obtain ⟨r186, j186⟩ : PredT.At 0 (.bool true) (b9.tmps[186]?.getD undef) X ph := hV 55 _ 186 rfl rfl (Pred.waits_near (by kernel_rfl) (by kernel_rfl))
                  exact Pred.yields_run (v := .int .i64 i) ((Pred.wanted_at (g := 55) (d := 186) (f := true) rfl rfl r186).trans rfl) (by go_simp) ⟨Below.refl _ _, rfl, Nat.zero_le _⟩
                · intro b9 X ph hE hd hn hS hV hI hF
                  obtain ⟨r188, j188⟩ : PredT.At 0 (.slice (some ⟨ab, ao, none⟩) len4 cap4) (b9.tmps[188]?.getD undef) X ph := hV 57 _ 188 rfl rfl (Pred.waits_near (by kernel_rfl) (by kernel_rfl))
                  obtain ⟨r189, j189⟩ : PredT.At 0 (.int .i64 i) (b9.tmps[189]?.getD undef) X ph := hV 58 _ 189 rfl rfl (Pred.waits_near (by kernel_rfl) (by kernel_rfl))
                  obtain ⟨r186, j186⟩ : PredT.At 0 (.bool true) (b9.tmps[186]?.getD undef) X ph := hV 55 _ 186 rfl rfl (Pred.waits_near (by kernel_rfl) (by kernel_rfl))
                  exact Pred.yields_run (v := .pointer (some ⟨ab, ao + i * 3, none⟩)) ((Pred.wanted_at (g := 55) (d := 186) (f := true) rfl rfl r186).trans rfl) (by go_simp) ⟨Below.refl _ _, rfl, Nat.zero_le _⟩
                · intro b9 X ph hE hd hn hS hV hI hF
                  obtain ⟨r190, j190⟩ : PredT.At 0 (.pointer (some ⟨ab, ao + i * 3, none⟩)) (b9.tmps[190]?.getD undef) X ph := hV 59 _ 190 rfl rfl (Pred.waits_near (by kernel_rfl) (by kernel_rfl))
                  obtain ⟨r186, j186⟩ : PredT.At 0 (.bool true) (b9.tmps[186]?.getD undef) X ph := hV 55 _ 186 rfl rfl (Pred.waits_near (by kernel_rfl) (by kernel_rfl))
                  exact Pred.yields_run (v := .pointer (some ⟨ab, ao + i * 3, none⟩)) ((Pred.wanted_at (g := 55) (d := 186) (f := true) rfl rfl r186).trans rfl) (by go_simp) ⟨Below.refl _ _, rfl, Nat.zero_le _⟩
                · intro b9 X ph hE hd hn hS hV hI hF
                  obtain ⟨r191, j191⟩ : PredT.At 0 (.pointer (some ⟨ab, ao + i * 3, none⟩)) (b9.tmps[191]?.getD undef) X ph := hV 60 _ 191 rfl rfl (Pred.waits_near (by kernel_rfl) (by kernel_rfl))
                  obtain ⟨r186, j186⟩ : PredT.At 0 (.bool true) (b9.tmps[186]?.getD undef) X ph := hV 55 _ 186 rfl rfl (Pred.waits_near (by kernel_rfl) (by kernel_rfl))
                  have z9 := (hE.cell (p := ⟨ab, ao + i * 3, none⟩) lA).trans y0
                  exact Pred.yields_run (v := .int .i64 z0) ((Pred.wanted_at (g := 55) (d := 186) (f := true) rfl rfl r186).trans rfl) (by go_simp) ⟨Below.refl _ _, rfl, Nat.zero_le _⟩
                · intro b9 X ph hE hd hn hS hV hI hF
                  have r4 : b9.tmps[4]?.getD undef = .slice (some ⟨ab, ao, none⟩) len4 cap4 := (hn 4 (by kernel_rfl)).trans rfl
                  obtain ⟨r186, j186⟩ : PredT.At 0 (.bool true) (b9.tmps[186]?.getD undef) X ph := hV 55 _ 186 rfl rfl (Pred.waits_near (by kernel_rfl) (by kernel_rfl))
                  exact Pred.yields_run (v := .slice (some ⟨ab, ao, none⟩) len4 cap4) ((Pred.wanted_at (g := 55) (d := 186) (f := true) rfl rfl r186).trans rfl) (by go_simp) ⟨Below.refl _ _, rfl, Nat.zero_le _⟩
                · intro b9 X ph hE hd hn hS hV hI hF
                  have r28 : b9.tmps[28]?.getD undef = .int .i64 i := (hn 28 (by kernel_rfl)).trans rfl
                  obtain ⟨r186, j186⟩ : PredT.At 0 (.bool true) (b9.tmps[186]?.getD undef) X ph := hV 55 _ 186 rfl rfl (Pred.waits_near (by kernel_rfl) (by kernel_rfl))
                  exact Pred.yields_run (v := .int .i64 i) ((Pred.wanted_at (g := 55) (d := 186) (f := true) rfl rfl r186).trans rfl) (by go_simp) ⟨Below.refl _ _, rfl, Nat.zero_le _⟩
                · intro b9 X ph hE hd hn hS hV hI hF
                  obtain ⟨r193, j193⟩ : PredT.At 0 (.slice (some ⟨ab, ao, none⟩) len4 cap4) (b9.tmps[193]?.getD undef) X ph := hV 62 _ 193 rfl rfl (Pred.waits_near (by kernel_rfl) (by kernel_rfl))
                  obtain ⟨r194, j194⟩ : PredT.At 0 (.int .i64 i) (b9.tmps[194]?.getD undef) X ph := hV 63 _ 194 rfl rfl (Pred.waits_near (by kernel_rfl) (by kernel_rfl))
                  obtain ⟨r186, j186⟩ : PredT.At 0 (.bool true) (b9.tmps[186]?.getD undef) X ph := hV 55 _ 186 rfl rfl (Pred.waits_near (by kernel_rfl) (by kernel_rfl))
                  exact Pred.yields_run (v := .pointer (some ⟨ab, ao + i * 3, none⟩)) ((Pred.wanted_at (g := 55) (d := 186) (f := true) rfl rfl r186).trans rfl) (by go_simp) ⟨Below.refl _ _, rfl, Nat.zero_le _⟩
                · intro b9 X ph hE hd hn hS hV hI hF
                  obtain ⟨r195, j195⟩ : PredT.At 0 (.pointer (some ⟨ab, ao + i * 3, none⟩)) (b9.tmps[195]?.getD undef) X ph := hV 64 _ 195 rfl rfl (Pred.waits_near (by kernel_rfl) (by kernel_rfl))
                  obtain ⟨r186, j186⟩ : PredT.At 0 (.bool true) (b9.tmps[186]?.getD undef) X ph := hV 55 _ 186 rfl rfl (Pred.waits_near (by kernel_rfl) (by kernel_rfl))
                  exact Pred.yields_run (v := .pointer (some ⟨ab, ao + i * 3 + 1, none⟩)) ((Pred.wanted_at (g := 55) (d := 186) (f := true) rfl rfl r186).trans rfl) (by go_simp) ⟨Below.refl _ _, rfl, Nat.zero_le _⟩
                · intro b9 X ph hE hd hn hS hV hI hF
                  obtain ⟨r196, j196⟩ : PredT.At 0 (.pointer (some ⟨ab, ao + i * 3 + 1, none⟩)) (b9.tmps[196]?.getD undef) X ph := hV 65 _ 196 rfl rfl (Pred.waits_near (by kernel_rfl) (by kernel_rfl))
                  obtain ⟨r186, j186⟩ : PredT.At 0 (.bool true) (b9.tmps[186]?.getD undef) X ph := hV 55 _ 186 rfl rfl (Pred.waits_near (by kernel_rfl) (by kernel_rfl))
                  have z9 := (hE.cell (p := ⟨ab, ao + i * 3 + 1, none⟩) lA).trans y1
                  exact Pred.yields_run (v := .int .i64 z1) ((Pred.wanted_at (g := 55) (d := 186) (f := true) rfl rfl r186).trans rfl) (by go_simp) ⟨Below.refl _ _, rfl, Nat.zero_le _⟩
                · intro b9 X ph hE hd hn hS hV hI hF
                  have r4 : b9.tmps[4]?.getD undef = .slice (some ⟨ab, ao, none⟩) len4 cap4 := (hn 4 (by kernel_rfl)).trans rfl
                  obtain ⟨r186, j186⟩ : PredT.At 0 (.bool true) (b9.tmps[186]?.getD undef) X ph := hV 55 _ 186 rfl rfl (Pred.waits_near (by kernel_rfl) (by kernel_rfl))
                  exact Pred.yields_run (v := .slice (some ⟨ab, ao, none⟩) len4 cap4) ((Pred.wanted_at (g := 55) (d := 186) (f := true) rfl rfl r186).trans rfl) (by go_simp) ⟨Below.refl _ _, rfl, Nat.zero_le _⟩
                · intro b9 X ph hE hd hn hS hV hI hF
                  have r28 : b9.tmps[28]?.getD undef = .int .i64 i := (hn 28 (by kernel_rfl)).trans rfl
                  obtain ⟨r186, j186⟩ : PredT.At 0 (.bool true) (b9.tmps[186]?.getD undef) X ph := hV 55 _ 186 rfl rfl (Pred.waits_near (by kernel_rfl) (by kernel_rfl))
                  exact Pred.yields_run (v := .int .i64 i) ((Pred.wanted_at (g := 55) (d := 186) (f := true) rfl rfl r186).trans rfl) (by go_simp) ⟨Below.refl _ _, rfl, Nat.zero_le _⟩
                · intro b9 X ph hE hd hn hS hV hI hF
                  obtain ⟨r198, j198⟩ : PredT.At 0 (.slice (some ⟨ab, ao, none⟩) len4 cap4) (b9.tmps[198]?.getD undef) X ph := hV 67 _ 198 rfl rfl (Pred.waits_near (by kernel_rfl) (by kernel_rfl))
                  obtain ⟨r199, j199⟩ : PredT.At 0 (.int .i64 i) (b9.tmps[199]?.getD undef) X ph := hV 68 _ 199 rfl rfl (Pred.waits_near (by kernel_rfl) (by kernel_rfl))
                  obtain ⟨r186, j186⟩ : PredT.At 0 (.bool true) (b9.tmps[186]?.getD undef) X ph := hV 55 _ 186 rfl rfl (Pred.waits_near (by kernel_rfl) (by kernel_rfl))
                  exact Pred.yields_run (v := .pointer (some ⟨ab, ao + i * 3, none⟩)) ((Pred.wanted_at (g := 55) (d := 186) (f := true) rfl rfl r186).trans rfl) (by go_simp) ⟨Below.refl _ _, rfl, Nat.zero_le _⟩
                · intro b9 X ph hE hd hn hS hV hI hF
                  obtain ⟨r200, j200⟩ : PredT.At 0 (.pointer (some ⟨ab, ao + i * 3, none⟩)) (b9.tmps[200]?.getD undef) X ph := hV 69 _ 200 rfl rfl (Pred.waits_near (by kernel_rfl) (by kernel_rfl))
                  obtain ⟨r186, j186⟩ : PredT.At 0 (.bool true) (b9.tmps[186]?.getD undef) X ph := hV 55 _ 186 rfl rfl (Pred.waits_near (by kernel_rfl) (by kernel_rfl))
                  exact Pred.yields_run (v := .pointer (some ⟨ab, ao + i * 3 + 2, none⟩)) ((Pred.wanted_at (g := 55) (d := 186) (f := true) rfl rfl r186).trans rfl) (by go_simp) ⟨Below.refl _ _, rfl, Nat.zero_le _⟩
                · intro b9 X ph hE hd hn hS hV hI hF
                  obtain ⟨r201, j201⟩ : PredT.At 0 (.pointer (some ⟨ab, ao + i * 3 + 2, none⟩)) (b9.tmps[201]?.getD undef) X ph := hV 70 _ 201 rfl rfl (Pred.waits_near (by kernel_rfl) (by kernel_rfl))
                  obtain ⟨r186, j186⟩ : PredT.At 0 (.bool true) (b9.tmps[186]?.getD undef) X ph := hV 55 _ 186 rfl rfl (Pred.waits_near (by kernel_rfl) (by kernel_rfl))
                  have z9 := (hE.cell (p := ⟨ab, ao + i * 3 + 2, none⟩) lA).trans y2
                  exact Pred.yields_run (v := .int .i64 z2) ((Pred.wanted_at (g := 55) (d := 186) (f := true) rfl rfl r186).trans rfl) (by go_simp) ⟨Below.refl _ _, rfl, Nat.zero_le _⟩
                · intro b9 X ph hE hd hn hS hV hI hF
                  obtain ⟨r187, j187⟩ : PredT.At 0 (.pointer (some ⟨bn, 0, none⟩)) (b9.tmps[187]?.getD undef) X ph := hV 56 _ 187 rfl rfl (Pred.waits_near (by kernel_rfl) (by kernel_rfl))
                  obtain ⟨r192, j192⟩ : PredT.At 0 (.int .i64 z0) (b9.tmps[192]?.getD undef) X ph := hV 61 _ 192 rfl rfl (Pred.waits_near (by kernel_rfl) (by kernel_rfl))
                  obtain ⟨r197, j197⟩ : PredT.At 0 (.int .i64 z1) (b9.tmps[197]?.getD undef) X ph := hV 66 _ 197 rfl rfl (Pred.waits_near (by kernel_rfl) (by kernel_rfl))
                  obtain ⟨r202, j202⟩ : PredT.At 0 (.int .i64 z2) (b9.tmps[202]?.getD undef) X ph := hV 71 _ 202 rfl rfl (Pred.waits_near (by kernel_rfl) (by kernel_rfl))
                  obtain ⟨r186, j186⟩ : PredT.At 0 (.bool true) (b9.tmps[186]?.getD undef) X ph := hV 55 _ 186 rfl rfl (Pred.waits_near (by kernel_rfl) (by kernel_rfl))
                  refine Pred.yields_call (f := 17) (args := #[.pointer (some ⟨bn, 0, none⟩), .int .i64 z0, .int .i64 z1, .int .i64 z2]) ((Pred.wanted_at (g := 55) (d := 186) (f := true) rfl rfl r186).trans rfl) (by go_simp) ?_
                  refine (CB.out X (hNz.below hE)).mono ?_
                  rintro e w9 ⟨rfl, hb⟩
                  exact ⟨_, rfl, hb, rfl, Nat.zero_le _⟩
                · intro b9 X ph hE hd hn hS hV hI hF
                  have r27 : b9.tmps[27]?.getD undef = .pointer (some ⟨bo, 0, none⟩) := (hn 27 (by kernel_rfl)).trans rfl
                  obtain ⟨r186, j186⟩ : PredT.At 0 (.bool true) (b9.tmps[186]?.getD undef) X ph := hV 55 _ 186 rfl rfl (Pred.waits_near (by kernel_rfl) (by kernel_rfl))
                  exact Pred.yields_run (v := .pointer (some ⟨bo, 0, none⟩)) ((Pred.wanted_at (g := 55) (d := 186) (f := true) rfl rfl r186).trans rfl) (by go_simp) ⟨Below.refl _ _, rfl, Nat.zero_le _⟩
                · intro b9 X ph hE hd hn hS hV hI hF
                  have r4 : b9.tmps[4]?.getD undef = .slice (some ⟨ab, ao, none⟩) len4 cap4 := (hn 4 (by kernel_rfl)).trans rfl
                  obtain ⟨r186, j186⟩ : PredT.At 0 (.bool true) (b9.tmps[186]?.getD undef) X ph := hV 55 _ 186 rfl rfl (Pred.waits_near (by kernel_rfl) (by kernel_rfl))
                  exact Pred.yields_run (v := .slice (some ⟨ab, ao, none⟩) len4 cap4) ((Pred.wanted_at (g := 55) (d := 186) (f := true) rfl rfl r186).trans rfl) (by go_simp) ⟨Below.refl _ _, rfl, Nat.zero_le _⟩
                · intro b9 X ph hE hd hn hS hV hI hF
                  have r28 : b9.tmps[28]?.getD undef = .int .i64 i := (hn 28 (by kernel_rfl)).trans rfl
                  obtain ⟨r186, j186⟩ : PredT.At 0 (.bool true) (b9.tmps[186]?.getD undef) X ph := hV 55 _ 186 rfl rfl (Pred.waits_near (by kernel_rfl) (by kernel_rfl))
                  exact Pred.yields_run (v := .int .i64 i) ((Pred.wanted_at (g := 55) (d := 186) (f := true) rfl rfl r186).trans rfl) (by go_simp) ⟨Below.refl _ _, rfl, Nat.zero_le _⟩
                · intro b9 X ph hE hd hn hS hV hI hF
                  obtain ⟨r205, j205⟩ : PredT.At 0 (.slice (some ⟨ab, ao, none⟩) len4 cap4) (b9.tmps[205]?.getD undef) X ph := hV 74 _ 205 rfl rfl (Pred.waits_near (by kernel_rfl) (by kernel_rfl))
                  obtain ⟨r206, j206⟩ : PredT.At 0 (.int .i64 i) (b9.tmps[206]?.getD undef) X ph := hV 75 _ 206 rfl rfl (Pred.waits_near (by kernel_rfl) (by kernel_rfl))
                  obtain ⟨r186, j186⟩ : PredT.At 0 (.bool true) (b9.tmps[186]?.getD undef) X ph := hV 55 _ 186 rfl rfl (Pred.waits_near (by kernel_rfl) (by kernel_rfl))
                  exact Pred.yields_run (v := .pointer (some ⟨ab, ao + i * 3, none⟩)) ((Pred.wanted_at (g := 55) (d := 186) (f := true) rfl rfl r186).trans rfl) (by go_simp) ⟨Below.refl _ _, rfl, Nat.zero_le _⟩
                · intro b9 X ph hE hd hn hS hV hI hF
                  obtain ⟨r207, j207⟩ : PredT.At 0 (.pointer (some ⟨ab, ao + i * 3, none⟩)) (b9.tmps[207]?.getD undef) X ph := hV 76 _ 207 rfl rfl (Pred.waits_near (by kernel_rfl) (by kernel_rfl))
                  obtain ⟨r186, j186⟩ : PredT.At 0 (.bool true) (b9.tmps[186]?.getD undef) X ph := hV 55 _ 186 rfl rfl (Pred.waits_near (by kernel_rfl) (by kernel_rfl))
                  exact Pred.yields_run (v := .pointer (some ⟨ab, ao + i * 3, none⟩)) ((Pred.wanted_at (g := 55) (d := 186) (f := true) rfl rfl r186).trans rfl) (by go_simp) ⟨Below.refl _ _, rfl, Nat.zero_le _⟩
                · intro b9 X ph hE hd hn hS hV hI hF
                  obtain ⟨r208, j208⟩ : PredT.At 0 (.pointer (some ⟨ab, ao + i * 3, none⟩)) (b9.tmps[208]?.getD undef) X ph := hV 77 _ 208 rfl rfl (Pred.waits_near (by kernel_rfl) (by kernel_rfl))
                  obtain ⟨r186, j186⟩ : PredT.At 0 (.bool true) (b9.tmps[186]?.getD undef) X ph := hV 55 _ 186 rfl rfl (Pred.waits_near (by kernel_rfl) (by kernel_rfl))
                  have z9 := (hE.cell (p := ⟨ab, ao + i * 3, none⟩) lA).trans y0
                  exact Pred.yields_run (v := .int .i64 z0) ((Pred.wanted_at (g := 55) (d := 186) (f := true) rfl rfl r186).trans rfl) (by go_simp) ⟨Below.refl _ _, rfl, Nat.zero_le _⟩
                · intro b9 X ph hE hd hn hS hV hI hF
                  have r4 : b9.tmps[4]?.getD undef = .slice (some ⟨ab, ao, none⟩) len4 cap4 := (hn 4 (by kernel_rfl)).trans rfl
                  obtain ⟨r186, j186⟩ : PredT.At 0 (.bool true) (b9.tmps[186]?.getD undef) X ph := hV 55 _ 186 rfl rfl (Pred.waits_near (by kernel_rfl) (by kernel_rfl))
                  exact Pred.yields_run (v := .slice (some ⟨ab, ao, none⟩) len4 cap4) ((Pred.wanted_at (g := 55) (d := 186) (f := true) rfl rfl r186).trans rfl) (by go_simp) ⟨Below.refl _ _, rfl, Nat.zero_le _⟩
                · intro b9 X ph hE hd hn hS hV hI hF
                  have r28 : b9.tmps[28]?.getD undef = .int .i64 i := (hn 28 (by kernel_rfl)).trans rfl
                  obtain ⟨r186, j186⟩ : PredT.At 0 (.bool true) (b9.tmps[186]?.getD undef) X ph := hV 55 _ 186 rfl rfl (Pred.waits_near (by kernel_rfl) (by kernel_rfl))
                  exact Pred.yields_run (v := .int .i64 i) ((Pred.wanted_at (g := 55) (d := 186) (f := true) rfl rfl r186).trans rfl) (by go_simp) ⟨Below.refl _ _, rfl, Nat.zero_le _⟩
                · intro b9 X ph hE hd hn hS hV hI hF
                  obtain ⟨r210, j210⟩ : PredT.At 0 (.slice (some ⟨ab, ao, none⟩) len4 cap4) (b9.tmps[210]?.getD undef) X ph := hV 79 _ 210 rfl rfl (Pred.waits_near (by kernel_rfl) (by kernel_rfl))
                  obtain ⟨r211, j211⟩ : PredT.At 0 (.int .i64 i) (b9.tmps[211]?.getD undef) X ph := hV 80 _ 211 rfl rfl (Pred.waits_near (by kernel_rfl) (by kernel_rfl))
                  obtain ⟨r186, j186⟩ : PredT.At 0 (.bool true) (b9.tmps[186]?.getD undef) X ph := hV 55 _ 186 rfl rfl (Pred.waits_near (by kernel_rfl) (by kernel_rfl))
                  exact Pred.yields_run (v := .pointer (some ⟨ab, ao + i * 3, none⟩)) ((Pred.wanted_at (g := 55) (d := 186) (f := true) rfl rfl r186).trans rfl) (by go_simp) ⟨Below.refl _ _, rfl, Nat.zero_le _⟩
                · intro b9 X ph hE hd hn hS hV hI hF
                  obtain ⟨r212, j212⟩ : PredT.At 0 (.pointer (some ⟨ab, ao + i * 3, none⟩)) (b9.tmps[212]?.getD undef) X ph := hV 81 _ 212 rfl rfl (Pred.waits_near (by kernel_rfl) (by kernel_rfl))
                  obtain ⟨r186, j186⟩ : PredT.At 0 (.bool true) (b9.tmps[186]?.getD undef) X ph := hV 55 _ 186 rfl rfl (Pred.waits_near (by kernel_rfl) (by kernel_rfl))
                  exact Pred.yields_run (v := .pointer (some ⟨ab, ao + i * 3 + 1, none⟩)) ((Pred.wanted_at (g := 55) (d := 186) (f := true) rfl rfl r186).trans rfl) (by go_simp) ⟨Below.refl _ _, rfl, Nat.zero_le _⟩
                · intro b9 X ph hE hd hn hS hV hI hF
                  obtain ⟨r213, j213⟩ : PredT.At 0 (.pointer (some ⟨ab, ao + i * 3 + 1, none⟩)) (b9.tmps[213]?.getD undef) X ph := hV 82 _ 213 rfl rfl (Pred.waits_near (by kernel_rfl) (by kernel_rfl))
                  obtain ⟨r186, j186⟩ : PredT.At 0 (.bool true) (b9.tmps[186]?.getD undef) X ph := hV 55 _ 186 rfl rfl (Pred.waits_near (by kernel_rfl) (by kernel_rfl))
                  have z9 := (hE.cell (p := ⟨ab, ao + i * 3 + 1, none⟩) lA).trans y1
                  exact Pred.yields_run (v := .int .i64 z1) ((Pred.wanted_at (g := 55) (d := 186) (f := true) rfl rfl r186).trans rfl) (by go_simp) ⟨Below.refl _ _, rfl, Nat.zero_le _⟩
                · intro b9 X ph hE hd hn hS hV hI hF
                  have r4 : b9.tmps[4]?.getD undef = .slice (some ⟨ab, ao, none⟩) len4 cap4 := (hn 4 (by kernel_rfl)).trans rfl
                  obtain ⟨r186, j186⟩ : PredT.At 0 (.bool true) (b9.tmps[186]?.getD undef) X ph := hV 55 _ 186 rfl rfl (Pred.waits_near (by kernel_rfl) (by kernel_rfl))
                  exact Pred.yields_run (v := .slice (some ⟨ab, ao, none⟩) len4 cap4) ((Pred.wanted_at (g := 55) (d := 186) (f := true) rfl rfl r186).trans rfl) (by go_simp) ⟨Below.refl _ _, rfl, Nat.zero_le _⟩
                · intro b9 X ph hE hd hn hS hV hI hF
                  have r28 : b9.tmps[28]?.getD undef = .int .i64 i := (hn 28 (by kernel_rfl)).trans rfl
                  obtain ⟨r186, j186⟩ : PredT.At 0 (.bool true) (b9.tmps[186]?.getD undef) X ph := hV 55 _ 186 rfl rfl (Pred.waits_near (by kernel_rfl) (by kernel_rfl))
                  exact Pred.yields_run (v := .int .i64 i) ((Pred.wanted_at (g := 55) (d := 186) (f := true) rfl rfl r186).trans rfl) (by go_simp) ⟨Below.refl _ _, rfl, Nat.zero_le _⟩
                · intro b9 X ph hE hd hn hS hV hI hF
                  obtain ⟨r215, j215⟩ : PredT.At 0 (.slice (some ⟨ab, ao, none⟩) len4 cap4) (b9.tmps[215]?.getD undef) X ph := hV 84 _ 215 rfl rfl (Pred.waits_near (by kernel_rfl) (by kernel_rfl))
                  obtain ⟨r216, j216⟩ : PredT.At 0 (.int .i64 i) (b9.tmps[216]?.getD undef) X ph := hV 85 _ 216 rfl rfl (Pred.waits_near (by kernel_rfl) (by kernel_rfl))
                  obtain ⟨r186, j186⟩ : PredT.At 0 (.bool true) (b9.tmps[186]?.getD undef) X ph := hV 55 _ 186 rfl rfl (Pred.waits_near (by kernel_rfl) (by kernel_rfl))
                  exact Pred.yields_run (v := .pointer (some ⟨ab, ao + i * 3, none⟩)) ((Pred.wanted_at (g := 55) (d := 186) (f := true) rfl rfl r186).trans rfl) (by go_simp) ⟨Below.refl _ _, rfl, Nat.zero_le _⟩
                · intro b9 X ph hE hd hn hS hV hI hF
                  obtain ⟨r217, j217⟩ : PredT.At 0 (.pointer (some ⟨ab, ao + i * 3, none⟩)) (b9.tmps[217]?.getD undef) X ph := hV 86 _ 217 rfl rfl (Pred.waits_near (by kernel_rfl) (by kernel_rfl))
                  obtain ⟨r186, j186⟩ : PredT.At 0 (.bool true) (b9.tmps[186]?.getD undef) X ph := hV 55 _ 186 rfl rfl (Pred.waits_near (by kernel_rfl) (by kernel_rfl))
                  exact Pred.yields_run (v := .pointer (some ⟨ab, ao + i * 3 + 2, none⟩)) ((Pred.wanted_at (g := 55) (d := 186) (f := true) rfl rfl r186).trans rfl) (by go_simp) ⟨Below.refl _ _, rfl, Nat.zero_le _⟩
                · intro b9 X ph hE hd hn hS hV hI hF
                  obtain ⟨r218, j218⟩ : PredT.At 0 (.pointer (some ⟨ab, ao + i * 3 + 2, none⟩)) (b9.tmps[218]?.getD undef) X ph := hV 87 _ 218 rfl rfl (Pred.waits_near (by kernel_rfl) (by kernel_rfl))
                  obtain ⟨r186, j186⟩ : PredT.At 0 (.bool true) (b9.tmps[186]?.getD undef) X ph := hV 55 _ 186 rfl rfl (Pred.waits_near (by kernel_rfl) (by kernel_rfl))
                  have z9 := (hE.cell (p := ⟨ab, ao + i * 3 + 2, none⟩) lA).trans y2
                  exact Pred.yields_run (v := .int .i64 z2) ((Pred.wanted_at (g := 55) (d := 186) (f := true) rfl rfl r186).trans rfl) (by go_simp) ⟨Below.refl _ _, rfl, Nat.zero_le _⟩
                · intro b9 X ph hE hd hn hS hV hI hF
                  obtain ⟨r204, j204⟩ : PredT.At 0 (.pointer (some ⟨bo, 0, none⟩)) (b9.tmps[204]?.getD undef) X ph := hV 73 _ 204 rfl rfl (Pred.waits_near (by kernel_rfl) (by kernel_rfl))
                  obtain ⟨r209, j209⟩ : PredT.At 0 (.int .i64 z0) (b9.tmps[209]?.getD undef) X ph := hV 78 _ 209 rfl rfl (Pred.waits_near (by kernel_rfl) (by kernel_rfl))
                  obtain ⟨r214, j214⟩ : PredT.At 0 (.int .i64 z1) (b9.tmps[214]?.getD undef) X ph := hV 83 _ 214 rfl rfl (Pred.waits_near (by kernel_rfl) (by kernel_rfl))
                  obtain ⟨r219, j219⟩ : PredT.At 0 (.int .i64 z2) (b9.tmps[219]?.getD undef) X ph := hV 88 _ 219 rfl rfl (Pred.waits_near (by kernel_rfl) (by kernel_rfl))
                  obtain ⟨r186, j186⟩ : PredT.At 0 (.bool true) (b9.tmps[186]?.getD undef) X ph := hV 55 _ 186 rfl rfl (Pred.waits_near (by kernel_rfl) (by kernel_rfl))
                  refine Pred.yields_call (f := 18) (args := #[.pointer (some ⟨bo, 0, none⟩), .int .i64 z0, .int .i64 z1, .int .i64 z2]) ((Pred.wanted_at (g := 55) (d := 186) (f := true) rfl rfl r186).trans rfl) (by go_simp) ?_
                  refine (CO.out X (hOz.below hE)).mono ?_
                  rintro e w9 ⟨rfl, hb⟩
                  exact ⟨_, rfl, hb, rfl, Nat.zero_le _⟩
                · intro b9 X ph hE hd hn hS hV hI hF
                  obtain ⟨r203, j203⟩ : PredT.At 0 (pn.v) (b9.tmps[203]?.getD undef) X ph := hV 72 _ 203 rfl rfl (Pred.waits_near (by kernel_rfl) (by kernel_rfl))
                  obtain ⟨r220, j220⟩ : PredT.At 0 (pn.v) (b9.tmps[220]?.getD undef) X ph := hV 89 _ 220 rfl rfl (Pred.waits_near (by kernel_rfl) (by kernel_rfl))
                  obtain ⟨r186, j186⟩ : PredT.At 0 (.bool true) (b9.tmps[186]?.getD undef) X ph := hV 55 _ 186 rfl rfl (Pred.waits_near (by kernel_rfl) (by kernel_rfl))
                  exact Pred.yields_run (v := .bool false) ((Pred.wanted_at (g := 55) (d := 186) (f := true) rfl rfl r186).trans rfl) (by go_simp) ⟨Below.refl _ _, rfl, Nat.zero_le _⟩
                · intro b9 X ph hE hd hn hS hV hI hF
                  obtain ⟨r186, j186⟩ : PredT.At 0 (.bool true) (b9.tmps[186]?.getD undef) X ph := hV 55 _ 186 rfl rfl (Pred.waits_near (by kernel_rfl) (by kernel_rfl))
                  obtain ⟨r221, j221⟩ : PredT.At 0 (.bool false) (b9.tmps[221]?.getD undef) X ph := hV 90 _ 221 rfl rfl (Pred.waits_near (by kernel_rfl) (by kernel_rfl))
                  obtain ⟨r183, j183⟩ : PredT.At 0 (.bool false) (b9.tmps[183]?.getD undef) X ph := hV 52 _ 183 rfl rfl (Pred.waits_near (by kernel_rfl) (by kernel_rfl))
                  exact Pred.yields_run (v := .bool false) ((Pred.wanted_at (g := 52) (d := 183) (f := false) rfl rfl r183).trans rfl) (by go_simp) ⟨Below.refl _ _, rfl, Nat.zero_le _⟩
                · intro b9 X ph hE hd hn hS hV hI hF
                  obtain ⟨r183, j183⟩ : PredT.At 0 (.bool false) (b9.tmps[183]?.getD undef) X ph := hV 52 _ 183 rfl rfl (Pred.waits_near (by kernel_rfl) (by kernel_rfl))
                  obtain ⟨r222, j222⟩ : PredT.At 0 (.bool false) (b9.tmps[222]?.getD undef) X ph := hV 91 _ 222 rfl rfl (Pred.waits_near (by kernel_rfl) (by kernel_rfl))
                  exact Pred.yields_run (v := .bool false) (Pred.wanted_none rfl) (by go_simp) ⟨Below.refl _ _, rfl, Nat.zero_le _⟩
              · trivial
              intro v X hE hS hv
              replace hS : (fun _ => True) X := hS
              have e0 : v 0 = .pointer (some ⟨bm, 0, none⟩) := (hv 0 _ 131 rfl rfl).1
              have e1 : v 1 = .slice (some ⟨ab, ao, none⟩) len4 cap4 := (hv 1 _ 132 rfl rfl).1
              have e2 : v 2 = .int .i64 i := (hv 2 _ 133 rfl rfl).1
              have e3 : v 3 = .pointer (some ⟨ab, ao + i * 3, none⟩) := (hv 3 _ 134 rfl rfl).1
              have e4 : v 4 = .pointer (some ⟨ab, ao + i * 3, none⟩) := (hv 4 _ 135 rfl rfl).1
              have e5 : v 5 = .int .i64 z0 := (hv 5 _ 136 rfl rfl).1
              have e6 : v 6 = .slice (some ⟨ab, ao, none⟩) len4 cap4 := (hv 6 _ 137 rfl rfl).1
              have e7 : v 7 = .int .i64 i := (hv 7 _ 138 rfl rfl).1
              have e8 : v 8 = .pointer (some ⟨ab, ao + i * 3, none⟩) := (hv 8 _ 139 rfl rfl).1
              have e9 : v 9 = .pointer (some ⟨ab, ao + i * 3 + 1, none⟩) := (hv 9 _ 140 rfl rfl).1
              have e10 : v 10 = .int .i64 z1 := (hv 10 _ 141 rfl rfl).1
              have e11 : v 11 = .slice (some ⟨ab, ao, none⟩) len4 cap4 := (hv 11 _ 142 rfl rfl).1
              have e12 : v 12 = .int .i64 i := (hv 12 _ 143 rfl rfl).1
              have e13 : v 13 = .pointer (some ⟨ab, ao + i * 3, none⟩) := (hv 13 _ 144 rfl rfl).1
              have e14 : v 14 = .pointer (some ⟨ab, ao + i * 3 + 2, none⟩) := (hv 14 _ 145 rfl rfl).1
              have e15 : v 15 = .int .i64 z2 := (hv 15 _ 146 rfl rfl).1
              have e16 : v 16 = p.v := (hv 16 _ 147 rfl rfl).1
              have e17 : v 17 = .pointer (some ⟨bq, 0, none⟩) := (hv 17 _ 148 rfl rfl).1
              have e18 : v 18 = .slice (some ⟨ab, ao, none⟩) len4 cap4 := (hv 18 _ 149 rfl rfl).1
              have e19 : v 19 = .int .i64 i := (hv 19 _ 150 rfl rfl).1
              have e20 : v 20 = .pointer (some ⟨ab, ao + i * 3, none⟩) := (hv 20 _ 151 rfl rfl).1
              have e21 : v 21 = .pointer (some ⟨ab, ao + i * 3, none⟩) := (hv 21 _ 152 rfl rfl).1
              have e22 : v 22 = .int .i64 z0 := (hv 22 _ 153 rfl rfl).1
              have e23 : v 23 = .slice (some ⟨ab, ao, none⟩) len4 cap4 := (hv 23 _ 154 rfl rfl).1
              have e24 : v 24 = .int .i64 i := (hv 24 _ 155 rfl rfl).1
              have e25 : v 25 = .pointer (some ⟨ab, ao + i * 3, none⟩) := (hv 25 _ 156 rfl rfl).1
              have e26 : v 26 = .pointer (some ⟨ab, ao + i * 3 + 1, none⟩) := (hv 26 _ 157 rfl rfl).1
              have e27 : v 27 = .int .i64 z1 := (hv 27 _ 158 rfl rfl).1
              have e28 : v 28 = .slice (some ⟨ab, ao, none⟩) len4 cap4 := (hv 28 _ 159 rfl rfl).1
              have e29 : v 29 = .int .i64 i := (hv 29 _ 160 rfl rfl).1
              have e30 : v 30 = .pointer (some ⟨ab, ao + i * 3, none⟩) := (hv 30 _ 161 rfl rfl).1
              have e31 : v 31 = .pointer (some ⟨ab, ao + i * 3 + 2, none⟩) := (hv 31 _ 162 rfl rfl).1
              have e32 : v 32 = .int .i64 z2 := (hv 32 _ 163 rfl rfl).1
              have e33 : v 33 = p.v := (hv 33 _ 164 rfl rfl).1
              have e34 : v 34 = .bool false := (hv 34 _ 165 rfl rfl).1
              have e35 : v 35 = .bool false := (hv 35 _ 166 rfl rfl).1
              have e36 : v 36 = .pointer (some ⟨bm, 0, none⟩) := (hv 36 _ 167 rfl rfl).1
              have e37 : v 37 = .slice (some ⟨ab, ao, none⟩) len4 cap4 := (hv 37 _ 168 rfl rfl).1
              have e38 : v 38 = .int .i64 i := (hv 38 _ 169 rfl rfl).1
              have e39 : v 39 = .pointer (some ⟨ab, ao + i * 3, none⟩) := (hv 39 _ 170 rfl rfl).1
              have e40 : v 40 = .pointer (some ⟨ab, ao + i * 3, none⟩) := (hv 40 _ 171 rfl rfl).1
              have e41 : v 41 = .int .i64 z0 := (hv 41 _ 172 rfl rfl).1
              have e42 : v 42 = .int .i64 s := (hv 42 _ 173 rfl rfl).1
              have e43 : v 43 = .pointer (some ⟨bq, 0, none⟩) := (hv 43 _ 174 rfl rfl).1
              have e44 : v 44 = .slice (some ⟨ab, ao, none⟩) len4 cap4 := (hv 44 _ 175 rfl rfl).1
              have e45 : v 45 = .int .i64 i := (hv 45 _ 176 rfl rfl).1
              have e46 : v 46 = .pointer (some ⟨ab, ao + i * 3, none⟩) := (hv 46 _ 177 rfl rfl).1
              have e47 : v 47 = .pointer (some ⟨ab, ao + i * 3, none⟩) := (hv 47 _ 178 rfl rfl).1
              have e48 : v 48 = .int .i64 z0 := (hv 48 _ 179 rfl rfl).1
              have e49 : v 49 = .int .i64 s := (hv 49 _ 180 rfl rfl).1
              have e50 : v 50 = .bool false := (hv 50 _ 181 rfl rfl).1
              have e51 : v 51 = .bool false := (hv 51 _ 182 rfl rfl).1
              have e52 : v 52 = .bool false := (hv 52 _ 183 rfl rfl).1
              have e53 : v 53 = .pointer (some ⟨bo, 0, none⟩) := (hv 53 _ 184 rfl rfl).1
              have e54 : v 54 = .bool true := (hv 54 _ 185 rfl rfl).1
              have e55 : v 55 = .bool true := (hv 55 _ 186 rfl rfl).1
              have e56 : v 56 = .pointer (some ⟨bn, 0, none⟩) := (hv 56 _ 187 rfl rfl).1
              have e57 : v 57 = .slice (some ⟨ab, ao, none⟩) len4 cap4 := (hv 57 _ 188 rfl rfl).1
              have e58 : v 58 = .int .i64 i := (hv 58 _ 189 rfl rfl).1
              have e59 : v 59 = .pointer (some ⟨ab, ao + i * 3, none⟩) := (hv 59 _ 190 rfl rfl).1
              have e60 : v 60 = .pointer (some ⟨ab, ao + i * 3, none⟩) := (hv 60 _ 191 rfl rfl).1
              have e61 : v 61 = .int .i64 z0 := (hv 61 _ 192 rfl rfl).1
              have e62 : v 62 = .slice (some ⟨ab, ao, none⟩) len4 cap4 := (hv 62 _ 193 rfl rfl).1
              have e63 : v 63 = .int .i64 i := (hv 63 _ 194 rfl rfl).1
              have e64 : v 64 = .pointer (some ⟨ab, ao + i * 3, none⟩) := (hv 64 _ 195 rfl rfl).1
              have e65 : v 65 = .pointer (some ⟨ab, ao + i * 3 + 1, none⟩) := (hv 65 _ 196 rfl rfl).1
              have e66 : v 66 = .int .i64 z1 := (hv 66 _ 197 rfl rfl).1
              have e67 : v 67 = .slice (some ⟨ab, ao, none⟩) len4 cap4 := (hv 67 _ 198 rfl rfl).1
              have e68 : v 68 = .int .i64 i := (hv 68 _ 199 rfl rfl).1
              have e69 : v 69 = .pointer (some ⟨ab, ao + i * 3, none⟩) := (hv 69 _ 200 rfl rfl).1
              have e70 : v 70 = .pointer (some ⟨ab, ao + i * 3 + 2, none⟩) := (hv 70 _ 201 rfl rfl).1
              have e71 : v 71 = .int .i64 z2 := (hv 71 _ 202 rfl rfl).1
              have e72 : v 72 = pn.v := (hv 72 _ 203 rfl rfl).1
              have e73 : v 73 = .pointer (some ⟨bo, 0, none⟩) := (hv 73 _ 204 rfl rfl).1
              have e74 : v 74 = .slice (some ⟨ab, ao, none⟩) len4 cap4 := (hv 74 _ 205 rfl rfl).1
              have e75 : v 75 = .int .i64 i := (hv 75 _ 206 rfl rfl).1
              have e76 : v 76 = .pointer (some ⟨ab, ao + i * 3, none⟩) := (hv 76 _ 207 rfl rfl).1
              have e77 : v 77 = .pointer (some ⟨ab, ao + i * 3, none⟩) := (hv 77 _ 208 rfl rfl).1
              have e78 : v 78 = .int .i64 z0 := (hv 78 _ 209 rfl rfl).1
              have e79 : v 79 = .slice (some ⟨ab, ao, none⟩) len4 cap4 := (hv 79 _ 210 rfl rfl).1
              have e80 : v 80 = .int .i64 i := (hv 80 _ 211 rfl rfl).1
              have e81 : v 81 = .pointer (some ⟨ab, ao + i * 3, none⟩) := (hv 81 _ 212 rfl rfl).1
              have e82 : v 82 = .pointer (some ⟨ab, ao + i * 3 + 1, none⟩) := (hv 82 _ 213 rfl rfl).1
              have e83 : v 83 = .int .i64 z1 := (hv 83 _ 214 rfl rfl).1
              have e84 : v 84 = .slice (some ⟨ab, ao, none⟩) len4 cap4 := (hv 84 _ 215 rfl rfl).1
              have e85 : v 85 = .int .i64 i := (hv 85 _ 216 rfl rfl).1
              have e86 : v 86 = .pointer (some ⟨ab, ao + i * 3, none⟩) := (hv 86 _ 217 rfl rfl).1
              have e87 : v 87 = .pointer (some ⟨ab, ao + i * 3 + 2, none⟩) := (hv 87 _ 218 rfl rfl).1
              have e88 : v 88 = .int .i64 z2 := (hv 88 _ 219 rfl rfl).1
              have e89 : v 89 = pn.v := (hv 89 _ 220 rfl rfl).1
              have e90 : v 90 = .bool false := (hv 90 _ 221 rfl rfl).1
              have e91 : v 91 = .bool false := (hv 91 _ 222 rfl rfl).1
              have e92 : v 92 = .bool false := (hv 92 _ 223 rfl rfl).1
              simp only [Pred.putsF_cons, Pred.putsF_nil, Nat.zero_add, Nat.reduceAdd, e0, e1, e2, e3, e4, e5, e6, e7, e8, e9, e10, e11, e12, e13, e14, e15, e16, e17, e18, e19, e20, e21, e22, e23, e24, e25, e26, e27, e28, e29, e30, e31, e32, e33, e34, e35, e36, e37, e38, e39, e40, e41, e42, e43, e44, e45, e46, e47, e48, e49, e50, e51, e52, e53, e54, e55, e56, e57, e58, e59, e60, e61, e62, e63, e64, e65, e66, e67, e68, e69, e70, e71, e72, e73, e74, e75, e76, e77, e78, e79, e80, e81, e82, e83, e84, e85, e86, e87, e88, e89, e90, e91, e92, Act.put, List.setIfInBounds_toArray, List.set_cons_zero, List.set_cons_succ]
              clear e0 e1 e2 e3 e4 e5 e6 e7 e8 e9 e10 e11 e12 e13 e14 e15 e16 e17 e18 e19 e20 e21 e22 e23 e24 e25 e26 e27 e28 e29 e30 e31 e32 e33 e34 e35 e36 e37 e38 e39 e40 e41 e42 e43 e44 e45 e46 e47 e48 e49 e50 e51 e52 e53 e54 e55 e56 e57 e58 e59 e60 e61 e62 e63 e64 e65 e66 e67 e68 e69 e70 e71 e72 e73 e74 e75 e76 e77 e78 e79 e80 e81 e82 e83 e84 e85 e86 e87 e88 e89 e90 e91 e92 hv
              have bX : Below v2.heap.size v2 X := hbz.trans (hE.mono hbz.size)
              clear hE hPz hRz hNz hOz y0 y1 y2
              go_wp2
              exact ⟨⟨i + 1, by omega, by go_num, bX⟩, by simp [intOf]; omega⟩
            · obtain rfl : i = len4 := by omega
              have bZ : Below Y.heap.size Y Z := b7'.trans (hbz.mono b7'.size)
              obtain ⟨u0, u1, u2, hRt⟩ := HCE.out Z bZ
              have hPz := hPv.below hbz
              have hRz := hRv.below hbz
              have hlz : w.heap.size < Z.heap.size := by have := bZ.size; omega
              have hn6 : n ≤ 1000000 := by omega
              have hNz := hNv.below hbz
              have hOz := hOv.below hbz
              obtain ⟨tt, ct, k2, ht9, -, -, hRo⟩ := hOz.c2
              rw [← HNN.out] at k2 hRo
              have k0 := hOz.c0
              have k1 := hOz.c1
              have lo := hOz.lt
              go_upto_region 22 with (fail)
              refine PredT.region_of (W := Z) (Z.heap.size) (Nat.le_refl _) [] [
                  fun _ => True] [
                  PredT.At 0 (.pointer (some ⟨bm, 0, none⟩)),
                  PredT.When 0 (fun u y => ∃ g c : Nat, u = .agg #[.int .i64 D, .bool wr, .slice (some ⟨g, 0, none⟩) n c] ∧ Reads y 4 (some ⟨g, 0, none⟩) n (cp ts)),
                  PredT.At 0 (.agg #[.int .i64 D, .bool wr, .slice (some ⟨gb, go9, none⟩) n c]),
                  PredT.At 0 (.bool true),
                  PredT.At 0 (.bool false),
                  PredT.At 0 (.bool false),
                  PredT.At 0 (.pointer (some ⟨bm, 0, none⟩)),
                  PredT.At 0 (.int .i64 D),
                  PredT.At 0 (.pointer (some ⟨w.heap.size, 0, none⟩)),
                  PredT.At 0 (.int .i64 D),
                  PredT.At 0 (.bool false),
                  PredT.At 0 (.bool false),
                  PredT.At 0 (.bool false),
                  PredT.At 0 (.pointer (some ⟨bm, 0, none⟩)),
                  PredT.At 0 (.bool wr),
                  PredT.At 0 (.pointer (some ⟨w.heap.size, 1, none⟩)),
                  PredT.At 0 (.bool wr),
                  PredT.At 0 (.bool false),
                  PredT.At 0 (.bool false),
                  PredT.At 0 (.bool false),
                  PredT.At 0 (.pointer (some ⟨bo, 0, none⟩)),
                  PredT.At 0 (.bool true),
                  PredT.At 0 (.bool true),
                  PredT.At 0 (.pointer (some ⟨bn, 0, none⟩)),
                  PredT.When 0 (fun u y => ∃ g c : Nat, u = .agg #[.int .i64 D, .bool wr, .slice (some ⟨g, 0, none⟩) n c] ∧ Reads y 4 (some ⟨g, 0, none⟩) n (cp tn)),
                  PredT.At 0 (.pointer (some ⟨bo, 0, none⟩)),
                  PredT.At 0 (.pointer (some ⟨bo, 0, none⟩)),
                  PredT.At 0 (.pointer (some ⟨bo, 0, none⟩)),
                  PredT.At 0 (.agg #[.int .i64 D, .bool wr, .slice (some ⟨tt, 0, none⟩) n ct]),
                  PredT.At 0 (.bool true),
                  PredT.At 0 (.bool false),
                  PredT.At 0 (.bool false),
                  PredT.At 0 (.bool false)] (by kernel_rfl) (by kernel_rfl) (by kernel_rfl) (by decide) (by decide) ?_ ?_ ?_ ?_ ?_ ?_
              · exact ⟨PredT.at_stab _ _ _ _, PredT.when_stab _ _ _ (fun u y y' ⟨g, c, h1, h2⟩ hb => ⟨g, c, h1, h2.below hb (Nat.le_refl _)⟩), PredT.at_stab _ _ _ _, PredT.at_stab _ _ _ _, PredT.at_stab _ _ _ _, PredT.at_stab _ _ _ _, PredT.at_stab _ _ _ _, PredT.at_stab _ _ _ _, PredT.at_stab _ _ _ _, PredT.at_stab _ _ _ _, PredT.at_stab _ _ _ _, PredT.at_stab _ _ _ _, PredT.at_stab _ _ _ _, PredT.at_stab _ _ _ _, PredT.at_stab _ _ _ _, PredT.at_stab _ _ _ _, PredT.at_stab _ _ _ _, PredT.at_stab _ _ _ _, PredT.at_stab _ _ _ _, PredT.at_stab _ _ _ _, PredT.at_stab _ _ _ _, PredT.at_stab _ _ _ _, PredT.at_stab _ _ _ _, PredT.at_stab _ _ _ _, PredT.when_stab _ _ _ (fun u y y' ⟨g, c, h1, h2⟩ hb => ⟨g, c, h1, h2.below hb (Nat.le_refl _)⟩), PredT.at_stab _ _ _ _, PredT.at_stab _ _ _ _, PredT.at_stab _ _ _ _, PredT.at_stab _ _ _ _, PredT.at_stab _ _ _ _, PredT.at_stab _ _ _ _, PredT.at_stab _ _ _ _, PredT.at_stab _ _ _ _, trivial⟩
              · intro q hq
                rcases List.mem_cons.1 hq with rfl | hq
                · exact fun _ _ h _ => trivial
                cases hq
              · exact trivial
              · refine ⟨.inr ?_, .inr ?_, .inr ?_, .inr ?_, .inr ?_, .inr ?_, .inr ?_, .inr ?_, .inr ?_, .inr ?_, .inr ?_, .inr ?_, .inr ?_, .inr ?_, .inr ?_, .inr ?_, .inr ?_, .inr ?_, .inr ?_, .inr ?_, .inr ?_, .inr ?_, .inr ?_, .inr ?_, .inr ?_, .inr ?_, .inr ?_, .inr ?_, .inr ?_, .inr ?_, .inr ?_, .inr ?_, .inr ?_, trivial⟩
                · intro b9 X ph hE hd hn hS hV hI hF
                  have r22 : b9.tmps[22]?.getD undef = .pointer (some ⟨bm, 0, none⟩) := (hn 22 (by kernel_rfl)).trans rfl
                  exact Pred.yields_run (v := .pointer (some ⟨bm, 0, none⟩)) (Pred.wanted_none rfl) (by go_simp) ⟨Below.refl _ _, rfl, Nat.zero_le _⟩
                · intro b9 X ph hE hd hn hS hV hI hF
                  obtain ⟨r224, j224⟩ : PredT.At 0 (.pointer (some ⟨bm, 0, none⟩)) (b9.tmps[224]?.getD undef) X ph := hV 0 _ 224 rfl rfl (Pred.waits_near (by kernel_rfl) (by kernel_rfl))
                  refine Pred.yields_call (f := 22) (args := #[.pointer (some ⟨bm, 0, none⟩)]) (Pred.wanted_none rfl) (by go_simp) ?_
                  refine (Texture_any X (hPz.below hE)).mono ?_
                  rintro e w9 ⟨⟨v9, rfl, ho⟩, hb⟩
                  rw [← HNN.out] at ho
                  obtain ⟨g9, c9, rfl, -, -, -, -, -⟩ := owns_pos ho hnp
                  exact ⟨_, rfl, hb, Nat.zero_le _, fun _ => ⟨g9, c9, rfl, Reads.of_owns ho⟩⟩
                · intro b9 X ph hE hd hn hS hV hI hF
                  have r10 : b9.tmps[10]?.getD undef = .pointer (some ⟨w.heap.size, 0, none⟩) := (hn 10 (by kernel_rfl)).trans rfl
                  have q0 := (hE.cell (p := ⟨w.heap.size, 0, none⟩) hlz).trans u0
                  have q1 := (hE.cell (p := ⟨w.heap.size, 1, none⟩) hlz).trans u1
                  have q2 := (hE.cell (p := ⟨w.heap.size, 2, none⟩) hlz).trans u2
                  exact Pred.yields_run (v := .agg #[.int .i64 D, .bool wr, .slice (some ⟨gb, go9, none⟩) n c]) (Pred.wanted_none rfl) (by go_simp) ⟨Below.refl _ _, rfl, Nat.zero_le _⟩
                · intro b9 X ph hE hd hn hS hV hI hF
                  obtain ⟨j225, r225⟩ : PredT.When 0 (fun u y => ∃ g c : Nat, u = .agg #[.int .i64 D, .bool wr, .slice (some ⟨g, 0, none⟩) n c] ∧ Reads y 4 (some ⟨g, 0, none⟩) n (cp ts)) (b9.tmps[225]?.getD undef) X ph := hV 1 _ 225 rfl rfl (Pred.waits_near (by kernel_rfl) (by kernel_rfl))
                  obtain ⟨r226, j226⟩ : PredT.At 0 (.agg #[.int .i64 D, .bool wr, .slice (some ⟨gb, go9, none⟩) n c]) (b9.tmps[226]?.getD undef) X ph := hV 2 _ 226 rfl rfl (Pred.waits_near (by kernel_rfl) (by kernel_rfl))
                  obtain ⟨g9, c9, hv9, hr9⟩ := r225 (by have := PredT.sel_le hS; simp at this; omega)
                  have r225e : b9.tmps[225]?.getD undef = .agg #[.int .i64 D, .bool wr, .slice (some ⟨g9, 0, none⟩) n c9] := hv9
                  refine Pred.yields_call (f := 21) (args := #[.agg #[.int .i64 D, .bool wr, .slice (some ⟨g9, 0, none⟩) n c9], .agg #[.int .i64 D, .bool wr, .slice (some ⟨gb, go9, none⟩) n c]]) (Pred.wanted_none rfl) (by go_simp) ?_
                  refine (tex_same D wr ⟨g9, 0, none⟩ _ n c9 _ _ X hr9 (hRt.below hE (Nat.le_refl _)) hn6 hD3).mono ?_
                  rintro e w9 ⟨rfl, hb⟩
                  exact ⟨_, rfl, hb, rfl, Nat.zero_le _⟩
                · intro b9 X ph hE hd hn hS hV hI hF
                  obtain ⟨r227, j227⟩ : PredT.At 0 (.bool true) (b9.tmps[227]?.getD undef) X ph := hV 3 _ 227 rfl rfl (Pred.waits_near (by kernel_rfl) (by kernel_rfl))
                  exact Pred.yields_run (v := .bool false) (Pred.wanted_none rfl) (by go_simp) ⟨Below.refl _ _, rfl, Nat.zero_le _⟩
                · intro b9 X ph hE hd hn hS hV hI hF
                  obtain ⟨r228, j228⟩ : PredT.At 0 (.bool false) (b9.tmps[228]?.getD undef) X ph := hV 4 _ 228 rfl rfl (Pred.waits_near (by kernel_rfl) (by kernel_rfl))
                  exact Pred.yields_run (v := .bool false) (Pred.wanted_none rfl) (by go_simp) ⟨Below.refl _ _, rfl, Nat.zero_le _⟩
                · intro b9 X ph hE hd hn hS hV hI hF
                  have r22 : b9.tmps[22]?.getD undef = .pointer (some ⟨bm, 0, none⟩) := (hn 22 (by kernel_rfl)).trans rfl
                  obtain ⟨r229, j229⟩ : PredT.At 0 (.bool false) (b9.tmps[229]?.getD undef) X ph := hV 5 _ 229 rfl rfl (Pred.waits_near (by kernel_rfl) (by kernel_rfl))
                  exact Pred.yields_run (v := .pointer (some ⟨bm, 0, none⟩)) ((Pred.wanted_at (g := 5) (d := 229) (f := false) rfl rfl r229).trans rfl) (by go_simp) ⟨Below.refl _ _, rfl, Nat.zero_le _⟩
                · intro b9 X ph hE hd hn hS hV hI hF
                  obtain ⟨r230, j230⟩ : PredT.At 0 (.pointer (some ⟨bm, 0, none⟩)) (b9.tmps[230]?.getD undef) X ph := hV 6 _ 230 rfl rfl (Pred.waits_near (by kernel_rfl) (by kernel_rfl))
                  obtain ⟨r229, j229⟩ : PredT.At 0 (.bool false) (b9.tmps[229]?.getD undef) X ph := hV 5 _ 229 rfl rfl (Pred.waits_near (by kernel_rfl) (by kernel_rfl))
                  refine Pred.yields_call (f := 23) (args := #[.pointer (some ⟨bm, 0, none⟩)]) ((Pred.wanted_at (g := 5) (d := 229) (f := false) rfl rfl r229).trans rfl) (by go_simp) ?_
                  refine (Depth_any X (hPz.below hE)).mono ?_
                  rintro e w9 ⟨rfl, rfl⟩
                  exact ⟨_, rfl, Below.refl _ _, rfl, Nat.zero_le _⟩
                · intro b9 X ph hE hd hn hS hV hI hF
                  have r10 : b9.tmps[10]?.getD undef = .pointer (some ⟨w.heap.size, 0, none⟩) := (hn 10 (by kernel_rfl)).trans rfl
                  obtain ⟨r229, j229⟩ : PredT.At 0 (.bool false) (b9.tmps[229]?.getD undef) X ph := hV 5 _ 229 rfl rfl (Pred.waits_near (by kernel_rfl) (by kernel_rfl))
                  exact Pred.yields_run (v := .pointer (some ⟨w.heap.size, 0, none⟩)) ((Pred.wanted_at (g := 5) (d := 229) (f := false) rfl rfl r229).trans rfl) (by go_simp) ⟨Below.refl _ _, rfl, Nat.zero_le _⟩
                · intro b9 X ph hE hd hn hS hV hI hF
                  obtain ⟨r232, j232⟩ : PredT.At 0 (.pointer (some ⟨w.heap.size, 0, none⟩)) (b9.tmps[232]?.getD undef) X ph := hV 8 _ 232 rfl rfl (Pred.waits_near (by kernel_rfl) (by kernel_rfl))
                  obtain ⟨r229, j229⟩ : PredT.At 0 (.bool false) (b9.tmps[229]?.getD undef) X ph := hV 5 _ 229 rfl rfl (Pred.waits_near (by kernel_rfl) (by kernel_rfl))
                  have q0 := (hE.cell (p := ⟨w.heap.size, 0, none⟩) hlz).trans u0
                  exact Pred.yields_run (v := .int .i64 D) ((Pred.wanted_at (g := 5) (d := 229) (f := false) rfl rfl r229).trans rfl) (by go_simp) ⟨Below.refl _ _, rfl, Nat.zero_le _⟩
                · intro b9 X ph hE hd hn hS hV hI hF
                  obtain ⟨r231, j231⟩ : PredT.At 0 (.int .i64 D) (b9.tmps[231]?.getD undef) X ph := hV 7 _ 231 rfl rfl (Pred.waits_near (by kernel_rfl) (by kernel_rfl))
                  obtain ⟨r233, j233⟩ : PredT.At 0 (.int .i64 D) (b9.tmps[233]?.getD undef) X ph := hV 9 _ 233 rfl rfl (Pred.waits_near (by kernel_rfl) (by kernel_rfl))
                  obtain ⟨r229, j229⟩ : PredT.At 0 (.bool false) (b9.tmps[229]?.getD undef) X ph := hV 5 _ 229 rfl rfl (Pred.waits_near (by kernel_rfl) (by kernel_rfl))
                  exact Pred.yields_run (v := .bool false) ((Pred.wanted_at (g := 5) (d := 229) (f := false) rfl rfl r229).trans rfl) (by go_simp) ⟨Below.refl _ _, rfl, Nat.zero_le _⟩
                · intro b9 X ph hE hd hn hS hV hI hF
                  obtain ⟨r229, j229⟩ : PredT.At 0 (.bool false) (b9.tmps[229]?.getD undef) X ph := hV 5 _ 229 rfl rfl (Pred.waits_near (by kernel_rfl) (by kernel_rfl))
                  obtain ⟨r234, j234⟩ : PredT.At 0 (.bool false) (b9.tmps[234]?.getD undef) X ph := hV 10 _ 234 rfl rfl (Pred.waits_near (by kernel_rfl) (by kernel_rfl))
                  exact Pred.yields_run (v := .bool false) (Pred.wanted_none rfl) (by go_simp) ⟨Below.refl _ _, rfl, Nat.zero_le _⟩
                · intro b9 X ph hE hd hn hS hV hI hF
                  obtain ⟨r235, j235⟩ : PredT.At 0 (.bool false) (b9.tmps[235]?.getD undef) X ph := hV 11 _ 235 rfl rfl (Pred.waits_near (by kernel_rfl) (by kernel_rfl))
                  exact Pred.yields_run (v := .bool false) (Pred.wanted_none rfl) (by go_simp) ⟨Below.refl _ _, rfl, Nat.zero_le _⟩
                · intro b9 X ph hE hd hn hS hV hI hF
                  have r22 : b9.tmps[22]?.getD undef = .pointer (some ⟨bm, 0, none⟩) := (hn 22 (by kernel_rfl)).trans rfl
                  obtain ⟨r236, j236⟩ : PredT.At 0 (.bool false) (b9.tmps[236]?.getD undef) X ph := hV 12 _ 236 rfl rfl (Pred.waits_near (by kernel_rfl) (by kernel_rfl))
                  exact Pred.yields_run (v := .pointer (some ⟨bm, 0, none⟩)) ((Pred.wanted_at (g := 12) (d := 236) (f := false) rfl rfl r236).trans rfl) (by go_simp) ⟨Below.refl _ _, rfl, Nat.zero_le _⟩
                · intro b9 X ph hE hd hn hS hV hI hF
                  obtain ⟨r237, j237⟩ : PredT.At 0 (.pointer (some ⟨bm, 0, none⟩)) (b9.tmps[237]?.getD undef) X ph := hV 13 _ 237 rfl rfl (Pred.waits_near (by kernel_rfl) (by kernel_rfl))
                  obtain ⟨r236, j236⟩ : PredT.At 0 (.bool false) (b9.tmps[236]?.getD undef) X ph := hV 12 _ 236 rfl rfl (Pred.waits_near (by kernel_rfl) (by kernel_rfl))
                  refine Pred.yields_call (f := 24) (args := #[.pointer (some ⟨bm, 0, none⟩)]) ((Pred.wanted_at (g := 12) (d := 236) (f := false) rfl rfl r236).trans rfl) (by go_simp) ?_
                  refine (Wrap_any X (hPz.below hE)).mono ?_
                  rintro e w9 ⟨rfl, rfl⟩
                  exact ⟨_, rfl, Below.refl _ _, rfl, Nat.zero_le _⟩
                · intro b9 X ph hE hd hn hS hV hI hF
                  have r10 : b9.tmps[10]?.getD undef = .pointer (some ⟨w.heap.size, 0, none⟩) := (hn 10 (by kernel_rfl)).trans rfl
                  obtain ⟨r236, j236⟩ : PredT.At 0 (.bool false) (b9.tmps[236]?.getD undef) X ph := hV 12 _ 236 rfl rfl (Pred.waits_near (by kernel_rfl) (by kernel_rfl))
                  exact Pred.yields_run (v := .pointer (some ⟨w.heap.size, 1, none⟩)) ((Pred.wanted_at (g := 12) (d := 236) (f := false) rfl rfl r236).trans rfl) (by go_simp) ⟨Below.refl _ _, rfl, Nat.zero_le _⟩
                · intro b9 X ph hE hd hn hS hV hI hF
                  obtain ⟨r239, j239⟩ : PredT.At 0 (.pointer (some ⟨w.heap.size, 1, none⟩)) (b9.tmps[239]?.getD undef) X ph := hV 15 _ 239 rfl rfl (Pred.waits_near (by kernel_rfl) (by kernel_rfl))
                  obtain ⟨r236, j236⟩ : PredT.At 0 (.bool false) (b9.tmps[236]?.getD undef) X ph := hV 12 _ 236 rfl rfl (Pred.waits_near (by kernel_rfl) (by kernel_rfl))
                  have q0 := (hE.cell (p := ⟨w.heap.size, 0, none⟩) hlz).trans u0
                  have q1 := (hE.cell (p := ⟨w.heap.size, 1, none⟩) hlz).trans u1
                  exact Pred.yields_run (v := .bool wr) ((Pred.wanted_at (g := 12) (d := 236) (f := false) rfl rfl r236).trans rfl) (by go_simp) ⟨Below.refl _ _, rfl, Nat.zero_le _⟩
                · intro b9 X ph hE hd hn hS hV hI hF
                  obtain ⟨r238, j238⟩ : PredT.At 0 (.bool wr) (b9.tmps[238]?.getD undef) X ph := hV 14 _ 238 rfl rfl (Pred.waits_near (by kernel_rfl) (by kernel_rfl))
                  obtain ⟨r240, j240⟩ : PredT.At 0 (.bool wr) (b9.tmps[240]?.getD undef) X ph := hV 16 _ 240 rfl rfl (Pred.waits_near (by kernel_rfl) (by kernel_rfl))
                  obtain ⟨r236, j236⟩ : PredT.At 0 (.bool false) (b9.tmps[236]?.getD undef) X ph := hV 12 _ 236 rfl rfl (Pred.waits_near (by kernel_rfl) (by kernel_rfl))
                  exact Pred.yields_run (v := .bool false) ((Pred.wanted_at (g := 12) (d := 236) (f := false) rfl rfl r236).trans rfl) (by go_simp) ⟨Below.refl _ _, rfl, Nat.zero_le _⟩
                · intro b9 X ph hE hd hn hS hV hI hF
                  obtain ⟨r236, j236⟩ : PredT.At 0 (.bool false) (b9.tmps[236]?.getD undef) X ph := hV 12 _ 236 rfl rfl (Pred.waits_near (by kernel_rfl) (by kernel_rfl))
                  obtain ⟨r241, j241⟩ : PredT.At 0 (.bool false) (b9.tmps[241]?.getD undef) X ph := hV 17 _ 241 rfl rfl (Pred.waits_near (by kernel_rfl) (by kernel_rfl))
                  exact Pred.yields_run (v := .bool false) (Pred.wanted_none rfl) (by go_simp) ⟨Below.refl _ _, rfl, Nat.zero_le _⟩
                · intro b9 X ph hE hd hn hS hV hI hF
                  obtain ⟨r242, j242⟩ : PredT.At 0 (.bool false) (b9.tmps[242]?.getD undef) X ph := hV 18 _ 242 rfl rfl (Pred.waits_near (by kernel_rfl) (by kernel_rfl))
                  exact Pred.yields_run (v := .bool false) (Pred.wanted_none rfl) (by go_simp) ⟨Below.refl _ _, rfl, Nat.zero_le _⟩
                · intro b9 X ph hE hd hn hS hV hI hF
                  have r27 : b9.tmps[27]?.getD undef = .pointer (some ⟨bo, 0, none⟩) := (hn 27 (by kernel_rfl)).trans rfl
                  obtain ⟨r243, j243⟩ : PredT.At 0 (.bool false) (b9.tmps[243]?.getD undef) X ph := hV 19 _ 243 rfl rfl (Pred.waits_near (by kernel_rfl) (by kernel_rfl))
                  exact Pred.yields_run (v := .pointer (some ⟨bo, 0, none⟩)) ((Pred.wanted_at (g := 19) (d := 243) (f := false) rfl rfl r243).trans rfl) (by go_simp) ⟨Below.refl _ _, rfl, Nat.zero_le _⟩
                · intro b9 X ph hE hd hn hS hV hI hF
                  obtain ⟨r244, j244⟩ : PredT.At 0 (.pointer (some ⟨bo, 0, none⟩)) (b9.tmps[244]?.getD undef) X ph := hV 20 _ 244 rfl rfl (Pred.waits_near (by kernel_rfl) (by kernel_rfl))
                  obtain ⟨r243, j243⟩ : PredT.At 0 (.bool false) (b9.tmps[243]?.getD undef) X ph := hV 19 _ 243 rfl rfl (Pred.waits_near (by kernel_rfl) (by kernel_rfl))
                  exact Pred.yields_run (v := .bool true) ((Pred.wanted_at (g := 19) (d := 243) (f := false) rfl rfl r243).trans rfl) (by go_simp) ⟨Below.refl _ _, rfl, Nat.zero_le _⟩
                · intro b9 X ph hE hd hn hS hV hI hF
                  obtain ⟨r245, j245⟩ : PredT.At 0 (.bool true) (b9.tmps[245]?.getD undef) X ph := hV 21 _ 245 rfl rfl (Pred.waits_near (by kernel_rfl) (by kernel_rfl))
                  obtain ⟨r243, j243⟩ : PredT.At 0 (.bool false) (b9.tmps[243]?.getD undef) X ph := hV 19 _ 243 rfl rfl (Pred.waits_near (by kernel_rfl) (by kernel_rfl))
                  exact Pred.yields_run (v := .bool true) ((Pred.wanted_at (g := 19) (d := 243) (f := false) rfl rfl r243).trans rfl) (by go_simp) ⟨Below.refl _ _, rfl, Nat.zero_le _⟩
                · intro b9 X ph hE hd hn hS hV hI hF
                  have r25 : b9.tmps[25]?.getD undef = .pointer (some ⟨bn, 0, none⟩) := (hn 25 (by kernel_rfl)).trans rfl
                  obtain ⟨r246, j246⟩ : PredT.At 0 (.bool true) (b9.tmps[246]?.getD undef) X ph := hV 22 _ 246 rfl rfl (Pred.waits_near (by kernel_rfl) (by kernel_rfl))
                  exact Pred.yields_run (v := .pointer (some ⟨bn, 0, none⟩)) ((Pred.wanted_at (g := 22) (d := 246) (f := true) rfl rfl r246).trans rfl) (by go_simp) ⟨Below.refl _ _, rfl, Nat.zero_le _⟩
                · intro b9 X ph hE hd hn hS hV hI hF
                  obtain ⟨r247, j247⟩ : PredT.At 0 (.pointer (some ⟨bn, 0, none⟩)) (b9.tmps[247]?.getD undef) X ph := hV 23 _ 247 rfl rfl (Pred.waits_near (by kernel_rfl) (by kernel_rfl))
                  obtain ⟨r246, j246⟩ : PredT.At 0 (.bool true) (b9.tmps[246]?.getD undef) X ph := hV 22 _ 246 rfl rfl (Pred.waits_near (by kernel_rfl) (by kernel_rfl))
                  refine Pred.yields_call (f := 22) (args := #[.pointer (some ⟨bn, 0, none⟩)]) ((Pred.wanted_at (g := 22) (d := 246) (f := true) rfl rfl r246).trans rfl) (by go_simp) ?_
                  refine (Texture_any X (hNz.below hE)).mono ?_
                  rintro e w9 ⟨⟨v9, rfl, ho⟩, hb⟩
                  rw [← HNN.out] at ho
                  obtain ⟨g9, c9, rfl, -, -, -, -, -⟩ := owns_pos ho hnp
                  exact ⟨_, rfl, hb, Nat.zero_le _, fun _ => ⟨g9, c9, rfl, Reads.of_owns ho⟩⟩
                · intro b9 X ph hE hd hn hS hV hI hF
                  have r27 : b9.tmps[27]?.getD undef = .pointer (some ⟨bo, 0, none⟩) := (hn 27 (by kernel_rfl)).trans rfl
                  obtain ⟨r246, j246⟩ : PredT.At 0 (.bool true) (b9.tmps[246]?.getD undef) X ph := hV 22 _ 246 rfl rfl (Pred.waits_near (by kernel_rfl) (by kernel_rfl))
                  exact Pred.yields_run (v := .pointer (some ⟨bo, 0, none⟩)) ((Pred.wanted_at (g := 22) (d := 246) (f := true) rfl rfl r246).trans rfl) (by go_simp) ⟨Below.refl _ _, rfl, Nat.zero_le _⟩
                · intro b9 X ph hE hd hn hS hV hI hF
                  obtain ⟨r249, j249⟩ : PredT.At 0 (.pointer (some ⟨bo, 0, none⟩)) (b9.tmps[249]?.getD undef) X ph := hV 25 _ 249 rfl rfl (Pred.waits_near (by kernel_rfl) (by kernel_rfl))
                  obtain ⟨r246, j246⟩ : PredT.At 0 (.bool true) (b9.tmps[246]?.getD undef) X ph := hV 22 _ 246 rfl rfl (Pred.waits_near (by kernel_rfl) (by kernel_rfl))
                  exact Pred.yields_run (v := .pointer (some ⟨bo, 0, none⟩)) ((Pred.wanted_at (g := 22) (d := 246) (f := true) rfl rfl r246).trans rfl) (by go_simp) ⟨Below.refl _ _, rfl, Nat.zero_le _⟩
                · intro b9 X ph hE hd hn hS hV hI hF
                  obtain ⟨r250, j250⟩ : PredT.At 0 (.pointer (some ⟨bo, 0, none⟩)) (b9.tmps[250]?.getD undef) X ph := hV 26 _ 250 rfl rfl (Pred.waits_near (by kernel_rfl) (by kernel_rfl))
                  obtain ⟨r246, j246⟩ : PredT.At 0 (.bool true) (b9.tmps[246]?.getD undef) X ph := hV 22 _ 246 rfl rfl (Pred.waits_near (by kernel_rfl) (by kernel_rfl))
                  exact Pred.yields_run (v := .pointer (some ⟨bo, 0, none⟩)) ((Pred.wanted_at (g := 22) (d := 246) (f := true) rfl rfl r246).trans rfl) (by go_simp) ⟨Below.refl _ _, rfl, Nat.zero_le _⟩
                · intro b9 X ph hE hd hn hS hV hI hF
                  obtain ⟨r251, j251⟩ : PredT.At 0 (.pointer (some ⟨bo, 0, none⟩)) (b9.tmps[251]?.getD undef) X ph := hV 27 _ 251 rfl rfl (Pred.waits_near (by kernel_rfl) (by kernel_rfl))
                  obtain ⟨r246, j246⟩ : PredT.At 0 (.bool true) (b9.tmps[246]?.getD undef) X ph := hV 22 _ 246 rfl rfl (Pred.waits_near (by kernel_rfl) (by kernel_rfl))
                  have q0 := (hE.cell (p := ⟨bo, 0, none⟩) lo).trans k0
                  have q1 := (hE.cell (p := ⟨bo, 1, none⟩) lo).trans k1
                  have q2 := (hE.cell (p := ⟨bo, 2, none⟩) lo).trans k2
                  exact Pred.yields_run (v := .agg #[.int .i64 D, .bool wr, .slice (some ⟨tt, 0, none⟩) n ct]) ((Pred.wanted_at (g := 22) (d := 246) (f := true) rfl rfl r246).trans rfl) (by go_simp) ⟨Below.refl _ _, rfl, Nat.zero_le _⟩
                · intro b9 X ph hE hd hn hS hV hI hF
                  obtain ⟨j248, r248⟩ : PredT.When 0 (fun u y => ∃ g c : Nat, u = .agg #[.int .i64 D, .bool wr, .slice (some ⟨g, 0, none⟩) n c] ∧ Reads y 4 (some ⟨g, 0, none⟩) n (cp tn)) (b9.tmps[248]?.getD undef) X ph := hV 24 _ 248 rfl rfl (Pred.waits_near (by kernel_rfl) (by kernel_rfl))
                  obtain ⟨r252, j252⟩ : PredT.At 0 (.agg #[.int .i64 D, .bool wr, .slice (some ⟨tt, 0, none⟩) n ct]) (b9.tmps[252]?.getD undef) X ph := hV 28 _ 252 rfl rfl (Pred.waits_near (by kernel_rfl) (by kernel_rfl))
                  obtain ⟨r246, j246⟩ : PredT.At 0 (.bool true) (b9.tmps[246]?.getD undef) X ph := hV 22 _ 246 rfl rfl (Pred.waits_near (by kernel_rfl) (by kernel_rfl))
                  obtain ⟨g9, c9, hv9, hr9⟩ := r248 (by have := PredT.sel_le hS; simp at this; omega)
                  have r248e : b9.tmps[248]?.getD undef = .agg #[.int .i64 D, .bool wr, .slice (some ⟨g9, 0, none⟩) n c9] := hv9
                  refine Pred.yields_call (f := 21) (args := #[.agg #[.int .i64 D, .bool wr, .slice (some ⟨g9, 0, none⟩) n c9], .agg #[.int .i64 D, .bool wr, .slice (some ⟨tt, 0, none⟩) n ct]]) ((Pred.wanted_at (g := 22) (d := 246) (f := true) rfl rfl r246).trans rfl) (by go_simp) ?_
                  refine (tex_same D wr ⟨g9, 0, none⟩ _ n c9 _ _ X hr9 (hRo.below hE (Nat.le_refl _)) hn6 hD3).mono ?_
                  rintro e w9 ⟨rfl, hb⟩
                  exact ⟨_, rfl, hb, rfl, Nat.zero_le _⟩
                · intro b9 X ph hE hd hn hS hV hI hF
                  obtain ⟨r253, j253⟩ : PredT.At 0 (.bool true) (b9.tmps[253]?.getD undef) X ph := hV 29 _ 253 rfl rfl (Pred.waits_near (by kernel_rfl) (by kernel_rfl))
                  obtain ⟨r246, j246⟩ : PredT.At 0 (.bool true) (b9.tmps[246]?.getD undef) X ph := hV 22 _ 246 rfl rfl (Pred.waits_near (by kernel_rfl) (by kernel_rfl))
                  exact Pred.yields_run (v := .bool false) ((Pred.wanted_at (g := 22) (d := 246) (f := true) rfl rfl r246).trans rfl) (by go_simp) ⟨Below.refl _ _, rfl, Nat.zero_le _⟩
                · intro b9 X ph hE hd hn hS hV hI hF
                  obtain ⟨r246, j246⟩ : PredT.At 0 (.bool true) (b9.tmps[246]?.getD undef) X ph := hV 22 _ 246 rfl rfl (Pred.waits_near (by kernel_rfl) (by kernel_rfl))
                  obtain ⟨r254, j254⟩ : PredT.At 0 (.bool false) (b9.tmps[254]?.getD undef) X ph := hV 30 _ 254 rfl rfl (Pred.waits_near (by kernel_rfl) (by kernel_rfl))
                  obtain ⟨r243, j243⟩ : PredT.At 0 (.bool false) (b9.tmps[243]?.getD undef) X ph := hV 19 _ 243 rfl rfl (Pred.waits_near (by kernel_rfl) (by kernel_rfl))
                  exact Pred.yields_run (v := .bool false) ((Pred.wanted_at (g := 19) (d := 243) (f := false) rfl rfl r243).trans rfl) (by go_simp) ⟨Below.refl _ _, rfl, Nat.zero_le _⟩
                · intro b9 X ph hE hd hn hS hV hI hF
                  obtain ⟨r243, j243⟩ : PredT.At 0 (.bool false) (b9.tmps[243]?.getD undef) X ph := hV 19 _ 243 rfl rfl (Pred.waits_near (by kernel_rfl) (by kernel_rfl))
                  obtain ⟨r255, j255⟩ : PredT.At 0 (.bool false) (b9.tmps[255]?.getD undef) X ph := hV 31 _ 255 rfl rfl (Pred.waits_near (by kernel_rfl) (by kernel_rfl))
                  exact Pred.yields_run (v := .bool false) (Pred.wanted_none rfl) (by go_simp) ⟨Below.refl _ _, rfl, Nat.zero_le _⟩
              · trivial
              intro v X hE hS hv
              replace hS : (fun _ => True) X := hS
              have e0 : v 0 = .pointer (some ⟨bm, 0, none⟩) := (hv 0 _ 224 rfl rfl).1
              generalize hg1 : v 1 = vv1
              have e2 : v 2 = .agg #[.int .i64 D, .bool wr, .slice (some ⟨gb, go9, none⟩) n c] := (hv 2 _ 226 rfl rfl).1
              have e3 : v 3 = .bool true := (hv 3 _ 227 rfl rfl).1
              have e4 : v 4 = .bool false := (hv 4 _ 228 rfl rfl).1
              have e5 : v 5 = .bool false := (hv 5 _ 229 rfl rfl).1
              have e6 : v 6 = .pointer (some ⟨bm, 0, none⟩) := (hv 6 _ 230 rfl rfl).1
              have e7 : v 7 = .int .i64 D := (hv 7 _ 231 rfl rfl).1
              have e8 : v 8 = .pointer (some ⟨w.heap.size, 0, none⟩) := (hv 8 _ 232 rfl rfl).1
              have e9 : v 9 = .int .i64 D := (hv 9 _ 233 rfl rfl).1
              have e10 : v 10 = .bool false := (hv 10 _ 234 rfl rfl).1
              have e11 : v 11 = .bool false := (hv 11 _ 235 rfl rfl).1
              have e12 : v 12 = .bool false := (hv 12 _ 236 rfl rfl).1
              have e13 : v 13 = .pointer (some ⟨bm, 0, none⟩) := (hv 13 _ 237 rfl rfl).1
              have e14 : v 14 = .bool wr := (hv 14 _ 238 rfl rfl).1
              have e15 : v 15 = .pointer (some ⟨w.heap.size, 1, none⟩) := (hv 15 _ 239 rfl rfl).1
              have e16 : v 16 = .bool wr := (hv 16 _ 240 rfl rfl).1
              have e17 : v 17 = .bool false := (hv 17 _ 241 rfl rfl).1
              have e18 : v 18 = .bool false := (hv 18 _ 242 rfl rfl).1
              have e19 : v 19 = .bool false := (hv 19 _ 243 rfl rfl).1
              have e20 : v 20 = .pointer (some ⟨bo, 0, none⟩) := (hv 20 _ 244 rfl rfl).1
              have e21 : v 21 = .bool true := (hv 21 _ 245 rfl rfl).1
              have e22 : v 22 = .bool true := (hv 22 _ 246 rfl rfl).1
              have e23 : v 23 = .pointer (some ⟨bn, 0, none⟩) := (hv 23 _ 247 rfl rfl).1
              generalize hg24 : v 24 = vv24
              have e25 : v 25 = .pointer (some ⟨bo, 0, none⟩) := (hv 25 _ 249 rfl rfl).1
              have e26 : v 26 = .pointer (some ⟨bo, 0, none⟩) := (hv 26 _ 250 rfl rfl).1
              have e27 : v 27 = .pointer (some ⟨bo, 0, none⟩) := (hv 27 _ 251 rfl rfl).1
              have e28 : v 28 = .agg #[.int .i64 D, .bool wr, .slice (some ⟨tt, 0, none⟩) n ct] := (hv 28 _ 252 rfl rfl).1
              have e29 : v 29 = .bool true := (hv 29 _ 253 rfl rfl).1
              have e30 : v 30 = .bool false := (hv 30 _ 254 rfl rfl).1
              have e31 : v 31 = .bool false := (hv 31 _ 255 rfl rfl).1
              have e32 : v 32 = .bool false := (hv 32 _ 256 rfl rfl).1
              simp only [Pred.putsF_cons, Pred.putsF_nil, Nat.zero_add, Nat.reduceAdd, e0, hg1, e2, e3, e4, e5, e6, e7, e8, e9, e10, e11, e12, e13, e14, e15, e16, e17, e18, e19, e20, e21, e22, e23, hg24, e25, e26, e27, e28, e29, e30, e31, e32, Act.put, List.setIfInBounds_toArray, List.set_cons_zero, List.set_cons_succ]
              clear e0 hg1 e2 e3 e4 e5 e6 e7 e8 e9 e10 e11 e12 e13 e14 e15 e16 e17 e18 e19 e20 e21 e22 e23 hg24 e25 e26 e27 e28 e29 e30 e31 e32 hv
              have bX : Below Y.heap.size Y X := bZ.trans (hE.mono bZ.size)
              have HN9 := Lib.hid (HT2.out.below bX)
              have hBN := hb2.trans (bX.mono hb2.size)
              clear hE hPz hRz u0 u1 u2 hRt bZ hbz HA4 HCE hNz hOz k0 k1 k2 hRo
              go_wp2
              exact ⟨⟨t + 1, by omega, by go_num, HN9, hBN⟩, by simp [intOf]; omega⟩
        · have hno : withinV (sd D) a5 a7 = false ∨ withinV (sd D) a6 a8 = false ∨ (len9 : Int) ≠ a7 * a8 := by
            cases h1 : withinV (sd D) a5 a7 with
            | false => exact .inl rfl
            | true =>
              cases h2 : withinV (sd D) a6 a8 with
              | false => exact .inr (.inl rfl)
              | true => exact .inr (.inr fun h => hok ⟨h1, h2, h⟩)
          clear hok
          refine (With_no a5 a6 a7 a8 a9 len9 cap9 w3 hPm3 hno (by omega)).mono ?_
          rintro e v1 ⟨rfl, hv1⟩
          have hP1 := hPm3.below hv1
          have hR1 := hRq3.below hv1
          go_wp2_with fail
          refine (RWith_no a5 a6 a7 a8 a9 len9 cap9 v1 hR1 hno (by omega) b5 b6 b7 b8).mono ?_
          rintro e v2 ⟨rfl, hv2⟩
          have hPv := hP1.below hv2
          have hRv := hR1.below hv2
          have b6' : Below w3.heap.size w3 v2 := hv1.trans (hv2.mono hv1.size)
          clear hv1 hv2 hP1 hR1 hPm3 hRq3 hno
          have b7' : Below Y.heap.size Y v2 := b5'.trans (b6'.mono b5'.size)
          have LV : Below w.heap.size w v2 := hb2.trans (b7'.mono hb2.size)
          have HA4 : Hid (∀ i, i < len4 → ∃ (ab ao : Nat) (z0 z1 z2 : Int), a4 = some ⟨ab, ao, none⟩ ∧ ab < w.heap.size ∧ In64 z0 ∧ In64 z1 ∧ In64 z2 ∧ w.cell? ⟨ab, ao + i * 3, none⟩ = some (.int .i64 z0) ∧ w.cell? ⟨ab, ao + i * 3 + 1, none⟩ = some (.int .i64 z1) ∧ w.cell? ⟨ab, ao + i * 3 + 2, none⟩ = some (.int .i64 z2)) := Lib.hid fun i hi => by
            obtain ⟨h1, h2⟩ := HR4.out
            rcases h2 with h2 | ⟨ab, ao, h3, h4, h5⟩
            · omega
            · have hq : ∀ j, j < 3 → ∃ z, In64 z ∧ w.cell? ⟨ab, ao + i * 3 + j, none⟩ = some (.int .i64 z) := fun j hj => by
                have hlt : i * 3 + j < qs.length := by rw [HAL.out]; omega
                refine ⟨qs[i * 3 + j], haz _ (List.getElem_mem hlt), ?_⟩
                rw [Nat.add_assoc, h5 (i * 3 + j) (by rw [h1]; omega)]
                simp [i64s, hlt]
              obtain ⟨z0, i0, e0⟩ := hq 0 (by omega)
              obtain ⟨z1, i1, e1⟩ := hq 1 (by omega)
              obtain ⟨z2, i2, e2⟩ := hq 2 (by omega)
              exact ⟨ab, ao, z0, z1, z2, h3, h4, i0, i1, i2, e0, e1, e2⟩
          clear b6' hY3
          go_upto_region 18 with (fail)
          go_loopw [28] (fun q X => ∃ i : Nat, i ≤ len4 ∧ q = .int .i64 i ∧ Below v2.heap.size v2 X) (fun q _ => len4 - (intOf q).toNat)
          case atStart => exact ⟨0, by omega, rfl, Below.refl _ _⟩
          case round =>
            obtain ⟨i, hi, rfl, hbz⟩ := hrel
            rename World => Z
            by_cases hil : i < len4
            · have hil' : (i : Int) < (len4 : Int) := by omega
              obtain ⟨ab, ao, z0, z1, z2, rfl, hab, i0, i1, i2, e0, e1, e2⟩ := HA4.out i hil
              have LZ : Below w.heap.size w Z := LV.trans (hbz.mono LV.size)
              have y0 := (LZ.cell (p := ⟨ab, ao + i * 3, none⟩) hab).trans e0
              have y1 := (LZ.cell (p := ⟨ab, ao + i * 3 + 1, none⟩) hab).trans e1
              have y2 := (LZ.cell (p := ⟨ab, ao + i * 3 + 2, none⟩) hab).trans e2
              have lA : ab < Z.heap.size := by have := LZ.size; omega
              have hPz := hPv.below hbz
              have hRz := hRv.below hbz
              obtain ⟨p, hp⟩ : ∃ p, atP ts D wr z0 z1 z2 = p := ⟨_, rfl⟩
              obtain ⟨s, hs⟩ : ∃ s, szE D z0 = s := ⟨_, rfl⟩
              have CA := Lib.hid fun X (hX : Pyr X bm D wr ts) => (hp ▸ At_any z0 z1 z2 X hX i1 i2 : Calls Try.prog 17 #[.pointer (some ⟨bm, 0, none⟩), .int .i64 z0, .int .i64 z1, .int .i64 z2] X fun e w' => e = .returned p.v ∧ Below X.heap.size X w')
              have CR := Lib.hid fun X (hX : Rp X bq D (D + 1) wr ts) => (hp ▸ RAt_any z0 z1 z2 X hX (fun _ _ => by omega) i1 i2 : Calls Try.prog 18 #[.pointer (some ⟨bq, 0, none⟩), .int .i64 z0, .int .i64 z1, .int .i64 z2] X fun e w' => e = .returned p.v ∧ Below X.heap.size X w')
              have CS := Lib.hid fun X (hX : Pyr X bm D wr ts) => (hs ▸ Size_any z0 X hX : Calls Try.prog 19 #[.pointer (some ⟨bm, 0, none⟩), .int .i64 z0] X fun e w' => e = .returned (.int .i64 s) ∧ X = w')
              have CT := Lib.hid fun X (hX : Rp X bq D (D + 1) wr ts) => (hs ▸ RSize_any z0 X hX : Calls Try.prog 20 #[.pointer (some ⟨bq, 0, none⟩), .int .i64 z0] X fun e w' => e = .returned (.int .i64 s) ∧ Below X.heap.size X w')
              clear e0 e1 e2 LZ hp hs
              go_upto_region 20 with (fail)
              try simp only [List.append_eq, List.cons_append, List.nil_append]
              refine PredT.region_of (W := Z) (Z.heap.size) (Nat.le_refl _) [] [
                  fun _ => True] [
                  PredT.At 0 (.pointer (some ⟨bm, 0, none⟩)),
                  PredT.At 0 (.slice (some ⟨ab, ao, none⟩) len4 cap4),
                  PredT.At 0 (.int .i64 i),
                  PredT.At 0 (.pointer (some ⟨ab, ao + i * 3, none⟩)),
                  PredT.At 0 (.pointer (some ⟨ab, ao + i * 3, none⟩)),
                  PredT.At 0 (.int .i64 z0),
                  PredT.At 0 (.slice (some ⟨ab, ao, none⟩) len4 cap4),
                  PredT.At 0 (.int .i64 i),
                  PredT.At 0 (.pointer (some ⟨ab, ao + i * 3, none⟩)),
                  PredT.At 0 (.pointer (some ⟨ab, ao + i * 3 + 1, none⟩)),
                  PredT.At 0 (.int .i64 z1),
                  PredT.At 0 (.slice (some ⟨ab, ao, none⟩) len4 cap4),
                  PredT.At 0 (.int .i64 i),
                  PredT.At 0 (.pointer (some ⟨ab, ao + i * 3, none⟩)),
                  PredT.At 0 (.pointer (some ⟨ab, ao + i * 3 + 2, none⟩)),
                  PredT.At 0 (.int .i64 z2),
                  PredT.At 0 (p.v),
                  PredT.At 0 (.pointer (some ⟨bq, 0, none⟩)),
                  PredT.At 0 (.slice (some ⟨ab, ao, none⟩) len4 cap4),
                  PredT.At 0 (.int .i64 i),
                  PredT.At 0 (.pointer (some ⟨ab, ao + i * 3, none⟩)),
                  PredT.At 0 (.pointer (some ⟨ab, ao + i * 3, none⟩)),
                  PredT.At 0 (.int .i64 z0),
                  PredT.At 0 (.slice (some ⟨ab, ao, none⟩) len4 cap4),
                  PredT.At 0 (.int .i64 i),
                  PredT.At 0 (.pointer (some ⟨ab, ao + i * 3, none⟩)),
                  PredT.At 0 (.pointer (some ⟨ab, ao + i * 3 + 1, none⟩)),
                  PredT.At 0 (.int .i64 z1),
                  PredT.At 0 (.slice (some ⟨ab, ao, none⟩) len4 cap4),
                  PredT.At 0 (.int .i64 i),
                  PredT.At 0 (.pointer (some ⟨ab, ao + i * 3, none⟩)),
                  PredT.At 0 (.pointer (some ⟨ab, ao + i * 3 + 2, none⟩)),
                  PredT.At 0 (.int .i64 z2),
                  PredT.At 0 (p.v),
                  PredT.At 0 (.bool false),
                  PredT.At 0 (.bool false),
                  PredT.At 0 (.pointer (some ⟨bm, 0, none⟩)),
                  PredT.At 0 (.slice (some ⟨ab, ao, none⟩) len4 cap4),
                  PredT.At 0 (.int .i64 i),
                  PredT.At 0 (.pointer (some ⟨ab, ao + i * 3, none⟩)),
                  PredT.At 0 (.pointer (some ⟨ab, ao + i * 3, none⟩)),
                  PredT.At 0 (.int .i64 z0),
                  PredT.At 0 (.int .i64 s),
                  PredT.At 0 (.pointer (some ⟨bq, 0, none⟩)),
                  PredT.At 0 (.slice (some ⟨ab, ao, none⟩) len4 cap4),
                  PredT.At 0 (.int .i64 i),
                  PredT.At 0 (.pointer (some ⟨ab, ao + i * 3, none⟩)),
                  PredT.At 0 (.pointer (some ⟨ab, ao + i * 3, none⟩)),
                  PredT.At 0 (.int .i64 z0),
                  PredT.At 0 (.int .i64 s),
                  PredT.At 0 (.bool false),
                  PredT.At 0 (.bool false),
                  PredT.At 0 (.bool false),
                  PredT.At 0 (.pointer none),
                  PredT.At 0 (.bool false),
                  PredT.At 0 (.bool false),
                  PredT.At 0 (undef),
                  PredT.At 0 (undef),
                  PredT.At 0 (undef),
                  PredT.At 0 (undef),
                  PredT.At 0 (undef),
                  PredT.At 0 (undef),
                  PredT.At 0 (undef),
                  PredT.At 0 (undef),
                  PredT.At 0 (undef),
                  PredT.At 0 (undef),
                  PredT.At 0 (undef),
                  PredT.At 0 (undef),
                  PredT.At 0 (undef),
                  PredT.At 0 (undef),
                  PredT.At 0 (undef),
                  PredT.At 0 (undef),
                  PredT.At 0 (undef),
                  PredT.At 0 (undef),
                  PredT.At 0 (undef),
                  PredT.At 0 (undef),
                  PredT.At 0 (undef),
                  PredT.At 0 (undef),
                  PredT.At 0 (undef),
                  PredT.At 0 (undef),
                  PredT.At 0 (undef),
                  PredT.At 0 (undef),
                  PredT.At 0 (undef),
                  PredT.At 0 (undef),
                  PredT.At 0 (undef),
                  PredT.At 0 (undef),
                  PredT.At 0 (undef),
                  PredT.At 0 (undef),
                  PredT.At 0 (undef),
                  PredT.At 0 (undef),
                  PredT.At 0 (undef),
                  PredT.At 0 (.bool false),
                  PredT.At 0 (.bool false)] (by kernel_rfl) (by kernel_rfl) (by kernel_rfl) (by decide) (by decide) ?_ ?_ ?_ ?_ ?_ ?_
              · exact ⟨PredT.at_stab _ _ _ _, PredT.at_stab _ _ _ _, PredT.at_stab _ _ _ _, PredT.at_stab _ _ _ _, PredT.at_stab _ _ _ _, PredT.at_stab _ _ _ _, PredT.at_stab _ _ _ _, PredT.at_stab _ _ _ _, PredT.at_stab _ _ _ _, PredT.at_stab _ _ _ _, PredT.at_stab _ _ _ _, PredT.at_stab _ _ _ _, PredT.at_stab _ _ _ _, PredT.at_stab _ _ _ _, PredT.at_stab _ _ _ _, PredT.at_stab _ _ _ _, PredT.at_stab _ _ _ _, PredT.at_stab _ _ _ _, PredT.at_stab _ _ _ _, PredT.at_stab _ _ _ _, PredT.at_stab _ _ _ _, PredT.at_stab _ _ _ _, PredT.at_stab _ _ _ _, PredT.at_stab _ _ _ _, PredT.at_stab _ _ _ _, PredT.at_stab _ _ _ _, PredT.at_stab _ _ _ _, PredT.at_stab _ _ _ _, PredT.at_stab _ _ _ _, PredT.at_stab _ _ _ _, PredT.at_stab _ _ _ _, PredT.at_stab _ _ _ _, PredT.at_stab _ _ _ _, PredT.at_stab _ _ _ _, PredT.at_stab _ _ _ _, PredT.at_stab _ _ _ _, PredT.at_stab _ _ _ _, PredT.at_stab _ _ _ _, PredT.at_stab _ _ _ _, PredT.at_stab _ _ _ _, PredT.at_stab _ _ _ _, PredT.at_stab _ _ _ _, PredT.at_stab _ _ _ _, PredT.at_stab _ _ _ _, PredT.at_stab _ _ _ _, PredT.at_stab _ _ _ _, PredT.at_stab _ _ _ _, PredT.at_stab _ _ _ _, PredT.at_stab _ _ _ _, PredT.at_stab _ _ _ _, PredT.at_stab _ _ _ _, PredT.at_stab _ _ _ _, PredT.at_stab _ _ _ _, PredT.at_stab _ _ _ _, PredT.at_stab _ _ _ _, PredT.at_stab _ _ _ _, PredT.at_stab _ _ _ _, PredT.at_stab _ _ _ _, PredT.at_stab _ _ _ _, PredT.at_stab _ _ _ _, PredT.at_stab _ _ _ _, PredT.at_stab _ _ _ _, PredT.at_stab _ _ _ _, PredT.at_stab _ _ _ _, PredT.at_stab _ _ _ _, PredT.at_stab _ _ _ _, PredT.at_stab _ _ _ _, PredT.at_stab _ _ _ _, PredT.at_stab _ _ _ _, PredT.at_stab _ _ _ _, PredT.at_stab _ _ _ _, PredT.at_stab _ _ _ _, PredT.at_stab _ _ _ _, PredT.at_stab _ _ _ _, PredT.at_stab _ _ _ _, PredT.at_stab _ _ _ _, PredT.at_stab _ _ _ _, PredT.at_stab _ _ _ _, PredT.at_stab _ _ _ _, PredT.at_stab _ _ _ _, PredT.at_stab _ _ _ _, PredT.at_stab _ _ _ _, PredT.at_stab _ _ _ _, PredT.at_stab _ _ _ _, PredT.at_stab _ _ _ _, PredT.at_stab _ _ _ _, PredT.at_stab _ _ _ _, PredT.at_stab _ _ _ _, PredT.at_stab _ _ _ _, PredT.at_stab _ _ _ _, PredT.at_stab _ _ _ _, PredT.at_stab _ _ _ _, PredT.at_stab _ _ _ _, trivial⟩
              · intro q hq
                rcases List.mem_cons.1 hq with rfl | hq
                · exact fun _ _ h _ => trivial
                cases hq
              · exact trivial
              · refine ⟨.inr ?_, .inr ?_, .inr ?_, .inr ?_, .inr ?_, .inr ?_, .inr ?_, .inr ?_, .inr ?_, .inr ?_, .inr ?_, .inr ?_, .inr ?_, .inr ?_, .inr ?_, .inr ?_, .inr ?_, .inr ?_, .inr ?_, .inr ?_, .inr ?_, .inr ?_, .inr ?_, .inr ?_, .inr ?_, .inr ?_, .inr ?_, .inr ?_, .inr ?_, .inr ?_, .inr ?_, .inr ?_, .inr ?_, .inr ?_, .inr ?_, .inr ?_, .inr ?_, .inr ?_, .inr ?_, .inr ?_, .inr ?_, .inr ?_, .inr ?_, .inr ?_, .inr ?_, .inr ?_, .inr ?_, .inr ?_, .inr ?_, .inr ?_, .inr ?_, .inr ?_, .inr ?_, .inr ?_, .inr ?_, .inr ?_, .inr ?_, .inr ?_, .inr ?_, .inr ?_, .inr ?_, .inr ?_, .inr ?_, .inr ?_, .inr ?_, .inr ?_, .inr ?_, .inr ?_, .inr ?_, .inr ?_, .inr ?_, .inr ?_, .inr ?_, .inr ?_, .inr ?_, .inr ?_, .inr ?_, .inr ?_, .inr ?_, .inr ?_, .inr ?_, .inr ?_, .inr ?_, .inr ?_, .inr ?_, .inr ?_, .inr ?_, .inr ?_, .inr ?_, .inr ?_, .inr ?_, .inr ?_, .inr ?_, trivial⟩
                · intro b9 X ph hE hd hn hS hV hI hF
                  have r22 : b9.tmps[22]?.getD undef = .pointer (some ⟨bm, 0, none⟩) := (hn 22 (by kernel_rfl)).trans rfl
                  exact Pred.yields_run (v := .pointer (some ⟨bm, 0, none⟩)) (Pred.wanted_none rfl) (by go_simp) ⟨Below.refl _ _, rfl, Nat.zero_le _⟩
                · intro b9 X ph hE hd hn hS hV hI hF
                  have r4 : b9.tmps[4]?.getD undef = .slice (some ⟨ab, ao, none⟩) len4 cap4 := (hn 4 (by kernel_rfl)).trans rfl
                  exact Pred.yields_run (v := .slice (some ⟨ab, ao, none⟩) len4 cap4) (Pred.wanted_none rfl) (by go_simp) ⟨Below.refl _ _, rfl, Nat.zero_le _⟩
                · intro b9 X ph hE hd hn hS hV hI hF
                  have r28 : b9.tmps[28]?.getD undef = .int .i64 i := (hn 28 (by kernel_rfl)).trans rfl
                  exact Pred.yields_run (v := .int .i64 i) (Pred.wanted_none rfl) (by go_simp) ⟨Below.refl _ _, rfl, Nat.zero_le _⟩
                · intro b9 X ph hE hd hn hS hV hI hF
                  obtain ⟨r132, j132⟩ : PredT.At 0 (.slice (some ⟨ab, ao, none⟩) len4 cap4) (b9.tmps[132]?.getD undef) X ph := hV 1 _ 132 rfl rfl (Pred.waits_near (by kernel_rfl) (by kernel_rfl))
                  obtain ⟨r133, j133⟩ : PredT.At 0 (.int .i64 i) (b9.tmps[133]?.getD undef) X ph := hV 2 _ 133 rfl rfl (Pred.waits_near (by kernel_rfl) (by kernel_rfl))
                  exact Pred.yields_run (v := .pointer (some ⟨ab, ao + i * 3, none⟩)) (Pred.wanted_none rfl) (by go_simp) ⟨Below.refl _ _, rfl, Nat.zero_le _⟩
                · intro b9 X ph hE hd hn hS hV hI hF
                  obtain ⟨r134, j134⟩ : PredT.At 0 (.pointer (some ⟨ab, ao + i * 3, none⟩)) (b9.tmps[134]?.getD undef) X ph := hV 3 _ 134 rfl rfl (Pred.waits_near (by kernel_rfl) (by kernel_rfl))
                  exact Pred.yields_run (v := .pointer (some ⟨ab, ao + i * 3, none⟩)) (Pred.wanted_none rfl) (by go_simp) ⟨Below.refl _ _, rfl, Nat.zero_le _⟩
                · intro b9 X ph hE hd hn hS hV hI hF
                  obtain ⟨r135, j135⟩ : PredT.At 0 (.pointer (some ⟨ab, ao + i * 3, none⟩)) (b9.tmps[135]?.getD undef) X ph := hV 4 _ 135 rfl rfl (Pred.waits_near (by kernel_rfl) (by kernel_rfl))
                  have z9 := (hE.cell (p := ⟨ab, ao + i * 3, none⟩) lA).trans y0
                  exact Pred.yields_run (v := .int .i64 z0) (Pred.wanted_none rfl) (by go_simp) ⟨Below.refl _ _, rfl, Nat.zero_le _⟩
                · intro b9 X ph hE hd hn hS hV hI hF
                  have r4 : b9.tmps[4]?.getD undef = .slice (some ⟨ab, ao, none⟩) len4 cap4 := (hn 4 (by kernel_rfl)).trans rfl
                  exact Pred.yields_run (v := .slice (some ⟨ab, ao, none⟩) len4 cap4) (Pred.wanted_none rfl) (by go_simp) ⟨Below.refl _ _, rfl, Nat.zero_le _⟩
                · intro b9 X ph hE hd hn hS hV hI hF
                  have r28 : b9.tmps[28]?.getD undef = .int .i64 i := (hn 28 (by kernel_rfl)).trans rfl
                  exact Pred.yields_run (v := .int .i64 i) (Pred.wanted_none rfl) (by go_simp) ⟨Below.refl _ _, rfl, Nat.zero_le _⟩
                · intro b9 X ph hE hd hn hS hV hI hF
                  obtain ⟨r137, j137⟩ : PredT.At 0 (.slice (some ⟨ab, ao, none⟩) len4 cap4) (b9.tmps[137]?.getD undef) X ph := hV 6 _ 137 rfl rfl (Pred.waits_near (by kernel_rfl) (by kernel_rfl))
                  obtain ⟨r138, j138⟩ : PredT.At 0 (.int .i64 i) (b9.tmps[138]?.getD undef) X ph := hV 7 _ 138 rfl rfl (Pred.waits_near (by kernel_rfl) (by kernel_rfl))
                  exact Pred.yields_run (v := .pointer (some ⟨ab, ao + i * 3, none⟩)) (Pred.wanted_none rfl) (by go_simp) ⟨Below.refl _ _, rfl, Nat.zero_le _⟩
                · intro b9 X ph hE hd hn hS hV hI hF
                  obtain ⟨r139, j139⟩ : PredT.At 0 (.pointer (some ⟨ab, ao + i * 3, none⟩)) (b9.tmps[139]?.getD undef) X ph := hV 8 _ 139 rfl rfl (Pred.waits_near (by kernel_rfl) (by kernel_rfl))
                  exact Pred.yields_run (v := .pointer (some ⟨ab, ao + i * 3 + 1, none⟩)) (Pred.wanted_none rfl) (by go_simp) ⟨Below.refl _ _, rfl, Nat.zero_le _⟩
                · intro b9 X ph hE hd hn hS hV hI hF
                  obtain ⟨r140, j140⟩ : PredT.At 0 (.pointer (some ⟨ab, ao + i * 3 + 1, none⟩)) (b9.tmps[140]?.getD undef) X ph := hV 9 _ 140 rfl rfl (Pred.waits_near (by kernel_rfl) (by kernel_rfl))
                  have z9 := (hE.cell (p := ⟨ab, ao + i * 3 + 1, none⟩) lA).trans y1
                  exact Pred.yields_run (v := .int .i64 z1) (Pred.wanted_none rfl) (by go_simp) ⟨Below.refl _ _, rfl, Nat.zero_le _⟩
                · intro b9 X ph hE hd hn hS hV hI hF
                  have r4 : b9.tmps[4]?.getD undef = .slice (some ⟨ab, ao, none⟩) len4 cap4 := (hn 4 (by kernel_rfl)).trans rfl
                  exact Pred.yields_run (v := .slice (some ⟨ab, ao, none⟩) len4 cap4) (Pred.wanted_none rfl) (by go_simp) ⟨Below.refl _ _, rfl, Nat.zero_le _⟩
                · intro b9 X ph hE hd hn hS hV hI hF
                  have r28 : b9.tmps[28]?.getD undef = .int .i64 i := (hn 28 (by kernel_rfl)).trans rfl
                  exact Pred.yields_run (v := .int .i64 i) (Pred.wanted_none rfl) (by go_simp) ⟨Below.refl _ _, rfl, Nat.zero_le _⟩
                · intro b9 X ph hE hd hn hS hV hI hF
                  obtain ⟨r142, j142⟩ : PredT.At 0 (.slice (some ⟨ab, ao, none⟩) len4 cap4) (b9.tmps[142]?.getD undef) X ph := hV 11 _ 142 rfl rfl (Pred.waits_near (by kernel_rfl) (by kernel_rfl))
                  obtain ⟨r143, j143⟩ : PredT.At 0 (.int .i64 i) (b9.tmps[143]?.getD undef) X ph := hV 12 _ 143 rfl rfl (Pred.waits_near (by kernel_rfl) (by kernel_rfl))
                  exact Pred.yields_run (v := .pointer (some ⟨ab, ao + i * 3, none⟩)) (Pred.wanted_none rfl) (by go_simp) ⟨Below.refl _ _, rfl, Nat.zero_le _⟩
                · intro b9 X ph hE hd hn hS hV hI hF
                  obtain ⟨r144, j144⟩ : PredT.At 0 (.pointer (some ⟨ab, ao + i * 3, none⟩)) (b9.tmps[144]?.getD undef) X ph := hV 13 _ 144 rfl rfl (Pred.waits_near (by kernel_rfl) (by kernel_rfl))
                  exact Pred.yields_run (v := .pointer (some ⟨ab, ao + i * 3 + 2, none⟩)) (Pred.wanted_none rfl) (by go_simp) ⟨Below.refl _ _, rfl, Nat.zero_le _⟩
                · intro b9 X ph hE hd hn hS hV hI hF
                  obtain ⟨r145, j145⟩ : PredT.At 0 (.pointer (some ⟨ab, ao + i * 3 + 2, none⟩)) (b9.tmps[145]?.getD undef) X ph := hV 14 _ 145 rfl rfl (Pred.waits_near (by kernel_rfl) (by kernel_rfl))
                  have z9 := (hE.cell (p := ⟨ab, ao + i * 3 + 2, none⟩) lA).trans y2
                  exact Pred.yields_run (v := .int .i64 z2) (Pred.wanted_none rfl) (by go_simp) ⟨Below.refl _ _, rfl, Nat.zero_le _⟩
                · intro b9 X ph hE hd hn hS hV hI hF
                  obtain ⟨r131, j131⟩ : PredT.At 0 (.pointer (some ⟨bm, 0, none⟩)) (b9.tmps[131]?.getD undef) X ph := hV 0 _ 131 rfl rfl (Pred.waits_near (by kernel_rfl) (by kernel_rfl))
                  obtain ⟨r136, j136⟩ : PredT.At 0 (.int .i64 z0) (b9.tmps[136]?.getD undef) X ph := hV 5 _ 136 rfl rfl (Pred.waits_near (by kernel_rfl) (by kernel_rfl))
                  obtain ⟨r141, j141⟩ : PredT.At 0 (.int .i64 z1) (b9.tmps[141]?.getD undef) X ph := hV 10 _ 141 rfl rfl (Pred.waits_near (by kernel_rfl) (by kernel_rfl))
                  obtain ⟨r146, j146⟩ : PredT.At 0 (.int .i64 z2) (b9.tmps[146]?.getD undef) X ph := hV 15 _ 146 rfl rfl (Pred.waits_near (by kernel_rfl) (by kernel_rfl))
                  refine Pred.yields_call (f := 17) (args := #[.pointer (some ⟨bm, 0, none⟩), .int .i64 z0, .int .i64 z1, .int .i64 z2]) (Pred.wanted_none rfl) (by go_simp) ?_
                  refine (CA.out X (hPz.below hE)).mono ?_
                  rintro e w9 ⟨rfl, hb⟩
                  exact ⟨_, rfl, hb, rfl, Nat.zero_le _⟩
                · intro b9 X ph hE hd hn hS hV hI hF
                  have r24 : b9.tmps[24]?.getD undef = .pointer (some ⟨bq, 0, none⟩) := (hn 24 (by kernel_rfl)).trans rfl
                  exact Pred.yields_run (v := .pointer (some ⟨bq, 0, none⟩)) (Pred.wanted_none rfl) (by go_simp) ⟨Below.refl _ _, rfl, Nat.zero_le _⟩
                · intro b9 X ph hE hd hn hS hV hI hF
                  have r4 : b9.tmps[4]?.getD undef = .slice (some ⟨ab, ao, none⟩) len4 cap4 := (hn 4 (by kernel_rfl)).trans rfl
                  exact Pred.yields_run (v := .slice (some ⟨ab, ao, none⟩) len4 cap4) (Pred.wanted_none rfl) (by go_simp) ⟨Below.refl _ _, rfl, Nat.zero_le _⟩
                · intro b9 X ph hE hd hn hS hV hI hF
                  have r28 : b9.tmps[28]?.getD undef = .int .i64 i := (hn 28 (by kernel_rfl)).trans rfl
                  exact Pred.yields_run (v := .int .i64 i) (Pred.wanted_none rfl) (by go_simp) ⟨Below.refl _ _, rfl, Nat.zero_le _⟩
                · intro b9 X ph hE hd hn hS hV hI hF
                  obtain ⟨r149, j149⟩ : PredT.At 0 (.slice (some ⟨ab, ao, none⟩) len4 cap4) (b9.tmps[149]?.getD undef) X ph := hV 18 _ 149 rfl rfl (Pred.waits_near (by kernel_rfl) (by kernel_rfl))
                  obtain ⟨r150, j150⟩ : PredT.At 0 (.int .i64 i) (b9.tmps[150]?.getD undef) X ph := hV 19 _ 150 rfl rfl (Pred.waits_near (by kernel_rfl) (by kernel_rfl))
                  exact Pred.yields_run (v := .pointer (some ⟨ab, ao + i * 3, none⟩)) (Pred.wanted_none rfl) (by go_simp) ⟨Below.refl _ _, rfl, Nat.zero_le _⟩
                · intro b9 X ph hE hd hn hS hV hI hF
                  obtain ⟨r151, j151⟩ : PredT.At 0 (.pointer (some ⟨ab, ao + i * 3, none⟩)) (b9.tmps[151]?.getD undef) X ph := hV 20 _ 151 rfl rfl (Pred.waits_near (by kernel_rfl) (by kernel_rfl))
                  exact Pred.yields_run (v := .pointer (some ⟨ab, ao + i * 3, none⟩)) (Pred.wanted_none rfl) (by go_simp) ⟨Below.refl _ _, rfl, Nat.zero_le _⟩
                · intro b9 X ph hE hd hn hS hV hI hF
                  obtain ⟨r152, j152⟩ : PredT.At 0 (.pointer (some ⟨ab, ao + i * 3, none⟩)) (b9.tmps[152]?.getD undef) X ph := hV 21 _ 152 rfl rfl (Pred.waits_near (by kernel_rfl) (by kernel_rfl))
                  have z9 := (hE.cell (p := ⟨ab, ao + i * 3, none⟩) lA).trans y0
                  exact Pred.yields_run (v := .int .i64 z0) (Pred.wanted_none rfl) (by go_simp) ⟨Below.refl _ _, rfl, Nat.zero_le _⟩
                · intro b9 X ph hE hd hn hS hV hI hF
                  have r4 : b9.tmps[4]?.getD undef = .slice (some ⟨ab, ao, none⟩) len4 cap4 := (hn 4 (by kernel_rfl)).trans rfl
                  exact Pred.yields_run (v := .slice (some ⟨ab, ao, none⟩) len4 cap4) (Pred.wanted_none rfl) (by go_simp) ⟨Below.refl _ _, rfl, Nat.zero_le _⟩
                · intro b9 X ph hE hd hn hS hV hI hF
                  have r28 : b9.tmps[28]?.getD undef = .int .i64 i := (hn 28 (by kernel_rfl)).trans rfl
                  exact Pred.yields_run (v := .int .i64 i) (Pred.wanted_none rfl) (by go_simp) ⟨Below.refl _ _, rfl, Nat.zero_le _⟩
                · intro b9 X ph hE hd hn hS hV hI hF
                  obtain ⟨r154, j154⟩ : PredT.At 0 (.slice (some ⟨ab, ao, none⟩) len4 cap4) (b9.tmps[154]?.getD undef) X ph := hV 23 _ 154 rfl rfl (Pred.waits_near (by kernel_rfl) (by kernel_rfl))
                  obtain ⟨r155, j155⟩ : PredT.At 0 (.int .i64 i) (b9.tmps[155]?.getD undef) X ph := hV 24 _ 155 rfl rfl (Pred.waits_near (by kernel_rfl) (by kernel_rfl))
                  exact Pred.yields_run (v := .pointer (some ⟨ab, ao + i * 3, none⟩)) (Pred.wanted_none rfl) (by go_simp) ⟨Below.refl _ _, rfl, Nat.zero_le _⟩
                · intro b9 X ph hE hd hn hS hV hI hF
                  obtain ⟨r156, j156⟩ : PredT.At 0 (.pointer (some ⟨ab, ao + i * 3, none⟩)) (b9.tmps[156]?.getD undef) X ph := hV 25 _ 156 rfl rfl (Pred.waits_near (by kernel_rfl) (by kernel_rfl))
                  exact Pred.yields_run (v := .pointer (some ⟨ab, ao + i * 3 + 1, none⟩)) (Pred.wanted_none rfl) (by go_simp) ⟨Below.refl _ _, rfl, Nat.zero_le _⟩
                · intro b9 X ph hE hd hn hS hV hI hF
                  obtain ⟨r157, j157⟩ : PredT.At 0 (.pointer (some ⟨ab, ao + i * 3 + 1, none⟩)) (b9.tmps[157]?.getD undef) X ph := hV 26 _ 157 rfl rfl (Pred.waits_near (by kernel_rfl) (by kernel_rfl))
                  have z9 := (hE.cell (p := ⟨ab, ao + i * 3 + 1, none⟩) lA).trans y1
                  exact Pred.yields_run (v := .int .i64 z1) (Pred.wanted_none rfl) (by go_simp) ⟨Below.refl _ _, rfl, Nat.zero_le _⟩
                · intro b9 X ph hE hd hn hS hV hI hF
                  have r4 : b9.tmps[4]?.getD undef = .slice (some ⟨ab, ao, none⟩) len4 cap4 := (hn 4 (by kernel_rfl)).trans rfl
                  exact Pred.yields_run (v := .slice (some ⟨ab, ao, none⟩) len4 cap4) (Pred.wanted_none rfl) (by go_simp) ⟨Below.refl _ _, rfl, Nat.zero_le _⟩
                · intro b9 X ph hE hd hn hS hV hI hF
                  have r28 : b9.tmps[28]?.getD undef = .int .i64 i := (hn 28 (by kernel_rfl)).trans rfl
                  exact Pred.yields_run (v := .int .i64 i) (Pred.wanted_none rfl) (by go_simp) ⟨Below.refl _ _, rfl, Nat.zero_le _⟩
                · intro b9 X ph hE hd hn hS hV hI hF
                  obtain ⟨r159, j159⟩ : PredT.At 0 (.slice (some ⟨ab, ao, none⟩) len4 cap4) (b9.tmps[159]?.getD undef) X ph := hV 28 _ 159 rfl rfl (Pred.waits_near (by kernel_rfl) (by kernel_rfl))
                  obtain ⟨r160, j160⟩ : PredT.At 0 (.int .i64 i) (b9.tmps[160]?.getD undef) X ph := hV 29 _ 160 rfl rfl (Pred.waits_near (by kernel_rfl) (by kernel_rfl))
                  exact Pred.yields_run (v := .pointer (some ⟨ab, ao + i * 3, none⟩)) (Pred.wanted_none rfl) (by go_simp) ⟨Below.refl _ _, rfl, Nat.zero_le _⟩
                · intro b9 X ph hE hd hn hS hV hI hF
                  obtain ⟨r161, j161⟩ : PredT.At 0 (.pointer (some ⟨ab, ao + i * 3, none⟩)) (b9.tmps[161]?.getD undef) X ph := hV 30 _ 161 rfl rfl (Pred.waits_near (by kernel_rfl) (by kernel_rfl))
                  exact Pred.yields_run (v := .pointer (some ⟨ab, ao + i * 3 + 2, none⟩)) (Pred.wanted_none rfl) (by go_simp) ⟨Below.refl _ _, rfl, Nat.zero_le _⟩
                · intro b9 X ph hE hd hn hS hV hI hF
                  obtain ⟨r162, j162⟩ : PredT.At 0 (.pointer (some ⟨ab, ao + i * 3 + 2, none⟩)) (b9.tmps[162]?.getD undef) X ph := hV 31 _ 162 rfl rfl (Pred.waits_near (by kernel_rfl) (by kernel_rfl))
                  have z9 := (hE.cell (p := ⟨ab, ao + i * 3 + 2, none⟩) lA).trans y2
                  exact Pred.yields_run (v := .int .i64 z2) (Pred.wanted_none rfl) (by go_simp) ⟨Below.refl _ _, rfl, Nat.zero_le _⟩
                · intro b9 X ph hE hd hn hS hV hI hF
                  obtain ⟨r148, j148⟩ : PredT.At 0 (.pointer (some ⟨bq, 0, none⟩)) (b9.tmps[148]?.getD undef) X ph := hV 17 _ 148 rfl rfl (Pred.waits_near (by kernel_rfl) (by kernel_rfl))
                  obtain ⟨r153, j153⟩ : PredT.At 0 (.int .i64 z0) (b9.tmps[153]?.getD undef) X ph := hV 22 _ 153 rfl rfl (Pred.waits_near (by kernel_rfl) (by kernel_rfl))
                  obtain ⟨r158, j158⟩ : PredT.At 0 (.int .i64 z1) (b9.tmps[158]?.getD undef) X ph := hV 27 _ 158 rfl rfl (Pred.waits_near (by kernel_rfl) (by kernel_rfl))
                  obtain ⟨r163, j163⟩ : PredT.At 0 (.int .i64 z2) (b9.tmps[163]?.getD undef) X ph := hV 32 _ 163 rfl rfl (Pred.waits_near (by kernel_rfl) (by kernel_rfl))
                  refine Pred.yields_call (f := 18) (args := #[.pointer (some ⟨bq, 0, none⟩), .int .i64 z0, .int .i64 z1, .int .i64 z2]) (Pred.wanted_none rfl) (by go_simp) ?_
                  refine (CR.out X (hRz.below hE)).mono ?_
                  rintro e w9 ⟨rfl, hb⟩
                  exact ⟨_, rfl, hb, rfl, Nat.zero_le _⟩
                · intro b9 X ph hE hd hn hS hV hI hF
                  obtain ⟨r147, j147⟩ : PredT.At 0 (p.v) (b9.tmps[147]?.getD undef) X ph := hV 16 _ 147 rfl rfl (Pred.waits_near (by kernel_rfl) (by kernel_rfl))
                  obtain ⟨r164, j164⟩ : PredT.At 0 (p.v) (b9.tmps[164]?.getD undef) X ph := hV 33 _ 164 rfl rfl (Pred.waits_near (by kernel_rfl) (by kernel_rfl))
                  exact Pred.yields_run (v := .bool false) (Pred.wanted_none rfl) (by go_simp) ⟨Below.refl _ _, rfl, Nat.zero_le _⟩
                · intro b9 X ph hE hd hn hS hV hI hF
                  obtain ⟨r165, j165⟩ : PredT.At 0 (.bool false) (b9.tmps[165]?.getD undef) X ph := hV 34 _ 165 rfl rfl (Pred.waits_near (by kernel_rfl) (by kernel_rfl))
                  exact Pred.yields_run (v := .bool false) (Pred.wanted_none rfl) (by go_simp) ⟨Below.refl _ _, rfl, Nat.zero_le _⟩
                · intro b9 X ph hE hd hn hS hV hI hF
                  have r22 : b9.tmps[22]?.getD undef = .pointer (some ⟨bm, 0, none⟩) := (hn 22 (by kernel_rfl)).trans rfl
                  obtain ⟨r166, j166⟩ : PredT.At 0 (.bool false) (b9.tmps[166]?.getD undef) X ph := hV 35 _ 166 rfl rfl (Pred.waits_near (by kernel_rfl) (by kernel_rfl))
                  exact Pred.yields_run (v := .pointer (some ⟨bm, 0, none⟩)) ((Pred.wanted_at (g := 35) (d := 166) (f := false) rfl rfl r166).trans rfl) (by go_simp) ⟨Below.refl _ _, rfl, Nat.zero_le _⟩
                · intro b9 X ph hE hd hn hS hV hI hF
                  have r4 : b9.tmps[4]?.getD undef = .slice (some ⟨ab, ao, none⟩) len4 cap4 := (hn 4 (by kernel_rfl)).trans rfl
                  obtain ⟨r166, j166⟩ : PredT.At 0 (.bool false) (b9.tmps[166]?.getD undef) X ph := hV 35 _ 166 rfl rfl (Pred.waits_near (by kernel_rfl) (by kernel_rfl))
                  exact Pred.yields_run (v := .slice (some ⟨ab, ao, none⟩) len4 cap4) ((Pred.wanted_at (g := 35) (d := 166) (f := false) rfl rfl r166).trans rfl) (by go_simp) ⟨Below.refl _ _, rfl, Nat.zero_le _⟩
                · intro b9 X ph hE hd hn hS hV hI hF
                  have r28 : b9.tmps[28]?.getD undef = .int .i64 i := (hn 28 (by kernel_rfl)).trans rfl
                  obtain ⟨r166, j166⟩ : PredT.At 0 (.bool false) (b9.tmps[166]?.getD undef) X ph := hV 35 _ 166 rfl rfl (Pred.waits_near (by kernel_rfl) (by kernel_rfl))
                  exact Pred.yields_run (v := .int .i64 i) ((Pred.wanted_at (g := 35) (d := 166) (f := false) rfl rfl r166).trans rfl) (by go_simp) ⟨Below.refl _ _, rfl, Nat.zero_le _⟩
                · intro b9 X ph hE hd hn hS hV hI hF
                  obtain ⟨r168, j168⟩ : PredT.At 0 (.slice (some ⟨ab, ao, none⟩) len4 cap4) (b9.tmps[168]?.getD undef) X ph := hV 37 _ 168 rfl rfl (Pred.waits_near (by kernel_rfl) (by kernel_rfl))
                  obtain ⟨r169, j169⟩ : PredT.At 0 (.int .i64 i) (b9.tmps[169]?.getD undef) X ph := hV 38 _ 169 rfl rfl (Pred.waits_near (by kernel_rfl) (by kernel_rfl))
                  obtain ⟨r166, j166⟩ : PredT.At 0 (.bool false) (b9.tmps[166]?.getD undef) X ph := hV 35 _ 166 rfl rfl (Pred.waits_near (by kernel_rfl) (by kernel_rfl))
                  exact Pred.yields_run (v := .pointer (some ⟨ab, ao + i * 3, none⟩)) ((Pred.wanted_at (g := 35) (d := 166) (f := false) rfl rfl r166).trans rfl) (by go_simp) ⟨Below.refl _ _, rfl, Nat.zero_le _⟩
                · intro b9 X ph hE hd hn hS hV hI hF
                  obtain ⟨r170, j170⟩ : PredT.At 0 (.pointer (some ⟨ab, ao + i * 3, none⟩)) (b9.tmps[170]?.getD undef) X ph := hV 39 _ 170 rfl rfl (Pred.waits_near (by kernel_rfl) (by kernel_rfl))
                  obtain ⟨r166, j166⟩ : PredT.At 0 (.bool false) (b9.tmps[166]?.getD undef) X ph := hV 35 _ 166 rfl rfl (Pred.waits_near (by kernel_rfl) (by kernel_rfl))
                  exact Pred.yields_run (v := .pointer (some ⟨ab, ao + i * 3, none⟩)) ((Pred.wanted_at (g := 35) (d := 166) (f := false) rfl rfl r166).trans rfl) (by go_simp) ⟨Below.refl _ _, rfl, Nat.zero_le _⟩
                · intro b9 X ph hE hd hn hS hV hI hF
                  obtain ⟨r171, j171⟩ : PredT.At 0 (.pointer (some ⟨ab, ao + i * 3, none⟩)) (b9.tmps[171]?.getD undef) X ph := hV 40 _ 171 rfl rfl (Pred.waits_near (by kernel_rfl) (by kernel_rfl))
                  obtain ⟨r166, j166⟩ : PredT.At 0 (.bool false) (b9.tmps[166]?.getD undef) X ph := hV 35 _ 166 rfl rfl (Pred.waits_near (by kernel_rfl) (by kernel_rfl))
                  have z9 := (hE.cell (p := ⟨ab, ao + i * 3, none⟩) lA).trans y0
                  exact Pred.yields_run (v := .int .i64 z0) ((Pred.wanted_at (g := 35) (d := 166) (f := false) rfl rfl r166).trans rfl) (by go_simp) ⟨Below.refl _ _, rfl, Nat.zero_le _⟩
                · intro b9 X ph hE hd hn hS hV hI hF
                  obtain ⟨r167, j167⟩ : PredT.At 0 (.pointer (some ⟨bm, 0, none⟩)) (b9.tmps[167]?.getD undef) X ph := hV 36 _ 167 rfl rfl (Pred.waits_near (by kernel_rfl) (by kernel_rfl))
                  obtain ⟨r172, j172⟩ : PredT.At 0 (.int .i64 z0) (b9.tmps[172]?.getD undef) X ph := hV 41 _ 172 rfl rfl (Pred.waits_near (by kernel_rfl) (by kernel_rfl))
                  obtain ⟨r166, j166⟩ : PredT.At 0 (.bool false) (b9.tmps[166]?.getD undef) X ph := hV 35 _ 166 rfl rfl (Pred.waits_near (by kernel_rfl) (by kernel_rfl))
                  refine Pred.yields_call (f := 19) (args := #[.pointer (some ⟨bm, 0, none⟩), .int .i64 z0]) ((Pred.wanted_at (g := 35) (d := 166) (f := false) rfl rfl r166).trans rfl) (by go_simp) ?_
                  refine (CS.out X (hPz.below hE)).mono ?_
                  rintro e w9 ⟨rfl, rfl⟩
                  exact ⟨_, rfl, Below.refl _ _, rfl, Nat.zero_le _⟩
                · intro b9 X ph hE hd hn hS hV hI hF
                  have r24 : b9.tmps[24]?.getD undef = .pointer (some ⟨bq, 0, none⟩) := (hn 24 (by kernel_rfl)).trans rfl
                  obtain ⟨r166, j166⟩ : PredT.At 0 (.bool false) (b9.tmps[166]?.getD undef) X ph := hV 35 _ 166 rfl rfl (Pred.waits_near (by kernel_rfl) (by kernel_rfl))
                  exact Pred.yields_run (v := .pointer (some ⟨bq, 0, none⟩)) ((Pred.wanted_at (g := 35) (d := 166) (f := false) rfl rfl r166).trans rfl) (by go_simp) ⟨Below.refl _ _, rfl, Nat.zero_le _⟩
                · intro b9 X ph hE hd hn hS hV hI hF
                  have r4 : b9.tmps[4]?.getD undef = .slice (some ⟨ab, ao, none⟩) len4 cap4 := (hn 4 (by kernel_rfl)).trans rfl
                  obtain ⟨r166, j166⟩ : PredT.At 0 (.bool false) (b9.tmps[166]?.getD undef) X ph := hV 35 _ 166 rfl rfl (Pred.waits_near (by kernel_rfl) (by kernel_rfl))
                  exact Pred.yields_run (v := .slice (some ⟨ab, ao, none⟩) len4 cap4) ((Pred.wanted_at (g := 35) (d := 166) (f := false) rfl rfl r166).trans rfl) (by go_simp) ⟨Below.refl _ _, rfl, Nat.zero_le _⟩
                · intro b9 X ph hE hd hn hS hV hI hF
                  have r28 : b9.tmps[28]?.getD undef = .int .i64 i := (hn 28 (by kernel_rfl)).trans rfl
                  obtain ⟨r166, j166⟩ : PredT.At 0 (.bool false) (b9.tmps[166]?.getD undef) X ph := hV 35 _ 166 rfl rfl (Pred.waits_near (by kernel_rfl) (by kernel_rfl))
                  exact Pred.yields_run (v := .int .i64 i) ((Pred.wanted_at (g := 35) (d := 166) (f := false) rfl rfl r166).trans rfl) (by go_simp) ⟨Below.refl _ _, rfl, Nat.zero_le _⟩
                · intro b9 X ph hE hd hn hS hV hI hF
                  obtain ⟨r175, j175⟩ : PredT.At 0 (.slice (some ⟨ab, ao, none⟩) len4 cap4) (b9.tmps[175]?.getD undef) X ph := hV 44 _ 175 rfl rfl (Pred.waits_near (by kernel_rfl) (by kernel_rfl))
                  obtain ⟨r176, j176⟩ : PredT.At 0 (.int .i64 i) (b9.tmps[176]?.getD undef) X ph := hV 45 _ 176 rfl rfl (Pred.waits_near (by kernel_rfl) (by kernel_rfl))
                  obtain ⟨r166, j166⟩ : PredT.At 0 (.bool false) (b9.tmps[166]?.getD undef) X ph := hV 35 _ 166 rfl rfl (Pred.waits_near (by kernel_rfl) (by kernel_rfl))
                  exact Pred.yields_run (v := .pointer (some ⟨ab, ao + i * 3, none⟩)) ((Pred.wanted_at (g := 35) (d := 166) (f := false) rfl rfl r166).trans rfl) (by go_simp) ⟨Below.refl _ _, rfl, Nat.zero_le _⟩
                · intro b9 X ph hE hd hn hS hV hI hF
                  obtain ⟨r177, j177⟩ : PredT.At 0 (.pointer (some ⟨ab, ao + i * 3, none⟩)) (b9.tmps[177]?.getD undef) X ph := hV 46 _ 177 rfl rfl (Pred.waits_near (by kernel_rfl) (by kernel_rfl))
                  obtain ⟨r166, j166⟩ : PredT.At 0 (.bool false) (b9.tmps[166]?.getD undef) X ph := hV 35 _ 166 rfl rfl (Pred.waits_near (by kernel_rfl) (by kernel_rfl))
                  exact Pred.yields_run (v := .pointer (some ⟨ab, ao + i * 3, none⟩)) ((Pred.wanted_at (g := 35) (d := 166) (f := false) rfl rfl r166).trans rfl) (by go_simp) ⟨Below.refl _ _, rfl, Nat.zero_le _⟩
                · intro b9 X ph hE hd hn hS hV hI hF
                  obtain ⟨r178, j178⟩ : PredT.At 0 (.pointer (some ⟨ab, ao + i * 3, none⟩)) (b9.tmps[178]?.getD undef) X ph := hV 47 _ 178 rfl rfl (Pred.waits_near (by kernel_rfl) (by kernel_rfl))
                  obtain ⟨r166, j166⟩ : PredT.At 0 (.bool false) (b9.tmps[166]?.getD undef) X ph := hV 35 _ 166 rfl rfl (Pred.waits_near (by kernel_rfl) (by kernel_rfl))
                  have z9 := (hE.cell (p := ⟨ab, ao + i * 3, none⟩) lA).trans y0
                  exact Pred.yields_run (v := .int .i64 z0) ((Pred.wanted_at (g := 35) (d := 166) (f := false) rfl rfl r166).trans rfl) (by go_simp) ⟨Below.refl _ _, rfl, Nat.zero_le _⟩
                · intro b9 X ph hE hd hn hS hV hI hF
                  obtain ⟨r174, j174⟩ : PredT.At 0 (.pointer (some ⟨bq, 0, none⟩)) (b9.tmps[174]?.getD undef) X ph := hV 43 _ 174 rfl rfl (Pred.waits_near (by kernel_rfl) (by kernel_rfl))
                  obtain ⟨r179, j179⟩ : PredT.At 0 (.int .i64 z0) (b9.tmps[179]?.getD undef) X ph := hV 48 _ 179 rfl rfl (Pred.waits_near (by kernel_rfl) (by kernel_rfl))
                  obtain ⟨r166, j166⟩ : PredT.At 0 (.bool false) (b9.tmps[166]?.getD undef) X ph := hV 35 _ 166 rfl rfl (Pred.waits_near (by kernel_rfl) (by kernel_rfl))
                  refine Pred.yields_call (f := 20) (args := #[.pointer (some ⟨bq, 0, none⟩), .int .i64 z0]) ((Pred.wanted_at (g := 35) (d := 166) (f := false) rfl rfl r166).trans rfl) (by go_simp) ?_
                  refine (CT.out X (hRz.below hE)).mono ?_
                  rintro e w9 ⟨rfl, hb⟩
                  exact ⟨_, rfl, hb, rfl, Nat.zero_le _⟩
                · intro b9 X ph hE hd hn hS hV hI hF
                  obtain ⟨r173, j173⟩ : PredT.At 0 (.int .i64 s) (b9.tmps[173]?.getD undef) X ph := hV 42 _ 173 rfl rfl (Pred.waits_near (by kernel_rfl) (by kernel_rfl))
                  obtain ⟨r180, j180⟩ : PredT.At 0 (.int .i64 s) (b9.tmps[180]?.getD undef) X ph := hV 49 _ 180 rfl rfl (Pred.waits_near (by kernel_rfl) (by kernel_rfl))
                  obtain ⟨r166, j166⟩ : PredT.At 0 (.bool false) (b9.tmps[166]?.getD undef) X ph := hV 35 _ 166 rfl rfl (Pred.waits_near (by kernel_rfl) (by kernel_rfl))
                  exact Pred.yields_run (v := .bool false) ((Pred.wanted_at (g := 35) (d := 166) (f := false) rfl rfl r166).trans rfl) (by go_simp) ⟨Below.refl _ _, rfl, Nat.zero_le _⟩
                · intro b9 X ph hE hd hn hS hV hI hF
                  obtain ⟨r166, j166⟩ : PredT.At 0 (.bool false) (b9.tmps[166]?.getD undef) X ph := hV 35 _ 166 rfl rfl (Pred.waits_near (by kernel_rfl) (by kernel_rfl))
                  obtain ⟨r181, j181⟩ : PredT.At 0 (.bool false) (b9.tmps[181]?.getD undef) X ph := hV 50 _ 181 rfl rfl (Pred.waits_near (by kernel_rfl) (by kernel_rfl))
                  exact Pred.yields_run (v := .bool false) (Pred.wanted_none rfl) (by go_simp) ⟨Below.refl _ _, rfl, Nat.zero_le _⟩
                · intro b9 X ph hE hd hn hS hV hI hF
                  obtain ⟨r182, j182⟩ : PredT.At 0 (.bool false) (b9.tmps[182]?.getD undef) X ph := hV 51 _ 182 rfl rfl (Pred.waits_near (by kernel_rfl) (by kernel_rfl))
                  exact Pred.yields_run (v := .bool false) (Pred.wanted_none rfl) (by go_simp) ⟨Below.refl _ _, rfl, Nat.zero_le _⟩
                · intro b9 X ph hE hd hn hS hV hI hF
                  have r27 : b9.tmps[27]?.getD undef = .pointer none := (hn 27 (by kernel_rfl)).trans rfl
                  obtain ⟨r183, j183⟩ : PredT.At 0 (.bool false) (b9.tmps[183]?.getD undef) X ph := hV 52 _ 183 rfl rfl (Pred.waits_near (by kernel_rfl) (by kernel_rfl))
                  exact Pred.yields_run (v := .pointer none) ((Pred.wanted_at (g := 52) (d := 183) (f := false) rfl rfl r183).trans rfl) (by go_simp) ⟨Below.refl _ _, rfl, Nat.zero_le _⟩
                · intro b9 X ph hE hd hn hS hV hI hF
                  obtain ⟨r184, j184⟩ : PredT.At 0 (.pointer none) (b9.tmps[184]?.getD undef) X ph := hV 53 _ 184 rfl rfl (Pred.waits_near (by kernel_rfl) (by kernel_rfl))
                  obtain ⟨r183, j183⟩ : PredT.At 0 (.bool false) (b9.tmps[183]?.getD undef) X ph := hV 52 _ 183 rfl rfl (Pred.waits_near (by kernel_rfl) (by kernel_rfl))
                  exact Pred.yields_run (v := .bool false) ((Pred.wanted_at (g := 52) (d := 183) (f := false) rfl rfl r183).trans rfl) (by go_simp) ⟨Below.refl _ _, rfl, Nat.zero_le _⟩
                · intro b9 X ph hE hd hn hS hV hI hF
                  obtain ⟨r185, j185⟩ : PredT.At 0 (.bool false) (b9.tmps[185]?.getD undef) X ph := hV 54 _ 185 rfl rfl (Pred.waits_near (by kernel_rfl) (by kernel_rfl))
                  obtain ⟨r183, j183⟩ : PredT.At 0 (.bool false) (b9.tmps[183]?.getD undef) X ph := hV 52 _ 183 rfl rfl (Pred.waits_near (by kernel_rfl) (by kernel_rfl))
                  exact Pred.yields_run (v := .bool false) ((Pred.wanted_at (g := 52) (d := 183) (f := false) rfl rfl r183).trans rfl) (by go_simp) ⟨Below.refl _ _, rfl, Nat.zero_le _⟩
                · intro b9 X ph hE hd hn hS hV hI hF
                  obtain ⟨r186, j186⟩ : PredT.At 0 (.bool false) (b9.tmps[186]?.getD undef) X ph := hV 55 _ 186 rfl rfl (Pred.waits_near (by kernel_rfl) (by kernel_rfl))
                  exact Pred.yields_not ((Pred.wanted_at (g := 55) (d := 186) (f := true) rfl rfl r186).trans rfl) ⟨Below.refl _ _, rfl, Nat.zero_le _⟩
                · intro b9 X ph hE hd hn hS hV hI hF
                  obtain ⟨r186, j186⟩ : PredT.At 0 (.bool false) (b9.tmps[186]?.getD undef) X ph := hV 55 _ 186 rfl rfl (Pred.waits_near (by kernel_rfl) (by kernel_rfl))
                  exact Pred.yields_not ((Pred.wanted_at (g := 55) (d := 186) (f := true) rfl rfl r186).trans rfl) ⟨Below.refl _ _, rfl, Nat.zero_le _⟩
                · intro b9 X ph hE hd hn hS hV hI hF
                  obtain ⟨r186, j186⟩ : PredT.At 0 (.bool false) (b9.tmps[186]?.getD undef) X ph := hV 55 _ 186 rfl rfl (Pred.waits_near (by kernel_rfl) (by kernel_rfl))
                  exact Pred.yields_not ((Pred.wanted_at (g := 55) (d := 186) (f := true) rfl rfl r186).trans rfl) ⟨Below.refl _ _, rfl, Nat.zero_le _⟩
                · intro b9 X ph hE hd hn hS hV hI hF
                  obtain ⟨r186, j186⟩ : PredT.At 0 (.bool false) (b9.tmps[186]?.getD undef) X ph := hV 55 _ 186 rfl rfl (Pred.waits_near (by kernel_rfl) (by kernel_rfl))
                  exact Pred.yields_not ((Pred.wanted_at (g := 55) (d := 186) (f := true) rfl rfl r186).trans rfl) ⟨Below.refl _ _, rfl, Nat.zero_le _⟩
                · intro b9 X ph hE hd hn hS hV hI hF
                  obtain ⟨r186, j186⟩ : PredT.At 0 (.bool false) (b9.tmps[186]?.getD undef) X ph := hV 55 _ 186 rfl rfl (Pred.waits_near (by kernel_rfl) (by kernel_rfl))
                  exact Pred.yields_not ((Pred.wanted_at (g := 55) (d := 186) (f := true) rfl rfl r186).trans rfl) ⟨Below.refl _ _, rfl, Nat.zero_le _⟩
                · intro b9 X ph hE hd hn hS hV hI hF
                  obtain ⟨r186, j186⟩ : PredT.At 0 (.bool false) (b9.tmps[186]?.getD undef) X ph := hV 55 _ 186 rfl rfl (Pred.waits_near (by kernel_rfl) (by kernel_rfl))
                  exact Pred.yields_not ((Pred.wanted_at (g := 55) (d := 186) (f := true) rfl rfl r186).trans rfl) ⟨Below.refl _ _, rfl, Nat.zero_le _⟩
                · intro b9 X ph hE hd hn hS hV hI hF
                  obtain ⟨r186, j186⟩ : PredT.At 0 (.bool false) (b9.tmps[186]?.getD undef) X ph := hV 55 _ 186 rfl rfl (Pred.waits_near (by kernel_rfl) (by kernel_rfl))
                  exact Pred.yields_not ((Pred.wanted_at (g := 55) (d := 186) (f := true) rfl rfl r186).trans rfl) ⟨Below.refl _ _, rfl, Nat.zero_le _⟩
                · intro b9 X ph hE hd hn hS hV hI hF
                  obtain ⟨r186, j186⟩ : PredT.At 0 (.bool false) (b9.tmps[186]?.getD undef) X ph := hV 55 _ 186 rfl rfl (Pred.waits_near (by kernel_rfl) (by kernel_rfl))
                  exact Pred.yields_not ((Pred.wanted_at (g := 55) (d := 186) (f := true) rfl rfl r186).trans rfl) ⟨Below.refl _ _, rfl, Nat.zero_le _⟩
                · intro b9 X ph hE hd hn hS hV hI hF
                  obtain ⟨r186, j186⟩ : PredT.At 0 (.bool false) (b9.tmps[186]?.getD undef) X ph := hV 55 _ 186 rfl rfl (Pred.waits_near (by kernel_rfl) (by kernel_rfl))
                  exact Pred.yields_not ((Pred.wanted_at (g := 55) (d := 186) (f := true) rfl rfl r186).trans rfl) ⟨Below.refl _ _, rfl, Nat.zero_le _⟩
                · intro b9 X ph hE hd hn hS hV hI hF
                  obtain ⟨r186, j186⟩ : PredT.At 0 (.bool false) (b9.tmps[186]?.getD undef) X ph := hV 55 _ 186 rfl rfl (Pred.waits_near (by kernel_rfl) (by kernel_rfl))
                  exact Pred.yields_not ((Pred.wanted_at (g := 55) (d := 186) (f := true) rfl rfl r186).trans rfl) ⟨Below.refl _ _, rfl, Nat.zero_le _⟩
                · intro b9 X ph hE hd hn hS hV hI hF
                  obtain ⟨r186, j186⟩ : PredT.At 0 (.bool false) (b9.tmps[186]?.getD undef) X ph := hV 55 _ 186 rfl rfl (Pred.waits_near (by kernel_rfl) (by kernel_rfl))
                  exact Pred.yields_not ((Pred.wanted_at (g := 55) (d := 186) (f := true) rfl rfl r186).trans rfl) ⟨Below.refl _ _, rfl, Nat.zero_le _⟩
                · intro b9 X ph hE hd hn hS hV hI hF
                  obtain ⟨r186, j186⟩ : PredT.At 0 (.bool false) (b9.tmps[186]?.getD undef) X ph := hV 55 _ 186 rfl rfl (Pred.waits_near (by kernel_rfl) (by kernel_rfl))
                  exact Pred.yields_not ((Pred.wanted_at (g := 55) (d := 186) (f := true) rfl rfl r186).trans rfl) ⟨Below.refl _ _, rfl, Nat.zero_le _⟩
                · intro b9 X ph hE hd hn hS hV hI hF
                  obtain ⟨r186, j186⟩ : PredT.At 0 (.bool false) (b9.tmps[186]?.getD undef) X ph := hV 55 _ 186 rfl rfl (Pred.waits_near (by kernel_rfl) (by kernel_rfl))
                  exact Pred.yields_not ((Pred.wanted_at (g := 55) (d := 186) (f := true) rfl rfl r186).trans rfl) ⟨Below.refl _ _, rfl, Nat.zero_le _⟩
                · intro b9 X ph hE hd hn hS hV hI hF
                  obtain ⟨r186, j186⟩ : PredT.At 0 (.bool false) (b9.tmps[186]?.getD undef) X ph := hV 55 _ 186 rfl rfl (Pred.waits_near (by kernel_rfl) (by kernel_rfl))
                  exact Pred.yields_not ((Pred.wanted_at (g := 55) (d := 186) (f := true) rfl rfl r186).trans rfl) ⟨Below.refl _ _, rfl, Nat.zero_le _⟩
                · intro b9 X ph hE hd hn hS hV hI hF
                  obtain ⟨r186, j186⟩ : PredT.At 0 (.bool false) (b9.tmps[186]?.getD undef) X ph := hV 55 _ 186 rfl rfl (Pred.waits_near (by kernel_rfl) (by kernel_rfl))
                  exact Pred.yields_not ((Pred.wanted_at (g := 55) (d := 186) (f := true) rfl rfl r186).trans rfl) ⟨Below.refl _ _, rfl, Nat.zero_le _⟩
                · intro b9 X ph hE hd hn hS hV hI hF
                  obtain ⟨r186, j186⟩ : PredT.At 0 (.bool false) (b9.tmps[186]?.getD undef) X ph := hV 55 _ 186 rfl rfl (Pred.waits_near (by kernel_rfl) (by kernel_rfl))
                  exact Pred.yields_not ((Pred.wanted_at (g := 55) (d := 186) (f := true) rfl rfl r186).trans rfl) ⟨Below.refl _ _, rfl, Nat.zero_le _⟩
                · intro b9 X ph hE hd hn hS hV hI hF
                  obtain ⟨r186, j186⟩ : PredT.At 0 (.bool false) (b9.tmps[186]?.getD undef) X ph := hV 55 _ 186 rfl rfl (Pred.waits_near (by kernel_rfl) (by kernel_rfl))
                  exact Pred.yields_not ((Pred.wanted_at (g := 55) (d := 186) (f := true) rfl rfl r186).trans rfl) ⟨Below.refl _ _, rfl, Nat.zero_le _⟩
                · intro b9 X ph hE hd hn hS hV hI hF
                  obtain ⟨r186, j186⟩ : PredT.At 0 (.bool false) (b9.tmps[186]?.getD undef) X ph := hV 55 _ 186 rfl rfl (Pred.waits_near (by kernel_rfl) (by kernel_rfl))
                  exact Pred.yields_not ((Pred.wanted_at (g := 55) (d := 186) (f := true) rfl rfl r186).trans rfl) ⟨Below.refl _ _, rfl, Nat.zero_le _⟩
                · intro b9 X ph hE hd hn hS hV hI hF
                  obtain ⟨r186, j186⟩ : PredT.At 0 (.bool false) (b9.tmps[186]?.getD undef) X ph := hV 55 _ 186 rfl rfl (Pred.waits_near (by kernel_rfl) (by kernel_rfl))
                  exact Pred.yields_not ((Pred.wanted_at (g := 55) (d := 186) (f := true) rfl rfl r186).trans rfl) ⟨Below.refl _ _, rfl, Nat.zero_le _⟩
                · intro b9 X ph hE hd hn hS hV hI hF
                  obtain ⟨r186, j186⟩ : PredT.At 0 (.bool false) (b9.tmps[186]?.getD undef) X ph := hV 55 _ 186 rfl rfl (Pred.waits_near (by kernel_rfl) (by kernel_rfl))
                  exact Pred.yields_not ((Pred.wanted_at (g := 55) (d := 186) (f := true) rfl rfl r186).trans rfl) ⟨Below.refl _ _, rfl, Nat.zero_le _⟩
                · intro b9 X ph hE hd hn hS hV hI hF
                  obtain ⟨r186, j186⟩ : PredT.At 0 (.bool false) (b9.tmps[186]?.getD undef) X ph := hV 55 _ 186 rfl rfl (Pred.waits_near (by kernel_rfl) (by kernel_rfl))
                  exact Pred.yields_not ((Pred.wanted_at (g := 55) (d := 186) (f := true) rfl rfl r186).trans rfl) ⟨Below.refl _ _, rfl, Nat.zero_le _⟩
                · intro b9 X ph hE hd hn hS hV hI hF
                  obtain ⟨r186, j186⟩ : PredT.At 0 (.bool false) (b9.tmps[186]?.getD undef) X ph := hV 55 _ 186 rfl rfl (Pred.waits_near (by kernel_rfl) (by kernel_rfl))
                  exact Pred.yields_not ((Pred.wanted_at (g := 55) (d := 186) (f := true) rfl rfl r186).trans rfl) ⟨Below.refl _ _, rfl, Nat.zero_le _⟩
                · intro b9 X ph hE hd hn hS hV hI hF
                  obtain ⟨r186, j186⟩ : PredT.At 0 (.bool false) (b9.tmps[186]?.getD undef) X ph := hV 55 _ 186 rfl rfl (Pred.waits_near (by kernel_rfl) (by kernel_rfl))
                  exact Pred.yields_not ((Pred.wanted_at (g := 55) (d := 186) (f := true) rfl rfl r186).trans rfl) ⟨Below.refl _ _, rfl, Nat.zero_le _⟩
                · intro b9 X ph hE hd hn hS hV hI hF
                  obtain ⟨r186, j186⟩ : PredT.At 0 (.bool false) (b9.tmps[186]?.getD undef) X ph := hV 55 _ 186 rfl rfl (Pred.waits_near (by kernel_rfl) (by kernel_rfl))
                  exact Pred.yields_not ((Pred.wanted_at (g := 55) (d := 186) (f := true) rfl rfl r186).trans rfl) ⟨Below.refl _ _, rfl, Nat.zero_le _⟩
                · intro b9 X ph hE hd hn hS hV hI hF
                  obtain ⟨r186, j186⟩ : PredT.At 0 (.bool false) (b9.tmps[186]?.getD undef) X ph := hV 55 _ 186 rfl rfl (Pred.waits_near (by kernel_rfl) (by kernel_rfl))
                  exact Pred.yields_not ((Pred.wanted_at (g := 55) (d := 186) (f := true) rfl rfl r186).trans rfl) ⟨Below.refl _ _, rfl, Nat.zero_le _⟩
                · intro b9 X ph hE hd hn hS hV hI hF
                  obtain ⟨r186, j186⟩ : PredT.At 0 (.bool false) (b9.tmps[186]?.getD undef) X ph := hV 55 _ 186 rfl rfl (Pred.waits_near (by kernel_rfl) (by kernel_rfl))
                  exact Pred.yields_not ((Pred.wanted_at (g := 55) (d := 186) (f := true) rfl rfl r186).trans rfl) ⟨Below.refl _ _, rfl, Nat.zero_le _⟩
                · intro b9 X ph hE hd hn hS hV hI hF
                  obtain ⟨r186, j186⟩ : PredT.At 0 (.bool false) (b9.tmps[186]?.getD undef) X ph := hV 55 _ 186 rfl rfl (Pred.waits_near (by kernel_rfl) (by kernel_rfl))
                  exact Pred.yields_not ((Pred.wanted_at (g := 55) (d := 186) (f := true) rfl rfl r186).trans rfl) ⟨Below.refl _ _, rfl, Nat.zero_le _⟩
                · intro b9 X ph hE hd hn hS hV hI hF
                  obtain ⟨r186, j186⟩ : PredT.At 0 (.bool false) (b9.tmps[186]?.getD undef) X ph := hV 55 _ 186 rfl rfl (Pred.waits_near (by kernel_rfl) (by kernel_rfl))
                  exact Pred.yields_not ((Pred.wanted_at (g := 55) (d := 186) (f := true) rfl rfl r186).trans rfl) ⟨Below.refl _ _, rfl, Nat.zero_le _⟩
                · intro b9 X ph hE hd hn hS hV hI hF
                  obtain ⟨r186, j186⟩ : PredT.At 0 (.bool false) (b9.tmps[186]?.getD undef) X ph := hV 55 _ 186 rfl rfl (Pred.waits_near (by kernel_rfl) (by kernel_rfl))
                  exact Pred.yields_not ((Pred.wanted_at (g := 55) (d := 186) (f := true) rfl rfl r186).trans rfl) ⟨Below.refl _ _, rfl, Nat.zero_le _⟩
                · intro b9 X ph hE hd hn hS hV hI hF
                  obtain ⟨r186, j186⟩ : PredT.At 0 (.bool false) (b9.tmps[186]?.getD undef) X ph := hV 55 _ 186 rfl rfl (Pred.waits_near (by kernel_rfl) (by kernel_rfl))
                  exact Pred.yields_not ((Pred.wanted_at (g := 55) (d := 186) (f := true) rfl rfl r186).trans rfl) ⟨Below.refl _ _, rfl, Nat.zero_le _⟩
                · intro b9 X ph hE hd hn hS hV hI hF
                  obtain ⟨r186, j186⟩ : PredT.At 0 (.bool false) (b9.tmps[186]?.getD undef) X ph := hV 55 _ 186 rfl rfl (Pred.waits_near (by kernel_rfl) (by kernel_rfl))
                  exact Pred.yields_not ((Pred.wanted_at (g := 55) (d := 186) (f := true) rfl rfl r186).trans rfl) ⟨Below.refl _ _, rfl, Nat.zero_le _⟩
                · intro b9 X ph hE hd hn hS hV hI hF
                  obtain ⟨r186, j186⟩ : PredT.At 0 (.bool false) (b9.tmps[186]?.getD undef) X ph := hV 55 _ 186 rfl rfl (Pred.waits_near (by kernel_rfl) (by kernel_rfl))
                  exact Pred.yields_not ((Pred.wanted_at (g := 55) (d := 186) (f := true) rfl rfl r186).trans rfl) ⟨Below.refl _ _, rfl, Nat.zero_le _⟩
                · intro b9 X ph hE hd hn hS hV hI hF
                  obtain ⟨r186, j186⟩ : PredT.At 0 (.bool false) (b9.tmps[186]?.getD undef) X ph := hV 55 _ 186 rfl rfl (Pred.waits_near (by kernel_rfl) (by kernel_rfl))
                  exact Pred.yields_not ((Pred.wanted_at (g := 55) (d := 186) (f := true) rfl rfl r186).trans rfl) ⟨Below.refl _ _, rfl, Nat.zero_le _⟩
                · intro b9 X ph hE hd hn hS hV hI hF
                  obtain ⟨r186, j186⟩ : PredT.At 0 (.bool false) (b9.tmps[186]?.getD undef) X ph := hV 55 _ 186 rfl rfl (Pred.waits_near (by kernel_rfl) (by kernel_rfl))
                  exact Pred.yields_not ((Pred.wanted_at (g := 55) (d := 186) (f := true) rfl rfl r186).trans rfl) ⟨Below.refl _ _, rfl, Nat.zero_le _⟩
                · intro b9 X ph hE hd hn hS hV hI hF
                  obtain ⟨r186, j186⟩ : PredT.At 0 (.bool false) (b9.tmps[186]?.getD undef) X ph := hV 55 _ 186 rfl rfl (Pred.waits_near (by kernel_rfl) (by kernel_rfl))
                  exact Pred.yields_not ((Pred.wanted_at (g := 55) (d := 186) (f := true) rfl rfl r186).trans rfl) ⟨Below.refl _ _, rfl, Nat.zero_le _⟩
                · intro b9 X ph hE hd hn hS hV hI hF
                  obtain ⟨r186, j186⟩ : PredT.At 0 (.bool false) (b9.tmps[186]?.getD undef) X ph := hV 55 _ 186 rfl rfl (Pred.waits_near (by kernel_rfl) (by kernel_rfl))
                  obtain ⟨r221, j221⟩ : PredT.At 0 (undef) (b9.tmps[221]?.getD undef) X ph := hV 90 _ 221 rfl rfl (Pred.waits_near (by kernel_rfl) (by kernel_rfl))
                  obtain ⟨r183, j183⟩ : PredT.At 0 (.bool false) (b9.tmps[183]?.getD undef) X ph := hV 52 _ 183 rfl rfl (Pred.waits_near (by kernel_rfl) (by kernel_rfl))
                  exact Pred.yields_run (v := .bool false) ((Pred.wanted_at (g := 52) (d := 183) (f := false) rfl rfl r183).trans rfl) (by go_simp) ⟨Below.refl _ _, rfl, Nat.zero_le _⟩
                · intro b9 X ph hE hd hn hS hV hI hF
                  obtain ⟨r183, j183⟩ : PredT.At 0 (.bool false) (b9.tmps[183]?.getD undef) X ph := hV 52 _ 183 rfl rfl (Pred.waits_near (by kernel_rfl) (by kernel_rfl))
                  obtain ⟨r222, j222⟩ : PredT.At 0 (.bool false) (b9.tmps[222]?.getD undef) X ph := hV 91 _ 222 rfl rfl (Pred.waits_near (by kernel_rfl) (by kernel_rfl))
                  exact Pred.yields_run (v := .bool false) (Pred.wanted_none rfl) (by go_simp) ⟨Below.refl _ _, rfl, Nat.zero_le _⟩
              · trivial
              intro v X hE hS hv
              replace hS : (fun _ => True) X := hS
              have e0 : v 0 = .pointer (some ⟨bm, 0, none⟩) := (hv 0 _ 131 rfl rfl).1
              have e1 : v 1 = .slice (some ⟨ab, ao, none⟩) len4 cap4 := (hv 1 _ 132 rfl rfl).1
              have e2 : v 2 = .int .i64 i := (hv 2 _ 133 rfl rfl).1
              have e3 : v 3 = .pointer (some ⟨ab, ao + i * 3, none⟩) := (hv 3 _ 134 rfl rfl).1
              have e4 : v 4 = .pointer (some ⟨ab, ao + i * 3, none⟩) := (hv 4 _ 135 rfl rfl).1
              have e5 : v 5 = .int .i64 z0 := (hv 5 _ 136 rfl rfl).1
              have e6 : v 6 = .slice (some ⟨ab, ao, none⟩) len4 cap4 := (hv 6 _ 137 rfl rfl).1
              have e7 : v 7 = .int .i64 i := (hv 7 _ 138 rfl rfl).1
              have e8 : v 8 = .pointer (some ⟨ab, ao + i * 3, none⟩) := (hv 8 _ 139 rfl rfl).1
              have e9 : v 9 = .pointer (some ⟨ab, ao + i * 3 + 1, none⟩) := (hv 9 _ 140 rfl rfl).1
              have e10 : v 10 = .int .i64 z1 := (hv 10 _ 141 rfl rfl).1
              have e11 : v 11 = .slice (some ⟨ab, ao, none⟩) len4 cap4 := (hv 11 _ 142 rfl rfl).1
              have e12 : v 12 = .int .i64 i := (hv 12 _ 143 rfl rfl).1
              have e13 : v 13 = .pointer (some ⟨ab, ao + i * 3, none⟩) := (hv 13 _ 144 rfl rfl).1
              have e14 : v 14 = .pointer (some ⟨ab, ao + i * 3 + 2, none⟩) := (hv 14 _ 145 rfl rfl).1
              have e15 : v 15 = .int .i64 z2 := (hv 15 _ 146 rfl rfl).1
              have e16 : v 16 = p.v := (hv 16 _ 147 rfl rfl).1
              have e17 : v 17 = .pointer (some ⟨bq, 0, none⟩) := (hv 17 _ 148 rfl rfl).1
              have e18 : v 18 = .slice (some ⟨ab, ao, none⟩) len4 cap4 := (hv 18 _ 149 rfl rfl).1
              have e19 : v 19 = .int .i64 i := (hv 19 _ 150 rfl rfl).1
              have e20 : v 20 = .pointer (some ⟨ab, ao + i * 3, none⟩) := (hv 20 _ 151 rfl rfl).1
              have e21 : v 21 = .pointer (some ⟨ab, ao + i * 3, none⟩) := (hv 21 _ 152 rfl rfl).1
              have e22 : v 22 = .int .i64 z0 := (hv 22 _ 153 rfl rfl).1
              have e23 : v 23 = .slice (some ⟨ab, ao, none⟩) len4 cap4 := (hv 23 _ 154 rfl rfl).1
              have e24 : v 24 = .int .i64 i := (hv 24 _ 155 rfl rfl).1
              have e25 : v 25 = .pointer (some ⟨ab, ao + i * 3, none⟩) := (hv 25 _ 156 rfl rfl).1
              have e26 : v 26 = .pointer (some ⟨ab, ao + i * 3 + 1, none⟩) := (hv 26 _ 157 rfl rfl).1
              have e27 : v 27 = .int .i64 z1 := (hv 27 _ 158 rfl rfl).1
              have e28 : v 28 = .slice (some ⟨ab, ao, none⟩) len4 cap4 := (hv 28 _ 159 rfl rfl).1
              have e29 : v 29 = .int .i64 i := (hv 29 _ 160 rfl rfl).1
              have e30 : v 30 = .pointer (some ⟨ab, ao + i * 3, none⟩) := (hv 30 _ 161 rfl rfl).1
              have e31 : v 31 = .pointer (some ⟨ab, ao + i * 3 + 2, none⟩) := (hv 31 _ 162 rfl rfl).1
              have e32 : v 32 = .int .i64 z2 := (hv 32 _ 163 rfl rfl).1
              have e33 : v 33 = p.v := (hv 33 _ 164 rfl rfl).1
              have e34 : v 34 = .bool false := (hv 34 _ 165 rfl rfl).1
              have e35 : v 35 = .bool false := (hv 35 _ 166 rfl rfl).1
              have e36 : v 36 = .pointer (some ⟨bm, 0, none⟩) := (hv 36 _ 167 rfl rfl).1
              have e37 : v 37 = .slice (some ⟨ab, ao, none⟩) len4 cap4 := (hv 37 _ 168 rfl rfl).1
              have e38 : v 38 = .int .i64 i := (hv 38 _ 169 rfl rfl).1
              have e39 : v 39 = .pointer (some ⟨ab, ao + i * 3, none⟩) := (hv 39 _ 170 rfl rfl).1
              have e40 : v 40 = .pointer (some ⟨ab, ao + i * 3, none⟩) := (hv 40 _ 171 rfl rfl).1
              have e41 : v 41 = .int .i64 z0 := (hv 41 _ 172 rfl rfl).1
              have e42 : v 42 = .int .i64 s := (hv 42 _ 173 rfl rfl).1
              have e43 : v 43 = .pointer (some ⟨bq, 0, none⟩) := (hv 43 _ 174 rfl rfl).1
              have e44 : v 44 = .slice (some ⟨ab, ao, none⟩) len4 cap4 := (hv 44 _ 175 rfl rfl).1
              have e45 : v 45 = .int .i64 i := (hv 45 _ 176 rfl rfl).1
              have e46 : v 46 = .pointer (some ⟨ab, ao + i * 3, none⟩) := (hv 46 _ 177 rfl rfl).1
              have e47 : v 47 = .pointer (some ⟨ab, ao + i * 3, none⟩) := (hv 47 _ 178 rfl rfl).1
              have e48 : v 48 = .int .i64 z0 := (hv 48 _ 179 rfl rfl).1
              have e49 : v 49 = .int .i64 s := (hv 49 _ 180 rfl rfl).1
              have e50 : v 50 = .bool false := (hv 50 _ 181 rfl rfl).1
              have e51 : v 51 = .bool false := (hv 51 _ 182 rfl rfl).1
              have e52 : v 52 = .bool false := (hv 52 _ 183 rfl rfl).1
              have e53 : v 53 = .pointer none := (hv 53 _ 184 rfl rfl).1
              have e54 : v 54 = .bool false := (hv 54 _ 185 rfl rfl).1
              have e55 : v 55 = .bool false := (hv 55 _ 186 rfl rfl).1
              have e56 : v 56 = undef := (hv 56 _ 187 rfl rfl).1
              have e57 : v 57 = undef := (hv 57 _ 188 rfl rfl).1
              have e58 : v 58 = undef := (hv 58 _ 189 rfl rfl).1
              have e59 : v 59 = undef := (hv 59 _ 190 rfl rfl).1
              have e60 : v 60 = undef := (hv 60 _ 191 rfl rfl).1
              have e61 : v 61 = undef := (hv 61 _ 192 rfl rfl).1
              have e62 : v 62 = undef := (hv 62 _ 193 rfl rfl).1
              have e63 : v 63 = undef := (hv 63 _ 194 rfl rfl).1
              have e64 : v 64 = undef := (hv 64 _ 195 rfl rfl).1
              have e65 : v 65 = undef := (hv 65 _ 196 rfl rfl).1
              have e66 : v 66 = undef := (hv 66 _ 197 rfl rfl).1
              have e67 : v 67 = undef := (hv 67 _ 198 rfl rfl).1
              have e68 : v 68 = undef := (hv 68 _ 199 rfl rfl).1
              have e69 : v 69 = undef := (hv 69 _ 200 rfl rfl).1
              have e70 : v 70 = undef := (hv 70 _ 201 rfl rfl).1
              have e71 : v 71 = undef := (hv 71 _ 202 rfl rfl).1
              have e72 : v 72 = undef := (hv 72 _ 203 rfl rfl).1
              have e73 : v 73 = undef := (hv 73 _ 204 rfl rfl).1
              have e74 : v 74 = undef := (hv 74 _ 205 rfl rfl).1
              have e75 : v 75 = undef := (hv 75 _ 206 rfl rfl).1
              have e76 : v 76 = undef := (hv 76 _ 207 rfl rfl).1
              have e77 : v 77 = undef := (hv 77 _ 208 rfl rfl).1
              have e78 : v 78 = undef := (hv 78 _ 209 rfl rfl).1
              have e79 : v 79 = undef := (hv 79 _ 210 rfl rfl).1
              have e80 : v 80 = undef := (hv 80 _ 211 rfl rfl).1
              have e81 : v 81 = undef := (hv 81 _ 212 rfl rfl).1
              have e82 : v 82 = undef := (hv 82 _ 213 rfl rfl).1
              have e83 : v 83 = undef := (hv 83 _ 214 rfl rfl).1
              have e84 : v 84 = undef := (hv 84 _ 215 rfl rfl).1
              have e85 : v 85 = undef := (hv 85 _ 216 rfl rfl).1
              have e86 : v 86 = undef := (hv 86 _ 217 rfl rfl).1
              have e87 : v 87 = undef := (hv 87 _ 218 rfl rfl).1
              have e88 : v 88 = undef := (hv 88 _ 219 rfl rfl).1
              have e89 : v 89 = undef := (hv 89 _ 220 rfl rfl).1
              have e90 : v 90 = undef := (hv 90 _ 221 rfl rfl).1
              have e91 : v 91 = .bool false := (hv 91 _ 222 rfl rfl).1
              have e92 : v 92 = .bool false := (hv 92 _ 223 rfl rfl).1
              simp only [Pred.putsF_cons, Pred.putsF_nil, Nat.zero_add, Nat.reduceAdd, e0, e1, e2, e3, e4, e5, e6, e7, e8, e9, e10, e11, e12, e13, e14, e15, e16, e17, e18, e19, e20, e21, e22, e23, e24, e25, e26, e27, e28, e29, e30, e31, e32, e33, e34, e35, e36, e37, e38, e39, e40, e41, e42, e43, e44, e45, e46, e47, e48, e49, e50, e51, e52, e53, e54, e55, e56, e57, e58, e59, e60, e61, e62, e63, e64, e65, e66, e67, e68, e69, e70, e71, e72, e73, e74, e75, e76, e77, e78, e79, e80, e81, e82, e83, e84, e85, e86, e87, e88, e89, e90, e91, e92, Act.put, List.setIfInBounds_toArray, List.set_cons_zero, List.set_cons_succ]
              clear e0 e1 e2 e3 e4 e5 e6 e7 e8 e9 e10 e11 e12 e13 e14 e15 e16 e17 e18 e19 e20 e21 e22 e23 e24 e25 e26 e27 e28 e29 e30 e31 e32 e33 e34 e35 e36 e37 e38 e39 e40 e41 e42 e43 e44 e45 e46 e47 e48 e49 e50 e51 e52 e53 e54 e55 e56 e57 e58 e59 e60 e61 e62 e63 e64 e65 e66 e67 e68 e69 e70 e71 e72 e73 e74 e75 e76 e77 e78 e79 e80 e81 e82 e83 e84 e85 e86 e87 e88 e89 e90 e91 e92 hv
              have bX : Below v2.heap.size v2 X := hbz.trans (hE.mono hbz.size)
              clear hE hPz hRz y0 y1 y2
              go_wp2
              exact ⟨⟨i + 1, by omega, by go_num, bX⟩, by simp [intOf]; omega⟩
            · obtain rfl : i = len4 := by omega
              have bZ : Below Y.heap.size Y Z := b7'.trans (hbz.mono b7'.size)
              obtain ⟨u0, u1, u2, hRt⟩ := HCE.out Z bZ
              have hPz := hPv.below hbz
              have hRz := hRv.below hbz
              have hlz : w.heap.size < Z.heap.size := by have := bZ.size; omega
              have hn6 : n ≤ 1000000 := by omega
              go_upto_region 22 with (fail)
              refine PredT.region_of (W := Z) (Z.heap.size) (Nat.le_refl _) [] [
                  fun _ => True] [
                  PredT.At 0 (.pointer (some ⟨bm, 0, none⟩)),
                  PredT.When 0 (fun u y => ∃ g c : Nat, u = .agg #[.int .i64 D, .bool wr, .slice (some ⟨g, 0, none⟩) n c] ∧ Reads y 4 (some ⟨g, 0, none⟩) n (cp ts)),
                  PredT.At 0 (.agg #[.int .i64 D, .bool wr, .slice (some ⟨gb, go9, none⟩) n c]),
                  PredT.At 0 (.bool true),
                  PredT.At 0 (.bool false),
                  PredT.At 0 (.bool false),
                  PredT.At 0 (.pointer (some ⟨bm, 0, none⟩)),
                  PredT.At 0 (.int .i64 D),
                  PredT.At 0 (.pointer (some ⟨w.heap.size, 0, none⟩)),
                  PredT.At 0 (.int .i64 D),
                  PredT.At 0 (.bool false),
                  PredT.At 0 (.bool false),
                  PredT.At 0 (.bool false),
                  PredT.At 0 (.pointer (some ⟨bm, 0, none⟩)),
                  PredT.At 0 (.bool wr),
                  PredT.At 0 (.pointer (some ⟨w.heap.size, 1, none⟩)),
                  PredT.At 0 (.bool wr),
                  PredT.At 0 (.bool false),
                  PredT.At 0 (.bool false),
                  PredT.At 0 (.bool false),
                  PredT.At 0 (.pointer none),
                  PredT.At 0 (.bool false),
                  PredT.At 0 (.bool false),
                  PredT.At 0 (undef),
                  PredT.At 0 (undef),
                  PredT.At 0 (undef),
                  PredT.At 0 (undef),
                  PredT.At 0 (undef),
                  PredT.At 0 (undef),
                  PredT.At 0 (undef),
                  PredT.At 0 (undef),
                  PredT.At 0 (.bool false),
                  PredT.At 0 (.bool false)] (by kernel_rfl) (by kernel_rfl) (by kernel_rfl) (by decide) (by decide) ?_ ?_ ?_ ?_ ?_ ?_
              · exact ⟨PredT.at_stab _ _ _ _, PredT.when_stab _ _ _ (fun u y y' ⟨g, c, h1, h2⟩ hb => ⟨g, c, h1, h2.below hb (Nat.le_refl _)⟩), PredT.at_stab _ _ _ _, PredT.at_stab _ _ _ _, PredT.at_stab _ _ _ _, PredT.at_stab _ _ _ _, PredT.at_stab _ _ _ _, PredT.at_stab _ _ _ _, PredT.at_stab _ _ _ _, PredT.at_stab _ _ _ _, PredT.at_stab _ _ _ _, PredT.at_stab _ _ _ _, PredT.at_stab _ _ _ _, PredT.at_stab _ _ _ _, PredT.at_stab _ _ _ _, PredT.at_stab _ _ _ _, PredT.at_stab _ _ _ _, PredT.at_stab _ _ _ _, PredT.at_stab _ _ _ _, PredT.at_stab _ _ _ _, PredT.at_stab _ _ _ _, PredT.at_stab _ _ _ _, PredT.at_stab _ _ _ _, PredT.at_stab _ _ _ _, PredT.at_stab _ _ _ _, PredT.at_stab _ _ _ _, PredT.at_stab _ _ _ _, PredT.at_stab _ _ _ _, PredT.at_stab _ _ _ _, PredT.at_stab _ _ _ _, PredT.at_stab _ _ _ _, PredT.at_stab _ _ _ _, PredT.at_stab _ _ _ _, trivial⟩
              · intro q hq
                rcases List.mem_cons.1 hq with rfl | hq
                · exact fun _ _ h _ => trivial
                cases hq
              · exact trivial
              · refine ⟨.inr ?_, .inr ?_, .inr ?_, .inr ?_, .inr ?_, .inr ?_, .inr ?_, .inr ?_, .inr ?_, .inr ?_, .inr ?_, .inr ?_, .inr ?_, .inr ?_, .inr ?_, .inr ?_, .inr ?_, .inr ?_, .inr ?_, .inr ?_, .inr ?_, .inr ?_, .inr ?_, .inr ?_, .inr ?_, .inr ?_, .inr ?_, .inr ?_, .inr ?_, .inr ?_, .inr ?_, .inr ?_, .inr ?_, trivial⟩
                · intro b9 X ph hE hd hn hS hV hI hF
                  have r22 : b9.tmps[22]?.getD undef = .pointer (some ⟨bm, 0, none⟩) := (hn 22 (by kernel_rfl)).trans rfl
                  exact Pred.yields_run (v := .pointer (some ⟨bm, 0, none⟩)) (Pred.wanted_none rfl) (by go_simp) ⟨Below.refl _ _, rfl, Nat.zero_le _⟩
                · intro b9 X ph hE hd hn hS hV hI hF
                  obtain ⟨r224, j224⟩ : PredT.At 0 (.pointer (some ⟨bm, 0, none⟩)) (b9.tmps[224]?.getD undef) X ph := hV 0 _ 224 rfl rfl (Pred.waits_near (by kernel_rfl) (by kernel_rfl))
                  refine Pred.yields_call (f := 22) (args := #[.pointer (some ⟨bm, 0, none⟩)]) (Pred.wanted_none rfl) (by go_simp) ?_
                  refine (Texture_any X (hPz.below hE)).mono ?_
                  rintro e w9 ⟨⟨v9, rfl, ho⟩, hb⟩
                  rw [← HNN.out] at ho
                  obtain ⟨g9, c9, rfl, -, -, -, -, -⟩ := owns_pos ho hnp
                  exact ⟨_, rfl, hb, Nat.zero_le _, fun _ => ⟨g9, c9, rfl, Reads.of_owns ho⟩⟩
                · intro b9 X ph hE hd hn hS hV hI hF
                  have r10 : b9.tmps[10]?.getD undef = .pointer (some ⟨w.heap.size, 0, none⟩) := (hn 10 (by kernel_rfl)).trans rfl
                  have q0 := (hE.cell (p := ⟨w.heap.size, 0, none⟩) hlz).trans u0
                  have q1 := (hE.cell (p := ⟨w.heap.size, 1, none⟩) hlz).trans u1
                  have q2 := (hE.cell (p := ⟨w.heap.size, 2, none⟩) hlz).trans u2
                  exact Pred.yields_run (v := .agg #[.int .i64 D, .bool wr, .slice (some ⟨gb, go9, none⟩) n c]) (Pred.wanted_none rfl) (by go_simp) ⟨Below.refl _ _, rfl, Nat.zero_le _⟩
                · intro b9 X ph hE hd hn hS hV hI hF
                  obtain ⟨j225, r225⟩ : PredT.When 0 (fun u y => ∃ g c : Nat, u = .agg #[.int .i64 D, .bool wr, .slice (some ⟨g, 0, none⟩) n c] ∧ Reads y 4 (some ⟨g, 0, none⟩) n (cp ts)) (b9.tmps[225]?.getD undef) X ph := hV 1 _ 225 rfl rfl (Pred.waits_near (by kernel_rfl) (by kernel_rfl))
                  obtain ⟨r226, j226⟩ : PredT.At 0 (.agg #[.int .i64 D, .bool wr, .slice (some ⟨gb, go9, none⟩) n c]) (b9.tmps[226]?.getD undef) X ph := hV 2 _ 226 rfl rfl (Pred.waits_near (by kernel_rfl) (by kernel_rfl))
                  obtain ⟨g9, c9, hv9, hr9⟩ := r225 (by have := PredT.sel_le hS; simp at this; omega)
                  have r225e : b9.tmps[225]?.getD undef = .agg #[.int .i64 D, .bool wr, .slice (some ⟨g9, 0, none⟩) n c9] := hv9
                  refine Pred.yields_call (f := 21) (args := #[.agg #[.int .i64 D, .bool wr, .slice (some ⟨g9, 0, none⟩) n c9], .agg #[.int .i64 D, .bool wr, .slice (some ⟨gb, go9, none⟩) n c]]) (Pred.wanted_none rfl) (by go_simp) ?_
                  refine (tex_same D wr ⟨g9, 0, none⟩ _ n c9 _ _ X hr9 (hRt.below hE (Nat.le_refl _)) hn6 hD3).mono ?_
                  rintro e w9 ⟨rfl, hb⟩
                  exact ⟨_, rfl, hb, rfl, Nat.zero_le _⟩
                · intro b9 X ph hE hd hn hS hV hI hF
                  obtain ⟨r227, j227⟩ : PredT.At 0 (.bool true) (b9.tmps[227]?.getD undef) X ph := hV 3 _ 227 rfl rfl (Pred.waits_near (by kernel_rfl) (by kernel_rfl))
                  exact Pred.yields_run (v := .bool false) (Pred.wanted_none rfl) (by go_simp) ⟨Below.refl _ _, rfl, Nat.zero_le _⟩
                · intro b9 X ph hE hd hn hS hV hI hF
                  obtain ⟨r228, j228⟩ : PredT.At 0 (.bool false) (b9.tmps[228]?.getD undef) X ph := hV 4 _ 228 rfl rfl (Pred.waits_near (by kernel_rfl) (by kernel_rfl))
                  exact Pred.yields_run (v := .bool false) (Pred.wanted_none rfl) (by go_simp) ⟨Below.refl _ _, rfl, Nat.zero_le _⟩
                · intro b9 X ph hE hd hn hS hV hI hF
                  have r22 : b9.tmps[22]?.getD undef = .pointer (some ⟨bm, 0, none⟩) := (hn 22 (by kernel_rfl)).trans rfl
                  obtain ⟨r229, j229⟩ : PredT.At 0 (.bool false) (b9.tmps[229]?.getD undef) X ph := hV 5 _ 229 rfl rfl (Pred.waits_near (by kernel_rfl) (by kernel_rfl))
                  exact Pred.yields_run (v := .pointer (some ⟨bm, 0, none⟩)) ((Pred.wanted_at (g := 5) (d := 229) (f := false) rfl rfl r229).trans rfl) (by go_simp) ⟨Below.refl _ _, rfl, Nat.zero_le _⟩
                · intro b9 X ph hE hd hn hS hV hI hF
                  obtain ⟨r230, j230⟩ : PredT.At 0 (.pointer (some ⟨bm, 0, none⟩)) (b9.tmps[230]?.getD undef) X ph := hV 6 _ 230 rfl rfl (Pred.waits_near (by kernel_rfl) (by kernel_rfl))
                  obtain ⟨r229, j229⟩ : PredT.At 0 (.bool false) (b9.tmps[229]?.getD undef) X ph := hV 5 _ 229 rfl rfl (Pred.waits_near (by kernel_rfl) (by kernel_rfl))
                  refine Pred.yields_call (f := 23) (args := #[.pointer (some ⟨bm, 0, none⟩)]) ((Pred.wanted_at (g := 5) (d := 229) (f := false) rfl rfl r229).trans rfl) (by go_simp) ?_
                  refine (Depth_any X (hPz.below hE)).mono ?_
                  rintro e w9 ⟨rfl, rfl⟩
                  exact ⟨_, rfl, Below.refl _ _, rfl, Nat.zero_le _⟩
                · intro b9 X ph hE hd hn hS hV hI hF
                  have r10 : b9.tmps[10]?.getD undef = .pointer (some ⟨w.heap.size, 0, none⟩) := (hn 10 (by kernel_rfl)).trans rfl
                  obtain ⟨r229, j229⟩ : PredT.At 0 (.bool false) (b9.tmps[229]?.getD undef) X ph := hV 5 _ 229 rfl rfl (Pred.waits_near (by kernel_rfl) (by kernel_rfl))
                  exact Pred.yields_run (v := .pointer (some ⟨w.heap.size, 0, none⟩)) ((Pred.wanted_at (g := 5) (d := 229) (f := false) rfl rfl r229).trans rfl) (by go_simp) ⟨Below.refl _ _, rfl, Nat.zero_le _⟩
                · intro b9 X ph hE hd hn hS hV hI hF
                  obtain ⟨r232, j232⟩ : PredT.At 0 (.pointer (some ⟨w.heap.size, 0, none⟩)) (b9.tmps[232]?.getD undef) X ph := hV 8 _ 232 rfl rfl (Pred.waits_near (by kernel_rfl) (by kernel_rfl))
                  obtain ⟨r229, j229⟩ : PredT.At 0 (.bool false) (b9.tmps[229]?.getD undef) X ph := hV 5 _ 229 rfl rfl (Pred.waits_near (by kernel_rfl) (by kernel_rfl))
                  have q0 := (hE.cell (p := ⟨w.heap.size, 0, none⟩) hlz).trans u0
                  exact Pred.yields_run (v := .int .i64 D) ((Pred.wanted_at (g := 5) (d := 229) (f := false) rfl rfl r229).trans rfl) (by go_simp) ⟨Below.refl _ _, rfl, Nat.zero_le _⟩
                · intro b9 X ph hE hd hn hS hV hI hF
                  obtain ⟨r231, j231⟩ : PredT.At 0 (.int .i64 D) (b9.tmps[231]?.getD undef) X ph := hV 7 _ 231 rfl rfl (Pred.waits_near (by kernel_rfl) (by kernel_rfl))
                  obtain ⟨r233, j233⟩ : PredT.At 0 (.int .i64 D) (b9.tmps[233]?.getD undef) X ph := hV 9 _ 233 rfl rfl (Pred.waits_near (by kernel_rfl) (by kernel_rfl))
                  obtain ⟨r229, j229⟩ : PredT.At 0 (.bool false) (b9.tmps[229]?.getD undef) X ph := hV 5 _ 229 rfl rfl (Pred.waits_near (by kernel_rfl) (by kernel_rfl))
                  exact Pred.yields_run (v := .bool false) ((Pred.wanted_at (g := 5) (d := 229) (f := false) rfl rfl r229).trans rfl) (by go_simp) ⟨Below.refl _ _, rfl, Nat.zero_le _⟩
                · intro b9 X ph hE hd hn hS hV hI hF
                  obtain ⟨r229, j229⟩ : PredT.At 0 (.bool false) (b9.tmps[229]?.getD undef) X ph := hV 5 _ 229 rfl rfl (Pred.waits_near (by kernel_rfl) (by kernel_rfl))
                  obtain ⟨r234, j234⟩ : PredT.At 0 (.bool false) (b9.tmps[234]?.getD undef) X ph := hV 10 _ 234 rfl rfl (Pred.waits_near (by kernel_rfl) (by kernel_rfl))
                  exact Pred.yields_run (v := .bool false) (Pred.wanted_none rfl) (by go_simp) ⟨Below.refl _ _, rfl, Nat.zero_le _⟩
                · intro b9 X ph hE hd hn hS hV hI hF
                  obtain ⟨r235, j235⟩ : PredT.At 0 (.bool false) (b9.tmps[235]?.getD undef) X ph := hV 11 _ 235 rfl rfl (Pred.waits_near (by kernel_rfl) (by kernel_rfl))
                  exact Pred.yields_run (v := .bool false) (Pred.wanted_none rfl) (by go_simp) ⟨Below.refl _ _, rfl, Nat.zero_le _⟩
                · intro b9 X ph hE hd hn hS hV hI hF
                  have r22 : b9.tmps[22]?.getD undef = .pointer (some ⟨bm, 0, none⟩) := (hn 22 (by kernel_rfl)).trans rfl
                  obtain ⟨r236, j236⟩ : PredT.At 0 (.bool false) (b9.tmps[236]?.getD undef) X ph := hV 12 _ 236 rfl rfl (Pred.waits_near (by kernel_rfl) (by kernel_rfl))
                  exact Pred.yields_run (v := .pointer (some ⟨bm, 0, none⟩)) ((Pred.wanted_at (g := 12) (d := 236) (f := false) rfl rfl r236).trans rfl) (by go_simp) ⟨Below.refl _ _, rfl, Nat.zero_le _⟩
                · intro b9 X ph hE hd hn hS hV hI hF
                  obtain ⟨r237, j237⟩ : PredT.At 0 (.pointer (some ⟨bm, 0, none⟩)) (b9.tmps[237]?.getD undef) X ph := hV 13 _ 237 rfl rfl (Pred.waits_near (by kernel_rfl) (by kernel_rfl))
                  obtain ⟨r236, j236⟩ : PredT.At 0 (.bool false) (b9.tmps[236]?.getD undef) X ph := hV 12 _ 236 rfl rfl (Pred.waits_near (by kernel_rfl) (by kernel_rfl))
                  refine Pred.yields_call (f := 24) (args := #[.pointer (some ⟨bm, 0, none⟩)]) ((Pred.wanted_at (g := 12) (d := 236) (f := false) rfl rfl r236).trans rfl) (by go_simp) ?_
                  refine (Wrap_any X (hPz.below hE)).mono ?_
                  rintro e w9 ⟨rfl, rfl⟩
                  exact ⟨_, rfl, Below.refl _ _, rfl, Nat.zero_le _⟩
                · intro b9 X ph hE hd hn hS hV hI hF
                  have r10 : b9.tmps[10]?.getD undef = .pointer (some ⟨w.heap.size, 0, none⟩) := (hn 10 (by kernel_rfl)).trans rfl
                  obtain ⟨r236, j236⟩ : PredT.At 0 (.bool false) (b9.tmps[236]?.getD undef) X ph := hV 12 _ 236 rfl rfl (Pred.waits_near (by kernel_rfl) (by kernel_rfl))
                  exact Pred.yields_run (v := .pointer (some ⟨w.heap.size, 1, none⟩)) ((Pred.wanted_at (g := 12) (d := 236) (f := false) rfl rfl r236).trans rfl) (by go_simp) ⟨Below.refl _ _, rfl, Nat.zero_le _⟩
                · intro b9 X ph hE hd hn hS hV hI hF
                  obtain ⟨r239, j239⟩ : PredT.At 0 (.pointer (some ⟨w.heap.size, 1, none⟩)) (b9.tmps[239]?.getD undef) X ph := hV 15 _ 239 rfl rfl (Pred.waits_near (by kernel_rfl) (by kernel_rfl))
                  obtain ⟨r236, j236⟩ : PredT.At 0 (.bool false) (b9.tmps[236]?.getD undef) X ph := hV 12 _ 236 rfl rfl (Pred.waits_near (by kernel_rfl) (by kernel_rfl))
                  have q0 := (hE.cell (p := ⟨w.heap.size, 0, none⟩) hlz).trans u0
                  have q1 := (hE.cell (p := ⟨w.heap.size, 1, none⟩) hlz).trans u1
                  exact Pred.yields_run (v := .bool wr) ((Pred.wanted_at (g := 12) (d := 236) (f := false) rfl rfl r236).trans rfl) (by go_simp) ⟨Below.refl _ _, rfl, Nat.zero_le _⟩
                · intro b9 X ph hE hd hn hS hV hI hF
                  obtain ⟨r238, j238⟩ : PredT.At 0 (.bool wr) (b9.tmps[238]?.getD undef) X ph := hV 14 _ 238 rfl rfl (Pred.waits_near (by kernel_rfl) (by kernel_rfl))
                  obtain ⟨r240, j240⟩ : PredT.At 0 (.bool wr) (b9.tmps[240]?.getD undef) X ph := hV 16 _ 240 rfl rfl (Pred.waits_near (by kernel_rfl) (by kernel_rfl))
                  obtain ⟨r236, j236⟩ : PredT.At 0 (.bool false) (b9.tmps[236]?.getD undef) X ph := hV 12 _ 236 rfl rfl (Pred.waits_near (by kernel_rfl) (by kernel_rfl))
                  exact Pred.yields_run (v := .bool false) ((Pred.wanted_at (g := 12) (d := 236) (f := false) rfl rfl r236).trans rfl) (by go_simp) ⟨Below.refl _ _, rfl, Nat.zero_le _⟩
                · intro b9 X ph hE hd hn hS hV hI hF
                  obtain ⟨r236, j236⟩ : PredT.At 0 (.bool false) (b9.tmps[236]?.getD undef) X ph := hV 12 _ 236 rfl rfl (Pred.waits_near (by kernel_rfl) (by kernel_rfl))
                  obtain ⟨r241, j241⟩ : PredT.At 0 (.bool false) (b9.tmps[241]?.getD undef) X ph := hV 17 _ 241 rfl rfl (Pred.waits_near (by kernel_rfl) (by kernel_rfl))
                  exact Pred.yields_run (v := .bool false) (Pred.wanted_none rfl) (by go_simp) ⟨Below.refl _ _, rfl, Nat.zero_le _⟩
                · intro b9 X ph hE hd hn hS hV hI hF
                  obtain ⟨r242, j242⟩ : PredT.At 0 (.bool false) (b9.tmps[242]?.getD undef) X ph := hV 18 _ 242 rfl rfl (Pred.waits_near (by kernel_rfl) (by kernel_rfl))
                  exact Pred.yields_run (v := .bool false) (Pred.wanted_none rfl) (by go_simp) ⟨Below.refl _ _, rfl, Nat.zero_le _⟩
                · intro b9 X ph hE hd hn hS hV hI hF
                  have r27 : b9.tmps[27]?.getD undef = .pointer none := (hn 27 (by kernel_rfl)).trans rfl
                  obtain ⟨r243, j243⟩ : PredT.At 0 (.bool false) (b9.tmps[243]?.getD undef) X ph := hV 19 _ 243 rfl rfl (Pred.waits_near (by kernel_rfl) (by kernel_rfl))
                  exact Pred.yields_run (v := .pointer none) ((Pred.wanted_at (g := 19) (d := 243) (f := false) rfl rfl r243).trans rfl) (by go_simp) ⟨Below.refl _ _, rfl, Nat.zero_le _⟩
                · intro b9 X ph hE hd hn hS hV hI hF
                  obtain ⟨r244, j244⟩ : PredT.At 0 (.pointer none) (b9.tmps[244]?.getD undef) X ph := hV 20 _ 244 rfl rfl (Pred.waits_near (by kernel_rfl) (by kernel_rfl))
                  obtain ⟨r243, j243⟩ : PredT.At 0 (.bool false) (b9.tmps[243]?.getD undef) X ph := hV 19 _ 243 rfl rfl (Pred.waits_near (by kernel_rfl) (by kernel_rfl))
                  exact Pred.yields_run (v := .bool false) ((Pred.wanted_at (g := 19) (d := 243) (f := false) rfl rfl r243).trans rfl) (by go_simp) ⟨Below.refl _ _, rfl, Nat.zero_le _⟩
                · intro b9 X ph hE hd hn hS hV hI hF
                  obtain ⟨r245, j245⟩ : PredT.At 0 (.bool false) (b9.tmps[245]?.getD undef) X ph := hV 21 _ 245 rfl rfl (Pred.waits_near (by kernel_rfl) (by kernel_rfl))
                  obtain ⟨r243, j243⟩ : PredT.At 0 (.bool false) (b9.tmps[243]?.getD undef) X ph := hV 19 _ 243 rfl rfl (Pred.waits_near (by kernel_rfl) (by kernel_rfl))
                  exact Pred.yields_run (v := .bool false) ((Pred.wanted_at (g := 19) (d := 243) (f := false) rfl rfl r243).trans rfl) (by go_simp) ⟨Below.refl _ _, rfl, Nat.zero_le _⟩
                · intro b9 X ph hE hd hn hS hV hI hF
                  obtain ⟨r246, j246⟩ : PredT.At 0 (.bool false) (b9.tmps[246]?.getD undef) X ph := hV 22 _ 246 rfl rfl (Pred.waits_near (by kernel_rfl) (by kernel_rfl))
                  exact Pred.yields_not ((Pred.wanted_at (g := 22) (d := 246) (f := true) rfl rfl r246).trans rfl) ⟨Below.refl _ _, rfl, Nat.zero_le _⟩
                · intro b9 X ph hE hd hn hS hV hI hF
                  obtain ⟨r246, j246⟩ : PredT.At 0 (.bool false) (b9.tmps[246]?.getD undef) X ph := hV 22 _ 246 rfl rfl (Pred.waits_near (by kernel_rfl) (by kernel_rfl))
                  exact Pred.yields_not ((Pred.wanted_at (g := 22) (d := 246) (f := true) rfl rfl r246).trans rfl) ⟨Below.refl _ _, rfl, Nat.zero_le _⟩
                · intro b9 X ph hE hd hn hS hV hI hF
                  obtain ⟨r246, j246⟩ : PredT.At 0 (.bool false) (b9.tmps[246]?.getD undef) X ph := hV 22 _ 246 rfl rfl (Pred.waits_near (by kernel_rfl) (by kernel_rfl))
                  exact Pred.yields_not ((Pred.wanted_at (g := 22) (d := 246) (f := true) rfl rfl r246).trans rfl) ⟨Below.refl _ _, rfl, Nat.zero_le _⟩
                · intro b9 X ph hE hd hn hS hV hI hF
                  obtain ⟨r246, j246⟩ : PredT.At 0 (.bool false) (b9.tmps[246]?.getD undef) X ph := hV 22 _ 246 rfl rfl (Pred.waits_near (by kernel_rfl) (by kernel_rfl))
                  exact Pred.yields_not ((Pred.wanted_at (g := 22) (d := 246) (f := true) rfl rfl r246).trans rfl) ⟨Below.refl _ _, rfl, Nat.zero_le _⟩
                · intro b9 X ph hE hd hn hS hV hI hF
                  obtain ⟨r246, j246⟩ : PredT.At 0 (.bool false) (b9.tmps[246]?.getD undef) X ph := hV 22 _ 246 rfl rfl (Pred.waits_near (by kernel_rfl) (by kernel_rfl))
                  exact Pred.yields_not ((Pred.wanted_at (g := 22) (d := 246) (f := true) rfl rfl r246).trans rfl) ⟨Below.refl _ _, rfl, Nat.zero_le _⟩
                · intro b9 X ph hE hd hn hS hV hI hF
                  obtain ⟨r246, j246⟩ : PredT.At 0 (.bool false) (b9.tmps[246]?.getD undef) X ph := hV 22 _ 246 rfl rfl (Pred.waits_near (by kernel_rfl) (by kernel_rfl))
                  exact Pred.yields_not ((Pred.wanted_at (g := 22) (d := 246) (f := true) rfl rfl r246).trans rfl) ⟨Below.refl _ _, rfl, Nat.zero_le _⟩
                · intro b9 X ph hE hd hn hS hV hI hF
                  obtain ⟨r246, j246⟩ : PredT.At 0 (.bool false) (b9.tmps[246]?.getD undef) X ph := hV 22 _ 246 rfl rfl (Pred.waits_near (by kernel_rfl) (by kernel_rfl))
                  exact Pred.yields_not ((Pred.wanted_at (g := 22) (d := 246) (f := true) rfl rfl r246).trans rfl) ⟨Below.refl _ _, rfl, Nat.zero_le _⟩
                · intro b9 X ph hE hd hn hS hV hI hF
                  obtain ⟨r246, j246⟩ : PredT.At 0 (.bool false) (b9.tmps[246]?.getD undef) X ph := hV 22 _ 246 rfl rfl (Pred.waits_near (by kernel_rfl) (by kernel_rfl))
                  exact Pred.yields_not ((Pred.wanted_at (g := 22) (d := 246) (f := true) rfl rfl r246).trans rfl) ⟨Below.refl _ _, rfl, Nat.zero_le _⟩
                · intro b9 X ph hE hd hn hS hV hI hF
                  obtain ⟨r246, j246⟩ : PredT.At 0 (.bool false) (b9.tmps[246]?.getD undef) X ph := hV 22 _ 246 rfl rfl (Pred.waits_near (by kernel_rfl) (by kernel_rfl))
                  obtain ⟨r254, j254⟩ : PredT.At 0 (undef) (b9.tmps[254]?.getD undef) X ph := hV 30 _ 254 rfl rfl (Pred.waits_near (by kernel_rfl) (by kernel_rfl))
                  obtain ⟨r243, j243⟩ : PredT.At 0 (.bool false) (b9.tmps[243]?.getD undef) X ph := hV 19 _ 243 rfl rfl (Pred.waits_near (by kernel_rfl) (by kernel_rfl))
                  exact Pred.yields_run (v := .bool false) ((Pred.wanted_at (g := 19) (d := 243) (f := false) rfl rfl r243).trans rfl) (by go_simp) ⟨Below.refl _ _, rfl, Nat.zero_le _⟩
                · intro b9 X ph hE hd hn hS hV hI hF
                  obtain ⟨r243, j243⟩ : PredT.At 0 (.bool false) (b9.tmps[243]?.getD undef) X ph := hV 19 _ 243 rfl rfl (Pred.waits_near (by kernel_rfl) (by kernel_rfl))
                  obtain ⟨r255, j255⟩ : PredT.At 0 (.bool false) (b9.tmps[255]?.getD undef) X ph := hV 31 _ 255 rfl rfl (Pred.waits_near (by kernel_rfl) (by kernel_rfl))
                  exact Pred.yields_run (v := .bool false) (Pred.wanted_none rfl) (by go_simp) ⟨Below.refl _ _, rfl, Nat.zero_le _⟩
              · trivial
              intro v X hE hS hv
              replace hS : (fun _ => True) X := hS
              have e0 : v 0 = .pointer (some ⟨bm, 0, none⟩) := (hv 0 _ 224 rfl rfl).1
              generalize hg1 : v 1 = vv1
              have e2 : v 2 = .agg #[.int .i64 D, .bool wr, .slice (some ⟨gb, go9, none⟩) n c] := (hv 2 _ 226 rfl rfl).1
              have e3 : v 3 = .bool true := (hv 3 _ 227 rfl rfl).1
              have e4 : v 4 = .bool false := (hv 4 _ 228 rfl rfl).1
              have e5 : v 5 = .bool false := (hv 5 _ 229 rfl rfl).1
              have e6 : v 6 = .pointer (some ⟨bm, 0, none⟩) := (hv 6 _ 230 rfl rfl).1
              have e7 : v 7 = .int .i64 D := (hv 7 _ 231 rfl rfl).1
              have e8 : v 8 = .pointer (some ⟨w.heap.size, 0, none⟩) := (hv 8 _ 232 rfl rfl).1
              have e9 : v 9 = .int .i64 D := (hv 9 _ 233 rfl rfl).1
              have e10 : v 10 = .bool false := (hv 10 _ 234 rfl rfl).1
              have e11 : v 11 = .bool false := (hv 11 _ 235 rfl rfl).1
              have e12 : v 12 = .bool false := (hv 12 _ 236 rfl rfl).1
              have e13 : v 13 = .pointer (some ⟨bm, 0, none⟩) := (hv 13 _ 237 rfl rfl).1
              have e14 : v 14 = .bool wr := (hv 14 _ 238 rfl rfl).1
              have e15 : v 15 = .pointer (some ⟨w.heap.size, 1, none⟩) := (hv 15 _ 239 rfl rfl).1
              have e16 : v 16 = .bool wr := (hv 16 _ 240 rfl rfl).1
              have e17 : v 17 = .bool false := (hv 17 _ 241 rfl rfl).1
              have e18 : v 18 = .bool false := (hv 18 _ 242 rfl rfl).1
              have e19 : v 19 = .bool false := (hv 19 _ 243 rfl rfl).1
              have e20 : v 20 = .pointer none := (hv 20 _ 244 rfl rfl).1
              have e21 : v 21 = .bool false := (hv 21 _ 245 rfl rfl).1
              have e22 : v 22 = .bool false := (hv 22 _ 246 rfl rfl).1
              have e23 : v 23 = undef := (hv 23 _ 247 rfl rfl).1
              have e24 : v 24 = undef := (hv 24 _ 248 rfl rfl).1
              have e25 : v 25 = undef := (hv 25 _ 249 rfl rfl).1
              have e26 : v 26 = undef := (hv 26 _ 250 rfl rfl).1
              have e27 : v 27 = undef := (hv 27 _ 251 rfl rfl).1
              have e28 : v 28 = undef := (hv 28 _ 252 rfl rfl).1
              have e29 : v 29 = undef := (hv 29 _ 253 rfl rfl).1
              have e30 : v 30 = undef := (hv 30 _ 254 rfl rfl).1
              have e31 : v 31 = .bool false := (hv 31 _ 255 rfl rfl).1
              have e32 : v 32 = .bool false := (hv 32 _ 256 rfl rfl).1
              simp only [Pred.putsF_cons, Pred.putsF_nil, Nat.zero_add, Nat.reduceAdd, e0, hg1, e2, e3, e4, e5, e6, e7, e8, e9, e10, e11, e12, e13, e14, e15, e16, e17, e18, e19, e20, e21, e22, e23, e24, e25, e26, e27, e28, e29, e30, e31, e32, Act.put, List.setIfInBounds_toArray, List.set_cons_zero, List.set_cons_succ]
              clear e0 hg1 e2 e3 e4 e5 e6 e7 e8 e9 e10 e11 e12 e13 e14 e15 e16 e17 e18 e19 e20 e21 e22 e23 e24 e25 e26 e27 e28 e29 e30 e31 e32 hv
              have bX : Below Y.heap.size Y X := bZ.trans (hE.mono bZ.size)
              have HN9 := Lib.hid (HT2.out.below bX)
              have hBN := hb2.trans (bX.mono hb2.size)
              clear hE hPz hRz u0 u1 u2 hRt bZ hbz HA4 HCE
              go_wp2
              exact ⟨⟨t + 1, by omega, by go_num, HN9, hBN⟩, by simp [intOf]; omega⟩
    · obtain rfl : t = 2 := by omega
      clear HT
      go_wp2_with fail
      refine (MpU.awake_any _).mono ?_
      rintro e w10 ⟨rfl, hb10⟩
      go_wp2
      go_ret
      exact ⟨rfl, by repeat' (first | (with_reducible exact Below.refl _ _) | (with_reducible refine Rd.below_step ?_ (by assumption)) | (with_reducible refine Rd.below_alloc ?_ _) | (with_reducible refine Rd.below_drewN ?_ _) | (with_reducible refine Below.drew ?_) | (with_reducible refine Below.setCell ?_ ?_ _) | (with_reducible refine Rd.below_setRow ?_ ?_ _) | go_size | (simp only [World.size_alloc]; omega) | omega)⟩
end Go.Proofs.Ytdjiblgnealmkaa.MtB

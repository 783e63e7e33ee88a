/-
  wainscotref17: Paint, exactly.
-/
import Derived.Test.YtkklppjimnkibaaMpG
import Derived.Test.YtkklppjimnkibaaTwA
namespace Go.Proofs.Ytkklppjimnkibaa.TwP
open Go.RowKit Rd Go.Proofs.Ytkklppjimnkibaa.Row Mid DkM HueA MpM MpA MpB MpC MpD MpE MpF MpG
open TwA
open Ints (i64s In64)
set_option linter.unusedVariables false
set_option linter.unusedSimpArgs false
set_option maxRecDepth 10000
variable {X Y : World} {B tb : Nat} {H : Value → Array Value} {T : TypeId} {v u : Value} {ts : List Px}
/-- a struct with a row of texels of its own -/
structure Tp (X : World) (B tb : Nat) (H : Value → Array Value) (T : TypeId) (v : Value) (ts : List Px) : Prop where
  lo : B ≤ tb
  head : blk X tb = some (.cells (H v) T (0, 0))
  row : X.ownsRow B 97 4 v ts.length (cp ts)
theorem Tp.below (h : Tp X B tb H T v ts) (hb : Below X.heap.size X Y) : Tp Y B tb H T v ts := ⟨h.lo, (blk_below hb _ (blk_lt h.head)).trans h.head, owns_below' h.row hb⟩
theorem Tp.grown (h : Tp X B tb H T v ts) (hg : X.grownBy Y v.ownBlock) (hT : T ≠ 97) : blk Y tb = some (.cells (H v) T (0, 0)) :=
  (hg.block tb (blk_lt h.head) (fun e => by
    obtain ⟨cur2, h9⟩ := own_type h.row e.symm
    have := h9.symm.trans (show X.heap[tb]? = _ from h.head)
    cases this
    exact hT rfl)).trans h.head
theorem Tp.st {o : Nat} (hb : blk X tb = some (.cells (H v) T (0, 0))) (hr : X.ownsRow B 97 4 u ts.length (cp ts)) (hB : B ≤ tb) (hT : T ≠ 97) (hH : ∀ v u, (H v).setIfInBounds o u = H u) : Tp (X.setCell ⟨tb, o, none⟩ u) B tb H T u ts := by
  refine ⟨hB, by rw [← hH v u]; exact blk_set X tb o u _ _ hb, own_keep hr fun k hk => heap_setCell_other _ _ _ _ (fun e => ?_)⟩
  have e9 : k = tb := e
  obtain ⟨cur, hc⟩ := own_type hr hk
  rw [e9] at hc
  have := hc.symm.trans (show X.heap[tb]? = _ from hb)
  cases this
  exact hT rfl
/-- the n-th colour -/
def shadeP (n : Int) : Px := ⟨n % 16777216 * 37 % 256, (n % 16777216 * 11 + 5) % 256, n % 16777216 * (n % 16777216) % 256, 255 - n % 16777216 % 3⟩
def pxX (r : Int) (zs : List Int) (n k : Nat) : Px := if r = 0 then shadeP (atX zs k 1000) else if r = 1 then shadeP (((k : Int) % n / 3 + ((k / n : Nat) : Int) / 2) % 5) else if r = 2 then ⟨(k : Int) % n * 8, ((k / n : Nat) : Int) * 8 % 256, bits BinOp.xor IntKind.i64 ((k : Int) % n) ((k / n : Nat) : Int) % 256, 255⟩ else shadeP 7
def paintL (r : Int) (zs : List Int) (n k : Nat) : List Px := (List.range k).map (pxX r zs n)
theorem paint_0 (r : Int) (zs : List Int) (n : Nat) : paintL r zs n 0 = [] := rfl
theorem paint_succ (r : Int) (zs : List Int) (n k : Nat) : paintL r zs n (k + 1) = paintL r zs n k ++ [pxX r zs n k] := by simp [paintL, List.range_succ]
theorem paint_len (r : Int) (zs : List Int) (n k : Nat) : (paintL r zs n k).length = k := by simp [paintL]
abbrev texH (D : Nat) (wr : Bool) : Value → Array Value := fun v => #[.int .i64 D, .bool wr, v]
attribute [local go_sem ↓] load_tex store_tex load_col store_col alloc_col
attribute [local go_sem] Px.c_size Px.c_all c_all4 fold_px run_load_tex run_store_tex run_alloc_col run_store_col rowStore_eq rowLoad_eq one_int one_bool blk_alloc_at blk_alloc_old blk_drew blk_drewN blk_grow setRow_alloc_at setRow_alloc_old setRow_drew setRow_drewN
set_option maxHeartbeats 8000000 in
theorem shade_p (n : Int) (w : World) (h1 : -9223372036854775808 ≤ n) (h2 : n ≤ 9223372036854775807) :
    Calls Try.prog 52 #[.int .i64 n] w fun e w' => (∃ p : Px, e = .returned p.v ∧ ((p.B ∧ p = shadeP n))) ∧ Below w.heap.size w w' := by
  have C := Lib.hid fun X => round_x n 16777216 X h1 h2 (by omega) (by omega)
  unfold shadeP
  have k1 := Int.emod_nonneg n (b := 16777216) (by omega)
  have k2 := Int.emod_lt_of_pos n (b := 16777216) (by omega)
  obtain ⟨k, hk⟩ : ∃ k : Nat, n % 16777216 = k := ⟨(n % 16777216).toNat, by omega⟩
  have hk1 : k < 16777216 := by omega
  rw [hk] at C ⊢
  obtain ⟨q, hq⟩ : ∃ q, k * k = q := ⟨_, rfl⟩
  have hq1 : (k : Int) * (k : Int) = (q : Int) := by exact_mod_cast hq
  have hq2 : q ≤ 16777216 * 16777216 := by rw [← hq]; exact Nat.mul_le_mul (by omega) (by omega)
  rw [hq1]
  clear hk k1 k2 hq
  go_enter Try.func52, Try.ntmps52
  go_wp2_with fail
  refine (C.out _).mono ?_
  rintro e _ ⟨rfl, rfl⟩
  go_wp2_with fail
  exact ret_px rfl w.heap.size ⟨(k : Int) * 37 % 256, ((k : Int) * 11 + 5) % 256, (q : Int) % 256, 255 - (k : Int) % 3⟩ rfl (blk_alloc_at _ _ _ rfl) rfl ⟨⟨_, rfl, by unfold Px.B B8; simp only; omega, rfl⟩, by repeat' (first | (with_reducible exact Below.refl _ _) | (with_reducible refine Rd.below_step ?_ (by assumption)) | (with_reducible refine Rd.below_alloc ?_ _) | (with_reducible refine Rd.below_drewN ?_ _) | (with_reducible refine Below.drew ?_) | (with_reducible refine Below.setCell ?_ ?_ _) | (with_reducible refine Rd.below_setRow ?_ ?_ _) | go_size | (simp only [World.size_alloc]; omega) | omega)⟩
set_option maxHeartbeats 8000000 in
theorem Paint_x (d : Int) (wr : Bool) (a : Option Addr) (len cap : Nat) (zs : List Int) (w : World) (hd1 : -9223372036854775808 ≤ d) (hd2 : d ≤ 9223372036854775807) (hzr : Reads w 1 a len (i64s zs)) (hz : ∀ z ∈ zs, In64 z) (hlen : len ≤ 1000000) :
    Calls Try.prog 26 #[.int .i64 d, .bool wr, .slice a len cap] w fun e w' => (∃ (D : Nat) (u : Value) (ts : List Px), (d % 4 = D) ∧ D ≤ 3 ∧ e = .returned (.agg #[.int .i64 D, .bool wr, u]) ∧ ts = paintL (atX zs 0 4) zs (sd D) (sd D * sd D) ∧ RB ts ∧ w'.ownsRow w.heap.size 97 4 u (sd D * sd D) (cp ts)) ∧ Below w.heap.size w w' := by
  have CR := Lib.hid fun X => round_x d 4 X hd1 hd2 (by omega) (by omega)
  obtain ⟨D, hD⟩ : ∃ D : Nat, d % 4 = D := ⟨(d % 4).toNat, by omega⟩
  have hD3 : D ≤ 3 := by omega
  rw [hD] at CR
  have HD := Lib.hid hD
  obtain ⟨n, hn⟩ : ∃ n, n = sd D := ⟨_, rfl⟩
  have hsh : (4 : Int) * 2 ^ D = (n : Int) := by
    rw [hn]
    rcases (show D = 0 ∨ D = 1 ∨ D = 2 ∨ D = 3 by omega) with rfl | rfl | rfl | rfl <;> rfl
  have hn2 : n ≤ 32 := by rw [hn]; exact sd_le hD3
  have hn4 : 4 ≤ n := by rw [hn]; exact sd_pos D
  obtain ⟨q, hq⟩ : ∃ q, n * n = q := ⟨_, rfl⟩
  have hq1 : (n : Int) * (n : Int) = (q : Int) := by exact_mod_cast hq
  have hq2 : q ≤ 1024 := by rw [← hq]; exact sq_le hn2
  have HQ := Lib.hid (show q = sd D * sd D by rw [← hq, hn])
  have hD0 : ¬ (D : Int) < 0 := by omega
  have HN := Lib.hid hn
  clear hn hq hD hd1 hd2
  go_enter Try.func26, Try.ntmps26
  go_wp2_with fail
  refine (CR.out _).mono ?_
  rintro e _ ⟨rfl, rfl⟩
  go_upto_region 3 with (fail)
  refine Rd.name_world ?_
  intro W hW
  have hR0 : blk W w.heap.size = some (.cells #[.int .i64 0, .bool false, .slice none 0 0] 62 (0, 0)) := by rw [hW]; exact blk2_0 _ _ _
  have hT0 : Tp W (w.heap.size + 1) (w.heap.size + 1) (texH D wr) 62 (.slice none 0 0) [] := ⟨Nat.le_refl _, by rw [hW]; exact blk2_1 _ _ _, World.ownsRow_nil _ _ _ _⟩
  have L1 : Below w.heap.size w W := by rw [hW]; repeat' (first | (with_reducible exact Below.refl _ _) | (with_reducible refine Rd.below_step ?_ (by assumption)) | (with_reducible refine Rd.below_alloc ?_ _) | (with_reducible refine Rd.below_drewN ?_ _) | (with_reducible refine Below.drew ?_) | (with_reducible refine Below.setCell ?_ ?_ _) | (with_reducible refine Rd.below_setRow ?_ ?_ _) | go_size | (simp only [World.size_alloc]; omega) | omega)
  have hWs : w.heap.size + 1 < W.heap.size := blk_lt hT0.head
  clear hW CR
  go_wp2_with fail
  refine (at_x a len cap 0 4 zs W (hzr.below L1 (Nat.le_refl _)) hz hlen (by omega) (by omega) (by omega)).mono ?_
  rintro e w2 ⟨rfl, hb2⟩
  obtain ⟨r, hr⟩ : ∃ r, atX zs 0 4 = r := ⟨_, rfl⟩
  have hrb := atX_bd zs 0 (n := 4) (by decide)
  rw [hr] at hrb ⊢
  obtain ⟨hr0, hr4⟩ := hrb
  have HR := Lib.hid hr
  clear hr
  have hT1 := Lib.hid (hT0.below hb2)
  have hR1 := (blk_below hb2 _ (by omega)).trans hR0
  have L2 : Below w.heap.size w w2 := by repeat' (first | (with_reducible exact Below.refl _ _) | (with_reducible refine Rd.below_step ?_ (by assumption)) | (with_reducible refine Rd.below_alloc ?_ _) | (with_reducible refine Rd.below_drewN ?_ _) | (with_reducible refine Below.drew ?_) | (with_reducible refine Below.setCell ?_ ?_ _) | (with_reducible refine Rd.below_setRow ?_ ?_ _) | go_size | (simp only [World.size_alloc]; omega) | omega)
  have hs2 := hb2.size
  clear hT0 hR0 L1 hb2
  go_wp2_with fail
  go_loopw [10] (fun i Y => ∃ k : Nat, k ≤ q ∧ i = .int .i64 k ∧ Hid (∃ ts v, ts = paintL r zs n k ∧ RB ts ∧ Tp Y (w.heap.size + 1) (w.heap.size + 1) (texH D wr) 62 v ts) ∧ Below (w.heap.size + 1) w2 Y) (fun i _ => q - (intOf i).toNat)
  case atStart => exact ⟨0, by omega, rfl, Lib.hid ⟨[], _, rfl, fun p hp => (by cases hp), hT1.out⟩, Below.refl _ _⟩
  case round =>
    obtain ⟨k, hk, rfl, HB, HL⟩ := hrel
    rename World => Y
    clear hT1
    have hBW := HL.size
    by_cases hlt : k < q
    · have hlt' : (k : Int) < (q : Int) := by omega
      obtain ⟨ts, v0, htp, hRB, hT⟩ := HB.out
      have hts : ts.length = k := by rw [htp, paint_len]
      have HTP := Lib.hid htp
      clear htp
      have hBW : w.heap.size + 1 ≤ Y.heap.size := by omega
      have hBt : w.heap.size + 1 ≤ w.heap.size + 1 := Nat.le_refl _
      have hZX := fun X (hE : Below (w.heap.size + 1) Y X) => hzr.below (L2.trans ((HL.trans hE).mono (Nat.le_succ _))) (Nat.le_refl _)
      obtain ⟨y, hy⟩ : ∃ y, y = k / n := ⟨_, rfl⟩
      have e4 : ((k : Int)) / (n : Int) = (y : Int) := by rw [hy]; simp
      have hx2 : (k : Int) % n < n := Int.emod_lt_of_pos _ (by omega)
      have hx1 : 0 ≤ (k : Int) % n := Int.emod_nonneg _ (by omega)
      have hy2 : y ≤ k := by rw [hy]; exact Nat.div_le_self _ _
      have h0' : ¬ (n : Int) = 0 := by omega
      have hp9 : (0 : Int) < (n : Int) := by omega
      have hk2 : ts.length ≤ 1024 := by omega
      have hk3 : k ≤ 1024 := by omega
      have HY := Lib.hid hy
      clear hy HB
      have fin : ∀ (X : World) (v2 : Value) (p : Px), (p.B ∧ p = pxX r zs n k) → Tp X (w.heap.size + 1) (w.heap.size + 1) (texH D wr) 62 v2 (ts ++ [p]) → ∃ ts v, ts = paintL r zs n (k + 1) ∧ RB ts ∧ Tp X (w.heap.size + 1) (w.heap.size + 1) (texH D wr) 62 v ts :=
        fun X v2 p hp hT => ⟨ts ++ [p], v2, by rw [HTP.out, paint_succ, hp.2], fun z hz => (List.mem_append.1 hz).elim (hRB z) (fun h => by simp at h; subst h; exact hp.1), hT⟩
      have FIN := Lib.hid fin
      clear fin hts
      rcases (show r = 0 ∨ r = 1 ∨ r = 2 ∨ r = 3 by omega) with rfl | rfl | rfl | rfl
      · go_upto_region 7 with (fail)
        (refine wp_region_quiet_below (by kernel_rfl) (by kernel_rfl) ?_; (repeat (go_big_quiet_step ((fail)))); refine wpQuiet_nil ?_)
        intro w3 hU
        have KU := Rd.below_of_regrown hU
        have hT3 := hT.below KU
        have L3' : Below (w.heap.size + 1) w2 w3 := HL.trans (KU.mono hBW)
        replace hZX := fun X (hE : Below (w.heap.size + 1) w3 X) => hZX X ((KU.mono hBW).trans hE)
        replace HL := L3'
        replace hT := hT3
        replace hBW := HL.size
        replace hBW : w.heap.size + 1 ≤ w3.heap.size := by omega
        clear hU hT3 L3' KU
        go_upto_region 11 with (fail)
        refine PredT.region_of (W := w3) ((w.heap.size + 1)) hBW [7, 9] [
            fun y9 => Tp y9 (w.heap.size + 1) (w.heap.size + 1) (texH D wr) 62 v0 ts,
            fun y9 => blk y9 (w.heap.size + 1) = some (.cells ((texH D wr) v0) 62 (0, 0)),
            fun y9 => ∃ (v2 : Value) (p : Px), (p.B ∧ p = (pxX 0 zs n k)) ∧ Tp y9 (w.heap.size + 1) (w.heap.size + 1) (texH D wr) 62 v2 (ts ++ [p])] [
            PredT.At 0 (.pointer (some ⟨(w.heap.size + 1), 2, none⟩)),
            PredT.At 0 (v0),
            PredT.At 0 (.slice a len cap),
            PredT.At 0 (.int .i64 k),
            PredT.When 0 (fun u _ => ∃ z : Int, u = .int .i64 z ∧ 0 ≤ z ∧ (z < 1000 ∧ z = atX zs k 1000)),
            PredT.When 0 (fun u _ => ∃ p : Px, u = p.v ∧ (p.B ∧ p = (pxX 0 zs n k))),
            PredT.When 0 (fun u y9 => ∃ p : Px, (p.B ∧ p = (pxX 0 zs n k)) ∧ OnePx p u y9),
            PredT.When 1 (fun u y9 => blk y9 (w.heap.size + 1) = some (.cells ((texH D wr) v0) 62 (0, 0)) ∧ ∃ p : Px, (p.B ∧ p = (pxX 0 zs n k)) ∧ y9.ownsRow (w.heap.size + 1) 97 4 u (ts ++ [p]).length (cp (ts ++ [p]))),
            PredT.At 0 (.pointer (some ⟨(w.heap.size + 1), 2, none⟩)),
            PredT.At 0 (undef)] (by kernel_rfl) (by kernel_rfl) (by kernel_rfl) (by decide) (by decide) ?_ ?_ ?_ ?_ ?_ ?_
        · exact ⟨PredT.at_stab _ _ _ _, PredT.at_stab _ _ _ _, PredT.at_stab _ _ _ _, PredT.at_stab _ _ _ _, PredT.when_stab _ _ _ (fun u y y' h _ => h), PredT.when_stab _ _ _ (fun u y y' h _ => h), PredT.when_stab _ _ _ (fun u y y' ⟨p, h1, h2⟩ hb => ⟨p, h1, onepx_stab p _ _ _ h2 hb⟩), PredT.when_stab _ _ _ (fun u y y' ⟨h0, p, h1, h2⟩ hb => ⟨(blk_below hb _ (blk_lt h0)).trans h0, p, h1, owns_below' h2 hb⟩), PredT.at_stab _ _ _ _, PredT.at_stab _ _ _ _, trivial⟩
        · intro q hq
          rcases List.mem_cons.1 hq with rfl | hq
          · exact fun y y' h hb => h.below hb
          rcases List.mem_cons.1 hq with rfl | hq
          · exact fun y y' h hb => (blk_below hb _ (blk_lt h)).trans h
          rcases List.mem_cons.1 hq with rfl | hq
          · exact fun y y' ⟨v2, p, h1, h2⟩ hb => ⟨v2, p, h1, h2.below hb⟩
          cases hq
        · exact hT
        · refine ⟨.inr ?_, .inr ?_, .inr ?_, .inr ?_, .inr ?_, .inr ?_, .inr ?_, .inl rfl, .inr ?_, .inl rfl, trivial⟩
          · intro b9 X ph hE hd hn hS hV hI hF
            have r7 : b9.tmps[7]?.getD undef = .pointer (some ⟨w.heap.size + 1, 0, none⟩) := (hn 7 (by kernel_rfl)).trans rfl
            exact Pred.yields_run (v := .pointer (some ⟨(w.heap.size + 1), 2, none⟩)) (Pred.wanted_none rfl) (by go_simp) ⟨Below.refl _ _, rfl, Nat.zero_le _⟩
          · intro b9 X ph hE hd hn hS hV hI hF
            obtain ⟨r44, j44⟩ : PredT.At 0 (.pointer (some ⟨(w.heap.size + 1), 2, none⟩)) (b9.tmps[44]?.getD undef) X ph := hV 0 _ 44 rfl rfl (Pred.waits_near (by kernel_rfl) (by kernel_rfl))
            have hp0 : ph = 0 := Nat.le_zero.1 (hF 0 7 rfl (Pred.waits_more 6 _ _ (Nat.le_of_ble_eq_true (by kernel_rfl)) (by kernel_rfl)))
            subst hp0
            have hb0 : (fun y9 => Tp y9 (w.heap.size + 1) (w.heap.size + 1) (texH D wr) 62 v0 ts) X := hS
            have z : X.cell? ⟨(w.heap.size + 1), 2, none⟩ = some v0 := by rw [blk_cell hb0.head]; first | done | rfl
            obtain ⟨a9, c9, rfl, _⟩ := owns_val hb0.row
            exact Pred.yields_run (v := .slice a9 ts.length c9) (Pred.wanted_none rfl) (by go_simp) ⟨Below.refl _ _, rfl, Nat.zero_le _⟩
          · intro b9 X ph hE hd hn hS hV hI hF
            have r2 : b9.tmps[2]?.getD undef = .slice a len cap := (hn 2 (by kernel_rfl)).trans rfl
            exact Pred.yields_run (v := .slice a len cap) (Pred.wanted_none rfl) (by go_simp) ⟨Below.refl _ _, rfl, Nat.zero_le _⟩
          · intro b9 X ph hE hd hn hS hV hI hF
            have r10 : b9.tmps[10]?.getD undef = .int .i64 k := (hn 10 (by kernel_rfl)).trans rfl
            exact Pred.yields_run (v := .int .i64 k) (Pred.wanted_none rfl) (by go_simp) ⟨Below.refl _ _, rfl, Nat.zero_le _⟩
          · intro b9 X ph hE hd hn hS hV hI hF
            obtain ⟨r46, j46⟩ : PredT.At 0 (.slice a len cap) (b9.tmps[46]?.getD undef) X ph := hV 2 _ 46 rfl rfl (Pred.waits_near (by kernel_rfl) (by kernel_rfl))
            obtain ⟨r47, j47⟩ : PredT.At 0 (.int .i64 k) (b9.tmps[47]?.getD undef) X ph := hV 3 _ 47 rfl rfl (Pred.waits_near (by kernel_rfl) (by kernel_rfl))
            refine Pred.yields_call (f := 51) (args := #[.slice a len cap, .int .i64 ((k : Int)), .int .i64 1000]) (Pred.wanted_none rfl) (by go_simp) ?_
            refine (at_x a len cap k 1000 zs X (hZX X hE) hz hlen (by omega) (by omega) (by omega)).mono ?_
            rintro e w8 ⟨rfl, hb⟩
            exact ⟨_, rfl, hb, Nat.zero_le _, fun _ => ⟨_, rfl, (atX_bd zs k (n := 1000) (by decide)).1, (atX_bd zs k (n := 1000) (by decide)).2, rfl⟩⟩
          · intro b9 X ph hE hd hn hS hV hI hF
            obtain ⟨j48, r48⟩ : PredT.When 0 (fun u _ => ∃ z : Int, u = .int .i64 z ∧ 0 ≤ z ∧ (z < 1000 ∧ z = atX zs k 1000)) (b9.tmps[48]?.getD undef) X ph := hV 4 _ 48 rfl rfl (Pred.waits_near (by kernel_rfl) (by kernel_rfl))
            obtain ⟨z, hv, hz1, hz2⟩ := r48 (Nat.le_zero.1 (hF 0 7 rfl (Pred.waits_more 6 _ _ (Nat.le_of_ble_eq_true (by kernel_rfl)) (by kernel_rfl))))
            have rde : b9.tmps[48]?.getD undef = .int .i64 z := hv
            clear r48
            refine Pred.yields_call (f := 52) (args := #[.int .i64 (z)]) (Pred.wanted_none rfl) (by go_simp) ?_
            refine (shade_p (z) X (by omega) (by omega)).mono ?_
            rintro e w8 ⟨⟨p, rfl, hp⟩, hb⟩
            exact ⟨_, rfl, hb, Nat.zero_le _, fun _ => ⟨p, rfl, (by obtain ⟨h8, h9⟩ := hp; exact ⟨h8, by rw [h9, hz2.2]; rfl⟩)⟩⟩
          · intro b9 X ph hE hd hn hS hV hI hF
            obtain ⟨j49, r49⟩ : PredT.When 0 (fun u _ => ∃ p : Px, u = p.v ∧ (p.B ∧ p = (pxX 0 zs n k))) (b9.tmps[49]?.getD undef) X ph := hV 5 _ 49 rfl rfl (Pred.waits_near (by kernel_rfl) (by kernel_rfl))
            obtain ⟨p, hv, hp⟩ := r49 (Nat.le_zero.1 (hF 0 7 rfl (Pred.waits_more 6 _ _ (Nat.le_of_ble_eq_true (by kernel_rfl)) (by kernel_rfl))))
            have rde : b9.tmps[49]?.getD undef = p.v := hv
            clear r49
            exact Pred.yields_run (v := .slice (some ⟨X.heap.size, 0, none⟩) 1 1) (w' := X.alloc (.cells p.c 97)) (Pred.wanted_none rfl) (by go_simp) ⟨(Below.refl _ _).alloc (Nat.le_refl _) _, Nat.zero_le _, fun _ => ⟨p, hp, X.heap.size, rfl, blk_alloc_at _ _ _ rfl⟩⟩
          · intro b9 X ph hE hd hn hS hV hI hF
            have r7 : b9.tmps[7]?.getD undef = .pointer (some ⟨w.heap.size + 1, 0, none⟩) := (hn 7 (by kernel_rfl)).trans rfl
            exact Pred.yields_run (v := .pointer (some ⟨(w.heap.size + 1), 2, none⟩)) (Pred.wanted_none rfl) (by go_simp) ⟨Below.refl _ _, rfl, Nat.zero_le _⟩
        · refine ⟨?_, ?_, trivial⟩
          · refine ⟨_, rfl, fun k hk => (by cases hk), fun b9 X hE hd hn hS hV hI => ?_⟩
            obtain ⟨r45, j45⟩ : PredT.At 0 (v0) (b9.tmps[45]?.getD undef) X 0 := hV 1 _ 45 rfl rfl (Pred.waits_near (by kernel_rfl) (by kernel_rfl))
            obtain ⟨j50, r50⟩ : PredT.When 0 (fun u y9 => ∃ p : Px, (p.B ∧ p = (pxX 0 zs n k)) ∧ OnePx p u y9) (b9.tmps[50]?.getD undef) X 0 := hV 6 _ 50 rfl rfl (Pred.waits_near (by kernel_rfl) (by kernel_rfl))
            replace hS : (fun y9 => Tp y9 (w.heap.size + 1) (w.heap.size + 1) (texH D wr) 62 v0 ts) X := hS
            obtain ⟨p, hp, g9, hg9, hgc⟩ := r50 rfl
            have hb0 : (fun y9 => Tp y9 (w.heap.size + 1) (w.heap.size + 1) (texH D wr) 62 v0 ts) X := hS
            have hXs := hE.size
            refine yields_app_px rfl (.tmp 45) (.tmp 50) rfl (w.heap.size + 1) v0 ts.length ts (by simpa [Act.eval] using r45) hb0.row g9 1 p (by simpa [Act.eval] using hg9) hgc (by omega) (by omega) ?_
            intro u y hown hgr
            have hbl := hb0.grown hgr (by decide)
            exact ⟨OctA.below_grownBy hgr (by omega) (fun k hk => (hb0.row.lt k hk).1), hbl, by omega, fun _ => ⟨hbl, p, hp, by rw [List.length_append]; exact hown⟩⟩
          · refine ⟨_, rfl, fun k hk => (by cases hk; exact Pred.waits_near (by kernel_rfl) (by kernel_rfl)), fun b9 X hE hd hn hS hV hI => ?_⟩
            obtain ⟨r52, j52⟩ : PredT.At 0 (.pointer (some ⟨(w.heap.size + 1), 2, none⟩)) (b9.tmps[52]?.getD undef) X 1 := hV 8 _ 52 rfl rfl (Pred.waits_near (by kernel_rfl) (by kernel_rfl))
            obtain ⟨j51, r51⟩ : PredT.When 1 (fun u y9 => blk y9 (w.heap.size + 1) = some (.cells ((texH D wr) v0) 62 (0, 0)) ∧ ∃ p : Px, (p.B ∧ p = (pxX 0 zs n k)) ∧ y9.ownsRow (w.heap.size + 1) 97 4 u (ts ++ [p]).length (cp (ts ++ [p]))) (b9.tmps[51]?.getD undef) X 1 := hV 7 _ 51 rfl rfl (Pred.waits_near (by kernel_rfl) (by kernel_rfl))
            replace hS : (fun y9 => blk y9 (w.heap.size + 1) = some (.cells ((texH D wr) v0) 62 (0, 0))) X := hS
            obtain ⟨hbl, p, hp, hr1⟩ := r51 rfl
            clear r51
            obtain ⟨u, hu⟩ : ∃ u, b9.tmps[51]?.getD undef = u := ⟨_, rfl⟩
            rw [hu] at hr1
            obtain ⟨au, cu, rfl, hu1, hu2⟩ := owns_val hr1
            have f0 := blk_frozen hbl 2
            have cz : X.cell? ⟨(w.heap.size + 1), 2, none⟩ = some v0 := by rw [blk_cell hbl]; first | done | rfl
            refine yields_skip (w' := X.setCell ⟨(w.heap.size + 1), 2, none⟩ (.slice au (ts ++ [p]).length cu)) (Pred.wanted_none rfl) (by go_simp) ⟨?_, ⟨_, p, hp, Tp.st hbl hr1 hBt (by decide) (fun _ _ => rfl)⟩, rfl, Nat.zero_le _⟩
            exact ⟨rfl, rfl, rfl, by simp, fun k1 h1 => heap_setCell_other _ _ _ _ (by show k1 ≠ (w.heap.size + 1); omega)⟩
        intro v X hE hS hv
        replace hS : (fun y9 => ∃ (v2 : Value) (p : Px), (p.B ∧ p = (pxX 0 zs n k)) ∧ Tp y9 (w.heap.size + 1) (w.heap.size + 1) (texH D wr) 62 v2 (ts ++ [p])) X := hS
        have e0 : v 0 = .pointer (some ⟨(w.heap.size + 1), 2, none⟩) := (hv 0 _ 44 rfl rfl).1
        have e1 : v 1 = v0 := (hv 1 _ 45 rfl rfl).1
        have e2 : v 2 = .slice a len cap := (hv 2 _ 46 rfl rfl).1
        have e3 : v 3 = .int .i64 k := (hv 3 _ 47 rfl rfl).1
        generalize hg4 : v 4 = vv4
        generalize hg5 : v 5 = vv5
        generalize hg6 : v 6 = vv6
        generalize hg7 : v 7 = vv7
        have e8 : v 8 = .pointer (some ⟨(w.heap.size + 1), 2, none⟩) := (hv 8 _ 52 rfl rfl).1
        simp only [Pred.putsF_cons, Pred.putsF_nil, Nat.zero_add, Nat.reduceAdd, e0, e1, e2, e3, hg4, hg5, hg6, hg7, e8, Act.put, List.setIfInBounds_toArray, List.set_cons_zero, List.set_cons_succ]
        clear e0 e1 e2 e3 hg4 hg5 hg6 hg7 e8 hv
        obtain ⟨v2, p, hp, hT⟩ := hS
        have L3 : Below (w.heap.size + 1) w2 X := HL.trans hE
        go_wp2_with fail
        try go_roundw
        try (case rel => exact ⟨k + 1, by omega, by go_num, Lib.hid (FIN.out _ _ _ hp hT), L3⟩)
        try (case measure => simp [intOf]; omega)
      · go_upto_region 7 with (fail)
        (refine wp_region_quiet_below (by kernel_rfl) (by kernel_rfl) ?_; (repeat (go_big_quiet_step ((fail)))); refine wpQuiet_nil ?_)
        intro w3 hU
        have KU := Rd.below_of_regrown hU
        have hT3 := hT.below KU
        have L3' : Below (w.heap.size + 1) w2 w3 := HL.trans (KU.mono hBW)
        replace hZX := fun X (hE : Below (w.heap.size + 1) w3 X) => hZX X ((KU.mono hBW).trans hE)
        replace HL := L3'
        replace hT := hT3
        replace hBW := HL.size
        replace hBW : w.heap.size + 1 ≤ w3.heap.size := by omega
        clear hU hT3 L3' KU
        go_upto_region 13 with (fail)
        refine PredT.region_of (W := w3) ((w.heap.size + 1)) hBW [10, 12] [
            fun y9 => Tp y9 (w.heap.size + 1) (w.heap.size + 1) (texH D wr) 62 v0 ts,
            fun y9 => blk y9 (w.heap.size + 1) = some (.cells ((texH D wr) v0) 62 (0, 0)),
            fun y9 => ∃ (v2 : Value) (p : Px), (p.B ∧ p = (pxX 1 zs n k)) ∧ Tp y9 (w.heap.size + 1) (w.heap.size + 1) (texH D wr) 62 v2 (ts ++ [p])] [
            PredT.At 0 (.pointer (some ⟨(w.heap.size + 1), 2, none⟩)),
            PredT.At 0 (v0),
            PredT.At 0 (.int .i64 ((k : Int) % n)),
            PredT.At 0 (.int .i64 ((k : Int) % n / 3)),
            PredT.At 0 (.int .i64 y),
            PredT.At 0 (.int .i64 ((y : Int) / 2)),
            PredT.At 0 (.int .i64 ((k : Int) % n / 3 + (y : Int) / 2)),
            PredT.At 0 (.int .i64 (((k : Int) % n / 3 + (y : Int) / 2) % 5)),
            PredT.When 0 (fun u _ => ∃ p : Px, u = p.v ∧ (p.B ∧ p = (pxX 1 zs n k))),
            PredT.When 0 (fun u y9 => ∃ p : Px, (p.B ∧ p = (pxX 1 zs n k)) ∧ OnePx p u y9),
            PredT.When 1 (fun u y9 => blk y9 (w.heap.size + 1) = some (.cells ((texH D wr) v0) 62 (0, 0)) ∧ ∃ p : Px, (p.B ∧ p = (pxX 1 zs n k)) ∧ y9.ownsRow (w.heap.size + 1) 97 4 u (ts ++ [p]).length (cp (ts ++ [p]))),
            PredT.At 0 (.pointer (some ⟨(w.heap.size + 1), 2, none⟩)),
            PredT.At 0 (undef)] (by kernel_rfl) (by kernel_rfl) (by kernel_rfl) (by decide) (by decide) ?_ ?_ ?_ ?_ ?_ ?_
        · exact ⟨PredT.at_stab _ _ _ _, PredT.at_stab _ _ _ _, PredT.at_stab _ _ _ _, PredT.at_stab _ _ _ _, PredT.at_stab _ _ _ _, PredT.at_stab _ _ _ _, PredT.at_stab _ _ _ _, PredT.at_stab _ _ _ _, PredT.when_stab _ _ _ (fun u y y' h _ => h), PredT.when_stab _ _ _ (fun u y y' ⟨p, h1, h2⟩ hb => ⟨p, h1, onepx_stab p _ _ _ h2 hb⟩), PredT.when_stab _ _ _ (fun u y y' ⟨h0, p, h1, h2⟩ hb => ⟨(blk_below hb _ (blk_lt h0)).trans h0, p, h1, owns_below' h2 hb⟩), PredT.at_stab _ _ _ _, PredT.at_stab _ _ _ _, trivial⟩
        · intro q hq
          rcases List.mem_cons.1 hq with rfl | hq
          · exact fun y y' h hb => h.below hb
          rcases List.mem_cons.1 hq with rfl | hq
          · exact fun y y' h hb => (blk_below hb _ (blk_lt h)).trans h
          rcases List.mem_cons.1 hq with rfl | hq
          · exact fun y y' ⟨v2, p, h1, h2⟩ hb => ⟨v2, p, h1, h2.below hb⟩
          cases hq
        · exact hT
        · refine ⟨.inr ?_, .inr ?_, .inr ?_, .inr ?_, .inr ?_, .inr ?_, .inr ?_, .inr ?_, .inr ?_, .inr ?_, .inl rfl, .inr ?_, .inl rfl, trivial⟩
          · intro b9 X ph hE hd hn hS hV hI hF
            have r7 : b9.tmps[7]?.getD undef = .pointer (some ⟨w.heap.size + 1, 0, none⟩) := (hn 7 (by kernel_rfl)).trans rfl
            exact Pred.yields_run (v := .pointer (some ⟨(w.heap.size + 1), 2, none⟩)) (Pred.wanted_none rfl) (by go_simp) ⟨Below.refl _ _, rfl, Nat.zero_le _⟩
          · intro b9 X ph hE hd hn hS hV hI hF
            obtain ⟨r55, j55⟩ : PredT.At 0 (.pointer (some ⟨(w.heap.size + 1), 2, none⟩)) (b9.tmps[55]?.getD undef) X ph := hV 0 _ 55 rfl rfl (Pred.waits_near (by kernel_rfl) (by kernel_rfl))
            have hp0 : ph = 0 := Nat.le_zero.1 (hF 0 10 rfl (Pred.waits_more 6 _ _ (Nat.le_of_ble_eq_true (by kernel_rfl)) (by kernel_rfl)))
            subst hp0
            have hb0 : (fun y9 => Tp y9 (w.heap.size + 1) (w.heap.size + 1) (texH D wr) 62 v0 ts) X := hS
            have z : X.cell? ⟨(w.heap.size + 1), 2, none⟩ = some v0 := by rw [blk_cell hb0.head]; first | done | rfl
            obtain ⟨a9, c9, rfl, _⟩ := owns_val hb0.row
            exact Pred.yields_run (v := .slice a9 ts.length c9) (Pred.wanted_none rfl) (by go_simp) ⟨Below.refl _ _, rfl, Nat.zero_le _⟩
          · intro b9 X ph hE hd hn hS hV hI hF
            have r11 : b9.tmps[11]?.getD undef = .int .i64 ((k : Int) % n) := (hn 11 (by kernel_rfl)).trans rfl
            exact Pred.yields_run (v := .int .i64 ((k : Int) % n)) (Pred.wanted_none rfl) (by go_simp) ⟨Below.refl _ _, rfl, Nat.zero_le _⟩
          · intro b9 X ph hE hd hn hS hV hI hF
            obtain ⟨r57, j57⟩ : PredT.At 0 (.int .i64 ((k : Int) % n)) (b9.tmps[57]?.getD undef) X ph := hV 2 _ 57 rfl rfl (Pred.waits_near (by kernel_rfl) (by kernel_rfl))
            have h7 := IntWalk.i64_in ((k : Int) % n / 3) (by omega)
            have h8 : 0 ≤ (k : Int) % n / 3 := by omega
            have h9 := Int.tdiv_eq_ediv_of_nonneg (a := (k : Int) % n) (b := 3) hx1
            exact Pred.yields_run (v := .int .i64 ((k : Int) % n / 3)) (Pred.wanted_none rfl) (by go_simp) ⟨Below.refl _ _, rfl, Nat.zero_le _⟩
          · intro b9 X ph hE hd hn hS hV hI hF
            have r12 : b9.tmps[12]?.getD undef = .int .i64 y := (hn 12 (by kernel_rfl)).trans rfl
            exact Pred.yields_run (v := .int .i64 y) (Pred.wanted_none rfl) (by go_simp) ⟨Below.refl _ _, rfl, Nat.zero_le _⟩
          · intro b9 X ph hE hd hn hS hV hI hF
            obtain ⟨r59, j59⟩ : PredT.At 0 (.int .i64 y) (b9.tmps[59]?.getD undef) X ph := hV 4 _ 59 rfl rfl (Pred.waits_near (by kernel_rfl) (by kernel_rfl))
            have h7 := IntWalk.i64_in ((y : Int) / 2) (by omega)
            have h9 := Int.tdiv_eq_ediv_of_nonneg (a := (y : Int)) (b := 2) (by omega)
            exact Pred.yields_run (v := .int .i64 ((y : Int) / 2)) (Pred.wanted_none rfl) (by go_simp) ⟨Below.refl _ _, rfl, Nat.zero_le _⟩
          · intro b9 X ph hE hd hn hS hV hI hF
            obtain ⟨r58, j58⟩ : PredT.At 0 (.int .i64 ((k : Int) % n / 3)) (b9.tmps[58]?.getD undef) X ph := hV 3 _ 58 rfl rfl (Pred.waits_near (by kernel_rfl) (by kernel_rfl))
            obtain ⟨r60, j60⟩ : PredT.At 0 (.int .i64 ((y : Int) / 2)) (b9.tmps[60]?.getD undef) X ph := hV 5 _ 60 rfl rfl (Pred.waits_near (by kernel_rfl) (by kernel_rfl))
            have h8 := IntWalk.i64_in ((k : Int) % n / 3 + (y : Int) / 2) (by omega)
            exact Pred.yields_run (v := .int .i64 ((k : Int) % n / 3 + (y : Int) / 2)) (Pred.wanted_none rfl) (by go_simp) ⟨Below.refl _ _, rfl, Nat.zero_le _⟩
          · intro b9 X ph hE hd hn hS hV hI hF
            obtain ⟨r61, j61⟩ : PredT.At 0 (.int .i64 ((k : Int) % n / 3 + (y : Int) / 2)) (b9.tmps[61]?.getD undef) X ph := hV 6 _ 61 rfl rfl (Pred.waits_near (by kernel_rfl) (by kernel_rfl))
            have h8 : (0 : Int) ≤ (k : Int) % n / 3 + (y : Int) / 2 := by omega
            have h9 := Int.tmod_eq_emod_of_nonneg (a := (k : Int) % n / 3 + (y : Int) / 2) (b := 5) h8
            exact Pred.yields_run (v := .int .i64 (((k : Int) % n / 3 + (y : Int) / 2) % 5)) (Pred.wanted_none rfl) (by go_simp) ⟨Below.refl _ _, rfl, Nat.zero_le _⟩
          · intro b9 X ph hE hd hn hS hV hI hF
            obtain ⟨r62, j62⟩ : PredT.At 0 (.int .i64 (((k : Int) % n / 3 + (y : Int) / 2) % 5)) (b9.tmps[62]?.getD undef) X ph := hV 7 _ 62 rfl rfl (Pred.waits_near (by kernel_rfl) (by kernel_rfl))
            refine Pred.yields_call (f := 52) (args := #[.int .i64 (((k : Int) % n / 3 + (y : Int) / 2) % 5)]) (Pred.wanted_none rfl) (by go_simp) ?_
            refine (shade_p (((k : Int) % n / 3 + (y : Int) / 2) % 5) X (by omega) (by omega)).mono ?_
            rintro e w8 ⟨⟨p, rfl, hp⟩, hb⟩
            exact ⟨_, rfl, hb, Nat.zero_le _, fun _ => ⟨p, rfl, (by obtain ⟨h8, h9⟩ := hp; exact ⟨h8, by rw [h9, HY.out]; rfl⟩)⟩⟩
          · intro b9 X ph hE hd hn hS hV hI hF
            obtain ⟨j63, r63⟩ : PredT.When 0 (fun u _ => ∃ p : Px, u = p.v ∧ (p.B ∧ p = (pxX 1 zs n k))) (b9.tmps[63]?.getD undef) X ph := hV 8 _ 63 rfl rfl (Pred.waits_near (by kernel_rfl) (by kernel_rfl))
            obtain ⟨p, hv, hp⟩ := r63 (Nat.le_zero.1 (hF 0 10 rfl (Pred.waits_more 6 _ _ (Nat.le_of_ble_eq_true (by kernel_rfl)) (by kernel_rfl))))
            have rde : b9.tmps[63]?.getD undef = p.v := hv
            clear r63
            exact Pred.yields_run (v := .slice (some ⟨X.heap.size, 0, none⟩) 1 1) (w' := X.alloc (.cells p.c 97)) (Pred.wanted_none rfl) (by go_simp) ⟨(Below.refl _ _).alloc (Nat.le_refl _) _, Nat.zero_le _, fun _ => ⟨p, hp, X.heap.size, rfl, blk_alloc_at _ _ _ rfl⟩⟩
          · intro b9 X ph hE hd hn hS hV hI hF
            have r7 : b9.tmps[7]?.getD undef = .pointer (some ⟨w.heap.size + 1, 0, none⟩) := (hn 7 (by kernel_rfl)).trans rfl
            exact Pred.yields_run (v := .pointer (some ⟨(w.heap.size + 1), 2, none⟩)) (Pred.wanted_none rfl) (by go_simp) ⟨Below.refl _ _, rfl, Nat.zero_le _⟩
        · refine ⟨?_, ?_, trivial⟩
          · refine ⟨_, rfl, fun k hk => (by cases hk), fun b9 X hE hd hn hS hV hI => ?_⟩
            obtain ⟨r56, j56⟩ : PredT.At 0 (v0) (b9.tmps[56]?.getD undef) X 0 := hV 1 _ 56 rfl rfl (Pred.waits_near (by kernel_rfl) (by kernel_rfl))
            obtain ⟨j64, r64⟩ : PredT.When 0 (fun u y9 => ∃ p : Px, (p.B ∧ p = (pxX 1 zs n k)) ∧ OnePx p u y9) (b9.tmps[64]?.getD undef) X 0 := hV 9 _ 64 rfl rfl (Pred.waits_near (by kernel_rfl) (by kernel_rfl))
            replace hS : (fun y9 => Tp y9 (w.heap.size + 1) (w.heap.size + 1) (texH D wr) 62 v0 ts) X := hS
            obtain ⟨p, hp, g9, hg9, hgc⟩ := r64 rfl
            have hb0 : (fun y9 => Tp y9 (w.heap.size + 1) (w.heap.size + 1) (texH D wr) 62 v0 ts) X := hS
            have hXs := hE.size
            refine yields_app_px rfl (.tmp 56) (.tmp 64) rfl (w.heap.size + 1) v0 ts.length ts (by simpa [Act.eval] using r56) hb0.row g9 1 p (by simpa [Act.eval] using hg9) hgc (by omega) (by omega) ?_
            intro u y hown hgr
            have hbl := hb0.grown hgr (by decide)
            exact ⟨OctA.below_grownBy hgr (by omega) (fun k hk => (hb0.row.lt k hk).1), hbl, by omega, fun _ => ⟨hbl, p, hp, by rw [List.length_append]; exact hown⟩⟩
          · refine ⟨_, rfl, fun k hk => (by cases hk; exact Pred.waits_near (by kernel_rfl) (by kernel_rfl)), fun b9 X hE hd hn hS hV hI => ?_⟩
            obtain ⟨r66, j66⟩ : PredT.At 0 (.pointer (some ⟨(w.heap.size + 1), 2, none⟩)) (b9.tmps[66]?.getD undef) X 1 := hV 11 _ 66 rfl rfl (Pred.waits_near (by kernel_rfl) (by kernel_rfl))
            obtain ⟨j65, r65⟩ : PredT.When 1 (fun u y9 => blk y9 (w.heap.size + 1) = some (.cells ((texH D wr) v0) 62 (0, 0)) ∧ ∃ p : Px, (p.B ∧ p = (pxX 1 zs n k)) ∧ y9.ownsRow (w.heap.size + 1) 97 4 u (ts ++ [p]).length (cp (ts ++ [p]))) (b9.tmps[65]?.getD undef) X 1 := hV 10 _ 65 rfl rfl (Pred.waits_near (by kernel_rfl) (by kernel_rfl))
            replace hS : (fun y9 => blk y9 (w.heap.size + 1) = some (.cells ((texH D wr) v0) 62 (0, 0))) X := hS
            obtain ⟨hbl, p, hp, hr1⟩ := r65 rfl
            clear r65
            obtain ⟨u, hu⟩ : ∃ u, b9.tmps[65]?.getD undef = u := ⟨_, rfl⟩
            rw [hu] at hr1
            obtain ⟨au, cu, rfl, hu1, hu2⟩ := owns_val hr1
            have f0 := blk_frozen hbl 2
            have cz : X.cell? ⟨(w.heap.size + 1), 2, none⟩ = some v0 := by rw [blk_cell hbl]; first | done | rfl
            refine yields_skip (w' := X.setCell ⟨(w.heap.size + 1), 2, none⟩ (.slice au (ts ++ [p]).length cu)) (Pred.wanted_none rfl) (by go_simp) ⟨?_, ⟨_, p, hp, Tp.st hbl hr1 hBt (by decide) (fun _ _ => rfl)⟩, rfl, Nat.zero_le _⟩
            exact ⟨rfl, rfl, rfl, by simp, fun k1 h1 => heap_setCell_other _ _ _ _ (by show k1 ≠ (w.heap.size + 1); omega)⟩
        intro v X hE hS hv
        replace hS : (fun y9 => ∃ (v2 : Value) (p : Px), (p.B ∧ p = (pxX 1 zs n k)) ∧ Tp y9 (w.heap.size + 1) (w.heap.size + 1) (texH D wr) 62 v2 (ts ++ [p])) X := hS
        have e0 : v 0 = .pointer (some ⟨(w.heap.size + 1), 2, none⟩) := (hv 0 _ 55 rfl rfl).1
        have e1 : v 1 = v0 := (hv 1 _ 56 rfl rfl).1
        have e2 : v 2 = .int .i64 ((k : Int) % n) := (hv 2 _ 57 rfl rfl).1
        have e3 : v 3 = .int .i64 ((k : Int) % n / 3) := (hv 3 _ 58 rfl rfl).1
        have e4 : v 4 = .int .i64 y := (hv 4 _ 59 rfl rfl).1
        have e5 : v 5 = .int .i64 ((y : Int) / 2) := (hv 5 _ 60 rfl rfl).1
        have e6 : v 6 = .int .i64 ((k : Int) % n / 3 + (y : Int) / 2) := (hv 6 _ 61 rfl rfl).1
        have e7 : v 7 = .int .i64 (((k : Int) % n / 3 + (y : Int) / 2) % 5) := (hv 7 _ 62 rfl rfl).1
        generalize hg8 : v 8 = vv8
        generalize hg9 : v 9 = vv9
        generalize hg10 : v 10 = vv10
        have e11 : v 11 = .pointer (some ⟨(w.heap.size + 1), 2, none⟩) := (hv 11 _ 66 rfl rfl).1
        simp only [Pred.putsF_cons, Pred.putsF_nil, Nat.zero_add, Nat.reduceAdd, e0, e1, e2, e3, e4, e5, e6, e7, hg8, hg9, hg10, e11, Act.put, List.setIfInBounds_toArray, List.set_cons_zero, List.set_cons_succ]
        clear e0 e1 e2 e3 e4 e5 e6 e7 hg8 hg9 hg10 e11 hv
        obtain ⟨v2, p, hp, hT⟩ := hS
        have L3 : Below (w.heap.size + 1) w2 X := HL.trans hE
        go_wp2_with fail
        try go_roundw
        try (case rel => exact ⟨k + 1, by omega, by go_num, Lib.hid (FIN.out _ _ _ hp hT), L3⟩)
        try (case measure => simp [intOf]; omega)
      · go_upto_region 7 with (fail)
        (refine wp_region_quiet_below (by kernel_rfl) (by kernel_rfl) ?_; (repeat (go_big_quiet_step ((fail)))); refine wpQuiet_nil ?_)
        intro w3 hU
        have KU := Rd.below_of_regrown hU
        have hT3 := hT.below KU
        have L3' : Below (w.heap.size + 1) w2 w3 := HL.trans (KU.mono hBW)
        replace hZX := fun X (hE : Below (w.heap.size + 1) w3 X) => hZX X ((KU.mono hBW).trans hE)
        replace HL := L3'
        replace hT := hT3
        replace hBW := HL.size
        replace hBW : w.heap.size + 1 ≤ w3.heap.size := by omega
        clear hU hT3 L3' KU
        have c2 : w3.cell? ⟨w.heap.size + 1, 2, none⟩ = some v0 := by rw [blk_cell hT.head]; first | done | rfl
        obtain ⟨a9, c9, hv9, _⟩ := owns_val hT.row
        subst hv9
        have hP : Px.B ⟨(k : Int) % n * 8, (y : Int) * 8 % 256, bits BinOp.xor IntKind.i64 ((k : Int) % n) y % 256, 255⟩ ∧ (⟨(k : Int) % n * 8, (y : Int) * 8 % 256, bits BinOp.xor IntKind.i64 ((k : Int) % n) y % 256, 255⟩ : Px) = pxX 2 zs n k := ⟨by unfold Px.B B8; simp only; omega, by rw [HY.out]; rfl⟩
        have hTA := hT.below ((Below.refl _ _).alloc (Nat.le_refl _) (.cells (Px.c ⟨(k : Int) % n * 8, (y : Int) * 8 % 256, bits BinOp.xor IntKind.i64 ((k : Int) % n) y % 256, 255⟩) 97))
        go_wp2_with (at_builtin; refine app_px rfl (.tmp 70) (.tmp 82) rfl (w.heap.size + 1) _ _ _ rfl hTA.row w3.heap.size 1 ⟨(k : Int) % n * 8, (y : Int) * 8 % 256, bits BinOp.xor IntKind.i64 ((k : Int) % n) y % 256, 255⟩ rfl (blk_alloc_at _ _ _ rfl) (by omega) (by simp; omega) ?_; intro v4 w4 ho4 hg4; obtain ⟨a8, c8, hv8, _⟩ := owns_val ho4; subst hv8; have hbl4 := hTA.grown hg4 (by decide); have f4 := blk_frozen hbl4 2; have z4 : w4.cell? ⟨w.heap.size + 1, 2, none⟩ = some (.slice a9 ts.length c9) := by rw [blk_cell hbl4]; first | done | rfl)
        have hT4 := Tp.st (o := 2) (u := .slice a8 (ts.length + 1) c8) (ts := ts ++ [⟨(k : Int) % n * 8, (y : Int) * 8 % 256, bits BinOp.xor IntKind.i64 ((k : Int) % n) y % 256, 255⟩]) hbl4 (by rw [List.length_append]; exact ho4) hBt (by decide) (fun _ _ => rfl)
        have K4 : Below (w.heap.size + 1) w3 w4 := ((Below.refl _ _).alloc hBW _).trans (OctA.below_grownBy hg4 (by simp; omega) (fun j hj => (hT.row.lt j hj).1))
        have K5 : Below (w.heap.size + 1) w4 (w4.setCell ⟨w.heap.size + 1, 2, none⟩ (.slice a8 (ts.length + 1) c8)) := ⟨rfl, rfl, rfl, by simp, fun k1 h1 => heap_setCell_other _ _ _ _ (by show k1 ≠ w.heap.size + 1; omega)⟩
        have L3 := HL.trans (K4.trans K5)
        clear hbl4 f4 z4 c2 K4 K5
        try go_roundw
        try (case rel => exact ⟨k + 1, by omega, by go_num, Lib.hid (FIN.out _ _ _ hP hT4), L3⟩)
        try (case measure => simp [intOf]; omega)
        try exact ⟨⟨k + 1, by omega, by go_num, Lib.hid (FIN.out _ _ _ hP hT4), L3⟩, by simp [intOf]; omega⟩
      · go_upto_region 7 with (fail)
        (refine wp_region_quiet_below (by kernel_rfl) (by kernel_rfl) ?_; (repeat (go_big_quiet_step ((fail)))); refine wpQuiet_nil ?_)
        intro w3 hU
        have KU := Rd.below_of_regrown hU
        have hT3 := hT.below KU
        have L3' : Below (w.heap.size + 1) w2 w3 := HL.trans (KU.mono hBW)
        replace hZX := fun X (hE : Below (w.heap.size + 1) w3 X) => hZX X ((KU.mono hBW).trans hE)
        replace HL := L3'
        replace hT := hT3
        replace hBW := HL.size
        replace hBW : w.heap.size + 1 ≤ w3.heap.size := by omega
        clear hU hT3 L3' KU
        go_upto_region 9 with (fail)
        refine PredT.region_of (W := w3) ((w.heap.size + 1)) hBW [4, 6] [
            fun y9 => Tp y9 (w.heap.size + 1) (w.heap.size + 1) (texH D wr) 62 v0 ts,
            fun y9 => blk y9 (w.heap.size + 1) = some (.cells ((texH D wr) v0) 62 (0, 0)),
            fun y9 => ∃ (v2 : Value) (p : Px), (p.B ∧ p = (pxX 3 zs n k)) ∧ Tp y9 (w.heap.size + 1) (w.heap.size + 1) (texH D wr) 62 v2 (ts ++ [p])] [
            PredT.At 0 (.pointer (some ⟨(w.heap.size + 1), 2, none⟩)),
            PredT.At 0 (v0),
            PredT.When 0 (fun u _ => ∃ p : Px, u = p.v ∧ (p.B ∧ p = (pxX 3 zs n k))),
            PredT.When 0 (fun u y9 => ∃ p : Px, (p.B ∧ p = (pxX 3 zs n k)) ∧ OnePx p u y9),
            PredT.When 1 (fun u y9 => blk y9 (w.heap.size + 1) = some (.cells ((texH D wr) v0) 62 (0, 0)) ∧ ∃ p : Px, (p.B ∧ p = (pxX 3 zs n k)) ∧ y9.ownsRow (w.heap.size + 1) 97 4 u (ts ++ [p]).length (cp (ts ++ [p]))),
            PredT.At 0 (.pointer (some ⟨(w.heap.size + 1), 2, none⟩)),
            PredT.At 0 (undef)] (by kernel_rfl) (by kernel_rfl) (by kernel_rfl) (by decide) (by decide) ?_ ?_ ?_ ?_ ?_ ?_
        · exact ⟨PredT.at_stab _ _ _ _, PredT.at_stab _ _ _ _, PredT.when_stab _ _ _ (fun u y y' h _ => h), PredT.when_stab _ _ _ (fun u y y' ⟨p, h1, h2⟩ hb => ⟨p, h1, onepx_stab p _ _ _ h2 hb⟩), PredT.when_stab _ _ _ (fun u y y' ⟨h0, p, h1, h2⟩ hb => ⟨(blk_below hb _ (blk_lt h0)).trans h0, p, h1, owns_below' h2 hb⟩), PredT.at_stab _ _ _ _, PredT.at_stab _ _ _ _, trivial⟩
        · intro q hq
          rcases List.mem_cons.1 hq with rfl | hq
          · exact fun y y' h hb => h.below hb
          rcases List.mem_cons.1 hq with rfl | hq
          · exact fun y y' h hb => (blk_below hb _ (blk_lt h)).trans h
          rcases List.mem_cons.1 hq with rfl | hq
          · exact fun y y' ⟨v2, p, h1, h2⟩ hb => ⟨v2, p, h1, h2.below hb⟩
          cases hq
        · exact hT
        · refine ⟨.inr ?_, .inr ?_, .inr ?_, .inr ?_, .inl rfl, .inr ?_, .inl rfl, trivial⟩
          · intro b9 X ph hE hd hn hS hV hI hF
            have r7 : b9.tmps[7]?.getD undef = .pointer (some ⟨w.heap.size + 1, 0, none⟩) := (hn 7 (by kernel_rfl)).trans rfl
            exact Pred.yields_run (v := .pointer (some ⟨(w.heap.size + 1), 2, none⟩)) (Pred.wanted_none rfl) (by go_simp) ⟨Below.refl _ _, rfl, Nat.zero_le _⟩
          · intro b9 X ph hE hd hn hS hV hI hF
            obtain ⟨r36, j36⟩ : PredT.At 0 (.pointer (some ⟨(w.heap.size + 1), 2, none⟩)) (b9.tmps[36]?.getD undef) X ph := hV 0 _ 36 rfl rfl (Pred.waits_near (by kernel_rfl) (by kernel_rfl))
            have hp0 : ph = 0 := Nat.le_zero.1 (hF 0 4 rfl (Pred.waits_more 6 _ _ (Nat.le_of_ble_eq_true (by kernel_rfl)) (by kernel_rfl)))
            subst hp0
            have hb0 : (fun y9 => Tp y9 (w.heap.size + 1) (w.heap.size + 1) (texH D wr) 62 v0 ts) X := hS
            have z : X.cell? ⟨(w.heap.size + 1), 2, none⟩ = some v0 := by rw [blk_cell hb0.head]; first | done | rfl
            obtain ⟨a9, c9, rfl, _⟩ := owns_val hb0.row
            exact Pred.yields_run (v := .slice a9 ts.length c9) (Pred.wanted_none rfl) (by go_simp) ⟨Below.refl _ _, rfl, Nat.zero_le _⟩
          · intro b9 X ph hE hd hn hS hV hI hF
            refine Pred.yields_call (f := 52) (args := #[.int .i64 (7)]) (Pred.wanted_none rfl) (by go_simp) ?_
            refine (shade_p (7) X (by omega) (by omega)).mono ?_
            rintro e w8 ⟨⟨p, rfl, hp⟩, hb⟩
            exact ⟨_, rfl, hb, Nat.zero_le _, fun _ => ⟨p, rfl, (by obtain ⟨h8, h9⟩ := hp; exact ⟨h8, by rw [h9]; rfl⟩)⟩⟩
          · intro b9 X ph hE hd hn hS hV hI hF
            obtain ⟨j38, r38⟩ : PredT.When 0 (fun u _ => ∃ p : Px, u = p.v ∧ (p.B ∧ p = (pxX 3 zs n k))) (b9.tmps[38]?.getD undef) X ph := hV 2 _ 38 rfl rfl (Pred.waits_near (by kernel_rfl) (by kernel_rfl))
            obtain ⟨p, hv, hp⟩ := r38 (Nat.le_zero.1 (hF 0 4 rfl (Pred.waits_more 6 _ _ (Nat.le_of_ble_eq_true (by kernel_rfl)) (by kernel_rfl))))
            have rde : b9.tmps[38]?.getD undef = p.v := hv
            clear r38
            exact Pred.yields_run (v := .slice (some ⟨X.heap.size, 0, none⟩) 1 1) (w' := X.alloc (.cells p.c 97)) (Pred.wanted_none rfl) (by go_simp) ⟨(Below.refl _ _).alloc (Nat.le_refl _) _, Nat.zero_le _, fun _ => ⟨p, hp, X.heap.size, rfl, blk_alloc_at _ _ _ rfl⟩⟩
          · intro b9 X ph hE hd hn hS hV hI hF
            have r7 : b9.tmps[7]?.getD undef = .pointer (some ⟨w.heap.size + 1, 0, none⟩) := (hn 7 (by kernel_rfl)).trans rfl
            exact Pred.yields_run (v := .pointer (some ⟨(w.heap.size + 1), 2, none⟩)) (Pred.wanted_none rfl) (by go_simp) ⟨Below.refl _ _, rfl, Nat.zero_le _⟩
        · refine ⟨?_, ?_, trivial⟩
          · refine ⟨_, rfl, fun k hk => (by cases hk), fun b9 X hE hd hn hS hV hI => ?_⟩
            obtain ⟨r37, j37⟩ : PredT.At 0 (v0) (b9.tmps[37]?.getD undef) X 0 := hV 1 _ 37 rfl rfl (Pred.waits_near (by kernel_rfl) (by kernel_rfl))
            obtain ⟨j39, r39⟩ : PredT.When 0 (fun u y9 => ∃ p : Px, (p.B ∧ p = (pxX 3 zs n k)) ∧ OnePx p u y9) (b9.tmps[39]?.getD undef) X 0 := hV 3 _ 39 rfl rfl (Pred.waits_near (by kernel_rfl) (by kernel_rfl))
            replace hS : (fun y9 => Tp y9 (w.heap.size + 1) (w.heap.size + 1) (texH D wr) 62 v0 ts) X := hS
            obtain ⟨p, hp, g9, hg9, hgc⟩ := r39 rfl
            have hb0 : (fun y9 => Tp y9 (w.heap.size + 1) (w.heap.size + 1) (texH D wr) 62 v0 ts) X := hS
            have hXs := hE.size
            refine yields_app_px rfl (.tmp 37) (.tmp 39) rfl (w.heap.size + 1) v0 ts.length ts (by simpa [Act.eval] using r37) hb0.row g9 1 p (by simpa [Act.eval] using hg9) hgc (by omega) (by omega) ?_
            intro u y hown hgr
            have hbl := hb0.grown hgr (by decide)
            exact ⟨OctA.below_grownBy hgr (by omega) (fun k hk => (hb0.row.lt k hk).1), hbl, by omega, fun _ => ⟨hbl, p, hp, by rw [List.length_append]; exact hown⟩⟩
          · refine ⟨_, rfl, fun k hk => (by cases hk; exact Pred.waits_near (by kernel_rfl) (by kernel_rfl)), fun b9 X hE hd hn hS hV hI => ?_⟩
            obtain ⟨r41, j41⟩ : PredT.At 0 (.pointer (some ⟨(w.heap.size + 1), 2, none⟩)) (b9.tmps[41]?.getD undef) X 1 := hV 5 _ 41 rfl rfl (Pred.waits_near (by kernel_rfl) (by kernel_rfl))
            obtain ⟨j40, r40⟩ : PredT.When 1 (fun u y9 => blk y9 (w.heap.size + 1) = some (.cells ((texH D wr) v0) 62 (0, 0)) ∧ ∃ p : Px, (p.B ∧ p = (pxX 3 zs n k)) ∧ y9.ownsRow (w.heap.size + 1) 97 4 u (ts ++ [p]).length (cp (ts ++ [p]))) (b9.tmps[40]?.getD undef) X 1 := hV 4 _ 40 rfl rfl (Pred.waits_near (by kernel_rfl) (by kernel_rfl))
            replace hS : (fun y9 => blk y9 (w.heap.size + 1) = some (.cells ((texH D wr) v0) 62 (0, 0))) X := hS
            obtain ⟨hbl, p, hp, hr1⟩ := r40 rfl
            clear r40
            obtain ⟨u, hu⟩ : ∃ u, b9.tmps[40]?.getD undef = u := ⟨_, rfl⟩
            rw [hu] at hr1
            obtain ⟨au, cu, rfl, hu1, hu2⟩ := owns_val hr1
            have f0 := blk_frozen hbl 2
            have cz : X.cell? ⟨(w.heap.size + 1), 2, none⟩ = some v0 := by rw [blk_cell hbl]; first | done | rfl
            refine yields_skip (w' := X.setCell ⟨(w.heap.size + 1), 2, none⟩ (.slice au (ts ++ [p]).length cu)) (Pred.wanted_none rfl) (by go_simp) ⟨?_, ⟨_, p, hp, Tp.st hbl hr1 hBt (by decide) (fun _ _ => rfl)⟩, rfl, Nat.zero_le _⟩
            exact ⟨rfl, rfl, rfl, by simp, fun k1 h1 => heap_setCell_other _ _ _ _ (by show k1 ≠ (w.heap.size + 1); omega)⟩
        intro v X hE hS hv
        replace hS : (fun y9 => ∃ (v2 : Value) (p : Px), (p.B ∧ p = (pxX 3 zs n k)) ∧ Tp y9 (w.heap.size + 1) (w.heap.size + 1) (texH D wr) 62 v2 (ts ++ [p])) X := hS
        have e0 : v 0 = .pointer (some ⟨(w.heap.size + 1), 2, none⟩) := (hv 0 _ 36 rfl rfl).1
        have e1 : v 1 = v0 := (hv 1 _ 37 rfl rfl).1
        generalize hg2 : v 2 = vv2
        generalize hg3 : v 3 = vv3
        generalize hg4 : v 4 = vv4
        have e5 : v 5 = .pointer (some ⟨(w.heap.size + 1), 2, none⟩) := (hv 5 _ 41 rfl rfl).1
        simp only [Pred.putsF_cons, Pred.putsF_nil, Nat.zero_add, Nat.reduceAdd, e0, e1, hg2, hg3, hg4, e5, Act.put, List.setIfInBounds_toArray, List.set_cons_zero, List.set_cons_succ]
        clear e0 e1 hg2 hg3 hg4 e5 hv
        obtain ⟨v2, p, hp, hT⟩ := hS
        have L3 : Below (w.heap.size + 1) w2 X := HL.trans hE
        go_wp2_with fail
        try go_roundw
        try (case rel => exact ⟨k + 1, by omega, by go_num, Lib.hid (FIN.out _ _ _ hp hT), L3⟩)
        try (case measure => simp [intOf]; omega)
    · obtain rfl : k = q := by omega
      obtain ⟨ts, v0, htp, hRB, hT⟩ := HB.out
      have hts : ts.length = k := by rw [htp, paint_len]
      have HTP := Lib.hid htp
      clear htp
      have hR3 := (blk_below HL _ (by omega)).trans hR1
      have h7 := hT.head
      have hrow := hT.row
      have L3 : Below w.heap.size w Y := L2.trans (HL.mono (Nat.le_succ _))
      obtain ⟨a9, c9, hv9, _⟩ := owns_val hrow
      subst hv9
      clear HB hT
      go_wp2_with fail
      refine ret_tex rfl w.heap.size _ _ _ rfl (blk_setRow_of hR3 _) rfl ⟨⟨D, _, ts, HD.out, hD3, rfl, by rw [HTP.out, HR.out, HQ.out, HN.out], hRB, ?_⟩, by repeat' (first | (with_reducible exact Below.refl _ _) | (with_reducible refine Rd.below_step ?_ (by assumption)) | (with_reducible refine Rd.below_alloc ?_ _) | (with_reducible refine Rd.below_drewN ?_ _) | (with_reducible refine Below.drew ?_) | (with_reducible refine Below.setCell ?_ ?_ _) | (with_reducible refine Rd.below_setRow ?_ ?_ _) | go_size | (simp only [World.size_alloc]; omega) | omega)⟩
      rw [← HQ.out, ← hts]
      exact owns_mono (own_keep hrow fun k1 h1 => setRow_other _ _ _ _ (fun e => by have := (hrow.lt k1 h1).1; omega)) (Nat.le_succ _)
end Go.Proofs.Ytkklppjimnkibaa.TwP

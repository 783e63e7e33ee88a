/-
  The law of package cut: those that change.
-/
import Derived.Test.YtdjiblgnealmkaaCtH
import Derived.Deep.QuietTactic
import Derived.BigQuiet
import Derived.BigGuard
namespace Go.Proofs.Ytdjiblgnealmkaa.CtJ
open Go.RowKit Rd Go.Proofs.Ytdjiblgnealmkaa.Row Mid DkM HueA MpM MpA MpB MpC MpD MpE MpF MpG
open MpQ MpS MpT MpU
open CtA CtB CtC CtD CtE CtF CtG CtH
open PgC (eqL eq_pg3)
open Ints (i64s In64)
set_option linter.unusedVariables false
set_option linter.unusedSimpArgs false
set_option maxRecDepth 10000
/-- a page and its bytes, that read so -/
def Gr (ts : List Px) (D : Nat) (wr : Bool) (x : El) (X : World) : Prop := ∃ (L P Q : Int) (g c : Nat), x.1 = [L, P, Q] ∧ PgM.validB D L P Q = true ∧ x.2 = .slice (some ⟨g, 0, none⟩) 144 c ∧ 144 ≤ c ∧ Reads X 1 (some ⟨g, 0, none⟩) 144 (cp (pageP ts D wr L P Q))
theorem Gr.of {ts : List Px} {D : Nat} {wr : Bool} {x : El} {X : World} (h : Gp ts D wr x X) : Gr ts D wr x X := by
  obtain ⟨L, P, Q, h1, h2, h3⟩ := h
  obtain ⟨g, c, h4, -, -, h5, -, -⟩ := owns_pos h3 (by omega)
  rw [h4] at h3
  exact ⟨L, P, Q, g, c, h1, h2, h4, h5, Reads.of_owns h3⟩
theorem Gr.below {ts : List Px} {D : Nat} {wr : Bool} {x : El} {X Y : World} (h : Gr ts D wr x X) (hb : Below X.heap.size X Y) : Gr ts D wr x Y := by
  obtain ⟨L, P, Q, g, c, h1, h2, h3, h4, h5⟩ := h
  exact ⟨L, P, Q, g, c, h1, h2, h3, h4, h5.below hb (Nat.le_refl _)⟩
/-- a row of items -/
def Its (ts : List Px) (D : Nat) (wr : Bool) (a : Option Addr) (xs : List El) (X : World) : Prop := Reads X 4 a xs.length (itC xs) ∧ ∀ x ∈ xs, Gr ts D wr x X
theorem Its.below {ts : List Px} {D : Nat} {wr : Bool} {a : Option Addr} {xs : List El} {X Y : World} (h : Its ts D wr a xs X) (hb : Below X.heap.size X Y) : Its ts D wr a xs Y :=
  ⟨h.1.below hb (Nat.le_refl _), fun x hx => (h.2 x hx).below hb⟩
theorem Its.at_ {ts : List Px} {D : Nat} {wr : Bool} {a : Option Addr} {xs : List El} {X : World} (h : Its ts D wr a xs X) {i : Nat} (hi : i < xs.length) {L P Q : Int} (hp : xs[i].1 = [L, P, Q]) :
    ∃ b o g c : Nat, a = some ⟨b, o, none⟩ ∧ b < X.heap.size ∧ X.cell? ⟨b, o + i * 4, none⟩ = some (.int .i64 L) ∧ X.cell? ⟨b, o + i * 4 + 1, none⟩ = some (.int .i64 P) ∧ X.cell? ⟨b, o + i * 4 + 2, none⟩ = some (.int .i64 Q) ∧ X.cell? ⟨b, o + i * 4 + 3, none⟩ = some (.slice (some ⟨g, 0, none⟩) 144 c) ∧ 144 ≤ c ∧ Reads X 1 (some ⟨g, 0, none⟩) 144 (cp (pageP ts D wr L P Q)) := by
  obtain ⟨⟨h1, h2⟩, h3⟩ := h
  obtain ⟨L', P', Q', g, c, h4, h5, h6, h7, h8⟩ := h3 _ (List.getElem_mem hi)
  rw [hp] at h4
  injection h4 with e1 h4; injection h4 with e2 h4; injection h4 with e3 h4
  subst e1; subst e2; subst e3
  rcases h2 with h2 | ⟨b, o, rfl, h9, h10⟩
  · omega
  have hl : ∀ l ∈ xs.map itL, l.length = 4 := by
    intro l hl
    obtain ⟨x, hx, rfl⟩ := List.mem_map.1 hl
    obtain ⟨L', P', Q', g, c, h4, -⟩ := h3 _ hx
    simp [itL, h4]
  have hc : ∀ j, j < 4 → X.cell? ⟨b, o + i * 4 + j, none⟩ = (itL xs[i])[j]? := by
    intro j hj
    have := h10 (i * 4 + j) (by rw [h1]; omega)
    rw [Nat.add_assoc, this]
    unfold itC
    rw [fl_at hl (by simpa using hi) hj]
    simp
  have e : itL xs[i] = [.int .i64 L, .int .i64 P, .int .i64 Q, xs[i].2] := by simp [itL, hp]
  rw [e] at hc
  exact ⟨b, o, g, c, rfl, h9, hc 0 (by omega), hc 1 (by omega), hc 2 (by omega), by rw [hc 3 (by omega), ← h6]; rfl, h7, h8⟩
theorem Its.page {D : Nat} {xs : List El} (h : finE D xs) (hD : D ≤ 3) {i : Nat} (hi : i < xs.length) : ∃ L P Q : Int, xs[i].1 = [L, P, Q] ∧ PgM.at_ (PgM.allV (D : Int)) i = [L, P, Q] ∧ PgM.validB D L P Q = true := by
  have hk : i < (PgM.allV (D : Int)).length := by rw [← fin_len h]; exact hi
  have e : PgM.at_ (PgM.allV (D : Int)) i = xs[i].1 := by
    have hg : (PgM.allV (D : Int))[i]? = some xs[i].1 := by rw [← (show xs.map Prod.fst = PgM.allV (D : Int) from h)]; simp [hi]
    rw [List.getElem?_eq_getElem hk] at hg
    rw [PgM.at_eq hk]
    exact Option.some.inj hg
  have hm : PgM.at_ (PgM.allV (D : Int)) i ∈ PgM.allV (D : Int) := by rw [PgM.at_eq hk]; exact List.getElem_mem hk
  have h3 : (PgM.at_ (PgM.allV (D : Int)) i).length = 3 := by
    have : ∀ v ∈ PgM.allV (D : Int), v.length = 3 := by
      rcases (show D = 0 ∨ D = 1 ∨ D = 2 ∨ D = 3 by omega) with rfl | rfl | rfl | rfl <;> decide +kernel
    exact this _ hm
  have hv := all_valid hD _ hm
  obtain ⟨L, P, Q, h4⟩ := PgC.len3 h3
  rw [h4] at hv
  exact ⟨L, P, Q, by rw [← e, h4], h4, hv⟩
theorem kp_take {al : List Int → Bool} {xs : List El} {i : Nat} (hi : i < xs.length) : kp al (xs.take (i + 1)) = kp al (xs.take i) ++ (if al xs[i].1 then [] else [xs[i]]) := by
  rw [← List.take_append_getElem hi]
  cases h : al xs[i].1 with
  | true => rw [kp_no h]; simp
  | false => rw [kp_yes h]; simp
theorem kp_at {al : List Int → Bool} {xs : List El} {i : Nat} (hi : i < xs.length) (h : al xs[i].1 = false) : ∃ hk : (kp al (xs.take i)).length < (kp al xs).length, (kp al xs)[(kp al (xs.take i)).length] = xs[i] := by
  have e : kp al xs = kp al (xs.take i) ++ ([xs[i]] ++ kp al (xs.drop (i + 1))) := by
    have : xs = xs.take i ++ ([xs[i]] ++ xs.drop (i + 1)) := by
      rw [← List.append_assoc, List.take_append_getElem hi, List.take_append_drop]
    calc kp al xs = kp al (xs.take i ++ ([xs[i]] ++ xs.drop (i + 1))) := congrArg _ this
      _ = _ := by simp only [kp, List.filter_append]; simp [h]
  have hl : (kp al (xs.take i)).length < (kp al xs).length := by rw [e]; simp
  refine ⟨hl, ?_⟩
  have : (kp al xs)[(kp al (xs.take i)).length]? = some xs[i] := by rw [e]; simp
  rw [List.getElem?_eq_getElem hl] at this
  exact Option.some.inj this
theorem eqB_iff {xs ys : List Int} : eqB xs ys = ((bytesOf xs).toList == (bytesOf ys).toList) := rfl
attribute [local go_sem ↓] load_tex store_tex load_col store_col alloc_col PgA.store_pg eq_pg3
attribute [local go_sem] PgA.pc3 PgA.run_store_pg eq_px px_self Px.c_size Px.c_all c_all4 fold_px run_load_tex run_store_tex run_alloc_col CtB.run_load_col run_store_col rowStore_eq rowLoad_eq one_int one_bool one_sl blk_alloc_at blk_alloc_old blk_drew blk_drewN blk_grow setRow_alloc_at setRow_alloc_old setRow_drew setRow_drewN
set_option maxHeartbeats 8000000 in
theorem CutSame_walk (a0 : Int) (a1 : Bool) (a2 : Option Addr) (len2 cap2 : Nat) (x2 : List (List Value)) (a3 : Option Addr) (len3 cap3 : Nat) (x3 : List (List Value)) (w : World) (w0 : (Lit.int .i64 a0).wf = true) (w2 : Flat.IsRows [some .i64] w a2 len2 cap2 x2) (w3 : Flat.IsRows [some .i64] w a3 len3 cap3 x3) :
    Calls Try.prog 9 #[.int .i64 a0, .bool a1, .slice a2 len2 cap2, .slice a3 len3 cap3] w fun e w' => e = .returned (.bool true) ∧ Below w.heap.size w w' := by
  obtain ⟨zs, hzl, hz, hR, hlc, hcm, -⟩ := Ints.rows_row (s := 1) (by omega) w2
  obtain ⟨ys, hyl, hy, hS, hlc', hcm', -⟩ := Ints.rows_row (s := 1) (by omega) w3
  obtain ⟨d1, d2⟩ := bounds_i64 w0
  clear w0 w2 w3
  have hlen9 : len2 ≤ 9223372036854775807 := by have : maxLen = 9223372036854775807 := rfl; omega
  have hlen8 : len3 ≤ 9223372036854775807 := by have : maxLen = 9223372036854775807 := rfl; omega
  by_cases hb1 : 50 < len2
  · have hb1' : (50 : Int) < (len2 : Int) := by omega
    clear hR hzl hS hyl
    go_enter Try.func9, Try.ntmps9
    go_wp2_with (go_at_call 27; refine (CtH.awake_any _).mono ?_; rintro e w3 ⟨rfl, hb⟩)
    go_ret
    exact ⟨rfl, hb⟩
  have hb1' : ¬ (50 : Int) < (len2 : Int) := by omega
  by_cases hb2 : 50 < len3
  · have hb2' : (50 : Int) < (len3 : Int) := by omega
    clear hR hzl hS hyl
    go_enter Try.func9, Try.ntmps9
    go_wp2_with (go_at_call 27; refine (CtH.awake_any _).mono ?_; rintro e w3 ⟨rfl, hb⟩)
    go_ret
    exact ⟨rfl, hb⟩
  have hb2' : ¬ (50 : Int) < (len3 : Int) := by omega
  clear hzl hyl
  have hS0 := hS
  go_enter Try.func9, Try.ntmps9
  go_wp2_with fail
  refine (Paint_any a0 a1 a2 len2 cap2 zs w d1 d2 hR hz (by omega)).mono ?_
  rintro e w1 ⟨⟨D, u, tm, hD, hD3, rfl, htm, hRBm, hou⟩, hb1⟩
  obtain ⟨q, hq⟩ : ∃ q, q = sd D * sd D := ⟨_, rfl⟩
  have hq0 : 0 < q := by rw [hq]; exact Nat.mul_pos (by have := sd_pos D; omega) (by have := sd_pos D; omega)
  rw [← hq] at hou htm
  obtain ⟨g, cap, rfl, -, -, hgc, hgm, -⟩ := owns_pos hou hq0
  have HQ := Lib.hid hq
  have HD := Lib.hid hD
  clear hq hD
  have hRd := Reads.of_owns hou
  have hS1 := hS.below hb1 (Nat.le_refl _)
  go_wp2_with fail
  refine (Build_any a1 ⟨g, 0, none⟩ q cap _ hRd hD3 HQ.out hRBm).mono ?_
  rintro e w2 ⟨⟨bm, rfl, -, hM2⟩, hb2⟩
  have L2 : Below w.heap.size w w2 := by repeat' (first | (with_reducible exact Below.refl _ _) | (with_reducible refine Rd.below_step ?_ (by assumption)) | (with_reducible refine Rd.below_alloc ?_ _) | (with_reducible refine Rd.below_drewN ?_ _) | (with_reducible refine Below.drew ?_) | (with_reducible refine Below.setCell ?_ ?_ _) | (with_reducible refine Rd.below_setRow ?_ ?_ _) | go_size | (simp only [World.size_alloc]; omega) | omega)
  have hS2 := hS1.below hb2 (Nat.le_refl _)
  clear hRd hou hR hb1 hb2 hS hS0 hS1
  go_wp2_with fail
  refine (Paint_any a0 a1 a3 len3 cap3 ys w2 d1 d2 hS2 hy (by omega)).mono ?_
  rintro e w3 ⟨⟨D', u', tn, hD', -, rfl, htn, hRBn, hou⟩, hb3⟩
  obtain rfl : D' = D := by have := HD.out; omega
  rw [← HQ.out] at hou htn
  obtain ⟨g', cap', rfl, -, -, -, -, -⟩ := owns_pos hou hq0
  have hRd := Reads.of_owns hou
  have hM3 := hM2.below hb3
  have L3 : Below w.heap.size w w3 := L2.trans (hb3.mono L2.size)
  clear hD' hou hb3 hM2 hS2 L2
  go_wp2_with fail
  refine (Build_any a1 ⟨g', 0, none⟩ q cap' _ hRd hD3 HQ.out hRBn).mono ?_
  rintro e w4 ⟨⟨bn, rfl, -, hN4⟩, hb4⟩
  have hM4 := hM3.below hb4
  have L4 : Below w.heap.size w w4 := L3.trans (hb4.mono L3.size)
  clear hRd hb4 hM3 L3
  obtain ⟨al, hal⟩ : ∃ al : List Int → Bool, ∀ L P Q, al [L, P, Q] = eqB (fb (pageP tm D' a1 L P Q)) (fb (pageP tn D' a1 L P Q)) := ⟨fun v => eqB (fb (pageP tm D' a1 (PgM.g v 0) (PgM.g v 1) (PgM.g v 2))) (fb (pageP tn D' a1 (PgM.g v 0) (PgM.g v 1) (PgM.g v 2))), fun L P Q => rfl⟩
  have HA := Lib.hid hal
  have CC := Lib.hid (changed_gen al (.pointer (some ⟨bm, 0, none⟩)) bn D' a1 tn w4 hN4 (.inr ⟨bm, rfl⟩) (by
    intro L P Q g c X hv hb hG
    obtain ⟨L', P', Q', he, -, ho⟩ := hG
    injection he with e1 he; injection he with e2 he; injection he with e3 he
    subst e1; subst e2; subst e3
    have h := alike_any bm bn D' a1 a1 tm tn L P Q ⟨g, 0, none⟩ c X (hM4.below hb) (hN4.below hb) hv (Reads.of_owns ho)
    rw [← hal] at h
    exact h))
  clear hal
  go_wp2_with fail
  refine CC.out.mono ?_
  rintro e w5 ⟨⟨xs, ac, cc, hx1, rfl, hx3, hx4⟩, hb5⟩
  have hI5 : Its tn D' a1 ac (kp al xs) w5 := ⟨hx3, fun x hx => .of (hx4 x (List.mem_filter.1 hx).1)⟩
  have hM5 := hM4.below hb5
  have hN5 := hN4.below hb5
  have L5 : Below w.heap.size w w5 := L4.trans (hb5.mono L4.size)
  clear hx3 hx4 hb5 hM4 hN4 L4 CC
  go_wp2_with fail
  refine (lall_any bm D' a1 tm w5 hM5).mono ?_
  rintro e w6 ⟨⟨xa, aa, ca, ha1, rfl, ha3, ha4⟩, hb6⟩
  have hA6 : Its tm D' a1 aa xa w6 := ⟨ha3, fun x hx => .of (ha4 x hx)⟩
  have hN6 := hN5.below hb6
  have hI6 := hI5.below hb6
  have L6 : Below w.heap.size w w6 := L5.trans (hb6.mono L5.size)
  clear ha3 ha4 hb6 hM5 hN5 hI5 L5
  go_wp2_with fail
  refine (lall_any bn D' a1 tn w6 hN6).mono ?_
  rintro e w7 ⟨⟨xb, ab, cb, hb1, rfl, hb3, hb4⟩, hb7⟩
  have hB7 : Its tn D' a1 ab xb w7 := ⟨hb3, fun x hx => .of (hb4 x hx)⟩
  have hA7 := hA6.below hb7
  have hN7 := hN6.below hb7
  have hI7 := hI6.below hb7
  have L7 : Below w.heap.size w w7 := L6.trans (hb7.mono L6.size)
  clear hb3 hb4 hb7 hA6 hN6 hI6 L6
  obtain ⟨N, hN⟩ : ∃ N, (PgM.allV (D' : Int)).length = N := ⟨_, rfl⟩
  have hN85 : N ≤ 85 := by rw [← hN]; exact all_85 hD3
  have hlx := fin_len hx1
  have hla := fin_len ha1
  have hlb := fin_len hb1
  rw [hN] at hlx hla hlb
  obtain ⟨K, hK⟩ : ∃ K, (kp al xs).length = K := ⟨_, rfl⟩
  have hKN : K ≤ N := by rw [← hK, ← hlx]; exact kp_len al xs
  obtain ⟨ct, hct⟩ : ∃ ct : Nat → Nat, ∀ i, ct i = (kp al (xs.take i)).length := ⟨_, fun i => rfl⟩
  have c0 : ct 0 = 0 := by rw [hct]; rfl
  have cN : ct N = K := by rw [hct, ← hlx, List.take_length, hK]
  have HC : Hid (∀ i, i < N → ∃ L P Q : Int, (∀ X, Its tm D' a1 aa xa X → ∃ b o g c : Nat, aa = some ⟨b, o, none⟩ ∧ b < X.heap.size ∧ X.cell? ⟨b, o + i * 4, none⟩ = some (.int .i64 L) ∧ X.cell? ⟨b, o + i * 4 + 1, none⟩ = some (.int .i64 P) ∧ X.cell? ⟨b, o + i * 4 + 2, none⟩ = some (.int .i64 Q) ∧ X.cell? ⟨b, o + i * 4 + 3, none⟩ = some (.slice (some ⟨g, 0, none⟩) 144 c) ∧ 144 ≤ c ∧ Reads X 1 (some ⟨g, 0, none⟩) 144 (cp (pageP tm D' a1 L P Q)))
      ∧ (∀ X, Its tn D' a1 ab xb X → ∃ b o g c : Nat, ab = some ⟨b, o, none⟩ ∧ b < X.heap.size ∧ X.cell? ⟨b, o + i * 4, none⟩ = some (.int .i64 L) ∧ X.cell? ⟨b, o + i * 4 + 1, none⟩ = some (.int .i64 P) ∧ X.cell? ⟨b, o + i * 4 + 2, none⟩ = some (.int .i64 Q) ∧ X.cell? ⟨b, o + i * 4 + 3, none⟩ = some (.slice (some ⟨g, 0, none⟩) 144 c) ∧ 144 ≤ c ∧ Reads X 1 (some ⟨g, 0, none⟩) 144 (cp (pageP tn D' a1 L P Q)))
      ∧ (eqB (fb (pageP tm D' a1 L P Q)) (fb (pageP tn D' a1 L P Q)) = true → ct (i + 1) = ct i)
      ∧ (eqB (fb (pageP tm D' a1 L P Q)) (fb (pageP tn D' a1 L P Q)) = false → ct (i + 1) = ct i + 1 ∧ ct i < K ∧ ∀ X, Its tn D' a1 ac (kp al xs) X → ∃ b o g c : Nat, ac = some ⟨b, o, none⟩ ∧ b < X.heap.size ∧ X.cell? ⟨b, o + ct i * 4, none⟩ = some (.int .i64 L) ∧ X.cell? ⟨b, o + ct i * 4 + 1, none⟩ = some (.int .i64 P) ∧ X.cell? ⟨b, o + ct i * 4 + 2, none⟩ = some (.int .i64 Q) ∧ X.cell? ⟨b, o + ct i * 4 + 3, none⟩ = some (.slice (some ⟨g, 0, none⟩) 144 c) ∧ 144 ≤ c ∧ Reads X 1 (some ⟨g, 0, none⟩) 144 (cp (pageP tn D' a1 L P Q)))) := Lib.hid (by
    intro i hi
    obtain ⟨L, P, Q, e1, e2, hv⟩ := Its.page hx1 hD3 (i := i) (by omega)
    obtain ⟨L', P', Q', e3, e4, -⟩ := Its.page ha1 hD3 (i := i) (by omega)
    obtain ⟨L'', P'', Q'', e5, e6, -⟩ := Its.page hb1 hD3 (i := i) (by omega)
    rw [e2] at e4 e6
    rw [← e4] at e3
    rw [← e6] at e5
    have hi' : i < xs.length := by omega
    have ht := kp_take (al := al) hi'
    have hs := HA.out L P Q
    rw [e1, hs] at ht
    refine ⟨L, P, Q, fun X hX => hX.at_ _ e3, fun X hX => hX.at_ _ e5, fun h => ?_, fun h => ?_⟩
    · rw [h] at ht
      rw [hct, hct, ht]; simp
    · rw [h] at ht
      obtain ⟨hk1, hk2⟩ := kp_at (al := al) hi' (by rw [e1, hs, h])
      refine ⟨by rw [hct, hct, ht]; simp, by rw [hct, ← hK]; exact hk1, fun X hX => ?_⟩
      rw [hct]
      exact hX.at_ hk1 (by rw [hk2, e1]))
  have HI : Hid (∀ X, Below w7.heap.size w7 X → Its tm D' a1 aa xa X ∧ Its tn D' a1 ab xb X ∧ Its tn D' a1 ac (kp al xs) X ∧ Pyr X bn D' a1 tn) := Lib.hid fun X h => ⟨hA7.below h, hB7.below h, hI7.below h, hN7.below h⟩
  have BM := Lib.hid fun L P Q => fb_bd (pageP_B (D := D') (wr := a1) hRBm L P Q)
  have BN := Lib.hid fun L P Q => fb_bd (pageP_B (D := D') (wr := a1) hRBn L P Q)
  rw [hla, hlb, hK]
  clear hla hlb hlx hN hct hx1 ha1 hb1 hA7 hB7 hI7 hN7 hRBm hRBn HA
  have HcN := Lib.hid cN
  clear cN
  go_upto_region 13 with (fail)
  go_loopw [16, 17] (fun v q X => ∃ i : Nat, i ≤ N ∧ v = .int .i64 (ct i) ∧ q = .int .i64 i ∧ Below w7.heap.size w7 X) (fun _ q _ => N - (intOf q).toNat)
  case atStart => exact ⟨0, by omega, by rw [c0]; rfl, rfl, by repeat' (first | (with_reducible exact Below.refl _ _) | (with_reducible refine Rd.below_step ?_ (by assumption)) | (with_reducible refine Rd.below_alloc ?_ _) | (with_reducible refine Rd.below_drewN ?_ _) | (with_reducible refine Below.drew ?_) | (with_reducible refine Below.setCell ?_ ?_ _) | (with_reducible refine Rd.below_setRow ?_ ?_ _) | go_size | (simp only [World.size_alloc]; omega) | omega)⟩
  case round =>
    obtain ⟨i, hi, rfl, rfl, hb⟩ := hrel
    rename World => X1
    have L8 : Below w.heap.size w X1 := L7.trans (hb.mono L7.size)
    by_cases hiN : i < N
    · have hiN' : (i : Int) < N := by omega
      obtain ⟨L, P, Q, fA, fB, fY, fN⟩ := HC.out i hiN
      obtain ⟨hA, hB, hI, -⟩ := HI.out X1 hb
      obtain ⟨bA, oA, gA, cA, rfl, lA, -, -, -, A3, hcA, rA⟩ := fA X1 hA
      obtain ⟨bB, oB, gB, cB, rfl, lB, B0, B1, B2, B3, hcB, rB⟩ := fB X1 hB
      rw [cp_fb] at rA rB
      have sA := fun d => conv_reads (w := X1.drewN d) (P := Try.prog) (cap := cA) Try.underlying62 Try.underlying5 Try.underlying9 rA (BM.out L P Q)
      have sB := fun d => conv_reads (w := X1.drewN d) (P := Try.prog) (cap := cB) Try.underlying62 Try.underlying5 Try.underlying9 rB (BN.out L P Q)
      obtain ⟨zA, hzA⟩ : ∃ z, fb (pageP tm D' a1 L P Q) = z := ⟨_, rfl⟩
      obtain ⟨zB, hzB⟩ : ∃ z, fb (pageP tn D' a1 L P Q) = z := ⟨_, rfl⟩
      rw [hzA] at sA fY fN
      rw [hzB] at sB fY fN
      cases hE : eqB zA zB with
      | true =>
        have hS : ct (i + 1) = ct i := fY hE
        rw [eqB_iff] at hE
        clear fA fB fY fN hA hB hI hzA hzB rA rB
        go_wp2
        go_quiet (fail)
        go_wp2
        exact ⟨⟨i + 1, by omega, by rw [hS], by go_num, Rd.below_drewN hb _⟩, by simp [intOf]; omega⟩
      | false =>
        obtain ⟨hS, hK1, fI⟩ := fN hE
        obtain ⟨bI, oI, gI, cI, rfl, lI, I0, I1, I2, I3, hcI, rI⟩ := fI X1 hI
        rw [cp_fb, hzB] at rI
        have sI := fun d => conv_reads (w := X1.drewN d) (P := Try.prog) (cap := cI) Try.underlying62 Try.underlying5 Try.underlying9 rI (hzB ▸ BN.out L P Q)
        rw [eqB_iff] at hE
        have hK1' : ¬ (K : Int) ≤ (ct i : Int) := by omega
        clear fA fB fY fN hA hB hI hzA hzB rA rB fI rI
        go_wp2
        go_quiet (fail)
        go_wp2
        have d0 : eqL [L, P, Q] [L, P, Q] = true := decide_eq_true rfl
        have e0 : ((bytesOf zB).toList == (bytesOf zB).toList) = true := by simp
        go_quiet (fail)
        go_wp2
        exact ⟨⟨i + 1, by omega, by rw [hS]; go_num, by go_num, Rd.below_drewN hb _⟩, by simp [intOf]; omega⟩
    · obtain rfl : i = N := by omega
      have hK2 : (ct i : Int) = (K : Int) := by rw [HcN.out]
      obtain ⟨-, -, -, hNX⟩ := HI.out X1 hb
      clear HC HI
      go_wp2_with fail
      refine (changed_self bn D' a1 tn _ hNX).mono ?_
      rintro e w9 ⟨⟨ad, c, rfl⟩, hb9⟩
      have L9 : Below w.heap.size w w9 := L8.trans (hb9.mono L8.size)
      clear hb9 hNX hb
      go_wp2_with fail
      refine (CtH.awake_any _).mono ?_
      rintro e w10 ⟨rfl, hb10⟩
      go_wp2
      go_ret
      exact ⟨rfl, by repeat' (first | (with_reducible exact Below.refl _ _) | (with_reducible refine Rd.below_step ?_ (by assumption)) | (with_reducible refine Rd.below_alloc ?_ _) | (with_reducible refine Rd.below_drewN ?_ _) | (with_reducible refine Below.drew ?_) | (with_reducible refine Below.setCell ?_ ?_ _) | (with_reducible refine Rd.below_setRow ?_ ?_ _) | go_size | (simp only [World.size_alloc]; omega) | omega)⟩
end Go.Proofs.Ytdjiblgnealmkaa.CtJ

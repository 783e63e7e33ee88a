/-
  The reference's Changed.
  Two rows of items are the same.
  The law's all, left off behind so many.
  The law's all: all pages and their bytes, never left off.
  What the law of cut wants of both: a page, a texel, rows of items.
  The law of package cut: as the document says.
-/
import Derived.Test.YtdjiblgnealmkaaRfU
import Derived.Test.YtdjiblgnealmkaaCtJ
import Derived.Test.YtdjiblgnealmkaaCtD
import Derived.RangeFuncBox
import Derived.Maps.OwnIn
import Derived.Test.YtdjiblgnealmkaaCtH
import Derived.Test.YtdjiblgnealmkaaBytes
import Derived.Test.YtdjiblgnealmkaaAlike
namespace Go.Proofs.Ytdjiblgnealmkaa.RfF
open Go.RowKit Rd Go.Proofs.Ytdjiblgnealmkaa.Row Mid DkM HueA MpM MpA MpB MpC MpD MpE MpF MpG RfA RfB RfC
open CtA CtB CtC CtD CtE CtF CtG CtH CtJ
open PgC (eqL eq_pg3)
open MpS (one_sl)
open MpU (atP_in atP_nat bd_keep)
set_option linter.unusedVariables false
set_option linter.unusedSimpArgs false
set_option maxRecDepth 10000
variable {D : Nat} {wr : Bool} {ts : List Px}
theorem gp_keep {ts : List Px} {D : Nat} {wr : Bool} {x : El} {X Y : World} (h : Gp ts D wr x X) (hk : ∀ (k : Nat) (cur : Array Value), X.heap[k]? = some (Obj.cells cur 5 (0, 0)) → Y.heap[k]? = X.heap[k]?) : Gp ts D wr x Y := by
  obtain ⟨L, P, Q, h1, h2, h3⟩ := h
  refine ⟨L, P, Q, h1, h2, own_keep h3 fun k hu => ?_⟩
  obtain ⟨cur, hc⟩ := own_type h3 hu
  exact hk k cur hc
theorem mem_one {p : El → Prop} {ys : List El} {z : El} (h : ∀ x ∈ ys, p x) (h2 : p z) : ∀ x ∈ ys ++ [z], p x := by
  intro x hx
  rcases List.mem_append.1 hx with hx | hx
  · exact h x hx
  · rw [List.mem_singleton.1 hx]; exact h2
theorem gp_below {ts : List Px} {D : Nat} {wr : Bool} {x : El} {X Y : World} (h : Gp ts D wr x X) (hb : Below X.heap.size X Y) : Gp ts D wr x Y := gp_keep h fun k cur hk => hb.block k (blk_lt (show blk X k = _ from hk))
theorem pages_take {D i : Nat} {al : List Int → Bool} {v : List Int} (hi : i < (PgM.allV (D : Int)).length) (hv : PgM.at_ (PgM.allV (D : Int)) i = v) : ((PgM.allV (D : Int)).take (i + 1)).filter (fun v => !al v) = ((PgM.allV (D : Int)).take i).filter (fun v => !al v) ++ (if al v then [] else [v]) := by
  rw [← List.take_append_getElem hi, List.filter_append, ← PgM.at_eq hi, hv]
  cases h : al v <;> simp [h]
theorem filt_len {al : List Int → Bool} {V : List (List Int)} {i : Nat} {ys : List El} (h : ys.map Prod.fst = (V.take i).filter (fun v => !al v)) : ys.length ≤ i := by
  have h1 : ys.length = ((V.take i).filter (fun v => !al v)).length := by rw [← h, List.length_map]
  have h2 := List.length_filter_le (fun v => !al v) (V.take i)
  have h3 : (V.take i).length ≤ i := by rw [List.length_take]; omega
  omega
/-- a page out of the row of all -/
theorem page_at {D i : Nat} (hD : D ≤ 3) (hi : i < (PgM.allV (D : Int)).length) : ∃ L P Q : Int, PgM.at_ (PgM.allV (D : Int)) i = [L, P, Q] ∧ PgM.validB D L P Q = true := by
  have hm : PgM.at_ (PgM.allV (D : Int)) i ∈ PgM.allV (D : Int) := by rw [PgM.at_eq hi]; exact List.getElem_mem hi
  have h3 : (PgM.at_ (PgM.allV (D : Int)) i).length = 3 := by
    have : ∀ v ∈ PgM.allV (D : Int), v.length = 3 := by
      rcases (show D = 0 ∨ D = 1 ∨ D = 2 ∨ D = 3 by omega) with rfl | rfl | rfl | rfl <;> decide +kernel
    exact this _ hm
  have hv := all_valid hD _ hm
  obtain ⟨L, P, Q, h4⟩ := PgC.len3 h3
  rw [h4] at hv
  exact ⟨L, P, Q, h4, hv⟩
attribute [local go_sem ↓] PgA.store_pg
attribute [local go_sem] PgA.pc3 PgA.run_store_pg rowStore_eq rowLoad_eq one_int one_bool one_sl blk_alloc_at blk_alloc_old blk_drew blk_drewN blk_grow setRow_alloc_at setRow_alloc_old setRow_drew setRow_drewN
set_option maxHeartbeats 8000000 in
theorem RChanged_nil (b : Nat) (al : List Int → Bool) (w : World) (h : Rp w b D (D + 1) wr ts) (hal : ∀ L P Q : Int, al [L, P, Q] = false) :
    Calls Try.prog 32 #[.pointer none, .pointer (some ⟨b, 0, none⟩)] w fun e w' => (∃ (ys : List El) (ad : Option Addr) (c : Nat), ys.map Prod.fst = (PgM.allV (D : Int)).filter (fun v => !al v) ∧ ys.length ≤ 85 ∧ e = .returned (.slice ad ys.length c) ∧ ys.length ≤ c ∧ Its ts D wr ad ys w') ∧ Below w.heap.size w w' := by
  have hD := h.d3
  have hbb := h.bb
  have CB := Lib.hid fun (L P Q : Int) (X : World) (hX : Rp X b D (D + 1) wr ts) (hv : PgM.validB D L P Q = true) => RCut_any L P Q X hX hv
  have c0 := h.c0
  have HAL := Lib.hid hal
  obtain ⟨j0, hj, hj0, hj1, hj2⟩ := info_parts info_item
  clear hal
  go_enter Try.func32, Try.ntmps32
  go_wp2_with fail
  refine (PgC.rpages_any (D : Int) w).mono ?_
  rintro e W ⟨⟨pd, c4, rfl, hc4, hm4, hPg⟩, hb4⟩
  have hP4 := h.below hb4
  obtain ⟨N, hN⟩ : ∃ N, (PgM.allV (D : Int)).length = N := ⟨_, rfl⟩
  have hN1 : 1 ≤ N ∧ N ≤ 85 := by
    rw [← hN]
    rcases (show D = 0 ∨ D = 1 ∨ D = 2 ∨ D = 3 by omega) with rfl | rfl | rfl | rfl <;> decide +kernel
  obtain ⟨pb, po, rfl, hpb, hpc⟩ : ∃ pb po, pd = some ⟨pb, po, none⟩ ∧ pb < W.heap.size ∧ ∀ i, i < N → ∀ j, j < 3 → W.cell? ⟨pb, po + i * 3 + j, none⟩ = some (.int .i64 (PgM.g (PgM.at_ (PgM.allV (D : Int)) i) j)) := by
    rcases hPg.2 with h | ⟨pb, po, h1, h2, h3⟩
    · rw [h] at hN; simp at hN; omega
    · exact ⟨pb, po, h1, h2, fun i hi j hj => h3 i (by omega) j hj⟩
  have HC : Hid (∀ i, i < N → ∃ L P Q : Int, PgM.validB D L P Q = true ∧ PgM.at_ (PgM.allV (D : Int)) i = [L, P, Q] ∧ W.cell? ⟨pb, po + i * 3, none⟩ = some (.int .i64 L) ∧ W.cell? ⟨pb, po + i * 3 + 1, none⟩ = some (.int .i64 P) ∧ W.cell? ⟨pb, po + i * 3 + 2, none⟩ = some (.int .i64 Q)) := Lib.hid (by
    intro i hi
    obtain ⟨L, P, Q, e2, hv⟩ := page_at hD (i := i) (by omega)
    have hp := hpc i hi
    rw [e2] at hp
    exact ⟨L, P, Q, hv, e2, hp 0 (by omega), hp 1 (by omega), hp 2 (by omega)⟩)
  have HN := Lib.hid hN
  rw [hN]
  rw [hN] at hc4
  have L4 : Below w.heap.size w W := hb4
  have hWs := L4.size
  clear hN hPg hpc hb4 h c0
  go_upto_region 6 with (fail)
  go_loopw [5, 7] (fun v q X => ∃ (i : Nat) (ys : List El), i ≤ N ∧ q = .int .i64 i ∧ ys.length ≤ i ∧ Hid (ys.map Prod.fst = ((PgM.allV (D : Int)).take i).filter (fun v => !al v)) ∧ Hid (X.ownsRow W.heap.size 78 4 v ys.length (itC ys)) ∧ Hid (∀ x ∈ ys, Gp ts D wr x X) ∧ Below W.heap.size W X) (fun _ q _ => N - (intOf q).toNat)
  case atStart => exact ⟨0, [], by omega, rfl, Nat.le_refl _, Lib.hid rfl, Lib.hid (World.ownsRow_nil _ _ _ _), Lib.hid (fun x hx => by cases hx), Below.refl _ _⟩
  case round =>
    obtain ⟨i, ys, hi, rfl, hyi, HF, HO, HG, hb⟩ := hrel
    rename World => X1
    obtain ⟨va, vc, hva, -, -⟩ := owns_val HO.out
    subst hva
    have L8 : Below w.heap.size w X1 := L4.trans (hb.mono L4.size)
    by_cases hiN : i < N
    · have hiN' : (i : Int) < N := by omega
      obtain ⟨L, P, Q, hv, hat, p0, p1, p2⟩ := HC.out i hiN
      have hX1 := hb.size
      have hPX := hP4.below hb
      have k0 := (hb.cell (p := ⟨pb, po + i * 3, none⟩) hpb).trans p0
      have k1 := (hb.cell (p := ⟨pb, po + i * 3 + 1, none⟩) hpb).trans p1
      have k2 := (hb.cell (p := ⟨pb, po + i * 3 + 2, none⟩) hpb).trans p2
      have HT := Lib.hid (pages_take (al := al) (by rw [HN.out]; exact hiN) hat)
      clear p0 p1 p2 hat
      go_wp2_with fail
      refine (CB.out L P Q X1 hPX hv).mono ?_
      rintro e X2 ⟨⟨v2, rfl, ho2⟩, hb2⟩
      obtain ⟨g2, c2, rfl, -, hl2, hc2, -, -⟩ := owns_pos ho2 (by omega)
      have hGx : Gp ts D wr ([L, P, Q], .slice (some ⟨g2, 0, none⟩) 144 c2) X2 := ⟨L, P, Q, rfl, hv, by rw [cp_fb]; exact owns_mono ho2 (Nat.zero_le _)⟩
      have HO2 := Lib.hid (owns_below' HO.out hb2)
      have HG2 : Hid (∀ x ∈ ys, Gp ts D wr x X2) := Lib.hid fun x hx => gp_below (HG.out x hx) hb2
      have B2 : Below W.heap.size W X2 := hb.trans (hb2.mono hX1)
      have q0 := (B2.cell (p := ⟨pb, po + i * 3, none⟩) hpb).trans ((hb.cell (p := ⟨pb, po + i * 3, none⟩) hpb).symm.trans k0)
      have q1 := (B2.cell (p := ⟨pb, po + i * 3 + 1, none⟩) hpb).trans ((hb.cell (p := ⟨pb, po + i * 3 + 1, none⟩) hpb).symm.trans k1)
      have q2 := (B2.cell (p := ⟨pb, po + i * 3 + 2, none⟩) hpb).trans ((hb.cell (p := ⟨pb, po + i * 3 + 2, none⟩) hpb).symm.trans k2)
      have hp2 : pb < X2.heap.size := by have := B2.size; omega
      have hR2 : Reads X2 1 (some ⟨g2, 0, none⟩) 144 (cp (pageP ts D wr L P Q)) := by rw [cp_fb]; exact Reads.of_owns ho2
      clear HO HG k0 k1 k2 hPX ho2
      have hno : al [L, P, Q] = false := HAL.out L P Q
      go_upto_region 9 with (fail)
      go_quiet (fail)
      go_upto_region 10 with (fail)
      refine Rd.name_world ?_
      intro X3 hX3
      have b23 : Below X2.heap.size X2 X3 := by rw [hX3]; exact Rd.below_drewN (Below.refl _ _) _
      have HO3 := Lib.hid (owns_below' HO2.out b23)
      have HG3 : Hid (∀ x ∈ ys, Gp ts D wr x X3) := Lib.hid fun x hx => gp_below (HG2.out x hx) b23
      have hGx3 := gp_below hGx b23
      have B3 : Below W.heap.size W X3 := B2.trans (b23.mono B2.size)
      have r0 := (b23.cell (p := ⟨pb, po + i * 3, none⟩) hp2).trans q0
      have r1 := (b23.cell (p := ⟨pb, po + i * 3 + 1, none⟩) hp2).trans q1
      have r2 := (b23.cell (p := ⟨pb, po + i * 3 + 2, none⟩) hp2).trans q2
      clear hX3 b23 HO2 HG2 hGx B2 q0 q1 q2 hR2
      have hBi := (Below.refl X3.heap.size X3).alloc (Nat.le_refl _) (.cells #[.int .i64 L, .int .i64 P, .int .i64 Q, .slice (some ⟨g2, 0, none⟩) 144 c2] 78)
      have hRi : Reads (X3.alloc (.cells #[.int .i64 L, .int .i64 P, .int .i64 Q, .slice (some ⟨g2, 0, none⟩) 144 c2] 78)) 4 (some ⟨X3.heap.size, 0, none⟩) 1 (itC [([L, P, Q], .slice (some ⟨g2, 0, none⟩) 144 c2)]) := by rw [itC_one]; exact Rd.reads_new X3 #[.int .i64 L, .int .i64 P, .int .i64 Q, .slice (some ⟨g2, 0, none⟩) 144 c2] 78 4 1 rfl
      go_wp2_with (at_builtin; refine App.wpList_append_reads _ rfl (.tmp 56) (.tmp 63) 68 rfl W.heap.size 78 j0 _ 4 48 Try.underlying68 hj hj0 hj1 hj2 rfl (by decide) _ _ _ rfl (owns_below' HO3.out hBi) (some ⟨X3.heap.size, 0, none⟩) 1 1 _ rfl hRi (by intro u hu; rw [itC_one] at hu; simp [itL] at hu; rcases hu with rfl | rfl | rfl | rfl <;> rfl) (by unfold maxLen; omega) (by omega) (by have := B3.size; simp; omega) ?_; intro v7 w7 ho7 hg7)
      have hk7 : ∀ (k : Nat) (cur : Array Value), X3.heap[k]? = some (Obj.cells cur 5 (0, 0)) → w7.heap[k]? = X3.heap[k]? := fun k cur hk => by
        have hlt := blk_lt (show blk X3 k = _ from hk)
        rw [hg7.block k (by have := hBi.size; omega) (fun e => by
          obtain ⟨cur2, h9⟩ := own_type HO3.out e.symm
          rw [h9] at hk
          cases hk)]
        exact hBi.block k hlt
      have B7 : Below W.heap.size W w7 := (B3.trans (hBi.mono B3.size)).grown hg7 (by have := B3.size; have := hBi.size; omega) (fun j hj => (HO3.out.lt j hj).1)
      exact ⟨⟨i + 1, ys ++ [([L, P, Q], .slice (some ⟨g2, 0, none⟩) 144 c2)], by omega, by go_num, by simp; omega, Lib.hid (by rw [HT.out, List.map_append, HF.out, if_neg (by rw [hno]; decide)]; rfl), Lib.hid (by rw [itC_app, List.length_append]; exact ho7), Lib.hid (mem_one (fun x hx => gp_keep (HG3.out x hx) hk7) (gp_keep hGx3 hk7)), B7⟩, by simp [intOf]; omega⟩
    · obtain rfl : i = N := by omega
      have hO := HO.out
      have hff := HF.out
      rw [List.take_of_length_le (by rw [HN.out]; exact Nat.le_refl _)] at hff
      have hgr : ∀ x ∈ ys, Gr ts D wr x X1 := fun x hx => .of (HG.out x hx)
      obtain ⟨-, -, hvc, -⟩ : ∃ a c, Value.slice va ys.length vc = .slice a ys.length c ∧ True := ⟨va, vc, rfl, trivial⟩
      have hcap : ys.length ≤ vc := by
        obtain ⟨a8, c8, e8, h8, -⟩ := owns_val hO
        cases e8
        exact h8
      have HR := Lib.hid (And.intro hff (And.intro (Reads.of_owns hO) hgr))
      clear hO hff hgr HC
      go_wp2
      go_ret
      exact ⟨⟨ys, va, vc, HR.out.1, by omega, rfl, hcap, HR.out.2.1, HR.out.2.2⟩, L8⟩
set_option maxHeartbeats 8000000 in
theorem RChanged_any (a : Nat) (b : Nat) {ta : List Px} (al : List Int → Bool) (w : World) (hA : Rp w a D (D + 1) wr ta) (h : Rp w b D (D + 1) wr ts) (hal : ∀ L P Q : Int, al [L, P, Q] = eqB (fb (pageP ta D wr L P Q)) (fb (pageP ts D wr L P Q))) :
    Calls Try.prog 32 #[.pointer (some ⟨a, 0, none⟩), .pointer (some ⟨b, 0, none⟩)] w fun e w' => (∃ (ys : List El) (ad : Option Addr) (c : Nat), ys.map Prod.fst = (PgM.allV (D : Int)).filter (fun v => !al v) ∧ ys.length ≤ 85 ∧ e = .returned (.slice ad ys.length c) ∧ ys.length ≤ c ∧ Its ts D wr ad ys w') ∧ Below w.heap.size w w' := by
  have hD := h.d3
  have hbb := h.bb
  have hba := hA.bb
  have CA := Lib.hid fun (L P Q : Int) (X : World) (hX : Rp X a D (D + 1) wr ta) (hv : PgM.validB D L P Q = true) => RCut_any L P Q X hX hv
  have CB := Lib.hid fun (L P Q : Int) (X : World) (hX : Rp X b D (D + 1) wr ts) (hv : PgM.validB D L P Q = true) => RCut_any L P Q X hX hv
  have c0 := h.c0
  have HAL := Lib.hid hal
  obtain ⟨j0, hj, hj0, hj1, hj2⟩ := info_parts info_item
  clear hal
  go_enter Try.func32, Try.ntmps32
  go_wp2_with fail
  refine (PgC.rpages_any (D : Int) w).mono ?_
  rintro e W ⟨⟨pd, c4, rfl, hc4, hm4, hPg⟩, hb4⟩
  have hP4 := h.below hb4
  have hA4 := hA.below hb4
  obtain ⟨N, hN⟩ : ∃ N, (PgM.allV (D : Int)).length = N := ⟨_, rfl⟩
  have hN1 : 1 ≤ N ∧ N ≤ 85 := by
    rw [← hN]
    rcases (show D = 0 ∨ D = 1 ∨ D = 2 ∨ D = 3 by omega) with rfl | rfl | rfl | rfl <;> decide +kernel
  obtain ⟨pb, po, rfl, hpb, hpc⟩ : ∃ pb po, pd = some ⟨pb, po, none⟩ ∧ pb < W.heap.size ∧ ∀ i, i < N → ∀ j, j < 3 → W.cell? ⟨pb, po + i * 3 + j, none⟩ = some (.int .i64 (PgM.g (PgM.at_ (PgM.allV (D : Int)) i) j)) := by
    rcases hPg.2 with h | ⟨pb, po, h1, h2, h3⟩
    · rw [h] at hN; simp at hN; omega
    · exact ⟨pb, po, h1, h2, fun i hi j hj => h3 i (by omega) j hj⟩
  have HC : Hid (∀ i, i < N → ∃ L P Q : Int, PgM.validB D L P Q = true ∧ PgM.at_ (PgM.allV (D : Int)) i = [L, P, Q] ∧ W.cell? ⟨pb, po + i * 3, none⟩ = some (.int .i64 L) ∧ W.cell? ⟨pb, po + i * 3 + 1, none⟩ = some (.int .i64 P) ∧ W.cell? ⟨pb, po + i * 3 + 2, none⟩ = some (.int .i64 Q)) := Lib.hid (by
    intro i hi
    obtain ⟨L, P, Q, e2, hv⟩ := page_at hD (i := i) (by omega)
    have hp := hpc i hi
    rw [e2] at hp
    exact ⟨L, P, Q, hv, e2, hp 0 (by omega), hp 1 (by omega), hp 2 (by omega)⟩)
  have HN := Lib.hid hN
  rw [hN]
  rw [hN] at hc4
  have L4 : Below w.heap.size w W := hb4
  have hWs := L4.size
  clear hN hPg hpc hb4 h c0 hA
  go_upto_region 6 with (fail)
  go_loopw [5, 7] (fun v q X => ∃ (i : Nat) (ys : List El), i ≤ N ∧ q = .int .i64 i ∧ ys.length ≤ i ∧ Hid (ys.map Prod.fst = ((PgM.allV (D : Int)).take i).filter (fun v => !al v)) ∧ Hid (X.ownsRow W.heap.size 78 4 v ys.length (itC ys)) ∧ Hid (∀ x ∈ ys, Gp ts D wr x X) ∧ Below W.heap.size W X) (fun _ q _ => N - (intOf q).toNat)
  case atStart => exact ⟨0, [], by omega, rfl, Nat.le_refl _, Lib.hid rfl, Lib.hid (World.ownsRow_nil _ _ _ _), Lib.hid (fun x hx => by cases hx), Below.refl _ _⟩
  case round =>
    obtain ⟨i, ys, hi, rfl, hyi, HF, HO, HG, hb⟩ := hrel
    rename World => X1
    obtain ⟨va, vc, hva, -, -⟩ := owns_val HO.out
    subst hva
    have L8 : Below w.heap.size w X1 := L4.trans (hb.mono L4.size)
    by_cases hiN : i < N
    · have hiN' : (i : Int) < N := by omega
      obtain ⟨L, P, Q, hv, hat, p0, p1, p2⟩ := HC.out i hiN
      have hX1 := hb.size
      have hPX := hP4.below hb
      have k0 := (hb.cell (p := ⟨pb, po + i * 3, none⟩) hpb).trans p0
      have k1 := (hb.cell (p := ⟨pb, po + i * 3 + 1, none⟩) hpb).trans p1
      have k2 := (hb.cell (p := ⟨pb, po + i * 3 + 2, none⟩) hpb).trans p2
      have HT := Lib.hid (pages_take (al := al) (by rw [HN.out]; exact hiN) hat)
      clear p0 p1 p2 hat
      go_wp2_with fail
      refine (CB.out L P Q X1 hPX hv).mono ?_
      rintro e X2 ⟨⟨v2, rfl, ho2⟩, hb2⟩
      obtain ⟨g2, c2, rfl, -, hl2, hc2, -, -⟩ := owns_pos ho2 (by omega)
      have hGx : Gp ts D wr ([L, P, Q], .slice (some ⟨g2, 0, none⟩) 144 c2) X2 := ⟨L, P, Q, rfl, hv, by rw [cp_fb]; exact owns_mono ho2 (Nat.zero_le _)⟩
      have HO2 := Lib.hid (owns_below' HO.out hb2)
      have HG2 : Hid (∀ x ∈ ys, Gp ts D wr x X2) := Lib.hid fun x hx => gp_below (HG.out x hx) hb2
      have B2 : Below W.heap.size W X2 := hb.trans (hb2.mono hX1)
      have q0 := (B2.cell (p := ⟨pb, po + i * 3, none⟩) hpb).trans ((hb.cell (p := ⟨pb, po + i * 3, none⟩) hpb).symm.trans k0)
      have q1 := (B2.cell (p := ⟨pb, po + i * 3 + 1, none⟩) hpb).trans ((hb.cell (p := ⟨pb, po + i * 3 + 1, none⟩) hpb).symm.trans k1)
      have q2 := (B2.cell (p := ⟨pb, po + i * 3 + 2, none⟩) hpb).trans ((hb.cell (p := ⟨pb, po + i * 3 + 2, none⟩) hpb).symm.trans k2)
      have hp2 : pb < X2.heap.size := by have := B2.size; omega
      have hR2 : Reads X2 1 (some ⟨g2, 0, none⟩) 144 (cp (pageP ts D wr L P Q)) := by rw [cp_fb]; exact Reads.of_owns ho2
      clear HO HG k0 k1 k2 hPX ho2
      have hAX := hA4.below B2
      have hPX := hP4.below B2
      have y0 := hAX.c0
      have y1 := hPX.c0
      have la := hAX.lt
      have lb := hPX.lt
      have bZa := fb_bd (pageP_B (D := D) (wr := wr) hba L P Q)
      have bZb := fb_bd (pageP_B (D := D) (wr := wr) hbb L P Q)
      have hE9 := HAL.out L P Q
      rw [cp_fb] at hR2
      obtain ⟨za, hza⟩ : ∃ z, fb (pageP ta D wr L P Q) = z := ⟨_, rfl⟩
      obtain ⟨zb, hzb⟩ : ∃ z, fb (pageP ts D wr L P Q) = z := ⟨_, rfl⟩
      have CAx : Hid (∀ X, Rp X a D (D + 1) wr ta → Calls Try.prog 29 #[.pointer (some ⟨a, 0, none⟩), PgA.pg L P Q] X fun e w' => (∃ v, e = .returned v ∧ w'.ownsRow X.heap.size 5 1 v 144 (za.map (Value.int .u8))) ∧ Below X.heap.size X w') := Lib.hid fun X hX => by rw [← hza]; exact CA.out L P Q X hX hv
      rw [hza, hzb, eqB_iff] at hE9
      rw [hza] at bZa
      rw [hzb] at bZb hR2
      clear hPX hza hzb
      go_upto_region 9 with (fail)
      cases he9 : al [L, P, Q] with
      | true =>
        rw [he9] at hE9
        replace hE9 := hE9.symm
        refine PredT.region_of (W := X2) (X2.heap.size) (Nat.le_refl _) [] [
            fun _ => True] [
            PredT.At 0 (.pointer (some ⟨a, 0, none⟩)),
            PredT.At 0 (.bool false),
            PredT.At 0 (.bool false),
            PredT.At 0 (.pointer (some ⟨a, 0, none⟩)),
            PredT.At 0 (.pointer (some ⟨a, 0, none⟩)),
            PredT.At 0 (.pointer (some ⟨a, 0, none⟩)),
            PredT.At 0 (.pointer (some ⟨a, 0, none⟩)),
            PredT.At 0 (.int .i64 D),
            PredT.At 0 (.pointer (some ⟨b, 0, none⟩)),
            PredT.At 0 (.pointer (some ⟨b, 0, none⟩)),
            PredT.At 0 (.pointer (some ⟨b, 0, none⟩)),
            PredT.At 0 (.pointer (some ⟨b, 0, none⟩)),
            PredT.At 0 (.int .i64 D),
            PredT.At 0 (.bool false),
            PredT.At 0 (.bool false),
            PredT.At 0 (.bool false),
            PredT.At 0 (.pointer (some ⟨a, 0, none⟩)),
            PredT.At 0 (.slice (some ⟨pb, po, none⟩) N c4),
            PredT.At 0 (.int .i64 i),
            PredT.At 0 (.pointer (some ⟨pb, po + i * 3, none⟩)),
            PredT.At 0 (PgA.pg L P Q),
            PredT.When 0 (fun u y => ∃ g c : Nat, u = .slice (some ⟨g, 0, none⟩) 144 c ∧ Reads y 1 (some ⟨g, 0, none⟩) 144 (za.map (Value.int .u8))),
            PredT.At 0 (.string (bytesOf za)),
            PredT.At 0 (.slice (some ⟨g2, 0, none⟩) 144 c2),
            PredT.At 0 (.string (bytesOf zb)),
            PredT.At 0 (.bool false),
            PredT.At 0 (.bool false)] (by kernel_rfl) (by kernel_rfl) (by kernel_rfl) (by decide) (by decide) ?_ ?_ ?_ ?_ ?_ ?_
        · exact ⟨PredT.at_stab _ _ _ _, PredT.at_stab _ _ _ _, PredT.at_stab _ _ _ _, PredT.at_stab _ _ _ _, PredT.at_stab _ _ _ _, PredT.at_stab _ _ _ _, PredT.at_stab _ _ _ _, PredT.at_stab _ _ _ _, PredT.at_stab _ _ _ _, PredT.at_stab _ _ _ _, PredT.at_stab _ _ _ _, PredT.at_stab _ _ _ _, PredT.at_stab _ _ _ _, PredT.at_stab _ _ _ _, PredT.at_stab _ _ _ _, PredT.at_stab _ _ _ _, PredT.at_stab _ _ _ _, PredT.at_stab _ _ _ _, PredT.at_stab _ _ _ _, PredT.at_stab _ _ _ _, PredT.at_stab _ _ _ _, PredT.when_stab _ _ _ (fun u y y' ⟨g, c, h1, h2⟩ hb => ⟨g, c, h1, h2.below hb (Nat.le_refl _)⟩), PredT.at_stab _ _ _ _, PredT.at_stab _ _ _ _, PredT.at_stab _ _ _ _, PredT.at_stab _ _ _ _, PredT.at_stab _ _ _ _, trivial⟩
        · intro q hq
          rcases List.mem_cons.1 hq with rfl | hq
          · exact fun _ _ h _ => trivial
          cases hq
        · exact trivial
        · refine ⟨.inr ?_, .inr ?_, .inr ?_, .inr ?_, .inr ?_, .inr ?_, .inr ?_, .inr ?_, .inr ?_, .inr ?_, .inr ?_, .inr ?_, .inr ?_, .inr ?_, .inr ?_, .inr ?_, .inr ?_, .inr ?_, .inr ?_, .inr ?_, .inr ?_, .inr ?_, .inr ?_, .inr ?_, .inr ?_, .inr ?_, .inr ?_, trivial⟩
          · intro b9 X ph hE hd hn hS hV hI hF
            have r0 : b9.tmps[0]?.getD undef = .pointer (some ⟨a, 0, none⟩) := (hn 0 (by kernel_rfl)).trans rfl
            exact Pred.yields_run (v := .pointer (some ⟨a, 0, none⟩)) (Pred.wanted_none rfl) (by go_simp) ⟨Below.refl _ _, rfl, Nat.zero_le _⟩
          · intro b9 X ph hE hd hn hS hV hI hF
            obtain ⟨r29, j29⟩ : PredT.At 0 (.pointer (some ⟨a, 0, none⟩)) (b9.tmps[29]?.getD undef) X ph := hV 0 _ 29 rfl rfl (Pred.waits_near (by kernel_rfl) (by kernel_rfl))
            exact Pred.yields_run (v := .bool false) (Pred.wanted_none rfl) (by go_simp) ⟨Below.refl _ _, rfl, Nat.zero_le _⟩
          · intro b9 X ph hE hd hn hS hV hI hF
            obtain ⟨r30, j30⟩ : PredT.At 0 (.bool false) (b9.tmps[30]?.getD undef) X ph := hV 1 _ 30 rfl rfl (Pred.waits_near (by kernel_rfl) (by kernel_rfl))
            exact Pred.yields_run (v := .bool false) (Pred.wanted_none rfl) (by go_simp) ⟨Below.refl _ _, rfl, Nat.zero_le _⟩
          · intro b9 X ph hE hd hn hS hV hI hF
            have r0 : b9.tmps[0]?.getD undef = .pointer (some ⟨a, 0, none⟩) := (hn 0 (by kernel_rfl)).trans rfl
            obtain ⟨r31, j31⟩ : PredT.At 0 (.bool false) (b9.tmps[31]?.getD undef) X ph := hV 2 _ 31 rfl rfl (Pred.waits_near (by kernel_rfl) (by kernel_rfl))
            exact Pred.yields_run (v := .pointer (some ⟨a, 0, none⟩)) ((Pred.wanted_at (g := 2) (d := 31) (f := false) rfl rfl r31).trans rfl) (by go_simp) ⟨Below.refl _ _, rfl, Nat.zero_le _⟩
          · intro b9 X ph hE hd hn hS hV hI hF
            obtain ⟨r32, j32⟩ : PredT.At 0 (.pointer (some ⟨a, 0, none⟩)) (b9.tmps[32]?.getD undef) X ph := hV 3 _ 32 rfl rfl (Pred.waits_near (by kernel_rfl) (by kernel_rfl))
            obtain ⟨r31, j31⟩ : PredT.At 0 (.bool false) (b9.tmps[31]?.getD undef) X ph := hV 2 _ 31 rfl rfl (Pred.waits_near (by kernel_rfl) (by kernel_rfl))
            exact Pred.yields_run (v := .pointer (some ⟨a, 0, none⟩)) ((Pred.wanted_at (g := 2) (d := 31) (f := false) rfl rfl r31).trans rfl) (by go_simp) ⟨Below.refl _ _, rfl, Nat.zero_le _⟩
          · intro b9 X ph hE hd hn hS hV hI hF
            obtain ⟨r33, j33⟩ : PredT.At 0 (.pointer (some ⟨a, 0, none⟩)) (b9.tmps[33]?.getD undef) X ph := hV 4 _ 33 rfl rfl (Pred.waits_near (by kernel_rfl) (by kernel_rfl))
            obtain ⟨r31, j31⟩ : PredT.At 0 (.bool false) (b9.tmps[31]?.getD undef) X ph := hV 2 _ 31 rfl rfl (Pred.waits_near (by kernel_rfl) (by kernel_rfl))
            exact Pred.yields_run (v := .pointer (some ⟨a, 0, none⟩)) ((Pred.wanted_at (g := 2) (d := 31) (f := false) rfl rfl r31).trans rfl) (by go_simp) ⟨Below.refl _ _, rfl, Nat.zero_le _⟩
          · intro b9 X ph hE hd hn hS hV hI hF
            obtain ⟨r34, j34⟩ : PredT.At 0 (.pointer (some ⟨a, 0, none⟩)) (b9.tmps[34]?.getD undef) X ph := hV 5 _ 34 rfl rfl (Pred.waits_near (by kernel_rfl) (by kernel_rfl))
            obtain ⟨r31, j31⟩ : PredT.At 0 (.bool false) (b9.tmps[31]?.getD undef) X ph := hV 2 _ 31 rfl rfl (Pred.waits_near (by kernel_rfl) (by kernel_rfl))
            exact Pred.yields_run (v := .pointer (some ⟨a, 0, none⟩)) ((Pred.wanted_at (g := 2) (d := 31) (f := false) rfl rfl r31).trans rfl) (by go_simp) ⟨Below.refl _ _, rfl, Nat.zero_le _⟩
          · intro b9 X ph hE hd hn hS hV hI hF
            obtain ⟨r35, j35⟩ : PredT.At 0 (.pointer (some ⟨a, 0, none⟩)) (b9.tmps[35]?.getD undef) X ph := hV 6 _ 35 rfl rfl (Pred.waits_near (by kernel_rfl) (by kernel_rfl))
            obtain ⟨r31, j31⟩ : PredT.At 0 (.bool false) (b9.tmps[31]?.getD undef) X ph := hV 2 _ 31 rfl rfl (Pred.waits_near (by kernel_rfl) (by kernel_rfl))
            have z9 := (hE.cell (p := ⟨a, 0, none⟩) la).trans y0
            exact Pred.yields_run (v := .int .i64 D) ((Pred.wanted_at (g := 2) (d := 31) (f := false) rfl rfl r31).trans rfl) (by go_simp) ⟨Below.refl _ _, rfl, Nat.zero_le _⟩
          · intro b9 X ph hE hd hn hS hV hI hF
            have r1 : b9.tmps[1]?.getD undef = .pointer (some ⟨b, 0, none⟩) := (hn 1 (by kernel_rfl)).trans rfl
            obtain ⟨r31, j31⟩ : PredT.At 0 (.bool false) (b9.tmps[31]?.getD undef) X ph := hV 2 _ 31 rfl rfl (Pred.waits_near (by kernel_rfl) (by kernel_rfl))
            exact Pred.yields_run (v := .pointer (some ⟨b, 0, none⟩)) ((Pred.wanted_at (g := 2) (d := 31) (f := false) rfl rfl r31).trans rfl) (by go_simp) ⟨Below.refl _ _, rfl, Nat.zero_le _⟩
          · intro b9 X ph hE hd hn hS hV hI hF
            obtain ⟨r37, j37⟩ : PredT.At 0 (.pointer (some ⟨b, 0, none⟩)) (b9.tmps[37]?.getD undef) X ph := hV 8 _ 37 rfl rfl (Pred.waits_near (by kernel_rfl) (by kernel_rfl))
            obtain ⟨r31, j31⟩ : PredT.At 0 (.bool false) (b9.tmps[31]?.getD undef) X ph := hV 2 _ 31 rfl rfl (Pred.waits_near (by kernel_rfl) (by kernel_rfl))
            exact Pred.yields_run (v := .pointer (some ⟨b, 0, none⟩)) ((Pred.wanted_at (g := 2) (d := 31) (f := false) rfl rfl r31).trans rfl) (by go_simp) ⟨Below.refl _ _, rfl, Nat.zero_le _⟩
          · intro b9 X ph hE hd hn hS hV hI hF
            obtain ⟨r38, j38⟩ : PredT.At 0 (.pointer (some ⟨b, 0, none⟩)) (b9.tmps[38]?.getD undef) X ph := hV 9 _ 38 rfl rfl (Pred.waits_near (by kernel_rfl) (by kernel_rfl))
            obtain ⟨r31, j31⟩ : PredT.At 0 (.bool false) (b9.tmps[31]?.getD undef) X ph := hV 2 _ 31 rfl rfl (Pred.waits_near (by kernel_rfl) (by kernel_rfl))
            exact Pred.yields_run (v := .pointer (some ⟨b, 0, none⟩)) ((Pred.wanted_at (g := 2) (d := 31) (f := false) rfl rfl r31).trans rfl) (by go_simp) ⟨Below.refl _ _, rfl, Nat.zero_le _⟩
          · intro b9 X ph hE hd hn hS hV hI hF
            obtain ⟨r39, j39⟩ : PredT.At 0 (.pointer (some ⟨b, 0, none⟩)) (b9.tmps[39]?.getD undef) X ph := hV 10 _ 39 rfl rfl (Pred.waits_near (by kernel_rfl) (by kernel_rfl))
            obtain ⟨r31, j31⟩ : PredT.At 0 (.bool false) (b9.tmps[31]?.getD undef) X ph := hV 2 _ 31 rfl rfl (Pred.waits_near (by kernel_rfl) (by kernel_rfl))
            exact Pred.yields_run (v := .pointer (some ⟨b, 0, none⟩)) ((Pred.wanted_at (g := 2) (d := 31) (f := false) rfl rfl r31).trans rfl) (by go_simp) ⟨Below.refl _ _, rfl, Nat.zero_le _⟩
          · intro b9 X ph hE hd hn hS hV hI hF
            obtain ⟨r40, j40⟩ : PredT.At 0 (.pointer (some ⟨b, 0, none⟩)) (b9.tmps[40]?.getD undef) X ph := hV 11 _ 40 rfl rfl (Pred.waits_near (by kernel_rfl) (by kernel_rfl))
            obtain ⟨r31, j31⟩ : PredT.At 0 (.bool false) (b9.tmps[31]?.getD undef) X ph := hV 2 _ 31 rfl rfl (Pred.waits_near (by kernel_rfl) (by kernel_rfl))
            have z9 := (hE.cell (p := ⟨b, 0, none⟩) lb).trans y1
            exact Pred.yields_run (v := .int .i64 D) ((Pred.wanted_at (g := 2) (d := 31) (f := false) rfl rfl r31).trans rfl) (by go_simp) ⟨Below.refl _ _, rfl, Nat.zero_le _⟩
          · intro b9 X ph hE hd hn hS hV hI hF
            obtain ⟨r36, j36⟩ : PredT.At 0 (.int .i64 D) (b9.tmps[36]?.getD undef) X ph := hV 7 _ 36 rfl rfl (Pred.waits_near (by kernel_rfl) (by kernel_rfl))
            obtain ⟨r41, j41⟩ : PredT.At 0 (.int .i64 D) (b9.tmps[41]?.getD undef) X ph := hV 12 _ 41 rfl rfl (Pred.waits_near (by kernel_rfl) (by kernel_rfl))
            obtain ⟨r31, j31⟩ : PredT.At 0 (.bool false) (b9.tmps[31]?.getD undef) X ph := hV 2 _ 31 rfl rfl (Pred.waits_near (by kernel_rfl) (by kernel_rfl))
            exact Pred.yields_run (v := .bool false) ((Pred.wanted_at (g := 2) (d := 31) (f := false) rfl rfl r31).trans rfl) (by go_simp) ⟨Below.refl _ _, rfl, Nat.zero_le _⟩
          · intro b9 X ph hE hd hn hS hV hI hF
            obtain ⟨r31, j31⟩ : PredT.At 0 (.bool false) (b9.tmps[31]?.getD undef) X ph := hV 2 _ 31 rfl rfl (Pred.waits_near (by kernel_rfl) (by kernel_rfl))
            obtain ⟨r42, j42⟩ : PredT.At 0 (.bool false) (b9.tmps[42]?.getD undef) X ph := hV 13 _ 42 rfl rfl (Pred.waits_near (by kernel_rfl) (by kernel_rfl))
            exact Pred.yields_run (v := .bool false) (Pred.wanted_none rfl) (by go_simp) ⟨Below.refl _ _, rfl, Nat.zero_le _⟩
          · intro b9 X ph hE hd hn hS hV hI hF
            obtain ⟨r43, j43⟩ : PredT.At 0 (.bool false) (b9.tmps[43]?.getD undef) X ph := hV 14 _ 43 rfl rfl (Pred.waits_near (by kernel_rfl) (by kernel_rfl))
            exact Pred.yields_run (v := .bool false) (Pred.wanted_none rfl) (by go_simp) ⟨Below.refl _ _, rfl, Nat.zero_le _⟩
          · intro b9 X ph hE hd hn hS hV hI hF
            have r0 : b9.tmps[0]?.getD undef = .pointer (some ⟨a, 0, none⟩) := (hn 0 (by kernel_rfl)).trans rfl
            obtain ⟨r44, j44⟩ : PredT.At 0 (.bool false) (b9.tmps[44]?.getD undef) X ph := hV 15 _ 44 rfl rfl (Pred.waits_near (by kernel_rfl) (by kernel_rfl))
            exact Pred.yields_run (v := .pointer (some ⟨a, 0, none⟩)) ((Pred.wanted_at (g := 15) (d := 44) (f := false) rfl rfl r44).trans rfl) (by go_simp) ⟨Below.refl _ _, rfl, Nat.zero_le _⟩
          · intro b9 X ph hE hd hn hS hV hI hF
            have r6 : b9.tmps[6]?.getD undef = .slice (some ⟨pb, po, none⟩) N c4 := (hn 6 (by kernel_rfl)).trans rfl
            obtain ⟨r44, j44⟩ : PredT.At 0 (.bool false) (b9.tmps[44]?.getD undef) X ph := hV 15 _ 44 rfl rfl (Pred.waits_near (by kernel_rfl) (by kernel_rfl))
            exact Pred.yields_run (v := .slice (some ⟨pb, po, none⟩) N c4) ((Pred.wanted_at (g := 15) (d := 44) (f := false) rfl rfl r44).trans rfl) (by go_simp) ⟨Below.refl _ _, rfl, Nat.zero_le _⟩
          · intro b9 X ph hE hd hn hS hV hI hF
            have r7 : b9.tmps[7]?.getD undef = .int .i64 i := (hn 7 (by kernel_rfl)).trans rfl
            obtain ⟨r44, j44⟩ : PredT.At 0 (.bool false) (b9.tmps[44]?.getD undef) X ph := hV 15 _ 44 rfl rfl (Pred.waits_near (by kernel_rfl) (by kernel_rfl))
            exact Pred.yields_run (v := .int .i64 i) ((Pred.wanted_at (g := 15) (d := 44) (f := false) rfl rfl r44).trans rfl) (by go_simp) ⟨Below.refl _ _, rfl, Nat.zero_le _⟩
          · intro b9 X ph hE hd hn hS hV hI hF
            obtain ⟨r46, j46⟩ : PredT.At 0 (.slice (some ⟨pb, po, none⟩) N c4) (b9.tmps[46]?.getD undef) X ph := hV 17 _ 46 rfl rfl (Pred.waits_near (by kernel_rfl) (by kernel_rfl))
            obtain ⟨r47, j47⟩ : PredT.At 0 (.int .i64 i) (b9.tmps[47]?.getD undef) X ph := hV 18 _ 47 rfl rfl (Pred.waits_near (by kernel_rfl) (by kernel_rfl))
            obtain ⟨r44, j44⟩ : PredT.At 0 (.bool false) (b9.tmps[44]?.getD undef) X ph := hV 15 _ 44 rfl rfl (Pred.waits_near (by kernel_rfl) (by kernel_rfl))
            exact Pred.yields_run (v := .pointer (some ⟨pb, po + i * 3, none⟩)) ((Pred.wanted_at (g := 15) (d := 44) (f := false) rfl rfl r44).trans rfl) (by go_simp) ⟨Below.refl _ _, rfl, Nat.zero_le _⟩
          · intro b9 X ph hE hd hn hS hV hI hF
            obtain ⟨r48, j48⟩ : PredT.At 0 (.pointer (some ⟨pb, po + i * 3, none⟩)) (b9.tmps[48]?.getD undef) X ph := hV 19 _ 48 rfl rfl (Pred.waits_near (by kernel_rfl) (by kernel_rfl))
            obtain ⟨r44, j44⟩ : PredT.At 0 (.bool false) (b9.tmps[44]?.getD undef) X ph := hV 15 _ 44 rfl rfl (Pred.waits_near (by kernel_rfl) (by kernel_rfl))
            have z0 := (hE.cell (p := ⟨pb, po + i * 3, none⟩) hp2).trans q0
            have z1 := (hE.cell (p := ⟨pb, po + i * 3 + 1, none⟩) hp2).trans q1
            have z2 := (hE.cell (p := ⟨pb, po + i * 3 + 2, none⟩) hp2).trans q2
            exact Pred.yields_run (v := PgA.pg L P Q) ((Pred.wanted_at (g := 15) (d := 44) (f := false) rfl rfl r44).trans rfl) (by go_simp) ⟨Below.refl _ _, rfl, Nat.zero_le _⟩
          · intro b9 X ph hE hd hn hS hV hI hF
            obtain ⟨r45, j45⟩ : PredT.At 0 (.pointer (some ⟨a, 0, none⟩)) (b9.tmps[45]?.getD undef) X ph := hV 16 _ 45 rfl rfl (Pred.waits_near (by kernel_rfl) (by kernel_rfl))
            obtain ⟨r49, j49⟩ : PredT.At 0 (PgA.pg L P Q) (b9.tmps[49]?.getD undef) X ph := hV 20 _ 49 rfl rfl (Pred.waits_near (by kernel_rfl) (by kernel_rfl))
            obtain ⟨r44, j44⟩ : PredT.At 0 (.bool false) (b9.tmps[44]?.getD undef) X ph := hV 15 _ 44 rfl rfl (Pred.waits_near (by kernel_rfl) (by kernel_rfl))
            refine Pred.yields_call (f := 29) (args := #[.pointer (some ⟨a, 0, none⟩), PgA.pg L P Q]) ((Pred.wanted_at (g := 15) (d := 44) (f := false) rfl rfl r44).trans rfl) (by go_simp) ?_
            refine (CAx.out X (hAX.below hE)).mono ?_
            rintro e w9 ⟨⟨v9, rfl, ho⟩, hb⟩
            obtain ⟨g9, c9, rfl, -, -, -, -, -⟩ := owns_pos ho (by omega)
            exact ⟨_, rfl, hb, Nat.zero_le _, fun _ => ⟨g9, c9, rfl, Reads.of_owns ho⟩⟩
          · intro b9 X ph hE hd hn hS hV hI hF
            obtain ⟨j50, r50⟩ : PredT.When 0 (fun u y => ∃ g c : Nat, u = .slice (some ⟨g, 0, none⟩) 144 c ∧ Reads y 1 (some ⟨g, 0, none⟩) 144 (za.map (Value.int .u8))) (b9.tmps[50]?.getD undef) X ph := hV 21 _ 50 rfl rfl (Pred.waits_near (by kernel_rfl) (by kernel_rfl))
            obtain ⟨r44, j44⟩ : PredT.At 0 (.bool false) (b9.tmps[44]?.getD undef) X ph := hV 15 _ 44 rfl rfl (Pred.waits_near (by kernel_rfl) (by kernel_rfl))
            obtain ⟨g9, c9, hv9, hr9⟩ := r50 (by have := PredT.sel_le hS; simp at this; omega)
            have r50e : b9.tmps[50]?.getD undef = .slice (some ⟨g9, 0, none⟩) 144 c9 := hv9
            have cv := conv_reads (P := Try.prog) (cap := c9) Try.underlying62 Try.underlying5 Try.underlying9 hr9 bZa
            exact Pred.yields_run (v := .string (bytesOf za)) ((Pred.wanted_at (g := 15) (d := 44) (f := false) rfl rfl r44).trans rfl) (by go_simp) ⟨Below.refl _ _, rfl, Nat.zero_le _⟩
          · intro b9 X ph hE hd hn hS hV hI hF
            have r8 : b9.tmps[8]?.getD undef = .slice (some ⟨g2, 0, none⟩) 144 c2 := (hn 8 (by kernel_rfl)).trans rfl
            obtain ⟨r44, j44⟩ : PredT.At 0 (.bool false) (b9.tmps[44]?.getD undef) X ph := hV 15 _ 44 rfl rfl (Pred.waits_near (by kernel_rfl) (by kernel_rfl))
            exact Pred.yields_run (v := .slice (some ⟨g2, 0, none⟩) 144 c2) ((Pred.wanted_at (g := 15) (d := 44) (f := false) rfl rfl r44).trans rfl) (by go_simp) ⟨Below.refl _ _, rfl, Nat.zero_le _⟩
          · intro b9 X ph hE hd hn hS hV hI hF
            obtain ⟨r52, j52⟩ : PredT.At 0 (.slice (some ⟨g2, 0, none⟩) 144 c2) (b9.tmps[52]?.getD undef) X ph := hV 23 _ 52 rfl rfl (Pred.waits_near (by kernel_rfl) (by kernel_rfl))
            obtain ⟨r44, j44⟩ : PredT.At 0 (.bool false) (b9.tmps[44]?.getD undef) X ph := hV 15 _ 44 rfl rfl (Pred.waits_near (by kernel_rfl) (by kernel_rfl))
            have cv := conv_reads (P := Try.prog) (cap := c2) Try.underlying62 Try.underlying5 Try.underlying9 (hR2.below hE (Nat.le_refl _)) bZb
            exact Pred.yields_run (v := .string (bytesOf zb)) ((Pred.wanted_at (g := 15) (d := 44) (f := false) rfl rfl r44).trans rfl) (by go_simp) ⟨Below.refl _ _, rfl, Nat.zero_le _⟩
          · intro b9 X ph hE hd hn hS hV hI hF
            obtain ⟨r51, j51⟩ : PredT.At 0 (.string (bytesOf za)) (b9.tmps[51]?.getD undef) X ph := hV 22 _ 51 rfl rfl (Pred.waits_near (by kernel_rfl) (by kernel_rfl))
            obtain ⟨r53, j53⟩ : PredT.At 0 (.string (bytesOf zb)) (b9.tmps[53]?.getD undef) X ph := hV 24 _ 53 rfl rfl (Pred.waits_near (by kernel_rfl) (by kernel_rfl))
            obtain ⟨r44, j44⟩ : PredT.At 0 (.bool false) (b9.tmps[44]?.getD undef) X ph := hV 15 _ 44 rfl rfl (Pred.waits_near (by kernel_rfl) (by kernel_rfl))
            exact Pred.yields_run (v := .bool false) ((Pred.wanted_at (g := 15) (d := 44) (f := false) rfl rfl r44).trans rfl) (by go_simp) ⟨Below.refl _ _, rfl, Nat.zero_le _⟩
          · intro b9 X ph hE hd hn hS hV hI hF
            obtain ⟨r44, j44⟩ : PredT.At 0 (.bool false) (b9.tmps[44]?.getD undef) X ph := hV 15 _ 44 rfl rfl (Pred.waits_near (by kernel_rfl) (by kernel_rfl))
            obtain ⟨r54, j54⟩ : PredT.At 0 (.bool false) (b9.tmps[54]?.getD undef) X ph := hV 25 _ 54 rfl rfl (Pred.waits_near (by kernel_rfl) (by kernel_rfl))
            exact Pred.yields_run (v := .bool false) (Pred.wanted_none rfl) (by go_simp) ⟨Below.refl _ _, rfl, Nat.zero_le _⟩
        · trivial
        intro v X hE hS hv
        replace hS : (fun _ => True) X := hS
        have e0 : v 0 = .pointer (some ⟨a, 0, none⟩) := (hv 0 _ 29 rfl rfl).1
        have e1 : v 1 = .bool false := (hv 1 _ 30 rfl rfl).1
        have e2 : v 2 = .bool false := (hv 2 _ 31 rfl rfl).1
        have e3 : v 3 = .pointer (some ⟨a, 0, none⟩) := (hv 3 _ 32 rfl rfl).1
        have e4 : v 4 = .pointer (some ⟨a, 0, none⟩) := (hv 4 _ 33 rfl rfl).1
        have e5 : v 5 = .pointer (some ⟨a, 0, none⟩) := (hv 5 _ 34 rfl rfl).1
        have e6 : v 6 = .pointer (some ⟨a, 0, none⟩) := (hv 6 _ 35 rfl rfl).1
        have e7 : v 7 = .int .i64 D := (hv 7 _ 36 rfl rfl).1
        have e8 : v 8 = .pointer (some ⟨b, 0, none⟩) := (hv 8 _ 37 rfl rfl).1
        have e9 : v 9 = .pointer (some ⟨b, 0, none⟩) := (hv 9 _ 38 rfl rfl).1
        have e10 : v 10 = .pointer (some ⟨b, 0, none⟩) := (hv 10 _ 39 rfl rfl).1
        have e11 : v 11 = .pointer (some ⟨b, 0, none⟩) := (hv 11 _ 40 rfl rfl).1
        have e12 : v 12 = .int .i64 D := (hv 12 _ 41 rfl rfl).1
        have e13 : v 13 = .bool false := (hv 13 _ 42 rfl rfl).1
        have e14 : v 14 = .bool false := (hv 14 _ 43 rfl rfl).1
        have e15 : v 15 = .bool false := (hv 15 _ 44 rfl rfl).1
        have e16 : v 16 = .pointer (some ⟨a, 0, none⟩) := (hv 16 _ 45 rfl rfl).1
        have e17 : v 17 = .slice (some ⟨pb, po, none⟩) N c4 := (hv 17 _ 46 rfl rfl).1
        have e18 : v 18 = .int .i64 i := (hv 18 _ 47 rfl rfl).1
        have e19 : v 19 = .pointer (some ⟨pb, po + i * 3, none⟩) := (hv 19 _ 48 rfl rfl).1
        have e20 : v 20 = PgA.pg L P Q := (hv 20 _ 49 rfl rfl).1
        generalize hg21 : v 21 = vv21
        have e22 : v 22 = .string (bytesOf za) := (hv 22 _ 51 rfl rfl).1
        have e23 : v 23 = .slice (some ⟨g2, 0, none⟩) 144 c2 := (hv 23 _ 52 rfl rfl).1
        have e24 : v 24 = .string (bytesOf zb) := (hv 24 _ 53 rfl rfl).1
        have e25 : v 25 = .bool false := (hv 25 _ 54 rfl rfl).1
        have e26 : v 26 = .bool false := (hv 26 _ 55 rfl rfl).1
        simp only [Pred.putsF_cons, Pred.putsF_nil, Nat.zero_add, Nat.reduceAdd, e0, e1, e2, e3, e4, e5, e6, e7, e8, e9, e10, e11, e12, e13, e14, e15, e16, e17, e18, e19, e20, hg21, e22, e23, e24, e25, e26, Act.put, List.setIfInBounds_toArray, List.set_cons_zero, List.set_cons_succ]
        clear e0 e1 e2 e3 e4 e5 e6 e7 e8 e9 e10 e11 e12 e13 e14 e15 e16 e17 e18 e19 e20 hg21 e22 e23 e24 e25 e26 hv
        rename World => X3
        have b23 : Below X2.heap.size X2 X3 := hE
        have HO3 := Lib.hid (owns_below' HO2.out b23)
        have HG3 : Hid (∀ x ∈ ys, Gp ts D wr x X3) := Lib.hid fun x hx => gp_below (HG2.out x hx) b23
        have B3 : Below W.heap.size W X3 := B2.trans (b23.mono B2.size)
        clear hE b23 HO2 HG2 hGx B2 q0 q1 q2 hR2 hAX y0 y1
        go_wp2
        exact ⟨⟨i + 1, ys, by omega, by go_num, by omega, Lib.hid (by rw [HT.out, HF.out, if_pos he9, List.append_nil]), HO3, HG3, B3⟩, by simp [intOf]; omega⟩
      | false =>
        rw [he9] at hE9
        replace hE9 := hE9.symm
        refine PredT.region_of (W := X2) (X2.heap.size) (Nat.le_refl _) [] [
            fun _ => True] [
            PredT.At 0 (.pointer (some ⟨a, 0, none⟩)),
            PredT.At 0 (.bool false),
            PredT.At 0 (.bool false),
            PredT.At 0 (.pointer (some ⟨a, 0, none⟩)),
            PredT.At 0 (.pointer (some ⟨a, 0, none⟩)),
            PredT.At 0 (.pointer (some ⟨a, 0, none⟩)),
            PredT.At 0 (.pointer (some ⟨a, 0, none⟩)),
            PredT.At 0 (.int .i64 D),
            PredT.At 0 (.pointer (some ⟨b, 0, none⟩)),
            PredT.At 0 (.pointer (some ⟨b, 0, none⟩)),
            PredT.At 0 (.pointer (some ⟨b, 0, none⟩)),
            PredT.At 0 (.pointer (some ⟨b, 0, none⟩)),
            PredT.At 0 (.int .i64 D),
            PredT.At 0 (.bool false),
            PredT.At 0 (.bool false),
            PredT.At 0 (.bool false),
            PredT.At 0 (.pointer (some ⟨a, 0, none⟩)),
            PredT.At 0 (.slice (some ⟨pb, po, none⟩) N c4),
            PredT.At 0 (.int .i64 i),
            PredT.At 0 (.pointer (some ⟨pb, po + i * 3, none⟩)),
            PredT.At 0 (PgA.pg L P Q),
            PredT.When 0 (fun u y => ∃ g c : Nat, u = .slice (some ⟨g, 0, none⟩) 144 c ∧ Reads y 1 (some ⟨g, 0, none⟩) 144 (za.map (Value.int .u8))),
            PredT.At 0 (.string (bytesOf za)),
            PredT.At 0 (.slice (some ⟨g2, 0, none⟩) 144 c2),
            PredT.At 0 (.string (bytesOf zb)),
            PredT.At 0 (.bool true),
            PredT.At 0 (.bool true)] (by kernel_rfl) (by kernel_rfl) (by kernel_rfl) (by decide) (by decide) ?_ ?_ ?_ ?_ ?_ ?_
        · exact ⟨PredT.at_stab _ _ _ _, PredT.at_stab _ _ _ _, PredT.at_stab _ _ _ _, PredT.at_stab _ _ _ _, PredT.at_stab _ _ _ _, PredT.at_stab _ _ _ _, PredT.at_stab _ _ _ _, PredT.at_stab _ _ _ _, PredT.at_stab _ _ _ _, PredT.at_stab _ _ _ _, PredT.at_stab _ _ _ _, PredT.at_stab _ _ _ _, PredT.at_stab _ _ _ _, PredT.at_stab _ _ _ _, PredT.at_stab _ _ _ _, PredT.at_stab _ _ _ _, PredT.at_stab _ _ _ _, PredT.at_stab _ _ _ _, PredT.at_stab _ _ _ _, PredT.at_stab _ _ _ _, PredT.at_stab _ _ _ _, PredT.when_stab _ _ _ (fun u y y' ⟨g, c, h1, h2⟩ hb => ⟨g, c, h1, h2.below hb (Nat.le_refl _)⟩), PredT.at_stab _ _ _ _, PredT.at_stab _ _ _ _, PredT.at_stab _ _ _ _, PredT.at_stab _ _ _ _, PredT.at_stab _ _ _ _, trivial⟩
        · intro q hq
          rcases List.mem_cons.1 hq with rfl | hq
          · exact fun _ _ h _ => trivial
          cases hq
        · exact trivial
        · refine ⟨.inr ?_, .inr ?_, .inr ?_, .inr ?_, .inr ?_, .inr ?_, .inr ?_, .inr ?_, .inr ?_, .inr ?_, .inr ?_, .inr ?_, .inr ?_, .inr ?_, .inr ?_, .inr ?_, .inr ?_, .inr ?_, .inr ?_, .inr ?_, .inr ?_, .inr ?_, .inr ?_, .inr ?_, .inr ?_, .inr ?_, .inr ?_, trivial⟩
          · intro b9 X ph hE hd hn hS hV hI hF
            have r0 : b9.tmps[0]?.getD undef = .pointer (some ⟨a, 0, none⟩) := (hn 0 (by kernel_rfl)).trans rfl
            exact Pred.yields_run (v := .pointer (some ⟨a, 0, none⟩)) (Pred.wanted_none rfl) (by go_simp) ⟨Below.refl _ _, rfl, Nat.zero_le _⟩
          · intro b9 X ph hE hd hn hS hV hI hF
            obtain ⟨r29, j29⟩ : PredT.At 0 (.pointer (some ⟨a, 0, none⟩)) (b9.tmps[29]?.getD undef) X ph := hV 0 _ 29 rfl rfl (Pred.waits_near (by kernel_rfl) (by kernel_rfl))
            exact Pred.yields_run (v := .bool false) (Pred.wanted_none rfl) (by go_simp) ⟨Below.refl _ _, rfl, Nat.zero_le _⟩
          · intro b9 X ph hE hd hn hS hV hI hF
            obtain ⟨r30, j30⟩ : PredT.At 0 (.bool false) (b9.tmps[30]?.getD undef) X ph := hV 1 _ 30 rfl rfl (Pred.waits_near (by kernel_rfl) (by kernel_rfl))
            exact Pred.yields_run (v := .bool false) (Pred.wanted_none rfl) (by go_simp) ⟨Below.refl _ _, rfl, Nat.zero_le _⟩
          · intro b9 X ph hE hd hn hS hV hI hF
            have r0 : b9.tmps[0]?.getD undef = .pointer (some ⟨a, 0, none⟩) := (hn 0 (by kernel_rfl)).trans rfl
            obtain ⟨r31, j31⟩ : PredT.At 0 (.bool false) (b9.tmps[31]?.getD undef) X ph := hV 2 _ 31 rfl rfl (Pred.waits_near (by kernel_rfl) (by kernel_rfl))
            exact Pred.yields_run (v := .pointer (some ⟨a, 0, none⟩)) ((Pred.wanted_at (g := 2) (d := 31) (f := false) rfl rfl r31).trans rfl) (by go_simp) ⟨Below.refl _ _, rfl, Nat.zero_le _⟩
          · intro b9 X ph hE hd hn hS hV hI hF
            obtain ⟨r32, j32⟩ : PredT.At 0 (.pointer (some ⟨a, 0, none⟩)) (b9.tmps[32]?.getD undef) X ph := hV 3 _ 32 rfl rfl (Pred.waits_near (by kernel_rfl) (by kernel_rfl))
            obtain ⟨r31, j31⟩ : PredT.At 0 (.bool false) (b9.tmps[31]?.getD undef) X ph := hV 2 _ 31 rfl rfl (Pred.waits_near (by kernel_rfl) (by kernel_rfl))
            exact Pred.yields_run (v := .pointer (some ⟨a, 0, none⟩)) ((Pred.wanted_at (g := 2) (d := 31) (f := false) rfl rfl r31).trans rfl) (by go_simp) ⟨Below.refl _ _, rfl, Nat.zero_le _⟩
          · intro b9 X ph hE hd hn hS hV hI hF
            obtain ⟨r33, j33⟩ : PredT.At 0 (.pointer (some ⟨a, 0, none⟩)) (b9.tmps[33]?.getD undef) X ph := hV 4 _ 33 rfl rfl (Pred.waits_near (by kernel_rfl) (by kernel_rfl))
            obtain ⟨r31, j31⟩ : PredT.At 0 (.bool false) (b9.tmps[31]?.getD undef) X ph := hV 2 _ 31 rfl rfl (Pred.waits_near (by kernel_rfl) (by kernel_rfl))
            exact Pred.yields_run (v := .pointer (some ⟨a, 0, none⟩)) ((Pred.wanted_at (g := 2) (d := 31) (f := false) rfl rfl r31).trans rfl) (by go_simp) ⟨Below.refl _ _, rfl, Nat.zero_le _⟩
          · intro b9 X ph hE hd hn hS hV hI hF
            obtain ⟨r34, j34⟩ : PredT.At 0 (.pointer (some ⟨a, 0, none⟩)) (b9.tmps[34]?.getD undef) X ph := hV 5 _ 34 rfl rfl (Pred.waits_near (by kernel_rfl) (by kernel_rfl))
            obtain ⟨r31, j31⟩ : PredT.At 0 (.bool false) (b9.tmps[31]?.getD undef) X ph := hV 2 _ 31 rfl rfl (Pred.waits_near (by kernel_rfl) (by kernel_rfl))
            exact Pred.yields_run (v := .pointer (some ⟨a, 0, none⟩)) ((Pred.wanted_at (g := 2) (d := 31) (f := false) rfl rfl r31).trans rfl) (by go_simp) ⟨Below.refl _ _, rfl, Nat.zero_le _⟩
          · intro b9 X ph hE hd hn hS hV hI hF
            obtain ⟨r35, j35⟩ : PredT.At 0 (.pointer (some ⟨a, 0, none⟩)) (b9.tmps[35]?.getD undef) X ph := hV 6 _ 35 rfl rfl (Pred.waits_near (by kernel_rfl) (by kernel_rfl))
            obtain ⟨r31, j31⟩ : PredT.At 0 (.bool false) (b9.tmps[31]?.getD undef) X ph := hV 2 _ 31 rfl rfl (Pred.waits_near (by kernel_rfl) (by kernel_rfl))
            have z9 := (hE.cell (p := ⟨a, 0, none⟩) la).trans y0
            exact Pred.yields_run (v := .int .i64 D) ((Pred.wanted_at (g := 2) (d := 31) (f := false) rfl rfl r31).trans rfl) (by go_simp) ⟨Below.refl _ _, rfl, Nat.zero_le _⟩
          · intro b9 X ph hE hd hn hS hV hI hF
            have r1 : b9.tmps[1]?.getD undef = .pointer (some ⟨b, 0, none⟩) := (hn 1 (by kernel_rfl)).trans rfl
            obtain ⟨r31, j31⟩ : PredT.At 0 (.bool false) (b9.tmps[31]?.getD undef) X ph := hV 2 _ 31 rfl rfl (Pred.waits_near (by kernel_rfl) (by kernel_rfl))
            exact Pred.yields_run (v := .pointer (some ⟨b, 0, none⟩)) ((Pred.wanted_at (g := 2) (d := 31) (f := false) rfl rfl r31).trans rfl) (by go_simp) ⟨Below.refl _ _, rfl, Nat.zero_le _⟩
          · intro b9 X ph hE hd hn hS hV hI hF
            obtain ⟨r37, j37⟩ : PredT.At 0 (.pointer (some ⟨b, 0, none⟩)) (b9.tmps[37]?.getD undef) X ph := hV 8 _ 37 rfl rfl (Pred.waits_near (by kernel_rfl) (by kernel_rfl))
            obtain ⟨r31, j31⟩ : PredT.At 0 (.bool false) (b9.tmps[31]?.getD undef) X ph := hV 2 _ 31 rfl rfl (Pred.waits_near (by kernel_rfl) (by kernel_rfl))
            exact Pred.yields_run (v := .pointer (some ⟨b, 0, none⟩)) ((Pred.wanted_at (g := 2) (d := 31) (f := false) rfl rfl r31).trans rfl) (by go_simp) ⟨Below.refl _ _, rfl, Nat.zero_le _⟩
          · intro b9 X ph hE hd hn hS hV hI hF
            obtain ⟨r38, j38⟩ : PredT.At 0 (.pointer (some ⟨b, 0, none⟩)) (b9.tmps[38]?.getD undef) X ph := hV 9 _ 38 rfl rfl (Pred.waits_near (by kernel_rfl) (by kernel_rfl))
            obtain ⟨r31, j31⟩ : PredT.At 0 (.bool false) (b9.tmps[31]?.getD undef) X ph := hV 2 _ 31 rfl rfl (Pred.waits_near (by kernel_rfl) (by kernel_rfl))
            exact Pred.yields_run (v := .pointer (some ⟨b, 0, none⟩)) ((Pred.wanted_at (g := 2) (d := 31) (f := false) rfl rfl r31).trans rfl) (by go_simp) ⟨Below.refl _ _, rfl, Nat.zero_le _⟩
          · intro b9 X ph hE hd hn hS hV hI hF
            obtain ⟨r39, j39⟩ : PredT.At 0 (.pointer (some ⟨b, 0, none⟩)) (b9.tmps[39]?.getD undef) X ph := hV 10 _ 39 rfl rfl (Pred.waits_near (by kernel_rfl) (by kernel_rfl))
            obtain ⟨r31, j31⟩ : PredT.At 0 (.bool false) (b9.tmps[31]?.getD undef) X ph := hV 2 _ 31 rfl rfl (Pred.waits_near (by kernel_rfl) (by kernel_rfl))
            exact Pred.yields_run (v := .pointer (some ⟨b, 0, none⟩)) ((Pred.wanted_at (g := 2) (d := 31) (f := false) rfl rfl r31).trans rfl) (by go_simp) ⟨Below.refl _ _, rfl, Nat.zero_le _⟩
          · intro b9 X ph hE hd hn hS hV hI hF
            obtain ⟨r40, j40⟩ : PredT.At 0 (.pointer (some ⟨b, 0, none⟩)) (b9.tmps[40]?.getD undef) X ph := hV 11 _ 40 rfl rfl (Pred.waits_near (by kernel_rfl) (by kernel_rfl))
            obtain ⟨r31, j31⟩ : PredT.At 0 (.bool false) (b9.tmps[31]?.getD undef) X ph := hV 2 _ 31 rfl rfl (Pred.waits_near (by kernel_rfl) (by kernel_rfl))
            have z9 := (hE.cell (p := ⟨b, 0, none⟩) lb).trans y1
            exact Pred.yields_run (v := .int .i64 D) ((Pred.wanted_at (g := 2) (d := 31) (f := false) rfl rfl r31).trans rfl) (by go_simp) ⟨Below.refl _ _, rfl, Nat.zero_le _⟩
          · intro b9 X ph hE hd hn hS hV hI hF
            obtain ⟨r36, j36⟩ : PredT.At 0 (.int .i64 D) (b9.tmps[36]?.getD undef) X ph := hV 7 _ 36 rfl rfl (Pred.waits_near (by kernel_rfl) (by kernel_rfl))
            obtain ⟨r41, j41⟩ : PredT.At 0 (.int .i64 D) (b9.tmps[41]?.getD undef) X ph := hV 12 _ 41 rfl rfl (Pred.waits_near (by kernel_rfl) (by kernel_rfl))
            obtain ⟨r31, j31⟩ : PredT.At 0 (.bool false) (b9.tmps[31]?.getD undef) X ph := hV 2 _ 31 rfl rfl (Pred.waits_near (by kernel_rfl) (by kernel_rfl))
            exact Pred.yields_run (v := .bool false) ((Pred.wanted_at (g := 2) (d := 31) (f := false) rfl rfl r31).trans rfl) (by go_simp) ⟨Below.refl _ _, rfl, Nat.zero_le _⟩
          · intro b9 X ph hE hd hn hS hV hI hF
            obtain ⟨r31, j31⟩ : PredT.At 0 (.bool false) (b9.tmps[31]?.getD undef) X ph := hV 2 _ 31 rfl rfl (Pred.waits_near (by kernel_rfl) (by kernel_rfl))
            obtain ⟨r42, j42⟩ : PredT.At 0 (.bool false) (b9.tmps[42]?.getD undef) X ph := hV 13 _ 42 rfl rfl (Pred.waits_near (by kernel_rfl) (by kernel_rfl))
            exact Pred.yields_run (v := .bool false) (Pred.wanted_none rfl) (by go_simp) ⟨Below.refl _ _, rfl, Nat.zero_le _⟩
          · intro b9 X ph hE hd hn hS hV hI hF
            obtain ⟨r43, j43⟩ : PredT.At 0 (.bool false) (b9.tmps[43]?.getD undef) X ph := hV 14 _ 43 rfl rfl (Pred.waits_near (by kernel_rfl) (by kernel_rfl))
            exact Pred.yields_run (v := .bool false) (Pred.wanted_none rfl) (by go_simp) ⟨Below.refl _ _, rfl, Nat.zero_le _⟩
          · intro b9 X ph hE hd hn hS hV hI hF
            have r0 : b9.tmps[0]?.getD undef = .pointer (some ⟨a, 0, none⟩) := (hn 0 (by kernel_rfl)).trans rfl
            obtain ⟨r44, j44⟩ : PredT.At 0 (.bool false) (b9.tmps[44]?.getD undef) X ph := hV 15 _ 44 rfl rfl (Pred.waits_near (by kernel_rfl) (by kernel_rfl))
            exact Pred.yields_run (v := .pointer (some ⟨a, 0, none⟩)) ((Pred.wanted_at (g := 15) (d := 44) (f := false) rfl rfl r44).trans rfl) (by go_simp) ⟨Below.refl _ _, rfl, Nat.zero_le _⟩
          · intro b9 X ph hE hd hn hS hV hI hF
            have r6 : b9.tmps[6]?.getD undef = .slice (some ⟨pb, po, none⟩) N c4 := (hn 6 (by kernel_rfl)).trans rfl
            obtain ⟨r44, j44⟩ : PredT.At 0 (.bool false) (b9.tmps[44]?.getD undef) X ph := hV 15 _ 44 rfl rfl (Pred.waits_near (by kernel_rfl) (by kernel_rfl))
            exact Pred.yields_run (v := .slice (some ⟨pb, po, none⟩) N c4) ((Pred.wanted_at (g := 15) (d := 44) (f := false) rfl rfl r44).trans rfl) (by go_simp) ⟨Below.refl _ _, rfl, Nat.zero_le _⟩
          · intro b9 X ph hE hd hn hS hV hI hF
            have r7 : b9.tmps[7]?.getD undef = .int .i64 i := (hn 7 (by kernel_rfl)).trans rfl
            obtain ⟨r44, j44⟩ : PredT.At 0 (.bool false) (b9.tmps[44]?.getD undef) X ph := hV 15 _ 44 rfl rfl (Pred.waits_near (by kernel_rfl) (by kernel_rfl))
            exact Pred.yields_run (v := .int .i64 i) ((Pred.wanted_at (g := 15) (d := 44) (f := false) rfl rfl r44).trans rfl) (by go_simp) ⟨Below.refl _ _, rfl, Nat.zero_le _⟩
          · intro b9 X ph hE hd hn hS hV hI hF
            obtain ⟨r46, j46⟩ : PredT.At 0 (.slice (some ⟨pb, po, none⟩) N c4) (b9.tmps[46]?.getD undef) X ph := hV 17 _ 46 rfl rfl (Pred.waits_near (by kernel_rfl) (by kernel_rfl))
            obtain ⟨r47, j47⟩ : PredT.At 0 (.int .i64 i) (b9.tmps[47]?.getD undef) X ph := hV 18 _ 47 rfl rfl (Pred.waits_near (by kernel_rfl) (by kernel_rfl))
            obtain ⟨r44, j44⟩ : PredT.At 0 (.bool false) (b9.tmps[44]?.getD undef) X ph := hV 15 _ 44 rfl rfl (Pred.waits_near (by kernel_rfl) (by kernel_rfl))
            exact Pred.yields_run (v := .pointer (some ⟨pb, po + i * 3, none⟩)) ((Pred.wanted_at (g := 15) (d := 44) (f := false) rfl rfl r44).trans rfl) (by go_simp) ⟨Below.refl _ _, rfl, Nat.zero_le _⟩
          · intro b9 X ph hE hd hn hS hV hI hF
            obtain ⟨r48, j48⟩ : PredT.At 0 (.pointer (some ⟨pb, po + i * 3, none⟩)) (b9.tmps[48]?.getD undef) X ph := hV 19 _ 48 rfl rfl (Pred.waits_near (by kernel_rfl) (by kernel_rfl))
            obtain ⟨r44, j44⟩ : PredT.At 0 (.bool false) (b9.tmps[44]?.getD undef) X ph := hV 15 _ 44 rfl rfl (Pred.waits_near (by kernel_rfl) (by kernel_rfl))
            have z0 := (hE.cell (p := ⟨pb, po + i * 3, none⟩) hp2).trans q0
            have z1 := (hE.cell (p := ⟨pb, po + i * 3 + 1, none⟩) hp2).trans q1
            have z2 := (hE.cell (p := ⟨pb, po + i * 3 + 2, none⟩) hp2).trans q2
            exact Pred.yields_run (v := PgA.pg L P Q) ((Pred.wanted_at (g := 15) (d := 44) (f := false) rfl rfl r44).trans rfl) (by go_simp) ⟨Below.refl _ _, rfl, Nat.zero_le _⟩
          · intro b9 X ph hE hd hn hS hV hI hF
            obtain ⟨r45, j45⟩ : PredT.At 0 (.pointer (some ⟨a, 0, none⟩)) (b9.tmps[45]?.getD undef) X ph := hV 16 _ 45 rfl rfl (Pred.waits_near (by kernel_rfl) (by kernel_rfl))
            obtain ⟨r49, j49⟩ : PredT.At 0 (PgA.pg L P Q) (b9.tmps[49]?.getD undef) X ph := hV 20 _ 49 rfl rfl (Pred.waits_near (by kernel_rfl) (by kernel_rfl))
            obtain ⟨r44, j44⟩ : PredT.At 0 (.bool false) (b9.tmps[44]?.getD undef) X ph := hV 15 _ 44 rfl rfl (Pred.waits_near (by kernel_rfl) (by kernel_rfl))
            refine Pred.yields_call (f := 29) (args := #[.pointer (some ⟨a, 0, none⟩), PgA.pg L P Q]) ((Pred.wanted_at (g := 15) (d := 44) (f := false) rfl rfl r44).trans rfl) (by go_simp) ?_
            refine (CAx.out X (hAX.below hE)).mono ?_
            rintro e w9 ⟨⟨v9, rfl, ho⟩, hb⟩
            obtain ⟨g9, c9, rfl, -, -, -, -, -⟩ := owns_pos ho (by omega)
            exact ⟨_, rfl, hb, Nat.zero_le _, fun _ => ⟨g9, c9, rfl, Reads.of_owns ho⟩⟩
          · intro b9 X ph hE hd hn hS hV hI hF
            obtain ⟨j50, r50⟩ : PredT.When 0 (fun u y => ∃ g c : Nat, u = .slice (some ⟨g, 0, none⟩) 144 c ∧ Reads y 1 (some ⟨g, 0, none⟩) 144 (za.map (Value.int .u8))) (b9.tmps[50]?.getD undef) X ph := hV 21 _ 50 rfl rfl (Pred.waits_near (by kernel_rfl) (by kernel_rfl))
            obtain ⟨r44, j44⟩ : PredT.At 0 (.bool false) (b9.tmps[44]?.getD undef) X ph := hV 15 _ 44 rfl rfl (Pred.waits_near (by kernel_rfl) (by kernel_rfl))
            obtain ⟨g9, c9, hv9, hr9⟩ := r50 (by have := PredT.sel_le hS; simp at this; omega)
            have r50e : b9.tmps[50]?.getD undef = .slice (some ⟨g9, 0, none⟩) 144 c9 := hv9
            have cv := conv_reads (P := Try.prog) (cap := c9) Try.underlying62 Try.underlying5 Try.underlying9 hr9 bZa
            exact Pred.yields_run (v := .string (bytesOf za)) ((Pred.wanted_at (g := 15) (d := 44) (f := false) rfl rfl r44).trans rfl) (by go_simp) ⟨Below.refl _ _, rfl, Nat.zero_le _⟩
          · intro b9 X ph hE hd hn hS hV hI hF
            have r8 : b9.tmps[8]?.getD undef = .slice (some ⟨g2, 0, none⟩) 144 c2 := (hn 8 (by kernel_rfl)).trans rfl
            obtain ⟨r44, j44⟩ : PredT.At 0 (.bool false) (b9.tmps[44]?.getD undef) X ph := hV 15 _ 44 rfl rfl (Pred.waits_near (by kernel_rfl) (by kernel_rfl))
            exact Pred.yields_run (v := .slice (some ⟨g2, 0, none⟩) 144 c2) ((Pred.wanted_at (g := 15) (d := 44) (f := false) rfl rfl r44).trans rfl) (by go_simp) ⟨Below.refl _ _, rfl, Nat.zero_le _⟩
          · intro b9 X ph hE hd hn hS hV hI hF
            obtain ⟨r52, j52⟩ : PredT.At 0 (.slice (some ⟨g2, 0, none⟩) 144 c2) (b9.tmps[52]?.getD undef) X ph := hV 23 _ 52 rfl rfl (Pred.waits_near (by kernel_rfl) (by kernel_rfl))
            obtain ⟨r44, j44⟩ : PredT.At 0 (.bool false) (b9.tmps[44]?.getD undef) X ph := hV 15 _ 44 rfl rfl (Pred.waits_near (by kernel_rfl) (by kernel_rfl))
            have cv := conv_reads (P := Try.prog) (cap := c2) Try.underlying62 Try.underlying5 Try.underlying9 (hR2.below hE (Nat.le_refl _)) bZb
            exact Pred.yields_run (v := .string (bytesOf zb)) ((Pred.wanted_at (g := 15) (d := 44) (f := false) rfl rfl r44).trans rfl) (by go_simp) ⟨Below.refl _ _, rfl, Nat.zero_le _⟩
          · intro b9 X ph hE hd hn hS hV hI hF
            obtain ⟨r51, j51⟩ : PredT.At 0 (.string (bytesOf za)) (b9.tmps[51]?.getD undef) X ph := hV 22 _ 51 rfl rfl (Pred.waits_near (by kernel_rfl) (by kernel_rfl))
            obtain ⟨r53, j53⟩ : PredT.At 0 (.string (bytesOf zb)) (b9.tmps[53]?.getD undef) X ph := hV 24 _ 53 rfl rfl (Pred.waits_near (by kernel_rfl) (by kernel_rfl))
            obtain ⟨r44, j44⟩ : PredT.At 0 (.bool false) (b9.tmps[44]?.getD undef) X ph := hV 15 _ 44 rfl rfl (Pred.waits_near (by kernel_rfl) (by kernel_rfl))
            exact Pred.yields_run (v := .bool true) ((Pred.wanted_at (g := 15) (d := 44) (f := false) rfl rfl r44).trans rfl) (by go_simp) ⟨Below.refl _ _, rfl, Nat.zero_le _⟩
          · intro b9 X ph hE hd hn hS hV hI hF
            obtain ⟨r44, j44⟩ : PredT.At 0 (.bool false) (b9.tmps[44]?.getD undef) X ph := hV 15 _ 44 rfl rfl (Pred.waits_near (by kernel_rfl) (by kernel_rfl))
            obtain ⟨r54, j54⟩ : PredT.At 0 (.bool true) (b9.tmps[54]?.getD undef) X ph := hV 25 _ 54 rfl rfl (Pred.waits_near (by kernel_rfl) (by kernel_rfl))
            exact Pred.yields_run (v := .bool true) (Pred.wanted_none rfl) (by go_simp) ⟨Below.refl _ _, rfl, Nat.zero_le _⟩
        · trivial
        intro v X hE hS hv
        replace hS : (fun _ => True) X := hS
        have e0 : v 0 = .pointer (some ⟨a, 0, none⟩) := (hv 0 _ 29 rfl rfl).1
        have e1 : v 1 = .bool false := (hv 1 _ 30 rfl rfl).1
        have e2 : v 2 = .bool false := (hv 2 _ 31 rfl rfl).1
        have e3 : v 3 = .pointer (some ⟨a, 0, none⟩) := (hv 3 _ 32 rfl rfl).1
        have e4 : v 4 = .pointer (some ⟨a, 0, none⟩) := (hv 4 _ 33 rfl rfl).1
        have e5 : v 5 = .pointer (some ⟨a, 0, none⟩) := (hv 5 _ 34 rfl rfl).1
        have e6 : v 6 = .pointer (some ⟨a, 0, none⟩) := (hv 6 _ 35 rfl rfl).1
        have e7 : v 7 = .int .i64 D := (hv 7 _ 36 rfl rfl).1
        have e8 : v 8 = .pointer (some ⟨b, 0, none⟩) := (hv 8 _ 37 rfl rfl).1
        have e9 : v 9 = .pointer (some ⟨b, 0, none⟩) := (hv 9 _ 38 rfl rfl).1
        have e10 : v 10 = .pointer (some ⟨b, 0, none⟩) := (hv 10 _ 39 rfl rfl).1
        have e11 : v 11 = .pointer (some ⟨b, 0, none⟩) := (hv 11 _ 40 rfl rfl).1
        have e12 : v 12 = .int .i64 D := (hv 12 _ 41 rfl rfl).1
        have e13 : v 13 = .bool false := (hv 13 _ 42 rfl rfl).1
        have e14 : v 14 = .bool false := (hv 14 _ 43 rfl rfl).1
        have e15 : v 15 = .bool false := (hv 15 _ 44 rfl rfl).1
        have e16 : v 16 = .pointer (some ⟨a, 0, none⟩) := (hv 16 _ 45 rfl rfl).1
        have e17 : v 17 = .slice (some ⟨pb, po, none⟩) N c4 := (hv 17 _ 46 rfl rfl).1
        have e18 : v 18 = .int .i64 i := (hv 18 _ 47 rfl rfl).1
        have e19 : v 19 = .pointer (some ⟨pb, po + i * 3, none⟩) := (hv 19 _ 48 rfl rfl).1
        have e20 : v 20 = PgA.pg L P Q := (hv 20 _ 49 rfl rfl).1
        generalize hg21 : v 21 = vv21
        have e22 : v 22 = .string (bytesOf za) := (hv 22 _ 51 rfl rfl).1
        have e23 : v 23 = .slice (some ⟨g2, 0, none⟩) 144 c2 := (hv 23 _ 52 rfl rfl).1
        have e24 : v 24 = .string (bytesOf zb) := (hv 24 _ 53 rfl rfl).1
        have e25 : v 25 = .bool true := (hv 25 _ 54 rfl rfl).1
        have e26 : v 26 = .bool true := (hv 26 _ 55 rfl rfl).1
        simp only [Pred.putsF_cons, Pred.putsF_nil, Nat.zero_add, Nat.reduceAdd, e0, e1, e2, e3, e4, e5, e6, e7, e8, e9, e10, e11, e12, e13, e14, e15, e16, e17, e18, e19, e20, hg21, e22, e23, e24, e25, e26, Act.put, List.setIfInBounds_toArray, List.set_cons_zero, List.set_cons_succ]
        clear e0 e1 e2 e3 e4 e5 e6 e7 e8 e9 e10 e11 e12 e13 e14 e15 e16 e17 e18 e19 e20 hg21 e22 e23 e24 e25 e26 hv
        rename World => X3
        have b23 : Below X2.heap.size X2 X3 := hE
        have HO3 := Lib.hid (owns_below' HO2.out b23)
        have HG3 : Hid (∀ x ∈ ys, Gp ts D wr x X3) := Lib.hid fun x hx => gp_below (HG2.out x hx) b23
        have B3 : Below W.heap.size W X3 := B2.trans (b23.mono B2.size)
        have hno := he9
        have hGx3 := gp_below hGx b23
        have r0 := (b23.cell (p := ⟨pb, po + i * 3, none⟩) hp2).trans q0
        have r1 := (b23.cell (p := ⟨pb, po + i * 3 + 1, none⟩) hp2).trans q1
        have r2 := (b23.cell (p := ⟨pb, po + i * 3 + 2, none⟩) hp2).trans q2
        clear hE b23 HO2 HG2 hGx B2 q0 q1 q2 hR2 hAX y0 y1
        have hBi := (Below.refl X3.heap.size X3).alloc (Nat.le_refl _) (.cells #[.int .i64 L, .int .i64 P, .int .i64 Q, .slice (some ⟨g2, 0, none⟩) 144 c2] 78)
        have hRi : Reads (X3.alloc (.cells #[.int .i64 L, .int .i64 P, .int .i64 Q, .slice (some ⟨g2, 0, none⟩) 144 c2] 78)) 4 (some ⟨X3.heap.size, 0, none⟩) 1 (itC [([L, P, Q], .slice (some ⟨g2, 0, none⟩) 144 c2)]) := by rw [itC_one]; exact Rd.reads_new X3 #[.int .i64 L, .int .i64 P, .int .i64 Q, .slice (some ⟨g2, 0, none⟩) 144 c2] 78 4 1 rfl
        go_wp2_with (at_builtin; refine App.wpList_append_reads _ rfl (.tmp 56) (.tmp 63) 68 rfl W.heap.size 78 j0 _ 4 48 Try.underlying68 hj hj0 hj1 hj2 rfl (by decide) _ _ _ rfl (owns_below' HO3.out hBi) (some ⟨X3.heap.size, 0, none⟩) 1 1 _ rfl hRi (by intro u hu; rw [itC_one] at hu; simp [itL] at hu; rcases hu with rfl | rfl | rfl | rfl <;> rfl) (by unfold maxLen; omega) (by omega) (by have := B3.size; simp; omega) ?_; intro v7 w7 ho7 hg7)
        have hk7 : ∀ (k : Nat) (cur : Array Value), X3.heap[k]? = some (Obj.cells cur 5 (0, 0)) → w7.heap[k]? = X3.heap[k]? := fun k cur hk => by
          have hlt := blk_lt (show blk X3 k = _ from hk)
          rw [hg7.block k (by have := hBi.size; omega) (fun e => by
            obtain ⟨cur2, h9⟩ := own_type HO3.out e.symm
            rw [h9] at hk
            cases hk)]
          exact hBi.block k hlt
        have B7 : Below W.heap.size W w7 := (B3.trans (hBi.mono B3.size)).grown hg7 (by have := B3.size; have := hBi.size; omega) (fun j hj => (HO3.out.lt j hj).1)
        exact ⟨⟨i + 1, ys ++ [([L, P, Q], .slice (some ⟨g2, 0, none⟩) 144 c2)], by omega, by go_num, by simp; omega, Lib.hid (by rw [HT.out, List.map_append, HF.out, if_neg (by rw [hno]; decide)]; rfl), Lib.hid (by rw [itC_app, List.length_append]; exact ho7), Lib.hid (mem_one (fun x hx => gp_keep (HG3.out x hx) hk7) (gp_keep hGx3 hk7)), B7⟩, by simp [intOf]; omega⟩
    · obtain rfl : i = N := by omega
      have hO := HO.out
      have hff := HF.out
      rw [List.take_of_length_le (by rw [HN.out]; exact Nat.le_refl _)] at hff
      have hgr : ∀ x ∈ ys, Gr ts D wr x X1 := fun x hx => .of (HG.out x hx)
      obtain ⟨-, -, hvc, -⟩ : ∃ a c, Value.slice va ys.length vc = .slice a ys.length c ∧ True := ⟨va, vc, rfl, trivial⟩
      have hcap : ys.length ≤ vc := by
        obtain ⟨a8, c8, e8, h8, -⟩ := owns_val hO
        cases e8
        exact h8
      have HR := Lib.hid (And.intro hff (And.intro (Reads.of_owns hO) hgr))
      clear hO hff hgr HC
      go_wp2
      go_ret
      exact ⟨⟨ys, va, vc, HR.out.1, by omega, rfl, hcap, HR.out.2.1, HR.out.2.2⟩, L8⟩
end Go.Proofs.Ytdjiblgnealmkaa.RfF

namespace Go.Proofs.Ytdjiblgnealmkaa.RfG
open Go.RowKit Rd Go.Proofs.Ytdjiblgnealmkaa.Row Mid DkM HueA MpM MpA MpB MpC MpD MpE MpF MpG
open CtA CtB CtC CtD CtE CtF CtG CtH CtJ
open PgC (eqL eq_pg3)
set_option linter.unusedVariables false
set_option linter.unusedSimpArgs false
set_option maxRecDepth 10000
variable {D : Nat} {wr : Bool} {ts : List Px}
attribute [local go_sem ↓] PgA.store_pg eq_pg3
attribute [local go_sem] PgA.pc3 PgA.run_store_pg rowStore_eq rowLoad_eq one_int one_bool blk_alloc_at blk_alloc_old blk_drew blk_drewN blk_grow setRow_alloc_at setRow_alloc_old setRow_drew setRow_drewN
set_option maxHeartbeats 8000000 in
theorem SameItems_any (a1 a2 : Option Addr) (c1 c2 : Nat) (xs ys : List El) (w : World) (hf : xs.map Prod.fst = ys.map Prod.fst) (hx : Its ts D wr a1 xs w) (hy : Its ts D wr a2 ys w) (hB : RB ts) (hl : xs.length ≤ 1000) :
    Calls Try.prog 34 #[.slice a1 xs.length c1, .slice a2 ys.length c2] w fun e w' => e = .returned (.bool true) ∧ Below w.heap.size w w' := by
  have hlen : ys.length = xs.length := by
    have h := congrArg List.length hf
    rw [List.length_map, List.length_map] at h
    exact h.symm
  obtain ⟨N, hN⟩ : ∃ N, xs.length = N := ⟨_, rfl⟩
  have HC : Hid (∀ i, i < N → ∃ L P Q : Int, (∀ X, Its ts D wr a1 xs X → ∃ b o g c : Nat, a1 = some ⟨b, o, none⟩ ∧ b < X.heap.size ∧ X.cell? ⟨b, o + i * 4, none⟩ = some (.int .i64 L) ∧ X.cell? ⟨b, o + i * 4 + 1, none⟩ = some (.int .i64 P) ∧ X.cell? ⟨b, o + i * 4 + 2, none⟩ = some (.int .i64 Q) ∧ X.cell? ⟨b, o + i * 4 + 3, none⟩ = some (.slice (some ⟨g, 0, none⟩) 144 c) ∧ 144 ≤ c ∧ Reads X 1 (some ⟨g, 0, none⟩) 144 (cp (pageP ts D wr L P Q)))
      ∧ (∀ X, Its ts D wr a2 ys X → ∃ b o g c : Nat, a2 = some ⟨b, o, none⟩ ∧ b < X.heap.size ∧ X.cell? ⟨b, o + i * 4, none⟩ = some (.int .i64 L) ∧ X.cell? ⟨b, o + i * 4 + 1, none⟩ = some (.int .i64 P) ∧ X.cell? ⟨b, o + i * 4 + 2, none⟩ = some (.int .i64 Q) ∧ X.cell? ⟨b, o + i * 4 + 3, none⟩ = some (.slice (some ⟨g, 0, none⟩) 144 c) ∧ 144 ≤ c ∧ Reads X 1 (some ⟨g, 0, none⟩) 144 (cp (pageP ts D wr L P Q)))) := Lib.hid (by
    intro i hi
    obtain ⟨L, P, Q, -, -, h1, -, -, -, -⟩ := hx.2 _ (List.getElem_mem (show i < xs.length by omega))
    have h2 : (ys[i]'(by omega)).1 = [L, P, Q] := by
      have e1 : (xs.map Prod.fst)[i]? = some xs[i].1 := by simp [show i < xs.length by omega]
      have e2 : (ys.map Prod.fst)[i]? = some ys[i].1 := by simp [show i < ys.length by omega]
      rw [hf, e2] at e1
      rw [← h1]
      exact Option.some.inj e1
    exact ⟨L, P, Q, fun X hX => hX.at_ _ h1, fun X hX => hX.at_ _ h2⟩)
  have BB := Lib.hid fun L P Q => fb_bd (pageP_B (D := D) (wr := wr) hB L P Q)
  have HX := Lib.hid hx
  have HY := Lib.hid hy
  rw [hlen]
  rw [hN] at hl ⊢
  clear hx hy hf hlen hB hN
  go_enter Try.func34, Try.ntmps34
  go_upto_region 4 with (fail)
  go_loopw [5] (fun v X => ∃ i : Nat, i ≤ N ∧ v = .int .i64 i ∧ ∃ d, X = w.drewN d) (fun v _ => N - (intOf v).toNat)
  case atStart => exact ⟨0, by omega, rfl, 0, rfl⟩
  case round =>
    obtain ⟨i, hi, rfl, d9, hX⟩ := hrel
    subst hX
    by_cases hiN : i < N
    · have hiN' : (i : Int) < N := by omega
      obtain ⟨L, P, Q, fA, fB⟩ := HC.out i hiN
      obtain ⟨bA, oA, gA, cA, rfl, lA, A0, A1, A2, A3, hcA, rA⟩ := fA w HX.out
      obtain ⟨bB, oB, gB, cB, rfl, lB, B0, B1, B2, B3, hcB, rB⟩ := fB w HY.out
      rw [cp_fb] at rA rB
      have sA := fun d => conv_reads (w := w.drewN d) (P := Try.prog) (cap := cA) Try.underlying62 Try.underlying5 Try.underlying9 rA (BB.out L P Q)
      have sB := fun d => conv_reads (w := w.drewN d) (P := Try.prog) (cap := cB) Try.underlying62 Try.underlying5 Try.underlying9 rB (BB.out L P Q)
      obtain ⟨z, hz⟩ : ∃ z, fb (pageP ts D wr L P Q) = z := ⟨_, rfl⟩
      rw [hz] at sA sB
      have d0 : eqL [L, P, Q] [L, P, Q] = true := decide_eq_true rfl
      have e0 : ((bytesOf z).toList == (bytesOf z).toList) = true := by simp
      clear fA fB hz rA rB
      go_wp2
      go_quiet (fail)
      go_wp2
      exact ⟨⟨i + 1, by omega, by go_num, _, rfl⟩, by simp [intOf]; omega⟩
    · obtain rfl : i = N := by omega
      go_wp2
      go_ret
      exact ⟨rfl, Rd.below_drewN (Below.refl _ _) _⟩
end Go.Proofs.Ytdjiblgnealmkaa.RfG

namespace Go.Proofs.Ytdjiblgnealmkaa.RfH
open Go.RowKit Go.Shelf Rd Go.Proofs.Ytdjiblgnealmkaa.Row Mid DkM It PgD PgE ItG CtA CtC CtD
open MpM (Px RB cp)
open MpA (Pyr)
open MpE (own_keep own_type)
set_option linter.unusedVariables false
set_option linter.unusedSimpArgs false
set_option maxRecDepth 10000
attribute [local go_sem] Oper.semAt_some
attribute [local go_sem ↓] PgA.load_pg PgA.store_pg
attribute [local go_sem] one_int PgA.pc3 PgA.run_load_pg PgA.run_store_pg midLoad_eq rowLoad_eq rowStore_eq blk_alloc_at blk_alloc_old blk_drew blk_drewN blk_set_far blk_set_far' blk_grow setRow_alloc_at setRow_alloc_old setRow_drew setRow_drewN
theorem fin_len' {D : Nat} {xs : List El} (h : finE D xs) : xs.length = (PgM.allV (D : Int)).length := by rw [← h, List.length_map]
attribute [local go_sem ↓] nil_iter
theorem all_leavesG (fin : List El → Prop) {w Z : World} {most : Int} {mv : Value} {D : Nat} {wr : Bool} {ts : List Px} {xs : List El} {ad : Option Addr} {cap D9 : Nat} (h : AllSt w most mv D wr ts xs Z) (c5 : Z.cell? ⟨w.heap.size + 1, 0, none⟩ = some (.slice ad xs.length cap)) (hD : w.heap.size + 3 ≤ D9) {fn : Func} (hf : fn.results = #[.tmp 4]) (hdef : Z.heap[D9]? = some (.deferred (some [])))
    (tmps : Array Value) (h4 : tmps.getD 4 undef = .slice ad xs.length cap) (hfin : fin xs) :
    LeavesInM Fence.wide 0 Try.prog fn tmps (fun e w' => (∃ (xs : List El) (ad : Option Addr) (c : Nat), fin xs ∧ e = .returned (.slice ad xs.length c) ∧ Reads w' 4 ad xs.length (itC xs) ∧ ∀ x ∈ xs, Gp ts D wr x w') ∧ Below w.heap.size w w') [mk D9] .returning Z := by
  refine leaves_marks (Ds := [D9]) (B := w.heap.size + 3) (fun Y => AllSt w most mv D wr ts xs Y ∧ Boxed Y (w.heap.size + 1) 68 (.slice ad xs.length cap)) (fun E Y hE hY he => ?_) (fun Y hY => ?_) (by simp) Z ⟨h, ?_⟩ fun E hp => ?_
  · refine ⟨hY.1.grown (grownBy_putObj' _ _ _) fun r e => by injection e with e; subst e; exact ⟨hE, _, he, rfl⟩, hY.2.kept (grownBy_putObj' _ _ _) fun e => by injection e with e; omega⟩
  · obtain ⟨v, hv, ow⟩ := hY.1.row
    have : v = .slice ad xs.length cap := by
      have := (show Y.heap[w.heap.size + 1]? = _ from hv).symm.trans hY.2
      simpa using this
    subst this
    exact ⟨_, results_tmp hf tmps _ _, ⟨xs, ad, cap, hfin, by rw [h4], Reads.of_owns ow, hY.1.gp⟩, hY.1.below⟩
  · obtain ⟨v, hv, ow⟩ := h.row
    have := hv.cell.symm.trans c5
    injection this with this
    rw [← this]
    exact hv
  · obtain rfl : E = D9 := by simpa using hp
    exact ⟨hD, hdef⟩
/-- so many of them -/
theorem lall_k (k : Nat) (mb D : Nat) (wr : Bool) (ts : List Px) (w : World) (hP : Pyr w mb D wr ts) (hk : k ≤ (PgM.allV (D : Int)).length) :
    Calls Try.prog 35 #[.pointer (some ⟨mb, 0, none⟩), .int .i64 k] w fun e w' => (∃ (xs : List El) (ad : Option Addr) (c : Nat), xs.map Prod.fst = (PgM.allV (D : Int)).take k ∧ e = .returned (.slice ad xs.length c) ∧ Reads w' 4 ad xs.length (itC xs) ∧ ∀ x ∈ xs, Gp ts D wr x w') ∧ Below w.heap.size w w' := by
  refine callsIn_wide.1 (callsIn_of_wp_marks (F := Fence.wide) (n := 0) Try.func35 rfl trivial ?_ rfl)
  simp only [Try.ntmps35, List.size_toArray, List.length_cons, List.length_nil, Nat.reduceAdd, Nat.reduceSub, Array.replicate_succ, Array.replicate_zero, List.push_toArray, List.append_toArray, List.nil_append, List.cons_append]
  gi_wp2_with fail
  refine ⟨trivial, rfl, (callsIn_wide.2 (ctAll_any (.pointer (some ⟨mb, 0, none⟩)) _ rfl (.inr ⟨mb, rfl⟩))).mono ?_⟩
  rintro e W1 ⟨rfl, hW1⟩
  have R0 : AllSt w (k : Int) (.pointer (some ⟨mb, 0, none⟩)) D wr ts [] W1 := by rw [hW1]; exact all_start w _ _ D wr ts
  have hs1 : W1.heap.size = w.heap.size + 3 := by rw [hW1]; simp
  have HR0 := Lib.hid R0
  clear hW1 R0
  gi_wp2_with fail
  simp only [Nat.add_assoc, Nat.reduceAdd]
  refine range_seqG (gf := 67) (lb := #[.pointer (some ⟨w.heap.size + 2, 0, none⟩)]) rfl enters_ct (ctall_some mb D (w.heap.size + 2) wr ts hP.d3) (fun _ => rfl)
    (fun pre Z => AllSt w (k : Int) (.pointer (some ⟨mb, 0, none⟩)) D wr ts pre Z ∧ pre.length ≤ k)
    (fun c pre Z => c = .exit 0 ∧ ∃ (q : List El) (x : El), pre = q ++ [x] ∧ q.length = k ∧ AllSt w (k : Int) (.pointer (some ⟨mb, 0, none⟩)) D wr ts q Z)
    (AllOwn w) ?hI ?hIx ⟨fun s X j h ho => (all_mine w _ _ D wr ts W1.heap.size (by omega)).1 s X j h.1 ho, fun s X Y row h hg hr j ho => (all_mine w _ _ D wr ts W1.heap.size (by omega)).2 s X Y row h.1 hg hr j ho⟩ (fun _ _ h => ⟨h.1.m, hP.below h.1.below⟩) ⟨HR0.out, Nat.zero_le _⟩ ?round ?done ?stop
  case hI => exact fun s X Y row h hg hr => ⟨h.1.grown hg fun r e => ⟨by have := (hr r e).1; omega, (hr r e).2⟩, h.2⟩
  case hIx => exact fun c s X Y row ⟨h1, q, x, h2, h3, h4⟩ hg hr => ⟨h1, q, x, h2, h3, h4.grown hg fun r e => ⟨by have := (hr r e).1; omega, (hr r e).2⟩⟩
  case stop =>
    rintro D9 c pre Z hD9 hok hx hdef
    obtain ⟨rfl, q, x, rfl, hq, hx⟩ := hx
    have HI := Lib.hid hx
    have hfin : q.map Prod.fst = (PgM.allV (D : Int)).take k := by
      have h1 : (q ++ [x]).map Prod.fst <+: PgM.allV (D : Int) := hok
      rw [List.map_append] at h1
      have h2 := (List.prefix_append _ _).trans h1
      have h3 := List.prefix_iff_eq_take.1 h2
      rw [List.length_map, hq] at h3
      exact h3
    have HF := Lib.hid hfin
    obtain ⟨v, hv, ow⟩ := hx.row
    obtain ⟨ad, cap, rfl, _⟩ := owns_val ow
    have c5 := hv.cell
    clear hx hv ow hfin hok hq
    gi_wp2_with fail
    exact all_leavesG (fun xs => xs.map Prod.fst = (PgM.allV (D : Int)).take k) HI.out c5 (by omega) rfl hdef _ rfl HF.out
  case round =>
    rintro l' pre x Z hl' hrec hI hok hG
    have HG0 := Lib.hid hG
    obtain ⟨L, P, Q, hx1, hval, hrow⟩ := hG
    obtain ⟨xp, u⟩ := x
    simp only at hx1 hrow
    subst hx1
    obtain ⟨ug, uc, rfl, -, -, -, -, -⟩ := owns_pos hrow (by omega)
    have hsm : pre.length < 85 := by
      have h1 := hok.length_le
      have h2 := all_85 hP.d3
      simp only [List.map_append, List.length_append, List.length_map, List.map_cons, List.map_nil, List.length_cons, List.length_nil] at h1
      omega
    obtain ⟨rr, hrr⟩ := hrec
    have hlz := get_lt hrr
    clear hI hrr hrow hok
    simp only [encI, cs, List.map_cons, List.map_nil]
    gi_wp2_with fail
    refine ⟨World.grownBy_alloc _ _ none, fun X2 hg hI2 hl2 => ?_⟩
    have hG2 : Gp ts D wr ([L, P, Q], .slice (some ⟨ug, 0, none⟩) 144 uc) X2 := Gp.grown (Gp.grown HG0.out (World.grownBy_alloc _ _ none) (fun r e => by cases e)) hg (fun r e => by
      injection e with e
      subst e
      obtain ⟨rl, hrl⟩ := hl2
      exact ⟨_, hrl, rfl⟩)
    have HG2 := Lib.hid hG2
    have c2 : blk X2 Z.heap.size = some (.cells #[.int .i64 L, .int .i64 P, .int .i64 Q] 61 (0, 0)) := (hg.block _ (by simp) (fun e => by injection e with e; omega)).trans (World.alloc_heap_new _ _)
    have HI2 := Lib.hid hI2
    have c4 : X2.cell? ⟨w.heap.size, 0, none⟩ = some (.int .i64 k) := by rw [blk_cell hI2.1.k]; rfl
    obtain ⟨v, hv, ow⟩ := hI2.1.row
    obtain ⟨ad, cap, rfl, _⟩ := owns_val ow
    have c5 := hv.cell
    have HV := Lib.hid hv
    have OW := Lib.hid ow
    have hsz2 : w.heap.size + 3 ≤ X2.heap.size := hI2.1.size
    have hlk := hI2.2
    clear hg hI2 hl2 hv ow hG2 HG0
    by_cases hke : (pre.length : Int) = (k : Int)
    · gi_wp2_with fail
      exact ⟨Hold.refl _ _ _, rfl, pre, _, rfl, by omega, HI2.out.1⟩
    · gi_wp2_with (gi_at_builtin; refine app_itIn rfl (.tmp 20) (.tmp 24) rfl (w.heap.size + 1) _ _ _ rfl (OW.out.alloc _) X2.heap.size 1 L P Q (.slice (some ⟨ug, 0, none⟩) 144 uc) rfl rfl (blk_alloc_at _ _ _ rfl) (by omega) (by simp; omega) ?_; intro v4 w4 ho4 hg4 hb4; obtain ⟨g4, cap4, rfl⟩ := ownsRow_succ ho4; have AP := Lib.hid (HV.out.appended (show (68 : Nat) ≠ 78 by decide) OW.out (by omega) (by omega) ho4 hg4); have b4 := AP.out.1.cell; have f4 := AP.out.1.frozen; have HG4 := Lib.hid hg4; have HB4 := Lib.hid hb4; clear ho4 hg4 hb4)
      obtain ⟨s1, s2, s3⟩ := (all_step HI2.out.1 HV.out OW.out HG4.out AP.out.2.1 AP.out.2.2.1 AP.out.2.2.2.2 HB4.out HG2.out (by omega) (fun c pre Z => False) (⟨#[], []⟩ : Act) : It.Ends W1.heap.size (fun pre Z => AllSt w (k : Int) (.pointer (some ⟨mb, 0, none⟩)) D wr ts pre Z) (fun c pre Z => False) (fun _ => AllOwn w) pre _ X2 .normal (⟨#[], []⟩ : Act) _)
      exact ⟨s1, ⟨s2, by rw [List.length_append, List.length_singleton]; omega⟩, s3⟩
  case done =>
    rintro D9 xs Z hD9 hfin hI hdef
    have HI := Lib.hid hI
    have HF := Lib.hid hfin
    have hfk : xs.map Prod.fst = (PgM.allV (D : Int)).take k := by
      have h1 := fin_len' hfin
      have h2 := hI.2
      rw [List.take_of_length_le (by omega)]
      exact hfin
    have HFK := Lib.hid hfk
    obtain ⟨v, hv, ow⟩ := hI.1.row
    obtain ⟨ad, cap, rfl, _⟩ := owns_val ow
    have c5 := hv.cell
    clear hI hv ow hfin hfk
    gi_wp2_with fail
    exact all_leavesG (fun xs => xs.map Prod.fst = (PgM.allV (D : Int)).take k) HI.out.1 c5 (by omega) rfl hdef _ rfl HFK.out
end Go.Proofs.Ytdjiblgnealmkaa.RfH

namespace Go.Proofs.Ytdjiblgnealmkaa.RfI
open Go.RowKit Rd Go.Proofs.Ytdjiblgnealmkaa.Row Mid DkM HueA MpM MpA MpB MpC MpD MpE MpF MpG RfA RfB RfC RfD RfE RfF RfG
open CtA CtB CtC CtD CtE CtF CtG CtH CtJ
set_option linter.unusedVariables false
set_option linter.unusedSimpArgs false
set_option maxRecDepth 10000
variable {D : Nat} {wr : Bool} {ts : List Px}
theorem px_of : ∀ (n : Nat) (zs : List Int), zs.length = 4 * n → ∃ ps : List Px, ps.length = n ∧ fb ps = zs
  | 0, zs, h => ⟨[], rfl, by
      have e : zs = [] := List.eq_nil_of_length_eq_zero (by omega)
      rw [e]; rfl⟩
  | n + 1, zs, h => by
    match zs, h with
    | a :: b :: c :: d :: r, h =>
      obtain ⟨ps, h1, h2⟩ := px_of n r (by simp at h; omega)
      exact ⟨⟨a, b, c, d⟩ :: ps, by simp [h1], by rw [← h2]; rfl⟩
    | [], h => simp at h
    | [a], h => simp at h; omega
    | [a, b], h => simp at h; omega
    | [a, b, c], h => simp at h; omega
theorem kp_fst {al : List Int → Bool} {xs : List El} (h : finE D xs) : (kp al xs).map Prod.fst = (PgM.allV (D : Int)).filter (fun v => !al v) := by
  rw [← (show xs.map Prod.fst = PgM.allV (D : Int) from h), List.filter_map]
  rfl
theorem itl_len {ys : List El} (h : ∀ x ∈ ys, x.1.length = 3) : ∀ l ∈ ys.map itL, l.length = 4 := by
  intro l hl
  obtain ⟨x, hx, rfl⟩ := List.mem_map.1 hl
  simp [itL, h x hx]
theorem Its.take {a : Option Addr} {ys : List El} {X : World} (h : Its ts D wr a ys X) {k : Nat} (hk : k ≤ ys.length) : Its ts D wr a (ys.take k) X := by
  have h3 : ∀ x ∈ ys, x.1.length = 3 := fun x hx => by
    obtain ⟨L, P, Q, g, c, h1, -⟩ := h.2 x hx
    rw [h1]; rfl
  refine ⟨?_, fun x hx => h.2 x (List.mem_of_mem_take hx)⟩
  have hl : (ys.take k).length = k := by rw [List.length_take]; omega
  have e1 : itC (ys.take k) = (itC ys).take (k * 4) := by
    unfold itC
    have h4 := fl_len (itl_len h3)
    have h5 : (fl ((ys.take k).map itL)).length = k * 4 := by rw [fl_len (itl_len fun x hx => h3 x (List.mem_of_mem_take hx)), List.length_map, hl]
    have e2 : ys.map itL = (ys.take k).map itL ++ (ys.drop k).map itL := by rw [← List.map_append, List.take_append_drop]
    rw [e2, fl_app, ← h5, List.take_left]
  rw [hl, e1]
  obtain ⟨h4, h5⟩ := h.1
  refine ⟨by rw [List.length_take, h4]; omega, ?_⟩
  rcases h5 with h5 | ⟨b, o, rfl, h6, h7⟩
  · exact .inl (by omega)
  · refine .inr ⟨b, o, rfl, h6, fun i hi => ?_⟩
    rw [List.length_take] at hi
    rw [h7 i (by omega), List.getElem?_take_of_lt (by omega)]
theorem same_items (a1 a2 : Option Addr) (n1 n2 c1 c2 : Nat) (xs ys : List El) (w : World) (h1 : n1 = xs.length) (h2 : n2 = ys.length) (hf : xs.map Prod.fst = ys.map Prod.fst) (hx : Its ts D wr a1 xs w) (hy : Its ts D wr a2 ys w) (hB : RB ts) (hl : n1 ≤ 1000) :
    Calls Try.prog 34 #[.slice a1 n1 c1, .slice a2 n2 c2] w fun e w' => e = .returned (.bool true) ∧ Below w.heap.size w w' := by
  subst h1
  subst h2
  exact SameItems_any a1 a2 c1 c2 xs ys w hf hx hy hB hl
/-- a texel of any bytes: both say the same -/
theorem texels (zs : List Int) (a : Option Addr) (n c : Nat) (x y : Int) (hzl : zs.length = n) (hn : n ≤ 200) (hc : n ≤ c) (ha : n = 0 ∨ ∃ b off, a = some ⟨b, off, none⟩) :
    ∃ (p : Px) (ok : Bool), (∀ X, Reads X 1 a n (zs.map (Value.int .u8)) → Calls Try.prog 30 #[.slice a n c, .int .i64 x, .int .i64 y] X fun e w' => e = .returned (.tuple #[p.v, .bool ok]) ∧ Below X.heap.size X w')
      ∧ (∀ X, Reads X 1 a n (zs.map (Value.int .u8)) → Calls Try.prog 31 #[.slice a n c, .int .i64 x, .int .i64 y] X fun e w' => e = .returned (.tuple #[p.v, .bool ok]) ∧ Below X.heap.size X w') := by
  by_cases hno : n ≠ 144 ∨ ¬ (-1 ≤ x ∧ x < 5) ∨ ¬ (-1 ≤ y ∧ y < 5)
  · exact ⟨Px.z, false, fun X hX => CtB.Texel_no a n c x y X hno (by omega), fun X hX => RTexel_no a n c x y X hno (by omega)⟩
  · obtain ⟨h1, h2, h3⟩ : n = 144 ∧ (-1 ≤ x ∧ x < 5) ∧ (-1 ≤ y ∧ y < 5) := by
      refine ⟨?_, ?_, ?_⟩
      · exact Classical.byContradiction fun h => hno (.inl h)
      · exact Classical.byContradiction fun h => hno (.inr (.inl h))
      · exact Classical.byContradiction fun h => hno (.inr (.inr h))
    clear hno
    subst h1
    obtain ⟨b, off, rfl⟩ : ∃ b off, a = some ⟨b, off, none⟩ := by
      rcases ha with h | h
      · omega
      · exact h
    obtain ⟨ps, hp1, hp2⟩ := px_of 36 zs (by omega)
    obtain ⟨i, hi⟩ : ∃ i : Nat, x = (i : Int) - 1 := ⟨(x + 1).toNat, by omega⟩
    obtain ⟨j, hj⟩ : ∃ i : Nat, y = (i : Int) - 1 := ⟨(y + 1).toNat, by omega⟩
    subst hi
    subst hj
    refine ⟨at_ ps (6 * j + i), true, fun X hX => ?_, fun X hX => ?_⟩
    · rw [← hp2, ← cp_fb] at hX
      exact CtB.Texel_any b off c ps i j X hX hc hp1 (by omega) (by omega)
    · rw [← hp2, ← cp_fb] at hX
      exact RTexel_any b off c ps i j X hX hp1 (by omega) (by omega)
/-- a page of one pyramid: both say the same -/
theorem pages (b b' D : Nat) (wr : Bool) (ts : List Px) (L P Q : Int) (hB : RB ts) :
    ∃ (zb : List Int) (nz : Nat) (fe : Int) (vb : Bool), (∀ z ∈ zb, 0 ≤ z ∧ z ≤ 255) ∧ ((fe == 0) = vb) ∧ (decide ((0 : Int) < (nz : Int)) = vb) ∧ nz ≤ 144
      ∧ (∀ X, Pyr X b D wr ts → Calls Try.prog 28 #[.pointer (some ⟨b, 0, none⟩), PgA.pg L P Q] X fun e w' => (∃ (a : Option Addr) (c : Nat), e = .returned (.tuple #[.slice a nz c, .int .i64 fe]) ∧ Reads w' 1 a nz (zb.map (Value.int .u8))) ∧ Below X.heap.size X w')
      ∧ (∀ X, Rp X b' D (D + 1) wr ts → Calls Try.prog 29 #[.pointer (some ⟨b', 0, none⟩), PgA.pg L P Q] X fun e w' => (∃ (a : Option Addr) (c : Nat), e = .returned (.slice a nz c) ∧ Reads w' 1 a nz (zb.map (Value.int .u8))) ∧ Below X.heap.size X w') := by
  cases hv : PgM.validB D L P Q with
  | true =>
    refine ⟨fb (pageP ts D wr L P Q), 144, 0, true, fb_bd (pageP_B hB L P Q), rfl, rfl, Nat.le_refl _, fun X hX => ?_, fun X hX => ?_⟩
    · refine (CtA.Page_any L P Q X hX hv).mono ?_
      rintro e w' ⟨⟨v, rfl, ho⟩, hb⟩
      obtain ⟨a, c, rfl, -, -⟩ := owns_val ho
      exact ⟨⟨a, c, rfl, Reads.of_owns ho⟩, hb⟩
    · refine (RCut_any L P Q X hX hv).mono ?_
      rintro e w' ⟨⟨v, rfl, ho⟩, hb⟩
      obtain ⟨a, c, rfl, -, -⟩ := owns_val ho
      exact ⟨⟨a, c, rfl, Reads.of_owns ho⟩, hb⟩
  | false =>
    refine ⟨[], 0, 1, false, (fun z hz => by cases hz), rfl, rfl, (by omega), fun X hX => ?_, fun X hX => ?_⟩
    · refine (CtG.Page_no L P Q X hX hv).mono ?_
      rintro e w' ⟨rfl, hb⟩
      exact ⟨⟨none, 0, rfl, rfl, .inl rfl⟩, hb⟩
    · refine (RCut_no L P Q X hX hv).mono ?_
      rintro e w' ⟨rfl, hb⟩
      exact ⟨⟨none, 0, rfl, rfl, .inl rfl⟩, hb⟩
/-- the rows of items, as the law wants them -/
theorem all_its (mb D : Nat) (wr : Bool) (ts : List Px) (w : World) (hP : Pyr w mb D wr ts) :
    Calls Try.prog 35 #[.pointer (some ⟨mb, 0, none⟩), .int .i64 (-1)] w fun e w' => (∃ (xs : List El) (ad : Option Addr) (c : Nat), e = .returned (.slice ad xs.length c) ∧ Its ts D wr ad xs w' ∧ xs.map Prod.fst = PgM.allV (D : Int)) ∧ Below w.heap.size w w' := by
  refine (lall_any mb D wr ts w hP).mono ?_
  rintro e w' ⟨⟨xs, ad, c, h1, h2, h3, h4⟩, hb⟩
  exact ⟨⟨xs, ad, c, h2, ⟨h3, fun x hx => .of (h4 x hx)⟩, h1⟩, hb⟩
theorem all_itsk (k mb D : Nat) (wr : Bool) (ts : List Px) (w : World) (hP : Pyr w mb D wr ts) (hk : k ≤ (PgM.allV (D : Int)).length) :
    Calls Try.prog 35 #[.pointer (some ⟨mb, 0, none⟩), .int .i64 k] w fun e w' => (∃ (xs : List El) (ad : Option Addr) (c : Nat), e = .returned (.slice ad xs.length c) ∧ Its ts D wr ad xs w' ∧ xs.map Prod.fst = (PgM.allV (D : Int)).take k) ∧ Below w.heap.size w w' := by
  refine (RfH.lall_k k mb D wr ts w hP hk).mono ?_
  rintro e w' ⟨⟨xs, ad, c, h1, h2, h3, h4⟩, hb⟩
  exact ⟨⟨xs, ad, c, h2, ⟨h3, fun x hx => .of (h4 x hx)⟩, h1⟩, hb⟩
theorem changed_its (ba bb D : Nat) (wr : Bool) (ta tb : List Px) (w : World) (hA : Pyr w ba D wr ta) (hB : Pyr w bb D wr tb) (al : List Int → Bool) (hal : ∀ L P Q : Int, al [L, P, Q] = eqB (fb (pageP ta D wr L P Q)) (fb (pageP tb D wr L P Q))) :
    Calls Try.prog 36 #[.pointer (some ⟨ba, 0, none⟩), .pointer (some ⟨bb, 0, none⟩)] w fun e w' => (∃ (xs : List El) (ad : Option Addr) (c : Nat), e = .returned (.slice ad xs.length c) ∧ Its tb D wr ad xs w' ∧ xs.map Prod.fst = (PgM.allV (D : Int)).filter (fun v => !al v)) ∧ Below w.heap.size w w' := by
  refine (changed_gen al (.pointer (some ⟨ba, 0, none⟩)) bb D wr tb w hB (.inr ⟨ba, rfl⟩) ?_).mono ?_
  · intro L P Q g c X hv hb hG
    obtain ⟨L', P', Q', he, -, ho⟩ := hG
    injection he with e1 he; injection he with e2 he; injection he with e3 he
    subst e1; subst e2; subst e3
    have h := alike_any ba bb D wr wr ta tb L P Q ⟨g, 0, none⟩ c X (hA.below hb) (hB.below hb) hv (Reads.of_owns ho)
    rw [← hal] at h
    exact h
  · rintro e w' ⟨⟨xs, ad, c, h1, h2, h3, h4⟩, hb⟩
    exact ⟨⟨kp al xs, ad, c, h2, ⟨h3, fun x hx => .of (h4 x (List.mem_filter.1 hx).1)⟩, kp_fst h1⟩, hb⟩
theorem changed_its0 (bb D : Nat) (wr : Bool) (tb : List Px) (w : World) (hB : Pyr w bb D wr tb) :
    Calls Try.prog 36 #[.pointer none, .pointer (some ⟨bb, 0, none⟩)] w fun e w' => (∃ (xs : List El) (ad : Option Addr) (c : Nat), e = .returned (.slice ad xs.length c) ∧ Its tb D wr ad xs w' ∧ xs.map Prod.fst = PgM.allV (D : Int)) ∧ Below w.heap.size w w' := by
  refine (changed_none bb D wr tb w hB).mono ?_
  rintro e w' ⟨⟨xs, ad, c, h1, h2, h3, h4⟩, hb⟩
  exact ⟨⟨xs, ad, c, h2, ⟨h3, fun x hx => .of (h4 x hx)⟩, h1⟩, hb⟩
theorem rchanged_its0 (bb D : Nat) (wr : Bool) (tb : List Px) (w : World) (hB : Rp w bb D (D + 1) wr tb) :
    Calls Try.prog 32 #[.pointer none, .pointer (some ⟨bb, 0, none⟩)] w fun e w' => (∃ (xs : List El) (ad : Option Addr) (c : Nat), e = .returned (.slice ad xs.length c) ∧ Its tb D wr ad xs w' ∧ xs.map Prod.fst = PgM.allV (D : Int) ∧ xs.length ≤ c) ∧ Below w.heap.size w w' := by
  refine (RChanged_nil bb (fun _ => false) w hB (fun _ _ _ => rfl)).mono ?_
  rintro e w' ⟨⟨ys, ad, c, h1, h2, h3, h4, h5⟩, hb⟩
  exact ⟨⟨ys, ad, c, h3, h5, by rw [h1]; exact List.filter_eq_self.2 (fun _ _ => rfl), h4⟩, hb⟩
theorem rchanged_its (ba bb D : Nat) (wr : Bool) (ta tb : List Px) (w : World) (hA : Rp w ba D (D + 1) wr ta) (hB : Rp w bb D (D + 1) wr tb) (al : List Int → Bool) (hal : ∀ L P Q : Int, al [L, P, Q] = eqB (fb (pageP ta D wr L P Q)) (fb (pageP tb D wr L P Q))) :
    Calls Try.prog 32 #[.pointer (some ⟨ba, 0, none⟩), .pointer (some ⟨bb, 0, none⟩)] w fun e w' => (∃ (xs : List El) (ad : Option Addr) (c : Nat), e = .returned (.slice ad xs.length c) ∧ Its tb D wr ad xs w' ∧ xs.map Prod.fst = (PgM.allV (D : Int)).filter (fun v => !al v)) ∧ Below w.heap.size w w' := by
  refine (RChanged_any ba bb al w hA hB hal).mono ?_
  rintro e w' ⟨⟨ys, ad, c, h1, h2, h3, h4, h5⟩, hb⟩
  exact ⟨⟨ys, ad, c, h3, h5, h1⟩, hb⟩
end Go.Proofs.Ytdjiblgnealmkaa.RfI

namespace Go.Proofs.Ytdjiblgnealmkaa.RfV
open Go.RowKit Rd Go.Proofs.Ytdjiblgnealmkaa.Row Mid DkM HueA MpM MpA MpB MpC MpD MpE MpF MpG
open MpQ MpS MpT MpU
open CtA CtB CtC CtD CtE CtF CtG CtH CtJ RfA RfB RfC RfE RfF RfI
open Ints (i64s In64)
set_option linter.unusedVariables false
set_option linter.unusedSimpArgs false
set_option maxRecDepth 10000
attribute [local go_sem ↓] load_tex store_tex load_col store_col alloc_col load_stp store_stp alloc_stp PgA.store_pg
attribute [local go_sem] PgA.pc3 PgA.run_store_pg eq_px px_self Px.c_size Px.c_all c_all4 fold_px run_load_tex run_store_tex run_load_stp run_store_stp run_alloc_stp stp0_size run_alloc_col CtB.run_load_col run_store_col rowStore_eq rowLoad_eq one_int one_bool one_sl blk_alloc_at blk_alloc_old blk_drew blk_drewN blk_grow setRow_alloc_at setRow_alloc_old setRow_drew setRow_drewN
set_option maxHeartbeats 8000000 in
theorem CutTells_walk (a0 : Int) (a1 : Bool) (a2 : Option Addr) (len2 cap2 : Nat) (x2 : List (List Value)) (a3_0 : Int) (a3_1 : Int) (a3_2 : Int) (a4 : Int) (a5 : Int) (a6_0 : Int) (a6_1 : Int) (a6_2 : Int) (a6_3 : Int) (a7 : Option Addr) (len7 cap7 : Nat) (x7 : List (List Value)) (a8 : Int) (w : World) (w0 : (Lit.int .i64 a0).wf = true) (w2 : Flat.IsRows [some .i64] w a2 len2 cap2 x2) (w3_0 : (Lit.int .i64 a3_0).wf = true) (w3_1 : (Lit.int .i64 a3_1).wf = true) (w3_2 : (Lit.int .i64 a3_2).wf = true) (w4 : (Lit.int .i64 a4).wf = true) (w5 : (Lit.int .i64 a5).wf = true) (w6_0 : (Lit.int .i64 a6_0).wf = true) (w6_1 : (Lit.int .i64 a6_1).wf = true) (w6_2 : (Lit.int .i64 a6_2).wf = true) (w6_3 : (Lit.int .i64 a6_3).wf = true) (w7 : Flat.IsRows [some .u8] w a7 len7 cap7 x7) (w8 : (Lit.int .i64 a8).wf = true) :
    Calls Try.prog 6 #[.int .i64 a0, .bool a1, .slice a2 len2 cap2, .agg #[.int .i64 a3_0, .int .i64 a3_1, .int .i64 a3_2], .int .i64 a4, .int .i64 a5, .agg #[.int .i64 a6_0, .int .i64 a6_1, .int .i64 a6_2, .int .i64 a6_3], .slice a7 len7 cap7, .int .i64 a8] w fun e w' => e = .returned (.bool true) ∧ Below w.heap.size w w' := by
  obtain ⟨zs, hzl, hz, hR, hlc, hcm, -⟩ := Ints.rows_row (s := 1) (by omega) w2
  obtain ⟨ys, hyl, hy, hS, hyc, hym, hyo⟩ := Bytes.rows_bytes w7
  obtain ⟨d1, d2⟩ := bounds_i64 w0
  obtain ⟨l1, l2⟩ := bounds_i64 w8
  have i0 : In64 a6_0 := bounds_i64 w6_0
  have i1 : In64 a6_1 := bounds_i64 w6_1
  have i2 : In64 a6_2 := bounds_i64 w6_2
  have i3 : In64 a6_3 := bounds_i64 w6_3
  clear w0 w2 w3_0 w3_1 w3_2 w4 w5 w6_0 w6_1 w6_2 w6_3 w7 w8
  have hlen9 : len2 ≤ 9223372036854775807 := by have : maxLen = 9223372036854775807 := rfl; omega
  have hlen8 : len7 ≤ 9223372036854775807 := by have : maxLen = 9223372036854775807 := rfl; omega
  by_cases hb1 : 50 < len2
  · have hb1' : (50 : Int) < (len2 : Int) := by omega
    clear hR hzl hS hyl hyo
    go_enter Try.func6, Try.ntmps6
    go_wp2_with (go_at_call 27; refine (CtH.awake_any _).mono ?_; rintro e w3 ⟨rfl, hb⟩; have hs := hb.size; simp only [World.size_alloc] at hs)
    go_ret
    exact ⟨rfl, by repeat' (first | (with_reducible exact Below.refl _ _) | (with_reducible refine Rd.below_step ?_ (by assumption)) | (with_reducible refine Rd.below_alloc ?_ _) | (with_reducible refine Rd.below_drewN ?_ _) | (with_reducible refine Below.drew ?_) | (with_reducible refine Below.setCell ?_ ?_ _) | (with_reducible refine Rd.below_setRow ?_ ?_ _) | go_size | (simp only [World.size_alloc]; omega) | omega)⟩
  have hb1' : ¬ (50 : Int) < (len2 : Int) := by omega
  by_cases hb2 : 200 < len7
  · have hb2' : (200 : Int) < (len7 : Int) := by omega
    clear hR hzl hS hyl hyo
    go_enter Try.func6, Try.ntmps6
    go_wp2_with (go_at_call 27; refine (CtH.awake_any _).mono ?_; rintro e w3 ⟨rfl, hb⟩; have hs := hb.size; simp only [World.size_alloc] at hs)
    go_ret
    exact ⟨rfl, by repeat' (first | (with_reducible exact Below.refl _ _) | (with_reducible refine Rd.below_step ?_ (by assumption)) | (with_reducible refine Rd.below_alloc ?_ _) | (with_reducible refine Rd.below_drewN ?_ _) | (with_reducible refine Below.drew ?_) | (with_reducible refine Below.setCell ?_ ?_ _) | (with_reducible refine Rd.below_setRow ?_ ?_ _) | go_size | (simp only [World.size_alloc]; omega) | omega)⟩
  have hb2' : ¬ (200 : Int) < (len7 : Int) := by omega
  obtain ⟨px, ok, hTX, hTR⟩ := texels ys a7 len7 cap7 a4 a5 hyl (by omega) hyc (hyo.imp (fun h => h.1) (fun ⟨b, off, h, _⟩ => ⟨b, off, h⟩))
  have HTX := Lib.hid hTX
  have HTR := Lib.hid hTR
  clear hzl hTX hTR hyl hyo
  have hB0 : Below w.heap.size w ((w.alloc (.cells #[.int .i64 a3_0, .int .i64 a3_1, .int .i64 a3_2] 61)).alloc (.cells #[.int .i64 a6_0, .int .i64 a6_1, .int .i64 a6_2, .int .i64 a6_3] 52)) := by repeat' (first | (with_reducible exact Below.refl _ _) | (with_reducible refine Rd.below_step ?_ (by assumption)) | (with_reducible refine Rd.below_alloc ?_ _) | (with_reducible refine Rd.below_drewN ?_ _) | (with_reducible refine Below.drew ?_) | (with_reducible refine Below.setCell ?_ ?_ _) | (with_reducible refine Rd.below_setRow ?_ ?_ _) | go_size | (simp only [World.size_alloc]; omega) | omega)
  have hG0 : blk ((w.alloc (.cells #[.int .i64 a3_0, .int .i64 a3_1, .int .i64 a3_2] 61)).alloc (.cells #[.int .i64 a6_0, .int .i64 a6_1, .int .i64 a6_2, .int .i64 a6_3] 52)) w.heap.size = some (.cells #[.int .i64 a3_0, .int .i64 a3_1, .int .i64 a3_2] 61 (0, 0)) := (blk_alloc_old _ _ _ (by simp)).trans (blk_alloc_at _ _ _ rfl)
  have hA0 : blk ((w.alloc (.cells #[.int .i64 a3_0, .int .i64 a3_1, .int .i64 a3_2] 61)).alloc (.cells #[.int .i64 a6_0, .int .i64 a6_1, .int .i64 a6_2, .int .i64 a6_3] 52)) (w.heap.size + 1) = some (.cells #[.int .i64 a6_0, .int .i64 a6_1, .int .i64 a6_2, .int .i64 a6_3] 52 (0, 0)) := blk_alloc_at _ _ _ (by simp)
  have hRa := hR.below hB0 (Nat.le_refl _)
  have hSa := hS.below hB0 (Nat.le_refl _)
  go_enter Try.func6, Try.ntmps6
  go_wp2_with fail
  refine (Paint_any a0 a1 a2 len2 cap2 zs _ d1 d2 hRa hz (by omega)).mono ?_
  rintro e w1 ⟨⟨D, u, ts, -, hD3, rfl, hts, hRB, hou⟩, hb1⟩
  have L1 : Below w.heap.size w w1 := hB0.trans (hb1.mono (by simp; omega))
  have hA1 := bd_keep hA0 hb1
  have hG1 := bd_keep hG0 hb1
  have hS1 := hSa.below hb1 (Nat.le_refl _)
  clear hb1 hA0 hG0 hB0 hRa hR hS hSa
  obtain ⟨q, hq⟩ : ∃ q, q = sd D * sd D := ⟨_, rfl⟩
  have hq0 : 0 < q := by rw [hq]; exact Nat.mul_pos (by have := sd_pos D; omega) (by have := sd_pos D; omega)
  rw [← hq] at hou hts
  obtain ⟨g, cap, rfl, hg0, hg1, hgc, hgm, -⟩ := owns_pos hou hq0
  have HQ := Lib.hid hq
  have hq9 : q ≤ 1024 := by rw [hq]; exact sq_le (sd_le hD3)
  clear hq
  have hTB : blk (w1.alloc (.cells #[.int .i64 D, .bool a1, .slice (some ⟨g, 0, none⟩) q cap] 24)) w1.heap.size = some (.cells #[.int .i64 D, .bool a1, .slice (some ⟨g, 0, none⟩) q cap] 24 (0, 0)) := blk_alloc_at _ _ _ rfl
  have hB1 := (Below.refl w1.heap.size w1).alloc (Nat.le_refl _) (.cells #[.int .i64 D, .bool a1, .slice (some ⟨g, 0, none⟩) q cap] 24)
  have hRd := (Reads.of_owns hou).below hB1 (Nat.le_refl _)
  have hA2 := bd_keep hA1 hB1
  have hG2 := bd_keep hG1 hB1
  have hS2 := hS1.below hB1 (Nat.le_refl _)
  have hs1 := L1.size
  go_wp2_with fail
  refine (Build_any a1 ⟨g, 0, none⟩ q cap _ hRd hD3 HQ.out hRB).mono ?_
  rintro e w2 ⟨⟨bm, rfl, -, hP⟩, hb2⟩
  have L2 : Below w.heap.size w w2 := by repeat' (first | (with_reducible exact Below.refl _ _) | (with_reducible refine Rd.below_step ?_ (by assumption)) | (with_reducible refine Rd.below_alloc ?_ _) | (with_reducible refine Rd.below_drewN ?_ _) | (with_reducible refine Below.drew ?_) | (with_reducible refine Below.setCell ?_ ?_ _) | (with_reducible refine Rd.below_setRow ?_ ?_ _) | go_size | (simp only [World.size_alloc]; omega) | omega)
  have hT2 := bd_keep hTB hb2
  have hA3 := bd_keep hA2 hb2
  have hG3 := bd_keep hG2 hb2
  have hS3 := hS2.below hb2 (Nat.le_refl _)
  have hR2 := hRd.below hb2 (Nat.le_refl _)
  clear hTB hB1 hRd hou hA1 hA2 hG1 hG2 hS1 hS2 hb2 L1 hg0 hg1
  go_wp2_with fail
  refine (RBuild_any a1 ⟨g, 0, none⟩ q cap _ hR2 hD3 HQ.out hRB).mono ?_
  rintro e w3 ⟨⟨bq, rfl, -, hq3⟩, hb3⟩
  have L3 : Below w.heap.size w w3 := L2.trans (hb3.mono L2.size)
  have hP3 := hP.below hb3
  have hT3 := bd_keep hT2 hb3
  have hA4 := bd_keep hA3 hb3
  have hG4 := bd_keep hG3 hb3
  have hS4 := hS3.below hb3 (Nat.le_refl _)
  obtain ⟨tb, htb⟩ : ∃ t, w1.heap.size = t := ⟨_, rfl⟩
  rw [htb] at hT3
  clear hb3 hP hT2 hA3 hG3 hS3 hR2 L2
  have HST : Hid (∀ X, Below w3.heap.size w3 X → Pyr X bm D a1 ts ∧ Rp X bq D (D + 1) a1 ts ∧ Reads X 1 a7 len7 (ys.map (Value.int .u8)) ∧ X.cell? ⟨w.heap.size, 0, none⟩ = some (.int .i64 a3_0) ∧ X.cell? ⟨w.heap.size, 1, none⟩ = some (.int .i64 a3_1) ∧ X.cell? ⟨w.heap.size, 2, none⟩ = some (.int .i64 a3_2)
      ∧ X.cell? ⟨tb, 0, none⟩ = some (.int .i64 D) ∧ X.cell? ⟨w.heap.size + 1, 0, none⟩ = some (.int .i64 a6_0) ∧ X.cell? ⟨w.heap.size + 1, 1, none⟩ = some (.int .i64 a6_1) ∧ X.cell? ⟨w.heap.size + 1, 2, none⟩ = some (.int .i64 a6_2) ∧ X.cell? ⟨w.heap.size + 1, 3, none⟩ = some (.int .i64 a6_3)) := Lib.hid fun X hb => by
    refine ⟨hP3.below hb, hq3.below hb, hS4.below hb (Nat.le_refl _), ?_, ?_, ?_, ?_, ?_, ?_, ?_, ?_⟩
    · rw [blk_cell (bd_keep hG4 hb)]; rfl
    · rw [blk_cell (bd_keep hG4 hb)]; rfl
    · rw [blk_cell (bd_keep hG4 hb)]; rfl
    · rw [blk_cell (bd_keep hT3 hb)]; rfl
    · rw [blk_cell (bd_keep hA4 hb)]; rfl
    · rw [blk_cell (bd_keep hA4 hb)]; rfl
    · rw [blk_cell (bd_keep hA4 hb)]; rfl
    · rw [blk_cell (bd_keep hA4 hb)]; rfl
  obtain ⟨zb, nz, fe, vb, hzb, hfe, hnz, hn144, hPG, hCT⟩ := pages bm bq D a1 ts a3_0 a3_1 a3_2 hRB
  have HPG := Lib.hid hPG
  have HCT := Lib.hid hCT
  have hfe2 : decide (fe = 0) = vb := by rw [← hfe]; rfl
  have hnz2 : decide (0 < nz) = vb := by rw [← hnz]; exact decide_eq_decide.2 (by omega)
  obtain ⟨-, -, -, k0, k1, k2, -⟩ := HST.out w3 (Below.refl _ _)
  rw [htb]
  clear hP3 hq3 hT3 hA4 hG4 hS4 hPG hCT htb hs1
  go_wp2_with fail
  refine (HPG.out w3 (HST.out w3 (Below.refl _ _)).1).mono ?_
  rintro e w4 ⟨⟨aP, cP, rfl, hRp⟩, hb4⟩
  have L4 : Below w.heap.size w w4 := L3.trans (hb4.mono L3.size)
  obtain ⟨-, hQ4, -, k0, k1, k2, -⟩ := HST.out w4 hb4
  go_wp2_with fail
  refine (HCT.out w4 hQ4).mono ?_
  rintro e w5 ⟨⟨aC, cC, rfl, hRc⟩, hb5⟩
  have hRp5 := hRp.below hb5 (Nat.le_refl _)
  have b5 : Below w3.heap.size w3 w5 := hb4.trans (hb5.mono hb4.size)
  clear hRp hQ4 k0 k1 k2 hb4 hb5 L4
  obtain ⟨-, -, hZ5, -⟩ := HST.out w5 b5
  go_wp2_with fail
  refine (HTX.out w5 hZ5).mono ?_
  rintro e w6 ⟨rfl, hb6⟩
  have b6 : Below w3.heap.size w3 w6 := b5.trans (hb6.mono b5.size)
  have hRp6 := hRp5.below hb6 (Nat.le_refl _)
  have hRc6 := hRc.below hb6 (Nat.le_refl _)
  have hB6 := (Below.refl w6.heap.size w6).alloc (Nat.le_refl _) (.cells px.c 39)
  have hC6 : blk (w6.alloc (.cells px.c 39)) w6.heap.size = some (.cells px.c 39 (0, 0)) := blk_alloc_at _ _ _ rfl
  have hZ6 := (HST.out _ (b6.trans (hB6.mono b6.size))).2.2.1
  clear hZ5 b5 hRp5 hRc hb6
  go_wp2_with fail
  refine (HTR.out _ hZ6).mono ?_
  rintro e w7 ⟨rfl, hb7⟩
  have b67 : Below w6.heap.size w6 w7 := hB6.trans (hb7.mono (by simp))
  have b7 : Below w3.heap.size w3 w7 := b6.trans (b67.mono b6.size)
  have hRp7 := hRp6.below b67 (Nat.le_refl _)
  have hRc7 := hRc6.below b67 (Nat.le_refl _)
  have hC7 := bd_keep hC6 hb7
  clear hZ6 hB6 hb7 hC6 b67 b6 hRp6 hRc6
  go_upto_region 12 with (fail)
  refine Rd.name_world ?_
  intro W hW
  have B7 : Below w7.heap.size w7 W := by rw [hW]; repeat' (first | (with_reducible exact Below.refl _ _) | (with_reducible refine Rd.below_step ?_ (by assumption)) | (with_reducible refine Rd.below_alloc ?_ _) | (with_reducible refine Rd.below_drewN ?_ _) | (with_reducible refine Below.drew ?_) | (with_reducible refine Below.setCell ?_ ?_ _) | (with_reducible refine Rd.below_setRow ?_ ?_ _) | go_size | (simp only [World.size_alloc]; omega) | omega)
  have hC8 := bd_keep hC7 B7
  have hE8 : blk W w7.heap.size = some (.cells px.c 39 (0, 0)) := by rw [hW]; first | exact blk_alloc_at _ _ _ rfl | exact blk_setRow_of (blk_alloc_at _ _ _ rfl) _
  have cv1 := conv_reads (P := Try.prog) (cap := cP) Try.underlying62 Try.underlying5 Try.underlying9 (hRp7.below B7 (Nat.le_refl _)) hzb
  have cv2 := conv_reads (P := Try.prog) (cap := cC) Try.underlying62 Try.underlying5 Try.underlying9 (hRc7.below B7 (Nat.le_refl _)) hzb
  have b8 : Below w3.heap.size w3 W := b7.trans (B7.mono b7.size)
  have ld1 := col_here hC8
  have ld2 := col_here hE8
  have e0 : ((bytesOf zb).toList == (bytesOf zb).toList) = true := by simp
  clear hW hRp7 hRc7 hC7 b7 B7 hC8 hE8 HPG HCT HTX HTR hzb
  go_upto_region 14 with (fail)
  clear cv1 cv2 ld1 ld2 e0 hfe hfe2 hnz hnz2
  go_wp2_with fail
  refine (rchanged_its0 bq D a1 ts W (HST.out W b8).2.1).mono ?_
  rintro e w8 ⟨⟨us, au, cu, rfl, hu1, hu2, hu3⟩, hb8⟩
  have b9 : Below w3.heap.size w3 w8 := b8.trans (hb8.mono b8.size)
  obtain ⟨N, hN⟩ : ∃ N, (PgM.allV (D : Int)).length = N := ⟨_, rfl⟩
  have hN1 : 1 ≤ N ∧ N ≤ 85 := by
    rw [← hN]
    rcases (show D = 0 ∨ D = 1 ∨ D = 2 ∨ D = 3 by omega) with rfl | rfl | rfl | rfl <;> decide +kernel
  have huN : us.length = N := by
    have := congrArg List.length hu2
    rw [List.length_map, hN] at this
    exact this
  obtain ⟨ub, uo, rfl⟩ : ∃ ub uo, au = some ⟨ub, uo, none⟩ := by
    obtain ⟨⟨h1, h2⟩, -⟩ := hu1
    rcases h2 with h2 | ⟨b, o, h2, -⟩
    · omega
    · exact ⟨b, o, h2⟩
  obtain ⟨k, hk⟩ : ∃ k : Nat, a8 % ((N : Int) + 1) = k := ⟨(a8 % ((N : Int) + 1)).toNat, by have := Int.emod_nonneg a8 (b := (N : Int) + 1) (by omega); omega⟩
  have hkN : k ≤ N := by have := Int.emod_lt_of_pos a8 (b := (N : Int) + 1) (by omega); omega
  have CR := Lib.hid fun X => (hk ▸ Alk.round_any a8 ((N : Int) + 1) X l1 l2 (by omega) (by omega) : Calls Try.prog 33 #[.int .i64 a8, .int .i64 ((N : Int) + 1)] X fun e w' => e = .returned (.int .i64 k) ∧ X = w')
  have HU1 := Lib.hid hu1
  have HU2 := Lib.hid hu2
  have HNN := Lib.hid hN
  have HUN := Lib.hid huN
  rw [huN] at hu3 ⊢
  clear hb8 hu1 hu2 hN huN b8 hk
  go_wp2_with fail
  refine (CR.out _).mono ?_
  rintro e _ ⟨rfl, rfl⟩
  obtain ⟨-, -, -, -, -, -, cD, ca0, ca1, ca2, ca3⟩ := HST.out w8 b9
  clear CR
  go_wp2_with fail
  have hB2 := (Below.refl w8.heap.size w8).alloc (Nat.le_refl _) (.cells #[.int .i64 a6_0, .int .i64 a6_1, .int .i64 a6_2, .int .i64 a6_3, .int .i64 5] 3)
  refine (StepOf_4 D _ 5 5 [a6_0, a6_1, a6_2, a6_3, 5] _ hD3 (reads_new w8 _ _ 1 5 rfl) (by intro z hz; simp at hz; rcases hz with rfl | rfl | rfl | rfl | rfl <;> first | assumption | exact ⟨by decide, by decide⟩) (by omega)).mono ?_
  rintro e w9 ⟨⟨X, Y, V, H, u3, cs, rfl, hW1, hH1, hW4, hH4, hXW, hYH, hcl, hcB, ho3⟩, hb9⟩
  have b89 : Below w8.heap.size w8 w9 := hB2.trans (hb9.mono (by simp))
  have b10 : Below w3.heap.size w3 w9 := b9.trans (b89.mono b9.size)
  have hU9 := HU1.out.below b89
  clear hB2 hb9 ca0 ca1 ca2 ca3 cD b9 HU1
  obtain ⟨qc, hqc⟩ : ∃ qc, qc = V * H := ⟨_, rfl⟩
  have hqc0 : 0 < qc := by rw [hqc]; exact Nat.mul_pos (by omega) (by omega)
  rw [← hqc] at ho3 hcl
  obtain ⟨g3, cap3, rfl, -, hg3, hgc3, hgm3, -⟩ := owns_pos ho3 hqc0
  have HQC := Lib.hid hqc
  clear hqc
  have hSB : blk (w9.alloc (.cells (stpH X Y V H (.slice (some ⟨g3, 0, none⟩) qc cap3)) 57)) w9.heap.size = some (.cells (stpH X Y V H (.slice (some ⟨g3, 0, none⟩) qc cap3)) 57 (0, 0)) := blk_alloc_at _ _ _ rfl
  have hB3 := (Below.refl w9.heap.size w9).alloc (Nat.le_refl _) (.cells (stpH X Y V H (.slice (some ⟨g3, 0, none⟩) qc cap3)) 57)
  have hR5 := (Reads.of_owns ho3).below hB3 (Nat.le_refl _)
  have hPm := (HST.out _ (b10.trans (hB3.mono b10.size))).1
  go_wp2_with fail
  refine (With_any X Y V H g3 0 qc cap3 cs _ hPm (by omega) (by omega) hW1 hH1 HQC.out hgc3 hR5 hcB).mono ?_
  rintro e v1 ⟨⟨bn, rfl, -, hPn⟩, hbv⟩
  have c1 : Below w9.heap.size w9 v1 := hB3.trans (hbv.mono (by simp))
  have hS4 := bd_keep hSB hbv
  have hC4 := hR5.below hbv (Nat.le_refl _)
  have d1' : Below w3.heap.size w3 v1 := b10.trans (c1.mono b10.size)
  have hRq := (HST.out _ d1').2.1
  have hU10 := hU9.below c1
  have t18 : v1.cell? ⟨w9.heap.size, 18, none⟩ = some (.int .i64 X) := by rw [blk_cell hS4]; rfl
  have t19 : v1.cell? ⟨w9.heap.size, 19, none⟩ = some (.int .i64 Y) := by rw [blk_cell hS4]; rfl
  have t20 : v1.cell? ⟨w9.heap.size, 20, none⟩ = some (.int .i64 V) := by rw [blk_cell hS4]; rfl
  have t21 : v1.cell? ⟨w9.heap.size, 21, none⟩ = some (.int .i64 H) := by rw [blk_cell hS4]; rfl
  have t22 : v1.cell? ⟨w9.heap.size, 22, none⟩ = some (.slice (some ⟨g3, 0, none⟩) qc cap3) := by rw [blk_cell hS4]; rfl
  clear hB3 hbv hSB hR5 ho3 hPm b89 c1 hU9 b10 hg3
  go_wp2_with fail
  refine (RWith_any X Y V H g3 0 qc cap3 cs _ hRq (by omega) (by omega) hW1 hH1 HQC.out hC4 hcB).mono ?_
  rintro e v2 ⟨⟨bo, rfl, -, hRo⟩, hbv2⟩
  have hU11 := hU10.below hbv2
  have hPn2 := hPn.below hbv2
  have d2' : Below w3.heap.size w3 v2 := d1'.trans (hbv2.mono d1'.size)
  clear hRq hS4 hC4 hU10 hPn hbv2 d1' t18 t19 t20 t21 t22
  obtain ⟨tn, htn⟩ : ∃ t, put ts (sd D) X Y V cs H = t := ⟨_, rfl⟩
  rw [htn] at hPn2 hRo
  obtain ⟨hPm, hRq, -⟩ := HST.out v2 d2'
  obtain ⟨al, hal⟩ : ∃ al : List Int → Bool, ∀ L P Q, al [L, P, Q] = eqB (fb (pageP ts D a1 L P Q)) (fb (pageP tn D a1 L P Q)) := ⟨fun v => eqB (fb (pageP ts D a1 (PgM.g v 0) (PgM.g v 1) (PgM.g v 2))) (fb (pageP tn D a1 (PgM.g v 0) (PgM.g v 1) (PgM.g v 2))), fun L P Q => rfl⟩
  have L9 : Below w.heap.size w v2 := L3.trans (d2'.mono L3.size)
  have hBn := hPn2.bb
  have FL : Hid (∀ xs : List El, xs.map Prod.fst = PgM.allV (D : Int) → xs.length = N) := Lib.hid fun xs h => by
    have := congrArg List.length h
    rw [List.length_map, HNN.out] at this
    exact this
  have FK : Hid (∀ xs : List El, xs.map Prod.fst = (PgM.allV (D : Int)).take k → xs.length = k) := Lib.hid fun xs h => by
    have := congrArg List.length h
    rw [List.length_map, List.length_take, HNN.out] at this
    omega
  have FA : Hid (∀ xs : List El, xs.map Prod.fst = (PgM.allV (D : Int)).filter (fun v => !al v) → xs.length ≤ 85) := Lib.hid fun xs h => by
    have h1 := congrArg List.length h
    rw [List.length_map] at h1
    have h2 := List.length_filter_le (fun v => !al v) (PgM.allV (D : Int))
    rw [HNN.out] at h2
    omega
  have hkc : (k : Int) ≤ (cu : Int) := by omega
  clear HST L3 d2' htn HQC hcB hcl
  go_upto_region 21 with (fail)
  refine PredT.region_of (W := v2) (v2.heap.size) (Nat.le_refl _) [] [
      fun _ => True] [
      PredT.At 0 (.pointer (some ⟨bm, 0, none⟩)),
      PredT.When 0 (fun u y => ∃ (xs : List El) (a : Option Addr) (c : Nat), u = .slice a xs.length c ∧ Its ts D a1 a xs y ∧ xs.map Prod.fst = PgM.allV (D : Int)),
      PredT.At 0 (.slice (some ⟨ub, uo, none⟩) N cu),
      PredT.At 0 (.bool true),
      PredT.At 0 (.bool true),
      PredT.At 0 (.pointer (some ⟨bm, 0, none⟩)),
      PredT.At 0 (.int .i64 k),
      PredT.When 0 (fun u y => ∃ (xs : List El) (a : Option Addr) (c : Nat), u = .slice a xs.length c ∧ Its ts D a1 a xs y ∧ xs.map Prod.fst = (PgM.allV (D : Int)).take k),
      PredT.At 0 (.slice (some ⟨ub, uo, none⟩) N cu),
      PredT.At 0 (.int .i64 k),
      PredT.At 0 (.slice (some ⟨ub, uo, none⟩) k cu),
      PredT.At 0 (.bool true),
      PredT.At 0 (.bool true),
      PredT.At 0 (.bool true),
      PredT.At 0 (.pointer (some ⟨bm, 0, none⟩)),
      PredT.At 0 (.pointer (some ⟨bn, 0, none⟩)),
      PredT.When 0 (fun u y => ∃ (xs : List El) (a : Option Addr) (c : Nat), u = .slice a xs.length c ∧ Its tn D a1 a xs y ∧ xs.map Prod.fst = (PgM.allV (D : Int)).filter (fun v => !al v)),
      PredT.At 0 (.pointer (some ⟨bq, 0, none⟩)),
      PredT.At 0 (.pointer (some ⟨bo, 0, none⟩)),
      PredT.When 0 (fun u y => ∃ (xs : List El) (a : Option Addr) (c : Nat), u = .slice a xs.length c ∧ Its tn D a1 a xs y ∧ xs.map Prod.fst = (PgM.allV (D : Int)).filter (fun v => !al v)),
      PredT.At 0 (.bool true),
      PredT.At 0 (.bool true),
      PredT.At 0 (.bool true),
      PredT.At 0 (.pointer (some ⟨bn, 0, none⟩)),
      PredT.When 0 (fun u y => ∃ (xs : List El) (a : Option Addr) (c : Nat), u = .slice a xs.length c ∧ Its tn D a1 a xs y ∧ xs.map Prod.fst = PgM.allV (D : Int)),
      PredT.At 0 (.pointer (some ⟨bo, 0, none⟩)),
      PredT.When 0 (fun u y => ∃ (xs : List El) (a : Option Addr) (c : Nat), u = .slice a xs.length c ∧ Its tn D a1 a xs y ∧ xs.map Prod.fst = PgM.allV (D : Int)),
      PredT.At 0 (.bool true),
      PredT.At 0 (.bool true),
      PredT.At 0 (.bool true),
      PredT.At 0 (.bool true),
      PredT.At 0 (.bool true),
      PredT.At 0 (.bool true)] (by kernel_rfl) (by kernel_rfl) (by kernel_rfl) (by decide) (by decide) ?_ ?_ ?_ ?_ ?_ ?_
  · exact ⟨PredT.at_stab _ _ _ _, PredT.when_stab _ _ _ (fun u y y' ⟨xs, a, c, h1, h2, h3⟩ hb => ⟨xs, a, c, h1, h2.below hb, h3⟩), PredT.at_stab _ _ _ _, PredT.at_stab _ _ _ _, PredT.at_stab _ _ _ _, PredT.at_stab _ _ _ _, PredT.at_stab _ _ _ _, PredT.when_stab _ _ _ (fun u y y' ⟨xs, a, c, h1, h2, h3⟩ hb => ⟨xs, a, c, h1, h2.below hb, h3⟩), PredT.at_stab _ _ _ _, PredT.at_stab _ _ _ _, PredT.at_stab _ _ _ _, PredT.at_stab _ _ _ _, PredT.at_stab _ _ _ _, PredT.at_stab _ _ _ _, PredT.at_stab _ _ _ _, PredT.at_stab _ _ _ _, PredT.when_stab _ _ _ (fun u y y' ⟨xs, a, c, h1, h2, h3⟩ hb => ⟨xs, a, c, h1, h2.below hb, h3⟩), PredT.at_stab _ _ _ _, PredT.at_stab _ _ _ _, PredT.when_stab _ _ _ (fun u y y' ⟨xs, a, c, h1, h2, h3⟩ hb => ⟨xs, a, c, h1, h2.below hb, h3⟩), PredT.at_stab _ _ _ _, PredT.at_stab _ _ _ _, PredT.at_stab _ _ _ _, PredT.at_stab _ _ _ _, PredT.when_stab _ _ _ (fun u y y' ⟨xs, a, c, h1, h2, h3⟩ hb => ⟨xs, a, c, h1, h2.below hb, h3⟩), PredT.at_stab _ _ _ _, PredT.when_stab _ _ _ (fun u y y' ⟨xs, a, c, h1, h2, h3⟩ hb => ⟨xs, a, c, h1, h2.below hb, h3⟩), PredT.at_stab _ _ _ _, PredT.at_stab _ _ _ _, PredT.at_stab _ _ _ _, PredT.at_stab _ _ _ _, PredT.at_stab _ _ _ _, PredT.at_stab _ _ _ _, trivial⟩
  · intro q hq
    rcases List.mem_cons.1 hq with rfl | hq
    · exact fun _ _ h _ => trivial
    cases hq
  · exact trivial
  · refine ⟨.inr ?_, .inr ?_, .inr ?_, .inr ?_, .inr ?_, .inr ?_, .inr ?_, .inr ?_, .inr ?_, .inr ?_, .inr ?_, .inr ?_, .inr ?_, .inr ?_, .inr ?_, .inr ?_, .inr ?_, .inr ?_, .inr ?_, .inr ?_, .inr ?_, .inr ?_, .inr ?_, .inr ?_, .inr ?_, .inr ?_, .inr ?_, .inr ?_, .inr ?_, .inr ?_, .inr ?_, .inr ?_, .inr ?_, trivial⟩
    · intro b9 X ph hE hd hn hS hV hI hF
      have r20 : b9.tmps[20]?.getD undef = .pointer (some ⟨bm, 0, none⟩) := (hn 20 (by kernel_rfl)).trans rfl
      exact Pred.yields_run (v := .pointer (some ⟨bm, 0, none⟩)) (Pred.wanted_none rfl) (by go_simp) ⟨Below.refl _ _, rfl, Nat.zero_le _⟩
    · intro b9 X ph hE hd hn hS hV hI hF
      obtain ⟨r168, j168⟩ : PredT.At 0 (.pointer (some ⟨bm, 0, none⟩)) (b9.tmps[168]?.getD undef) X ph := hV 0 _ 168 rfl rfl (Pred.waits_near (by kernel_rfl) (by kernel_rfl))
      refine Pred.yields_call (f := 35) (args := #[.pointer (some ⟨bm, 0, none⟩), .int .i64 (-1)]) (Pred.wanted_none rfl) (by go_simp) ?_
      refine (all_its bm D a1 ts X (hPm.below hE)).mono ?_
      rintro e w9 ⟨⟨xs, a, c, rfl, h2, h3⟩, hb⟩
      exact ⟨_, rfl, hb, Nat.zero_le _, fun _ => ⟨xs, a, c, rfl, h2, h3⟩⟩
    · intro b9 X ph hE hd hn hS hV hI hF
      have r30 : b9.tmps[30]?.getD undef = .slice (some ⟨ub, uo, none⟩) N cu := (hn 30 (by kernel_rfl)).trans rfl
      exact Pred.yields_run (v := .slice (some ⟨ub, uo, none⟩) N cu) (Pred.wanted_none rfl) (by go_simp) ⟨Below.refl _ _, rfl, Nat.zero_le _⟩
    · intro b9 X ph hE hd hn hS hV hI hF
      obtain ⟨j169, r169⟩ : PredT.When 0 (fun u y => ∃ (xs : List El) (a : Option Addr) (c : Nat), u = .slice a xs.length c ∧ Its ts D a1 a xs y ∧ xs.map Prod.fst = PgM.allV (D : Int)) (b9.tmps[169]?.getD undef) X ph := hV 1 _ 169 rfl rfl (Pred.waits_near (by kernel_rfl) (by kernel_rfl))
      obtain ⟨r170, j170⟩ : PredT.At 0 (.slice (some ⟨ub, uo, none⟩) N cu) (b9.tmps[170]?.getD undef) X ph := hV 2 _ 170 rfl rfl (Pred.waits_near (by kernel_rfl) (by kernel_rfl))
      obtain ⟨x1, p1, c1, hv1, hI1, hF1⟩ := r169 (by have := PredT.sel_le hS; simp at this; omega)
      have r169e : b9.tmps[169]?.getD undef = .slice p1 x1.length c1 := hv1
      refine Pred.yields_call (f := 34) (args := #[.slice p1 x1.length c1, .slice (some ⟨ub, uo, none⟩) N cu]) (Pred.wanted_none rfl) (by go_simp) ?_
      refine (same_items _ _ _ _ _ _ x1 us X rfl HUN.out.symm (hF1.trans HU2.out.symm) hI1 (hU11.below hE) hRB (by rw [FL.out x1 hF1]; omega)).mono ?_
      rintro e w9 ⟨rfl, hb⟩
      exact ⟨_, rfl, hb, rfl, Nat.zero_le _⟩
    · intro b9 X ph hE hd hn hS hV hI hF
      obtain ⟨r171, j171⟩ : PredT.At 0 (.bool true) (b9.tmps[171]?.getD undef) X ph := hV 3 _ 171 rfl rfl (Pred.waits_near (by kernel_rfl) (by kernel_rfl))
      exact Pred.yields_run (v := .bool true) (Pred.wanted_none rfl) (by go_simp) ⟨Below.refl _ _, rfl, Nat.zero_le _⟩
    · intro b9 X ph hE hd hn hS hV hI hF
      have r20 : b9.tmps[20]?.getD undef = .pointer (some ⟨bm, 0, none⟩) := (hn 20 (by kernel_rfl)).trans rfl
      obtain ⟨r172, j172⟩ : PredT.At 0 (.bool true) (b9.tmps[172]?.getD undef) X ph := hV 4 _ 172 rfl rfl (Pred.waits_near (by kernel_rfl) (by kernel_rfl))
      exact Pred.yields_run (v := .pointer (some ⟨bm, 0, none⟩)) ((Pred.wanted_at (g := 4) (d := 172) (f := true) rfl rfl r172).trans rfl) (by go_simp) ⟨Below.refl _ _, rfl, Nat.zero_le _⟩
    · intro b9 X ph hE hd hn hS hV hI hF
      have r31 : b9.tmps[31]?.getD undef = .int .i64 k := (hn 31 (by kernel_rfl)).trans rfl
      obtain ⟨r172, j172⟩ : PredT.At 0 (.bool true) (b9.tmps[172]?.getD undef) X ph := hV 4 _ 172 rfl rfl (Pred.waits_near (by kernel_rfl) (by kernel_rfl))
      exact Pred.yields_run (v := .int .i64 k) ((Pred.wanted_at (g := 4) (d := 172) (f := true) rfl rfl r172).trans rfl) (by go_simp) ⟨Below.refl _ _, rfl, Nat.zero_le _⟩
    · intro b9 X ph hE hd hn hS hV hI hF
      obtain ⟨r173, j173⟩ : PredT.At 0 (.pointer (some ⟨bm, 0, none⟩)) (b9.tmps[173]?.getD undef) X ph := hV 5 _ 173 rfl rfl (Pred.waits_near (by kernel_rfl) (by kernel_rfl))
      obtain ⟨r174, j174⟩ : PredT.At 0 (.int .i64 k) (b9.tmps[174]?.getD undef) X ph := hV 6 _ 174 rfl rfl (Pred.waits_near (by kernel_rfl) (by kernel_rfl))
      obtain ⟨r172, j172⟩ : PredT.At 0 (.bool true) (b9.tmps[172]?.getD undef) X ph := hV 4 _ 172 rfl rfl (Pred.waits_near (by kernel_rfl) (by kernel_rfl))
      refine Pred.yields_call (f := 35) (args := #[.pointer (some ⟨bm, 0, none⟩), .int .i64 k]) ((Pred.wanted_at (g := 4) (d := 172) (f := true) rfl rfl r172).trans rfl) (by go_simp) ?_
      refine (all_itsk k bm D a1 ts X (hPm.below hE) (by rw [HNN.out]; exact hkN)).mono ?_
      rintro e w9 ⟨⟨xs, a, c, rfl, h2, h3⟩, hb⟩
      exact ⟨_, rfl, hb, Nat.zero_le _, fun _ => ⟨xs, a, c, rfl, h2, h3⟩⟩
    · intro b9 X ph hE hd hn hS hV hI hF
      have r30 : b9.tmps[30]?.getD undef = .slice (some ⟨ub, uo, none⟩) N cu := (hn 30 (by kernel_rfl)).trans rfl
      obtain ⟨r172, j172⟩ : PredT.At 0 (.bool true) (b9.tmps[172]?.getD undef) X ph := hV 4 _ 172 rfl rfl (Pred.waits_near (by kernel_rfl) (by kernel_rfl))
      exact Pred.yields_run (v := .slice (some ⟨ub, uo, none⟩) N cu) ((Pred.wanted_at (g := 4) (d := 172) (f := true) rfl rfl r172).trans rfl) (by go_simp) ⟨Below.refl _ _, rfl, Nat.zero_le _⟩
    · intro b9 X ph hE hd hn hS hV hI hF
      have r31 : b9.tmps[31]?.getD undef = .int .i64 k := (hn 31 (by kernel_rfl)).trans rfl
      obtain ⟨r172, j172⟩ : PredT.At 0 (.bool true) (b9.tmps[172]?.getD undef) X ph := hV 4 _ 172 rfl rfl (Pred.waits_near (by kernel_rfl) (by kernel_rfl))
      exact Pred.yields_run (v := .int .i64 k) ((Pred.wanted_at (g := 4) (d := 172) (f := true) rfl rfl r172).trans rfl) (by go_simp) ⟨Below.refl _ _, rfl, Nat.zero_le _⟩
    · intro b9 X ph hE hd hn hS hV hI hF
      obtain ⟨r176, j176⟩ : PredT.At 0 (.slice (some ⟨ub, uo, none⟩) N cu) (b9.tmps[176]?.getD undef) X ph := hV 8 _ 176 rfl rfl (Pred.waits_near (by kernel_rfl) (by kernel_rfl))
      obtain ⟨r177, j177⟩ : PredT.At 0 (.int .i64 k) (b9.tmps[177]?.getD undef) X ph := hV 9 _ 177 rfl rfl (Pred.waits_near (by kernel_rfl) (by kernel_rfl))
      obtain ⟨r172, j172⟩ : PredT.At 0 (.bool true) (b9.tmps[172]?.getD undef) X ph := hV 4 _ 172 rfl rfl (Pred.waits_near (by kernel_rfl) (by kernel_rfl))
      have z8 : (0 : Int) ≤ (k : Int) := by omega
      exact Pred.yields_run (v := .slice (some ⟨ub, uo, none⟩) k cu) ((Pred.wanted_at (g := 4) (d := 172) (f := true) rfl rfl r172).trans rfl) (by go_simp) ⟨Below.refl _ _, rfl, Nat.zero_le _⟩
    · intro b9 X ph hE hd hn hS hV hI hF
      obtain ⟨j175, r175⟩ : PredT.When 0 (fun u y => ∃ (xs : List El) (a : Option Addr) (c : Nat), u = .slice a xs.length c ∧ Its ts D a1 a xs y ∧ xs.map Prod.fst = (PgM.allV (D : Int)).take k) (b9.tmps[175]?.getD undef) X ph := hV 7 _ 175 rfl rfl (Pred.waits_near (by kernel_rfl) (by kernel_rfl))
      obtain ⟨r178, j178⟩ : PredT.At 0 (.slice (some ⟨ub, uo, none⟩) k cu) (b9.tmps[178]?.getD undef) X ph := hV 10 _ 178 rfl rfl (Pred.waits_near (by kernel_rfl) (by kernel_rfl))
      obtain ⟨r172, j172⟩ : PredT.At 0 (.bool true) (b9.tmps[172]?.getD undef) X ph := hV 4 _ 172 rfl rfl (Pred.waits_near (by kernel_rfl) (by kernel_rfl))
      obtain ⟨x1, p1, c1, hv1, hI1, hF1⟩ := r175 (by have := PredT.sel_le hS; simp at this; omega)
      have r175e : b9.tmps[175]?.getD undef = .slice p1 x1.length c1 := hv1
      refine Pred.yields_call (f := 34) (args := #[.slice p1 x1.length c1, .slice (some ⟨ub, uo, none⟩) k cu]) ((Pred.wanted_at (g := 4) (d := 172) (f := true) rfl rfl r172).trans rfl) (by go_simp) ?_
      refine (same_items _ _ _ _ _ _ x1 (us.take k) X rfl (by rw [List.length_take, HUN.out]; omega) (by rw [List.map_take, HU2.out]; exact hF1) hI1 (Its.take (hU11.below hE) (by rw [HUN.out]; exact hkN)) hRB (by rw [FK.out x1 hF1]; omega)).mono ?_
      rintro e w9 ⟨rfl, hb⟩
      exact ⟨_, rfl, hb, rfl, Nat.zero_le _⟩
    · intro b9 X ph hE hd hn hS hV hI hF
      obtain ⟨r172, j172⟩ : PredT.At 0 (.bool true) (b9.tmps[172]?.getD undef) X ph := hV 4 _ 172 rfl rfl (Pred.waits_near (by kernel_rfl) (by kernel_rfl))
      obtain ⟨r179, j179⟩ : PredT.At 0 (.bool true) (b9.tmps[179]?.getD undef) X ph := hV 11 _ 179 rfl rfl (Pred.waits_near (by kernel_rfl) (by kernel_rfl))
      exact Pred.yields_run (v := .bool true) (Pred.wanted_none rfl) (by go_simp) ⟨Below.refl _ _, rfl, Nat.zero_le _⟩
    · intro b9 X ph hE hd hn hS hV hI hF
      obtain ⟨r180, j180⟩ : PredT.At 0 (.bool true) (b9.tmps[180]?.getD undef) X ph := hV 12 _ 180 rfl rfl (Pred.waits_near (by kernel_rfl) (by kernel_rfl))
      exact Pred.yields_run (v := .bool true) (Pred.wanted_none rfl) (by go_simp) ⟨Below.refl _ _, rfl, Nat.zero_le _⟩
    · intro b9 X ph hE hd hn hS hV hI hF
      have r20 : b9.tmps[20]?.getD undef = .pointer (some ⟨bm, 0, none⟩) := (hn 20 (by kernel_rfl)).trans rfl
      obtain ⟨r181, j181⟩ : PredT.At 0 (.bool true) (b9.tmps[181]?.getD undef) X ph := hV 13 _ 181 rfl rfl (Pred.waits_near (by kernel_rfl) (by kernel_rfl))
      exact Pred.yields_run (v := .pointer (some ⟨bm, 0, none⟩)) ((Pred.wanted_at (g := 13) (d := 181) (f := true) rfl rfl r181).trans rfl) (by go_simp) ⟨Below.refl _ _, rfl, Nat.zero_le _⟩
    · intro b9 X ph hE hd hn hS hV hI hF
      have r33 : b9.tmps[33]?.getD undef = .pointer (some ⟨bn, 0, none⟩) := (hn 33 (by kernel_rfl)).trans rfl
      obtain ⟨r181, j181⟩ : PredT.At 0 (.bool true) (b9.tmps[181]?.getD undef) X ph := hV 13 _ 181 rfl rfl (Pred.waits_near (by kernel_rfl) (by kernel_rfl))
      exact Pred.yields_run (v := .pointer (some ⟨bn, 0, none⟩)) ((Pred.wanted_at (g := 13) (d := 181) (f := true) rfl rfl r181).trans rfl) (by go_simp) ⟨Below.refl _ _, rfl, Nat.zero_le _⟩
    · intro b9 X ph hE hd hn hS hV hI hF
      obtain ⟨r182, j182⟩ : PredT.At 0 (.pointer (some ⟨bm, 0, none⟩)) (b9.tmps[182]?.getD undef) X ph := hV 14 _ 182 rfl rfl (Pred.waits_near (by kernel_rfl) (by kernel_rfl))
      obtain ⟨r183, j183⟩ : PredT.At 0 (.pointer (some ⟨bn, 0, none⟩)) (b9.tmps[183]?.getD undef) X ph := hV 15 _ 183 rfl rfl (Pred.waits_near (by kernel_rfl) (by kernel_rfl))
      obtain ⟨r181, j181⟩ : PredT.At 0 (.bool true) (b9.tmps[181]?.getD undef) X ph := hV 13 _ 181 rfl rfl (Pred.waits_near (by kernel_rfl) (by kernel_rfl))
      refine Pred.yields_call (f := 36) (args := #[.pointer (some ⟨bm, 0, none⟩), .pointer (some ⟨bn, 0, none⟩)]) ((Pred.wanted_at (g := 13) (d := 181) (f := true) rfl rfl r181).trans rfl) (by go_simp) ?_
      refine (changed_its bm bn D a1 ts tn X (hPm.below hE) (hPn2.below hE) al hal).mono ?_
      rintro e w9 ⟨⟨xs, a, c, rfl, h2, h3⟩, hb⟩
      exact ⟨_, rfl, hb, Nat.zero_le _, fun _ => ⟨xs, a, c, rfl, h2, h3⟩⟩
    · intro b9 X ph hE hd hn hS hV hI hF
      have r22 : b9.tmps[22]?.getD undef = .pointer (some ⟨bq, 0, none⟩) := (hn 22 (by kernel_rfl)).trans rfl
      obtain ⟨r181, j181⟩ : PredT.At 0 (.bool true) (b9.tmps[181]?.getD undef) X ph := hV 13 _ 181 rfl rfl (Pred.waits_near (by kernel_rfl) (by kernel_rfl))
      exact Pred.yields_run (v := .pointer (some ⟨bq, 0, none⟩)) ((Pred.wanted_at (g := 13) (d := 181) (f := true) rfl rfl r181).trans rfl) (by go_simp) ⟨Below.refl _ _, rfl, Nat.zero_le _⟩
    · intro b9 X ph hE hd hn hS hV hI hF
      have r35 : b9.tmps[35]?.getD undef = .pointer (some ⟨bo, 0, none⟩) := (hn 35 (by kernel_rfl)).trans rfl
      obtain ⟨r181, j181⟩ : PredT.At 0 (.bool true) (b9.tmps[181]?.getD undef) X ph := hV 13 _ 181 rfl rfl (Pred.waits_near (by kernel_rfl) (by kernel_rfl))
      exact Pred.yields_run (v := .pointer (some ⟨bo, 0, none⟩)) ((Pred.wanted_at (g := 13) (d := 181) (f := true) rfl rfl r181).trans rfl) (by go_simp) ⟨Below.refl _ _, rfl, Nat.zero_le _⟩
    · intro b9 X ph hE hd hn hS hV hI hF
      obtain ⟨r185, j185⟩ : PredT.At 0 (.pointer (some ⟨bq, 0, none⟩)) (b9.tmps[185]?.getD undef) X ph := hV 17 _ 185 rfl rfl (Pred.waits_near (by kernel_rfl) (by kernel_rfl))
      obtain ⟨r186, j186⟩ : PredT.At 0 (.pointer (some ⟨bo, 0, none⟩)) (b9.tmps[186]?.getD undef) X ph := hV 18 _ 186 rfl rfl (Pred.waits_near (by kernel_rfl) (by kernel_rfl))
      obtain ⟨r181, j181⟩ : PredT.At 0 (.bool true) (b9.tmps[181]?.getD undef) X ph := hV 13 _ 181 rfl rfl (Pred.waits_near (by kernel_rfl) (by kernel_rfl))
      refine Pred.yields_call (f := 32) (args := #[.pointer (some ⟨bq, 0, none⟩), .pointer (some ⟨bo, 0, none⟩)]) ((Pred.wanted_at (g := 13) (d := 181) (f := true) rfl rfl r181).trans rfl) (by go_simp) ?_
      refine (rchanged_its bq bo D a1 ts tn X (hRq.below hE) (hRo.below hE) al hal).mono ?_
      rintro e w9 ⟨⟨xs, a, c, rfl, h2, h3⟩, hb⟩
      exact ⟨_, rfl, hb, Nat.zero_le _, fun _ => ⟨xs, a, c, rfl, h2, h3⟩⟩
    · intro b9 X ph hE hd hn hS hV hI hF
      obtain ⟨j184, r184⟩ : PredT.When 0 (fun u y => ∃ (xs : List El) (a : Option Addr) (c : Nat), u = .slice a xs.length c ∧ Its tn D a1 a xs y ∧ xs.map Prod.fst = (PgM.allV (D : Int)).filter (fun v => !al v)) (b9.tmps[184]?.getD undef) X ph := hV 16 _ 184 rfl rfl (Pred.waits_near (by kernel_rfl) (by kernel_rfl))
      obtain ⟨j187, r187⟩ : PredT.When 0 (fun u y => ∃ (xs : List El) (a : Option Addr) (c : Nat), u = .slice a xs.length c ∧ Its tn D a1 a xs y ∧ xs.map Prod.fst = (PgM.allV (D : Int)).filter (fun v => !al v)) (b9.tmps[187]?.getD undef) X ph := hV 19 _ 187 rfl rfl (Pred.waits_near (by kernel_rfl) (by kernel_rfl))
      obtain ⟨r181, j181⟩ : PredT.At 0 (.bool true) (b9.tmps[181]?.getD undef) X ph := hV 13 _ 181 rfl rfl (Pred.waits_near (by kernel_rfl) (by kernel_rfl))
      obtain ⟨x1, p1, c1, hv1, hI1, hF1⟩ := r184 (by have := PredT.sel_le hS; simp at this; omega)
      have r184e : b9.tmps[184]?.getD undef = .slice p1 x1.length c1 := hv1
      obtain ⟨y2, p2, c2, hv2, hI2, hF2⟩ := r187 (by have := PredT.sel_le hS; simp at this; omega)
      have r187e : b9.tmps[187]?.getD undef = .slice p2 y2.length c2 := hv2
      refine Pred.yields_call (f := 34) (args := #[.slice p1 x1.length c1, .slice p2 y2.length c2]) ((Pred.wanted_at (g := 13) (d := 181) (f := true) rfl rfl r181).trans rfl) (by go_simp) ?_
      refine (same_items _ _ _ _ _ _ x1 y2 X rfl rfl (hF1.trans hF2.symm) hI1 hI2 hBn (by have := FA.out x1 hF1; omega)).mono ?_
      rintro e w9 ⟨rfl, hb⟩
      exact ⟨_, rfl, hb, rfl, Nat.zero_le _⟩
    · intro b9 X ph hE hd hn hS hV hI hF
      obtain ⟨r181, j181⟩ : PredT.At 0 (.bool true) (b9.tmps[181]?.getD undef) X ph := hV 13 _ 181 rfl rfl (Pred.waits_near (by kernel_rfl) (by kernel_rfl))
      obtain ⟨r188, j188⟩ : PredT.At 0 (.bool true) (b9.tmps[188]?.getD undef) X ph := hV 20 _ 188 rfl rfl (Pred.waits_near (by kernel_rfl) (by kernel_rfl))
      exact Pred.yields_run (v := .bool true) (Pred.wanted_none rfl) (by go_simp) ⟨Below.refl _ _, rfl, Nat.zero_le _⟩
    · intro b9 X ph hE hd hn hS hV hI hF
      obtain ⟨r189, j189⟩ : PredT.At 0 (.bool true) (b9.tmps[189]?.getD undef) X ph := hV 21 _ 189 rfl rfl (Pred.waits_near (by kernel_rfl) (by kernel_rfl))
      exact Pred.yields_run (v := .bool true) (Pred.wanted_none rfl) (by go_simp) ⟨Below.refl _ _, rfl, Nat.zero_le _⟩
    · intro b9 X ph hE hd hn hS hV hI hF
      have r33 : b9.tmps[33]?.getD undef = .pointer (some ⟨bn, 0, none⟩) := (hn 33 (by kernel_rfl)).trans rfl
      obtain ⟨r190, j190⟩ : PredT.At 0 (.bool true) (b9.tmps[190]?.getD undef) X ph := hV 22 _ 190 rfl rfl (Pred.waits_near (by kernel_rfl) (by kernel_rfl))
      exact Pred.yields_run (v := .pointer (some ⟨bn, 0, none⟩)) ((Pred.wanted_at (g := 22) (d := 190) (f := true) rfl rfl r190).trans rfl) (by go_simp) ⟨Below.refl _ _, rfl, Nat.zero_le _⟩
    · intro b9 X ph hE hd hn hS hV hI hF
      obtain ⟨r191, j191⟩ : PredT.At 0 (.pointer (some ⟨bn, 0, none⟩)) (b9.tmps[191]?.getD undef) X ph := hV 23 _ 191 rfl rfl (Pred.waits_near (by kernel_rfl) (by kernel_rfl))
      obtain ⟨r190, j190⟩ : PredT.At 0 (.bool true) (b9.tmps[190]?.getD undef) X ph := hV 22 _ 190 rfl rfl (Pred.waits_near (by kernel_rfl) (by kernel_rfl))
      refine Pred.yields_call (f := 36) (args := #[.pointer none, .pointer (some ⟨bn, 0, none⟩)]) ((Pred.wanted_at (g := 22) (d := 190) (f := true) rfl rfl r190).trans rfl) (by go_simp) ?_
      refine (changed_its0 bn D a1 tn X (hPn2.below hE)).mono ?_
      rintro e w9 ⟨⟨xs, a, c, rfl, h2, h3⟩, hb⟩
      exact ⟨_, rfl, hb, Nat.zero_le _, fun _ => ⟨xs, a, c, rfl, h2, h3⟩⟩
    · intro b9 X ph hE hd hn hS hV hI hF
      have r35 : b9.tmps[35]?.getD undef = .pointer (some ⟨bo, 0, none⟩) := (hn 35 (by kernel_rfl)).trans rfl
      obtain ⟨r190, j190⟩ : PredT.At 0 (.bool true) (b9.tmps[190]?.getD undef) X ph := hV 22 _ 190 rfl rfl (Pred.waits_near (by kernel_rfl) (by kernel_rfl))
      exact Pred.yields_run (v := .pointer (some ⟨bo, 0, none⟩)) ((Pred.wanted_at (g := 22) (d := 190) (f := true) rfl rfl r190).trans rfl) (by go_simp) ⟨Below.refl _ _, rfl, Nat.zero_le _⟩
    · intro b9 X ph hE hd hn hS hV hI hF
      obtain ⟨r193, j193⟩ : PredT.At 0 (.pointer (some ⟨bo, 0, none⟩)) (b9.tmps[193]?.getD undef) X ph := hV 25 _ 193 rfl rfl (Pred.waits_near (by kernel_rfl) (by kernel_rfl))
      obtain ⟨r190, j190⟩ : PredT.At 0 (.bool true) (b9.tmps[190]?.getD undef) X ph := hV 22 _ 190 rfl rfl (Pred.waits_near (by kernel_rfl) (by kernel_rfl))
      refine Pred.yields_call (f := 32) (args := #[.pointer none, .pointer (some ⟨bo, 0, none⟩)]) ((Pred.wanted_at (g := 22) (d := 190) (f := true) rfl rfl r190).trans rfl) (by go_simp) ?_
      refine (rchanged_its0 bo D a1 tn X (hRo.below hE)).mono ?_
      rintro e w9 ⟨⟨xs, a, c, rfl, h2, h3, -⟩, hb⟩
      exact ⟨_, rfl, hb, Nat.zero_le _, fun _ => ⟨xs, a, c, rfl, h2, h3⟩⟩
    · intro b9 X ph hE hd hn hS hV hI hF
      obtain ⟨j192, r192⟩ : PredT.When 0 (fun u y => ∃ (xs : List El) (a : Option Addr) (c : Nat), u = .slice a xs.length c ∧ Its tn D a1 a xs y ∧ xs.map Prod.fst = PgM.allV (D : Int)) (b9.tmps[192]?.getD undef) X ph := hV 24 _ 192 rfl rfl (Pred.waits_near (by kernel_rfl) (by kernel_rfl))
      obtain ⟨j194, r194⟩ : PredT.When 0 (fun u y => ∃ (xs : List El) (a : Option Addr) (c : Nat), u = .slice a xs.length c ∧ Its tn D a1 a xs y ∧ xs.map Prod.fst = PgM.allV (D : Int)) (b9.tmps[194]?.getD undef) X ph := hV 26 _ 194 rfl rfl (Pred.waits_near (by kernel_rfl) (by kernel_rfl))
      obtain ⟨r190, j190⟩ : PredT.At 0 (.bool true) (b9.tmps[190]?.getD undef) X ph := hV 22 _ 190 rfl rfl (Pred.waits_near (by kernel_rfl) (by kernel_rfl))
      obtain ⟨x1, p1, c1, hv1, hI1, hF1⟩ := r192 (by have := PredT.sel_le hS; simp at this; omega)
      have r192e : b9.tmps[192]?.getD undef = .slice p1 x1.length c1 := hv1
      obtain ⟨y2, p2, c2, hv2, hI2, hF2⟩ := r194 (by have := PredT.sel_le hS; simp at this; omega)
      have r194e : b9.tmps[194]?.getD undef = .slice p2 y2.length c2 := hv2
      refine Pred.yields_call (f := 34) (args := #[.slice p1 x1.length c1, .slice p2 y2.length c2]) ((Pred.wanted_at (g := 22) (d := 190) (f := true) rfl rfl r190).trans rfl) (by go_simp) ?_
      refine (same_items _ _ _ _ _ _ x1 y2 X rfl rfl (hF1.trans hF2.symm) hI1 hI2 hBn (by rw [FL.out x1 hF1]; omega)).mono ?_
      rintro e w9 ⟨rfl, hb⟩
      exact ⟨_, rfl, hb, rfl, Nat.zero_le _⟩
    · intro b9 X ph hE hd hn hS hV hI hF
      obtain ⟨r190, j190⟩ : PredT.At 0 (.bool true) (b9.tmps[190]?.getD undef) X ph := hV 22 _ 190 rfl rfl (Pred.waits_near (by kernel_rfl) (by kernel_rfl))
      obtain ⟨r195, j195⟩ : PredT.At 0 (.bool true) (b9.tmps[195]?.getD undef) X ph := hV 27 _ 195 rfl rfl (Pred.waits_near (by kernel_rfl) (by kernel_rfl))
      exact Pred.yields_run (v := .bool true) (Pred.wanted_none rfl) (by go_simp) ⟨Below.refl _ _, rfl, Nat.zero_le _⟩
    · intro b9 X ph hE hd hn hS hV hI hF
      obtain ⟨r196, j196⟩ : PredT.At 0 (.bool true) (b9.tmps[196]?.getD undef) X ph := hV 28 _ 196 rfl rfl (Pred.waits_near (by kernel_rfl) (by kernel_rfl))
      exact Pred.yields_run (v := .bool true) (Pred.wanted_none rfl) (by go_simp) ⟨Below.refl _ _, rfl, Nat.zero_le _⟩
    · intro b9 X ph hE hd hn hS hV hI hF
      obtain ⟨r197, j197⟩ : PredT.At 0 (.bool true) (b9.tmps[197]?.getD undef) X ph := hV 29 _ 197 rfl rfl (Pred.waits_near (by kernel_rfl) (by kernel_rfl))
      refine Pred.yields_call (f := 27) (args := #[]) ((Pred.wanted_at (g := 29) (d := 197) (f := true) rfl rfl r197).trans rfl) (by go_simp) ?_
      refine (CtH.awake_any X).mono ?_
      rintro e w9 ⟨rfl, hb⟩
      exact ⟨_, rfl, hb, rfl, Nat.zero_le _⟩
    · intro b9 X ph hE hd hn hS hV hI hF
      obtain ⟨r197, j197⟩ : PredT.At 0 (.bool true) (b9.tmps[197]?.getD undef) X ph := hV 29 _ 197 rfl rfl (Pred.waits_near (by kernel_rfl) (by kernel_rfl))
      obtain ⟨r198, j198⟩ : PredT.At 0 (.bool true) (b9.tmps[198]?.getD undef) X ph := hV 30 _ 198 rfl rfl (Pred.waits_near (by kernel_rfl) (by kernel_rfl))
      exact Pred.yields_run (v := .bool true) (Pred.wanted_none rfl) (by go_simp) ⟨Below.refl _ _, rfl, Nat.zero_le _⟩
    · intro b9 X ph hE hd hn hS hV hI hF
      obtain ⟨r199, j199⟩ : PredT.At 0 (.bool true) (b9.tmps[199]?.getD undef) X ph := hV 31 _ 199 rfl rfl (Pred.waits_near (by kernel_rfl) (by kernel_rfl))
      exact Pred.yields_run (v := .bool true) (Pred.wanted_none rfl) (by go_simp) ⟨Below.refl _ _, rfl, Nat.zero_le _⟩
  · trivial
  intro v X hE hS hv
  replace hS : (fun _ => True) X := hS
  have e0 : v 0 = .pointer (some ⟨bm, 0, none⟩) := (hv 0 _ 168 rfl rfl).1
  generalize hg1 : v 1 = vv1
  have e2 : v 2 = .slice (some ⟨ub, uo, none⟩) N cu := (hv 2 _ 170 rfl rfl).1
  have e3 : v 3 = .bool true := (hv 3 _ 171 rfl rfl).1
  have e4 : v 4 = .bool true := (hv 4 _ 172 rfl rfl).1
  have e5 : v 5 = .pointer (some ⟨bm, 0, none⟩) := (hv 5 _ 173 rfl rfl).1
  have e6 : v 6 = .int .i64 k := (hv 6 _ 174 rfl rfl).1
  generalize hg7 : v 7 = vv7
  have e8 : v 8 = .slice (some ⟨ub, uo, none⟩) N cu := (hv 8 _ 176 rfl rfl).1
  have e9 : v 9 = .int .i64 k := (hv 9 _ 177 rfl rfl).1
  have e10 : v 10 = .slice (some ⟨ub, uo, none⟩) k cu := (hv 10 _ 178 rfl rfl).1
  have e11 : v 11 = .bool true := (hv 11 _ 179 rfl rfl).1
  have e12 : v 12 = .bool true := (hv 12 _ 180 rfl rfl).1
  have e13 : v 13 = .bool true := (hv 13 _ 181 rfl rfl).1
  have e14 : v 14 = .pointer (some ⟨bm, 0, none⟩) := (hv 14 _ 182 rfl rfl).1
  have e15 : v 15 = .pointer (some ⟨bn, 0, none⟩) := (hv 15 _ 183 rfl rfl).1
  generalize hg16 : v 16 = vv16
  have e17 : v 17 = .pointer (some ⟨bq, 0, none⟩) := (hv 17 _ 185 rfl rfl).1
  have e18 : v 18 = .pointer (some ⟨bo, 0, none⟩) := (hv 18 _ 186 rfl rfl).1
  generalize hg19 : v 19 = vv19
  have e20 : v 20 = .bool true := (hv 20 _ 188 rfl rfl).1
  have e21 : v 21 = .bool true := (hv 21 _ 189 rfl rfl).1
  have e22 : v 22 = .bool true := (hv 22 _ 190 rfl rfl).1
  have e23 : v 23 = .pointer (some ⟨bn, 0, none⟩) := (hv 23 _ 191 rfl rfl).1
  generalize hg24 : v 24 = vv24
  have e25 : v 25 = .pointer (some ⟨bo, 0, none⟩) := (hv 25 _ 193 rfl rfl).1
  generalize hg26 : v 26 = vv26
  have e27 : v 27 = .bool true := (hv 27 _ 195 rfl rfl).1
  have e28 : v 28 = .bool true := (hv 28 _ 196 rfl rfl).1
  have e29 : v 29 = .bool true := (hv 29 _ 197 rfl rfl).1
  have e30 : v 30 = .bool true := (hv 30 _ 198 rfl rfl).1
  have e31 : v 31 = .bool true := (hv 31 _ 199 rfl rfl).1
  have e32 : v 32 = .bool true := (hv 32 _ 18 rfl rfl).1
  simp only [Pred.putsF_cons, Pred.putsF_nil, Nat.zero_add, Nat.reduceAdd, e0, hg1, e2, e3, e4, e5, e6, hg7, e8, e9, e10, e11, e12, e13, e14, e15, hg16, e17, e18, hg19, e20, e21, e22, e23, hg24, e25, hg26, e27, e28, e29, e30, e31, e32, Act.put, List.setIfInBounds_toArray, List.set_cons_zero, List.set_cons_succ]
  clear e0 hg1 e2 e3 e4 e5 e6 hg7 e8 e9 e10 e11 e12 e13 e14 e15 hg16 e17 e18 hg19 e20 e21 e22 e23 hg24 e25 hg26 e27 e28 e29 e30 e31 e32 hv
  have LX : Below w.heap.size w X := L9.trans (hE.mono L9.size)
  clear hE hPm hRq hPn2 hRo hU11 L9
  go_wp2
  go_ret
  exact ⟨rfl, LX⟩
end Go.Proofs.Ytdjiblgnealmkaa.RfV

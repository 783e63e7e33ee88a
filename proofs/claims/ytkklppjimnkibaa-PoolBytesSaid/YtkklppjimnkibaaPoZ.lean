/-
  PoolBytes.
-/
import Derived.Test.YtkklppjimnkibaaPoO
import Derived.Test.YtkklppjimnkibaaPredT
import Derived.BigGuard
import Derived.Deep.CutRange
import Derived.Deep.CutBlock
namespace Go.Proofs.Ytkklppjimnkibaa.PoZ
open Go.RowKit Go.Shelf Rd Go.Proofs.Ytkklppjimnkibaa.Row Mid LrM PgM PgA PgB PgC PgN PoM PoA PoB PoH PoI PoL PoS PoT PoU PoQ PoV PoX PoN PoO
open Go.Proofs.Ytkklppjimnkibaa.Alk (round_any)
open Go.Proofs.Ytkklppjimnkibaa.PoD (us us_len By dataL data_len data_B data_any)
open Go.Proofs.Ytkklppjimnkibaa.PoE (BIn yields_skip below_zero one_slice)
open Go.Proofs.Ytkklppjimnkibaa.Num (ret_int ret_bool)
open Go.Proofs.Ytkklppjimnkibaa.MpE (owns_mono)
open Go.Proofs.Ytkklppjimnkibaa.Pred (Is is_stab)
open It (get_lt)
open Ints (i64s In64)
set_option linter.unusedVariables false
set_option linter.unusedSimpArgs false
set_option maxRecDepth 10000
variable {w X Y : World} {lo : Lo} {pb gw n d mb c gb : Nat} {Bb : Nat → Prop} {R : List Ent} {f : List Int → Option (List Int)}
theorem small2 : ∀ i, i < 21 → 0 ≤ PgM.g (at_ (allV 2) i) 0 ∧ PgM.g (at_ (allV 2) i) 0 ≤ 9 ∧ 0 ≤ PgM.g (at_ (allV 2) i) 1 ∧ PgM.g (at_ (allV 2) i) 1 ≤ 9 ∧ 0 ≤ PgM.g (at_ (allV 2) i) 2 ∧ PgM.g (at_ (allV 2) i) 2 ≤ 9 := by decide +kernel
theorem kp_at {i : Nat} (hi : i < (allV 2).length) {x0 x1 x2 : Int} (h : at_ (allV 2) i = [x0, x1, x2]) : Kp [x0, x1, x2] := by
  have := small2 i (Nat.lt_of_lt_of_eq hi len2)
  rw [h] at this
  obtain ⟨a1, a2, b1, b2, c1, c2⟩ : 0 ≤ x0 ∧ x0 ≤ 9 ∧ 0 ≤ x1 ∧ x1 ≤ 9 ∧ 0 ≤ x2 ∧ x2 ≤ 9 := this
  exact kp_mk (WalkArith.wf_i64 (by omega)) (WalkArith.wf_i64 (by omega)) (WalkArith.wf_i64 (by omega))
theorem pl_in (h : Pl X lo Bb pb gw n 2 R) {e : Ent} (he : e ∈ R) : ∃ i x0 x1 x2, i < (allV 2).length ∧ at_ (allV 2) i = [x0, x1, x2] ∧ e.1 = [x0, x1, x2] := by
  obtain ⟨lb, lg, v, sl, o, wl, h1, h2, rfl⟩ := h
  obtain ⟨j, hj, rfl⟩ := h2.mem.1 he
  have hm := pg_in h2.d3 (h2.pg j hj)
  obtain ⟨i, hi, e⟩ := List.getElem_of_mem hm
  obtain ⟨x0, x1, x2, ex⟩ := len3 (h2.pg j hj).1
  have hi' : i < (allV 2).length := hi
  exact ⟨i, x0, x1, x2, hi', by rw [at_eq hi', ← ex]; exact e, ex⟩
theorem kp_pl (h : Pl X lo Bb pb gw n 2 R) {e : Ent} (he : e ∈ R) : Kp e.1 := by
  obtain ⟨i, x0, x1, x2, hi, h1, h2⟩ := pl_in h he
  rw [h2]
  exact kp_at hi h1
theorem dels_nil (f : List Int → Option (List Int)) : dels f [] = f := by
  funext v
  unfold dels
  simp
theorem dels_more (f : List Int → Option (List Int)) (l : List (List Int)) (x : List Int) : dels f (l ++ [x]) = del (dels f l) x := by
  funext v
  show (if v ∈ l ++ [x] then none else f v) = if v = x then none else (if v ∈ l then none else f v)
  by_cases h : v = x
  · rw [if_pos (by simp [h]), if_pos h]
  · rw [if_neg h]
    by_cases h2 : v ∈ l
    · rw [if_pos (by simp [h2]), if_pos h2]
    · rw [if_neg (by simp [h2, h]), if_neg h2]
/-- who goes, as a row of pages in its block -/
theorem gone_t {gv : Value} {r : List (List Int)} (h : GoneAt X gv r) : r.length ≤ 1 ∧ ∃ ad c, gv = .slice ad r.length c ∧ PgT X ad r := by
  obtain ⟨ad, c, e, hp⟩ := PoL.GoneAt.at h
  rcases h with ⟨rfl, e2⟩ | ⟨x, g9, rfl, h2, e2, h4⟩
  · exact ⟨by simp, none, 0, e2, PgT.nil X⟩
  · refine ⟨by simp, ad, c, e, hp, fun a ea => ?_⟩
    rw [e2] at e
    injection e with e3
    rw [ea] at e3
    injection e3 with e3
    subst e3
    exact ⟨_, h4⟩
attribute [local go_sem ↓] load_pg store_pg eq_pg3
attribute [local go_sem] one_int pc3 run_load_pg run_store_pg midLoad_eq rowLoad_eq rowStore_eq blk_alloc_at blk_alloc_old blk_drew blk_drewN blk_set_far blk_set_far' blk_grow setRow_alloc_at setRow_alloc_old setRow_drew setRow_drewN
set_option maxHeartbeats 1000000 in
/-- the page of a Key that is one -/
theorem of_in (k : Nat) (hk : k < 21) (X : World) :
    Calls Try.prog 10 #[.int .i64 2, .int .i64 (k : Int)] X fun e X' => (∃ L X0 Y0 i, e = .returned (pg L X0 Y0) ∧ i < (allV 2).length ∧ at_ (allV 2) i = [L, X0, Y0]) ∧ Below X.heap.size X X' := by
  obtain ⟨A, eA⟩ : ∃ A, allV 2 = A := ⟨_, rfl⟩
  have CP := Lib.hid (fun X => rpages_own 2 X)
  have h3 := Lib.hid (three_all 2)
  have hl21 := len2
  rw [eA] at CP h3 hl21 ⊢
  have HL := Lib.hid hl21
  have CR : Hid (∀ W : World, Calls Try.prog 11 #[.int .i64 (k : Int), .int .i64 21] W fun e w' => e = .returned (.int .i64 (k : Int)) ∧ W = w') := Lib.hid fun W => by
    have := round_any (k : Int) 21 W (by omega) (by omega) (by decide) (by decide)
    rwa [Int.emod_eq_of_lt (by omega) (by omega)] at this
  have hkA : k < A.length := by omega
  have hk21 : (k : Int) < 21 := by omega
  have hm : ¬ ((k : Int).tmod 23 = 22) := by rw [Int.tmod_eq_emod_of_nonneg (by omega)]; omega
  clear eA hl21
  go_enter Try.func10, Try.ntmps10
  go_wp2_with fail
  refine (CP.out _).mono ?_
  rintro e W ⟨⟨v5, rfl, hv5⟩, hb⟩
  obtain ⟨ga, ca, rfl, hca, -⟩ := Rd.owns_val hv5
  have HT : Hid (PgT W ga A) := Lib.hid (pgt_own hv5 h3.out)
  have L0 : Below X.heap.size X W := by repeat' (first | (with_reducible exact Below.refl _ _) | (with_reducible refine Rd.below_step ?_ (by assumption)) | (with_reducible refine Rd.below_alloc ?_ _) | (with_reducible refine Rd.below_drewN ?_ _) | (with_reducible refine Below.drew ?_) | (with_reducible refine Below.setCell ?_ ?_ _) | (with_reducible refine Rd.below_setRow ?_ ?_ _) | go_size | (simp only [World.size_alloc]; omega) | omega)
  have bR : blk W X.heap.size = some (.cells (cs .i64 [0, 0, 0]) 35 (0, 0)) := (blk_below hb _ (by simp)).trans (blk_alloc_at _ _ _ rfl)
  obtain ⟨x0, x1, x2, hx⟩ := HT.out.three hkA
  obtain ⟨b, o, cur, ea, hgb, hgs, hpc⟩ := HT.out.at hkA
  rw [hx] at hpc
  subst ea
  have hpc' : Mid.piece cur (o + k * 3) 3 = #[.int .i64 x0, .int .i64 x1, .int .i64 x2] := hpc
  have HX := Lib.hid hx
  rw [HL.out]
  clear hb hv5 CP h3 hpc hx
  go_wp2_with fail
  refine (CR.out _).mono ?_
  rintro e _ ⟨rfl, rfl⟩
  go_wp2_with fail
  exact ret_pg1 rfl X.heap.size [x0, x1, x2] rfl rfl (blk_setRow_of bR _) rfl ⟨⟨x0, x1, x2, k, rfl, hkA, HX.out⟩, by repeat' (first | (with_reducible exact Below.refl _ _) | (with_reducible refine Rd.below_step ?_ (by assumption)) | (with_reducible refine Rd.below_alloc ?_ _) | (with_reducible refine Rd.below_drewN ?_ _) | (with_reducible refine Below.drew ?_) | (with_reducible refine Below.setCell ?_ ?_ _) | (with_reducible refine Rd.below_setRow ?_ ?_ _) | go_size | (simp only [World.size_alloc]; omega) | omega)⟩
theorem bytes_small (n : Int) (a : Option Addr) (len cap : Nat) (at' : Int) (w : World) (h : n < 2 ∨ 30 < n ∨ 40 < len) (hl : len ≤ 9223372036854775807) :
    Calls Try.prog 5 #[.int .i64 n, .slice a len cap, .int .i64 at'] w fun e w' => e = .returned (.bool true) ∧ Below w.heap.size w w' := by
  have CA := Lib.hid (fun X => awake_any X)
  by_cases h1 : n < 2
  · have d1 : decide (n < 2) = true := decide_eq_true h1
    clear h
    go_enter Try.func5, Try.ntmps5
    go_wp2_with fail
    refine (CA.out _).mono ?_
    rintro e w1 ⟨rfl, hb⟩
    go_wp2
    go_ret
    exact ⟨rfl, hb⟩
  · have d1 : decide (n < 2) = false := decide_eq_false h1
    by_cases h2 : 30 < n
    · have d2 : decide (30 < n) = true := decide_eq_true h2
      clear h
      go_enter Try.func5, Try.ntmps5
      go_wp2_with fail
      refine (CA.out _).mono ?_
      rintro e w1 ⟨rfl, hb⟩
      go_wp2
      go_ret
      exact ⟨rfl, hb⟩
    · have d2 : decide (30 < n) = false := decide_eq_false h2
      have d3 : decide ((40 : Int) < (len : Int)) = true := decide_eq_true (by omega)
      clear h
      go_enter Try.func5, Try.ntmps5
      go_wp2_with fail
      refine (CA.out _).mono ?_
      rintro e w1 ⟨rfl, hb⟩
      go_wp2
      go_ret
      exact ⟨rfl, hb⟩
/-- the law's state -/
structure Hd (w X : World) (lo : Lo) (pb gw n : Nat) (R : List Ent) (mb : Nat) : Prop where
  low : Below w.heap.size w X
  p : Pl X lo (fun a => w.heap.size ≤ a) pb gw n 2 R
  m : Mq X mb (fR R) R.length
  by_ : ∀ e ∈ R, By e.2
  n : w.heap.size ≤ lo.n
  mb : w.heap.size ≤ mb
theorem Hd.bel (h : Hd w X lo pb gw n R mb) (hb : Below X.heap.size X Y) : Hd w Y lo pb gw n R mb := ⟨Rd.below_step h.low hb, h.p.bel hb, h.m.bel hb, h.by_, h.n, h.mb⟩
theorem Hd.cr {g : List Int} (h : Hd w X lo pb gw n R mb) (hg : blk X gb = some (.cells (cs .i64 g) 35 (0, 0))) : Cr w X lo pb gw n (fun a => w.heap.size ≤ a ∧ a < X.heap.size) R mb (fR R) R.length gb g :=
  ⟨h.low, h.p.mono fun k hk e => ⟨e, hk⟩, h.m, hg⟩
theorem Hd.iter {rr : Nat} (h : Hd w X lo pb gw n R mb) (hg : X.grownBy Y (some rr)) (hr : w.heap.size ≤ rr) (hne : mb ≠ rr) {m : Option Nat} {s : Nat} {seen : Array Nat} {c0 : Nat} (hi : X.heap[rr]? = some (.mapIter m s seen c0)) : Hd w Y lo pb gw n R mb := by
  have hcell : ∀ (k : Nat) (cc : Array Value) (t : Nat) (fr : Nat × Nat), X.heap[k]? = some (Obj.cells cc t fr) → Y.heap[k]? = X.heap[k]? := fun k cc t fr hk => hg.block k (get_lt hk) (fun e => by
    injection e with e
    subst e
    have := hi.symm.trans hk
    simp at this)
  refine ⟨h.low.trans (OctA.below_grownBy (B := w.heap.size) hg h.low.size (fun k hk => by cases hk; exact hr)), h.p.kept hg.size (fun k hk => ?_) (fun k c1 _ hc => hcell k _ _ _ hc), h.m.same (hg.block mb h.m.lt (fun e => by injection e with e; exact hne e)), h.by_, h.n, h.mb⟩
  obtain ⟨c2, t, hc, _⟩ := hk
  exact hcell k _ _ _ hc
/-- a row's k-th byte -/
theorem own_at {B a cc : Nat} {D : List Int} (h : X.ownsRow B 5 1 (.slice (some ⟨a, 0, none⟩) 144 cc) 144 (us D)) (hD : D.length = 144) {k : Nat} (hk : k < 144) : ∃ z cur, X.cell? ⟨a, k, none⟩ = some (.int .u8 z) ∧ X.frozen? ⟨a, k, none⟩ = false ∧ X.heap[a]? = some (.cells cur 5 (0, 0)) ∧ B ≤ a := by
  obtain ⟨cur, hcur, hB⟩ := own_pos' h (k := a) rfl
  have hr := Reads.of_owns h
  rcases hr.2 with e | ⟨b, o, e, hl, hc⟩
  · omega
  · injection e with e
    injection e with e1 e2
    subst e1
    subst e2
    have := hc k (by rw [us_len, hD]; exact hk)
    rw [Nat.zero_add] at this
    refine ⟨D[k]'(by omega), cur, ?_, blk_frozen hcur k, hcur, hB⟩
    rw [this]
    unfold us
    rw [List.getElem?_map, List.getElem?_eq_getElem (by omega)]
    rfl
set_option maxHeartbeats 8000000 in
theorem bytes_gen (n : Nat) (a : Option Addr) (len cap : Nat) (at' : Int) (zs : List Int) (w : World) (hn : 2 ≤ n ∧ n ≤ 30) (hl : len ≤ 40) (hat : In64 at') (hz : ∀ z ∈ zs, In64 z) (hzl : zs.length = len * 2) (hr : Reads w 2 a len (i64s zs)) :
    Calls Try.prog 5 #[.int .i64 n, .slice a len cap, .int .i64 at'] w fun e w' => e = .returned (.bool true) ∧ Below w.heap.size w w' := by
  have CA := Lib.hid (fun X => awake_any X)
  have CO := Lib.hid of_in
  obtain ⟨D1, e1⟩ : ∃ D, dataL 1 = D := ⟨_, rfl⟩
  have CD1 := Lib.hid (fun X => data_any 1 (by decide) X)
  have B1 := Lib.hid (data_B 1)
  rw [e1] at CD1 B1
  have HR := Lib.hid hr
  have HZ := Lib.hid hz
  have HZL := Lib.hid hzl
  have hmm := @run_makeMap Try.prog
  have d1 : decide ((n : Int) < 2) = false := decide_eq_false (by omega)
  have d2 : decide (30 < (n : Int)) = false := decide_eq_false (by omega)
  have d3 : decide ((40 : Int) < (len : Int)) = false := decide_eq_false (by omega)
  obtain ⟨kk, hkk, ekk⟩ : ∃ r : Nat, r < 144 ∧ at' % 144 = (r : Int) := ⟨(at' % 144).toNat, by omega, by omega⟩
  have CRk : Hid (∀ X : World, Calls Try.prog 11 #[.int .i64 at', .int .i64 144] X fun e w' => e = .returned (.int .i64 kk) ∧ X = w') := Lib.hid fun X => (by
    have := round_any at' 144 X hat.1 hat.2 (by decide) (by decide)
    rwa [ekk] at this)
  have hn2 := hn.1
  have hn30 := hn.2
  have KP0 : Hid (Kp [2, 0, 0]) := Lib.hid (kp_mk (by decide) (by decide) (by decide))
  clear hr hz e1 hzl hn hat ekk
  go_enter Try.func5, Try.ntmps5
  go_wp2_with fail
  refine (CD1.out _).mono ?_
  rintro e X0 ⟨⟨v, rfl, hv⟩, hb⟩
  obtain ⟨a0, c0, rfl, hB, -⟩ := bin_own hv
  have L0 := hb
  have HB := Lib.hid hB
  clear hb hv hB d1 d2 d3
  go_wp2_with fail
  refine (new_ok n 2 ⟨a0, 0, none⟩ c0 D1 X0 ⟨by omega, by omega⟩ (by omega) HB.out).mono ?_
  rintro e X1 ⟨⟨pb, gw, rfl, hP⟩, hb⟩
  have L1 := L0.trans (hb.mono L0.size)
  have HL1 := Lib.hid L1
  have HP1 : Hid (Pl X1 ⟨X0.heap.size, 0, 0⟩ (fun a => w.heap.size ≤ a) pb gw n 2 [([2, 0, 0], D1)]) := Lib.hid (hP.mono (fun k _ e => by have := L0.size; omega))
  have hlo : Hid (w.heap.size ≤ X0.heap.size) := Lib.hid L0.size
  clear hb hP HB L0 L1
  obtain ⟨lo, elo⟩ : ∃ l : Lo, (⟨X0.heap.size, 0, 0⟩ : Lo) = l := ⟨_, rfl⟩
  have hlo2 : Hid (w.heap.size ≤ lo.n) := Lib.hid (by rw [← elo]; exact hlo.out)
  rw [elo] at HP1
  clear elo hlo
  go_wp2_with fail
  refine (CRk.out _).mono ?_
  rintro e _ ⟨rfl, rfl⟩
  go_wp2_with fail
  refine (CD1.out _).mono ?_
  rintro e X2 ⟨⟨v, rfl, hv⟩, hb⟩
  obtain ⟨a2, c2, rfl, -⟩ := Rd.owns_val hv
  have hc2 := str_own hv B1.out
  have hbm : Below X1.heap.size X1 X2 := by repeat' (first | (with_reducible exact Below.refl _ _) | (with_reducible refine Rd.below_step ?_ (by assumption)) | (with_reducible refine Rd.below_alloc ?_ _) | (with_reducible refine Rd.below_drewN ?_ _) | (with_reducible refine Below.drew ?_) | (with_reducible refine Below.setCell ?_ ?_ _) | (with_reducible refine Rd.below_setRow ?_ ?_ _) | go_size | (simp only [World.size_alloc]; omega) | omega)
  have HM2 := Lib.hid ((mq_made X1).bel hb)
  have HP2 := Lib.hid (HP1.out.bel hbm)
  have HL2 := Lib.hid (Rd.below_step HL1.out hbm)
  have hmb1 : w.heap.size ≤ X1.heap.size := HL1.out.size
  clear hb hv hbm HP1 HL1
  obtain ⟨mb, emb⟩ : ∃ m, X1.heap.size = m := ⟨_, rfl⟩
  rw [emb] at HM2 hmb1 ⊢
  clear emb
  go_wp2_with (refine wp_store rfl (.tmp 51) (.tmp 52) (.tmp 54) (.inr rfl) HM2.out rfl rfl rfl KP0.out (by omega) ?_; intro X3 hM3 hg3)
  have HS3 : Hid (Hd w X3 lo pb gw n [([2, 0, 0], D1)] mb) := Lib.hid (by
    have hf : upd (fun _ => none) [2, 0, 0] D1 = fR [([2, 0, 0], D1)] := by
      funext v
      by_cases e : v = [2, 0, 0]
      · subst e; rfl
      · refine (if_neg e).trans ?_
        symm
        rw [fR_none]
        unfold hasR
        rw [ix_none.2 (fun e2 he2 => by rw [List.mem_singleton.1 he2]; exact fun e3 => e e3.symm)]
        rfl
    rw [hf] at hM3
    have hM3' : Mq X3 mb (fR [([2, 0, 0], D1)]) 1 := by simpa using hM3
    refine ⟨HL2.out.trans (OctA.below_grownBy (B := w.heap.size) hg3 HL2.out.size (fun k hk => by cases hk; exact hmb1)), HP2.out.kept hg3.size (fun k hk => ?_) (fun k cc _ hc => cells_gm HM2.out hg3 hc), hM3', fun e he => by rw [List.mem_singleton.1 he]; exact B1.out, hlo2.out, hmb1⟩
    obtain ⟨c3, t, hc, _⟩ := hk
    exact cells_gm HM2.out hg3 hc)
  clear hM3 hg3 HM2 HP2 HL2 hc2 hlo2 CD1 CRk B1 KP0 hmm
  have hkk' : (kk : Int) < 144 := by omega
  go_wp2_with fail
  go_loopw [11] (fun i X => ∃ (k : Nat) (R : List Ent), k ≤ len ∧ i = .int .i64 k ∧ Hid (Hd w X lo pb gw n R mb)) (fun i _ => len - (intOf i).toNat)
  case atStart => exact ⟨0, _, Nat.zero_le _, rfl, HS3⟩
  case round =>
    clear HS3
    obtain ⟨k, R, hk, rfl, HS⟩ := hrel
    rename World => X
    by_cases hlt : k < len
    · have hlt' : (k : Int) < (len : Int) := by omega
      have hzl := HZL.out
      obtain ⟨ab, ao, rfl, hab, hac⟩ := Ints.cell_of HR.out (k := k * 2) (by omega) (by omega)
      have cx := hac (k * 2) (by omega)
      have cy := hac (k * 2 + 1) (by omega)
      have hxx := Ints.getD_in HZ.out (k * 2)
      have hyy := Ints.getD_in HZ.out (k * 2 + 1)
      clear hac hzl
      generalize zs.getD (k * 2) 0 = x at cx hxx
      generalize zs.getD (k * 2 + 1) 0 = y at cy hyy
      have dx := (HS.out.low.cell (p := ⟨ab, ao + k * 2, none⟩) hab).trans cx
      have dy : X.cell? ⟨ab, ao + k * 2 + 1, none⟩ = some (.int .i64 y) := (HS.out.low.cell (p := ⟨ab, ao + k * 2 + 1, none⟩) hab).trans cy
      have hab2 : ab < X.heap.size := Nat.lt_of_lt_of_le hab HS.out.low.size
      clear cx cy
      obtain ⟨r1, hr1, er1⟩ : ∃ r : Nat, r < 21 ∧ x % 21 = (r : Int) := ⟨(x % 21).toNat, by omega, by omega⟩
      have CR1 : Hid (∀ X : World, Calls Try.prog 11 #[.int .i64 x, .int .i64 21] X fun e w' => e = .returned (.int .i64 r1) ∧ X = w') := Lib.hid fun X => (by
        have := round_any x 21 X hxx.1 hxx.2 (by decide) (by decide)
        rwa [er1] at this)
      obtain ⟨r5, hr5, er5⟩ : ∃ r : Nat, r < 300 ∧ y % 300 = (r : Int) := ⟨(y % 300).toNat, by omega, by omega⟩
      have CR5 : Hid (∀ X : World, Calls Try.prog 11 #[.int .i64 y, .int .i64 300] X fun e w' => e = .returned (.int .i64 r5) ∧ X = w') := Lib.hid fun X => (by
        have := round_any y 300 X hyy.1 hyy.2 (by decide) (by decide)
        rwa [er5] at this)
      have CO1 := Lib.hid (CO.out r1 hr1)
      obtain ⟨D5, e5⟩ : ∃ D, dataL r5 = D := ⟨_, rfl⟩
      have CD5 := Lib.hid (fun X => data_any r5 (by omega) X)
      have B5 := Lib.hid (data_B r5)
      have N5 := Lib.hid (data_len r5)
      rw [e5] at CD5 B5 N5
      clear e5 er5 er1 hxx hyy
      go_wp2_with fail
      refine (CR1.out _).mono ?_
      rintro e _ ⟨rfl, rfl⟩
      go_wp2_with fail
      refine (CO1.out _).mono ?_
      rintro e W1 ⟨⟨x0, x1, x2, i, rfl, hi, hix⟩, hb1⟩
      have HI := Lib.hid hi
      have HIX := Lib.hid hix
      have HS1 := Lib.hid (HS.out.bel hb1)
      have dy1 := (hb1.cell (p := ⟨ab, ao + k * 2 + 1, none⟩) hab2).trans dy
      have hab3 : ab < W1.heap.size := Nat.lt_of_lt_of_le hab2 hb1.size
      clear hb1 hi hix HS dx dy CR1 CO1
      go_upto_region 12 with (fail)
      refine Rd.name_world ?_
      intro W2 hw
      have bG2 : blk W2 W1.heap.size = some (.cells #[.int .i64 x0, .int .i64 x1, .int .i64 x2] 35 (0, 0)) := by rw [hw]; exact blk_alloc_at _ _ _ rfl
      have hbW : Below W1.heap.size W1 W2 := by
        rw [hw]
        repeat' (first | (with_reducible exact Below.refl _ _) | (with_reducible refine Rd.below_step ?_ (by assumption)) | (with_reducible refine Rd.below_alloc ?_ _) | (with_reducible refine Rd.below_drewN ?_ _) | (with_reducible refine Below.drew ?_) | (with_reducible refine Below.setCell ?_ ?_ _) | (with_reducible refine Rd.below_setRow ?_ ?_ _) | go_size | (simp only [World.size_alloc]; omega) | omega)
      have HS2 := Lib.hid (HS1.out.bel hbW)
      have dy2 := (hbW.cell (p := ⟨ab, ao + k * 2 + 1, none⟩) hab3).trans dy1
      clear hw hbW HS1 dy1
      obtain ⟨gb, egb⟩ : ∃ g, W1.heap.size = g := ⟨_, rfl⟩
      rw [egb] at bG2 ⊢
      clear egb hab3
      have HC2 : Hid (Cr w W2 lo pb gw n (fun a => w.heap.size ≤ a ∧ a < W2.heap.size) R mb (fR R) R.length gb [x0, x1, x2]) := Lib.hid (HS2.out.cr bG2)
      have KPg : Hid (Kp [x0, x1, x2]) := Lib.hid (kp_at HI.out HIX.out)
      have hv : validB 2 x0 x1 x2 = true := by
        have := valid_at (d := 2) (by omega) HI.out
        rw [show at_ (allV ((2 : Nat) : Int)) i = [x0, x1, x2] from HIX.out] at this
        exact this
      have HV := Lib.hid hv
      have HB2 := Lib.hid HS2.out.by_
      have HN2 := Lib.hid (And.intro HS2.out.n HS2.out.mb)
      have HSZ : Hid (w.heap.size ≤ W2.heap.size) := Lib.hid HS2.out.low.size
      clear hv HI HIX bG2 HS2
      go_wp2_with fail
      refine (CR5.out _).mono ?_
      rintro e _ ⟨rfl, rfl⟩
      go_wp2_with fail
      refine (CD5.out _).mono ?_
      rintro e W4 ⟨⟨v5, rfl, hv5⟩, hb4⟩
      obtain ⟨a5, c5, rfl, hB5, ha5⟩ := bin_own hv5
      have HC4 := Lib.hid (HC2.out.bel hb4)
      have HO4 := Lib.hid hv5
      have bG4 : blk W4 gb = some (.cells #[.int .i64 x0, .int .i64 x1, .int .i64 x2] 35 (0, 0)) := HC4.out.g
      have CPut := put_any x0 x1 x2 ⟨a5, 0, none⟩ c5 D5 W4 HC4.out.p HV.out hB5
      rw [code_ok hn2] at CPut
      have CPUT := Lib.hid CPut
      have ha5' : a5 < W4.heap.size := (hv5.lt a5 rfl).2
      have hb4s := hb4.size
      clear hv5 hb4 hB5 HC2 CPut CR5 CD5 dy2
      go_wp2_with fail
      refine CPUT.out.mono ?_
      rintro e W5 ⟨gv, rfl, hG, hP, hf⟩
      obtain ⟨R2, eR2⟩ : ∃ x, putR n R [x0, x1, x2] D5 = x := ⟨_, rfl⟩
      obtain ⟨r, er⟩ : ∃ x, goneR n R [x0, x1, x2] = x := ⟨_, rfl⟩
      have hnd := nd_pl HC4.out.p
      have hP' := hP
      rw [eR2] at hP'
      have hnd2 := nd_pl hP'
      have EF : Hid (dels (upd (fR R) [x0, x1, x2] D5) r = fR R2) := Lib.hid (by rw [← er, ← eR2]; exact f_put hn2 hnd (by rw [eR2]; exact hnd2))
      have EC : Hid ((if fR R [x0, x1, x2] = none then R.length + 1 else R.length) - r.length = R2.length) := Lib.hid (by rw [← er, ← eR2]; exact c_put hn2)
      have EH : Hid (hasR R2 [x0, x1, x2] = true ∧ bytesR R2 [x0, x1, x2] = D5) := Lib.hid (by rw [← eR2]; exact has_put hn2 (by rw [eR2]; exact hnd2))
      have EG : Hid (∀ x ∈ r, upd (fR R) [x0, x1, x2] D5 x ≠ none ∧ Kp x) := Lib.hid fun x hx => by
        have hu := gone_in (n := n) (b := D5) hnd (by rw [er]; exact hx)
        refine ⟨hu, ?_⟩
        rw [← er] at hx
        by_cases ex : x = [x0, x1, x2]
        · rw [ex]; exact KPg.out
        · unfold upd at hu
          rw [if_neg ex] at hu
          cases hfx : fR R x with
          | none => exact absurd hfx hu
          | some bx => exact kp_pl HC4.out.p ((fR_iff hnd).1 hfx)
      have EB : Hid (∀ e ∈ R2, By e.2) := Lib.hid (by rw [← eR2]; exact by_put HB2.out B5.out)
      have hRs : R.length ≤ 30 := by have := HC4.out.p.len; omega
      have HC5 : Hid (Cr w W5 lo pb gw n (fun a => (w.heap.size ≤ a ∧ a < W2.heap.size) ∨ W4.heap.size ≤ a) R2 mb (fR R) R.length gb [x0, x1, x2]) := Lib.hid ⟨HC4.out.low.trans (hf.below.mono HN2.out.1), hP', mq_pf HC4.out.m hf, pg_pf HC4.out.p hf HC4.out.g⟩
      have HO5 := Lib.hid (own_pf HO4.out HC4.out.p hf)
      rw [er] at hG
      have HG5 := Lib.hid hG
      have hc5 := str_own HO5.out B5.out
      clear hP hP' hf hG hnd hnd2 HC4 HO4 HB2 eR2 er CPUT bG4
      have hc5x : (convert 22 9 (.slice (some ⟨a5, 0, none⟩) 144 c5)).run Try.prog W5 = .ok (.string (bytesOf D5)) W5 := hc5
      have bG5 : blk W5 gb = some (.cells #[.int .i64 x0, .int .i64 x1, .int .i64 x2] 35 (0, 0)) := HC5.out.g
      clear hc5
      go_upto_region 17 with (refine wp_store rfl (.tmp 85) (.tmp 86) (.tmp 88) (.inl rfl) HC5.out.m rfl rfl rfl KPg.out (by omega) ?_; intro W6 hM6 hg6)
      have HC6 := Lib.hid (HC5.out.map HN2.out.2 hM6 hg6)
      have HO6 := Lib.hid (own_gm HO5.out HC5.out.m hg6)
      have HG6 := Lib.hid (gone_gm HG5.out HC5.out.m hg6)
      have hw5 : w.heap.size ≤ a5 := Nat.le_trans HSZ.out ha5
      have hnB : ¬ ((w.heap.size ≤ a5 ∧ a5 < W2.heap.size) ∨ W4.heap.size ≤ a5) := by omega
      clear hM6 hg6 HC5 HO5 HG5 hc5x bG5
      obtain ⟨z6, cur6, hz6, hf6, ht6, -⟩ := own_at HO6.out N5.out hkk
      go_upto_region 18 with (fail)
      refine Rd.name_world ?_
      intro W7 hW7
      have hg7 : W6.grownBy W7 (some a5) := by rw [hW7]; exact setCell_grown _ _ _ _
      have HC7 := Lib.hid (HC6.out.set ht6 hw5 hnB hg7)
      have HG7 := Lib.hid (gone_set HG6.out ht6 hg7)
      have hg7s := hg7.size
      have hs6 := HC6.out.low.size
      clear hW7 hg7 HC6 HG6 HO6 hz6 hf6 ht6
      obtain ⟨hr1l, ad, cg, rfl, hpt⟩ := gone_t HG7.out
      have HPT := Lib.hid hpt
      obtain ⟨f1, ef1⟩ : ∃ f, upd (fR R) [x0, x1, x2] D5 = f := ⟨_, rfl⟩
      obtain ⟨c1, ec1⟩ : ∃ c, (if fR R [x0, x1, x2] = none then R.length + 1 else R.length) = c := ⟨_, rfl⟩
      rw [ef1] at HC7 EF EG
      rw [ec1] at HC7 EC
      clear ef1 ec1 HG7 hpt
      go_wp2_with fail
      go_loopw [16] (fun i Y => ∃ j : Nat, j ≤ r.length ∧ i = .int .i64 j ∧ Hid (W7.grownBy Y (some mb)) ∧ Hid (Mq Y mb (dels f1 (r.take j)) (c1 - j))) (fun i _ => r.length - (intOf i).toNat)
      case atStart => exact ⟨0, Nat.zero_le _, rfl, Lib.hid (World.grownBy.refl _ _), Lib.hid (by rw [List.take_zero, dels_nil]; exact HC7.out.m)⟩
      case round =>
        obtain ⟨j, hj, rfl, HGY, HMY⟩ := hrel
        rename World => Y
        by_cases hjl : j < r.length
        · have hjl' : (j : Int) < (r.length : Int) := by omega
          obtain rfl : j = 0 := by omega
          obtain ⟨t0, t1, t2, ht⟩ := HPT.out.three hjl
          obtain ⟨b9, o9, cur, ea, hgb, hgs, hpc⟩ := HPT.out.at hjl
          rw [ht] at hpc
          subst ea
          have hpc' : Mid.piece cur (o9 + 0 * 3) 3 = #[.int .i64 t0, .int .i64 t1, .int .i64 t2] := hpc
          have hgbY := (cells_gm HC7.out.m HGY.out hgb).trans hgb
          have hgbY' : blk Y b9 = some (.cells cur 35 (0, 0)) := hgbY
          have hmem : [t0, t1, t2] ∈ r := by rw [← ht, at_eq hjl]; exact List.getElem_mem _
          have KPt := Lib.hid (EG.out _ hmem).2
          have hf1 := (EG.out _ hmem).1
          have hr1 : r.take 1 = [] ++ [[t0, t1, t2]] := by
            match r, hr1l, hjl, ht with
            | [x], _, _, ht => exact congrArg (fun q => [q]) ht
          have HE1 : Hid (r.take 1 = [] ++ [[t0, t1, t2]]) := Lib.hid hr1
          have HF1 := Lib.hid hf1
          have HMY0 : Hid (Mq Y mb f1 c1) := Lib.hid (by have := HMY.out; rw [List.take_zero, dels_nil] at this; exact this)
          clear hpc ht hgb hgbY hmem hf1 hr1 HMY
          rw [Nat.zero_mul, Nat.add_zero] at hpc' hgs
          go_wp2_with (refine wp_drop rfl (.tmp 101) (.tmp 105) rfl HMY0.out rfl rfl KPt.out ?_; intro Y2 hM2 hg2)
          rw [if_neg HF1.out] at hM2
          refine ⟨⟨1, by omega, by go_num, Lib.hid (HGY.out.trans hg2), Lib.hid (by rw [HE1.out, dels_more, dels_nil]; exact hM2)⟩, by simp [intOf]; omega⟩
        · obtain rfl : j = r.length := by omega
          have hm8 := HMY.out
          rw [List.take_length, EF.out, EC.out] at hm8
          have HC8 := Lib.hid (HC7.out.map HN2.out.2 hm8 HGY.out)
          have hs8 : W7.heap.size ≤ Y.heap.size := HGY.out.size
          clear HMY hm8 HGY HC7 HPT EF EC EG
          obtain ⟨W8, e8⟩ : ∃ z : World, z = Y := ⟨_, rfl⟩
          subst e8
          have CG := get_any x0 x1 x2 W8 HC8.out.p
          rw [EH.out.1, EH.out.2] at CG
          have HCG := Lib.hid CG
          have bG8 : blk W8 gb = some (.cells #[.int .i64 x0, .int .i64 x1, .int .i64 x2] 35 (0, 0)) := HC8.out.g
          have EFG : Hid (fR R2 [x0, x1, x2] = some D5) := Lib.hid (by rw [fR_has EH.out.1, EH.out.2])
          have hsz := HSZ.out
          clear CG
          go_wp2_with fail
          refine HCG.out.mono ?_
          rintro e W9 ⟨⟨u, rfl, hu, -⟩, hb⟩
          have ho := hu (by first | trivial | rfl)
          obtain ⟨a7, c7, rfl, -, ha7⟩ := bin_own ho
          have HC9 := Lib.hid ((HC8.out.mono (Bb' := fun a => w.heap.size ≤ a ∧ a < W8.heap.size) (fun k hk e => ⟨by rcases e with e | e <;> omega, hk⟩)).bel hb)
          have HO9 := Lib.hid ho
          have hw7 : w.heap.size ≤ a7 := by omega
          clear hu ho hb HC8 HCG bG8
          go_upto_region 23 with (fail)
          refine Pred.region_vals (Pred.Of [
              Is (.bool true),
              Is (.bool false),
              Is (.bool false),
              Is (.slice (some ⟨a7, 0, none⟩) 144 c7),
              Is (.string (bytesOf D5)),
              Is (.map (some mb)),
              Is (.agg #[.int .i64 x0, .int .i64 x1, .int .i64 x2]),
              Is (.string (bytesOf D5)),
              Is (.bool false),
              Is (.bool false)]) (by kernel_rfl) (by kernel_rfl) (by kernel_rfl) (Pred.of_stab ?_) ?_ ?_
          · exact ⟨is_stab _, is_stab _, is_stab _, is_stab _, is_stab _, is_stab _, is_stab _, is_stab _, is_stab _, is_stab _, trivial⟩
          · refine ⟨?_, ?_, ?_, ?_, ?_, ?_, ?_, ?_, ?_, ?_, trivial⟩
            · intro b X hE hd hn hV
              have r18 : b.tmps[18]?.getD undef = .bool true := (hn 18 (by kernel_rfl)).trans rfl
              exact Pred.yields_run (v := .bool true) (Pred.wanted_none rfl) (by go_simp) ⟨Pred.ext_refl _ _, rfl⟩
            · intro b X hE hd hn hV
              have r112 : b.tmps[112]?.getD undef = .bool true := hV 0 _ 112 rfl rfl (Pred.waits_near (by kernel_rfl) (by kernel_rfl))
              exact Pred.yields_run (v := .bool false) (Pred.wanted_none rfl) (by go_simp) ⟨Pred.ext_refl _ _, rfl⟩
            · intro b X hE hd hn hV
              have r113 : b.tmps[113]?.getD undef = .bool false := hV 1 _ 113 rfl rfl (Pred.waits_near (by kernel_rfl) (by kernel_rfl))
              exact Pred.yields_run (v := .bool false) (Pred.wanted_none rfl) (by go_simp) ⟨Pred.ext_refl _ _, rfl⟩
            · intro b X hE hd hn hV
              have r17 : b.tmps[17]?.getD undef = .slice (some ⟨a7, 0, none⟩) 144 c7 := (hn 17 (by kernel_rfl)).trans rfl
              have r114 : b.tmps[114]?.getD undef = .bool false := hV 2 _ 114 rfl rfl (Pred.waits_near (by kernel_rfl) (by kernel_rfl))
              exact Pred.yields_run (v := .slice (some ⟨a7, 0, none⟩) 144 c7) ((Pred.wanted_at (g := 2) (d := 114) (f := false) rfl rfl r114).trans rfl) (by go_simp) ⟨Pred.ext_refl _ _, rfl⟩
            · intro b X hE hd hn hV
              have r115 : b.tmps[115]?.getD undef = .slice (some ⟨a7, 0, none⟩) 144 c7 := hV 3 _ 115 rfl rfl (Pred.waits_near (by kernel_rfl) (by kernel_rfl))
              have r114 : b.tmps[114]?.getD undef = .bool false := hV 2 _ 114 rfl rfl (Pred.waits_near (by kernel_rfl) (by kernel_rfl))
              have hc9 := str_own (PoE.owns_below HO9.out hE) B5.out
              exact Pred.yields_run (v := .string (bytesOf D5)) ((Pred.wanted_at (g := 2) (d := 114) (f := false) rfl rfl r114).trans rfl) (by go_simp) ⟨Pred.ext_refl _ _, rfl⟩
            · intro b X hE hd hn hV
              have r10 : b.tmps[10]?.getD undef = .map (some mb) := (hn 10 (by kernel_rfl)).trans rfl
              have r114 : b.tmps[114]?.getD undef = .bool false := hV 2 _ 114 rfl rfl (Pred.waits_near (by kernel_rfl) (by kernel_rfl))
              exact Pred.yields_run (v := .map (some mb)) ((Pred.wanted_at (g := 2) (d := 114) (f := false) rfl rfl r114).trans rfl) (by go_simp) ⟨Pred.ext_refl _ _, rfl⟩
            · intro b X hE hd hn hV
              have r12 : b.tmps[12]?.getD undef = .pointer (some ⟨gb, 0, none⟩) := (hn 12 (by kernel_rfl)).trans rfl
              have r114 : b.tmps[114]?.getD undef = .bool false := hV 2 _ 114 rfl rfl (Pred.waits_near (by kernel_rfl) (by kernel_rfl))
              have z : blk X gb = some (.cells #[.int .i64 x0, .int .i64 x1, .int .i64 x2] 35 (0, 0)) := (HC9.out.bel hE).g
              exact Pred.yields_run (v := .agg #[.int .i64 x0, .int .i64 x1, .int .i64 x2]) ((Pred.wanted_at (g := 2) (d := 114) (f := false) rfl rfl r114).trans rfl) (by go_simp) ⟨Pred.ext_refl _ _, rfl⟩
            · intro b X hE hd hn hV
              have r117 : b.tmps[117]?.getD undef = .map (some mb) := hV 5 _ 117 rfl rfl (Pred.waits_near (by kernel_rfl) (by kernel_rfl))
              have r118 : b.tmps[118]?.getD undef = .agg #[.int .i64 x0, .int .i64 x1, .int .i64 x2] := hV 6 _ 118 rfl rfl (Pred.waits_near (by kernel_rfl) (by kernel_rfl))
              have r114 : b.tmps[114]?.getD undef = .bool false := hV 2 _ 114 rfl rfl (Pred.waits_near (by kernel_rfl) (by kernel_rfl))
              have hlk : (Instr.lookup 55 (.map (some mb)) (.agg #[.int .i64 x0, .int .i64 x1, .int .i64 x2]) false).run Try.prog X = .ok (.string (bytesOf D5)) X := (HC9.out.bel hE).m.look KPg.out EFG.out
              exact Pred.yields_run (v := .string (bytesOf D5)) ((Pred.wanted_at (g := 2) (d := 114) (f := false) rfl rfl r114).trans rfl) (by go_simp) ⟨Pred.ext_refl _ _, rfl⟩
            · intro b X hE hd hn hV
              have r116 : b.tmps[116]?.getD undef = .string (bytesOf D5) := hV 4 _ 116 rfl rfl (Pred.waits_near (by kernel_rfl) (by kernel_rfl))
              have r119 : b.tmps[119]?.getD undef = .string (bytesOf D5) := hV 7 _ 119 rfl rfl (Pred.waits_near (by kernel_rfl) (by kernel_rfl))
              have r114 : b.tmps[114]?.getD undef = .bool false := hV 2 _ 114 rfl rfl (Pred.waits_near (by kernel_rfl) (by kernel_rfl))
              exact Pred.yields_run (v := .bool false) ((Pred.wanted_at (g := 2) (d := 114) (f := false) rfl rfl r114).trans rfl) (by go_simp) ⟨Pred.ext_refl _ _, rfl⟩
            · intro b X hE hd hn hV
              have r114 : b.tmps[114]?.getD undef = .bool false := hV 2 _ 114 rfl rfl (Pred.waits_near (by kernel_rfl) (by kernel_rfl))
              have r120 : b.tmps[120]?.getD undef = .bool false := hV 8 _ 120 rfl rfl (Pred.waits_near (by kernel_rfl) (by kernel_rfl))
              exact Pred.yields_run (v := .bool false) (Pred.wanted_none rfl) (by go_simp) ⟨Pred.ext_refl _ _, rfl⟩
          intro v X hE hv
          have e0 : v 0 = .bool true := hv 0 _ 112 rfl rfl
          have e1 : v 1 = .bool false := hv 1 _ 113 rfl rfl
          have e2 : v 2 = .bool false := hv 2 _ 114 rfl rfl
          have e3 : v 3 = .slice (some ⟨a7, 0, none⟩) 144 c7 := hv 3 _ 115 rfl rfl
          have e4 : v 4 = .string (bytesOf D5) := hv 4 _ 116 rfl rfl
          have e5 : v 5 = .map (some mb) := hv 5 _ 117 rfl rfl
          have e6 : v 6 = .agg #[.int .i64 x0, .int .i64 x1, .int .i64 x2] := hv 6 _ 118 rfl rfl
          have e7 : v 7 = .string (bytesOf D5) := hv 7 _ 119 rfl rfl
          have e8 : v 8 = .bool false := hv 8 _ 120 rfl rfl
          have e9 : v 9 = .bool false := hv 9 _ 121 rfl rfl
          simp only [Pred.putsF_cons, Pred.putsF_nil, Nat.zero_add, Nat.reduceAdd, e0, e1, e2, e3, e4, e5, e6, e7, e8, e9, Act.put, List.setIfInBounds_toArray, List.set_cons_zero, List.set_cons_succ]
          clear e0 e1 e2 e3 e4 e5 e6 e7 e8 e9 hv
          rename World => X10
          have HC10 := Lib.hid (HC9.out.bel hE)
          have HO10 := Lib.hid (PoE.owns_below HO9.out hE)
          have hs10 := hE.size
          clear hE HC9 HO9
          obtain ⟨z7, cur7, hz7, hf7, ht7, -⟩ := own_at HO10.out N5.out hkk
          go_upto_region 26 with (fail)
          refine Rd.name_world ?_
          intro W11 hW11
          have hg11 : X10.grownBy W11 (some a7) := by rw [hW11]; exact setCell_grown _ _ _ _
          have HC11 := Lib.hid (HC10.out.set ht7 hw7 (fun e => by omega) hg11)
          clear hW11 hg11 HC10 HO10 hz7 hf7 ht7
          have CG2 := get_any x0 x1 x2 W11 HC11.out.p
          rw [EH.out.1, EH.out.2] at CG2
          have HCG2 := Lib.hid CG2
          have bG11 : blk W11 gb = some (.cells #[.int .i64 x0, .int .i64 x1, .int .i64 x2] 35 (0, 0)) := HC11.out.g
          clear CG2
          go_wp2_with fail
          refine HCG2.out.mono ?_
          rintro e W12 ⟨⟨u, rfl, hu, -⟩, hb⟩
          have ho := hu (by first | trivial | rfl)
          obtain ⟨a8, c8, rfl, -, -⟩ := bin_own ho
          have HC12 := Lib.hid (HC11.out.bel hb)
          have HO12 := Lib.hid ho
          clear hu ho hb HC11 HCG2 bG11
          go_upto_region 27 with (fail)
          refine Pred.region_vals (Pred.Of [
              Is (.bool true),
              Is (.bool false),
              Is (.bool false),
              Is (.slice (some ⟨a8, 0, none⟩) 144 c8),
              Is (.string (bytesOf D5)),
              Is (.map (some mb)),
              Is (.agg #[.int .i64 x0, .int .i64 x1, .int .i64 x2]),
              Is (.string (bytesOf D5)),
              Is (.bool false),
              Is (.bool false),
              Is (.bool false),
              Is (.pointer (some ⟨pb, 0, none⟩)),
              Is (.int .i64 (R2.length : Int)),
              Is (.map (some mb)),
              Is (.int .i64 (R2.length : Int)),
              Is (.bool false),
              Is (.bool false)]) (by kernel_rfl) (by kernel_rfl) (by kernel_rfl) (Pred.of_stab ?_) ?_ ?_
          · exact ⟨is_stab _, is_stab _, is_stab _, is_stab _, is_stab _, is_stab _, is_stab _, is_stab _, is_stab _, is_stab _, is_stab _, is_stab _, is_stab _, is_stab _, is_stab _, is_stab _, is_stab _, trivial⟩
          · refine ⟨?_, ?_, ?_, ?_, ?_, ?_, ?_, ?_, ?_, ?_, ?_, ?_, ?_, ?_, ?_, ?_, ?_, trivial⟩
            · intro b X hE hd hn hV
              have r20 : b.tmps[20]?.getD undef = .bool true := (hn 20 (by kernel_rfl)).trans rfl
              exact Pred.yields_run (v := .bool true) (Pred.wanted_none rfl) (by go_simp) ⟨Pred.ext_refl _ _, rfl⟩
            · intro b X hE hd hn hV
              have r134 : b.tmps[134]?.getD undef = .bool true := hV 0 _ 134 rfl rfl (Pred.waits_near (by kernel_rfl) (by kernel_rfl))
              exact Pred.yields_run (v := .bool false) (Pred.wanted_none rfl) (by go_simp) ⟨Pred.ext_refl _ _, rfl⟩
            · intro b X hE hd hn hV
              have r135 : b.tmps[135]?.getD undef = .bool false := hV 1 _ 135 rfl rfl (Pred.waits_near (by kernel_rfl) (by kernel_rfl))
              exact Pred.yields_run (v := .bool false) (Pred.wanted_none rfl) (by go_simp) ⟨Pred.ext_refl _ _, rfl⟩
            · intro b X hE hd hn hV
              have r19 : b.tmps[19]?.getD undef = .slice (some ⟨a8, 0, none⟩) 144 c8 := (hn 19 (by kernel_rfl)).trans rfl
              have r136 : b.tmps[136]?.getD undef = .bool false := hV 2 _ 136 rfl rfl (Pred.waits_near (by kernel_rfl) (by kernel_rfl))
              exact Pred.yields_run (v := .slice (some ⟨a8, 0, none⟩) 144 c8) ((Pred.wanted_at (g := 2) (d := 136) (f := false) rfl rfl r136).trans rfl) (by go_simp) ⟨Pred.ext_refl _ _, rfl⟩
            · intro b X hE hd hn hV
              have r137 : b.tmps[137]?.getD undef = .slice (some ⟨a8, 0, none⟩) 144 c8 := hV 3 _ 137 rfl rfl (Pred.waits_near (by kernel_rfl) (by kernel_rfl))
              have r136 : b.tmps[136]?.getD undef = .bool false := hV 2 _ 136 rfl rfl (Pred.waits_near (by kernel_rfl) (by kernel_rfl))
              have hc9 := str_own (PoE.owns_below HO12.out hE) B5.out
              exact Pred.yields_run (v := .string (bytesOf D5)) ((Pred.wanted_at (g := 2) (d := 136) (f := false) rfl rfl r136).trans rfl) (by go_simp) ⟨Pred.ext_refl _ _, rfl⟩
            · intro b X hE hd hn hV
              have r10 : b.tmps[10]?.getD undef = .map (some mb) := (hn 10 (by kernel_rfl)).trans rfl
              have r136 : b.tmps[136]?.getD undef = .bool false := hV 2 _ 136 rfl rfl (Pred.waits_near (by kernel_rfl) (by kernel_rfl))
              exact Pred.yields_run (v := .map (some mb)) ((Pred.wanted_at (g := 2) (d := 136) (f := false) rfl rfl r136).trans rfl) (by go_simp) ⟨Pred.ext_refl _ _, rfl⟩
            · intro b X hE hd hn hV
              have r12 : b.tmps[12]?.getD undef = .pointer (some ⟨gb, 0, none⟩) := (hn 12 (by kernel_rfl)).trans rfl
              have r136 : b.tmps[136]?.getD undef = .bool false := hV 2 _ 136 rfl rfl (Pred.waits_near (by kernel_rfl) (by kernel_rfl))
              have z : blk X gb = some (.cells #[.int .i64 x0, .int .i64 x1, .int .i64 x2] 35 (0, 0)) := (HC12.out.bel hE).g
              exact Pred.yields_run (v := .agg #[.int .i64 x0, .int .i64 x1, .int .i64 x2]) ((Pred.wanted_at (g := 2) (d := 136) (f := false) rfl rfl r136).trans rfl) (by go_simp) ⟨Pred.ext_refl _ _, rfl⟩
            · intro b X hE hd hn hV
              have r139 : b.tmps[139]?.getD undef = .map (some mb) := hV 5 _ 139 rfl rfl (Pred.waits_near (by kernel_rfl) (by kernel_rfl))
              have r140 : b.tmps[140]?.getD undef = .agg #[.int .i64 x0, .int .i64 x1, .int .i64 x2] := hV 6 _ 140 rfl rfl (Pred.waits_near (by kernel_rfl) (by kernel_rfl))
              have r136 : b.tmps[136]?.getD undef = .bool false := hV 2 _ 136 rfl rfl (Pred.waits_near (by kernel_rfl) (by kernel_rfl))
              have hlk : (Instr.lookup 55 (.map (some mb)) (.agg #[.int .i64 x0, .int .i64 x1, .int .i64 x2]) false).run Try.prog X = .ok (.string (bytesOf D5)) X := (HC12.out.bel hE).m.look KPg.out EFG.out
              exact Pred.yields_run (v := .string (bytesOf D5)) ((Pred.wanted_at (g := 2) (d := 136) (f := false) rfl rfl r136).trans rfl) (by go_simp) ⟨Pred.ext_refl _ _, rfl⟩
            · intro b X hE hd hn hV
              have r138 : b.tmps[138]?.getD undef = .string (bytesOf D5) := hV 4 _ 138 rfl rfl (Pred.waits_near (by kernel_rfl) (by kernel_rfl))
              have r141 : b.tmps[141]?.getD undef = .string (bytesOf D5) := hV 7 _ 141 rfl rfl (Pred.waits_near (by kernel_rfl) (by kernel_rfl))
              have r136 : b.tmps[136]?.getD undef = .bool false := hV 2 _ 136 rfl rfl (Pred.waits_near (by kernel_rfl) (by kernel_rfl))
              exact Pred.yields_run (v := .bool false) ((Pred.wanted_at (g := 2) (d := 136) (f := false) rfl rfl r136).trans rfl) (by go_simp) ⟨Pred.ext_refl _ _, rfl⟩
            · intro b X hE hd hn hV
              have r136 : b.tmps[136]?.getD undef = .bool false := hV 2 _ 136 rfl rfl (Pred.waits_near (by kernel_rfl) (by kernel_rfl))
              have r142 : b.tmps[142]?.getD undef = .bool false := hV 8 _ 142 rfl rfl (Pred.waits_near (by kernel_rfl) (by kernel_rfl))
              exact Pred.yields_run (v := .bool false) (Pred.wanted_none rfl) (by go_simp) ⟨Pred.ext_refl _ _, rfl⟩
            · intro b X hE hd hn hV
              have r143 : b.tmps[143]?.getD undef = .bool false := hV 9 _ 143 rfl rfl (Pred.waits_near (by kernel_rfl) (by kernel_rfl))
              exact Pred.yields_run (v := .bool false) (Pred.wanted_none rfl) (by go_simp) ⟨Pred.ext_refl _ _, rfl⟩
            · intro b X hE hd hn hV
              have r7 : b.tmps[7]?.getD undef = .pointer (some ⟨pb, 0, none⟩) := (hn 7 (by kernel_rfl)).trans rfl
              have r144 : b.tmps[144]?.getD undef = .bool false := hV 10 _ 144 rfl rfl (Pred.waits_near (by kernel_rfl) (by kernel_rfl))
              exact Pred.yields_run (v := .pointer (some ⟨pb, 0, none⟩)) ((Pred.wanted_at (g := 10) (d := 144) (f := false) rfl rfl r144).trans rfl) (by go_simp) ⟨Pred.ext_refl _ _, rfl⟩
            · intro b X hE hd hn hV
              have r145 : b.tmps[145]?.getD undef = .pointer (some ⟨pb, 0, none⟩) := hV 11 _ 145 rfl rfl (Pred.waits_near (by kernel_rfl) (by kernel_rfl))
              have r144 : b.tmps[144]?.getD undef = .bool false := hV 10 _ 144 rfl rfl (Pred.waits_near (by kernel_rfl) (by kernel_rfl))
              refine Pred.yields_call (f := 22) (args := #[.pointer (some ⟨pb, 0, none⟩)]) ((Pred.wanted_at (g := 10) (d := 144) (f := false) rfl rfl r144).trans rfl) (by go_simp) ?_
              refine (PoB.len_any X (HC12.out.bel hE).p).mono ?_
              rintro e w9 ⟨he, hb9⟩
              exact ⟨_, he, Pred.ext_below hb9 hE.size, rfl⟩
            · intro b X hE hd hn hV
              have r10 : b.tmps[10]?.getD undef = .map (some mb) := (hn 10 (by kernel_rfl)).trans rfl
              have r144 : b.tmps[144]?.getD undef = .bool false := hV 10 _ 144 rfl rfl (Pred.waits_near (by kernel_rfl) (by kernel_rfl))
              exact Pred.yields_run (v := .map (some mb)) ((Pred.wanted_at (g := 10) (d := 144) (f := false) rfl rfl r144).trans rfl) (by go_simp) ⟨Pred.ext_refl _ _, rfl⟩
            · intro b X hE hd hn hV
              have r147 : b.tmps[147]?.getD undef = .map (some mb) := hV 13 _ 147 rfl rfl (Pred.waits_near (by kernel_rfl) (by kernel_rfl))
              have r144 : b.tmps[144]?.getD undef = .bool false := hV 10 _ 144 rfl rfl (Pred.waits_near (by kernel_rfl) (by kernel_rfl))
              have hln := fun ty => (HC12.out.bel hE).m.len ty
              exact Pred.yields_run (v := .int .i64 (R2.length : Int)) ((Pred.wanted_at (g := 10) (d := 144) (f := false) rfl rfl r144).trans rfl) (by go_simp) ⟨Pred.ext_refl _ _, rfl⟩
            · intro b X hE hd hn hV
              have r146 : b.tmps[146]?.getD undef = .int .i64 (R2.length : Int) := hV 12 _ 146 rfl rfl (Pred.waits_near (by kernel_rfl) (by kernel_rfl))
              have r148 : b.tmps[148]?.getD undef = .int .i64 (R2.length : Int) := hV 14 _ 148 rfl rfl (Pred.waits_near (by kernel_rfl) (by kernel_rfl))
              have r144 : b.tmps[144]?.getD undef = .bool false := hV 10 _ 144 rfl rfl (Pred.waits_near (by kernel_rfl) (by kernel_rfl))
              exact Pred.yields_run (v := .bool false) ((Pred.wanted_at (g := 10) (d := 144) (f := false) rfl rfl r144).trans rfl) (by go_simp) ⟨Pred.ext_refl _ _, rfl⟩
            · intro b X hE hd hn hV
              have r144 : b.tmps[144]?.getD undef = .bool false := hV 10 _ 144 rfl rfl (Pred.waits_near (by kernel_rfl) (by kernel_rfl))
              have r149 : b.tmps[149]?.getD undef = .bool false := hV 15 _ 149 rfl rfl (Pred.waits_near (by kernel_rfl) (by kernel_rfl))
              exact Pred.yields_run (v := .bool false) (Pred.wanted_none rfl) (by go_simp) ⟨Pred.ext_refl _ _, rfl⟩
          intro v X hE hv
          have e0 : v 0 = .bool true := hv 0 _ 134 rfl rfl
          have e1 : v 1 = .bool false := hv 1 _ 135 rfl rfl
          have e2 : v 2 = .bool false := hv 2 _ 136 rfl rfl
          have e3 : v 3 = .slice (some ⟨a8, 0, none⟩) 144 c8 := hv 3 _ 137 rfl rfl
          have e4 : v 4 = .string (bytesOf D5) := hv 4 _ 138 rfl rfl
          have e5 : v 5 = .map (some mb) := hv 5 _ 139 rfl rfl
          have e6 : v 6 = .agg #[.int .i64 x0, .int .i64 x1, .int .i64 x2] := hv 6 _ 140 rfl rfl
          have e7 : v 7 = .string (bytesOf D5) := hv 7 _ 141 rfl rfl
          have e8 : v 8 = .bool false := hv 8 _ 142 rfl rfl
          have e9 : v 9 = .bool false := hv 9 _ 143 rfl rfl
          have e10 : v 10 = .bool false := hv 10 _ 144 rfl rfl
          have e11 : v 11 = .pointer (some ⟨pb, 0, none⟩) := hv 11 _ 145 rfl rfl
          have e12 : v 12 = .int .i64 (R2.length : Int) := hv 12 _ 146 rfl rfl
          have e13 : v 13 = .map (some mb) := hv 13 _ 147 rfl rfl
          have e14 : v 14 = .int .i64 (R2.length : Int) := hv 14 _ 148 rfl rfl
          have e15 : v 15 = .bool false := hv 15 _ 149 rfl rfl
          have e16 : v 16 = .bool false := hv 16 _ 150 rfl rfl
          simp only [Pred.putsF_cons, Pred.putsF_nil, Nat.zero_add, Nat.reduceAdd, e0, e1, e2, e3, e4, e5, e6, e7, e8, e9, e10, e11, e12, e13, e14, e15, e16, Act.put, List.setIfInBounds_toArray, List.set_cons_zero, List.set_cons_succ]
          clear e0 e1 e2 e3 e4 e5 e6 e7 e8 e9 e10 e11 e12 e13 e14 e15 e16 hv
          go_wp2_with fail
          refine ⟨⟨k + 1, R2, by omega, by go_num, Lib.hid ⟨(HC12.out.bel hE).low, (HC12.out.bel hE).p.mono (fun k _ e => e.1), (HC12.out.bel hE).m, EB.out, HN2.out.1, HN2.out.2⟩⟩, by simp [intOf]; omega⟩
    · obtain rfl : k = len := by omega
      go_wp2_with (first | (at_range; refine wp_range rfl (.tmp 151) rfl HS.out.m rfl ?_; intro Z hRg hb) | fail)
      try go_frame
      have HSZ := Lib.hid (HS.out.bel hb)
      obtain ⟨rr, err⟩ : ∃ x, X.heap.size = x := ⟨_, rfl⟩
      have hrw : w.heap.size ≤ X.heap.size := HS.out.low.size
      have hmr : mb < X.heap.size := HS.out.m.lt
      rw [err] at hRg hrw hmr ⊢
      have HRG := Lib.hid hRg
      have hnd := Lib.hid (nd_pl HS.out.p)
      clear hRg hb err HS
      go_loopw [22] (fun v W => ∃ cnt, Hid (Rg W mb rr (fR R) R.length cnt) ∧ Hid (Hd w W lo pb gw n R mb)) (fun _ W => W.rangeLeft mb rr)
      case atStart => exact ⟨_, HRG, HSZ⟩
      case round =>
        clear HRG HSZ
        obtain ⟨cnt, HRg, HSW⟩ := hrel
        rename World => W
        go_wp2_with (first | (at_next; refine wp_next rfl _ rfl rfl HRg.out (fun hc0 => ?_) (fun v b Z1 cnt1 hf hk hrg1 hlt1 hg1 hen => ?_)) | fail)
        · have L9 := HSW.out.low
          go_wp2_with fail
          refine (CA.out _).mono ?_
          rintro e w9 ⟨rfl, hb⟩
          have L10 := Rd.below_step L9 hb
          clear hb
          go_wp2
          go_ret
          exact ⟨rfl, L10⟩
        · have hm := (fR_iff hnd.out).1 hf
          obtain ⟨i, x0, x1, x2, -, -, ex⟩ := pl_in HSW.out.p hm
          obtain rfl : v = [x0, x1, x2] := ex
          have hhas : hasR R [x0, x1, x2] = true ∧ bytesR R [x0, x1, x2] = b := by
            unfold fR at hf
            split at hf
            · rename_i h9; injection hf with hf; exact ⟨h9, hf⟩
            · cases hf
          have HH := Lib.hid hhas
          have HBb := Lib.hid (HSW.out.by_ _ hm)
          have HRg1 := Lib.hid hrg1
          have hl1 := hrg1.left
          have hl0 := HRg.out.left
          have hlt9 : cnt1 < W.rangeLeft mb rr := by rw [hl0]; exact hlt1
          have HLT := Lib.hid hlt9
          have HS1 : Hid (Hd w Z1 lo pb gw n R mb) := Lib.hid (by
            obtain ⟨es, clock, since, seen, c0, -, -, hi, -⟩ := HRg.out
            exact HSW.out.iter hg1 hrw (by omega) hi)
          have hpv : pgV [x0, x1, x2] = .agg #[.int .i64 x0, .int .i64 x1, .int .i64 x2] := rfl
          rw [hpv] at hen ⊢
          clear hf hm hhas hrg1 hlt1 hg1 hk hpv hl1 hl0 hlt9 HRg HSW
          go_upto_region 32 with (fail)
          refine Rd.name_world ?_
          intro Z2 hZ2
          have bQ : blk Z2 Z1.heap.size = some (.cells #[.int .i64 x0, .int .i64 x1, .int .i64 x2] 35 (0, 0)) := by rw [hZ2]; exact blk_alloc_at _ _ _ rfl
          have hb2 : Below Z1.heap.size Z1 Z2 := by
            rw [hZ2]
            repeat' (first | (with_reducible exact Below.refl _ _) | (with_reducible refine Rd.below_step ?_ (by assumption)) | (with_reducible refine Rd.below_alloc ?_ _) | (with_reducible refine Rd.below_drewN ?_ _) | (with_reducible refine Below.drew ?_) | (with_reducible refine Below.setCell ?_ ?_ _) | (with_reducible refine Rd.below_setRow ?_ ?_ _) | go_size | (simp only [World.size_alloc]; omega) | omega)
          have HS2 := Lib.hid (HS1.out.bel hb2)
          have HRg2 := Lib.hid (HRg1.out.bel hb2)
          obtain ⟨gq, egq⟩ : ∃ g, Z1.heap.size = g := ⟨_, rfl⟩
          rw [egq] at bQ ⊢
          clear hZ2 hb2 HS1 HRg1 egq hen
          have CG := get_any x0 x1 x2 Z2 HS2.out.p
          rw [HH.out.1, HH.out.2] at CG
          have HCG := Lib.hid CG
          clear CG
          go_wp2_with fail
          refine HCG.out.mono ?_
          rintro e Z3 ⟨⟨u, rfl, hu, -⟩, hb⟩
          have ho := hu (by first | trivial | rfl)
          obtain ⟨a7, c7, rfl, -, -⟩ := bin_own ho
          have hc7 := str_own ho HBb.out
          have HS3 := Lib.hid (HS2.out.bel hb)
          have HRg3 := Lib.hid (HRg2.out.bel hb)
          clear hu ho hb HS2 HRg2 HCG bQ
          go_wp2_with fail
          exact ⟨⟨_, HRg3, HS3⟩, by rw [HRg3.out.left]; exact HLT.out⟩
end Go.Proofs.Ytkklppjimnkibaa.PoZ

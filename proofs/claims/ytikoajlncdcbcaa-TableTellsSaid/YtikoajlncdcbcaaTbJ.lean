/-
  The walk of TableTells.
-/
import Derived.Test.YtikoajlncdcbcaaTbI
import Derived.Test.YtikoajlncdcbcaaInts
import Derived.IntWalk
namespace Go.Proofs.Ytikoajlncdcbcaa.TbJ
open Go.RowKit Rd Go.Proofs.Ytikoajlncdcbcaa.Row Mid PgM PgA PgB PgC TbA TbB TbC TbD TbE TbF TbG TbI
set_option linter.unusedVariables false
set_option linter.unusedSimpArgs false
set_option maxRecDepth 10000
theorem all_zero {n : Nat} (hn : n ≤ 3) : at_ (allV (n : Int)) 0 = [(n : Int), 0, 0] := by
  rcases n4 hn with rfl | rfl | rfl | rfl <;> decide +kernel
theorem all_no {d : Int} (h : depthB d = false) : allV d = [] := by unfold allV; rw [h]; rfl
theorem eqL_refl (l : List Int) : eqL l l = true := decide_eq_true rfl
theorem owns_turn {X Y : World} {B g e s n : Nat} {v : Value} {xs : List Value} (h : X.ownsRow B e s v n xs) (hg : X.grownBy Y (some g)) (hB : g < B) : Y.ownsRow B e s v n xs := by
  obtain ⟨h1, h2⟩ := h
  refine ⟨h1, ?_⟩
  rcases h2 with h2 | ⟨b, cap, cur, e1, e2, e3, e4⟩
  · exact Or.inl h2
  · refine Or.inr ⟨b, cap, cur, e1, e2, ?_, e4⟩
    have hl : b < X.heap.size := (Array.getElem?_eq_some_iff.1 e3).1
    exact (hg.block b hl fun e => by injection e with e; omega).trans e3
structure Mem (w X : World) (t g n ga o pO B : Nat) (q0 q1 q2 : Int) (v : Value) (bs : List Bool) (R : PgM.Row) : Prop where
  tab : Tab X t g n bs
  three : ∀ r ∈ R, r.length = 3
  own : X.ownsRow B 24 3 v R.length (fl R)
  pgs : Pgs X ga o n
  odd : blk X pO = some (.cells #[.int .i64 q0, .int .i64 q1, .int .i64 q2] 24 (0, 0))
  below : Below w.heap.size w X
  size : B ≤ X.heap.size
theorem Mem.bel {w X Y : World} {t g n ga o pO B : Nat} {q0 q1 q2 : Int} {v : Value} {bs : List Bool} {R : PgM.Row} (h : Mem w X t g n ga o pO B q0 q1 q2 v bs R) (hb : Below X.heap.size X Y) : Mem w Y t g n ga o pO B q0 q1 q2 v bs R :=
  ⟨h.tab.bel hb, h.three, owns_below h.own hb, h.pgs.below hb, (blk_below hb _ (blk_lt h.odd)).trans h.odd, h.below.trans (hb.mono h.below.size), Nat.le_trans h.size hb.size⟩
theorem Mem.turn {w X Y : World} {t g n ga o pO B : Nat} {q0 q1 q2 : Int} {v : Value} {bs bs' : List Bool} {R : PgM.Row} (h : Mem w X t g n ga o pO B q0 q1 q2 v bs R) (hg : X.grownBy Y (some g)) (hT : Tab Y t g n bs') (h1 : w.heap.size ≤ g) (h2 : g < B) (h3 : pO ≠ g) : Mem w Y t g n ga o pO B q0 q1 q2 v bs' R :=
  ⟨hT, h.three, owns_turn h.own hg h2, h.pgs.turn hg (pgs_ne h.pgs h.tab), blk_turn h.odd hg h3, below_turn h.below hg h1, Nat.le_trans h.size hg.size⟩
theorem Mem.row {w X : World} {t g n ga o pO B : Nat} {q0 q1 q2 : Int} {ad : Option Addr} {c : Nat} {bs : List Bool} {R : PgM.Row} (h : Mem w X t g n ga o pO B q0 q1 q2 (.slice ad R.length c) bs R) : PgAt X ad R := (pgAt_owns h.own h.three).2
theorem Mem.put {w X : World} {t g n ga o pO B B' : Nat} {q0 q1 q2 : Int} {v v' : Value} {bs : List Bool} {R R' : PgM.Row} (h : Mem w X t g n ga o pO B q0 q1 q2 v bs R) (h3 : ∀ r ∈ R', r.length = 3) (ho : X.ownsRow B' 24 3 v' R'.length (fl R')) (hB : B ≤ B') : Mem w X t g n ga o pO B q0 q1 q2 v' bs R' :=
  ⟨h.tab, h3, ⟨ho.1, ho.2.imp id fun ⟨b, cap, cur, e1, e2, e3⟩ => ⟨b, cap, cur, e1, Nat.le_trans hB e2, e3⟩⟩, h.pgs, h.odd, h.below, h.size⟩
theorem look_ok {n : Nat} {bs : List Bool} {L X Y : Int} (hn : n ≤ 3) (hr : bs.getD 0 false = true) : (lookV n bs L X Y).2 = validB n L X Y := by
  cases hv : validB n L X Y with
  | false => unfold lookV; rw [hv]; rfl
  | true =>
    obtain ⟨-, ⟨h0, h1⟩, -, -⟩ := valid_yes hv
    obtain ⟨m, hm⟩ : ∃ m : Nat, L = m := ⟨L.toNat, by omega⟩
    subst hm
    obtain ⟨s, -, -, h3, -, -⟩ := look_fact hn (by omega) hv hr
    rw [h3]
theorem look_three (n : Nat) (bs : List Bool) (L X Y : Int) : (lookV n bs L X Y).1.length = 3 := by
  unfold lookV
  split
  · generalize ((n : Int) - L + 1).toNat = r
    induction r with
    | zero => rfl
    | succ r ih =>
      unfold lookL
      split
      · exact upV_len _ _ _ _ _
      · exact ih
  · rfl
theorem rel_up {n m k : Nat} {bs : List Bool} {R : PgM.Row} {X Y : Int} (h : Rel n bs R) (hn : n ≤ 3) (hv : validB n m X Y = true) (h1 : m ≤ k) (h2 : k ≤ n) : thereP n bs (upV n m X Y k) = decide (upV n m X Y k ∈ R) := by
  have := h _ _ _ (up_valid hn hv h1 h2)
  rw [← three (upV_len n m X Y k)] at this
  exact this
def afterL (gd : Bool) (R : PgM.Row) (G : List Int) (yes : Bool) : PgM.Row := if gd = true then nextL R G yes else R
theorem after_true (R : PgM.Row) (G : List Int) (yes : Bool) : afterL true R G yes = nextL R G yes := rfl
theorem after_false (R : PgM.Row) (G : List Int) (yes : Bool) : afterL false R G yes = R := rfl
def Good (n k : Nat) (bs : List Bool) (R : PgM.Row) : Prop := Rel n bs R ∧ bs.getD 0 false = true ∧ R.length ≤ k + 1
attribute [local go_sem ↓] store_pg eq_pg3
attribute [local go_sem] eqL_refl one_int pc3 run_store_pg rowStore_eq blk_alloc_at blk_alloc_old blk_drew blk_drewN blk_set_far blk_set_far' blk_grow setRow_alloc_at setRow_alloc_old setRow_drew setRow_drewN
set_option maxHeartbeats 16000000 in
theorem ttells_gen (d : Int) (ai : Option Addr) (len cap : Nat) (zs : List Int) (q0 q1 q2 : Int) (w : World) (hd1 : -9223372036854775808 ≤ d) (hd2 : d ≤ 9223372036854775807)
    (hz : ∀ z ∈ zs, Ints.In64 z) (hzl : zs.length = len * 2) (hR : Reads w 2 ai len (Ints.i64s zs)) :
    Calls Try.prog 3 #[.int .i64 d, .slice ai len cap, .agg #[.int .i64 q0, .int .i64 q1, .int .i64 q2]] w fun e w' => e = .returned (.bool true) ∧ Below w.heap.size w w' := by
  have HR := Lib.hid hR
  have HZ := Lib.hid hz
  have HZL := Lib.hid hzl
  clear hR hz hzl
  go_enter Try.func3, Try.ntmps3
  go_upto_region 1 with (fail)
  refine Rd.name_world ?_
  intro w1 hw
  have bO : blk w1 w.heap.size = some (.cells #[.int .i64 q0, .int .i64 q1, .int .i64 q2] 24 (0, 0)) := by rw [hw]; exact blk_alloc_at _ _ _ rfl
  have L1 : Below w.heap.size w w1 := by
    rw [hw]
    repeat' (first | (with_reducible exact Below.refl _ _) | (with_reducible refine Rd.below_step ?_ (by assumption)) | (with_reducible refine Rd.below_alloc ?_ _) | (with_reducible refine Rd.below_drewN ?_ _) | (with_reducible refine Below.drew ?_) | (with_reducible refine Below.setCell ?_ ?_ _) | (with_reducible refine Rd.below_setRow ?_ ?_ _) | go_size | (simp only [World.size_alloc]; omega) | omega)
  have hs1 : w.heap.size < w1.heap.size := blk_lt bO
  clear hw
  by_cases hlen : (60 : Int) < len
  · go_wp2_with fail
    refine (awake_any _).mono ?_
    rintro e w2 ⟨rfl, hb2⟩
    have L2 : Below w.heap.size w w2 := L1.trans (hb2.mono L1.size)
    go_wp2
    go_ret
    exact ⟨rfl, L2⟩
  have hl60 : len ≤ 60 := by omega
  obtain ⟨qd, eqd⟩ : ∃ q, depthB d = q := ⟨_, rfl⟩
  cases qd
  case false =>
    have HA := Lib.hid (all_no eqd)
    have CN := Lib.hid (fun X : World => new_no d eqd X)
    clear eqd
    go_wp2_with fail
    refine (CN.out _).mono ?_
    rintro e w2 ⟨rfl, hb2⟩
    have L2 : Below w.heap.size w w2 := L1.trans (hb2.mono L1.size)
    clear hb2
    go_wp2_with fail
    refine (rpages_any d _).mono ?_
    rintro e w3 ⟨⟨ad, cp, rfl, -, -, -⟩, hb3⟩
    have L3 : Below w.heap.size w w3 := L2.trans (hb3.mono L2.size)
    clear hb3
    rw [HA.out, List.length_nil]
    go_wp2_with fail
    refine (awake_any _).mono ?_
    rintro e w4 ⟨rfl, hb4⟩
    have L4 : Below w.heap.size w w4 := L3.trans (hb4.mono L3.size)
    clear hb4
    go_wp2
    go_ret
    exact ⟨rfl, L4⟩
  obtain ⟨dn0, dn1⟩ := depth_yes eqd
  obtain ⟨n, en⟩ : ∃ n : Nat, d = n := ⟨d.toNat, by omega⟩
  subst en
  have hn : n ≤ 3 := by omega
  clear eqd dn0 dn1 hd1 hd2
  go_wp2_with fail
  refine (new_any n hn _).mono ?_
  rintro e w2 ⟨⟨t, g, rfl, ht, hg, hT⟩, hb2⟩
  replace bO := (blk_below hb2 _ hs1).trans bO
  have L2 : Below w.heap.size w w2 := L1.trans (hb2.mono L1.size)
  have hgO : w.heap.size < g := by omega
  clear hb2 hlen
  go_wp2_with fail
  refine (rpages_any n _).mono ?_
  rintro e w3 ⟨⟨ad, cp, rfl, -, -, hP⟩, hb3⟩
  have hT3 := hT.bel hb3
  replace bO := (blk_below hb3 _ (blk_lt bO)).trans bO
  have L3 : Below w.heap.size w w3 := L2.trans (hb3.mono L2.size)
  have hpos := hT3.pos
  have hsm := hT3.small
  have hl := hT3.len
  have HBL : Hid ((startL n).length = (allV (n : Int)).length) := Lib.hid hl
  obtain ⟨N, hN⟩ : ∃ N, (allV (n : Int)).length = N := ⟨_, rfl⟩
  rw [hN] at hl ⊢
  rw [hl] at hpos hsm
  have HN := Lib.hid hN
  obtain ⟨ga, o, ea, hb0, hc⟩ : ∃ ga o, ad = some ⟨ga, o, none⟩ ∧ ga < w3.heap.size ∧ ∀ i, i < (allV (n : Int)).length → ∀ j, j < 3 → w3.cell? ⟨ga, o + i * 3 + j, none⟩ = some (.int .i64 (PgM.g (at_ (allV (n : Int)) i) j)) := by
    rcases hP.2 with h | h
    · rw [h] at hN; simp at hN; omega
    · exact h
  subst ea
  have HP3 : Pgs w3 ga o n := ⟨hb0, hc⟩
  have hN0 : ((N : Int) == 0) = false := by simp; omega
  obtain ⟨a0, a1, a2⟩ := HP3.three (i := 0) (by omega) (all_zero hn)
  rw [Nat.zero_mul, Nat.add_zero] at a0 a1 a2
  have hgB : g < w3.heap.size := hT3.lt.2
  clear hb3 hP hc hb0 hT hl hN L2
  go_upto_region 10 with (fail)
  refine Rd.name_world ?_
  intro w4 hw
  have b4 : blk w4 w3.heap.size = some (.cells #[.int .i64 n, .int .i64 0, .int .i64 0] 24 (0, 0)) := by rw [hw]; exact blk_alloc_at _ _ _ rfl
  have hb : Below w3.heap.size w3 w4 := by
    rw [hw]
    repeat' (first | (with_reducible exact Below.refl _ _) | (with_reducible refine Rd.below_step ?_ (by assumption)) | (with_reducible refine Rd.below_alloc ?_ _) | (with_reducible refine Rd.below_drewN ?_ _) | (with_reducible refine Below.drew ?_) | (with_reducible refine Below.setCell ?_ ?_ _) | (with_reducible refine Rd.below_setRow ?_ ?_ _) | go_size | (simp only [World.size_alloc]; omega) | omega)
  have HM : Hid (Mem w w4 t g n ga o w.heap.size w3.heap.size q0 q1 q2 (.slice (some ⟨w3.heap.size, 0, none⟩) 1 1) (startL n) [[(n : Int), 0, 0]]) := Lib.hid
    ⟨hT3.bel hb, fun r hr => by rw [List.mem_singleton.1 hr]; rfl, ⟨rfl, Or.inr ⟨_, 1, _, rfl, Nat.le_refl _, b4, Nat.le_refl _, by decide, rfl, rfl⟩⟩, HP3.below hb, (blk_below hb _ (blk_lt bO)).trans bO, L3.trans (hb.mono L3.size), hb.size⟩
  have HG : Hid (Good n 0 (startL n) [[(n : Int), 0, 0]]) := Lib.hid ⟨rel_start hn, start_root n hn, Nat.le_refl _⟩
  obtain ⟨B, hB⟩ : ∃ B, w3.heap.size = B := ⟨_, rfl⟩
  rw [hB] at HM hgB ⊢
  clear hN0
  clear hw b4 hb hB a0 a1 a2 hT3 HP3 bO L3 HBL L1
  have hz1 : w.heap.size < w1.heap.size := hs1
  go_wp2_with fail
  go_loopw [10, 11] (fun v i X => ∃ (k : Nat) (bs : List Bool) (R : PgM.Row), k ≤ len ∧ i = .int .i64 k ∧ Hid (Mem w X t g n ga o w.heap.size B q0 q1 q2 v bs R) ∧ Hid (Good n k bs R)) (fun _ i _ => len - (intOf i).toNat)
  case atStart => exact ⟨0, _, _, by omega, rfl, HM, HG⟩
  case round =>
    clear HM HG
    obtain ⟨k, bs, R, hk, rfl, HM, HG⟩ := hrel
    rename World => Y0
    obtain ⟨va, vc, ev, -, -⟩ := owns_val HM.out.own
    subst ev
    obtain ⟨M, hM⟩ : ∃ M, R.length = M := ⟨_, rfl⟩
    have HML := Lib.hid hM
    have HBSL := Lib.hid HM.out.tab.len
    rw [hM]
    clear hM
    by_cases hlt : k < len
    · have hlt' : (k : Int) < len := by omega
      obtain ⟨ab, ao, rfl, hab, hac⟩ := Ints.cell_of HR.out (k := k * 2) (by rw [HZL.out]; omega) (by omega)
      have hcell0 := (HM.out.below.cell (p := ⟨ab, ao + k * 2, none⟩) hab).trans (hac (k * 2) (by rw [HZL.out]; omega))
      have HC1 := Lib.hid (hac (k * 2 + 1) (by rw [HZL.out]; omega))
      obtain ⟨z0, ez0⟩ : ∃ z, zs.getD (k * 2) 0 = z := ⟨_, rfl⟩
      obtain ⟨z1, ez1⟩ : ∃ z, zs.getD (k * 2 + 1) 0 = z := ⟨_, rfl⟩
      have hzz := Ints.getD_in HZ.out (k * 2)
      rw [ez0] at hcell0 hzz
      rw [ez1] at HC1
      clear ez0 ez1 hac
      go_wp2_with fail
      refine (Alk.round_any z0 N _ hzz.1 hzz.2 (by omega) (by omega)).mono ?_
      rintro e w5 ⟨rfl, rfl⟩
      obtain ⟨kk, ek⟩ : ∃ k : Nat, z0 % N = k := ⟨(z0 % N).toNat, by have := Int.emod_nonneg z0 (b := (N : Int)) (by omega); omega⟩
      have hkk : kk < N := by have := Int.emod_lt_of_pos z0 (b := (N : Int)) (by omega); omega
      rw [ek]
      obtain ⟨y0, y1, y2, eX, -⟩ := page_key hn (show kk < (allV (n : Int)).length by rw [HN.out]; exact hkk)
      obtain ⟨c0, c1, c2⟩ := HM.out.pgs.three (by rw [HN.out]; exact hkk) eX
      have hkk' : (kk : Int) < N := by omega
      clear ek eX hcell0
      go_upto_region 14 with (fail)
      refine Rd.name_world ?_
      intro w6 hw
      have bG : blk w6 Y0.heap.size = some (.cells #[.int .i64 y0, .int .i64 y1, .int .i64 y2] 24 (0, 0)) := by rw [hw]; exact blk_alloc_at _ _ _ rfl
      have hb : Below Y0.heap.size Y0 w6 := by
        rw [hw]
        repeat' (first | (with_reducible exact Below.refl _ _) | (with_reducible refine Rd.below_step ?_ (by assumption)) | (with_reducible refine Rd.below_alloc ?_ _) | (with_reducible refine Rd.below_drewN ?_ _) | (with_reducible refine Below.drew ?_) | (with_reducible refine Below.setCell ?_ ?_ _) | (with_reducible refine Rd.below_setRow ?_ ?_ _) | go_size | (simp only [World.size_alloc]; omega) | omega)
      obtain ⟨pg, hpg⟩ : ∃ p, Y0.heap.size = p := ⟨_, rfl⟩
      have HPG := Lib.hid hpg
      have hpB : B ≤ pg := by have := HM.out.size; omega
      rw [hpg] at bG ⊢
      clear hw hpg c0 c1 c2 hkk' hkk hzz
      have hcell1 := (hb.cell (p := ⟨ab, ao + k * 2 + 1, none⟩) (Nat.lt_of_lt_of_le hab HM.out.below.size)).trans ((HM.out.below.cell (p := ⟨ab, ao + k * 2 + 1, none⟩) hab).trans HC1.out)
      have bO := (blk_below hb _ (blk_lt HM.out.odd)).trans HM.out.odd
      have o0 : w6.cell? ⟨w.heap.size, 0, none⟩ = some (.int .i64 q0) := by rw [blk_cell bO]; rfl
      have o1 : w6.cell? ⟨w.heap.size, 1, none⟩ = some (.int .i64 q1) := by rw [blk_cell bO]; rfl
      have o2 : w6.cell? ⟨w.heap.size, 2, none⟩ = some (.int .i64 q2) := by rw [blk_cell bO]; rfl
      clear bO
      go_upto_if 80 with (fail)
      go_cut [] from 81 to 81 (fun X => ∃ x0 x1 x2 : Int, blk X pg = some (.cells #[.int .i64 x0, .int .i64 x1, .int .i64 x2] 24 (0, 0)) ∧ Below Y0.heap.size Y0 X)
      case first =>
        go_wp2
        all_goals go_meet
        · exact ⟨q0, q1, q2, blk_setRow_of bG _, Rd.below_setRow hb (by have := HPG.out; omega) _⟩
        · exact ⟨y0, y1, y2, bG, hb⟩
      case rest =>
      obtain ⟨x0, x1, x2, bX, hbX⟩ := hcut
      obtain ⟨w7, e7⟩ : ∃ z : World, z = wc := ⟨_, rfl⟩
      subst e7
      clear hb bG hcell1 o0 o1 o2
      have hcell1 := (hbX.cell (p := ⟨ab, ao + k * 2 + 1, none⟩) (Nat.lt_of_lt_of_le hab HM.out.below.size)).trans ((HM.out.below.cell (p := ⟨ab, ao + k * 2 + 1, none⟩) hab).trans HC1.out)
      go_upto_region 16 with (fail)
      go_cut [13] from 82 to 88 (fun v X => ∃ b : Bool, v = .bool b ∧ X = w7)
      case first =>
        go_wp2
        go_meet
        exact ⟨_, rfl, rfl⟩
      case rest =>
      obtain ⟨yes, rfl, ewc⟩ := hcut
      subst ewc
      rename World => w7
      clear hcell1
      have HM7 := Lib.hid (HM.out.bel hbX)
      clear hbX HM
      obtain ⟨gd, egd⟩ : ∃ b, setB n x0 x1 x2 yes = b := ⟨_, rfl⟩
      have EG := Lib.hid egd
      clear egd
      go_upto_region 17 with (fail)
      go_cut [14] from 89 to 101 (fun v X => v = .bool gd ∧ Below w7.heap.size w7 X)
      case first =>
        obtain ⟨vb, ev⟩ : ∃ b, validB n x0 x1 x2 = b := ⟨_, rfl⟩
        have CV : Hid (∀ X : World, Calls Try.prog 10 #[.int .i64 n, .agg #[.int .i64 x0, .int .i64 x1, .int .i64 x2]] X fun e w' => e = .returned (.bool vb) ∧ Below X.heap.size X w') := Lib.hid fun X => by
          have := rvalid_any n x0 x1 x2 X
          rw [ev] at this
          exact this
        have g0 := Go.cell_regrown (w := w7) (a := ⟨pg, 0, none⟩) (v := .int .i64 x0) (by rw [blk_cell bX]; rfl)
        have g1 := Go.cell_regrown (w := w7) (a := ⟨pg, 1, none⟩) (v := .int .i64 x1) (by rw [blk_cell bX]; rfl)
        have g2 := Go.cell_regrown (w := w7) (a := ⟨pg, 2, none⟩) (v := .int .i64 x2) (by rw [blk_cell bX]; rfl)
        obtain ⟨c0, c1, c2⟩ := HM7.out.pgs.three (i := 0) (by rw [HN.out]; omega) (all_zero hn)
        rw [Nat.zero_mul, Nat.add_zero] at c0 c1 c2
        have a0 := Go.cell_regrown c0
        have a1 := Go.cell_regrown c1
        have a2 := Go.cell_regrown c2
        have hp0 : 0 < N := hpos
        clear c0 c1 c2
        cases vb
        · have hgd : gd = false := by rw [← EG.out]; unfold setB; rw [ev]; rfl
          subst hgd
          clear EG ev
          refine wp_region_quiet_below (by kernel_rfl) (by kernel_rfl) ?_
          iterate 14 go_big_quiet_step ((exact Calls.regrown_of (CV.out _)))
          refine wpQuiet_nil ?_
          intro U hU
          have KU := Rd.below_of_regrown hU
          clear hU
          go_wp2
          go_meet
          exact ⟨rfl, KU⟩
        · cases yes
          · by_cases he : [x0, x1, x2] = [(n : Int), 0, 0]
            · have d0 : eqL [x0, x1, x2] [(n : Int), 0, 0] = true := decide_eq_true he
              have hgd : gd = false := by rw [← EG.out]; unfold setB; rw [ev, decide_eq_true he]; rfl
              subst hgd
              clear EG ev he
              refine wp_region_quiet_below (by kernel_rfl) (by kernel_rfl) ?_
              iterate 14 go_big_quiet_step ((exact Calls.regrown_of (CV.out _)))
              refine wpQuiet_nil ?_
              intro U hU
              have KU := Rd.below_of_regrown hU
              clear hU
              go_wp2
              go_meet
              exact ⟨rfl, KU⟩
            · have d0 : eqL [x0, x1, x2] [(n : Int), 0, 0] = false := decide_eq_false he
              have hgd : gd = true := by rw [← EG.out]; unfold setB; rw [ev, decide_eq_false he]; rfl
              subst hgd
              clear EG ev he
              refine wp_region_quiet_below (by kernel_rfl) (by kernel_rfl) ?_
              iterate 14 go_big_quiet_step ((exact Calls.regrown_of (CV.out _)))
              refine wpQuiet_nil ?_
              intro U hU
              have KU := Rd.below_of_regrown hU
              clear hU
              go_wp2
              go_meet
              exact ⟨rfl, KU⟩
          · have hgd : gd = true := by rw [← EG.out]; unfold setB; rw [ev]; simp
            subst hgd
            clear EG ev
            refine wp_region_quiet_below (by kernel_rfl) (by kernel_rfl) ?_
            iterate 14 go_big_quiet_step ((exact Calls.regrown_of (CV.out _)))
            refine wpQuiet_nil ?_
            intro U hU
            have KU := Rd.below_of_regrown hU
            clear hU
            go_wp2
            go_meet
            exact ⟨rfl, KU⟩
      case rest =>
      obtain ⟨rfl, hb8⟩ := hcut
      obtain ⟨w8, e8⟩ : ∃ z : World, z = wc := ⟨_, rfl⟩
      subst e8
      have bX8 := (blk_below hb8 _ (blk_lt bX)).trans bX
      have HM8 := Lib.hid (HM7.out.bel hb8)
      clear hb8 HM7 bX
      have hset := set_any t g n bs x0 x1 x2 yes w8 HM8.out.tab
      rw [EG.out] at hset
      obtain ⟨r, hr⟩ : ∃ r : Int, (if gd = true then (0 : Int) else 1) = r := ⟨_, rfl⟩
      obtain ⟨bs', hbs⟩ : ∃ b, (if gd = true then bs.set (keyV n x0 x1 x2).toNat yes else bs) = b := ⟨_, rfl⟩
      rw [hr, hbs] at hset
      have hrg : (r == 0) = gd := by rw [← hr]; cases gd <;> rfl
      have HS := Lib.hid hset
      have HBS := Lib.hid hbs
      have x80 : w8.cell? ⟨pg, 0, none⟩ = some (.int .i64 x0) := by rw [blk_cell bX8]; rfl
      have x81 : w8.cell? ⟨pg, 1, none⟩ = some (.int .i64 x1) := by rw [blk_cell bX8]; rfl
      have x82 : w8.cell? ⟨pg, 2, none⟩ = some (.int .i64 x2) := by rw [blk_cell bX8]; rfl
      clear hset hr hbs
      go_wp2_with fail
      refine HS.out.mono ?_
      rintro e w9 ⟨rfl, hT9, hg9⟩
      have HM9 := Lib.hid (HM8.out.turn hg9 hT9 (by omega) hgB (by omega))
      have bX9 := blk_turn bX8 hg9 (show pg ≠ g by omega)
      clear hT9 hg9 HM8 HS bX8 x80 x81 x82
      go_upto_if 109 with (fail)
      clear hrg
      go_cut [10] from 110 to 134 (fun v X => Hid (Mem w X t g n ga o w.heap.size B q0 q1 q2 v bs' (afterL gd R [x0, x1, x2] yes)))
      case first =>
        cases gd
        · go_wp2
          go_meet
          rw [after_false, ← HML.out]
          exact HM9
        · have hsz9 := HM9.out.size
          have hRM : M ≤ 61 := by have := HG.out.2.2; rw [HML.out] at this; omega
          go_wp2_with fail
          go_loopw [15, 16] (fun v i X => ∃ j : Nat, j ≤ M ∧ i = .int .i64 j ∧ Hid (X.ownsRow w9.heap.size 24 3 v (restL (R.take j) [x0, x1, x2]).length (fl (restL (R.take j) [x0, x1, x2]))) ∧ Below w9.heap.size w9 X) (fun _ i _ => M - (intOf i).toNat)
          case atStart => exact ⟨0, by omega, rfl, Lib.hid (World.ownsRow_nil _ _ _ _), Below.refl _ _⟩
          case round =>
            obtain ⟨j, hj, rfl, HO, hb⟩ := hrel
            rename World => X
            obtain ⟨oa, oc, ev, -, -⟩ := owns_val HO.out
            subst ev
            have bXX := (blk_below hb _ (blk_lt bX9)).trans bX9
            by_cases hjM : j < M
            · have hjM' : (j : Int) < M := by omega
              have hjR : j < R.length := by rw [HML.out]; exact hjM
              obtain ⟨r0, r1, r2, eR⟩ := len3 (HM9.out.three (at_ R j) (by rw [at_eq hjR]; exact List.getElem_mem _))
              obtain ⟨gb, go_, egb, hb0, hc⟩ : ∃ b o, va = some ⟨b, o, none⟩ ∧ b < w9.heap.size ∧ ∀ i, i < R.length → ∀ j, j < 3 → w9.cell? ⟨b, o + i * 3 + j, none⟩ = some (.int .i64 (PgM.g (at_ R i) j)) := by
                rcases HM9.out.row.2 with h | h
                · rw [h] at hjR; simp at hjR
                · exact h
              subst egb
              have CX := fun i hi => (hb.cell (p := ⟨gb, go_ + j * 3 + i, none⟩) hb0).trans (hc j hjR i hi)
              rw [eR] at CX
              have cx0 : X.cell? ⟨gb, go_ + j * 3, none⟩ = some (.int .i64 r0) := CX 0 (by omega)
              have cx1 : X.cell? ⟨gb, go_ + j * 3 + 1, none⟩ = some (.int .i64 r1) := CX 1 (by omega)
              have cx2 : X.cell? ⟨gb, go_ + j * 3 + 2, none⟩ = some (.int .i64 r2) := CX 2 (by omega)
              have cy0 : X.cell? ⟨pg, 0, none⟩ = some (.int .i64 x0) := by rw [blk_cell bXX]; rfl
              have cy1 : X.cell? ⟨pg, 1, none⟩ = some (.int .i64 x1) := by rw [blk_cell bXX]; rfl
              have cy2 : X.cell? ⟨pg, 2, none⟩ = some (.int .i64 x2) := by rw [blk_cell bXX]; rfl
              have HST := Lib.hid (rest_step (G := [x0, x1, x2]) hjR)
              have hlb : gb < X.heap.size := Nat.lt_of_lt_of_le hb0 hb.size
              rw [eR] at HST
              have hlr : (restL (R.take j) [x0, x1, x2]).length ≤ 61 := by
                have h1 := rest_len (R.take j) [x0, x1, x2]
                have h2 : (R.take j).length ≤ j := List.length_take_le _ _
                omega
              obtain ⟨lr, elr⟩ : ∃ l, (restL (R.take j) [x0, x1, x2]).length = l := ⟨_, rfl⟩
              rw [elr] at hlr HO ⊢
              have ELR := Lib.hid elr
              clear hc CX eR bXX hjR elr hb0
              by_cases he : [r0, r1, r2] = [x0, x1, x2]
              · have d0 : eqL [r0, r1, r2] [x0, x1, x2] = true := decide_eq_true he
                rw [d0, if_pos rfl, List.append_nil] at HST
                clear he
                go_wp2_with fail
                refine wp_region_quiet_lit (by kernel_rfl) (by kernel_rfl) ?_
                iterate 6 go_big_quiet_step (fail)
                refine wpQuiet_nil ?_
                intro X1 hU
                have KU : Below X.heap.size X X1 := by
                  obtain ⟨nq, hU'⟩ := hU
                  subst hU'
                  exact Rd.below_drewN (Below.refl _ _) nq
                have HO1 := Lib.hid (owns_below HO.out KU)
                have LX1 : Below w9.heap.size w9 X1 := hb.trans (KU.mono hb.size)
                clear hU KU HO hb cx0 cx1 cx2 cy0 cy1 cy2 hlb
                go_wp2
                exact ⟨⟨j + 1, by omega, by go_num, Lib.hid (by rw [HST.out, ELR.out]; exact HO1.out), LX1⟩, by simp [intOf]; omega⟩
              · have d0 : eqL [r0, r1, r2] [x0, x1, x2] = false := decide_eq_false he
                rw [d0, if_neg (by decide)] at HST
                clear he
                go_wp2_with fail
                refine wp_region_quiet_lit (by kernel_rfl) (by kernel_rfl) ?_
                iterate 6 go_big_quiet_step (fail)
                refine wpQuiet_nil ?_
                intro X1 hU
                have KU : Below X.heap.size X X1 := by
                  obtain ⟨nq, hU'⟩ := hU
                  subst hU'
                  exact Rd.below_drewN (Below.refl _ _) nq
                have HO1 := Lib.hid (owns_below HO.out KU)
                have LX1 : Below w9.heap.size w9 X1 := hb.trans (KU.mono hb.size)
                have e0 := (KU.cell (p := ⟨gb, go_ + j * 3, none⟩) hlb).trans cx0
                have e1 := (KU.cell (p := ⟨gb, go_ + j * 3 + 1, none⟩) hlb).trans cx1
                have e2 := (KU.cell (p := ⟨gb, go_ + j * 3 + 2, none⟩) hlb).trans cx2
                clear hU KU HO hb cx0 cx1 cx2 cy0 cy1 cy2 hlb
                have hsX := LX1.size
                go_wp2_with (at_builtin; refine app_pg rfl (.tmp 122) (.tmp 127) rfl w9.heap.size _ _ _ rfl (HO1.out.alloc _) X1.heap.size 1 [r0, r1, r2] rfl rfl (blk_alloc_at _ _ _ rfl) (by omega) (by simp; omega) ?_; intro v4 w4 ho4 hg4)
                have L4 : Below w9.heap.size w9 w4 := (LX1.alloc (by omega) _).grown hg4 (by simp; omega) (fun j hj => (HO1.out.lt j hj).1)
                exact ⟨⟨j + 1, by omega, by go_num, Lib.hid (by rw [HST.out, List.length_append, ELR.out]; exact ho4), L4⟩, by simp [intOf]; omega⟩
            · obtain rfl : j = M := by omega
              have ETR : Hid (R.take j = R) := Lib.hid (by rw [← HML.out, List.take_length])
              rw [ETR.out] at HO ⊢
              have HMX := Lib.hid (HM9.out.bel hb)
              have h3 := rest_three (G := [x0, x1, x2]) HM9.out.three
              have hlr : (restL R [x0, x1, x2]).length ≤ 61 := by
                have h1 := rest_len R [x0, x1, x2]
                rw [HML.out] at h1
                omega
              have HLR := Lib.hid hlr
              have hsX := hb.size
              have H3 := Lib.hid h3
              clear hlr h3
              cases yes
              · go_wp2
                go_meet
                rw [after_true]
                exact Lib.hid (HMX.out.put (next_three HM9.out.three rfl) (by unfold nextL; rw [if_neg (by decide), List.append_nil]; exact HO.out) hsz9)
              · have cy0 : X.cell? ⟨pg, 0, none⟩ = some (.int .i64 x0) := by rw [blk_cell bXX]; rfl
                have cy1 : X.cell? ⟨pg, 1, none⟩ = some (.int .i64 x1) := by rw [blk_cell bXX]; rfl
                have cy2 : X.cell? ⟨pg, 2, none⟩ = some (.int .i64 x2) := by rw [blk_cell bXX]; rfl
                obtain ⟨lr, elr⟩ : ∃ l, (restL R [x0, x1, x2]).length = l := ⟨_, rfl⟩
                have hlr := HLR.out
                rw [elr] at HO hlr ⊢
                have ELR := Lib.hid elr
                clear elr bXX
                go_wp2_with (at_builtin; refine app_pg rfl (.tmp 131) (.tmp 133) rfl w9.heap.size _ _ _ rfl (HO.out.alloc _) X.heap.size 1 [x0, x1, x2] rfl rfl (blk_alloc_at _ _ _ rfl) (by omega) (by simp; omega) ?_; intro v4 w4 ho4 hg4)
                have L4 : Below w9.heap.size w9 w4 := (hb.alloc (by omega) _).grown hg4 (by simp; omega) (fun j hj => (HO.out.lt j hj).1)
                go_meet
                rw [after_true]
                exact Lib.hid ((HM9.out.bel L4).put (next_three HM9.out.three rfl) (by unfold nextL; rw [if_pos rfl, List.length_append, ELR.out]; exact ho4) hsz9)
      case rest =>
      obtain ⟨w10, e10⟩ : ∃ z : World, z = wc := ⟨_, rfl⟩
      subst e10
      have HGN : Hid (Good n (k + 1) bs' (afterL gd R [x0, x1, x2] yes)) := by
        rw [← HBS.out]
        cases gd
        · exact Lib.hid ⟨HG.out.1, HG.out.2.1, by have := HG.out.2.2; rw [after_false]; omega⟩
        · have hv : validB n x0 x1 x2 = true := by
            have := EG.out
            unfold setB at this
            rw [Bool.and_eq_true] at this
            exact this.1
          rw [if_pos rfl, after_true]
          refine Lib.hid ⟨rel_next HG.out.1 hn HBSL.out hv, root_next HG.out.2.1 hn EG.out, ?_⟩
          · have := next_len R [x0, x1, x2] yes
            have := HG.out.2.2
            omega
      obtain ⟨R', eR'⟩ : ∃ r, afterL gd R [x0, x1, x2] yes = r := ⟨_, rfl⟩
      rw [eR'] at hcut HGN
      clear eR' HG HM9 HBS EG bX9 HML HBSL HPG hpB
      obtain ⟨va', vc', ev, -, -⟩ := owns_val hcut.out.own
      subst ev
      have HM10 := hcut
      clear hcut
      have hR60 : R'.length ≤ 1000000 := by have := HGN.out.2.2; omega
      have HR60 := Lib.hid hR60
      obtain ⟨M', hM'⟩ : ∃ M, R'.length = M := ⟨_, rfl⟩
      have HML' := Lib.hid hM'
      rw [hM']
      clear hM' hR60
      go_wp2_with fail
      go_loopw [17] (fun i X => ∃ j : Nat, j ≤ N ∧ i = .int .i64 j ∧ Below w10.heap.size w10 X) (fun i _ => N - (intOf i).toNat)
      case atStart => exact ⟨0, by omega, rfl, Below.refl _ _⟩
      case round =>
        obtain ⟨j, hj, rfl, hb⟩ := hrel
        rename World => X
        have HMX := Lib.hid (HM10.out.bel hb)
        by_cases hjN : j < N
        · have hjN' : (j : Int) < N := by omega
          obtain ⟨y0, y1, y2, eY, kY⟩ := page_key hn (show j < (allV (n : Int)).length by rw [HN.out]; exact hjN)
          obtain ⟨c0, c1, c2⟩ := HMX.out.pgs.three (by rw [HN.out]; exact hjN) eY
          have vY := key_valid kY
          obtain ⟨-, ⟨hL0, hL1⟩, -, -⟩ := valid_yes vY
          obtain ⟨m, hm⟩ : ∃ m : Nat, y0 = m := ⟨y0.toNat, by omega⟩
          subst hm
          have hmn : m ≤ n := by omega
          obtain ⟨s, hs1', hs2, hlk, hth, hno⟩ := look_fact hn hmn vY HGN.out.2.1
          obtain ⟨tb, etb⟩ : ∃ b, thereV n bs' m y1 y2 = b := ⟨_, rfl⟩
          have hin := HGN.out.1 m y1 y2 vY
          rw [etb] at hin
          have hyes : s < n → upV n m y1 y2 s ∈ R' := fun _ => by
            have := rel_up HGN.out.1 hn vY hs1' hs2
            rw [hth] at this
            exact of_decide_eq_true this.symm
          have hnot : ∀ k : Nat, m ≤ k → k < s → upV n m y1 y2 k ∉ R' := fun k h1 h2 => by
            have := rel_up HGN.out.1 hn vY h1 (by omega : k ≤ n)
            rw [hno k h1 h2] at this
            exact of_decide_eq_false this.symm
          obtain ⟨b0, b1, b2, eB⟩ := len3 (upV_len n m y1 y2 s)
          rw [eB] at hlk
          have CL : Hid (∀ Z, Tab Z t g n bs' → Calls Try.prog 12 #[.pointer (some ⟨t, 0, none⟩), .agg #[.int .i64 m, .int .i64 y1, .int .i64 y2]] Z fun e w' => e = .returned (.tuple #[.agg #[.int .i64 b0, .int .i64 b1, .int .i64 b2], .bool true]) ∧ Below Z.heap.size Z w') := Lib.hid fun Z h => by
            have := look_any t g n bs' m y1 y2 Z h
            rw [hlk] at this
            exact this
          have CRL : Hid (∀ Z, PgAt Z va' R' → Calls Try.prog 13 #[.int .i64 n, .slice va' M' vc', .agg #[.int .i64 m, .int .i64 y1, .int .i64 y2]] Z fun e w' => e = .returned (.tuple #[.agg #[.int .i64 b0, .int .i64 b1, .int .i64 b2], .bool true]) ∧ Below Z.heap.size Z w') := Lib.hid fun Z h => by
            have := rlook_any n m s R' va' vc' y1 y2 Z hn vY hs1' hs2 hyes hnot h HR60.out
            rw [eB, HML'.out] at this
            exact this
          have CT : Hid (∀ Z, Tab Z t g n bs' → Calls Try.prog 14 #[.pointer (some ⟨t, 0, none⟩), .agg #[.int .i64 m, .int .i64 y1, .int .i64 y2]] Z fun e w' => e = .returned (.bool tb) ∧ Below Z.heap.size Z w') := Lib.hid fun Z h => by
            have := there_any t g n bs' m y1 y2 Z h
            rw [etb] at this
            exact this
          have CH : Hid (∀ Z, PgAt Z va' R' → Calls Try.prog 15 #[.slice va' M' vc', .agg #[.int .i64 m, .int .i64 y1, .int .i64 y2]] Z fun e w' => e = .returned (.bool tb) ∧ Below Z.heap.size Z w') := Lib.hid fun Z h => by
            have := rhas_any R' va' vc' m y1 y2 Z h HR60.out
            rw [← hin, HML'.out] at this
            exact this
          have HRow : Hid (PgAt X va' R') := Lib.hid HMX.out.row
          have EY := Lib.hid eY
          clear eY kY vY hlk hth hno hyes hnot hin eB etb hL0 hL1
          go_wp2_with fail
          refine (CL.out _ HMX.out.tab).mono ?_
          rintro e x1 ⟨rfl, hb1⟩
          have HT1 := Lib.hid (HMX.out.tab.bel hb1)
          have HP1 := Lib.hid (HMX.out.pgs.below hb1)
          have HR1 := Lib.hid (PgAt.below (B := 0) HRow.out hb1)
          have T1 : Below w10.heap.size w10 x1 := hb.trans (hb1.mono hb.size)
          clear hb1 c0 c1 c2 HMX HRow hb CL
          go_upto_region 34 with (fail)
          refine Rd.name_world ?_
          intro x2 hw
          have b18 : blk x2 x1.heap.size = some (.cells #[.int .i64 b0, .int .i64 b1, .int .i64 b2] 24 (0, 0)) := by rw [hw]; exact blk_alloc_at _ _ _ rfl
          have hb2 : Below x1.heap.size x1 x2 := by
            rw [hw]
            repeat' (first | (with_reducible exact Below.refl _ _) | (with_reducible refine Rd.below_step ?_ (by assumption)) | (with_reducible refine Rd.below_alloc ?_ _) | (with_reducible refine Rd.below_drewN ?_ _) | (with_reducible refine Below.drew ?_) | (with_reducible refine Below.setCell ?_ ?_ _) | (with_reducible refine Rd.below_setRow ?_ ?_ _) | go_size | (simp only [World.size_alloc]; omega) | omega)
          have HT2 := Lib.hid (HT1.out.bel hb2)
          have HP2 := Lib.hid (HP1.out.below hb2)
          have HR2 := Lib.hid (PgAt.below (B := 0) HR1.out hb2)
          have T2 : Below w10.heap.size w10 x2 := T1.trans (hb2.mono T1.size)
          obtain ⟨p18, hp⟩ : ∃ p, x1.heap.size = p := ⟨_, rfl⟩
          rw [hp] at b18 ⊢
          clear hw hp hb2 HT1 HP1 HR1 T1
          obtain ⟨c0, c1, c2⟩ := HP2.out.three (by rw [HN.out]; exact hjN) EY.out
          go_wp2_with fail
          refine (CRL.out _ HR2.out).mono ?_
          rintro e x3 ⟨rfl, hb3⟩
          replace b18 := (blk_below hb3 _ (blk_lt b18)).trans b18
          have HT3 := Lib.hid (HT2.out.bel hb3)
          have HP3 := Lib.hid (HP2.out.below hb3)
          have HR3 := Lib.hid (PgAt.below (B := 0) HR2.out hb3)
          have T3 : Below w10.heap.size w10 x3 := T2.trans (hb3.mono T2.size)
          clear hb3 c0 c1 c2 HT2 HP2 HR2 T2 CRL
          go_upto_region 35 with (fail)
          refine Rd.name_world ?_
          intro x4 hw
          have b20 : blk x4 x3.heap.size = some (.cells #[.int .i64 b0, .int .i64 b1, .int .i64 b2] 24 (0, 0)) := by rw [hw]; exact blk_alloc_at _ _ _ rfl
          have hb4 : Below x3.heap.size x3 x4 := by
            rw [hw]
            repeat' (first | (with_reducible exact Below.refl _ _) | (with_reducible refine Rd.below_step ?_ (by assumption)) | (with_reducible refine Rd.below_alloc ?_ _) | (with_reducible refine Rd.below_drewN ?_ _) | (with_reducible refine Below.drew ?_) | (with_reducible refine Below.setCell ?_ ?_ _) | (with_reducible refine Rd.below_setRow ?_ ?_ _) | go_size | (simp only [World.size_alloc]; omega) | omega)
          replace b18 := (blk_below hb4 _ (blk_lt b18)).trans b18
          have HT4 := Lib.hid (HT3.out.bel hb4)
          have HP4 := Lib.hid (HP3.out.below hb4)
          have HR4 := Lib.hid (PgAt.below (B := 0) HR3.out hb4)
          have T4 : Below w10.heap.size w10 x4 := T3.trans (hb4.mono T3.size)
          obtain ⟨p20, hp⟩ : ∃ p, x3.heap.size = p := ⟨_, rfl⟩
          rw [hp] at b20 ⊢
          clear hw hp hb4 HT3 HP3 HR3 T3
          obtain ⟨c0, c1, c2⟩ := HP4.out.three (by rw [HN.out]; exact hjN) EY.out
          have g0 := Go.cell_regrown c0
          have g1 := Go.cell_regrown c1
          have g2 := Go.cell_regrown c2
          have s0 := Go.cell_regrown (w := x4) (a := ⟨p18, 0, none⟩) (v := .int .i64 b0) (by rw [blk_cell b18]; rfl)
          have s1 := Go.cell_regrown (w := x4) (a := ⟨p18, 1, none⟩) (v := .int .i64 b1) (by rw [blk_cell b18]; rfl)
          have s2 := Go.cell_regrown (w := x4) (a := ⟨p18, 2, none⟩) (v := .int .i64 b2) (by rw [blk_cell b18]; rfl)
          have t0 := Go.cell_regrown (w := x4) (a := ⟨p20, 0, none⟩) (v := .int .i64 b0) (by rw [blk_cell b20]; rfl)
          have t1 := Go.cell_regrown (w := x4) (a := ⟨p20, 1, none⟩) (v := .int .i64 b1) (by rw [blk_cell b20]; rfl)
          have t2 := Go.cell_regrown (w := x4) (a := ⟨p20, 2, none⟩) (v := .int .i64 b2) (by rw [blk_cell b20]; rfl)
          clear c0 c1 c2 b18 b20 HP4
          refine wp_region_quiet_below (by kernel_rfl) (by kernel_rfl) ?_
          iterate 22 go_big_quiet_step ((first | (with_reducible exact Calls.regrown_of (CT.out _ (HT4.out.bel (below_regrown _ _ _)))) | (with_reducible exact Calls.regrown_of (CH.out _ (PgAt.below (B := 0) HR4.out (below_regrown _ _ _))))))
          refine wpQuiet_nil ?_
          intro U hU
          have KU := Rd.below_of_regrown hU
          have T5 : Below w10.heap.size w10 U := T4.trans (KU.mono T4.size)
          clear hU KU g0 g1 g2 s0 s1 s2 t0 t1 t2 HT4 HR4 T4 CT CH
          go_wp2
          exact ⟨⟨j + 1, by omega, by go_num, T5⟩, by simp [intOf]; omega⟩
        · obtain rfl : j = N := by omega
          have HMV : Hid (Mem w X t g n ga o w.heap.size B q0 q1 q2 (.slice va' M' vc') bs' R') := by rw [← HML'.out]; exact HMX
          go_wp2
          go_roundw
          case rel => exact ⟨k + 1, bs', R', by omega, by go_num, HMV, HGN⟩
          case measure => simp [intOf]; omega
    · obtain rfl : k = len := by omega
      have bOX := HM.out.odd
      have o0 : Y0.cell? ⟨w.heap.size, 0, none⟩ = some (.int .i64 q0) := by rw [blk_cell bOX]; rfl
      have o1 : Y0.cell? ⟨w.heap.size, 1, none⟩ = some (.int .i64 q1) := by rw [blk_cell bOX]; rfl
      have o2 : Y0.cell? ⟨w.heap.size, 2, none⟩ = some (.int .i64 q2) := by rw [blk_cell bOX]; rfl
      have LY := HM.out.below
      obtain ⟨l0, l1, l2, eL⟩ := len3 (look_three n bs q0 q1 q2)
      obtain ⟨vq, evq⟩ : ∃ b, validB n q0 q1 q2 = b := ⟨_, rfl⟩
      have hlo := look_ok (L := q0) (X := q1) (Y := q2) hn HG.out.2.1
      have CL : Hid (∀ Z, Tab Z t g n bs → Calls Try.prog 12 #[.pointer (some ⟨t, 0, none⟩), .agg #[.int .i64 q0, .int .i64 q1, .int .i64 q2]] Z fun e w' => e = .returned (.tuple #[.agg #[.int .i64 l0, .int .i64 l1, .int .i64 l2], .bool vq]) ∧ Below Z.heap.size Z w') := Lib.hid fun Z h => by
        have := look_any t g n bs q0 q1 q2 Z h
        rw [hlo, eL, evq] at this
        exact this
      have CV : Hid (∀ X : World, Calls Try.prog 10 #[.int .i64 n, .agg #[.int .i64 q0, .int .i64 q1, .int .i64 q2]] X fun e w' => e = .returned (.bool vq) ∧ Below X.heap.size X w') := Lib.hid fun X => by
        have := rvalid_any n q0 q1 q2 X
        rw [evq] at this
        exact this
      clear eL evq hlo
      go_wp2_with fail
      refine (CL.out _ HM.out.tab).mono ?_
      rintro e x1 ⟨rfl, hb1⟩
      replace bOX := (blk_below hb1 _ (blk_lt bOX)).trans bOX
      have L1 : Below w.heap.size w x1 := LY.trans (hb1.mono LY.size)
      clear hb1 o0 o1 o2 LY CL HM
      go_upto_region 38 with (fail)
      refine Rd.name_world ?_
      intro x2 hw
      have hb2 : Below x1.heap.size x1 x2 := by
        rw [hw]
        repeat' (first | (with_reducible exact Below.refl _ _) | (with_reducible refine Rd.below_step ?_ (by assumption)) | (with_reducible refine Rd.below_alloc ?_ _) | (with_reducible refine Rd.below_drewN ?_ _) | (with_reducible refine Below.drew ?_) | (with_reducible refine Below.setCell ?_ ?_ _) | (with_reducible refine Rd.below_setRow ?_ ?_ _) | go_size | (simp only [World.size_alloc]; omega) | omega)
      replace bOX := (blk_below hb2 _ (blk_lt bOX)).trans bOX
      have L2 : Below w.heap.size w x2 := L1.trans (hb2.mono L1.size)
      obtain ⟨p22, hp⟩ : ∃ p, x1.heap.size = p := ⟨_, rfl⟩
      rw [hp]
      clear hw hp hb2 L1
      have o0 : x2.cell? ⟨w.heap.size, 0, none⟩ = some (.int .i64 q0) := by rw [blk_cell bOX]; rfl
      have o1 : x2.cell? ⟨w.heap.size, 1, none⟩ = some (.int .i64 q1) := by rw [blk_cell bOX]; rfl
      have o2 : x2.cell? ⟨w.heap.size, 2, none⟩ = some (.int .i64 q2) := by rw [blk_cell bOX]; rfl
      go_wp2_with fail
      refine (CV.out _).mono ?_
      rintro e x3 ⟨rfl, hb3⟩
      have L3 : Below w.heap.size w x3 := L2.trans (hb3.mono L2.size)
      clear hb3 o0 o1 o2 L2
      have hvq : (vq == vq) = true := by simp
      go_wp2_with fail
      refine (awake_any _).mono ?_
      rintro e x4 ⟨rfl, hb4⟩
      have L4 : Below w.heap.size w x4 := L3.trans (hb4.mono L3.size)
      clear hb4
      go_wp2
      go_ret
      exact ⟨rfl, L4⟩
end Go.Proofs.Ytikoajlncdcbcaa.TbJ

/-
  The walk of TableComes (under way).
-/
import Derived.Test.YtikoajlncdcbcaaTbG
namespace Go.Proofs.Ytikoajlncdcbcaa.TbH
open Go.RowKit Rd Go.Proofs.Ytikoajlncdcbcaa.Row Mid PgM PgA PgB PgC TbA TbB TbC TbD TbE TbF TbG
open Go.Proofs.Ytikoajlncdcbcaa.Pred (Is is_stab Stab)
set_option linter.unusedVariables false
set_option linter.unusedSimpArgs false
set_option maxRecDepth 10000
/-- where a slice's pages lie -/
structure Rws (X : World) (ga o : Nat) (row : PgM.Row) : Prop where
  lt : ga < X.heap.size
  c : ∀ i, i < row.length → ∀ j, j < 3 → X.cell? ⟨ga, o + i * 3 + j, none⟩ = some (.int .i64 (PgM.g (at_ row i) j))
theorem Rws.below {X Y : World} {ga o : Nat} {row : PgM.Row} (h : Rws X ga o row) (hb : Below X.heap.size X Y) : Rws Y ga o row :=
  ⟨Nat.lt_of_lt_of_le h.lt hb.size, fun i hi j hj => (hb.cell (p := ⟨ga, o + i * 3 + j, none⟩) h.lt).trans (h.c i hi j hj)⟩
theorem Rws.turn {X Y : World} {ga o g : Nat} {row : PgM.Row} (h : Rws X ga o row) (hg : X.grownBy Y (some g)) (hne : ga ≠ g) : Rws Y ga o row :=
  ⟨Nat.lt_of_lt_of_le h.lt hg.size, fun i hi j hj => (cell_blk (hg.block ga h.lt (fun e => hne (by injection e)))).trans (h.c i hi j hj)⟩
theorem Rws.three {X : World} {ga o i : Nat} {row : PgM.Row} {x0 x1 x2 : Int} (h : Rws X ga o row) (hi : i < row.length) (e : at_ row i = [x0, x1, x2]) :
    X.cell? ⟨ga, o + i * 3, none⟩ = some (.int .i64 x0) ∧ X.cell? ⟨ga, o + i * 3 + 1, none⟩ = some (.int .i64 x1) ∧ X.cell? ⟨ga, o + i * 3 + 2, none⟩ = some (.int .i64 x2) := by
  have hx := h.c i hi
  rw [e] at hx
  exact ⟨hx 0 (by omega), hx 1 (by omega), hx 2 (by omega)⟩
/-- what was found of the first so many -/
def wasL (n : Nat) (bs : List Bool) (k : Nat) : PgM.Row := (List.range k).map fun j => (lookV n bs (PgM.g (at_ (allV n) j) 0) (PgM.g (at_ (allV n) j) 1) (PgM.g (at_ (allV n) j) 2)).1
theorem was_step (n : Nat) (bs : List Bool) (k : Nat) : wasL n bs (k + 1) = wasL n bs k ++ [(lookV n bs (PgM.g (at_ (allV n) k) 0) (PgM.g (at_ (allV n) k) 1) (PgM.g (at_ (allV n) k) 2)).1] := by simp [wasL, List.range_succ]
theorem was_len (n : Nat) (bs : List Bool) (k : Nat) : (wasL n bs k).length = k := by simp [wasL]
def CX3 (w : World) (b o i : Nat) (x0 x1 x2 : Int) : Prop := w.cell? ⟨b, o + i * 3, none⟩ = some (.int .i64 x0) ∧ w.cell? ⟨b, o + i * 3 + 1, none⟩ = some (.int .i64 x1) ∧ w.cell? ⟨b, o + i * 3 + 2, none⟩ = some (.int .i64 x2)
theorem cx_below {B : Nat} {w w' : World} {b o i : Nat} {x0 x1 x2 : Int} (hE : Below B w w') (hb : b < B) (h : CX3 w b o i x0 x1 x2) : CX3 w' b o i x0 x1 x2 :=
  ⟨(hE.cell (p := ⟨b, o + i * 3, none⟩) hb).trans h.1, (hE.cell (p := ⟨b, o + i * 3 + 1, none⟩) hb).trans h.2.1, (hE.cell (p := ⟨b, o + i * 3 + 2, none⟩) hb).trans h.2.2⟩
attribute [local go_sem ↓] store_pg eq_pg3
attribute [local go_sem] one_int pc3 run_store_pg rowStore_eq blk_alloc_at blk_alloc_old blk_drew blk_drewN blk_set_far blk_set_far' blk_grow setRow_alloc_at setRow_alloc_old setRow_drew setRow_drewN
set_option maxHeartbeats 8000000 in
theorem comes_gen (d : Int) (ai : Option Addr) (len cap : Nat) (zs : List Int) (key : Int) (w : World) (hd1 : -9223372036854775808 ≤ d) (hd2 : d ≤ 9223372036854775807) (hk1 : -9223372036854775808 ≤ key) (hk2 : key ≤ 9223372036854775807)
    (hz : ∀ z ∈ zs, Ints.In64 z) (hzl : zs.length = len) (hR : Reads w 1 ai len (Ints.i64s zs)) :
    Calls Try.prog 5 #[.int .i64 d, .slice ai len cap, .int .i64 key] w fun e w' => e = .returned (.bool true) ∧ Below w.heap.size w w' := by
  have HR := Lib.hid hR
  have HZ := Lib.hid hz
  have HZL := Lib.hid hzl
  clear hR hz hzl
  go_enter Try.func5, Try.ntmps5
  go_wp2_with fail
  refine (Alk.round_any d 4 _ hd1 hd2 (by omega) (by omega)).mono ?_
  rintro e w1 ⟨rfl, rfl⟩
  obtain ⟨n, en⟩ : ∃ n : Nat, d % 4 = n := ⟨(d % 4).toNat, by omega⟩
  have hn : n ≤ 3 := by omega
  rw [en]
  clear en
  by_cases hlen : (60 : Int) < len
  · go_wp2_with fail
    refine (awake_any _).mono ?_
    rintro e w2 ⟨rfl, hb2⟩
    go_wp2
    go_ret
    exact ⟨rfl, hb2⟩
  have hl60 : len ≤ 60 := by omega
  go_wp2_with fail
  refine (new_any n hn _).mono ?_
  rintro e w2 ⟨⟨t, g, rfl, ht, hg, hT⟩, hb2⟩
  have L2 : Below w.heap.size w w2 := hb2
  clear hb2
  go_wp2_with fail
  refine (rpages_any n _).mono ?_
  rintro e w3 ⟨⟨ad, cp, rfl, -, -, hP⟩, hb3⟩
  have hT3 := hT.bel hb3
  have L3 : Below w.heap.size w w3 := by repeat' (first | (with_reducible exact Below.refl _ _) | (with_reducible refine Rd.below_step ?_ (by assumption)) | (with_reducible refine Rd.below_alloc ?_ _) | (with_reducible refine Rd.below_drewN ?_ _) | (with_reducible refine Below.drew ?_) | (with_reducible refine Below.setCell ?_ ?_ _) | (with_reducible refine Rd.below_setRow ?_ ?_ _) | go_size | (simp only [World.size_alloc]; omega) | omega)
  have hpos := hT3.pos
  have hsm := hT3.small
  have hl := hT3.len
  obtain ⟨N, hN⟩ : ∃ N, (allV (n : Int)).length = N := ⟨_, rfl⟩
  rw [hN] at hl ⊢
  rw [hl] at hpos hsm
  have HN := Lib.hid hN
  obtain ⟨ga, o, ea, hb0, hc⟩ : ∃ ga o, ad = some ⟨ga, o, none⟩ ∧ ga < w3.heap.size ∧ ∀ i, i < (allV (n : Int)).length → ∀ j, j < 3 → w3.cell? ⟨ga, o + i * 3 + j, none⟩ = some (.int .i64 (PgM.g (at_ (allV (n : Int)) i) j)) := by
    rcases hP.2 with h | h
    · rw [h] at hN; simp at hN; omega
    · exact h
  subst ea
  have HP3 : Hid (Pgs w3 ga o n) := ⟨hb0, hc⟩
  have HT3 : Hid (∃ bs, Tab w3 t g n bs ∧ bs.getD 0 false = true) := ⟨_, hT3, start_root n hn⟩
  clear hb3 hP hc hb0 hT hT3 hl hN L2
  go_wp2_with fail
  go_loopw [11] (fun i X => ∃ k : Nat, k ≤ len ∧ i = .int .i64 k ∧ Hid (∃ bs, Tab X t g n bs ∧ bs.getD 0 false = true) ∧ Hid (Pgs X ga o n) ∧ Below w.heap.size w X) (fun i _ => len - (intOf i).toNat)
  case atStart => exact ⟨0, by omega, rfl, HT3, HP3, L3⟩
  case round =>
    obtain ⟨i, hi, rfl, HT, HP, hb⟩ := hrel
    rename World => Y0
    clear HT3 HP3 L3
    obtain ⟨bs, hT, hroot⟩ := HT.out
    by_cases hlt : i < len
    · have hlt' : (i : Int) < len := by omega
      obtain ⟨ab, ao, rfl, hab, hac⟩ := Ints.cell_of HR.out (k := i) (by rw [HZL.out]; exact hlt) (by omega)
      have hcell := (hb.cell (p := ⟨ab, ao + i, none⟩) hab).trans (hac i (by rw [HZL.out]; exact hlt))
      obtain ⟨z, ez⟩ : ∃ z, zs.getD i 0 = z := ⟨_, rfl⟩
      have hzz := Ints.getD_in HZ.out i
      rw [ez] at hcell hzz
      clear ez hac
      go_wp2_with fail
      refine (Alk.round_any z N _ hzz.1 hzz.2 (by omega) (by omega)).mono ?_
      rintro e w4 ⟨rfl, rfl⟩
      obtain ⟨kk, ek⟩ : ∃ k : Nat, z % N = k := ⟨(z % N).toNat, by have := Int.emod_nonneg z (b := (N : Int)) (by omega); omega⟩
      have hkk : kk < N := by have := Int.emod_lt_of_pos z (b := (N : Int)) (by omega); omega
      rw [ek]
      obtain ⟨x0, x1, x2, eX, kX⟩ := page_key hn (show kk < (allV (n : Int)).length by rw [HN.out]; exact hkk)
      obtain ⟨c0, c1, c2⟩ := HP.out.three (by rw [HN.out]; exact hkk) eX
      have hkk' : (kk : Int) < N := by omega
      have vX := key_valid kX
      have hset := set_any t g n bs x0 x1 x2 true Y0 hT
      rw [show setB n x0 x1 x2 true = true by unfold setB; rw [vX]; simp, if_pos rfl, if_pos rfl] at hset
      have HS := Lib.hid hset
      have hne := pgs_ne HP.out hT
      clear ek eX kX vX hset hT HT
      go_wp2_with fail
      refine HS.out.mono ?_
      rintro e w5 ⟨rfl, hT5, hg5⟩
      have HT5 : Hid (∃ bs, Tab w5 t g n bs ∧ bs.getD 0 false = true) := ⟨_, hT5, root_kept hroot _⟩
      have HP5 := Lib.hid (HP.out.turn hg5 hne)
      have L5 : Below w.heap.size w w5 := below_turn hb hg5 hg
      clear hT5 hg5 HP hb HS c0 c1 c2 hcell
      go_wp2
      go_roundw
      case rel => exact ⟨i + 1, by omega, by go_num, HT5, HP5, L5⟩
      case measure => simp [intOf]; omega
    · obtain rfl : i = len := by omega
      have hsz := hT.lt
      go_wp2_with fail
      refine (Alk.round_any key N _ hk1 hk2 (by omega) (by omega)).mono ?_
      rintro e w4 ⟨rfl, rfl⟩
      obtain ⟨kk, ek⟩ : ∃ k : Nat, key % N = k := ⟨(key % N).toNat, by have := Int.emod_nonneg key (b := (N : Int)) (by omega); omega⟩
      have hkk : kk < N := by have := Int.emod_lt_of_pos key (b := (N : Int)) (by omega); omega
      rw [ek]
      obtain ⟨m0, p1, p2, eX, kX⟩ := page_key hn (show kk < (allV (n : Int)).length by rw [HN.out]; exact hkk)
      obtain ⟨c0, c1, c2⟩ := HP.out.three (by rw [HN.out]; exact hkk) eX
      have hkk' : (kk : Int) < N := by omega
      have vX := key_valid kX
      obtain ⟨-, ⟨hL0, hL1⟩, -, -⟩ := valid_yes vX
      obtain ⟨m, hm⟩ : ∃ m : Nat, m0 = m := ⟨m0.toNat, by omega⟩
      subst hm
      have hmn : m ≤ n := by omega
      have KQ : Hid (keyV n m p1 p2 = (kk : Int)) := kX
      have VX := Lib.hid vX
      obtain ⟨had, ehad⟩ : ∃ q, thereV n bs m p1 p2 = q := ⟨_, rfl⟩
      have CT : Hid (∀ X, Tab X t g n bs → Calls Try.prog 14 #[.pointer (some ⟨t, 0, none⟩), .agg #[.int .i64 m, .int .i64 p1, .int .i64 p2]] X fun e w' => e = .returned (.bool had) ∧ Below X.heap.size X w') := fun X h => by
        have := there_any t g n bs m p1 p2 X h
        rw [ehad] at this
        exact this
      have EHAD := Lib.hid ehad
      clear ek eX kX vX HT ehad
      go_upto_region 13 with (fail)
      refine Rd.name_world ?_
      intro w5 hw
      have bP : blk w5 Y0.heap.size = some (.cells #[.int .i64 m, .int .i64 p1, .int .i64 p2] 24 (0, 0)) := by rw [hw]; exact blk_alloc_at _ _ _ rfl
      have hT5 : Tab w5 t g n bs := hT.bel (by rw [hw]; repeat' (first | (with_reducible exact Below.refl _ _) | (with_reducible refine Rd.below_step ?_ (by assumption)) | (with_reducible refine Rd.below_alloc ?_ _) | (with_reducible refine Rd.below_drewN ?_ _) | (with_reducible refine Below.drew ?_) | (with_reducible refine Below.setCell ?_ ?_ _) | (with_reducible refine Rd.below_setRow ?_ ?_ _) | go_size | (simp only [World.size_alloc]; omega) | omega))
      have HP5 : Hid (Pgs w5 ga o n) := Lib.hid (HP.out.below (by rw [hw]; repeat' (first | (with_reducible exact Below.refl _ _) | (with_reducible refine Rd.below_step ?_ (by assumption)) | (with_reducible refine Rd.below_alloc ?_ _) | (with_reducible refine Rd.below_drewN ?_ _) | (with_reducible refine Below.drew ?_) | (with_reducible refine Below.setCell ?_ ?_ _) | (with_reducible refine Rd.below_setRow ?_ ?_ _) | go_size | (simp only [World.size_alloc]; omega) | omega)))
      have L5 : Below w.heap.size w w5 := by
        rw [hw]
        have := hb.size
        repeat' (first | (with_reducible exact Below.refl _ _) | (with_reducible refine Rd.below_step ?_ (by assumption)) | (with_reducible refine Rd.below_alloc ?_ _) | (with_reducible refine Rd.below_drewN ?_ _) | (with_reducible refine Below.drew ?_) | (with_reducible refine Below.setCell ?_ ?_ _) | (with_reducible refine Rd.below_setRow ?_ ?_ _) | go_size | (simp only [World.size_alloc]; omega) | omega)
      have hne : ga ≠ g := pgs_ne HP.out hT
      have hpg : g < Y0.heap.size := hT.lt.2
      obtain ⟨pb, hpb⟩ : ∃ p, Y0.heap.size = p := ⟨_, rfl⟩
      rw [hpb] at bP hpg ⊢
      clear hw hpb hT hb HP c0 c1 c2 hsz
      have k0 : w5.cell? ⟨pb, 0, none⟩ = some (.int .i64 m) := by rw [blk_cell bP]; rfl
      have k1 : w5.cell? ⟨pb, 1, none⟩ = some (.int .i64 p1) := by rw [blk_cell bP]; rfl
      have k2 : w5.cell? ⟨pb, 2, none⟩ = some (.int .i64 p2) := by rw [blk_cell bP]; rfl
      go_wp2_with fail
      refine (CT.out _ hT5).mono ?_
      rintro e w6 ⟨rfl, hb6⟩
      replace bP := (blk_below hb6 _ (blk_lt bP)).trans bP
      have hT6 := hT5.bel hb6
      have HP6 := Lib.hid (HP5.out.below hb6)
      have L6 : Below w.heap.size w w6 := by repeat' (first | (with_reducible exact Below.refl _ _) | (with_reducible refine Rd.below_step ?_ (by assumption)) | (with_reducible refine Rd.below_alloc ?_ _) | (with_reducible refine Rd.below_drewN ?_ _) | (with_reducible refine Below.drew ?_) | (with_reducible refine Below.setCell ?_ ?_ _) | (with_reducible refine Rd.below_setRow ?_ ?_ _) | go_size | (simp only [World.size_alloc]; omega) | omega)
      clear hb6 k0 k1 k2 hT5 L5 CT HP5
      go_wp2_with fail
      go_loopw [14, 15] (fun v q X => ∃ k : Nat, k ≤ N ∧ q = .int .i64 k ∧ Hid (X.ownsRow w6.heap.size 24 3 v k (fl (wasL n bs k))) ∧ Below w6.heap.size w6 X) (fun _ q _ => N - (intOf q).toNat)
      case atStart => exact ⟨0, by omega, rfl, World.ownsRow_nil _ _ _ _, Below.refl _ _⟩
      case round =>
        obtain ⟨k, hk, rfl, HO, hbt⟩ := hrel
        rename World => X1
        obtain ⟨wa, cw, e5, -, -⟩ := owns_val HO.out
        subst e5
        have hTX := hT6.bel hbt
        have HPX := Lib.hid (HP6.out.below hbt)
        by_cases hkn : k < N
        · have hkn' : (k : Int) < N := by omega
          obtain ⟨x0, x1, x2, eX, kX⟩ := page_key hn (show k < (allV (n : Int)).length by rw [HN.out]; exact hkn)
          obtain ⟨c0, c1, c2⟩ := HPX.out.three (by rw [HN.out]; exact hkn) eX
          have vX := key_valid kX
          have WS := Lib.hid (was_step n bs k)
          rw [eX] at WS
          obtain ⟨-, ⟨hx0, hx1⟩, -, -⟩ := valid_yes vX
          obtain ⟨mm, hmm⟩ : ∃ q : Nat, x0 = q := ⟨x0.toNat, by omega⟩
          subst hmm
          obtain ⟨s, hs1, hs2, hlk, hth, hno⟩ := look_fact hn (by omega) vX hroot
          obtain ⟨b0, b1, b2, eB⟩ := len3 (upV_len n mm x1 x2 s)
          rw [eB] at hlk
          have CL : Hid (∀ X, Tab X t g n bs → Calls Try.prog 12 #[.pointer (some ⟨t, 0, none⟩), .agg #[.int .i64 mm, .int .i64 x1, .int .i64 x2]] X fun e w' => e = .returned (.tuple #[.agg #[.int .i64 b0, .int .i64 b1, .int .i64 b2], .bool true]) ∧ Below X.heap.size X w') := fun X h => by
            have := look_any t g n bs mm x1 x2 X h
            rw [hlk] at this
            exact this
          replace WS : Hid (wasL n bs (k + 1) = wasL n bs k ++ [[b0, b1, b2]]) := by
            have := WS.out
            simp only [PgM.g, List.getD_cons_zero, List.getD_cons_succ] at this
            rw [hlk] at this
            exact this
          clear eX kX vX hlk hth hno eB hs1 hs2 hx0 hx1
          go_wp2_with fail
          refine (CL.out _ hTX).mono ?_
          rintro e w9 ⟨rfl, hb9⟩
          have HO9 := Lib.hid (owns_below HO.out hb9)
          have LZ9 : Below w6.heap.size w6 w9 := hbt.trans (hb9.mono hbt.size)
          clear hb9 HO hTX HPX hbt c0 c1 c2 CL
          go_upto_region 19 with (fail)
          refine Rd.name_world ?_
          intro w10 hw
          have bB : blk w10 w9.heap.size = some (.cells #[.int .i64 b0, .int .i64 b1, .int .i64 b2] 24 (0, 0)) := by rw [hw]; exact blk_alloc_at _ _ _ rfl
          have HO10 : Hid (w10.ownsRow w6.heap.size 24 3 (.slice wa k cw) k (fl (wasL n bs k))) := by
            rw [hw]
            exact Lib.hid (HO9.out.alloc _)
          have LZ10 : Below w6.heap.size w6 w10 := by
            rw [hw]
            have := LZ9.size
            repeat' (first | (with_reducible exact Below.refl _ _) | (with_reducible refine Rd.below_step ?_ (by assumption)) | (with_reducible refine Rd.below_alloc ?_ _) | (with_reducible refine Rd.below_drewN ?_ _) | (with_reducible refine Below.drew ?_) | (with_reducible refine Below.setCell ?_ ?_ _) | (with_reducible refine Rd.below_setRow ?_ ?_ _) | go_size | (simp only [World.size_alloc]; omega) | omega)
          obtain ⟨pq, hpq⟩ : ∃ p, w9.heap.size = p := ⟨_, rfl⟩
          rw [hpq] at bB ⊢
          clear hw hpq HO9 LZ9
          have j0 : w10.cell? ⟨pq, 0, none⟩ = some (.int .i64 b0) := by rw [blk_cell bB]; rfl
          have j1 : w10.cell? ⟨pq, 1, none⟩ = some (.int .i64 b1) := by rw [blk_cell bB]; rfl
          have j2 : w10.cell? ⟨pq, 2, none⟩ = some (.int .i64 b2) := by rw [blk_cell bB]; rfl
          have hz10 := LZ10.size
          go_wp2_with (at_builtin; refine app_pg rfl (.tmp 89) (.tmp 91) rfl w6.heap.size _ _ _ rfl (HO10.out.alloc _) w10.heap.size 1 [b0, b1, b2] rfl rfl (blk_alloc_at _ _ _ rfl) (by omega) (by simp; omega) ?_; intro v4 w4 ho4 hg4)
          have L4 : Below w6.heap.size w6 w4 := (LZ10.alloc (by omega) _).grown hg4 (by simp; omega) (fun j hj => (HO10.out.lt j hj).1)
          exact ⟨⟨k + 1, by omega, by go_num, Lib.hid (by rw [WS.out]; exact ho4), L4⟩, by simp [intOf]; omega⟩
        · obtain rfl : N = k := by omega
          have h3 : ∀ v ∈ wasL n bs N, v.length = 3 := by
            intro v hv
            obtain ⟨j, -, rfl⟩ := List.mem_map.1 hv
            unfold lookV
            split
            · generalize ((n : Int) - _ + 1).toNat = r
              induction r with
              | zero => rfl
              | succ r ih =>
                unfold lookL
                split
                · exact upV_len _ _ _ _ _
                · exact ih
            · rfl
          have hrow := (pgAt_owns HO.out h3).2
          have hown := HO.out
          have bPX := (blk_below hbt _ (blk_lt bP)).trans bP
          have k0 : X1.cell? ⟨pb, 0, none⟩ = some (.int .i64 m) := by rw [blk_cell bPX]; rfl
          have k1 : X1.cell? ⟨pb, 1, none⟩ = some (.int .i64 p1) := by rw [blk_cell bPX]; rfl
          have k2 : X1.cell? ⟨pb, 2, none⟩ = some (.int .i64 p2) := by rw [blk_cell bPX]; rfl
          have HRW := Lib.hid hrow
          have HOW := Lib.hid hown
          clear hrow hown HO h3
          have hset := set_any t g n bs m p1 p2 true X1 hTX
          rw [show setB n m p1 p2 true = true by unfold setB; rw [VX.out]; simp, if_pos rfl, if_pos rfl, show (keyV n m p1 p2).toNat = kk by rw [KQ.out]; rfl] at hset
          have HS := Lib.hid hset
          obtain ⟨gw, ow, ewa, hgw, hcw⟩ : ∃ gw ow, wa = some ⟨gw, ow, none⟩ ∧ gw < X1.heap.size ∧ ∀ i, i < (wasL n bs N).length → ∀ j, j < 3 → X1.cell? ⟨gw, ow + i * 3 + j, none⟩ = some (.int .i64 (PgM.g (at_ (wasL n bs N) i) j)) := by
            rcases HRW.out.2 with h | h
            · have := was_len n bs N
              rw [h] at this
              simp at this
              omega
            · exact h
          subst ewa
          have HW1 : Hid (Rws X1 gw ow (wasL n bs N)) := Lib.hid ⟨hgw, hcw⟩
          have hgg : gw ≠ g := by
            have h1 := (HOW.out.lt gw rfl).1
            have h2 := hT6.lt.2
            omega
          have LX : Below w.heap.size w X1 := L6.trans (hbt.mono L6.size)
          clear hset hcw HRW HOW
          go_wp2_with fail
          refine HS.out.mono ?_
          rintro e w11 ⟨rfl, hT11, hg11⟩
          have hP11 := blk_turn bPX hg11 (by omega)
          have HP11 := Lib.hid (HPX.out.turn hg11 hne)
          have HW11 := Lib.hid (HW1.out.turn hg11 hgg)
          have L11 : Below w.heap.size w w11 := below_turn LX hg11 hg
          clear hg11 HS HPX HW1 LX hbt hTX hT6 HP6 L6 bPX k0 k1 k2 hgw bP
          go_wp2_with fail
          go_loopw [18] (fun q X => ∃ k : Nat, k ≤ N ∧ q = .int .i64 k ∧ Below w11.heap.size w11 X) (fun q _ => N - (intOf q).toNat)
          case atStart => exact ⟨0, by omega, rfl, Below.refl _ _⟩
          case round =>
            obtain ⟨k, hk, rfl, hbt⟩ := hrel
            rename World => X2
            have hTX := hT11.bel hbt
            have HPX := Lib.hid (HP11.out.below hbt)
            have HWX := Lib.hid (HW11.out.below hbt)
            have bPX := (blk_below hbt _ (blk_lt hP11)).trans hP11
            have LX : Below w.heap.size w X2 := L11.trans (hbt.mono L11.size)
            by_cases hkn : k < N
            · have hkn' : (k : Int) < N := by omega
              obtain ⟨x0, x1, x2, eX, kX⟩ := page_key hn (show k < (allV (n : Int)).length by rw [HN.out]; exact hkn)
              obtain ⟨c0, c1, c2⟩ := HPX.out.three (by rw [HN.out]; exact hkn) eX
              have vX := key_valid kX
              obtain ⟨-, ⟨hx0, hx1⟩, -, -⟩ := valid_yes vX
              obtain ⟨mm, hmm⟩ : ∃ q : Nat, x0 = q := ⟨x0.toNat, by omega⟩
              subst hmm
              obtain ⟨s, hs1, hs2, hlk, hth, hno⟩ := look_fact hn (by omega) vX hroot
              obtain ⟨b0, b1, b2, eB⟩ := len3 (upV_len n mm x1 x2 s)
              have hb0 : b0 = (s : Int) := by
                have := (up_L vX hs1 hs2).2
                rw [eB] at this
                exact this
              subst hb0
              obtain ⟨u0, u1, u2, eU⟩ := len3 (upV_len n mm x1 x2 m)
              obtain ⟨inn, eI⟩ : ∃ q, upB n mm x1 x2 m = q := ⟨_, rfl⟩
              have hcm := look_comes hn (by omega) vX hroot (by rw [← hT11.len.trans HN.out] at hkk; simpa using hkk) VX.out KQ.out hs1 hs2 hth hno
              rw [eI, eU, eB] at hcm
              have eW : at_ (wasL n bs N) k = [(s : Int), b1, b2] := by
                rw [at_eq (by rw [was_len]; exact hkn)]
                simp only [wasL, List.getElem_map, List.getElem_range]
                rw [eX]
                simp only [PgM.g, List.getD_cons_zero, List.getD_cons_succ]
                rw [hlk, eB]
              have CWX : Hid (CX3 X2 gw ow k s b1 b2) := Lib.hid (HWX.out.three (by rw [was_len]; exact hkn) eW)
              have CU : Hid (∀ X : World, Calls Try.prog 16 #[.int .i64 n, .agg #[.int .i64 mm, .int .i64 x1, .int .i64 x2], .int .i64 m] X fun e w' => e = .returned (.tuple #[.agg #[.int .i64 u0, .int .i64 u1, .int .i64 u2], .bool inn]) ∧ Below X.heap.size X w') := fun X => by
                have := rup_any n mm x1 x2 m X
                rw [eU, eI] at this
                exact this
              have HCM := Lib.hid hcm
              clear eX kX vX hlk hth hno eB eU eI hcm eW hx0 hx1 hs1 hs2
              cases inn
              case false =>
                have CL : Hid (∀ X, Tab X t g n (bs.set kk true) → Calls Try.prog 12 #[.pointer (some ⟨t, 0, none⟩), .agg #[.int .i64 mm, .int .i64 x1, .int .i64 x2]] X fun e w' => e = .returned (.tuple #[.agg #[.int .i64 s, .int .i64 b1, .int .i64 b2], .bool true]) ∧ Below X.heap.size X w') := fun X h => by
                  have := look_any t g n (bs.set kk true) mm x1 x2 X h
                  rw [HCM.out, if_neg (by simp)] at this
                  exact this
                clear HCM
                go_wp2_with fail
                refine (CL.out _ hTX).mono ?_
                rintro e w12 ⟨rfl, hb12⟩
                have CX12 := cx_below hb12 HPX.out.lt ⟨c0, c1, c2⟩
                have CW12 := cx_below hb12 HWX.out.lt CWX.out
                replace bPX := (blk_below hb12 _ (blk_lt bPX)).trans bPX
                have LZ12 : Below w11.heap.size w11 w12 := hbt.trans (hb12.mono hbt.size)
                have lC12 : ga < w12.heap.size := Nat.lt_of_lt_of_le HPX.out.lt hb12.size
                have lD12 : gw < w12.heap.size := Nat.lt_of_lt_of_le HWX.out.lt hb12.size
                clear hb12 CL c0 c1 c2 hbt HPX HWX hTX LX CWX
                go_upto_region 26 with (fail)
                refine Rd.name_world ?_
                intro w13 hw
                have h13 : Below w12.heap.size w12 w13 := by
                  rw [hw]
                  repeat' (first | (with_reducible exact Below.refl _ _) | (with_reducible refine Rd.below_step ?_ (by assumption)) | (with_reducible refine Rd.below_alloc ?_ _) | (with_reducible refine Rd.below_drewN ?_ _) | (with_reducible refine Below.drew ?_) | (with_reducible refine Below.setCell ?_ ?_ _) | (with_reducible refine Rd.below_setRow ?_ ?_ _) | go_size | (simp only [World.size_alloc]; omega) | omega)
                have bL : blk w13 w12.heap.size = some (.cells #[.int .i64 (s : Int), .int .i64 b1, .int .i64 b2] 24 (0, 0)) := by rw [hw]; exact blk_alloc_at _ _ _ rfl
                have bP := (blk_below h13 _ (blk_lt bPX)).trans bPX
                have CX := Lib.hid (cx_below h13 lC12 CX12)
                have CW := Lib.hid (cx_below h13 lD12 CW12)
                have LZ : Below w11.heap.size w11 w13 := LZ12.trans (h13.mono LZ12.size)
                have lC : ga < w13.heap.size := Nat.lt_of_lt_of_le lC12 h13.size
                have lD : gw < w13.heap.size := Nat.lt_of_lt_of_le lD12 h13.size
                obtain ⟨lb, hlb⟩ : ∃ p, w12.heap.size = p := ⟨_, rfl⟩
                rw [hlb] at bL ⊢
                have lL := blk_lt bL
                have lP := blk_lt bP
                clear hw h13 hlb CX12 CW12 LZ12 lC12 lD12 bPX
                refine PredS.region_vals (W := w13) [⟨11, 12, 24, cs .i64 [0, 0, 0], #[.int .i64 u0, .int .i64 u1, .int .i64 u2]⟩] (PredS.Of [
                    Is (.int .i64 (n : Int)),
                    Is (.slice (some ⟨ga, o, none⟩) N cp),
                    Is (.int .i64 (k : Int)),
                    Is (.pointer (some ⟨ga, o + k * 3, none⟩)),
                    Is (.agg #[.int .i64 (mm : Int), .int .i64 x1, .int .i64 x2]),
                    Is (.pointer (some ⟨pb, 0, none⟩)),
                    Is (.int .i64 (m : Int)),
                    Is (.tuple #[.agg #[.int .i64 u0, .int .i64 u1, .int .i64 u2], .bool false]),
                    Is (.tuple #[.agg #[.int .i64 u0, .int .i64 u1, .int .i64 u2], .bool false]),
                    Is (.agg #[.int .i64 u0, .int .i64 u1, .int .i64 u2]),
                    Is (.bool false),
                    Is undef,
                    Is undef,
                    Is (.bool false)]) (by kernel_rfl) (by kernel_rfl) (by kernel_rfl) (by kernel_rfl) (PredS.of_stab ?_) ?_ ?_ ?_
                · exact ⟨PredS.is_stab _, PredS.is_stab _, PredS.is_stab _, PredS.is_stab _, PredS.is_stab _, PredS.is_stab _, PredS.is_stab _, PredS.is_stab _, PredS.is_stab _, PredS.is_stab _, PredS.is_stab _, PredS.is_stab _, PredS.is_stab _, PredS.is_stab _, trivial⟩
                · refine ⟨.inr ?_, .inr ?_, .inr ?_, .inr ?_, .inr ?_, .inr ?_, .inr ?_, .inr ?_, .inr ?_, .inr ?_, .inr ?_, .inl rfl, .inl rfl, .inr ?_, trivial⟩
                  · intro b X hE hd hn hV
                    have r7 : b.tmps[7]?.getD undef = .int .i64 (n : Int) := (hn 7 (by kernel_rfl)).trans rfl
                    exact Pred.yields_run (v := .int .i64 (n : Int)) (Pred.wanted_none rfl) (by go_simp) ⟨PredS.ext_refl _ _ _, rfl⟩
                  · intro b X hE hd hn hV
                    have r10 : b.tmps[10]?.getD undef = .slice (some ⟨ga, o, none⟩) N cp := (hn 10 (by kernel_rfl)).trans rfl
                    exact Pred.yields_run (v := .slice (some ⟨ga, o, none⟩) N cp) (Pred.wanted_none rfl) (by go_simp) ⟨PredS.ext_refl _ _ _, rfl⟩
                  · intro b X hE hd hn hV
                    have r18 : b.tmps[18]?.getD undef = .int .i64 (k : Int) := (hn 18 (by kernel_rfl)).trans rfl
                    exact Pred.yields_run (v := .int .i64 (k : Int)) (Pred.wanted_none rfl) (by go_simp) ⟨PredS.ext_refl _ _ _, rfl⟩
                  · intro b X hE hd hn hV
                    have r114 : b.tmps[114]?.getD undef = .slice (some ⟨ga, o, none⟩) N cp := hV 1 _ 114 rfl rfl rfl (Pred.waits_near (by kernel_rfl) (by kernel_rfl))
                    have r115 : b.tmps[115]?.getD undef = .int .i64 (k : Int) := hV 2 _ 115 rfl rfl rfl (Pred.waits_near (by kernel_rfl) (by kernel_rfl))
                    exact Pred.yields_run (v := .pointer (some ⟨ga, o + k * 3, none⟩)) (Pred.wanted_none rfl) (by go_simp) ⟨PredS.ext_refl _ _ _, rfl⟩
                  · intro b X hE hd hn hV
                    have r116 : b.tmps[116]?.getD undef = .pointer (some ⟨ga, o + k * 3, none⟩) := hV 3 _ 116 rfl rfl rfl (Pred.waits_near (by kernel_rfl) (by kernel_rfl))
                    obtain ⟨z0, z1, z2⟩ := cx_below hE lC CX.out
                    exact Pred.yields_run (v := .agg #[.int .i64 (mm : Int), .int .i64 x1, .int .i64 x2]) (Pred.wanted_none rfl) (by go_simp) ⟨PredS.ext_refl _ _ _, rfl⟩
                  · intro b X hE hd hn hV
                    have r12 : b.tmps[12]?.getD undef = .pointer (some ⟨pb, 0, none⟩) := (hn 12 (by kernel_rfl)).trans rfl
                    exact Pred.yields_run (v := .pointer (some ⟨pb, 0, none⟩)) (Pred.wanted_none rfl) (by go_simp) ⟨PredS.ext_refl _ _ _, rfl⟩
                  · intro b X hE hd hn hV
                    have r118 : b.tmps[118]?.getD undef = .pointer (some ⟨pb, 0, none⟩) := hV 5 _ 118 rfl rfl rfl (Pred.waits_near (by kernel_rfl) (by kernel_rfl))
                    have q := (blk_below hE _ lP).trans bP
                    have z : X.cell? ⟨pb, 0, none⟩ = some (.int .i64 m) := by rw [blk_cell q]; rfl
                    exact Pred.yields_run (v := .int .i64 (m : Int)) (Pred.wanted_none rfl) (by go_simp) ⟨PredS.ext_refl _ _ _, rfl⟩
                  · intro b X hE hd hn hV
                    have r113 : b.tmps[113]?.getD undef = .int .i64 (n : Int) := hV 0 _ 113 rfl rfl rfl (Pred.waits_near (by kernel_rfl) (by kernel_rfl))
                    have r117 : b.tmps[117]?.getD undef = .agg #[.int .i64 (mm : Int), .int .i64 x1, .int .i64 x2] := hV 4 _ 117 rfl rfl rfl (Pred.waits_near (by kernel_rfl) (by kernel_rfl))
                    have r119 : b.tmps[119]?.getD undef = .int .i64 (m : Int) := hV 6 _ 119 rfl rfl rfl (Pred.waits_near (by kernel_rfl) (by kernel_rfl))
                    refine Pred.yields_call (f := 16) (args := #[.int .i64 n, .agg #[.int .i64 (mm : Int), .int .i64 x1, .int .i64 x2], .int .i64 m]) (Pred.wanted_none rfl) (by go_simp) ?_
                    exact (CU.out _).mono fun e w2 ⟨he, hb⟩ => ⟨_, he, PredS.ext_below hb hE.size, rfl⟩
                  · intro b X hE hd hn hV
                    have r120 : b.tmps[120]?.getD undef = .tuple #[.agg #[.int .i64 u0, .int .i64 u1, .int .i64 u2], .bool false] := hV 7 _ 120 rfl rfl rfl (Pred.waits_near (by kernel_rfl) (by kernel_rfl))
                    exact Pred.yields_run (v := .tuple #[.agg #[.int .i64 u0, .int .i64 u1, .int .i64 u2], .bool false]) (Pred.wanted_none rfl) (by go_simp) ⟨PredS.ext_refl _ _ _, rfl⟩
                  · intro b X hE hd hn hV
                    have r112 : b.tmps[112]?.getD undef = .tuple #[.agg #[.int .i64 u0, .int .i64 u1, .int .i64 u2], .bool false] := hV 8 _ 112 rfl rfl rfl (Pred.waits_near (by kernel_rfl) (by kernel_rfl))
                    exact Pred.yields_run (v := .agg #[.int .i64 u0, .int .i64 u1, .int .i64 u2]) (Pred.wanted_none rfl) (by go_simp) ⟨PredS.ext_refl _ _ _, rfl⟩
                  · intro b X hE hd hn hV
                    have r112 : b.tmps[112]?.getD undef = .tuple #[.agg #[.int .i64 u0, .int .i64 u1, .int .i64 u2], .bool false] := hV 8 _ 112 rfl rfl rfl (Pred.waits_near (by kernel_rfl) (by kernel_rfl))
                    exact Pred.yields_run (v := .bool false) (Pred.wanted_none rfl) (by go_simp) ⟨PredS.ext_refl _ _ _, rfl⟩
                  · intro b X hE hd hn hV
                    have r122 : b.tmps[122]?.getD undef = .bool false := hV 10 _ 122 rfl rfl rfl (Pred.waits_near (by kernel_rfl) (by kernel_rfl))
                    exact Pred.yields_run (v := .bool false) (Pred.wanted_none rfl) (by go_simp) ⟨PredS.ext_refl _ _ _, rfl⟩
                · refine ⟨?_, trivial⟩
                  · refine ⟨_, 21, _, rfl, rfl, by simp, rfl, fun ρ w => by first | (go_simp; done) | (go_simp; rfl), rfl, rfl, Pred.waits_near (by kernel_rfl) (by kernel_rfl), fun b X g hE hn hV hp hg hb => ?_⟩
                    have r121 : b.tmps[121]?.getD undef = .agg #[.int .i64 u0, .int .i64 u1, .int .i64 u2] := hV 9 _ 121 rfl rfl rfl (Pred.waits_near (by kernel_rfl) (by kernel_rfl))
                    simp only at hb
                    exact PredS.yields_skip (Pred.wanted_none rfl) (by go_simp) rfl
                intro v w14 hE hv hL
                have e0 : v 0 = .int .i64 (n : Int) := hv 0 _ 113 rfl rfl rfl
                have e1 : v 1 = .slice (some ⟨ga, o, none⟩) N cp := hv 1 _ 114 rfl rfl rfl
                have e2 : v 2 = .int .i64 (k : Int) := hv 2 _ 115 rfl rfl rfl
                have e3 : v 3 = .pointer (some ⟨ga, o + k * 3, none⟩) := hv 3 _ 116 rfl rfl rfl
                have e4 : v 4 = .agg #[.int .i64 (mm : Int), .int .i64 x1, .int .i64 x2] := hv 4 _ 117 rfl rfl rfl
                have e5 : v 5 = .pointer (some ⟨pb, 0, none⟩) := hv 5 _ 118 rfl rfl rfl
                have e6 : v 6 = .int .i64 (m : Int) := hv 6 _ 119 rfl rfl rfl
                have e7 : v 7 = .tuple #[.agg #[.int .i64 u0, .int .i64 u1, .int .i64 u2], .bool false] := hv 7 _ 120 rfl rfl rfl
                have e8 : v 8 = .tuple #[.agg #[.int .i64 u0, .int .i64 u1, .int .i64 u2], .bool false] := hv 8 _ 112 rfl rfl rfl
                have e9 : v 9 = .agg #[.int .i64 u0, .int .i64 u1, .int .i64 u2] := hv 9 _ 121 rfl rfl rfl
                have e10 : v 10 = .bool false := hv 10 _ 122 rfl rfl rfl
                have e13 : v 13 = .bool false := hv 13 _ 22 rfl rfl rfl
                obtain ⟨⟨g11, e11, o11, q11, n11⟩, -⟩ := hL
                replace q11 : blk w14 g11 = some (.cells #[.int .i64 u0, .int .i64 u1, .int .i64 u2] 24 (0, 0)) := q11
                clear n11
                simp only [Pred.putsF_cons, Pred.putsF_nil, Nat.zero_add, Nat.reduceAdd, e0, e1, e2, e3, e4, e5, e6, e7, e8, e9, e10, e11, e13, Act.put, List.setIfInBounds_toArray, List.set_cons_zero, List.set_cons_succ]
                clear e0 e1 e2 e3 e4 e5 e6 e7 e8 e9 e10 e11 e13 hv
                have og : w13.heap.size ≤ g11 := o11
                replace bP := (blk_below hE _ lP).trans bP
                replace bL := (blk_below hE _ lL).trans bL
                replace CW := Lib.hid (cx_below hE lD CW.out)
                replace lD : gw < w14.heap.size := Nat.lt_of_lt_of_le lD hE.size
                replace LZ : Below w11.heap.size w11 w14 := LZ.trans (hE.mono LZ.size)
                have kw0 := CW.out.1
                have kw1 := CW.out.2.1
                have kw2 := CW.out.2.2
                have hlw := blk_lt bL
                clear hE CX lC lP lL CU
                go_upto_region 28 with (fail)
                refine Rd.name_world ?_
                intro w15 hw
                have h15 : Below w14.heap.size w14 w15 := by
                  rw [hw]
                  repeat' (first | (with_reducible exact Below.refl _ _) | (with_reducible refine Rd.below_step ?_ (by assumption)) | (with_reducible refine Rd.below_alloc ?_ _) | (with_reducible refine Rd.below_drewN ?_ _) | (with_reducible refine Below.drew ?_) | (with_reducible refine Below.setCell ?_ ?_ _) | (with_reducible refine Rd.below_setRow ?_ ?_ _) | go_size | (simp only [World.size_alloc]; omega) | omega)
                have bW : blk w15 w14.heap.size = some (.cells #[.int .i64 (s : Int), .int .i64 b1, .int .i64 b2] 24 (0, 0)) := by rw [hw]; exact blk_alloc_at _ _ _ rfl
                have hz14 := LZ.size
                replace bP := (blk_below h15 _ (blk_lt bP)).trans bP
                replace bL := (blk_below h15 _ (blk_lt bL)).trans bL
                have bU := (blk_below h15 _ (blk_lt q11)).trans q11
                replace CW := Lib.hid (cx_below h15 lD CW.out)
                replace lD : gw < w15.heap.size := Nat.lt_of_lt_of_le lD h15.size
                replace LZ : Below w11.heap.size w11 w15 := LZ.trans (h15.mono LZ.size)
                obtain ⟨wb, hwb⟩ : ∃ p, w14.heap.size = p := ⟨_, rfl⟩
                rw [hwb] at bW hz14 hlw ⊢
                have lP := blk_lt bP
                have lU := blk_lt bU
                clear hw h15 hwb kw0 kw1 kw2 q11 og o11
                refine Pred.region_vals (Pred.Of [
                    Is (.bool false),
                    Is (.bool false),
                    Is (undef),
                    Is (undef),
                    Is (undef),
                    Is (.bool false),
                    Is (.bool false),
                    Is (undef),
                    Is (undef),
                    Is (undef),
                    Is (undef),
                    Is (undef),
                    Is (undef),
                    Is (undef),
                    Is (undef),
                    Is (.bool false)]) (by kernel_rfl) (by kernel_rfl) (by kernel_rfl) (Pred.of_stab ?_) ?_ ?_
                · exact ⟨is_stab _, is_stab _, is_stab _, is_stab _, is_stab _, is_stab _, is_stab _, is_stab _, is_stab _, is_stab _, is_stab _, is_stab _, is_stab _, is_stab _, is_stab _, is_stab _, trivial⟩
                · refine ⟨?_, ?_, ?_, ?_, ?_, ?_, ?_, ?_, ?_, ?_, ?_, ?_, ?_, ?_, ?_, ?_, trivial⟩
                  · intro b X hE hd hn hV
                    have r22 : b.tmps[22]?.getD undef = .bool false := (hn 22 (by kernel_rfl)).trans rfl
                    exact Pred.yields_run (v := .bool false) (Pred.wanted_none rfl) (by go_simp) ⟨Pred.ext_refl _ _, rfl⟩
                  · intro b X hE hd hn hV
                    have r127 : b.tmps[127]?.getD undef = .bool false := hV 0 _ 127 rfl rfl (Pred.waits_near (by kernel_rfl) (by kernel_rfl))
                    exact Pred.yields_run (v := .bool false) (Pred.wanted_none rfl) (by go_simp) ⟨Pred.ext_refl _ _, rfl⟩
                  · intro b X hE hd hn hV
                    have r128 : b.tmps[128]?.getD undef = .bool false := hV 1 _ 128 rfl rfl (Pred.waits_near (by kernel_rfl) (by kernel_rfl))
                    exact Pred.yields_not ((Pred.wanted_at (g := 1) (d := 128) (f := true) rfl rfl r128).trans rfl) ⟨Pred.ext_refl _ _, rfl⟩
                  · intro b X hE hd hn hV
                    have r128 : b.tmps[128]?.getD undef = .bool false := hV 1 _ 128 rfl rfl (Pred.waits_near (by kernel_rfl) (by kernel_rfl))
                    exact Pred.yields_not ((Pred.wanted_at (g := 1) (d := 128) (f := true) rfl rfl r128).trans rfl) ⟨Pred.ext_refl _ _, rfl⟩
                  · intro b X hE hd hn hV
                    have r128 : b.tmps[128]?.getD undef = .bool false := hV 1 _ 128 rfl rfl (Pred.waits_near (by kernel_rfl) (by kernel_rfl))
                    exact Pred.yields_not ((Pred.wanted_at (g := 1) (d := 128) (f := true) rfl rfl r128).trans rfl) ⟨Pred.ext_refl _ _, rfl⟩
                  · intro b X hE hd hn hV
                    have r128 : b.tmps[128]?.getD undef = .bool false := hV 1 _ 128 rfl rfl (Pred.waits_near (by kernel_rfl) (by kernel_rfl))
                    have r131 : b.tmps[131]?.getD undef = undef := hV 4 _ 131 rfl rfl (Pred.waits_near (by kernel_rfl) (by kernel_rfl))
                    exact Pred.yields_run (v := .bool false) (Pred.wanted_none rfl) (by go_simp) ⟨Pred.ext_refl _ _, rfl⟩
                  · intro b X hE hd hn hV
                    have r132 : b.tmps[132]?.getD undef = .bool false := hV 5 _ 132 rfl rfl (Pred.waits_near (by kernel_rfl) (by kernel_rfl))
                    exact Pred.yields_run (v := .bool false) (Pred.wanted_none rfl) (by go_simp) ⟨Pred.ext_refl _ _, rfl⟩
                  · intro b X hE hd hn hV
                    have r133 : b.tmps[133]?.getD undef = .bool false := hV 6 _ 133 rfl rfl (Pred.waits_near (by kernel_rfl) (by kernel_rfl))
                    exact Pred.yields_not ((Pred.wanted_at (g := 6) (d := 133) (f := true) rfl rfl r133).trans rfl) ⟨Pred.ext_refl _ _, rfl⟩
                  · intro b X hE hd hn hV
                    have r133 : b.tmps[133]?.getD undef = .bool false := hV 6 _ 133 rfl rfl (Pred.waits_near (by kernel_rfl) (by kernel_rfl))
                    exact Pred.yields_not ((Pred.wanted_at (g := 6) (d := 133) (f := true) rfl rfl r133).trans rfl) ⟨Pred.ext_refl _ _, rfl⟩
                  · intro b X hE hd hn hV
                    have r133 : b.tmps[133]?.getD undef = .bool false := hV 6 _ 133 rfl rfl (Pred.waits_near (by kernel_rfl) (by kernel_rfl))
                    exact Pred.yields_not ((Pred.wanted_at (g := 6) (d := 133) (f := true) rfl rfl r133).trans rfl) ⟨Pred.ext_refl _ _, rfl⟩
                  · intro b X hE hd hn hV
                    have r133 : b.tmps[133]?.getD undef = .bool false := hV 6 _ 133 rfl rfl (Pred.waits_near (by kernel_rfl) (by kernel_rfl))
                    exact Pred.yields_not ((Pred.wanted_at (g := 6) (d := 133) (f := true) rfl rfl r133).trans rfl) ⟨Pred.ext_refl _ _, rfl⟩
                  · intro b X hE hd hn hV
                    have r133 : b.tmps[133]?.getD undef = .bool false := hV 6 _ 133 rfl rfl (Pred.waits_near (by kernel_rfl) (by kernel_rfl))
                    exact Pred.yields_not ((Pred.wanted_at (g := 6) (d := 133) (f := true) rfl rfl r133).trans rfl) ⟨Pred.ext_refl _ _, rfl⟩
                  · intro b X hE hd hn hV
                    have r133 : b.tmps[133]?.getD undef = .bool false := hV 6 _ 133 rfl rfl (Pred.waits_near (by kernel_rfl) (by kernel_rfl))
                    exact Pred.yields_not ((Pred.wanted_at (g := 6) (d := 133) (f := true) rfl rfl r133).trans rfl) ⟨Pred.ext_refl _ _, rfl⟩
                  · intro b X hE hd hn hV
                    have r133 : b.tmps[133]?.getD undef = .bool false := hV 6 _ 133 rfl rfl (Pred.waits_near (by kernel_rfl) (by kernel_rfl))
                    exact Pred.yields_not ((Pred.wanted_at (g := 6) (d := 133) (f := true) rfl rfl r133).trans rfl) ⟨Pred.ext_refl _ _, rfl⟩
                  · intro b X hE hd hn hV
                    have r133 : b.tmps[133]?.getD undef = .bool false := hV 6 _ 133 rfl rfl (Pred.waits_near (by kernel_rfl) (by kernel_rfl))
                    exact Pred.yields_not ((Pred.wanted_at (g := 6) (d := 133) (f := true) rfl rfl r133).trans rfl) ⟨Pred.ext_refl _ _, rfl⟩
                  · intro b X hE hd hn hV
                    have r133 : b.tmps[133]?.getD undef = .bool false := hV 6 _ 133 rfl rfl (Pred.waits_near (by kernel_rfl) (by kernel_rfl))
                    have r141 : b.tmps[141]?.getD undef = undef := hV 14 _ 141 rfl rfl (Pred.waits_near (by kernel_rfl) (by kernel_rfl))
                    exact Pred.yields_run (v := .bool false) (Pred.wanted_none rfl) (by go_simp) ⟨Pred.ext_refl _ _, rfl⟩
                intro v w16 hE hv
                have e0 : v 0 = .bool false := hv 0 _ 127 rfl rfl
                have e1 : v 1 = .bool false := hv 1 _ 128 rfl rfl
                have e2 : v 2 = undef := hv 2 _ 129 rfl rfl
                have e3 : v 3 = undef := hv 3 _ 130 rfl rfl
                have e4 : v 4 = undef := hv 4 _ 131 rfl rfl
                have e5 : v 5 = .bool false := hv 5 _ 132 rfl rfl
                have e6 : v 6 = .bool false := hv 6 _ 133 rfl rfl
                have e7 : v 7 = undef := hv 7 _ 134 rfl rfl
                have e8 : v 8 = undef := hv 8 _ 135 rfl rfl
                have e9 : v 9 = undef := hv 9 _ 136 rfl rfl
                have e10 : v 10 = undef := hv 10 _ 137 rfl rfl
                have e11 : v 11 = undef := hv 11 _ 138 rfl rfl
                have e12 : v 12 = undef := hv 12 _ 139 rfl rfl
                have e13 : v 13 = undef := hv 13 _ 140 rfl rfl
                have e14 : v 14 = undef := hv 14 _ 141 rfl rfl
                have e15 : v 15 = .bool false := hv 15 _ 142 rfl rfl
                simp only [Pred.putsF_cons, Pred.putsF_nil, Nat.zero_add, Nat.reduceAdd, e0, e1, e2, e3, e4, e5, e6, e7, e8, e9, e10, e11, e12, e13, e14, e15, Act.put, List.setIfInBounds_toArray, List.set_cons_zero, List.set_cons_succ]
                clear e0 e1 e2 e3 e4 e5 e6 e7 e8 e9 e10 e11 e12 e13 e14 e15 hv
                replace bP := (blk_below hE _ lP).trans bP
                replace bL := (blk_below hE _ (blk_lt bL)).trans bL
                replace bW := (blk_below hE _ (blk_lt bW)).trans bW
                replace LZ : Below w11.heap.size w11 w16 := LZ.trans (hE.mono LZ.size)
                clear hE lP lU bU CW lD
                have l0 : w16.cell? ⟨lb, 0, none⟩ = some (.int .i64 (s : Int)) := by rw [blk_cell bL]; rfl
                have l1 : w16.cell? ⟨lb, 1, none⟩ = some (.int .i64 b1) := by rw [blk_cell bL]; rfl
                have l2 : w16.cell? ⟨lb, 2, none⟩ = some (.int .i64 b2) := by rw [blk_cell bL]; rfl
                have v0 : w16.cell? ⟨wb, 0, none⟩ = some (.int .i64 s) := by rw [blk_cell bW]; rfl
                have v1 : w16.cell? ⟨wb, 1, none⟩ = some (.int .i64 b1) := by rw [blk_cell bW]; rfl
                have v2 : w16.cell? ⟨wb, 2, none⟩ = some (.int .i64 b2) := by rw [blk_cell bW]; rfl
                have dR : eqL [(s : Int), b1, b2] [(s : Int), b1, b2] = true := decide_eq_true rfl
                go_wp2
                exact ⟨⟨k + 1, by omega, by go_num, LZ⟩, by simp [intOf]; omega⟩
              case true =>
                by_cases hu : [u0, u1, u2] = [(m : Int), p1, p2]
                · have dU : eqL [u0, u1, u2] [(m : Int), p1, p2] = true := decide_eq_true hu
                  by_cases hms : m < s
                  · have hms' : (m : Int) < s := by omega
                    have CL : Hid (∀ X, Tab X t g n (bs.set kk true) → Calls Try.prog 12 #[.pointer (some ⟨t, 0, none⟩), .agg #[.int .i64 mm, .int .i64 x1, .int .i64 x2]] X fun e w' => e = .returned (.tuple #[.agg #[.int .i64 m, .int .i64 p1, .int .i64 p2], .bool true]) ∧ Below X.heap.size X w') := fun X h => by
                      have := look_any t g n (bs.set kk true) mm x1 x2 X h
                      rw [HCM.out, if_pos ⟨rfl, hu, hms⟩] at this
                      exact this
                    clear HCM hu
                    go_wp2_with fail
                    refine (CL.out _ hTX).mono ?_
                    rintro e w12 ⟨rfl, hb12⟩
                    have CX12 := cx_below hb12 HPX.out.lt ⟨c0, c1, c2⟩
                    have CW12 := cx_below hb12 HWX.out.lt CWX.out
                    replace bPX := (blk_below hb12 _ (blk_lt bPX)).trans bPX
                    have LZ12 : Below w11.heap.size w11 w12 := hbt.trans (hb12.mono hbt.size)
                    have lC12 : ga < w12.heap.size := Nat.lt_of_lt_of_le HPX.out.lt hb12.size
                    have lD12 : gw < w12.heap.size := Nat.lt_of_lt_of_le HWX.out.lt hb12.size
                    clear hb12 CL c0 c1 c2 hbt HPX HWX hTX LX CWX
                    go_upto_region 26 with (fail)
                    refine Rd.name_world ?_
                    intro w13 hw
                    have h13 : Below w12.heap.size w12 w13 := by
                      rw [hw]
                      repeat' (first | (with_reducible exact Below.refl _ _) | (with_reducible refine Rd.below_step ?_ (by assumption)) | (with_reducible refine Rd.below_alloc ?_ _) | (with_reducible refine Rd.below_drewN ?_ _) | (with_reducible refine Below.drew ?_) | (with_reducible refine Below.setCell ?_ ?_ _) | (with_reducible refine Rd.below_setRow ?_ ?_ _) | go_size | (simp only [World.size_alloc]; omega) | omega)
                    have bL : blk w13 w12.heap.size = some (.cells #[.int .i64 (m : Int), .int .i64 p1, .int .i64 p2] 24 (0, 0)) := by rw [hw]; exact blk_alloc_at _ _ _ rfl
                    have bP := (blk_below h13 _ (blk_lt bPX)).trans bPX
                    have CX := Lib.hid (cx_below h13 lC12 CX12)
                    have CW := Lib.hid (cx_below h13 lD12 CW12)
                    have LZ : Below w11.heap.size w11 w13 := LZ12.trans (h13.mono LZ12.size)
                    have lC : ga < w13.heap.size := Nat.lt_of_lt_of_le lC12 h13.size
                    have lD : gw < w13.heap.size := Nat.lt_of_lt_of_le lD12 h13.size
                    obtain ⟨lb, hlb⟩ : ∃ p, w12.heap.size = p := ⟨_, rfl⟩
                    rw [hlb] at bL ⊢
                    have lL := blk_lt bL
                    have lP := blk_lt bP
                    clear hw h13 hlb CX12 CW12 LZ12 lC12 lD12 bPX
                    refine PredS.region_vals (W := w13) [⟨11, 12, 24, cs .i64 [0, 0, 0], #[.int .i64 u0, .int .i64 u1, .int .i64 u2]⟩] (PredS.Of [
                        Is (.int .i64 (n : Int)),
                        Is (.slice (some ⟨ga, o, none⟩) N cp),
                        Is (.int .i64 (k : Int)),
                        Is (.pointer (some ⟨ga, o + k * 3, none⟩)),
                        Is (.agg #[.int .i64 (mm : Int), .int .i64 x1, .int .i64 x2]),
                        Is (.pointer (some ⟨pb, 0, none⟩)),
                        Is (.int .i64 (m : Int)),
                        Is (.tuple #[.agg #[.int .i64 u0, .int .i64 u1, .int .i64 u2], .bool true]),
                        Is (.tuple #[.agg #[.int .i64 u0, .int .i64 u1, .int .i64 u2], .bool true]),
                        Is (.agg #[.int .i64 u0, .int .i64 u1, .int .i64 u2]),
                        Is (.bool true),
                        Is undef,
                        Is undef,
                        Is (.bool true)]) (by kernel_rfl) (by kernel_rfl) (by kernel_rfl) (by kernel_rfl) (PredS.of_stab ?_) ?_ ?_ ?_
                    · exact ⟨PredS.is_stab _, PredS.is_stab _, PredS.is_stab _, PredS.is_stab _, PredS.is_stab _, PredS.is_stab _, PredS.is_stab _, PredS.is_stab _, PredS.is_stab _, PredS.is_stab _, PredS.is_stab _, PredS.is_stab _, PredS.is_stab _, PredS.is_stab _, trivial⟩
                    · refine ⟨.inr ?_, .inr ?_, .inr ?_, .inr ?_, .inr ?_, .inr ?_, .inr ?_, .inr ?_, .inr ?_, .inr ?_, .inr ?_, .inl rfl, .inl rfl, .inr ?_, trivial⟩
                      · intro b X hE hd hn hV
                        have r7 : b.tmps[7]?.getD undef = .int .i64 (n : Int) := (hn 7 (by kernel_rfl)).trans rfl
                        exact Pred.yields_run (v := .int .i64 (n : Int)) (Pred.wanted_none rfl) (by go_simp) ⟨PredS.ext_refl _ _ _, rfl⟩
                      · intro b X hE hd hn hV
                        have r10 : b.tmps[10]?.getD undef = .slice (some ⟨ga, o, none⟩) N cp := (hn 10 (by kernel_rfl)).trans rfl
                        exact Pred.yields_run (v := .slice (some ⟨ga, o, none⟩) N cp) (Pred.wanted_none rfl) (by go_simp) ⟨PredS.ext_refl _ _ _, rfl⟩
                      · intro b X hE hd hn hV
                        have r18 : b.tmps[18]?.getD undef = .int .i64 (k : Int) := (hn 18 (by kernel_rfl)).trans rfl
                        exact Pred.yields_run (v := .int .i64 (k : Int)) (Pred.wanted_none rfl) (by go_simp) ⟨PredS.ext_refl _ _ _, rfl⟩
                      · intro b X hE hd hn hV
                        have r114 : b.tmps[114]?.getD undef = .slice (some ⟨ga, o, none⟩) N cp := hV 1 _ 114 rfl rfl rfl (Pred.waits_near (by kernel_rfl) (by kernel_rfl))
                        have r115 : b.tmps[115]?.getD undef = .int .i64 (k : Int) := hV 2 _ 115 rfl rfl rfl (Pred.waits_near (by kernel_rfl) (by kernel_rfl))
                        exact Pred.yields_run (v := .pointer (some ⟨ga, o + k * 3, none⟩)) (Pred.wanted_none rfl) (by go_simp) ⟨PredS.ext_refl _ _ _, rfl⟩
                      · intro b X hE hd hn hV
                        have r116 : b.tmps[116]?.getD undef = .pointer (some ⟨ga, o + k * 3, none⟩) := hV 3 _ 116 rfl rfl rfl (Pred.waits_near (by kernel_rfl) (by kernel_rfl))
                        obtain ⟨z0, z1, z2⟩ := cx_below hE lC CX.out
                        exact Pred.yields_run (v := .agg #[.int .i64 (mm : Int), .int .i64 x1, .int .i64 x2]) (Pred.wanted_none rfl) (by go_simp) ⟨PredS.ext_refl _ _ _, rfl⟩
                      · intro b X hE hd hn hV
                        have r12 : b.tmps[12]?.getD undef = .pointer (some ⟨pb, 0, none⟩) := (hn 12 (by kernel_rfl)).trans rfl
                        exact Pred.yields_run (v := .pointer (some ⟨pb, 0, none⟩)) (Pred.wanted_none rfl) (by go_simp) ⟨PredS.ext_refl _ _ _, rfl⟩
                      · intro b X hE hd hn hV
                        have r118 : b.tmps[118]?.getD undef = .pointer (some ⟨pb, 0, none⟩) := hV 5 _ 118 rfl rfl rfl (Pred.waits_near (by kernel_rfl) (by kernel_rfl))
                        have q := (blk_below hE _ lP).trans bP
                        have z : X.cell? ⟨pb, 0, none⟩ = some (.int .i64 m) := by rw [blk_cell q]; rfl
                        exact Pred.yields_run (v := .int .i64 (m : Int)) (Pred.wanted_none rfl) (by go_simp) ⟨PredS.ext_refl _ _ _, rfl⟩
                      · intro b X hE hd hn hV
                        have r113 : b.tmps[113]?.getD undef = .int .i64 (n : Int) := hV 0 _ 113 rfl rfl rfl (Pred.waits_near (by kernel_rfl) (by kernel_rfl))
                        have r117 : b.tmps[117]?.getD undef = .agg #[.int .i64 (mm : Int), .int .i64 x1, .int .i64 x2] := hV 4 _ 117 rfl rfl rfl (Pred.waits_near (by kernel_rfl) (by kernel_rfl))
                        have r119 : b.tmps[119]?.getD undef = .int .i64 (m : Int) := hV 6 _ 119 rfl rfl rfl (Pred.waits_near (by kernel_rfl) (by kernel_rfl))
                        refine Pred.yields_call (f := 16) (args := #[.int .i64 n, .agg #[.int .i64 (mm : Int), .int .i64 x1, .int .i64 x2], .int .i64 m]) (Pred.wanted_none rfl) (by go_simp) ?_
                        exact (CU.out _).mono fun e w2 ⟨he, hb⟩ => ⟨_, he, PredS.ext_below hb hE.size, rfl⟩
                      · intro b X hE hd hn hV
                        have r120 : b.tmps[120]?.getD undef = .tuple #[.agg #[.int .i64 u0, .int .i64 u1, .int .i64 u2], .bool true] := hV 7 _ 120 rfl rfl rfl (Pred.waits_near (by kernel_rfl) (by kernel_rfl))
                        exact Pred.yields_run (v := .tuple #[.agg #[.int .i64 u0, .int .i64 u1, .int .i64 u2], .bool true]) (Pred.wanted_none rfl) (by go_simp) ⟨PredS.ext_refl _ _ _, rfl⟩
                      · intro b X hE hd hn hV
                        have r112 : b.tmps[112]?.getD undef = .tuple #[.agg #[.int .i64 u0, .int .i64 u1, .int .i64 u2], .bool true] := hV 8 _ 112 rfl rfl rfl (Pred.waits_near (by kernel_rfl) (by kernel_rfl))
                        exact Pred.yields_run (v := .agg #[.int .i64 u0, .int .i64 u1, .int .i64 u2]) (Pred.wanted_none rfl) (by go_simp) ⟨PredS.ext_refl _ _ _, rfl⟩
                      · intro b X hE hd hn hV
                        have r112 : b.tmps[112]?.getD undef = .tuple #[.agg #[.int .i64 u0, .int .i64 u1, .int .i64 u2], .bool true] := hV 8 _ 112 rfl rfl rfl (Pred.waits_near (by kernel_rfl) (by kernel_rfl))
                        exact Pred.yields_run (v := .bool true) (Pred.wanted_none rfl) (by go_simp) ⟨PredS.ext_refl _ _ _, rfl⟩
                      · intro b X hE hd hn hV
                        have r122 : b.tmps[122]?.getD undef = .bool true := hV 10 _ 122 rfl rfl rfl (Pred.waits_near (by kernel_rfl) (by kernel_rfl))
                        exact Pred.yields_run (v := .bool true) (Pred.wanted_none rfl) (by go_simp) ⟨PredS.ext_refl _ _ _, rfl⟩
                    · refine ⟨?_, trivial⟩
                      · refine ⟨_, 21, _, rfl, rfl, by simp, rfl, fun ρ w => by first | (go_simp; done) | (go_simp; rfl), rfl, rfl, Pred.waits_near (by kernel_rfl) (by kernel_rfl), fun b X g hE hn hV hp hg hb => ?_⟩
                        have r121 : b.tmps[121]?.getD undef = .agg #[.int .i64 u0, .int .i64 u1, .int .i64 u2] := hV 9 _ 121 rfl rfl rfl (Pred.waits_near (by kernel_rfl) (by kernel_rfl))
                        simp only at hb
                        exact PredS.yields_skip (Pred.wanted_none rfl) (by go_simp) rfl
                    intro v w14 hE hv hL
                    have e0 : v 0 = .int .i64 (n : Int) := hv 0 _ 113 rfl rfl rfl
                    have e1 : v 1 = .slice (some ⟨ga, o, none⟩) N cp := hv 1 _ 114 rfl rfl rfl
                    have e2 : v 2 = .int .i64 (k : Int) := hv 2 _ 115 rfl rfl rfl
                    have e3 : v 3 = .pointer (some ⟨ga, o + k * 3, none⟩) := hv 3 _ 116 rfl rfl rfl
                    have e4 : v 4 = .agg #[.int .i64 (mm : Int), .int .i64 x1, .int .i64 x2] := hv 4 _ 117 rfl rfl rfl
                    have e5 : v 5 = .pointer (some ⟨pb, 0, none⟩) := hv 5 _ 118 rfl rfl rfl
                    have e6 : v 6 = .int .i64 (m : Int) := hv 6 _ 119 rfl rfl rfl
                    have e7 : v 7 = .tuple #[.agg #[.int .i64 u0, .int .i64 u1, .int .i64 u2], .bool true] := hv 7 _ 120 rfl rfl rfl
                    have e8 : v 8 = .tuple #[.agg #[.int .i64 u0, .int .i64 u1, .int .i64 u2], .bool true] := hv 8 _ 112 rfl rfl rfl
                    have e9 : v 9 = .agg #[.int .i64 u0, .int .i64 u1, .int .i64 u2] := hv 9 _ 121 rfl rfl rfl
                    have e10 : v 10 = .bool true := hv 10 _ 122 rfl rfl rfl
                    have e13 : v 13 = .bool true := hv 13 _ 22 rfl rfl rfl
                    obtain ⟨⟨g11, e11, o11, q11, n11⟩, -⟩ := hL
                    replace q11 : blk w14 g11 = some (.cells #[.int .i64 u0, .int .i64 u1, .int .i64 u2] 24 (0, 0)) := q11
                    clear n11
                    simp only [Pred.putsF_cons, Pred.putsF_nil, Nat.zero_add, Nat.reduceAdd, e0, e1, e2, e3, e4, e5, e6, e7, e8, e9, e10, e11, e13, Act.put, List.setIfInBounds_toArray, List.set_cons_zero, List.set_cons_succ]
                    clear e0 e1 e2 e3 e4 e5 e6 e7 e8 e9 e10 e11 e13 hv
                    have og : w13.heap.size ≤ g11 := o11
                    replace bP := (blk_below hE _ lP).trans bP
                    replace bL := (blk_below hE _ lL).trans bL
                    replace CW := Lib.hid (cx_below hE lD CW.out)
                    replace lD : gw < w14.heap.size := Nat.lt_of_lt_of_le lD hE.size
                    replace LZ : Below w11.heap.size w11 w14 := LZ.trans (hE.mono LZ.size)
                    have kw0 := CW.out.1
                    have kw1 := CW.out.2.1
                    have kw2 := CW.out.2.2
                    have hlw := blk_lt bL
                    clear hE CX lC lP lL CU
                    go_upto_region 28 with (fail)
                    refine Rd.name_world ?_
                    intro w15 hw
                    have h15 : Below w14.heap.size w14 w15 := by
                      rw [hw]
                      repeat' (first | (with_reducible exact Below.refl _ _) | (with_reducible refine Rd.below_step ?_ (by assumption)) | (with_reducible refine Rd.below_alloc ?_ _) | (with_reducible refine Rd.below_drewN ?_ _) | (with_reducible refine Below.drew ?_) | (with_reducible refine Below.setCell ?_ ?_ _) | (with_reducible refine Rd.below_setRow ?_ ?_ _) | go_size | (simp only [World.size_alloc]; omega) | omega)
                    have bW : blk w15 w14.heap.size = some (.cells #[.int .i64 (s : Int), .int .i64 b1, .int .i64 b2] 24 (0, 0)) := by rw [hw]; exact blk_alloc_at _ _ _ rfl
                    have hz14 := LZ.size
                    replace bP := (blk_below h15 _ (blk_lt bP)).trans bP
                    replace bL := (blk_below h15 _ (blk_lt bL)).trans bL
                    have bU := (blk_below h15 _ (blk_lt q11)).trans q11
                    replace CW := Lib.hid (cx_below h15 lD CW.out)
                    replace lD : gw < w15.heap.size := Nat.lt_of_lt_of_le lD h15.size
                    replace LZ : Below w11.heap.size w11 w15 := LZ.trans (h15.mono LZ.size)
                    obtain ⟨wb, hwb⟩ : ∃ p, w14.heap.size = p := ⟨_, rfl⟩
                    rw [hwb] at bW hz14 hlw ⊢
                    have lP := blk_lt bP
                    have lU := blk_lt bU
                    clear hw h15 hwb kw0 kw1 kw2 q11 og o11
                    refine Pred.region_vals (Pred.Of [
                        Is (.bool true),
                        Is (.bool true),
                        Is (.agg #[.int .i64 u0, .int .i64 u1, .int .i64 u2]),
                        Is (.agg #[.int .i64 (m : Int), .int .i64 p1, .int .i64 p2]),
                        Is (.bool true),
                        Is (.bool true),
                        Is (.bool true),
                        Is (.slice (some ⟨gw, ow, none⟩) N cw),
                        Is (.int .i64 (k : Int)),
                        Is (.pointer (some ⟨gw, ow + k * 3, none⟩)),
                        Is (.pointer (some ⟨gw, ow + k * 3, none⟩)),
                        Is (.int .i64 (s : Int)),
                        Is (.pointer (some ⟨pb, 0, none⟩)),
                        Is (.int .i64 (m : Int)),
                        Is (.bool true),
                        Is (.bool true)]) (by kernel_rfl) (by kernel_rfl) (by kernel_rfl) (Pred.of_stab ?_) ?_ ?_
                    · exact ⟨is_stab _, is_stab _, is_stab _, is_stab _, is_stab _, is_stab _, is_stab _, is_stab _, is_stab _, is_stab _, is_stab _, is_stab _, is_stab _, is_stab _, is_stab _, is_stab _, trivial⟩
                    · refine ⟨?_, ?_, ?_, ?_, ?_, ?_, ?_, ?_, ?_, ?_, ?_, ?_, ?_, ?_, ?_, ?_, trivial⟩
                      · intro b X hE hd hn hV
                        have r22 : b.tmps[22]?.getD undef = .bool true := (hn 22 (by kernel_rfl)).trans rfl
                        exact Pred.yields_run (v := .bool true) (Pred.wanted_none rfl) (by go_simp) ⟨Pred.ext_refl _ _, rfl⟩
                      · intro b X hE hd hn hV
                        have r127 : b.tmps[127]?.getD undef = .bool true := hV 0 _ 127 rfl rfl (Pred.waits_near (by kernel_rfl) (by kernel_rfl))
                        exact Pred.yields_run (v := .bool true) (Pred.wanted_none rfl) (by go_simp) ⟨Pred.ext_refl _ _, rfl⟩
                      · intro b X hE hd hn hV
                        have r21 : b.tmps[21]?.getD undef = .pointer (some ⟨g11, 0, none⟩) := (hn 21 (by kernel_rfl)).trans rfl
                        have r128 : b.tmps[128]?.getD undef = .bool true := hV 1 _ 128 rfl rfl (Pred.waits_near (by kernel_rfl) (by kernel_rfl))
                        have q := (blk_below hE _ lU).trans bU
                        have z0 : X.cell? ⟨g11, 0, none⟩ = some (.int .i64 u0) := by rw [blk_cell q]; rfl
                        have z1 : X.cell? ⟨g11, 1, none⟩ = some (.int .i64 u1) := by rw [blk_cell q]; rfl
                        have z2 : X.cell? ⟨g11, 2, none⟩ = some (.int .i64 u2) := by rw [blk_cell q]; rfl
                        exact Pred.yields_run (v := .agg #[.int .i64 u0, .int .i64 u1, .int .i64 u2]) ((Pred.wanted_at (g := 1) (d := 128) (f := true) rfl rfl r128).trans rfl) (by go_simp) ⟨Pred.ext_refl _ _, rfl⟩
                      · intro b X hE hd hn hV
                        have r12 : b.tmps[12]?.getD undef = .pointer (some ⟨pb, 0, none⟩) := (hn 12 (by kernel_rfl)).trans rfl
                        have r128 : b.tmps[128]?.getD undef = .bool true := hV 1 _ 128 rfl rfl (Pred.waits_near (by kernel_rfl) (by kernel_rfl))
                        have q := (blk_below hE _ lP).trans bP
                        have z0 : X.cell? ⟨pb, 0, none⟩ = some (.int .i64 (m : Int)) := by rw [blk_cell q]; rfl
                        have z1 : X.cell? ⟨pb, 1, none⟩ = some (.int .i64 p1) := by rw [blk_cell q]; rfl
                        have z2 : X.cell? ⟨pb, 2, none⟩ = some (.int .i64 p2) := by rw [blk_cell q]; rfl
                        exact Pred.yields_run (v := .agg #[.int .i64 (m : Int), .int .i64 p1, .int .i64 p2]) ((Pred.wanted_at (g := 1) (d := 128) (f := true) rfl rfl r128).trans rfl) (by go_simp) ⟨Pred.ext_refl _ _, rfl⟩
                      · intro b X hE hd hn hV
                        have r129 : b.tmps[129]?.getD undef = .agg #[.int .i64 u0, .int .i64 u1, .int .i64 u2] := hV 2 _ 129 rfl rfl (Pred.waits_near (by kernel_rfl) (by kernel_rfl))
                        have r130 : b.tmps[130]?.getD undef = .agg #[.int .i64 (m : Int), .int .i64 p1, .int .i64 p2] := hV 3 _ 130 rfl rfl (Pred.waits_near (by kernel_rfl) (by kernel_rfl))
                        have r128 : b.tmps[128]?.getD undef = .bool true := hV 1 _ 128 rfl rfl (Pred.waits_near (by kernel_rfl) (by kernel_rfl))
                        exact Pred.yields_run (v := .bool true) ((Pred.wanted_at (g := 1) (d := 128) (f := true) rfl rfl r128).trans rfl) (by go_simp) ⟨Pred.ext_refl _ _, rfl⟩
                      · intro b X hE hd hn hV
                        have r128 : b.tmps[128]?.getD undef = .bool true := hV 1 _ 128 rfl rfl (Pred.waits_near (by kernel_rfl) (by kernel_rfl))
                        have r131 : b.tmps[131]?.getD undef = .bool true := hV 4 _ 131 rfl rfl (Pred.waits_near (by kernel_rfl) (by kernel_rfl))
                        exact Pred.yields_run (v := .bool true) (Pred.wanted_none rfl) (by go_simp) ⟨Pred.ext_refl _ _, rfl⟩
                      · intro b X hE hd hn hV
                        have r132 : b.tmps[132]?.getD undef = .bool true := hV 5 _ 132 rfl rfl (Pred.waits_near (by kernel_rfl) (by kernel_rfl))
                        exact Pred.yields_run (v := .bool true) (Pred.wanted_none rfl) (by go_simp) ⟨Pred.ext_refl _ _, rfl⟩
                      · intro b X hE hd hn hV
                        have r14 : b.tmps[14]?.getD undef = .slice (some ⟨gw, ow, none⟩) N cw := (hn 14 (by kernel_rfl)).trans rfl
                        have r133 : b.tmps[133]?.getD undef = .bool true := hV 6 _ 133 rfl rfl (Pred.waits_near (by kernel_rfl) (by kernel_rfl))
                        exact Pred.yields_run (v := .slice (some ⟨gw, ow, none⟩) N cw) ((Pred.wanted_at (g := 6) (d := 133) (f := true) rfl rfl r133).trans rfl) (by go_simp) ⟨Pred.ext_refl _ _, rfl⟩
                      · intro b X hE hd hn hV
                        have r18 : b.tmps[18]?.getD undef = .int .i64 (k : Int) := (hn 18 (by kernel_rfl)).trans rfl
                        have r133 : b.tmps[133]?.getD undef = .bool true := hV 6 _ 133 rfl rfl (Pred.waits_near (by kernel_rfl) (by kernel_rfl))
                        exact Pred.yields_run (v := .int .i64 (k : Int)) ((Pred.wanted_at (g := 6) (d := 133) (f := true) rfl rfl r133).trans rfl) (by go_simp) ⟨Pred.ext_refl _ _, rfl⟩
                      · intro b X hE hd hn hV
                        have r134 : b.tmps[134]?.getD undef = .slice (some ⟨gw, ow, none⟩) N cw := hV 7 _ 134 rfl rfl (Pred.waits_near (by kernel_rfl) (by kernel_rfl))
                        have r135 : b.tmps[135]?.getD undef = .int .i64 (k : Int) := hV 8 _ 135 rfl rfl (Pred.waits_near (by kernel_rfl) (by kernel_rfl))
                        have r133 : b.tmps[133]?.getD undef = .bool true := hV 6 _ 133 rfl rfl (Pred.waits_near (by kernel_rfl) (by kernel_rfl))
                        exact Pred.yields_run (v := .pointer (some ⟨gw, ow + k * 3, none⟩)) ((Pred.wanted_at (g := 6) (d := 133) (f := true) rfl rfl r133).trans rfl) (by go_simp) ⟨Pred.ext_refl _ _, rfl⟩
                      · intro b X hE hd hn hV
                        have r136 : b.tmps[136]?.getD undef = .pointer (some ⟨gw, ow + k * 3, none⟩) := hV 9 _ 136 rfl rfl (Pred.waits_near (by kernel_rfl) (by kernel_rfl))
                        have r133 : b.tmps[133]?.getD undef = .bool true := hV 6 _ 133 rfl rfl (Pred.waits_near (by kernel_rfl) (by kernel_rfl))
                        exact Pred.yields_run (v := .pointer (some ⟨gw, ow + k * 3, none⟩)) ((Pred.wanted_at (g := 6) (d := 133) (f := true) rfl rfl r133).trans rfl) (by go_simp) ⟨Pred.ext_refl _ _, rfl⟩
                      · intro b X hE hd hn hV
                        have r137 : b.tmps[137]?.getD undef = .pointer (some ⟨gw, ow + k * 3, none⟩) := hV 10 _ 137 rfl rfl (Pred.waits_near (by kernel_rfl) (by kernel_rfl))
                        have r133 : b.tmps[133]?.getD undef = .bool true := hV 6 _ 133 rfl rfl (Pred.waits_near (by kernel_rfl) (by kernel_rfl))
                        obtain ⟨z0, z1, z2⟩ := cx_below hE lD CW.out
                        exact Pred.yields_run (v := .int .i64 (s : Int)) ((Pred.wanted_at (g := 6) (d := 133) (f := true) rfl rfl r133).trans rfl) (by go_simp) ⟨Pred.ext_refl _ _, rfl⟩
                      · intro b X hE hd hn hV
                        have r12 : b.tmps[12]?.getD undef = .pointer (some ⟨pb, 0, none⟩) := (hn 12 (by kernel_rfl)).trans rfl
                        have r133 : b.tmps[133]?.getD undef = .bool true := hV 6 _ 133 rfl rfl (Pred.waits_near (by kernel_rfl) (by kernel_rfl))
                        exact Pred.yields_run (v := .pointer (some ⟨pb, 0, none⟩)) ((Pred.wanted_at (g := 6) (d := 133) (f := true) rfl rfl r133).trans rfl) (by go_simp) ⟨Pred.ext_refl _ _, rfl⟩
                      · intro b X hE hd hn hV
                        have r139 : b.tmps[139]?.getD undef = .pointer (some ⟨pb, 0, none⟩) := hV 12 _ 139 rfl rfl (Pred.waits_near (by kernel_rfl) (by kernel_rfl))
                        have r133 : b.tmps[133]?.getD undef = .bool true := hV 6 _ 133 rfl rfl (Pred.waits_near (by kernel_rfl) (by kernel_rfl))
                        have q := (blk_below hE _ lP).trans bP
                        have z : X.cell? ⟨pb, 0, none⟩ = some (.int .i64 m) := by rw [blk_cell q]; rfl
                        exact Pred.yields_run (v := .int .i64 (m : Int)) ((Pred.wanted_at (g := 6) (d := 133) (f := true) rfl rfl r133).trans rfl) (by go_simp) ⟨Pred.ext_refl _ _, rfl⟩
                      · intro b X hE hd hn hV
                        have r138 : b.tmps[138]?.getD undef = .int .i64 (s : Int) := hV 11 _ 138 rfl rfl (Pred.waits_near (by kernel_rfl) (by kernel_rfl))
                        have r140 : b.tmps[140]?.getD undef = .int .i64 (m : Int) := hV 13 _ 140 rfl rfl (Pred.waits_near (by kernel_rfl) (by kernel_rfl))
                        have r133 : b.tmps[133]?.getD undef = .bool true := hV 6 _ 133 rfl rfl (Pred.waits_near (by kernel_rfl) (by kernel_rfl))
                        exact Pred.yields_run (v := .bool true) ((Pred.wanted_at (g := 6) (d := 133) (f := true) rfl rfl r133).trans rfl) (by go_simp) ⟨Pred.ext_refl _ _, rfl⟩
                      · intro b X hE hd hn hV
                        have r133 : b.tmps[133]?.getD undef = .bool true := hV 6 _ 133 rfl rfl (Pred.waits_near (by kernel_rfl) (by kernel_rfl))
                        have r141 : b.tmps[141]?.getD undef = .bool true := hV 14 _ 141 rfl rfl (Pred.waits_near (by kernel_rfl) (by kernel_rfl))
                        exact Pred.yields_run (v := .bool true) (Pred.wanted_none rfl) (by go_simp) ⟨Pred.ext_refl _ _, rfl⟩
                    intro v w16 hE hv
                    have e0 : v 0 = .bool true := hv 0 _ 127 rfl rfl
                    have e1 : v 1 = .bool true := hv 1 _ 128 rfl rfl
                    have e2 : v 2 = .agg #[.int .i64 u0, .int .i64 u1, .int .i64 u2] := hv 2 _ 129 rfl rfl
                    have e3 : v 3 = .agg #[.int .i64 (m : Int), .int .i64 p1, .int .i64 p2] := hv 3 _ 130 rfl rfl
                    have e4 : v 4 = .bool true := hv 4 _ 131 rfl rfl
                    have e5 : v 5 = .bool true := hv 5 _ 132 rfl rfl
                    have e6 : v 6 = .bool true := hv 6 _ 133 rfl rfl
                    have e7 : v 7 = .slice (some ⟨gw, ow, none⟩) N cw := hv 7 _ 134 rfl rfl
                    have e8 : v 8 = .int .i64 (k : Int) := hv 8 _ 135 rfl rfl
                    have e9 : v 9 = .pointer (some ⟨gw, ow + k * 3, none⟩) := hv 9 _ 136 rfl rfl
                    have e10 : v 10 = .pointer (some ⟨gw, ow + k * 3, none⟩) := hv 10 _ 137 rfl rfl
                    have e11 : v 11 = .int .i64 (s : Int) := hv 11 _ 138 rfl rfl
                    have e12 : v 12 = .pointer (some ⟨pb, 0, none⟩) := hv 12 _ 139 rfl rfl
                    have e13 : v 13 = .int .i64 (m : Int) := hv 13 _ 140 rfl rfl
                    have e14 : v 14 = .bool true := hv 14 _ 141 rfl rfl
                    have e15 : v 15 = .bool true := hv 15 _ 142 rfl rfl
                    simp only [Pred.putsF_cons, Pred.putsF_nil, Nat.zero_add, Nat.reduceAdd, e0, e1, e2, e3, e4, e5, e6, e7, e8, e9, e10, e11, e12, e13, e14, e15, Act.put, List.setIfInBounds_toArray, List.set_cons_zero, List.set_cons_succ]
                    clear e0 e1 e2 e3 e4 e5 e6 e7 e8 e9 e10 e11 e12 e13 e14 e15 hv
                    replace bP := (blk_below hE _ lP).trans bP
                    replace bL := (blk_below hE _ (blk_lt bL)).trans bL
                    replace bW := (blk_below hE _ (blk_lt bW)).trans bW
                    replace LZ : Below w11.heap.size w11 w16 := LZ.trans (hE.mono LZ.size)
                    clear hE lP lU bU CW lD
                    have k0 : w16.cell? ⟨pb, 0, none⟩ = some (.int .i64 m) := by rw [blk_cell bP]; rfl
                    have k1 : w16.cell? ⟨pb, 1, none⟩ = some (.int .i64 p1) := by rw [blk_cell bP]; rfl
                    have k2 : w16.cell? ⟨pb, 2, none⟩ = some (.int .i64 p2) := by rw [blk_cell bP]; rfl
                    go_upto_region 30 with (fail)
                    refine Rd.name_world ?_
                    intro w17 hw
                    have bW17 : blk w17 wb = some (.cells #[.int .i64 (m : Int), .int .i64 p1, .int .i64 p2] 24 (0, 0)) := by rw [hw]; exact blk_setRow_of bW _
                    have bL17 : blk w17 lb = some (.cells #[.int .i64 (m : Int), .int .i64 p1, .int .i64 p2] 24 (0, 0)) := by
                      rw [hw, blk_setRow_other _ _ _ _ (by omega)]
                      exact bL
                    have LZ17 : Below w11.heap.size w11 w17 := by
                      rw [hw]
                      exact Rd.below_setRow LZ hz14 _
                    clear hw k0 k1 k2 bW bL bP LZ
                    have l0 : w17.cell? ⟨lb, 0, none⟩ = some (.int .i64 m) := by rw [blk_cell bL17]; rfl
                    have l1 : w17.cell? ⟨lb, 1, none⟩ = some (.int .i64 p1) := by rw [blk_cell bL17]; rfl
                    have l2 : w17.cell? ⟨lb, 2, none⟩ = some (.int .i64 p2) := by rw [blk_cell bL17]; rfl
                    have v0 : w17.cell? ⟨wb, 0, none⟩ = some (.int .i64 m) := by rw [blk_cell bW17]; rfl
                    have v1 : w17.cell? ⟨wb, 1, none⟩ = some (.int .i64 p1) := by rw [blk_cell bW17]; rfl
                    have v2 : w17.cell? ⟨wb, 2, none⟩ = some (.int .i64 p2) := by rw [blk_cell bW17]; rfl
                    have dR : eqL [(m : Int), p1, p2] [(m : Int), p1, p2] = true := decide_eq_true rfl
                    go_wp2
                    exact ⟨⟨k + 1, by omega, by go_num, LZ17⟩, by simp [intOf]; omega⟩
                  · have hms' : ¬ (m : Int) < s := by omega
                    have CL : Hid (∀ X, Tab X t g n (bs.set kk true) → Calls Try.prog 12 #[.pointer (some ⟨t, 0, none⟩), .agg #[.int .i64 mm, .int .i64 x1, .int .i64 x2]] X fun e w' => e = .returned (.tuple #[.agg #[.int .i64 s, .int .i64 b1, .int .i64 b2], .bool true]) ∧ Below X.heap.size X w') := fun X h => by
                      have := look_any t g n (bs.set kk true) mm x1 x2 X h
                      rw [HCM.out, if_neg (fun h => hms h.2.2)] at this
                      exact this
                    clear HCM hu
                    go_wp2_with fail
                    refine (CL.out _ hTX).mono ?_
                    rintro e w12 ⟨rfl, hb12⟩
                    have CX12 := cx_below hb12 HPX.out.lt ⟨c0, c1, c2⟩
                    have CW12 := cx_below hb12 HWX.out.lt CWX.out
                    replace bPX := (blk_below hb12 _ (blk_lt bPX)).trans bPX
                    have LZ12 : Below w11.heap.size w11 w12 := hbt.trans (hb12.mono hbt.size)
                    have lC12 : ga < w12.heap.size := Nat.lt_of_lt_of_le HPX.out.lt hb12.size
                    have lD12 : gw < w12.heap.size := Nat.lt_of_lt_of_le HWX.out.lt hb12.size
                    clear hb12 CL c0 c1 c2 hbt HPX HWX hTX LX CWX
                    go_upto_region 26 with (fail)
                    refine Rd.name_world ?_
                    intro w13 hw
                    have h13 : Below w12.heap.size w12 w13 := by
                      rw [hw]
                      repeat' (first | (with_reducible exact Below.refl _ _) | (with_reducible refine Rd.below_step ?_ (by assumption)) | (with_reducible refine Rd.below_alloc ?_ _) | (with_reducible refine Rd.below_drewN ?_ _) | (with_reducible refine Below.drew ?_) | (with_reducible refine Below.setCell ?_ ?_ _) | (with_reducible refine Rd.below_setRow ?_ ?_ _) | go_size | (simp only [World.size_alloc]; omega) | omega)
                    have bL : blk w13 w12.heap.size = some (.cells #[.int .i64 (s : Int), .int .i64 b1, .int .i64 b2] 24 (0, 0)) := by rw [hw]; exact blk_alloc_at _ _ _ rfl
                    have bP := (blk_below h13 _ (blk_lt bPX)).trans bPX
                    have CX := Lib.hid (cx_below h13 lC12 CX12)
                    have CW := Lib.hid (cx_below h13 lD12 CW12)
                    have LZ : Below w11.heap.size w11 w13 := LZ12.trans (h13.mono LZ12.size)
                    have lC : ga < w13.heap.size := Nat.lt_of_lt_of_le lC12 h13.size
                    have lD : gw < w13.heap.size := Nat.lt_of_lt_of_le lD12 h13.size
                    obtain ⟨lb, hlb⟩ : ∃ p, w12.heap.size = p := ⟨_, rfl⟩
                    rw [hlb] at bL ⊢
                    have lL := blk_lt bL
                    have lP := blk_lt bP
                    clear hw h13 hlb CX12 CW12 LZ12 lC12 lD12 bPX
                    refine PredS.region_vals (W := w13) [⟨11, 12, 24, cs .i64 [0, 0, 0], #[.int .i64 u0, .int .i64 u1, .int .i64 u2]⟩] (PredS.Of [
                        Is (.int .i64 (n : Int)),
                        Is (.slice (some ⟨ga, o, none⟩) N cp),
                        Is (.int .i64 (k : Int)),
                        Is (.pointer (some ⟨ga, o + k * 3, none⟩)),
                        Is (.agg #[.int .i64 (mm : Int), .int .i64 x1, .int .i64 x2]),
                        Is (.pointer (some ⟨pb, 0, none⟩)),
                        Is (.int .i64 (m : Int)),
                        Is (.tuple #[.agg #[.int .i64 u0, .int .i64 u1, .int .i64 u2], .bool true]),
                        Is (.tuple #[.agg #[.int .i64 u0, .int .i64 u1, .int .i64 u2], .bool true]),
                        Is (.agg #[.int .i64 u0, .int .i64 u1, .int .i64 u2]),
                        Is (.bool true),
                        Is undef,
                        Is undef,
                        Is (.bool true)]) (by kernel_rfl) (by kernel_rfl) (by kernel_rfl) (by kernel_rfl) (PredS.of_stab ?_) ?_ ?_ ?_
                    · exact ⟨PredS.is_stab _, PredS.is_stab _, PredS.is_stab _, PredS.is_stab _, PredS.is_stab _, PredS.is_stab _, PredS.is_stab _, PredS.is_stab _, PredS.is_stab _, PredS.is_stab _, PredS.is_stab _, PredS.is_stab _, PredS.is_stab _, PredS.is_stab _, trivial⟩
                    · refine ⟨.inr ?_, .inr ?_, .inr ?_, .inr ?_, .inr ?_, .inr ?_, .inr ?_, .inr ?_, .inr ?_, .inr ?_, .inr ?_, .inl rfl, .inl rfl, .inr ?_, trivial⟩
                      · intro b X hE hd hn hV
                        have r7 : b.tmps[7]?.getD undef = .int .i64 (n : Int) := (hn 7 (by kernel_rfl)).trans rfl
                        exact Pred.yields_run (v := .int .i64 (n : Int)) (Pred.wanted_none rfl) (by go_simp) ⟨PredS.ext_refl _ _ _, rfl⟩
                      · intro b X hE hd hn hV
                        have r10 : b.tmps[10]?.getD undef = .slice (some ⟨ga, o, none⟩) N cp := (hn 10 (by kernel_rfl)).trans rfl
                        exact Pred.yields_run (v := .slice (some ⟨ga, o, none⟩) N cp) (Pred.wanted_none rfl) (by go_simp) ⟨PredS.ext_refl _ _ _, rfl⟩
                      · intro b X hE hd hn hV
                        have r18 : b.tmps[18]?.getD undef = .int .i64 (k : Int) := (hn 18 (by kernel_rfl)).trans rfl
                        exact Pred.yields_run (v := .int .i64 (k : Int)) (Pred.wanted_none rfl) (by go_simp) ⟨PredS.ext_refl _ _ _, rfl⟩
                      · intro b X hE hd hn hV
                        have r114 : b.tmps[114]?.getD undef = .slice (some ⟨ga, o, none⟩) N cp := hV 1 _ 114 rfl rfl rfl (Pred.waits_near (by kernel_rfl) (by kernel_rfl))
                        have r115 : b.tmps[115]?.getD undef = .int .i64 (k : Int) := hV 2 _ 115 rfl rfl rfl (Pred.waits_near (by kernel_rfl) (by kernel_rfl))
                        exact Pred.yields_run (v := .pointer (some ⟨ga, o + k * 3, none⟩)) (Pred.wanted_none rfl) (by go_simp) ⟨PredS.ext_refl _ _ _, rfl⟩
                      · intro b X hE hd hn hV
                        have r116 : b.tmps[116]?.getD undef = .pointer (some ⟨ga, o + k * 3, none⟩) := hV 3 _ 116 rfl rfl rfl (Pred.waits_near (by kernel_rfl) (by kernel_rfl))
                        obtain ⟨z0, z1, z2⟩ := cx_below hE lC CX.out
                        exact Pred.yields_run (v := .agg #[.int .i64 (mm : Int), .int .i64 x1, .int .i64 x2]) (Pred.wanted_none rfl) (by go_simp) ⟨PredS.ext_refl _ _ _, rfl⟩
                      · intro b X hE hd hn hV
                        have r12 : b.tmps[12]?.getD undef = .pointer (some ⟨pb, 0, none⟩) := (hn 12 (by kernel_rfl)).trans rfl
                        exact Pred.yields_run (v := .pointer (some ⟨pb, 0, none⟩)) (Pred.wanted_none rfl) (by go_simp) ⟨PredS.ext_refl _ _ _, rfl⟩
                      · intro b X hE hd hn hV
                        have r118 : b.tmps[118]?.getD undef = .pointer (some ⟨pb, 0, none⟩) := hV 5 _ 118 rfl rfl rfl (Pred.waits_near (by kernel_rfl) (by kernel_rfl))
                        have q := (blk_below hE _ lP).trans bP
                        have z : X.cell? ⟨pb, 0, none⟩ = some (.int .i64 m) := by rw [blk_cell q]; rfl
                        exact Pred.yields_run (v := .int .i64 (m : Int)) (Pred.wanted_none rfl) (by go_simp) ⟨PredS.ext_refl _ _ _, rfl⟩
                      · intro b X hE hd hn hV
                        have r113 : b.tmps[113]?.getD undef = .int .i64 (n : Int) := hV 0 _ 113 rfl rfl rfl (Pred.waits_near (by kernel_rfl) (by kernel_rfl))
                        have r117 : b.tmps[117]?.getD undef = .agg #[.int .i64 (mm : Int), .int .i64 x1, .int .i64 x2] := hV 4 _ 117 rfl rfl rfl (Pred.waits_near (by kernel_rfl) (by kernel_rfl))
                        have r119 : b.tmps[119]?.getD undef = .int .i64 (m : Int) := hV 6 _ 119 rfl rfl rfl (Pred.waits_near (by kernel_rfl) (by kernel_rfl))
                        refine Pred.yields_call (f := 16) (args := #[.int .i64 n, .agg #[.int .i64 (mm : Int), .int .i64 x1, .int .i64 x2], .int .i64 m]) (Pred.wanted_none rfl) (by go_simp) ?_
                        exact (CU.out _).mono fun e w2 ⟨he, hb⟩ => ⟨_, he, PredS.ext_below hb hE.size, rfl⟩
                      · intro b X hE hd hn hV
                        have r120 : b.tmps[120]?.getD undef = .tuple #[.agg #[.int .i64 u0, .int .i64 u1, .int .i64 u2], .bool true] := hV 7 _ 120 rfl rfl rfl (Pred.waits_near (by kernel_rfl) (by kernel_rfl))
                        exact Pred.yields_run (v := .tuple #[.agg #[.int .i64 u0, .int .i64 u1, .int .i64 u2], .bool true]) (Pred.wanted_none rfl) (by go_simp) ⟨PredS.ext_refl _ _ _, rfl⟩
                      · intro b X hE hd hn hV
                        have r112 : b.tmps[112]?.getD undef = .tuple #[.agg #[.int .i64 u0, .int .i64 u1, .int .i64 u2], .bool true] := hV 8 _ 112 rfl rfl rfl (Pred.waits_near (by kernel_rfl) (by kernel_rfl))
                        exact Pred.yields_run (v := .agg #[.int .i64 u0, .int .i64 u1, .int .i64 u2]) (Pred.wanted_none rfl) (by go_simp) ⟨PredS.ext_refl _ _ _, rfl⟩
                      · intro b X hE hd hn hV
                        have r112 : b.tmps[112]?.getD undef = .tuple #[.agg #[.int .i64 u0, .int .i64 u1, .int .i64 u2], .bool true] := hV 8 _ 112 rfl rfl rfl (Pred.waits_near (by kernel_rfl) (by kernel_rfl))
                        exact Pred.yields_run (v := .bool true) (Pred.wanted_none rfl) (by go_simp) ⟨PredS.ext_refl _ _ _, rfl⟩
                      · intro b X hE hd hn hV
                        have r122 : b.tmps[122]?.getD undef = .bool true := hV 10 _ 122 rfl rfl rfl (Pred.waits_near (by kernel_rfl) (by kernel_rfl))
                        exact Pred.yields_run (v := .bool true) (Pred.wanted_none rfl) (by go_simp) ⟨PredS.ext_refl _ _ _, rfl⟩
                    · refine ⟨?_, trivial⟩
                      · refine ⟨_, 21, _, rfl, rfl, by simp, rfl, fun ρ w => by first | (go_simp; done) | (go_simp; rfl), rfl, rfl, Pred.waits_near (by kernel_rfl) (by kernel_rfl), fun b X g hE hn hV hp hg hb => ?_⟩
                        have r121 : b.tmps[121]?.getD undef = .agg #[.int .i64 u0, .int .i64 u1, .int .i64 u2] := hV 9 _ 121 rfl rfl rfl (Pred.waits_near (by kernel_rfl) (by kernel_rfl))
                        simp only at hb
                        exact PredS.yields_skip (Pred.wanted_none rfl) (by go_simp) rfl
                    intro v w14 hE hv hL
                    have e0 : v 0 = .int .i64 (n : Int) := hv 0 _ 113 rfl rfl rfl
                    have e1 : v 1 = .slice (some ⟨ga, o, none⟩) N cp := hv 1 _ 114 rfl rfl rfl
                    have e2 : v 2 = .int .i64 (k : Int) := hv 2 _ 115 rfl rfl rfl
                    have e3 : v 3 = .pointer (some ⟨ga, o + k * 3, none⟩) := hv 3 _ 116 rfl rfl rfl
                    have e4 : v 4 = .agg #[.int .i64 (mm : Int), .int .i64 x1, .int .i64 x2] := hv 4 _ 117 rfl rfl rfl
                    have e5 : v 5 = .pointer (some ⟨pb, 0, none⟩) := hv 5 _ 118 rfl rfl rfl
                    have e6 : v 6 = .int .i64 (m : Int) := hv 6 _ 119 rfl rfl rfl
                    have e7 : v 7 = .tuple #[.agg #[.int .i64 u0, .int .i64 u1, .int .i64 u2], .bool true] := hv 7 _ 120 rfl rfl rfl
                    have e8 : v 8 = .tuple #[.agg #[.int .i64 u0, .int .i64 u1, .int .i64 u2], .bool true] := hv 8 _ 112 rfl rfl rfl
                    have e9 : v 9 = .agg #[.int .i64 u0, .int .i64 u1, .int .i64 u2] := hv 9 _ 121 rfl rfl rfl
                    have e10 : v 10 = .bool true := hv 10 _ 122 rfl rfl rfl
                    have e13 : v 13 = .bool true := hv 13 _ 22 rfl rfl rfl
                    obtain ⟨⟨g11, e11, o11, q11, n11⟩, -⟩ := hL
                    replace q11 : blk w14 g11 = some (.cells #[.int .i64 u0, .int .i64 u1, .int .i64 u2] 24 (0, 0)) := q11
                    clear n11
                    simp only [Pred.putsF_cons, Pred.putsF_nil, Nat.zero_add, Nat.reduceAdd, e0, e1, e2, e3, e4, e5, e6, e7, e8, e9, e10, e11, e13, Act.put, List.setIfInBounds_toArray, List.set_cons_zero, List.set_cons_succ]
                    clear e0 e1 e2 e3 e4 e5 e6 e7 e8 e9 e10 e11 e13 hv
                    have og : w13.heap.size ≤ g11 := o11
                    replace bP := (blk_below hE _ lP).trans bP
                    replace bL := (blk_below hE _ lL).trans bL
                    replace CW := Lib.hid (cx_below hE lD CW.out)
                    replace lD : gw < w14.heap.size := Nat.lt_of_lt_of_le lD hE.size
                    replace LZ : Below w11.heap.size w11 w14 := LZ.trans (hE.mono LZ.size)
                    have kw0 := CW.out.1
                    have kw1 := CW.out.2.1
                    have kw2 := CW.out.2.2
                    have hlw := blk_lt bL
                    clear hE CX lC lP lL CU
                    go_upto_region 28 with (fail)
                    refine Rd.name_world ?_
                    intro w15 hw
                    have h15 : Below w14.heap.size w14 w15 := by
                      rw [hw]
                      repeat' (first | (with_reducible exact Below.refl _ _) | (with_reducible refine Rd.below_step ?_ (by assumption)) | (with_reducible refine Rd.below_alloc ?_ _) | (with_reducible refine Rd.below_drewN ?_ _) | (with_reducible refine Below.drew ?_) | (with_reducible refine Below.setCell ?_ ?_ _) | (with_reducible refine Rd.below_setRow ?_ ?_ _) | go_size | (simp only [World.size_alloc]; omega) | omega)
                    have bW : blk w15 w14.heap.size = some (.cells #[.int .i64 (s : Int), .int .i64 b1, .int .i64 b2] 24 (0, 0)) := by rw [hw]; exact blk_alloc_at _ _ _ rfl
                    have hz14 := LZ.size
                    replace bP := (blk_below h15 _ (blk_lt bP)).trans bP
                    replace bL := (blk_below h15 _ (blk_lt bL)).trans bL
                    have bU := (blk_below h15 _ (blk_lt q11)).trans q11
                    replace CW := Lib.hid (cx_below h15 lD CW.out)
                    replace lD : gw < w15.heap.size := Nat.lt_of_lt_of_le lD h15.size
                    replace LZ : Below w11.heap.size w11 w15 := LZ.trans (h15.mono LZ.size)
                    obtain ⟨wb, hwb⟩ : ∃ p, w14.heap.size = p := ⟨_, rfl⟩
                    rw [hwb] at bW hz14 hlw ⊢
                    have lP := blk_lt bP
                    have lU := blk_lt bU
                    clear hw h15 hwb kw0 kw1 kw2 q11 og o11
                    refine Pred.region_vals (Pred.Of [
                        Is (.bool true),
                        Is (.bool true),
                        Is (.agg #[.int .i64 u0, .int .i64 u1, .int .i64 u2]),
                        Is (.agg #[.int .i64 (m : Int), .int .i64 p1, .int .i64 p2]),
                        Is (.bool true),
                        Is (.bool true),
                        Is (.bool true),
                        Is (.slice (some ⟨gw, ow, none⟩) N cw),
                        Is (.int .i64 (k : Int)),
                        Is (.pointer (some ⟨gw, ow + k * 3, none⟩)),
                        Is (.pointer (some ⟨gw, ow + k * 3, none⟩)),
                        Is (.int .i64 (s : Int)),
                        Is (.pointer (some ⟨pb, 0, none⟩)),
                        Is (.int .i64 (m : Int)),
                        Is (.bool false),
                        Is (.bool false)]) (by kernel_rfl) (by kernel_rfl) (by kernel_rfl) (Pred.of_stab ?_) ?_ ?_
                    · exact ⟨is_stab _, is_stab _, is_stab _, is_stab _, is_stab _, is_stab _, is_stab _, is_stab _, is_stab _, is_stab _, is_stab _, is_stab _, is_stab _, is_stab _, is_stab _, is_stab _, trivial⟩
                    · refine ⟨?_, ?_, ?_, ?_, ?_, ?_, ?_, ?_, ?_, ?_, ?_, ?_, ?_, ?_, ?_, ?_, trivial⟩
                      · intro b X hE hd hn hV
                        have r22 : b.tmps[22]?.getD undef = .bool true := (hn 22 (by kernel_rfl)).trans rfl
                        exact Pred.yields_run (v := .bool true) (Pred.wanted_none rfl) (by go_simp) ⟨Pred.ext_refl _ _, rfl⟩
                      · intro b X hE hd hn hV
                        have r127 : b.tmps[127]?.getD undef = .bool true := hV 0 _ 127 rfl rfl (Pred.waits_near (by kernel_rfl) (by kernel_rfl))
                        exact Pred.yields_run (v := .bool true) (Pred.wanted_none rfl) (by go_simp) ⟨Pred.ext_refl _ _, rfl⟩
                      · intro b X hE hd hn hV
                        have r21 : b.tmps[21]?.getD undef = .pointer (some ⟨g11, 0, none⟩) := (hn 21 (by kernel_rfl)).trans rfl
                        have r128 : b.tmps[128]?.getD undef = .bool true := hV 1 _ 128 rfl rfl (Pred.waits_near (by kernel_rfl) (by kernel_rfl))
                        have q := (blk_below hE _ lU).trans bU
                        have z0 : X.cell? ⟨g11, 0, none⟩ = some (.int .i64 u0) := by rw [blk_cell q]; rfl
                        have z1 : X.cell? ⟨g11, 1, none⟩ = some (.int .i64 u1) := by rw [blk_cell q]; rfl
                        have z2 : X.cell? ⟨g11, 2, none⟩ = some (.int .i64 u2) := by rw [blk_cell q]; rfl
                        exact Pred.yields_run (v := .agg #[.int .i64 u0, .int .i64 u1, .int .i64 u2]) ((Pred.wanted_at (g := 1) (d := 128) (f := true) rfl rfl r128).trans rfl) (by go_simp) ⟨Pred.ext_refl _ _, rfl⟩
                      · intro b X hE hd hn hV
                        have r12 : b.tmps[12]?.getD undef = .pointer (some ⟨pb, 0, none⟩) := (hn 12 (by kernel_rfl)).trans rfl
                        have r128 : b.tmps[128]?.getD undef = .bool true := hV 1 _ 128 rfl rfl (Pred.waits_near (by kernel_rfl) (by kernel_rfl))
                        have q := (blk_below hE _ lP).trans bP
                        have z0 : X.cell? ⟨pb, 0, none⟩ = some (.int .i64 (m : Int)) := by rw [blk_cell q]; rfl
                        have z1 : X.cell? ⟨pb, 1, none⟩ = some (.int .i64 p1) := by rw [blk_cell q]; rfl
                        have z2 : X.cell? ⟨pb, 2, none⟩ = some (.int .i64 p2) := by rw [blk_cell q]; rfl
                        exact Pred.yields_run (v := .agg #[.int .i64 (m : Int), .int .i64 p1, .int .i64 p2]) ((Pred.wanted_at (g := 1) (d := 128) (f := true) rfl rfl r128).trans rfl) (by go_simp) ⟨Pred.ext_refl _ _, rfl⟩
                      · intro b X hE hd hn hV
                        have r129 : b.tmps[129]?.getD undef = .agg #[.int .i64 u0, .int .i64 u1, .int .i64 u2] := hV 2 _ 129 rfl rfl (Pred.waits_near (by kernel_rfl) (by kernel_rfl))
                        have r130 : b.tmps[130]?.getD undef = .agg #[.int .i64 (m : Int), .int .i64 p1, .int .i64 p2] := hV 3 _ 130 rfl rfl (Pred.waits_near (by kernel_rfl) (by kernel_rfl))
                        have r128 : b.tmps[128]?.getD undef = .bool true := hV 1 _ 128 rfl rfl (Pred.waits_near (by kernel_rfl) (by kernel_rfl))
                        exact Pred.yields_run (v := .bool true) ((Pred.wanted_at (g := 1) (d := 128) (f := true) rfl rfl r128).trans rfl) (by go_simp) ⟨Pred.ext_refl _ _, rfl⟩
                      · intro b X hE hd hn hV
                        have r128 : b.tmps[128]?.getD undef = .bool true := hV 1 _ 128 rfl rfl (Pred.waits_near (by kernel_rfl) (by kernel_rfl))
                        have r131 : b.tmps[131]?.getD undef = .bool true := hV 4 _ 131 rfl rfl (Pred.waits_near (by kernel_rfl) (by kernel_rfl))
                        exact Pred.yields_run (v := .bool true) (Pred.wanted_none rfl) (by go_simp) ⟨Pred.ext_refl _ _, rfl⟩
                      · intro b X hE hd hn hV
                        have r132 : b.tmps[132]?.getD undef = .bool true := hV 5 _ 132 rfl rfl (Pred.waits_near (by kernel_rfl) (by kernel_rfl))
                        exact Pred.yields_run (v := .bool true) (Pred.wanted_none rfl) (by go_simp) ⟨Pred.ext_refl _ _, rfl⟩
                      · intro b X hE hd hn hV
                        have r14 : b.tmps[14]?.getD undef = .slice (some ⟨gw, ow, none⟩) N cw := (hn 14 (by kernel_rfl)).trans rfl
                        have r133 : b.tmps[133]?.getD undef = .bool true := hV 6 _ 133 rfl rfl (Pred.waits_near (by kernel_rfl) (by kernel_rfl))
                        exact Pred.yields_run (v := .slice (some ⟨gw, ow, none⟩) N cw) ((Pred.wanted_at (g := 6) (d := 133) (f := true) rfl rfl r133).trans rfl) (by go_simp) ⟨Pred.ext_refl _ _, rfl⟩
                      · intro b X hE hd hn hV
                        have r18 : b.tmps[18]?.getD undef = .int .i64 (k : Int) := (hn 18 (by kernel_rfl)).trans rfl
                        have r133 : b.tmps[133]?.getD undef = .bool true := hV 6 _ 133 rfl rfl (Pred.waits_near (by kernel_rfl) (by kernel_rfl))
                        exact Pred.yields_run (v := .int .i64 (k : Int)) ((Pred.wanted_at (g := 6) (d := 133) (f := true) rfl rfl r133).trans rfl) (by go_simp) ⟨Pred.ext_refl _ _, rfl⟩
                      · intro b X hE hd hn hV
                        have r134 : b.tmps[134]?.getD undef = .slice (some ⟨gw, ow, none⟩) N cw := hV 7 _ 134 rfl rfl (Pred.waits_near (by kernel_rfl) (by kernel_rfl))
                        have r135 : b.tmps[135]?.getD undef = .int .i64 (k : Int) := hV 8 _ 135 rfl rfl (Pred.waits_near (by kernel_rfl) (by kernel_rfl))
                        have r133 : b.tmps[133]?.getD undef = .bool true := hV 6 _ 133 rfl rfl (Pred.waits_near (by kernel_rfl) (by kernel_rfl))
                        exact Pred.yields_run (v := .pointer (some ⟨gw, ow + k * 3, none⟩)) ((Pred.wanted_at (g := 6) (d := 133) (f := true) rfl rfl r133).trans rfl) (by go_simp) ⟨Pred.ext_refl _ _, rfl⟩
                      · intro b X hE hd hn hV
                        have r136 : b.tmps[136]?.getD undef = .pointer (some ⟨gw, ow + k * 3, none⟩) := hV 9 _ 136 rfl rfl (Pred.waits_near (by kernel_rfl) (by kernel_rfl))
                        have r133 : b.tmps[133]?.getD undef = .bool true := hV 6 _ 133 rfl rfl (Pred.waits_near (by kernel_rfl) (by kernel_rfl))
                        exact Pred.yields_run (v := .pointer (some ⟨gw, ow + k * 3, none⟩)) ((Pred.wanted_at (g := 6) (d := 133) (f := true) rfl rfl r133).trans rfl) (by go_simp) ⟨Pred.ext_refl _ _, rfl⟩
                      · intro b X hE hd hn hV
                        have r137 : b.tmps[137]?.getD undef = .pointer (some ⟨gw, ow + k * 3, none⟩) := hV 10 _ 137 rfl rfl (Pred.waits_near (by kernel_rfl) (by kernel_rfl))
                        have r133 : b.tmps[133]?.getD undef = .bool true := hV 6 _ 133 rfl rfl (Pred.waits_near (by kernel_rfl) (by kernel_rfl))
                        obtain ⟨z0, z1, z2⟩ := cx_below hE lD CW.out
                        exact Pred.yields_run (v := .int .i64 (s : Int)) ((Pred.wanted_at (g := 6) (d := 133) (f := true) rfl rfl r133).trans rfl) (by go_simp) ⟨Pred.ext_refl _ _, rfl⟩
                      · intro b X hE hd hn hV
                        have r12 : b.tmps[12]?.getD undef = .pointer (some ⟨pb, 0, none⟩) := (hn 12 (by kernel_rfl)).trans rfl
                        have r133 : b.tmps[133]?.getD undef = .bool true := hV 6 _ 133 rfl rfl (Pred.waits_near (by kernel_rfl) (by kernel_rfl))
                        exact Pred.yields_run (v := .pointer (some ⟨pb, 0, none⟩)) ((Pred.wanted_at (g := 6) (d := 133) (f := true) rfl rfl r133).trans rfl) (by go_simp) ⟨Pred.ext_refl _ _, rfl⟩
                      · intro b X hE hd hn hV
                        have r139 : b.tmps[139]?.getD undef = .pointer (some ⟨pb, 0, none⟩) := hV 12 _ 139 rfl rfl (Pred.waits_near (by kernel_rfl) (by kernel_rfl))
                        have r133 : b.tmps[133]?.getD undef = .bool true := hV 6 _ 133 rfl rfl (Pred.waits_near (by kernel_rfl) (by kernel_rfl))
                        have q := (blk_below hE _ lP).trans bP
                        have z : X.cell? ⟨pb, 0, none⟩ = some (.int .i64 m) := by rw [blk_cell q]; rfl
                        exact Pred.yields_run (v := .int .i64 (m : Int)) ((Pred.wanted_at (g := 6) (d := 133) (f := true) rfl rfl r133).trans rfl) (by go_simp) ⟨Pred.ext_refl _ _, rfl⟩
                      · intro b X hE hd hn hV
                        have r138 : b.tmps[138]?.getD undef = .int .i64 (s : Int) := hV 11 _ 138 rfl rfl (Pred.waits_near (by kernel_rfl) (by kernel_rfl))
                        have r140 : b.tmps[140]?.getD undef = .int .i64 (m : Int) := hV 13 _ 140 rfl rfl (Pred.waits_near (by kernel_rfl) (by kernel_rfl))
                        have r133 : b.tmps[133]?.getD undef = .bool true := hV 6 _ 133 rfl rfl (Pred.waits_near (by kernel_rfl) (by kernel_rfl))
                        exact Pred.yields_run (v := .bool false) ((Pred.wanted_at (g := 6) (d := 133) (f := true) rfl rfl r133).trans rfl) (by go_simp) ⟨Pred.ext_refl _ _, rfl⟩
                      · intro b X hE hd hn hV
                        have r133 : b.tmps[133]?.getD undef = .bool true := hV 6 _ 133 rfl rfl (Pred.waits_near (by kernel_rfl) (by kernel_rfl))
                        have r141 : b.tmps[141]?.getD undef = .bool false := hV 14 _ 141 rfl rfl (Pred.waits_near (by kernel_rfl) (by kernel_rfl))
                        exact Pred.yields_run (v := .bool false) (Pred.wanted_none rfl) (by go_simp) ⟨Pred.ext_refl _ _, rfl⟩
                    intro v w16 hE hv
                    have e0 : v 0 = .bool true := hv 0 _ 127 rfl rfl
                    have e1 : v 1 = .bool true := hv 1 _ 128 rfl rfl
                    have e2 : v 2 = .agg #[.int .i64 u0, .int .i64 u1, .int .i64 u2] := hv 2 _ 129 rfl rfl
                    have e3 : v 3 = .agg #[.int .i64 (m : Int), .int .i64 p1, .int .i64 p2] := hv 3 _ 130 rfl rfl
                    have e4 : v 4 = .bool true := hv 4 _ 131 rfl rfl
                    have e5 : v 5 = .bool true := hv 5 _ 132 rfl rfl
                    have e6 : v 6 = .bool true := hv 6 _ 133 rfl rfl
                    have e7 : v 7 = .slice (some ⟨gw, ow, none⟩) N cw := hv 7 _ 134 rfl rfl
                    have e8 : v 8 = .int .i64 (k : Int) := hv 8 _ 135 rfl rfl
                    have e9 : v 9 = .pointer (some ⟨gw, ow + k * 3, none⟩) := hv 9 _ 136 rfl rfl
                    have e10 : v 10 = .pointer (some ⟨gw, ow + k * 3, none⟩) := hv 10 _ 137 rfl rfl
                    have e11 : v 11 = .int .i64 (s : Int) := hv 11 _ 138 rfl rfl
                    have e12 : v 12 = .pointer (some ⟨pb, 0, none⟩) := hv 12 _ 139 rfl rfl
                    have e13 : v 13 = .int .i64 (m : Int) := hv 13 _ 140 rfl rfl
                    have e14 : v 14 = .bool false := hv 14 _ 141 rfl rfl
                    have e15 : v 15 = .bool false := hv 15 _ 142 rfl rfl
                    simp only [Pred.putsF_cons, Pred.putsF_nil, Nat.zero_add, Nat.reduceAdd, e0, e1, e2, e3, e4, e5, e6, e7, e8, e9, e10, e11, e12, e13, e14, e15, Act.put, List.setIfInBounds_toArray, List.set_cons_zero, List.set_cons_succ]
                    clear e0 e1 e2 e3 e4 e5 e6 e7 e8 e9 e10 e11 e12 e13 e14 e15 hv
                    replace bP := (blk_below hE _ lP).trans bP
                    replace bL := (blk_below hE _ (blk_lt bL)).trans bL
                    replace bW := (blk_below hE _ (blk_lt bW)).trans bW
                    replace LZ : Below w11.heap.size w11 w16 := LZ.trans (hE.mono LZ.size)
                    clear hE lP lU bU CW lD
                    have l0 : w16.cell? ⟨lb, 0, none⟩ = some (.int .i64 (s : Int)) := by rw [blk_cell bL]; rfl
                    have l1 : w16.cell? ⟨lb, 1, none⟩ = some (.int .i64 b1) := by rw [blk_cell bL]; rfl
                    have l2 : w16.cell? ⟨lb, 2, none⟩ = some (.int .i64 b2) := by rw [blk_cell bL]; rfl
                    have v0 : w16.cell? ⟨wb, 0, none⟩ = some (.int .i64 s) := by rw [blk_cell bW]; rfl
                    have v1 : w16.cell? ⟨wb, 1, none⟩ = some (.int .i64 b1) := by rw [blk_cell bW]; rfl
                    have v2 : w16.cell? ⟨wb, 2, none⟩ = some (.int .i64 b2) := by rw [blk_cell bW]; rfl
                    have dR : eqL [(s : Int), b1, b2] [(s : Int), b1, b2] = true := decide_eq_true rfl
                    go_wp2
                    exact ⟨⟨k + 1, by omega, by go_num, LZ⟩, by simp [intOf]; omega⟩
                · have dU : eqL [u0, u1, u2] [(m : Int), p1, p2] = false := decide_eq_false hu
                  have hd0 : True := trivial
                  have CL : Hid (∀ X, Tab X t g n (bs.set kk true) → Calls Try.prog 12 #[.pointer (some ⟨t, 0, none⟩), .agg #[.int .i64 mm, .int .i64 x1, .int .i64 x2]] X fun e w' => e = .returned (.tuple #[.agg #[.int .i64 s, .int .i64 b1, .int .i64 b2], .bool true]) ∧ Below X.heap.size X w') := fun X h => by
                    have := look_any t g n (bs.set kk true) mm x1 x2 X h
                    rw [HCM.out, if_neg (fun h => hu h.2.1)] at this
                    exact this
                  clear HCM hu
                  go_wp2_with fail
                  refine (CL.out _ hTX).mono ?_
                  rintro e w12 ⟨rfl, hb12⟩
                  have CX12 := cx_below hb12 HPX.out.lt ⟨c0, c1, c2⟩
                  have CW12 := cx_below hb12 HWX.out.lt CWX.out
                  replace bPX := (blk_below hb12 _ (blk_lt bPX)).trans bPX
                  have LZ12 : Below w11.heap.size w11 w12 := hbt.trans (hb12.mono hbt.size)
                  have lC12 : ga < w12.heap.size := Nat.lt_of_lt_of_le HPX.out.lt hb12.size
                  have lD12 : gw < w12.heap.size := Nat.lt_of_lt_of_le HWX.out.lt hb12.size
                  clear hb12 CL c0 c1 c2 hbt HPX HWX hTX LX CWX
                  go_upto_region 26 with (fail)
                  refine Rd.name_world ?_
                  intro w13 hw
                  have h13 : Below w12.heap.size w12 w13 := by
                    rw [hw]
                    repeat' (first | (with_reducible exact Below.refl _ _) | (with_reducible refine Rd.below_step ?_ (by assumption)) | (with_reducible refine Rd.below_alloc ?_ _) | (with_reducible refine Rd.below_drewN ?_ _) | (with_reducible refine Below.drew ?_) | (with_reducible refine Below.setCell ?_ ?_ _) | (with_reducible refine Rd.below_setRow ?_ ?_ _) | go_size | (simp only [World.size_alloc]; omega) | omega)
                  have bL : blk w13 w12.heap.size = some (.cells #[.int .i64 (s : Int), .int .i64 b1, .int .i64 b2] 24 (0, 0)) := by rw [hw]; exact blk_alloc_at _ _ _ rfl
                  have bP := (blk_below h13 _ (blk_lt bPX)).trans bPX
                  have CX := Lib.hid (cx_below h13 lC12 CX12)
                  have CW := Lib.hid (cx_below h13 lD12 CW12)
                  have LZ : Below w11.heap.size w11 w13 := LZ12.trans (h13.mono LZ12.size)
                  have lC : ga < w13.heap.size := Nat.lt_of_lt_of_le lC12 h13.size
                  have lD : gw < w13.heap.size := Nat.lt_of_lt_of_le lD12 h13.size
                  obtain ⟨lb, hlb⟩ : ∃ p, w12.heap.size = p := ⟨_, rfl⟩
                  rw [hlb] at bL ⊢
                  have lL := blk_lt bL
                  have lP := blk_lt bP
                  clear hw h13 hlb CX12 CW12 LZ12 lC12 lD12 bPX
                  refine PredS.region_vals (W := w13) [⟨11, 12, 24, cs .i64 [0, 0, 0], #[.int .i64 u0, .int .i64 u1, .int .i64 u2]⟩] (PredS.Of [
                      Is (.int .i64 (n : Int)),
                      Is (.slice (some ⟨ga, o, none⟩) N cp),
                      Is (.int .i64 (k : Int)),
                      Is (.pointer (some ⟨ga, o + k * 3, none⟩)),
                      Is (.agg #[.int .i64 (mm : Int), .int .i64 x1, .int .i64 x2]),
                      Is (.pointer (some ⟨pb, 0, none⟩)),
                      Is (.int .i64 (m : Int)),
                      Is (.tuple #[.agg #[.int .i64 u0, .int .i64 u1, .int .i64 u2], .bool true]),
                      Is (.tuple #[.agg #[.int .i64 u0, .int .i64 u1, .int .i64 u2], .bool true]),
                      Is (.agg #[.int .i64 u0, .int .i64 u1, .int .i64 u2]),
                      Is (.bool true),
                      Is undef,
                      Is undef,
                      Is (.bool true)]) (by kernel_rfl) (by kernel_rfl) (by kernel_rfl) (by kernel_rfl) (PredS.of_stab ?_) ?_ ?_ ?_
                  · exact ⟨PredS.is_stab _, PredS.is_stab _, PredS.is_stab _, PredS.is_stab _, PredS.is_stab _, PredS.is_stab _, PredS.is_stab _, PredS.is_stab _, PredS.is_stab _, PredS.is_stab _, PredS.is_stab _, PredS.is_stab _, PredS.is_stab _, PredS.is_stab _, trivial⟩
                  · refine ⟨.inr ?_, .inr ?_, .inr ?_, .inr ?_, .inr ?_, .inr ?_, .inr ?_, .inr ?_, .inr ?_, .inr ?_, .inr ?_, .inl rfl, .inl rfl, .inr ?_, trivial⟩
                    · intro b X hE hd hn hV
                      have r7 : b.tmps[7]?.getD undef = .int .i64 (n : Int) := (hn 7 (by kernel_rfl)).trans rfl
                      exact Pred.yields_run (v := .int .i64 (n : Int)) (Pred.wanted_none rfl) (by go_simp) ⟨PredS.ext_refl _ _ _, rfl⟩
                    · intro b X hE hd hn hV
                      have r10 : b.tmps[10]?.getD undef = .slice (some ⟨ga, o, none⟩) N cp := (hn 10 (by kernel_rfl)).trans rfl
                      exact Pred.yields_run (v := .slice (some ⟨ga, o, none⟩) N cp) (Pred.wanted_none rfl) (by go_simp) ⟨PredS.ext_refl _ _ _, rfl⟩
                    · intro b X hE hd hn hV
                      have r18 : b.tmps[18]?.getD undef = .int .i64 (k : Int) := (hn 18 (by kernel_rfl)).trans rfl
                      exact Pred.yields_run (v := .int .i64 (k : Int)) (Pred.wanted_none rfl) (by go_simp) ⟨PredS.ext_refl _ _ _, rfl⟩
                    · intro b X hE hd hn hV
                      have r114 : b.tmps[114]?.getD undef = .slice (some ⟨ga, o, none⟩) N cp := hV 1 _ 114 rfl rfl rfl (Pred.waits_near (by kernel_rfl) (by kernel_rfl))
                      have r115 : b.tmps[115]?.getD undef = .int .i64 (k : Int) := hV 2 _ 115 rfl rfl rfl (Pred.waits_near (by kernel_rfl) (by kernel_rfl))
                      exact Pred.yields_run (v := .pointer (some ⟨ga, o + k * 3, none⟩)) (Pred.wanted_none rfl) (by go_simp) ⟨PredS.ext_refl _ _ _, rfl⟩
                    · intro b X hE hd hn hV
                      have r116 : b.tmps[116]?.getD undef = .pointer (some ⟨ga, o + k * 3, none⟩) := hV 3 _ 116 rfl rfl rfl (Pred.waits_near (by kernel_rfl) (by kernel_rfl))
                      obtain ⟨z0, z1, z2⟩ := cx_below hE lC CX.out
                      exact Pred.yields_run (v := .agg #[.int .i64 (mm : Int), .int .i64 x1, .int .i64 x2]) (Pred.wanted_none rfl) (by go_simp) ⟨PredS.ext_refl _ _ _, rfl⟩
                    · intro b X hE hd hn hV
                      have r12 : b.tmps[12]?.getD undef = .pointer (some ⟨pb, 0, none⟩) := (hn 12 (by kernel_rfl)).trans rfl
                      exact Pred.yields_run (v := .pointer (some ⟨pb, 0, none⟩)) (Pred.wanted_none rfl) (by go_simp) ⟨PredS.ext_refl _ _ _, rfl⟩
                    · intro b X hE hd hn hV
                      have r118 : b.tmps[118]?.getD undef = .pointer (some ⟨pb, 0, none⟩) := hV 5 _ 118 rfl rfl rfl (Pred.waits_near (by kernel_rfl) (by kernel_rfl))
                      have q := (blk_below hE _ lP).trans bP
                      have z : X.cell? ⟨pb, 0, none⟩ = some (.int .i64 m) := by rw [blk_cell q]; rfl
                      exact Pred.yields_run (v := .int .i64 (m : Int)) (Pred.wanted_none rfl) (by go_simp) ⟨PredS.ext_refl _ _ _, rfl⟩
                    · intro b X hE hd hn hV
                      have r113 : b.tmps[113]?.getD undef = .int .i64 (n : Int) := hV 0 _ 113 rfl rfl rfl (Pred.waits_near (by kernel_rfl) (by kernel_rfl))
                      have r117 : b.tmps[117]?.getD undef = .agg #[.int .i64 (mm : Int), .int .i64 x1, .int .i64 x2] := hV 4 _ 117 rfl rfl rfl (Pred.waits_near (by kernel_rfl) (by kernel_rfl))
                      have r119 : b.tmps[119]?.getD undef = .int .i64 (m : Int) := hV 6 _ 119 rfl rfl rfl (Pred.waits_near (by kernel_rfl) (by kernel_rfl))
                      refine Pred.yields_call (f := 16) (args := #[.int .i64 n, .agg #[.int .i64 (mm : Int), .int .i64 x1, .int .i64 x2], .int .i64 m]) (Pred.wanted_none rfl) (by go_simp) ?_
                      exact (CU.out _).mono fun e w2 ⟨he, hb⟩ => ⟨_, he, PredS.ext_below hb hE.size, rfl⟩
                    · intro b X hE hd hn hV
                      have r120 : b.tmps[120]?.getD undef = .tuple #[.agg #[.int .i64 u0, .int .i64 u1, .int .i64 u2], .bool true] := hV 7 _ 120 rfl rfl rfl (Pred.waits_near (by kernel_rfl) (by kernel_rfl))
                      exact Pred.yields_run (v := .tuple #[.agg #[.int .i64 u0, .int .i64 u1, .int .i64 u2], .bool true]) (Pred.wanted_none rfl) (by go_simp) ⟨PredS.ext_refl _ _ _, rfl⟩
                    · intro b X hE hd hn hV
                      have r112 : b.tmps[112]?.getD undef = .tuple #[.agg #[.int .i64 u0, .int .i64 u1, .int .i64 u2], .bool true] := hV 8 _ 112 rfl rfl rfl (Pred.waits_near (by kernel_rfl) (by kernel_rfl))
                      exact Pred.yields_run (v := .agg #[.int .i64 u0, .int .i64 u1, .int .i64 u2]) (Pred.wanted_none rfl) (by go_simp) ⟨PredS.ext_refl _ _ _, rfl⟩
                    · intro b X hE hd hn hV
                      have r112 : b.tmps[112]?.getD undef = .tuple #[.agg #[.int .i64 u0, .int .i64 u1, .int .i64 u2], .bool true] := hV 8 _ 112 rfl rfl rfl (Pred.waits_near (by kernel_rfl) (by kernel_rfl))
                      exact Pred.yields_run (v := .bool true) (Pred.wanted_none rfl) (by go_simp) ⟨PredS.ext_refl _ _ _, rfl⟩
                    · intro b X hE hd hn hV
                      have r122 : b.tmps[122]?.getD undef = .bool true := hV 10 _ 122 rfl rfl rfl (Pred.waits_near (by kernel_rfl) (by kernel_rfl))
                      exact Pred.yields_run (v := .bool true) (Pred.wanted_none rfl) (by go_simp) ⟨PredS.ext_refl _ _ _, rfl⟩
                  · refine ⟨?_, trivial⟩
                    · refine ⟨_, 21, _, rfl, rfl, by simp, rfl, fun ρ w => by first | (go_simp; done) | (go_simp; rfl), rfl, rfl, Pred.waits_near (by kernel_rfl) (by kernel_rfl), fun b X g hE hn hV hp hg hb => ?_⟩
                      have r121 : b.tmps[121]?.getD undef = .agg #[.int .i64 u0, .int .i64 u1, .int .i64 u2] := hV 9 _ 121 rfl rfl rfl (Pred.waits_near (by kernel_rfl) (by kernel_rfl))
                      simp only at hb
                      exact PredS.yields_skip (Pred.wanted_none rfl) (by go_simp) rfl
                  intro v w14 hE hv hL
                  have e0 : v 0 = .int .i64 (n : Int) := hv 0 _ 113 rfl rfl rfl
                  have e1 : v 1 = .slice (some ⟨ga, o, none⟩) N cp := hv 1 _ 114 rfl rfl rfl
                  have e2 : v 2 = .int .i64 (k : Int) := hv 2 _ 115 rfl rfl rfl
                  have e3 : v 3 = .pointer (some ⟨ga, o + k * 3, none⟩) := hv 3 _ 116 rfl rfl rfl
                  have e4 : v 4 = .agg #[.int .i64 (mm : Int), .int .i64 x1, .int .i64 x2] := hv 4 _ 117 rfl rfl rfl
                  have e5 : v 5 = .pointer (some ⟨pb, 0, none⟩) := hv 5 _ 118 rfl rfl rfl
                  have e6 : v 6 = .int .i64 (m : Int) := hv 6 _ 119 rfl rfl rfl
                  have e7 : v 7 = .tuple #[.agg #[.int .i64 u0, .int .i64 u1, .int .i64 u2], .bool true] := hv 7 _ 120 rfl rfl rfl
                  have e8 : v 8 = .tuple #[.agg #[.int .i64 u0, .int .i64 u1, .int .i64 u2], .bool true] := hv 8 _ 112 rfl rfl rfl
                  have e9 : v 9 = .agg #[.int .i64 u0, .int .i64 u1, .int .i64 u2] := hv 9 _ 121 rfl rfl rfl
                  have e10 : v 10 = .bool true := hv 10 _ 122 rfl rfl rfl
                  have e13 : v 13 = .bool true := hv 13 _ 22 rfl rfl rfl
                  obtain ⟨⟨g11, e11, o11, q11, n11⟩, -⟩ := hL
                  replace q11 : blk w14 g11 = some (.cells #[.int .i64 u0, .int .i64 u1, .int .i64 u2] 24 (0, 0)) := q11
                  clear n11
                  simp only [Pred.putsF_cons, Pred.putsF_nil, Nat.zero_add, Nat.reduceAdd, e0, e1, e2, e3, e4, e5, e6, e7, e8, e9, e10, e11, e13, Act.put, List.setIfInBounds_toArray, List.set_cons_zero, List.set_cons_succ]
                  clear e0 e1 e2 e3 e4 e5 e6 e7 e8 e9 e10 e11 e13 hv
                  have og : w13.heap.size ≤ g11 := o11
                  replace bP := (blk_below hE _ lP).trans bP
                  replace bL := (blk_below hE _ lL).trans bL
                  replace CW := Lib.hid (cx_below hE lD CW.out)
                  replace lD : gw < w14.heap.size := Nat.lt_of_lt_of_le lD hE.size
                  replace LZ : Below w11.heap.size w11 w14 := LZ.trans (hE.mono LZ.size)
                  have kw0 := CW.out.1
                  have kw1 := CW.out.2.1
                  have kw2 := CW.out.2.2
                  have hlw := blk_lt bL
                  clear hE CX lC lP lL CU
                  go_upto_region 28 with (fail)
                  refine Rd.name_world ?_
                  intro w15 hw
                  have h15 : Below w14.heap.size w14 w15 := by
                    rw [hw]
                    repeat' (first | (with_reducible exact Below.refl _ _) | (with_reducible refine Rd.below_step ?_ (by assumption)) | (with_reducible refine Rd.below_alloc ?_ _) | (with_reducible refine Rd.below_drewN ?_ _) | (with_reducible refine Below.drew ?_) | (with_reducible refine Below.setCell ?_ ?_ _) | (with_reducible refine Rd.below_setRow ?_ ?_ _) | go_size | (simp only [World.size_alloc]; omega) | omega)
                  have bW : blk w15 w14.heap.size = some (.cells #[.int .i64 (s : Int), .int .i64 b1, .int .i64 b2] 24 (0, 0)) := by rw [hw]; exact blk_alloc_at _ _ _ rfl
                  have hz14 := LZ.size
                  replace bP := (blk_below h15 _ (blk_lt bP)).trans bP
                  replace bL := (blk_below h15 _ (blk_lt bL)).trans bL
                  have bU := (blk_below h15 _ (blk_lt q11)).trans q11
                  replace CW := Lib.hid (cx_below h15 lD CW.out)
                  replace lD : gw < w15.heap.size := Nat.lt_of_lt_of_le lD h15.size
                  replace LZ : Below w11.heap.size w11 w15 := LZ.trans (h15.mono LZ.size)
                  obtain ⟨wb, hwb⟩ : ∃ p, w14.heap.size = p := ⟨_, rfl⟩
                  rw [hwb] at bW hz14 hlw ⊢
                  have lP := blk_lt bP
                  have lU := blk_lt bU
                  clear hw h15 hwb kw0 kw1 kw2 q11 og o11
                  refine Pred.region_vals (Pred.Of [
                      Is (.bool true),
                      Is (.bool true),
                      Is (.agg #[.int .i64 u0, .int .i64 u1, .int .i64 u2]),
                      Is (.agg #[.int .i64 (m : Int), .int .i64 p1, .int .i64 p2]),
                      Is (.bool false),
                      Is (.bool false),
                      Is (.bool false),
                      Is (undef),
                      Is (undef),
                      Is (undef),
                      Is (undef),
                      Is (undef),
                      Is (undef),
                      Is (undef),
                      Is (undef),
                      Is (.bool false)]) (by kernel_rfl) (by kernel_rfl) (by kernel_rfl) (Pred.of_stab ?_) ?_ ?_
                  · exact ⟨is_stab _, is_stab _, is_stab _, is_stab _, is_stab _, is_stab _, is_stab _, is_stab _, is_stab _, is_stab _, is_stab _, is_stab _, is_stab _, is_stab _, is_stab _, is_stab _, trivial⟩
                  · refine ⟨?_, ?_, ?_, ?_, ?_, ?_, ?_, ?_, ?_, ?_, ?_, ?_, ?_, ?_, ?_, ?_, trivial⟩
                    · intro b X hE hd hn hV
                      have r22 : b.tmps[22]?.getD undef = .bool true := (hn 22 (by kernel_rfl)).trans rfl
                      exact Pred.yields_run (v := .bool true) (Pred.wanted_none rfl) (by go_simp) ⟨Pred.ext_refl _ _, rfl⟩
                    · intro b X hE hd hn hV
                      have r127 : b.tmps[127]?.getD undef = .bool true := hV 0 _ 127 rfl rfl (Pred.waits_near (by kernel_rfl) (by kernel_rfl))
                      exact Pred.yields_run (v := .bool true) (Pred.wanted_none rfl) (by go_simp) ⟨Pred.ext_refl _ _, rfl⟩
                    · intro b X hE hd hn hV
                      have r21 : b.tmps[21]?.getD undef = .pointer (some ⟨g11, 0, none⟩) := (hn 21 (by kernel_rfl)).trans rfl
                      have r128 : b.tmps[128]?.getD undef = .bool true := hV 1 _ 128 rfl rfl (Pred.waits_near (by kernel_rfl) (by kernel_rfl))
                      have q := (blk_below hE _ lU).trans bU
                      have z0 : X.cell? ⟨g11, 0, none⟩ = some (.int .i64 u0) := by rw [blk_cell q]; rfl
                      have z1 : X.cell? ⟨g11, 1, none⟩ = some (.int .i64 u1) := by rw [blk_cell q]; rfl
                      have z2 : X.cell? ⟨g11, 2, none⟩ = some (.int .i64 u2) := by rw [blk_cell q]; rfl
                      exact Pred.yields_run (v := .agg #[.int .i64 u0, .int .i64 u1, .int .i64 u2]) ((Pred.wanted_at (g := 1) (d := 128) (f := true) rfl rfl r128).trans rfl) (by go_simp) ⟨Pred.ext_refl _ _, rfl⟩
                    · intro b X hE hd hn hV
                      have r12 : b.tmps[12]?.getD undef = .pointer (some ⟨pb, 0, none⟩) := (hn 12 (by kernel_rfl)).trans rfl
                      have r128 : b.tmps[128]?.getD undef = .bool true := hV 1 _ 128 rfl rfl (Pred.waits_near (by kernel_rfl) (by kernel_rfl))
                      have q := (blk_below hE _ lP).trans bP
                      have z0 : X.cell? ⟨pb, 0, none⟩ = some (.int .i64 (m : Int)) := by rw [blk_cell q]; rfl
                      have z1 : X.cell? ⟨pb, 1, none⟩ = some (.int .i64 p1) := by rw [blk_cell q]; rfl
                      have z2 : X.cell? ⟨pb, 2, none⟩ = some (.int .i64 p2) := by rw [blk_cell q]; rfl
                      exact Pred.yields_run (v := .agg #[.int .i64 (m : Int), .int .i64 p1, .int .i64 p2]) ((Pred.wanted_at (g := 1) (d := 128) (f := true) rfl rfl r128).trans rfl) (by go_simp) ⟨Pred.ext_refl _ _, rfl⟩
                    · intro b X hE hd hn hV
                      have r129 : b.tmps[129]?.getD undef = .agg #[.int .i64 u0, .int .i64 u1, .int .i64 u2] := hV 2 _ 129 rfl rfl (Pred.waits_near (by kernel_rfl) (by kernel_rfl))
                      have r130 : b.tmps[130]?.getD undef = .agg #[.int .i64 (m : Int), .int .i64 p1, .int .i64 p2] := hV 3 _ 130 rfl rfl (Pred.waits_near (by kernel_rfl) (by kernel_rfl))
                      have r128 : b.tmps[128]?.getD undef = .bool true := hV 1 _ 128 rfl rfl (Pred.waits_near (by kernel_rfl) (by kernel_rfl))
                      exact Pred.yields_run (v := .bool false) ((Pred.wanted_at (g := 1) (d := 128) (f := true) rfl rfl r128).trans rfl) (by go_simp) ⟨Pred.ext_refl _ _, rfl⟩
                    · intro b X hE hd hn hV
                      have r128 : b.tmps[128]?.getD undef = .bool true := hV 1 _ 128 rfl rfl (Pred.waits_near (by kernel_rfl) (by kernel_rfl))
                      have r131 : b.tmps[131]?.getD undef = .bool false := hV 4 _ 131 rfl rfl (Pred.waits_near (by kernel_rfl) (by kernel_rfl))
                      exact Pred.yields_run (v := .bool false) (Pred.wanted_none rfl) (by go_simp) ⟨Pred.ext_refl _ _, rfl⟩
                    · intro b X hE hd hn hV
                      have r132 : b.tmps[132]?.getD undef = .bool false := hV 5 _ 132 rfl rfl (Pred.waits_near (by kernel_rfl) (by kernel_rfl))
                      exact Pred.yields_run (v := .bool false) (Pred.wanted_none rfl) (by go_simp) ⟨Pred.ext_refl _ _, rfl⟩
                    · intro b X hE hd hn hV
                      have r133 : b.tmps[133]?.getD undef = .bool false := hV 6 _ 133 rfl rfl (Pred.waits_near (by kernel_rfl) (by kernel_rfl))
                      exact Pred.yields_not ((Pred.wanted_at (g := 6) (d := 133) (f := true) rfl rfl r133).trans rfl) ⟨Pred.ext_refl _ _, rfl⟩
                    · intro b X hE hd hn hV
                      have r133 : b.tmps[133]?.getD undef = .bool false := hV 6 _ 133 rfl rfl (Pred.waits_near (by kernel_rfl) (by kernel_rfl))
                      exact Pred.yields_not ((Pred.wanted_at (g := 6) (d := 133) (f := true) rfl rfl r133).trans rfl) ⟨Pred.ext_refl _ _, rfl⟩
                    · intro b X hE hd hn hV
                      have r133 : b.tmps[133]?.getD undef = .bool false := hV 6 _ 133 rfl rfl (Pred.waits_near (by kernel_rfl) (by kernel_rfl))
                      exact Pred.yields_not ((Pred.wanted_at (g := 6) (d := 133) (f := true) rfl rfl r133).trans rfl) ⟨Pred.ext_refl _ _, rfl⟩
                    · intro b X hE hd hn hV
                      have r133 : b.tmps[133]?.getD undef = .bool false := hV 6 _ 133 rfl rfl (Pred.waits_near (by kernel_rfl) (by kernel_rfl))
                      exact Pred.yields_not ((Pred.wanted_at (g := 6) (d := 133) (f := true) rfl rfl r133).trans rfl) ⟨Pred.ext_refl _ _, rfl⟩
                    · intro b X hE hd hn hV
                      have r133 : b.tmps[133]?.getD undef = .bool false := hV 6 _ 133 rfl rfl (Pred.waits_near (by kernel_rfl) (by kernel_rfl))
                      exact Pred.yields_not ((Pred.wanted_at (g := 6) (d := 133) (f := true) rfl rfl r133).trans rfl) ⟨Pred.ext_refl _ _, rfl⟩
                    · intro b X hE hd hn hV
                      have r133 : b.tmps[133]?.getD undef = .bool false := hV 6 _ 133 rfl rfl (Pred.waits_near (by kernel_rfl) (by kernel_rfl))
                      exact Pred.yields_not ((Pred.wanted_at (g := 6) (d := 133) (f := true) rfl rfl r133).trans rfl) ⟨Pred.ext_refl _ _, rfl⟩
                    · intro b X hE hd hn hV
                      have r133 : b.tmps[133]?.getD undef = .bool false := hV 6 _ 133 rfl rfl (Pred.waits_near (by kernel_rfl) (by kernel_rfl))
                      exact Pred.yields_not ((Pred.wanted_at (g := 6) (d := 133) (f := true) rfl rfl r133).trans rfl) ⟨Pred.ext_refl _ _, rfl⟩
                    · intro b X hE hd hn hV
                      have r133 : b.tmps[133]?.getD undef = .bool false := hV 6 _ 133 rfl rfl (Pred.waits_near (by kernel_rfl) (by kernel_rfl))
                      exact Pred.yields_not ((Pred.wanted_at (g := 6) (d := 133) (f := true) rfl rfl r133).trans rfl) ⟨Pred.ext_refl _ _, rfl⟩
                    · intro b X hE hd hn hV
                      have r133 : b.tmps[133]?.getD undef = .bool false := hV 6 _ 133 rfl rfl (Pred.waits_near (by kernel_rfl) (by kernel_rfl))
                      have r141 : b.tmps[141]?.getD undef = undef := hV 14 _ 141 rfl rfl (Pred.waits_near (by kernel_rfl) (by kernel_rfl))
                      exact Pred.yields_run (v := .bool false) (Pred.wanted_none rfl) (by go_simp) ⟨Pred.ext_refl _ _, rfl⟩
                  intro v w16 hE hv
                  have e0 : v 0 = .bool true := hv 0 _ 127 rfl rfl
                  have e1 : v 1 = .bool true := hv 1 _ 128 rfl rfl
                  have e2 : v 2 = .agg #[.int .i64 u0, .int .i64 u1, .int .i64 u2] := hv 2 _ 129 rfl rfl
                  have e3 : v 3 = .agg #[.int .i64 (m : Int), .int .i64 p1, .int .i64 p2] := hv 3 _ 130 rfl rfl
                  have e4 : v 4 = .bool false := hv 4 _ 131 rfl rfl
                  have e5 : v 5 = .bool false := hv 5 _ 132 rfl rfl
                  have e6 : v 6 = .bool false := hv 6 _ 133 rfl rfl
                  have e7 : v 7 = undef := hv 7 _ 134 rfl rfl
                  have e8 : v 8 = undef := hv 8 _ 135 rfl rfl
                  have e9 : v 9 = undef := hv 9 _ 136 rfl rfl
                  have e10 : v 10 = undef := hv 10 _ 137 rfl rfl
                  have e11 : v 11 = undef := hv 11 _ 138 rfl rfl
                  have e12 : v 12 = undef := hv 12 _ 139 rfl rfl
                  have e13 : v 13 = undef := hv 13 _ 140 rfl rfl
                  have e14 : v 14 = undef := hv 14 _ 141 rfl rfl
                  have e15 : v 15 = .bool false := hv 15 _ 142 rfl rfl
                  simp only [Pred.putsF_cons, Pred.putsF_nil, Nat.zero_add, Nat.reduceAdd, e0, e1, e2, e3, e4, e5, e6, e7, e8, e9, e10, e11, e12, e13, e14, e15, Act.put, List.setIfInBounds_toArray, List.set_cons_zero, List.set_cons_succ]
                  clear e0 e1 e2 e3 e4 e5 e6 e7 e8 e9 e10 e11 e12 e13 e14 e15 hv
                  replace bP := (blk_below hE _ lP).trans bP
                  replace bL := (blk_below hE _ (blk_lt bL)).trans bL
                  replace bW := (blk_below hE _ (blk_lt bW)).trans bW
                  replace LZ : Below w11.heap.size w11 w16 := LZ.trans (hE.mono LZ.size)
                  clear hE lP lU bU CW lD
                  have l0 : w16.cell? ⟨lb, 0, none⟩ = some (.int .i64 (s : Int)) := by rw [blk_cell bL]; rfl
                  have l1 : w16.cell? ⟨lb, 1, none⟩ = some (.int .i64 b1) := by rw [blk_cell bL]; rfl
                  have l2 : w16.cell? ⟨lb, 2, none⟩ = some (.int .i64 b2) := by rw [blk_cell bL]; rfl
                  have v0 : w16.cell? ⟨wb, 0, none⟩ = some (.int .i64 s) := by rw [blk_cell bW]; rfl
                  have v1 : w16.cell? ⟨wb, 1, none⟩ = some (.int .i64 b1) := by rw [blk_cell bW]; rfl
                  have v2 : w16.cell? ⟨wb, 2, none⟩ = some (.int .i64 b2) := by rw [blk_cell bW]; rfl
                  have dR : eqL [(s : Int), b1, b2] [(s : Int), b1, b2] = true := decide_eq_true rfl
                  go_wp2
                  exact ⟨⟨k + 1, by omega, by go_num, LZ⟩, by simp [intOf]; omega⟩
            · obtain rfl : N = k := by omega
              cases had
              case true =>
                go_wp2_with fail
                refine (awake_any _).mono ?_
                rintro e w12 ⟨rfl, hb12⟩
                have L12 : Below w.heap.size w w12 := LX.trans (hb12.mono LX.size)
                go_wp2
                go_ret
                exact ⟨rfl, L12⟩
              case false =>
                have k0 : X2.cell? ⟨pb, 0, none⟩ = some (.int .i64 m) := by rw [blk_cell bPX]; rfl
                have k1 : X2.cell? ⟨pb, 1, none⟩ = some (.int .i64 p1) := by rw [blk_cell bPX]; rfl
                have k2 : X2.cell? ⟨pb, 2, none⟩ = some (.int .i64 p2) := by rw [blk_cell bPX]; rfl
                have hnr : ¬ [(m : Int), p1, p2] = [(n : Int), 0, 0] := fun e => by
                  have h1 := root_there hn hroot
                  rw [← e] at h1
                  have h2 : thereV n bs m p1 p2 = true := h1
                  rw [EHAD.out] at h2
                  cases h2
                have hbk : bs.getD kk false = false := by
                  have h2 := EHAD.out
                  unfold thereV at h2
                  rw [VX.out, KQ.out, Bool.true_and] at h2
                  exact h2
                have hkb : kk < bs.length := by
                  have := hT11.len
                  rw [List.length_set, HN.out] at this
                  omega
                have hset := set_any t g n (bs.set kk true) m p1 p2 false X2 hTX
                rw [show setB n m p1 p2 false = true by unfold setB; rw [VX.out, decide_eq_false hnr]; rfl, if_pos rfl, if_pos rfl, show (keyV n m p1 p2).toNat = kk by rw [KQ.out]; rfl, set_back hbk hkb] at hset
                have HS := Lib.hid hset
                clear hset hnr hbk hkb
                go_wp2_with fail
                refine HS.out.mono ?_
                rintro e w12 ⟨rfl, hT12, hg12⟩
                have HP12 := Lib.hid (HPX.out.turn hg12 hne)
                have HW12 := Lib.hid (HWX.out.turn hg12 hgg)
                have L12 : Below w.heap.size w w12 := below_turn LX hg12 hg
                clear hg12 HS HPX HWX LX hbt hTX hT11 HP11 HW11 L11 bPX k0 k1 k2 hP11
                go_wp2_with fail
                go_loopw [24] (fun q X => ∃ k : Nat, k ≤ N ∧ q = .int .i64 k ∧ Below w12.heap.size w12 X) (fun q _ => N - (intOf q).toNat)
                case atStart => exact ⟨0, by omega, rfl, Below.refl _ _⟩
                case round =>
                  obtain ⟨k, hk, rfl, hbt⟩ := hrel
                  rename World => X3
                  have hTX := hT12.bel hbt
                  have HPX := Lib.hid (HP12.out.below hbt)
                  have HWX := Lib.hid (HW12.out.below hbt)
                  have LX : Below w.heap.size w X3 := L12.trans (hbt.mono L12.size)
                  by_cases hkn : k < N
                  · have hkn' : (k : Int) < N := by omega
                    obtain ⟨x0, x1, x2, eX, kX⟩ := page_key hn (show k < (allV (n : Int)).length by rw [HN.out]; exact hkn)
                    obtain ⟨c0, c1, c2⟩ := HPX.out.three (by rw [HN.out]; exact hkn) eX
                    have vX := key_valid kX
                    obtain ⟨-, ⟨hx0, hx1⟩, -, -⟩ := valid_yes vX
                    obtain ⟨mm, hmm⟩ : ∃ q : Nat, x0 = q := ⟨x0.toNat, by omega⟩
                    subst hmm
                    obtain ⟨s, hs1, hs2, hlk, hth, hno⟩ := look_fact hn (by omega) vX hroot
                    obtain ⟨b0, b1, b2, eB⟩ := len3 (upV_len n mm x1 x2 s)
                    have hb0 : b0 = (s : Int) := by
                      have := (up_L vX hs1 hs2).2
                      rw [eB] at this
                      exact this
                    subst hb0
                    rw [eB] at hlk
                    have eW : at_ (wasL n bs N) k = [(s : Int), b1, b2] := by
                      rw [at_eq (by rw [was_len]; exact hkn)]
                      simp only [wasL, List.getElem_map, List.getElem_range]
                      rw [eX]
                      simp only [PgM.g, List.getD_cons_zero, List.getD_cons_succ]
                      rw [hlk]
                    have CWX : Hid (CX3 X3 gw ow k s b1 b2) := Lib.hid (HWX.out.three (by rw [was_len]; exact hkn) eW)
                    have CL : Hid (∀ X, Tab X t g n bs → Calls Try.prog 12 #[.pointer (some ⟨t, 0, none⟩), .agg #[.int .i64 mm, .int .i64 x1, .int .i64 x2]] X fun e w' => e = .returned (.tuple #[.agg #[.int .i64 s, .int .i64 b1, .int .i64 b2], .bool true]) ∧ Below X.heap.size X w') := fun X h => by
                      have := look_any t g n bs mm x1 x2 X h
                      rw [hlk] at this
                      exact this
                    clear eX kX vX hlk hth hno eB eW hx0 hx1 hs1 hs2
                    go_wp2_with fail
                    refine (CL.out _ hTX).mono ?_
                    rintro e w13 ⟨rfl, hb13⟩
                    have CW13 := cx_below hb13 HWX.out.lt CWX.out
                    have LZ13 : Below w12.heap.size w12 w13 := hbt.trans (hb13.mono hbt.size)
                    have lD13 : gw < w13.heap.size := Nat.lt_of_lt_of_le HWX.out.lt hb13.size
                    clear hb13 CL c0 c1 c2 hbt HPX HWX hTX LX CWX
                    go_upto_region 40 with (fail)
                    refine Rd.name_world ?_
                    intro w15 hw
                    have h15 : Below w13.heap.size w13 w15 := by
                      rw [hw]
                      repeat' (first | (with_reducible exact Below.refl _ _) | (with_reducible refine Rd.below_step ?_ (by assumption)) | (with_reducible refine Rd.below_alloc ?_ _) | (with_reducible refine Rd.below_drewN ?_ _) | (with_reducible refine Below.drew ?_) | (with_reducible refine Below.setCell ?_ ?_ _) | (with_reducible refine Rd.below_setRow ?_ ?_ _) | go_size | (simp only [World.size_alloc]; omega) | omega)
                    have bL : blk w15 w13.heap.size = some (.cells #[.int .i64 (s : Int), .int .i64 b1, .int .i64 b2] 24 (0, 0)) := by rw [hw]; exact blk_alloc_at _ _ _ rfl
                    have CW := Lib.hid (cx_below h15 lD13 CW13)
                    have LZ : Below w12.heap.size w12 w15 := LZ13.trans (h15.mono LZ13.size)
                    have lD : gw < w15.heap.size := Nat.lt_of_lt_of_le lD13 h15.size
                    obtain ⟨lb, hlb⟩ : ∃ p, w13.heap.size = p := ⟨_, rfl⟩
                    rw [hlb] at bL ⊢
                    have lL := blk_lt bL
                    have dR : eqL [(s : Int), b1, b2] [(s : Int), b1, b2] = true := decide_eq_true rfl
                    clear hw h15 hlb CW13 LZ13 lD13
                    refine Pred.region_vals (Pred.Of [
                        Is (.agg #[.int .i64 (s : Int), .int .i64 b1, .int .i64 b2]),
                        Is (.slice (some ⟨gw, ow, none⟩) N cw),
                        Is (.int .i64 (k : Int)),
                        Is (.pointer (some ⟨gw, ow + k * 3, none⟩)),
                        Is (.agg #[.int .i64 (s : Int), .int .i64 b1, .int .i64 b2]),
                        Is (.bool false)]) (by kernel_rfl) (by kernel_rfl) (by kernel_rfl) (Pred.of_stab ?_) ?_ ?_
                    · exact ⟨is_stab _, is_stab _, is_stab _, is_stab _, is_stab _, is_stab _, trivial⟩
                    · refine ⟨?_, ?_, ?_, ?_, ?_, ?_, trivial⟩
                      · intro b X hE hd hn hV
                        have r25 : b.tmps[25]?.getD undef = .pointer (some ⟨lb, 0, none⟩) := (hn 25 (by kernel_rfl)).trans rfl
                        have q := (blk_below hE _ lL).trans bL
                        have z0 : X.cell? ⟨lb, 0, none⟩ = some (.int .i64 s) := by rw [blk_cell q]; rfl
                        have z1 : X.cell? ⟨lb, 1, none⟩ = some (.int .i64 b1) := by rw [blk_cell q]; rfl
                        have z2 : X.cell? ⟨lb, 2, none⟩ = some (.int .i64 b2) := by rw [blk_cell q]; rfl
                        exact Pred.yields_run (v := .agg #[.int .i64 (s : Int), .int .i64 b1, .int .i64 b2]) (Pred.wanted_none rfl) (by go_simp) ⟨Pred.ext_refl _ _, rfl⟩
                      · intro b X hE hd hn hV
                        have r14 : b.tmps[14]?.getD undef = .slice (some ⟨gw, ow, none⟩) N cw := (hn 14 (by kernel_rfl)).trans rfl
                        exact Pred.yields_run (v := .slice (some ⟨gw, ow, none⟩) N cw) (Pred.wanted_none rfl) (by go_simp) ⟨Pred.ext_refl _ _, rfl⟩
                      · intro b X hE hd hn hV
                        have r24 : b.tmps[24]?.getD undef = .int .i64 (k : Int) := (hn 24 (by kernel_rfl)).trans rfl
                        exact Pred.yields_run (v := .int .i64 (k : Int)) (Pred.wanted_none rfl) (by go_simp) ⟨Pred.ext_refl _ _, rfl⟩
                      · intro b X hE hd hn hV
                        have r173 : b.tmps[173]?.getD undef = .slice (some ⟨gw, ow, none⟩) N cw := hV 1 _ 173 rfl rfl (Pred.waits_near (by kernel_rfl) (by kernel_rfl))
                        have r174 : b.tmps[174]?.getD undef = .int .i64 (k : Int) := hV 2 _ 174 rfl rfl (Pred.waits_near (by kernel_rfl) (by kernel_rfl))
                        exact Pred.yields_run (v := .pointer (some ⟨gw, ow + k * 3, none⟩)) (Pred.wanted_none rfl) (by go_simp) ⟨Pred.ext_refl _ _, rfl⟩
                      · intro b X hE hd hn hV
                        have r175 : b.tmps[175]?.getD undef = .pointer (some ⟨gw, ow + k * 3, none⟩) := hV 3 _ 175 rfl rfl (Pred.waits_near (by kernel_rfl) (by kernel_rfl))
                        obtain ⟨z0, z1, z2⟩ := cx_below hE lD CW.out
                        exact Pred.yields_run (v := .agg #[.int .i64 (s : Int), .int .i64 b1, .int .i64 b2]) (Pred.wanted_none rfl) (by go_simp) ⟨Pred.ext_refl _ _, rfl⟩
                      · intro b X hE hd hn hV
                        have r172 : b.tmps[172]?.getD undef = .agg #[.int .i64 (s : Int), .int .i64 b1, .int .i64 b2] := hV 0 _ 172 rfl rfl (Pred.waits_near (by kernel_rfl) (by kernel_rfl))
                        have r176 : b.tmps[176]?.getD undef = .agg #[.int .i64 (s : Int), .int .i64 b1, .int .i64 b2] := hV 4 _ 176 rfl rfl (Pred.waits_near (by kernel_rfl) (by kernel_rfl))
                        exact Pred.yields_run (v := .bool false) (Pred.wanted_none rfl) (by go_simp) ⟨Pred.ext_refl _ _, rfl⟩
                    intro v w14 hE hv
                    have e0 : v 0 = .agg #[.int .i64 (s : Int), .int .i64 b1, .int .i64 b2] := hv 0 _ 172 rfl rfl
                    have e1 : v 1 = .slice (some ⟨gw, ow, none⟩) N cw := hv 1 _ 173 rfl rfl
                    have e2 : v 2 = .int .i64 (k : Int) := hv 2 _ 174 rfl rfl
                    have e3 : v 3 = .pointer (some ⟨gw, ow + k * 3, none⟩) := hv 3 _ 175 rfl rfl
                    have e4 : v 4 = .agg #[.int .i64 (s : Int), .int .i64 b1, .int .i64 b2] := hv 4 _ 176 rfl rfl
                    have e5 : v 5 = .bool false := hv 5 _ 177 rfl rfl
                    simp only [Pred.putsF_cons, Pred.putsF_nil, Nat.zero_add, Nat.reduceAdd, e0, e1, e2, e3, e4, e5, Act.put, List.setIfInBounds_toArray, List.set_cons_zero, List.set_cons_succ]
                    clear e0 e1 e2 e3 e4 e5 hv
                    replace LZ : Below w12.heap.size w12 w14 := LZ.trans (hE.mono LZ.size)
                    clear hE lL lD CW bL
                    go_wp2
                    exact ⟨⟨k + 1, by omega, by go_num, LZ⟩, by simp [intOf]; omega⟩
                  · obtain rfl : N = k := by omega
                    go_wp2_with fail
                    refine (awake_any _).mono ?_
                    rintro e w13 ⟨rfl, hb13⟩
                    have L13 : Below w.heap.size w w13 := LX.trans (hb13.mono LX.size)
                    go_wp2
                    go_ret
                    exact ⟨rfl, L13⟩
end Go.Proofs.Ytikoajlncdcbcaa.TbH

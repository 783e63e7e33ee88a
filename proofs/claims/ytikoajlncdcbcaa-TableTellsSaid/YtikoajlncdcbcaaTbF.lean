/-
  The walk of TableFinest.
-/
import Derived.Test.YtikoajlncdcbcaaTbE
import Derived.Test.YtikoajlncdcbcaaInts
import Derived.Test.YtikoajlncdcbcaaAlike
namespace Go.Proofs.Ytikoajlncdcbcaa.TbF
open Go.RowKit Rd Go.Proofs.Ytikoajlncdcbcaa.Row Mid PgM PgA PgB PgC TbA TbB TbC TbD TbE
set_option linter.unusedVariables false
set_option linter.unusedSimpArgs false
set_option maxRecDepth 10000
def keyL (n : Int) (v : List Int) : Int := keyV n (PgM.g v 0) (PgM.g v 1) (PgM.g v 2)
theorem keys0 : ∀ i, i < 1 → keyL 0 (at_ (allV 0) i) = (i : Int) := by decide +kernel
theorem keys1 : ∀ i, i < 5 → keyL 1 (at_ (allV 1) i) = (i : Int) := by decide +kernel
theorem keys2 : ∀ i, i < 21 → keyL 2 (at_ (allV 2) i) = (i : Int) := by decide +kernel
theorem keys3 : ∀ i, i < 85 → keyL 3 (at_ (allV 3) i) = (i : Int) := by decide +kernel
theorem n4 {n : Nat} (h : n ≤ 3) : n = 0 ∨ n = 1 ∨ n = 2 ∨ n = 3 := by omega
theorem len0 : (allV 0).length = 1 := by decide +kernel
theorem len1 : (allV 1).length = 5 := by decide +kernel
theorem len2 : (allV 2).length = 21 := by decide +kernel
theorem len3' : (allV 3).length = 85 := by decide +kernel
theorem keys (n i : Nat) (hn : n ≤ 3) (hi : i < (allV n).length) : keyL n (at_ (allV n) i) = (i : Int) := by
  rcases n4 hn with rfl | rfl | rfl | rfl
  · exact keys0 i (Nat.lt_of_lt_of_eq hi len0)
  · exact keys1 i (Nat.lt_of_lt_of_eq hi len1)
  · exact keys2 i (Nat.lt_of_lt_of_eq hi len2)
  · exact keys3 i (Nat.lt_of_lt_of_eq hi len3')
theorem page_key {n i : Nat} (hn : n ≤ 3) (hi : i < (allV n).length) : ∃ x0 x1 x2, at_ (allV n) i = [x0, x1, x2] ∧ keyV n x0 x1 x2 = (i : Int) := by
  obtain ⟨x0, x1, x2, e⟩ := len3 (three_all n (at_ (allV n) i) (by rw [at_eq hi]; exact List.getElem_mem _))
  have := keys n i hn hi
  rw [e] at this
  exact ⟨x0, x1, x2, e, this⟩
theorem key_valid {d L X Y : Int} {i : Nat} (h : keyV d L X Y = (i : Int)) : validB d L X Y = true := by
  cases hv : validB d L X Y with
  | true => rfl
  | false => rw [keyV_no hv] at h; omega
theorem wf_bd {a : Int} (h : (Lit.int .i64 a).wf = true) : -9223372036854775808 ≤ a ∧ a ≤ 9223372036854775807 := by
  simp [Lit.wf, IntKind.min, IntKind.max, IntKind.signed, IntKind.bits] at h
  omega
theorem start_root (n : Nat) (hn : n ≤ 3) : (startL n).getD 0 false = true := by
  rcases n4 hn with rfl | rfl | rfl | rfl <;> decide +kernel
theorem up_L {n m : Nat} {X Y : Int} {k : Nat} (hv : validB n m X Y = true) (h1 : m ≤ k) (h2 : k ≤ n) : upB n m X Y k = true ∧ PgM.g (upV n m X Y k) 0 = (k : Int) := by
  have e : upB n m X Y k = true := by
    unfold upB
    rw [hv, Bool.true_and]
    exact decide_eq_true ⟨by omega, by omega⟩
  refine ⟨e, ?_⟩
  unfold upV
  rw [if_pos e]
  rfl
theorem up_root {n m : Nat} {X Y : Int} (hv : validB n m X Y = true) : upV n m X Y n = [(n : Int), 0, 0] := by
  obtain ⟨⟨h1, h2⟩, ⟨h3, h4⟩, ⟨h5, h6⟩, ⟨h7, h8⟩⟩ := valid_yes hv
  have e : upB n m X Y n = true := by
    unfold upB
    rw [hv, Bool.true_and]
    exact decide_eq_true ⟨h4, Int.le_refl _⟩
  unfold upV
  rw [if_pos e]
  unfold sd at h6 h8
  rw [Int.ediv_eq_zero_of_lt h5 h6, Int.ediv_eq_zero_of_lt h7 h8]
theorem root_there {n : Nat} {bs : List Bool} (hn : n ≤ 3) (hr : bs.getD 0 false = true) : thereP n bs [(n : Int), 0, 0] = true := by
  have k := root_key hn
  show thereV n bs (n : Int) 0 0 = true
  unfold thereV
  rw [k.1, k.2]
  exact hr
theorem look_r {n m : Nat} {bs : List Bool} {X Y : Int} (hn : n ≤ 3) (hv : validB n m X Y = true) (hr : bs.getD 0 false = true) : ∀ r, r + m ≤ n →
    ∃ s : Nat, n - r ≤ s ∧ s ≤ n ∧ lookL n bs m X Y (r + 1) = (upV n m X Y s, true) ∧ thereP n bs (upV n m X Y s) = true ∧ ∀ k : Nat, n - r ≤ k → k < s → thereP n bs (upV n m X Y k) = false := by
  intro r
  induction r with
  | zero =>
    intro h
    have ht : thereP n bs (upV n m X Y n) = true := by rw [up_root hv]; exact root_there hn hr
    refine ⟨n, by omega, Nat.le_refl _, ?_, ht, fun k h1 h2 => by omega⟩
    show (if thereP n bs (upV n m X Y ((n : Int) - ((0 : Nat) : Int))) = true then _ else _) = _
    rw [show (n : Int) - ((0 : Nat) : Int) = (n : Int) by omega, if_pos ht]
  | succ r ih =>
    intro h
    obtain ⟨s, h1, h2, h3, h4, h5⟩ := ih (by omega)
    have e : (n : Int) - ((r + 1 : Nat) : Int) = ((n - (r + 1) : Nat) : Int) := by omega
    by_cases ht : thereP n bs (upV n m X Y ((n - (r + 1) : Nat) : Int)) = true
    · refine ⟨n - (r + 1), Nat.le_refl _, by omega, ?_, ht, fun k h1 h2 => by omega⟩
      show (if thereP n bs (upV n m X Y ((n : Int) - ((r + 1 : Nat) : Int))) = true then _ else _) = _
      rw [e, if_pos ht]
    · refine ⟨s, by omega, h2, ?_, h4, fun k k1 k2 => ?_⟩
      · show (if thereP n bs (upV n m X Y ((n : Int) - ((r + 1 : Nat) : Int))) = true then _ else _) = _
        rw [e, if_neg ht]
        exact h3
      · by_cases hk : k = n - (r + 1)
        · subst hk
          simpa using ht
        · exact h5 k (by omega) k2
theorem look_fact {n m : Nat} {bs : List Bool} {X Y : Int} (hn : n ≤ 3) (hm : m ≤ n) (hv : validB n m X Y = true) (hr : bs.getD 0 false = true) :
    ∃ s : Nat, m ≤ s ∧ s ≤ n ∧ lookV n bs m X Y = (upV n m X Y s, true) ∧ thereP n bs (upV n m X Y s) = true ∧ ∀ k : Nat, m ≤ k → k < s → thereP n bs (upV n m X Y k) = false := by
  obtain ⟨s, h1, h2, h3, h4, h5⟩ := look_r hn hv hr (n - m) (by omega)
  rw [show n - (n - m) = m by omega] at h1 h5
  refine ⟨s, h1, h2, ?_, h4, h5⟩
  unfold lookV
  rw [if_pos hv, ← h3]
  congr 1
  omega
/-- where the pages' slice lies -/
structure Pgs (X : World) (ga o n : Nat) : Prop where
  lt : ga < X.heap.size
  c : ∀ i, i < (allV (n : Int)).length → ∀ j, j < 3 → X.cell? ⟨ga, o + i * 3 + j, none⟩ = some (.int .i64 (PgM.g (at_ (allV (n : Int)) i) j))
theorem Pgs.below {X Y : World} {ga o n : Nat} (h : Pgs X ga o n) (hb : Below X.heap.size X Y) : Pgs Y ga o n :=
  ⟨Nat.lt_of_lt_of_le h.lt hb.size, fun i hi j hj => (hb.cell (p := ⟨ga, o + i * 3 + j, none⟩) h.lt).trans (h.c i hi j hj)⟩
theorem cell_blk {X Y : World} {b k : Nat} (h : Y.heap[b]? = X.heap[b]?) : Y.cell? ⟨b, k, none⟩ = X.cell? ⟨b, k, none⟩ := by
  unfold World.cell?
  simp only [h]
theorem Pgs.turn {X Y : World} {ga o n g : Nat} (h : Pgs X ga o n) (hg : X.grownBy Y (some g)) (hne : ga ≠ g) : Pgs Y ga o n :=
  ⟨Nat.lt_of_lt_of_le h.lt hg.size, fun i hi j hj => (cell_blk (hg.block ga h.lt (fun e => hne (by injection e)))).trans (h.c i hi j hj)⟩
theorem Pgs.three {X : World} {ga o n i : Nat} {x0 x1 x2 : Int} (h : Pgs X ga o n) (hi : i < (allV (n : Int)).length) (e : at_ (allV (n : Int)) i = [x0, x1, x2]) :
    X.cell? ⟨ga, o + i * 3, none⟩ = some (.int .i64 x0) ∧ X.cell? ⟨ga, o + i * 3 + 1, none⟩ = some (.int .i64 x1) ∧ X.cell? ⟨ga, o + i * 3 + 2, none⟩ = some (.int .i64 x2) := by
  have hx := h.c i hi
  rw [e] at hx
  exact ⟨hx 0 (by omega), hx 1 (by omega), hx 2 (by omega)⟩
theorem pgs_ne {X : World} {ga o n t g : Nat} {bs : List Bool} (h : Pgs X ga o n) (hT : Tab X t g n bs) : ga ≠ g := by
  intro e
  subst e
  have hp := hT.pos
  rw [hT.len] at hp
  have h1 := h.c 0 hp 0 (by omega)
  rw [blk_cell hT.g] at h1
  simp only [bb, Nat.zero_mul, Nat.add_zero] at h1
  rw [List.getElem?_toArray, List.getElem?_map] at h1
  cases h2 : bs[o]? with
  | none => rw [h2] at h1; cases h1
  | some v => rw [h2] at h1; cases h1
theorem root_kept {bs : List Bool} (hr : bs.getD 0 false = true) (k : Nat) : (bs.set k true).getD 0 false = true := by
  cases bs with
  | nil => cases hr
  | cons b bs => cases k <;> simp_all
attribute [local go_sem ↓] store_pg eq_pg3
attribute [local go_sem] one_int pc3 run_store_pg rowStore_eq blk_alloc_at blk_alloc_old blk_drew blk_drewN blk_set_far blk_set_far' blk_grow setRow_alloc_at setRow_alloc_old setRow_drew setRow_drewN
set_option maxHeartbeats 8000000 in
theorem finest_gen (d : Int) (ai : Option Addr) (len cap : Nat) (zs : List Int) (key : Int) (w : World) (hd1 : -9223372036854775808 ≤ d) (hd2 : d ≤ 9223372036854775807) (hk1 : -9223372036854775808 ≤ key) (hk2 : key ≤ 9223372036854775807)
    (hz : ∀ z ∈ zs, Ints.In64 z) (hzl : zs.length = len) (hR : Reads w 1 ai len (Ints.i64s zs)) :
    Calls Try.prog 4 #[.int .i64 d, .slice ai len cap, .int .i64 key] w fun e w' => e = .returned (.bool true) ∧ Below w.heap.size w w' := by
  have HR := Lib.hid hR
  have HZ := Lib.hid hz
  have HZL := Lib.hid hzl
  clear hR hz hzl
  go_enter Try.func4, Try.ntmps4
  go_wp2_with fail
  refine (Alk.round_any d 4 _ hd1 hd2 (by omega) (by omega)).mono ?_
  rintro e w1 ⟨rfl, rfl⟩
  obtain ⟨n, en⟩ : ∃ n : Nat, d % 4 = n := ⟨(d % 4).toNat, by omega⟩
  have hn : n ≤ 3 := by omega
  rw [en]
  clear en
  by_cases hlen : (60 : Int) < len
  · go_wp2_with fail
    refine (awake_any _).mono ?_
    rintro e w2 ⟨rfl, hb2⟩
    go_wp2
    go_ret
    exact ⟨rfl, hb2⟩
  have hl60 : len ≤ 60 := by omega
  go_wp2_with fail
  refine (new_any n hn _).mono ?_
  rintro e w2 ⟨⟨t, g, rfl, ht, hg, hT⟩, hb2⟩
  have L2 : Below w.heap.size w w2 := hb2
  clear hb2
  go_wp2_with fail
  refine (rpages_any n _).mono ?_
  rintro e w3 ⟨⟨ad, cp, rfl, -, -, hP⟩, hb3⟩
  have hT3 := hT.bel hb3
  have L3 : Below w.heap.size w w3 := by repeat' (first | (with_reducible exact Below.refl _ _) | (with_reducible refine Rd.below_step ?_ (by assumption)) | (with_reducible refine Rd.below_alloc ?_ _) | (with_reducible refine Rd.below_drewN ?_ _) | (with_reducible refine Below.drew ?_) | (with_reducible refine Below.setCell ?_ ?_ _) | (with_reducible refine Rd.below_setRow ?_ ?_ _) | go_size | (simp only [World.size_alloc]; omega) | omega)
  have hpos := hT3.pos
  have hsm := hT3.small
  have hl := hT3.len
  obtain ⟨N, hN⟩ : ∃ N, (allV (n : Int)).length = N := ⟨_, rfl⟩
  rw [hN] at hl ⊢
  rw [hl] at hpos hsm
  have HN := Lib.hid hN
  obtain ⟨ga, o, ea, hb0, hc⟩ : ∃ ga o, ad = some ⟨ga, o, none⟩ ∧ ga < w3.heap.size ∧ ∀ i, i < (allV (n : Int)).length → ∀ j, j < 3 → w3.cell? ⟨ga, o + i * 3 + j, none⟩ = some (.int .i64 (PgM.g (at_ (allV (n : Int)) i) j)) := by
    rcases hP.2 with h | h
    · rw [h] at hN; simp at hN; omega
    · exact h
  subst ea
  have HP3 : Hid (Pgs w3 ga o n) := ⟨hb0, hc⟩
  have HT3 : Hid (∃ bs, Tab w3 t g n bs ∧ bs.getD 0 false = true) := ⟨_, hT3, start_root n hn⟩
  clear hb3 hP hc hb0 hT hT3 hl hN L2
  go_wp2_with fail
  go_loopw [11] (fun i X => ∃ k : Nat, k ≤ len ∧ i = .int .i64 k ∧ Hid (∃ bs, Tab X t g n bs ∧ bs.getD 0 false = true) ∧ Hid (Pgs X ga o n) ∧ Below w.heap.size w X) (fun i _ => len - (intOf i).toNat)
  case atStart => exact ⟨0, by omega, rfl, HT3, HP3, L3⟩
  case round =>
    obtain ⟨i, hi, rfl, HT, HP, hb⟩ := hrel
    rename World => Y0
    clear HT3 HP3 L3
    obtain ⟨bs, hT, hroot⟩ := HT.out
    by_cases hlt : i < len
    · have hlt' : (i : Int) < len := by omega
      obtain ⟨ab, ao, rfl, hab, hac⟩ := Ints.cell_of HR.out (k := i) (by rw [HZL.out]; exact hlt) (by omega)
      have hcell := (hb.cell (p := ⟨ab, ao + i, none⟩) hab).trans (hac i (by rw [HZL.out]; exact hlt))
      obtain ⟨z, ez⟩ : ∃ z, zs.getD i 0 = z := ⟨_, rfl⟩
      have hzz := Ints.getD_in HZ.out i
      rw [ez] at hcell hzz
      clear ez hac
      go_wp2_with fail
      refine (Alk.round_any z N _ hzz.1 hzz.2 (by omega) (by omega)).mono ?_
      rintro e w4 ⟨rfl, rfl⟩
      obtain ⟨kk, ek⟩ : ∃ k : Nat, z % N = k := ⟨(z % N).toNat, by have := Int.emod_nonneg z (b := (N : Int)) (by omega); omega⟩
      have hkk : kk < N := by have := Int.emod_lt_of_pos z (b := (N : Int)) (by omega); omega
      rw [ek]
      obtain ⟨x0, x1, x2, eX, kX⟩ := page_key hn (show kk < (allV (n : Int)).length by rw [HN.out]; exact hkk)
      obtain ⟨c0, c1, c2⟩ := HP.out.three (by rw [HN.out]; exact hkk) eX
      have hkk' : (kk : Int) < N := by omega
      have vX := key_valid kX
      have hset := set_any t g n bs x0 x1 x2 true Y0 hT
      rw [show setB n x0 x1 x2 true = true by unfold setB; rw [vX]; simp, if_pos rfl, if_pos rfl] at hset
      have HS := Lib.hid hset
      have hne := pgs_ne HP.out hT
      clear ek eX kX vX hset hT HT
      go_wp2_with fail
      refine HS.out.mono ?_
      rintro e w5 ⟨rfl, hT5, hg5⟩
      have HT5 : Hid (∃ bs, Tab w5 t g n bs ∧ bs.getD 0 false = true) := ⟨_, hT5, root_kept hroot _⟩
      have HP5 := Lib.hid (HP.out.turn hg5 hne)
      have L5 : Below w.heap.size w w5 := below_turn hb hg5 hg
      clear hT5 hg5 HP hb HS c0 c1 c2 hcell
      go_wp2
      go_roundw
      case rel => exact ⟨i + 1, by omega, by go_num, HT5, HP5, L5⟩
      case measure => simp [intOf]; omega
    · obtain rfl : i = len := by omega
      have hsz := hT.lt
      go_wp2_with fail
      refine (Alk.round_any key N _ hk1 hk2 (by omega) (by omega)).mono ?_
      rintro e w4 ⟨rfl, rfl⟩
      obtain ⟨kk, ek⟩ : ∃ k : Nat, key % N = k := ⟨(key % N).toNat, by have := Int.emod_nonneg key (b := (N : Int)) (by omega); omega⟩
      have hkk : kk < N := by have := Int.emod_lt_of_pos key (b := (N : Int)) (by omega); omega
      rw [ek]
      obtain ⟨m0, p1, p2, eX, kX⟩ := page_key hn (show kk < (allV (n : Int)).length by rw [HN.out]; exact hkk)
      obtain ⟨c0, c1, c2⟩ := HP.out.three (by rw [HN.out]; exact hkk) eX
      have hkk' : (kk : Int) < N := by omega
      have vX := key_valid kX
      obtain ⟨-, ⟨hL0, hL1⟩, -, -⟩ := valid_yes vX
      obtain ⟨m, hm⟩ : ∃ m : Nat, m0 = m := ⟨m0.toNat, by omega⟩
      subst hm
      have hmn : m ≤ n := by omega
      obtain ⟨s, hs1, hs2, hlk, hth, hno⟩ := look_fact hn hmn vX hroot
      obtain ⟨a0, a1, a2, eA⟩ := len3 (upV_len n m p1 p2 s)
      have ha0 : a0 = (s : Int) := by
        have := (up_L vX hs1 hs2).2
        rw [eA] at this
        exact this
      subst ha0
      rw [eA] at hlk hth
      have CL : Hid (∀ X, Tab X t g n bs → Calls Try.prog 12 #[.pointer (some ⟨t, 0, none⟩), .agg #[.int .i64 m, .int .i64 p1, .int .i64 p2]] X fun e w' => e = .returned (.tuple #[.agg #[.int .i64 s, .int .i64 a1, .int .i64 a2], .bool true]) ∧ Below X.heap.size X w') := fun X h => by
        have := look_any t g n bs m p1 p2 X h
        rw [hlk] at this
        exact this
      have CT : Hid (∀ X, Tab X t g n bs → Calls Try.prog 14 #[.pointer (some ⟨t, 0, none⟩), .agg #[.int .i64 s, .int .i64 a1, .int .i64 a2]] X fun e w' => e = .returned (.bool true) ∧ Below X.heap.size X w') := fun X h => by
        have := there_any t g n bs s a1 a2 X h
        rw [show thereV n bs s a1 a2 = true from hth] at this
        exact this
      have VX := Lib.hid vX
      have EA := Lib.hid eA
      have NO := Lib.hid hno
      clear ek eX kX vX hlk hth eA hno HT hroot
      go_upto_region 14 with (fail)
      refine Rd.name_world ?_
      intro w5 hw
      have bP : blk w5 Y0.heap.size = some (.cells #[.int .i64 m, .int .i64 p1, .int .i64 p2] 24 (0, 0)) := by rw [hw]; exact blk_alloc_at _ _ _ rfl
      have hT5 : Tab w5 t g n bs := hT.bel (by rw [hw]; repeat' (first | (with_reducible exact Below.refl _ _) | (with_reducible refine Rd.below_step ?_ (by assumption)) | (with_reducible refine Rd.below_alloc ?_ _) | (with_reducible refine Rd.below_drewN ?_ _) | (with_reducible refine Below.drew ?_) | (with_reducible refine Below.setCell ?_ ?_ _) | (with_reducible refine Rd.below_setRow ?_ ?_ _) | go_size | (simp only [World.size_alloc]; omega) | omega))
      have L5 : Below w.heap.size w w5 := by
        rw [hw]
        have := hb.size
        repeat' (first | (with_reducible exact Below.refl _ _) | (with_reducible refine Rd.below_step ?_ (by assumption)) | (with_reducible refine Rd.below_alloc ?_ _) | (with_reducible refine Rd.below_drewN ?_ _) | (with_reducible refine Below.drew ?_) | (with_reducible refine Below.setCell ?_ ?_ _) | (with_reducible refine Rd.below_setRow ?_ ?_ _) | go_size | (simp only [World.size_alloc]; omega) | omega)
      obtain ⟨pb, hpb⟩ : ∃ p, Y0.heap.size = p := ⟨_, rfl⟩
      rw [hpb] at bP ⊢
      clear hw hpb hT hb HP c0 c1 c2 hsz
      have k0 : w5.cell? ⟨pb, 0, none⟩ = some (.int .i64 m) := by rw [blk_cell bP]; rfl
      have k1 : w5.cell? ⟨pb, 1, none⟩ = some (.int .i64 p1) := by rw [blk_cell bP]; rfl
      have k2 : w5.cell? ⟨pb, 2, none⟩ = some (.int .i64 p2) := by rw [blk_cell bP]; rfl
      go_wp2_with fail
      refine (CL.out _ hT5).mono ?_
      rintro e w6 ⟨rfl, hb6⟩
      replace bP := (blk_below hb6 _ (blk_lt bP)).trans bP
      have hT6 := hT5.bel hb6
      have L6 : Below w.heap.size w w6 := by repeat' (first | (with_reducible exact Below.refl _ _) | (with_reducible refine Rd.below_step ?_ (by assumption)) | (with_reducible refine Rd.below_alloc ?_ _) | (with_reducible refine Rd.below_drewN ?_ _) | (with_reducible refine Below.drew ?_) | (with_reducible refine Below.setCell ?_ ?_ _) | (with_reducible refine Rd.below_setRow ?_ ?_ _) | go_size | (simp only [World.size_alloc]; omega) | omega)
      clear hb6 k0 k1 k2 hT5 L5 CL
      go_upto_region 15 with (fail)
      refine Rd.name_world ?_
      intro w7 hw
      have bA : blk w7 w6.heap.size = some (.cells #[.int .i64 s, .int .i64 a1, .int .i64 a2] 24 (0, 0)) := by rw [hw]; exact blk_alloc_at _ _ _ rfl
      replace bP : blk w7 pb = some (.cells #[.int .i64 m, .int .i64 p1, .int .i64 p2] 24 (0, 0)) := by rw [hw]; exact (blk_alloc_old _ _ _ (blk_lt bP)).trans bP
      have hT7 : Tab w7 t g n bs := hT6.bel (by rw [hw]; repeat' (first | (with_reducible exact Below.refl _ _) | (with_reducible refine Rd.below_step ?_ (by assumption)) | (with_reducible refine Rd.below_alloc ?_ _) | (with_reducible refine Rd.below_drewN ?_ _) | (with_reducible refine Below.drew ?_) | (with_reducible refine Below.setCell ?_ ?_ _) | (with_reducible refine Rd.below_setRow ?_ ?_ _) | go_size | (simp only [World.size_alloc]; omega) | omega))
      have L7 : Below w.heap.size w w7 := by
        rw [hw]
        repeat' (first | (with_reducible exact Below.refl _ _) | (with_reducible refine Rd.below_step ?_ (by assumption)) | (with_reducible refine Rd.below_alloc ?_ _) | (with_reducible refine Rd.below_drewN ?_ _) | (with_reducible refine Below.drew ?_) | (with_reducible refine Below.setCell ?_ ?_ _) | (with_reducible refine Rd.below_setRow ?_ ?_ _) | go_size | (simp only [World.size_alloc]; omega) | omega)
      obtain ⟨pa, hpa⟩ : ∃ p, w6.heap.size = p := ⟨_, rfl⟩
      rw [hpa] at bA ⊢
      clear hw hpa hT6 L6
      have j0 : w7.cell? ⟨pa, 0, none⟩ = some (.int .i64 s) := by rw [blk_cell bA]; rfl
      have j1 : w7.cell? ⟨pa, 1, none⟩ = some (.int .i64 a1) := by rw [blk_cell bA]; rfl
      have j2 : w7.cell? ⟨pa, 2, none⟩ = some (.int .i64 a2) := by rw [blk_cell bA]; rfl
      have k0 : w7.cell? ⟨pb, 0, none⟩ = some (.int .i64 m) := by rw [blk_cell bP]; rfl
      have k1 : w7.cell? ⟨pb, 1, none⟩ = some (.int .i64 p1) := by rw [blk_cell bP]; rfl
      have k2 : w7.cell? ⟨pb, 2, none⟩ = some (.int .i64 p2) := by rw [blk_cell bP]; rfl
      have hsm1 : ¬ (s : Int) < m := by omega
      go_wp2_with fail
      refine (CT.out _ hT7).mono ?_
      rintro e w8 ⟨rfl, hb8⟩
      replace bP := (blk_below hb8 _ (blk_lt bP)).trans bP
      replace bA := (blk_below hb8 _ (blk_lt bA)).trans bA
      have hT8 := hT7.bel hb8
      have L8 : Below w.heap.size w w8 := by repeat' (first | (with_reducible exact Below.refl _ _) | (with_reducible refine Rd.below_step ?_ (by assumption)) | (with_reducible refine Rd.below_alloc ?_ _) | (with_reducible refine Rd.below_drewN ?_ _) | (with_reducible refine Below.drew ?_) | (with_reducible refine Below.setCell ?_ ?_ _) | (with_reducible refine Rd.below_setRow ?_ ?_ _) | go_size | (simp only [World.size_alloc]; omega) | omega)
      clear hb8 k0 k1 k2 j0 j1 j2 hT7 L7 CT
      have j0 : w8.cell? ⟨pa, 0, none⟩ = some (.int .i64 s) := by rw [blk_cell bA]; rfl
      have j1 : w8.cell? ⟨pa, 1, none⟩ = some (.int .i64 a1) := by rw [blk_cell bA]; rfl
      have j2 : w8.cell? ⟨pa, 2, none⟩ = some (.int .i64 a2) := by rw [blk_cell bA]; rfl
      have k0 : w8.cell? ⟨pb, 0, none⟩ = some (.int .i64 m) := by rw [blk_cell bP]; rfl
      have k1 : w8.cell? ⟨pb, 1, none⟩ = some (.int .i64 p1) := by rw [blk_cell bP]; rfl
      have k2 : w8.cell? ⟨pb, 2, none⟩ = some (.int .i64 p2) := by rw [blk_cell bP]; rfl
      have lA := blk_lt bA
      have lP := blk_lt bP
      go_wp2_with fail
      clear j0 j1 j2 k0 k1 k2
      go_loopw [15] (fun v X => ∃ k : Nat, m ≤ k ∧ k ≤ n + 1 ∧ v = .int .i64 k ∧ Below w8.heap.size w8 X) (fun v _ => n + 1 - (intOf v).toNat)
      case atStart => exact ⟨m, Nat.le_refl _, by omega, rfl, Below.refl _ _⟩
      case round =>
        obtain ⟨k, hkm, hkn1, rfl, hbt⟩ := hrel
        rename World => X1
        have LX : Below w.heap.size w X1 := L8.trans (hbt.mono L8.size)
        by_cases hkn : k ≤ n
        · have hkn' : (k : Int) ≤ n := by omega
          obtain ⟨u0, u1, u2, eU⟩ := len3 (upV_len n m p1 p2 k)
          have CU : Hid (∀ X : World, Calls Try.prog 16 #[.int .i64 n, .agg #[.int .i64 m, .int .i64 p1, .int .i64 p2], .int .i64 k] X fun e w' => e = .returned (.tuple #[.agg #[.int .i64 u0, .int .i64 u1, .int .i64 u2], .bool true]) ∧ Below X.heap.size X w') := fun X => by
            have := rup_any n m p1 p2 k X
            rw [eU, (up_L VX.out hkm hkn).1] at this
            exact this
          have EU := Lib.hid eU
          have bP1 := (blk_below hbt _ lP).trans bP
          have bA1 := (blk_below hbt _ lA).trans bA
          have hTX := hT8.bel hbt
          have k0 : X1.cell? ⟨pb, 0, none⟩ = some (.int .i64 m) := by rw [blk_cell bP1]; rfl
          have k1 : X1.cell? ⟨pb, 1, none⟩ = some (.int .i64 p1) := by rw [blk_cell bP1]; rfl
          have k2 : X1.cell? ⟨pb, 2, none⟩ = some (.int .i64 p2) := by rw [blk_cell bP1]; rfl
          clear eU
          go_wp2_with fail
          refine (CU.out _).mono ?_
          rintro e w9 ⟨rfl, hb9⟩
          replace bA1 := (blk_below hb9 _ (blk_lt bA1)).trans bA1
          have hT9 := hTX.bel hb9
          have LZ9 : Below w8.heap.size w8 w9 := hbt.trans (hb9.mono hbt.size)
          clear hb9 k0 k1 k2 bP1 hTX CU hbt LX
          go_upto_region 21 with (fail)
          refine Rd.name_world ?_
          intro w10 hw
          have bU : blk w10 w9.heap.size = some (.cells #[.int .i64 u0, .int .i64 u1, .int .i64 u2] 24 (0, 0)) := by rw [hw]; exact blk_alloc_at _ _ _ rfl
          replace bA1 : blk w10 pa = some (.cells #[.int .i64 s, .int .i64 a1, .int .i64 a2] 24 (0, 0)) := by rw [hw]; exact (blk_alloc_old _ _ _ (blk_lt bA1)).trans bA1
          have hT10 : Tab w10 t g n bs := hT9.bel (by rw [hw]; repeat' (first | (with_reducible exact Below.refl _ _) | (with_reducible refine Rd.below_step ?_ (by assumption)) | (with_reducible refine Rd.below_alloc ?_ _) | (with_reducible refine Rd.below_drewN ?_ _) | (with_reducible refine Below.drew ?_) | (with_reducible refine Below.setCell ?_ ?_ _) | (with_reducible refine Rd.below_setRow ?_ ?_ _) | go_size | (simp only [World.size_alloc]; omega) | omega))
          have LZ10 : Below w8.heap.size w8 w10 := by
            rw [hw]
            have := LZ9.size
            repeat' (first | (with_reducible exact Below.refl _ _) | (with_reducible refine Rd.below_step ?_ (by assumption)) | (with_reducible refine Rd.below_alloc ?_ _) | (with_reducible refine Rd.below_drewN ?_ _) | (with_reducible refine Below.drew ?_) | (with_reducible refine Below.setCell ?_ ?_ _) | (with_reducible refine Rd.below_setRow ?_ ?_ _) | go_size | (simp only [World.size_alloc]; omega) | omega)
          obtain ⟨pu, hpu⟩ : ∃ p, w9.heap.size = p := ⟨_, rfl⟩
          rw [hpu] at bU ⊢
          clear hw hpu hT9 LZ9
          have j0 : w10.cell? ⟨pa, 0, none⟩ = some (.int .i64 s) := by rw [blk_cell bA1]; rfl
          have j1 : w10.cell? ⟨pa, 1, none⟩ = some (.int .i64 a1) := by rw [blk_cell bA1]; rfl
          have j2 : w10.cell? ⟨pa, 2, none⟩ = some (.int .i64 a2) := by rw [blk_cell bA1]; rfl
          have k0 : w10.cell? ⟨pu, 0, none⟩ = some (.int .i64 u0) := by rw [blk_cell bU]; rfl
          have k1 : w10.cell? ⟨pu, 1, none⟩ = some (.int .i64 u1) := by rw [blk_cell bU]; rfl
          have k2 : w10.cell? ⟨pu, 2, none⟩ = some (.int .i64 u2) := by rw [blk_cell bU]; rfl
          by_cases hks : k < s
          · have hks1 : (k : Int) < s := by omega
            have hks2 : ((k : Int) == (s : Int)) = false := by simp; omega
            have CT2 : Hid (∀ X, Tab X t g n bs → Calls Try.prog 14 #[.pointer (some ⟨t, 0, none⟩), .agg #[.int .i64 u0, .int .i64 u1, .int .i64 u2]] X fun e w' => e = .returned (.bool false) ∧ Below X.heap.size X w') := fun X h => by
              have := there_any t g n bs u0 u1 u2 X h
              have h2 := NO.out k hkm hks
              rw [EU.out] at h2
              rw [show thereV n bs u0 u1 u2 = false from h2] at this
              exact this
            go_wp2_with fail
            refine (CT2.out _ hT10).mono ?_
            rintro e w11 ⟨rfl, hb11⟩
            replace bA1 := (blk_below hb11 _ (blk_lt bA1)).trans bA1
            have LZ11 : Below w8.heap.size w8 w11 := LZ10.trans (hb11.mono LZ10.size)
            clear hb11 j0 j1 j2 k0 k1 k2 bU hT10 LZ10 CT2
            have j0 : w11.cell? ⟨pa, 0, none⟩ = some (.int .i64 s) := by rw [blk_cell bA1]; rfl
            have j1 : w11.cell? ⟨pa, 1, none⟩ = some (.int .i64 a1) := by rw [blk_cell bA1]; rfl
            have j2 : w11.cell? ⟨pa, 2, none⟩ = some (.int .i64 a2) := by rw [blk_cell bA1]; rfl
            go_wp2
            refine ⟨?_, ?measure⟩
            · simp
              exact ⟨_, _, ⟨k + 1, by omega, by omega, rfl, LZ11⟩, rfl, by simp, hs1⟩
            case measure => simp [intOf]; omega
          · have hks1 : ¬ (k : Int) < s := by omega
            by_cases hke : k = s
            · subst hke
              have eUA : [u0, u1, u2] = [(k : Int), a1, a2] := by rw [← EU.out, ← EA.out]
              have d0 : eqL [u0, u1, u2] [(k : Int), a1, a2] = true := decide_eq_true eUA
              clear eUA EU
              go_wp2
              exact ⟨⟨k + 1, by omega, by omega, by omega⟩, by simp [intOf]; omega⟩
            · have hks2 : ((k : Int) == (s : Int)) = false := by simp; omega
              go_wp2
              exact ⟨⟨k + 1, by omega, by omega, by omega⟩, by simp [intOf]; omega⟩
        · obtain rfl : k = n + 1 := by omega
          have hkn' : ¬ ((n + 1 : Nat) : Int) ≤ (n : Int) := by omega
          go_wp2_with fail
          refine (awake_any _).mono ?_
          rintro e w12 ⟨rfl, hb12⟩
          have L12 : Below w.heap.size w w12 := LX.trans (hb12.mono LX.size)
          go_wp2
          go_ret
          exact ⟨rfl, L12⟩
end Go.Proofs.Ytikoajlncdcbcaa.TbF

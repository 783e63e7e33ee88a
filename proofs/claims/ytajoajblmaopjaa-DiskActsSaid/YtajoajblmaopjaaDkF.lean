/-
  A sector reads as it was written last (DiskLast).
-/
import Derived.Test.YtajoajblmaopjaaDkE
import Derived.Test.YtajoajblmaopjaaAlike
import Derived.Test.YtajoajblmaopjaaInts
import Derived.Test.YtajoajblmaopjaaBools
import Derived.IntWalk
import Derived.Deep.CutRange
namespace Go.Proofs.Ytajoajblmaopjaa.DkF
open Go.RowKit Rd Go.Proofs.Ytajoajblmaopjaa.Row Mid DkM DkA DkB DkC DkD DkE
set_option linter.unusedVariables false
set_option linter.unusedSimpArgs false
set_option maxRecDepth 10000
def cs (k : IntKind) (l : List Int) : Array Value := (l.map (Value.int k)).toArray
theorem made_int (n : Nat) : madeCells (Value.cells (.int .i64 0)) n = cs .i64 (List.replicate n 0) := by
  apply Array.ext
  · simp [madeCells, cs]
  · intro i h1 h2
    simp only [madeCells, Value.cells, Nat.mod_one, cs, List.map_replicate, Array.getElem_map, List.getElem_toArray, List.getElem_replicate]
    show #[Value.int IntKind.i64 0][(Array.range n)[i]'(by simpa [madeCells] using h1) % 1]! = _
    rw [Nat.mod_one]
    rfl
theorem run_make_int (n : Nat) (hn : n ≤ 100000) (w : World) :
    (Instr.makeSlice 41 (.int .i64 (n : Int)) (.int .i64 (n : Int))).run Try.prog w = .ok (.slice (some ⟨w.heap.size, 0, none⟩) n n) (w.alloc (.cells (cs .i64 (List.replicate n 0)) 3)) := by
  obtain ⟨i, hi, hz, hs, hb⟩ := info_parts info_int
  have hr := run_make (P := Try.prog) w 41 3 i (.int .i64 0) Try.underlying41 hi hz .i64 .i64 (n : Int) (n : Int) (by omega) (by omega) (by rw [hb]; omega) (by omega)
  simp only [Int.toNat_natCast, hs, Nat.mul_one] at hr
  rw [hr, made_int]
theorem at_i {os : List Int} {k : Nat} (h : k < os.length) : (cs .i64 os)[k]? = some (.int .i64 (os.getD k 0)) := by simp [cs, List.getD, h]
theorem set_i (os : List Int) (k : Nat) (v : Int) : (cs .i64 os).setIfInBounds k (.int .i64 v) = cs .i64 (os.set k v) := by simp [cs, List.setIfInBounds_toArray, List.map_set]
/-- what a sector should be -/
def wantL (v : Int) : List Int := if 0 < v then secL v.toNat else z32
theorem wantL_len (v : Int) : (wantL v).length = 32 := by
  unfold wantL; split
  · exact secL_len _
  · rfl
theorem wantL_bd (v : Int) : ∀ z ∈ wantL v, 0 ≤ z ∧ z ≤ 255 := by
  unfold wantL; split
  · exact secL_bd _
  · exact z32_bd
theorem rd_new {n j : Nat} (hj : j < n) : rd (newS n) j = z32 := by
  unfold rd newS
  simp [List.getD, hj]
theorem rd_wr {s : DS} {i : Nat} {l : List Int} (hi : i < s.H.length) (j : Nat) : rd (wrS s i l) j = if j = i then l else rd s j := by
  unfold rd wrS
  simp only
  by_cases e : j = i
  · subst e
    rw [if_pos rfl, List.getD_eq_getElem?_getD, List.getElem?_set_self hi]
    rfl
  · rw [if_neg e, List.getD_eq_getElem?_getD, List.getElem?_set_ne (Ne.symm e), ← List.getD_eq_getElem?_getD]
/-- the disk, and what was written last -/
structure La (w X : World) (b kg hg ow n k : Nat) (s : DS) (os : List Int) : Prop where
  l : Lw w X b kg hg n s
  row : blk X ow = some (.cells (cs .i64 os) 3 (0, 0))
  ol : os.length = n
  rel : ∀ j, j < n → rd s j = wantL (os.getD j 0)
  bd : ∀ j, os.getD j 0 ≤ 200
  nums : s.lf = -1 ∧ s.dn = false ∧ s.wr = k
  lo : w.heap.size ≤ ow
  ne : ow ∉ [b, kg, hg]
theorem La.bel {w X Y : World} {b kg hg ow n k : Nat} {s : DS} {os : List Int} (h : La w X b kg hg ow n k s os) (hb : Below X.heap.size X Y) : La w Y b kg hg ow n k s os :=
  ⟨h.l.bel hb, (blk_below hb _ (blk_lt h.row)).trans h.row, h.ol, h.rel, h.bd, h.nums, h.lo, h.ne⟩
attribute [local go_sem ↓] run_make_int run_make_32
set_option maxHeartbeats 8000000 in
theorem last_gen (m : Int) (ai : Option Addr) (len cap : Nat) (zs : List Int) (ti : Option Addr) (len2 cap2 : Nat) (qs : List Bool) (w : World) (hm1 : -9223372036854775808 ≤ m) (hm2 : m ≤ 9223372036854775807)
    (hz : ∀ z ∈ zs, Ints.In64 z) (hzl : zs.length = len * 2) (hR : Reads w 2 ai len (Ints.i64s zs)) (hQ : Bools.BRow w ti len2 qs) :
    Calls Try.prog 5 #[.int .i64 m, .slice ai len cap, .slice ti len2 cap2] w fun e w' => e = .returned (.bool true) ∧ Below w.heap.size w w' := by
  have HRD := Lib.hid hR
  have HZ := Lib.hid hz
  have HZL := Lib.hid hzl
  have HQR := Lib.hid hQ
  clear hR hz hzl hQ
  by_cases h0 : m < 1
  · have d0 : decide (m < 1) = true := decide_eq_true h0
    go_enter Try.func5, Try.ntmps5
    go_wp2_with fail
    refine (awake_any _).mono ?_
    rintro e w2 ⟨rfl, hb2⟩
    go_wp2
    go_ret
    exact ⟨rfl, hb2⟩
  have d0 : decide (m < 1) = false := decide_eq_false h0
  by_cases h1 : 40 < m
  · have d1 : decide (40 < m) = true := decide_eq_true h1
    go_enter Try.func5, Try.ntmps5
    go_wp2_with fail
    refine (awake_any _).mono ?_
    rintro e w2 ⟨rfl, hb2⟩
    go_wp2
    go_ret
    exact ⟨rfl, hb2⟩
  have d1 : decide (40 < m) = false := decide_eq_false h1
  by_cases h2 : 40 < len
  · have d2 : decide (40 < len) = true := decide_eq_true h2
    go_enter Try.func5, Try.ntmps5
    go_wp2_with fail
    refine (awake_any _).mono ?_
    rintro e w2 ⟨rfl, hb2⟩
    go_wp2
    go_ret
    exact ⟨rfl, hb2⟩
  have d2 : decide (40 < len) = false := decide_eq_false h2
  by_cases h3 : 40 < len2
  · have d3 : decide (40 < len2) = true := decide_eq_true h3
    go_enter Try.func5, Try.ntmps5
    go_wp2_with fail
    refine (awake_any _).mono ?_
    rintro e w2 ⟨rfl, hb2⟩
    go_wp2
    go_ret
    exact ⟨rfl, hb2⟩
  have d3 : decide (40 < len2) = false := decide_eq_false h3
  have hl40 : len ≤ 40 := by omega
  have hl41 : len2 ≤ 40 := by omega
  obtain ⟨n, en⟩ : ∃ n : Nat, m = n := ⟨m.toNat, by omega⟩
  subst en
  have hn : 1 ≤ n ∧ n ≤ 2048 := by omega
  have hn1 := hn.1
  have hn2 : n ≤ 40 := by omega
  have hn3 : n ≤ 100000 := by omega
  have HNN := Lib.hid hn
  clear hm1 hm2 h0 h1 h2 h3 hn
  go_enter Try.func5, Try.ntmps5
  go_wp2_with fail
  refine (new_any n HNN.out _).mono ?_
  rintro e w1 ⟨⟨b, kg, hg, rfl, hb, hk, hh, d1⟩, L1⟩
  have hlt1 := d1.lt
  have H1 : Hid (Lw w w1 b kg hg n (newS n)) := Lib.hid ⟨d1, L1, hb, hk, hh⟩
  clear d1 L1 d0 d2 d3
  go_upto_region 7 with (fail)
  refine Rd.name_world ?_
  intro w2 hw
  have bW : blk w2 w1.heap.size = some (.cells (cs .i64 (List.replicate n 0)) 3 (0, 0)) := by rw [hw]; exact blk_alloc_at _ _ _ rfl
  have hb2 : Below w1.heap.size w1 w2 := by
    rw [hw]
    repeat' (first | (with_reducible exact Below.refl _ _) | (with_reducible refine Rd.below_step ?_ (by assumption)) | (with_reducible refine Rd.below_alloc ?_ _) | (with_reducible refine Rd.below_drewN ?_ _) | (with_reducible refine Below.drew ?_) | (with_reducible refine Below.setCell ?_ ?_ _) | (with_reducible refine Rd.below_setRow ?_ ?_ _) | go_size | (simp only [World.size_alloc]; omega) | omega)
  have HS : Hid (La w w2 b kg hg w1.heap.size n 0 (newS n) (List.replicate n 0)) := Lib.hid ⟨H1.out.bel hb2, bW, by simp, fun j hj => by rw [rd_new hj]; simp [List.getD, hj, wantL], fun j => by
    rw [List.getD_eq_getElem?_getD, List.getElem?_replicate]
    split <;> simp, ⟨rfl, rfl, rfl⟩, H1.out.below.size, by simp; omega⟩
  have hwo : w.heap.size ≤ w1.heap.size := H1.out.below.size
  obtain ⟨ow, how⟩ : ∃ p, w1.heap.size = p := ⟨_, rfl⟩
  rw [how] at HS hlt1 hwo ⊢
  clear hw hb2 bW how H1
  go_wp2_with fail
  go_loopw [10] (fun i X => ∃ (k : Nat) (s : DS) (os : List Int), k ≤ len ∧ i = .int .i64 k ∧ Hid (La w X b kg hg ow n k s os)) (fun i _ => len - (intOf i).toNat)
  case atStart => exact ⟨0, _, _, by omega, rfl, HS⟩
  case round =>
    clear HS
    obtain ⟨k, s, os, hk9, rfl, HS⟩ := hrel
    rename World => X
    by_cases hlt : k < len
    · have hlt' : (k : Int) < len := by omega
      have hzl := HZL.out
      obtain ⟨ab, ao, rfl, hab, hac⟩ := Ints.cell_of HRD.out (k := 2 * k) (by omega) (by omega)
      have cx : w.cell? ⟨ab, ao + k * 2, none⟩ = some (.int .i64 (zs.getD (2 * k) 0)) := by rw [show ao + k * 2 = ao + 2 * k by omega]; exact hac _ (by omega)
      have cy : w.cell? ⟨ab, ao + k * 2 + 1, none⟩ = some (.int .i64 (zs.getD (2 * k + 1) 0)) := by rw [show ao + k * 2 + 1 = ao + (2 * k + 1) by omega]; exact hac _ (by omega)
      have hxx := Ints.getD_in HZ.out (2 * k)
      have hyy := Ints.getD_in HZ.out (2 * k + 1)
      clear hac hzl
      generalize zs.getD (2 * k) 0 = x at cx hxx
      generalize zs.getD (2 * k + 1) 0 = y at cy hyy
      have dx := (HS.out.l.below.cell (p := ⟨ab, ao + k * 2, none⟩) hab).trans cx
      have dy := (HS.out.l.below.cell (p := ⟨ab, ao + k * 2 + 1, none⟩) hab).trans cy
      clear cx cy
      obtain ⟨q, hq⟩ : ∃ q : Nat, x % (n : Int) = q := ⟨(x % (n : Int)).toNat, by have := Int.emod_nonneg x (b := (n : Int)) (by omega); omega⟩
      have hqn : q < n := by have := Int.emod_lt_of_pos x (b := (n : Int)) (by omega); omega
      obtain ⟨t, ht⟩ : ∃ t : Int, y % 200 = t := ⟨_, rfl⟩
      have ht1 : 0 ≤ t := by omega
      have ht2 : t < 200 := by omega
      obtain ⟨v, hv9⟩ : ∃ v : Nat, 1 + t = (v : Int) := ⟨(1 + t).toNat, by omega⟩
      have hv1 : 1 ≤ v := by omega
      have hv2 : v ≤ 200 := by omega
      have HQ := Lib.hid hq
      have HT := Lib.hid ht
      clear hq ht
      go_wp2_with fail
      refine (Alk.round_any x n _ hxx.1 hxx.2 (by omega) (by omega)).mono ?_
      rintro e _ ⟨rfl, rfl⟩
      rw [HQ.out]
      go_wp2_with fail
      refine (Alk.round_any y 200 _ hyy.1 hyy.2 (by omega) (by omega)).mono ?_
      rintro e _ ⟨rfl, rfl⟩
      rw [HT.out]
      clear dx dy hxx hyy HQ HT
      go_wp2_with fail
      refine (sector_any v (by omega) _).mono ?_
      rintro e X1 ⟨rfl, hbl, hb1⟩
      have H1 := Lib.hid (HS.out.bel hb1)
      have hl := HS.out.l.d.lt
      have HB := Lib.hid hbl
      have hsz := blk_lt hbl
      obtain ⟨p, hp⟩ : ∃ p, X.heap.size = p := ⟨_, rfl⟩
      rw [hp] at HB hsz hl ⊢
      clear hbl hb1 hp HS
      go_wp2_with fail
      refine (write_any q (secL v) p 0 32 _ H1.out.l.d H1.out.nums.2.1 hqn (secL_len v) (by rw [H1.out.nums.1]; decide) (by rw [H1.out.nums.1]; decide) (by rw [H1.out.nums.2.2]; omega) hsz (by simp; omega) (src_of HB.out)).mono ?_
      rintro e X2 ⟨rfl, d2, t2⟩
      have b2 := Tn.blk t2 H1.out.row H1.out.ne
      have HL2 : Hid (Lw w X2 b kg hg n (wrS s q (secL v))) := Lib.hid (H1.out.l.tn d2 t2)
      have HB2 := Lib.hid b2
      have hol := H1.out.ol
      have cw : X2.cell? ⟨ow, q, none⟩ = some (.int .i64 (os.getD q 0)) := by rw [blk_cell b2, at_i (by omega)]
      have fw := blk_frozen b2 q
      have hHl : s.H.length = n := H1.out.l.d.hl.1
      have HST : Hid (∀ X3 : World, X3 = X2.setCell ⟨ow, q, none⟩ (.int .i64 v) → La w X3 b kg hg ow n (k + 1) (wrS s q (secL v)) (os.set q v)) := Lib.hid (by
        rintro X3 rfl
        have hne := H1.out.ne
        simp at hne
        refine ⟨⟨HL2.out.d.kept' (heap_setCell_other _ _ _ _ (fun e => by have := e; simp at this; omega)) (heap_setCell_other _ _ _ _ (fun e => by have := e; simp at this; omega)) (heap_setCell_other _ _ _ _ (fun e => by have := e; simp at this; omega)), Below.setCell HL2.out.below (by show w.heap.size ≤ ow; exact hwo) _, HL2.out.lo⟩, ?_, by rw [List.length_set]; exact hol, fun j hj => ?_, fun j => ?_, ⟨?_, H1.out.nums.2.1, ?_⟩, hwo, H1.out.ne⟩
        · have := blk_set X2 ow q (.int .i64 v) _ _ HB2.out
          rw [set_i] at this
          exact this
        · rw [rd_wr (by omega)]
          by_cases e : j = q
          · subst e
            rw [if_pos rfl, List.getD_eq_getElem?_getD, List.getElem?_set_self (by omega)]
            show _ = wantL (v : Int)
            unfold wantL
            rw [if_pos (by omega), Int.toNat_natCast]
          · rw [if_neg e, List.getD_eq_getElem?_getD, List.getElem?_set_ne (Ne.symm e), ← List.getD_eq_getElem?_getD]
            exact H1.out.rel j hj
        · by_cases e : j = q
          · subst e
            rw [List.getD_eq_getElem?_getD, List.getElem?_set_self (by omega)]
            show (v : Int) ≤ 200
            omega
          · rw [List.getD_eq_getElem?_getD, List.getElem?_set_ne (Ne.symm e), ← List.getD_eq_getElem?_getD]
            exact H1.out.bd j
        · show (if s.lf = -1 then s.lf else s.lf - 1) = -1
          rw [if_pos H1.out.nums.1]; exact H1.out.nums.1
        · show s.wr + 1 = ((k + 1 : Nat) : Int)
          rw [H1.out.nums.2.2]; omega)
      clear d2 t2 b2 H1 HB hsz HL2 HB2 hol hHl hl
      go_upto_region 15 with (fail)
      refine Rd.name_world ?_
      intro X3 hw3
      have H3 : Hid (La w X3 b kg hg ow n (k + 1) (wrS s q (secL v)) (os.set q v)) := Lib.hid (HST.out X3 hw3)
      clear hw3 HST cw fw
      obtain ⟨s3, es3⟩ : ∃ s3, wrS s q (secL v) = s3 := ⟨_, rfl⟩
      obtain ⟨os3, eos3⟩ : ∃ s3, os.set q (v : Int) = s3 := ⟨_, rfl⟩
      rw [es3, eos3] at H3
      clear es3 eos3
      go_cut [91] from 77 to 91 (fun v Y => v = .bool false ∧ ∃ s' : DS, Hid (La w Y b kg hg ow n (k + 1) s' os3))
      case first =>
        by_cases hk2 : k < len2
        · have dk2 : decide ((k : Int) < len2) = true := decide_eq_true (by omega)
          have hk2' : (k : Int) < len2 := by omega
          obtain ⟨-, hq⟩ := HQR.out
          obtain ⟨qb, qo, eq_, hqb, hqc⟩ := hq.resolve_left (by omega)
          subst eq_
          have cq := (H3.out.l.below.cell (p := ⟨qb, qo + k, none⟩) hqb).trans (hqc k hk2)
          generalize qs.getD k false = qv at cq
          clear hqc hq
          cases qv with
          | true =>
            go_wp2_with fail
            refine (flush_any _ H3.out.l.d H3.out.nums.2.1).mono ?_
            rintro e X4 ⟨rfl, d4, t4⟩
            have H4 : Hid (La w X4 b kg hg ow n (k + 1) (flN s3 n) os3) := Lib.hid (by
              have hnm := fl_nums s3 n
              refine ⟨H3.out.l.tn d4 t4, Tn.blk t4 H3.out.row H3.out.ne, H3.out.ol, fun j hj => ?_, H3.out.bd, ⟨hnm.1.trans H3.out.nums.1, hnm.2.2.1.trans H3.out.nums.2.1, hnm.2.2.2.1.trans H3.out.nums.2.2⟩, H3.out.lo, H3.out.ne⟩
              rw [rd_fl (by rw [H3.out.l.d.kl.1, H3.out.l.d.hl.1]) n (by rw [H3.out.l.d.hl.1]; exact Nat.le_refl _)]
              exact H3.out.rel j hj)
            clear d4 t4 H3 cq
            go_wp2
            go_meet
            exact ⟨rfl, _, H4⟩
          | false =>
            go_wp2
            go_meet
            exact ⟨rfl, _, H3⟩
        · have dk2 : decide ((k : Int) < len2) = false := decide_eq_false (by omega)
          have hk2' : ¬ (k : Int) < len2 := by omega
          go_wp2
          go_meet
          exact ⟨rfl, _, H3⟩
      case rest =>
      obtain ⟨rfl, s4, H4⟩ := hcut
      obtain ⟨X4, e4⟩ : ∃ z : World, z = wc := ⟨_, rfl⟩
      subst e4
      clear H3
      go_wp2_with fail
      go_loopw [13] (fun i Y => ∃ j : Nat, j ≤ n ∧ i = .int .i64 j ∧ Hid (La w Y b kg hg ow n (k + 1) s4 os3)) (fun i _ => n - (intOf i).toNat)
      case atStart => exact ⟨0, by omega, rfl, H4⟩
      case round =>
        clear H4
        obtain ⟨j, hj, rfl, HJ⟩ := hrel
        rename World => Y
        by_cases hjn : j < n
        · have hjn' : (j : Int) < n := by omega
          go_wp2_with fail
          refine (read_any j _ HJ.out.l.d HJ.out.nums.2.1 hjn).mono ?_
          rintro e Y1 ⟨rfl, hbl, hb1⟩
          rw [HJ.out.rel j hjn] at hbl
          have H1 := Lib.hid (HJ.out.bel hb1)
          have HB := Lib.hid hbl
          obtain ⟨p, hp⟩ : ∃ p, Y.heap.size = p := ⟨_, rfl⟩
          rw [hp] at HB ⊢
          clear hbl hb1 hp HJ
          go_upto_region 22 with (fail)
          refine Rd.name_world ?_
          intro Y2 hw2
          have bZ : blk Y2 Y1.heap.size = some (.cells (us z32).toArray 5 (0, 0)) := by rw [hw2]; exact blk_alloc_at _ _ _ rfl
          have hb2 : Below Y1.heap.size Y1 Y2 := by
            rw [hw2]
            repeat' (first | (with_reducible exact Below.refl _ _) | (with_reducible refine Rd.below_step ?_ (by assumption)) | (with_reducible refine Rd.below_alloc ?_ _) | (with_reducible refine Rd.below_drewN ?_ _) | (with_reducible refine Below.drew ?_) | (with_reducible refine Below.setCell ?_ ?_ _) | (with_reducible refine Rd.below_setRow ?_ ?_ _) | go_size | (simp only [World.size_alloc]; omega) | omega)
          have H2 := Lib.hid (H1.out.bel hb2)
          have HB2 := Lib.hid ((blk_below hb2 _ (blk_lt HB.out)).trans HB.out)
          have HZ2 := Lib.hid bZ
          obtain ⟨pz, hpz⟩ : ∃ p, Y1.heap.size = p := ⟨_, rfl⟩
          rw [hpz] at HZ2 ⊢
          clear hw2 hb2 bZ hpz H1 HB
          have co : Y2.cell? ⟨ow, j, none⟩ = some (.int .i64 (os3.getD j 0)) := by rw [blk_cell H2.out.row, at_i (by rw [H2.out.ol]; exact hjn)]
          have hbd := H2.out.bd j
          obtain ⟨ov, hov⟩ : ∃ v, os3.getD j 0 = v := ⟨_, rfl⟩
          rw [hov] at co hbd HB2
          clear hov
          by_cases hpos : 0 < ov
          · have dpos : decide (0 < ov) = true := decide_eq_true hpos
            obtain ⟨V, rfl⟩ := Int.eq_ofNat_of_zero_le (show 0 ≤ ov by omega)
            go_wp2_with fail
            refine (sector_any V (by omega) _).mono ?_
            rintro e Y3 ⟨rfl, hbl, hb3⟩
            have H3 := Lib.hid (H2.out.bel hb3)
            have hx := (blk_below hb3 _ (blk_lt HB2.out)).trans HB2.out
            have ew : wantL (V : Int) = secL V := by unfold wantL; rw [if_pos hpos, Int.toNat_natCast]
            rw [ew] at hx
            have sx := str_of (c := 32) hx (secL_len V) (secL_bd V)
            have sy := str_of (c := 32) hbl (secL_len V) (secL_bd V)
            obtain ⟨py, hpy⟩ : ∃ p, Y2.heap.size = p := ⟨_, rfl⟩
            rw [hpy] at sy ⊢
            clear hbl hb3 hx hpy H2 HB2 HZ2 co
            generalize bytesOf (secL V) = str at sx sy
            go_wp2
            exact ⟨⟨j + 1, by omega, by go_num, H3⟩, by simp [intOf]; omega⟩
          · have dpos : decide (0 < ov) = false := decide_eq_false hpos
            have ew : wantL ov = z32 := by unfold wantL; rw [if_neg hpos]
            rw [ew] at HB2
            have sx := str_of (c := 32) HB2.out z32_len z32_bd
            have sy := str_of (c := 32) HZ2.out z32_len z32_bd
            clear ew HB2 HZ2
            generalize bytesOf z32 = str at sx sy
            go_wp2
            exact ⟨⟨j + 1, by omega, by go_num, H2⟩, by simp [intOf]; omega⟩
        · obtain rfl : j = n := by omega
          go_wp2
          exact ⟨⟨k + 1, s4, os3, by omega, by go_num, HJ⟩, by simp [intOf]; omega⟩
    · obtain rfl : k = len := by omega
      have hnums := HS.out.nums
      have CW := writes_any X HS.out.l.d
      rw [hnums.2.2] at CW
      have HCW := Lib.hid CW
      have HUP := Lib.hid (up_not X HS.out.l.d hnums.2.1)
      have LY := HS.out.l.below
      clear CW hnums
      go_wp2_with fail
      refine HCW.out.mono ?_
      rintro e _ ⟨rfl, rfl⟩
      go_wp2_with fail
      refine HUP.out.mono ?_
      rintro e _ ⟨rfl, rfl⟩
      go_wp2_with fail
      refine (awake_any _).mono ?_
      rintro e x5 ⟨rfl, b1⟩
      have L5 : Below w.heap.size w x5 := LY.trans (b1.mono LY.size)
      clear b1
      go_wp2
      go_ret
      exact ⟨rfl, L5⟩
end Go.Proofs.Ytajoajblmaopjaa.DkF

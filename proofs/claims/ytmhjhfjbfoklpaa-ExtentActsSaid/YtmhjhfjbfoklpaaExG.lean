/-
  Whatever is taken has no sector of what is taken already (ExtentApart).
-/
import Derived.Test.YtmhjhfjbfoklpaaExE
import Derived.Test.YtmhjhfjbfoklpaaInts
import Derived.Test.YtmhjhfjbfoklpaaBools
import Derived.IntWalk
import Derived.Deep.CutBlock
import Derived.Deep.CutRange
namespace Go.Proofs.Ytmhjhfjbfoklpaa.ExG
open Go.RowKit Rd Go.Proofs.Ytmhjhfjbfoklpaa.Row ExM ExA ExB ExC ExD ExE
set_option linter.unusedVariables false
set_option linter.unusedSimpArgs false
set_option maxRecDepth 100000
/-! mathematics -/
def cnt (bs : List Bool) : Nat := bs.count true
theorem scan_sum : ∀ (r : List Bool) (a n : Nat), sumL (scan r a n) + cnt r = r.length + n
  | [], a, n => by
    unfold scan
    by_cases h : n = 0
    · rw [if_pos h, h]; rfl
    · rw [if_neg h]; simp [sumL, cnt]
  | true :: r, a, n => by
    have ih := scan_sum r (a + 1) 0
    unfold scan
    have e : cnt (true :: r) = cnt r + 1 := by simp [cnt]
    rw [e, List.length_cons]
    by_cases h : n = 0
    · rw [if_pos h, List.nil_append]; omega
    · rw [if_neg h]
      have : sumL ([(a - n, n)] ++ scan r (a + 1) 0) = n + sumL (scan r (a + 1) 0) := by simp [sumL]
      rw [this]; omega
  | false :: r, a, n => by
    have ih := scan_sum r (a + 1) (n + 1)
    unfold scan
    have e : cnt (false :: r) = cnt r := by simp [cnt]
    rw [e, List.length_cons]; omega
theorem sum_cnt (bs : List Bool) : sumL (runs bs) + cnt bs = bs.length := scan_sum bs 0 0
theorem cnt_set {bs : List Bool} {i : Nat} (h : i < bs.length) (hb : b_ bs i = false) : cnt (bs.set i true) = cnt bs + 1 := by
  have h2 : bs[i] = false := by simpa [b_, List.getD, h] using hb
  unfold cnt
  rw [List.count_set h, h2]
  simp
theorem cnt_mk {bs : List Bool} {s : Nat} : ∀ n, s + n ≤ bs.length → (∀ i, s ≤ i → i < s + n → b_ bs i = false) → cnt (ExM.mk bs s true n) = cnt bs + n
  | 0, _, _ => rfl
  | n + 1, h, hz => by
    have ih := cnt_mk n (by omega) fun i h1 h2 => hz i h1 (by omega)
    unfold ExM.mk
    rw [cnt_set (by rw [mk_len]; omega) (by rw [mk_at bs s true n (by omega), if_neg (by omega)]; exact hz _ (by omega) (by omega)), ih]
    omega
theorem cnt_le (bs : List Bool) : cnt bs ≤ bs.length := List.count_le_length
theorem ext_b {bs cs : List Bool} (hl : bs.length = cs.length) (h : ∀ j, j < bs.length → b_ bs j = b_ cs j) : bs = cs := by
  apply List.ext_getElem hl
  intro i h1 h2
  have := h i h1
  simpa [b_, List.getD, h1, h2] using this
theorem mk_back {bs : List Bool} {s n : Nat} (h : s + n ≤ bs.length) (hz : ∀ i, s ≤ i → i < s + n → b_ bs i = false) : ExM.mk (ExM.mk bs s true n) s false n = bs := by
  refine ext_b (by rw [mk_len, mk_len]) fun j hj => ?_
  rw [mk_at _ s false n (by rw [mk_len]; exact h), mk_at bs s true n h]
  by_cases e : s ≤ j ∧ j < s + n
  · rw [if_pos e]; exact (hz j e.1 e.2).symm
  · rw [if_neg e, if_neg e]
theorem first_eq {bs : List Bool} {n a : Nat} (hn : 1 ≤ n) (h1 : fitB bs a n = true) (h2 : ∀ j, j < a → fitB bs j n = false) : first bs n = some a := by
  cases h : first bs n with
  | none => have := first_none hn h a; rw [h1] at this; cases this
  | some c =>
    obtain ⟨h3, h4⟩ := first_some hn h
    rcases Nat.lt_trichotomy a c with h5 | h5 | h5
    · have := h4 a h5; rw [h1] at this; cases this
    · rw [h5]
    · have := h2 c h5; rw [h3] at this; cases this
theorem none_eq {bs : List Bool} {n : Nat} (hn : 1 ≤ n) (h : ∀ j, fitB bs j n = false) : first bs n = none := by
  cases h1 : first bs n with
  | none => rfl
  | some c => have := (first_some hn h1).1; rw [h c] at this; cases this
/-- the law's own look: run free ones end at j, none fits that ends by j -/
structure Look (bs : List Bool) (K j r : Nat) : Prop where
  le : r ≤ j
  jl : j ≤ bs.length
  lt : r < K
  free : ∀ i, j - r ≤ i → i < j → b_ bs i = false
  wall : r < j → b_ bs (j - r - 1) = true
  no : ∀ a, a + K ≤ j → fitB bs a K = false
theorem look_start {bs : List Bool} {K : Nat} (hK : 1 ≤ K) : Look bs K 0 0 := ⟨Nat.le_refl _, Nat.zero_le _, by omega, fun i h1 h2 => by omega, fun h => by omega, fun a h => by omega⟩
theorem look_true {bs : List Bool} {K j r : Nat} (h : Look bs K j r) (hK : 1 ≤ K) (hj : j < bs.length) (hb : b_ bs j = true) : Look bs K (j + 1) 0 :=
  ⟨by omega, by omega, by omega, fun i h1 h2 => by omega, fun _ => by rw [show j + 1 - 0 - 1 = j by omega]; exact hb, fun a ha => by
    by_cases e : a + K ≤ j
    · exact h.no a e
    · cases hf : fitB bs a K with
      | false => rfl
      | true =>
        have := (fit_iff.1 hf).2.2 j (by omega) (by omega)
        rw [hb] at this; cases this⟩
theorem look_false {bs : List Bool} {K j r : Nat} (h : Look bs K j r) (hj : j < bs.length) (hb : b_ bs j = false) (hr : r + 1 < K) : Look bs K (j + 1) (r + 1) :=
  ⟨by have := h.le; omega, by omega, hr, fun i h1 h2 => by
    by_cases e : i = j
    · rw [e]; exact hb
    · exact h.free i (by omega) (by omega), fun h1 => by rw [show j + 1 - (r + 1) - 1 = j - r - 1 by omega]; exact h.wall (by omega), fun a ha => by
    by_cases e : a + K ≤ j
    · exact h.no a e
    · cases hf : fitB bs a K with
      | false => rfl
      | true =>
        have := (fit_iff.1 hf).2.2 (j - r - 1) (by omega) (by omega)
        rw [h.wall (by omega)] at this; cases this⟩
theorem look_hit {bs : List Bool} {K j r : Nat} (h : Look bs K j r) (hj : j < bs.length) (hb : b_ bs j = false) (hr : r + 1 = K) : first bs K = some (j + 1 - K) := by
  have hle := h.le
  refine first_eq (by omega) (fit_iff.2 ⟨by omega, by omega, fun i h1 h2 => ?_⟩) fun a ha => h.no a (by omega)
  by_cases e : i = j
  · rw [e]; exact hb
  · exact h.free i (by omega) (by omega)
theorem look_end {bs : List Bool} {K j r : Nat} (h : Look bs K j r) (hK : 1 ≤ K) (hj : j = bs.length) : first bs K = none := by
  refine none_eq hK fun a => ?_
  cases hf : fitB bs a K with
  | false => rfl
  | true =>
    have := (fit_iff.1 hf).2.1
    rw [h.no a (by omega)] at hf; cases hf
/-! owners -/
def mkI (os : List Int) (s : Nat) (v : Int) : Nat → List Int
  | 0 => os
  | n + 1 => (mkI os s v n).set (s + n) v
theorem mkI_len (os : List Int) (s : Nat) (v : Int) : ∀ n, (mkI os s v n).length = os.length
  | 0 => rfl
  | n + 1 => by unfold mkI; rw [List.length_set, mkI_len os s v n]
theorem mkI_at (os : List Int) (s : Nat) (v : Int) : ∀ n, s + n ≤ os.length → ∀ i, (mkI os s v n).getD i 0 = if s ≤ i ∧ i < s + n then v else os.getD i 0
  | 0, _, i => by rw [if_neg (by omega)]; rfl
  | n + 1, h, i => by
    unfold mkI
    by_cases e : i = s + n
    · subst e
      rw [List.getD_eq_getElem?_getD, List.getElem?_set_self (by rw [mkI_len]; omega), if_pos (by omega)]; rfl
    · rw [List.getD_eq_getElem?_getD, List.getElem?_set_ne (Ne.symm e), ← List.getD_eq_getElem?_getD, mkI_at os s v n (by omega) i]
      by_cases e2 : s ≤ i ∧ i < s + n
      · rw [if_pos e2, if_pos (by omega)]
      · rw [if_neg e2, if_neg (by omega)]
theorem made_int (n : Nat) : madeCells (Value.cells (.int .i64 0)) n = cs .i64 (List.replicate n 0) := by
  apply Array.ext
  · simp [madeCells]
  · intro i h1 h2
    simp only [madeCells, Value.cells, Nat.mod_one, cs, List.map_replicate, Array.getElem_map, List.getElem_toArray, List.getElem_replicate]
    show #[Value.int IntKind.i64 0][(Array.range n)[i]'(by simpa [madeCells] using h1) % 1]! = _
    rw [Nat.mod_one]
    rfl
theorem info_int : (Try.prog.info? 3).map (fun i => (i.zero, i.size, i.bytes)) = some (some (.int .i64 0), 1, 8) := by kernel_rfl
theorem run_make_int (n : Nat) (hn : n ≤ 100000) (w : World) :
    (Instr.makeSlice 45 (.int .i64 (n : Int)) (.int .i64 (n : Int))).run Try.prog w = .ok (.slice (some ⟨w.heap.size, 0, none⟩) n n) (w.alloc (.cells (cs .i64 (List.replicate n 0)) 3)) := by
  obtain ⟨i, hi, hz, hs, hb⟩ := info_parts info_int
  have hr := run_make (P := Try.prog) w 45 3 i (.int .i64 0) Try.underlying45 hi hz .i64 .i64 (n : Int) (n : Int) (by omega) (by omega) (by rw [hb]; omega) (by omega)
  simp only [Int.toNat_natCast, hs, Nat.mul_one] at hr
  rw [hr, made_int]
theorem at_i {os : List Int} {k : Nat} (h : k < os.length) : (cs .i64 os)[k]? = some (.int .i64 (os.getD k 0)) := by simp [cs, List.getD, h]
theorem set_i (os : List Int) (k : Nat) (v : Int) : (cs .i64 os).setIfInBounds k (.int .i64 v) = cs .i64 (os.set k v) := by simp [cs, List.setIfInBounds_toArray, List.map_set]
/-! the state -/
def Rel (n : Nat) (bs : List Bool) (os : List Int) : Prop := os.length = n ∧ ∀ j, j < n → (os.getD j 0 = 0 ↔ b_ bs j = false)
structure Ap (w X : World) (b g ow n : Nat) (bs : List Bool) (os : List Int) : Prop where
  m : Mp X b g n bs
  len : bs.length = n
  row : blk X ow = some (.cells (cs .i64 os) 3 (0, 0))
  rel : Rel n bs os
  below : Below w.heap.size w X
theorem Ap.bel {w X Y : World} {b g ow n : Nat} {bs : List Bool} {os : List Int} (h : Ap w X b g ow n bs os) (hb : Below X.heap.size X Y) : Ap w Y b g ow n bs os :=
  ⟨h.m.bel hb, h.len, (blk_below hb _ (blk_lt h.row)).trans h.row, h.rel, h.below.trans (hb.mono h.below.size)⟩
theorem blk_turn {X Y : World} {g k : Nat} {o : Obj} (h : blk X k = some o) (hg : X.grownBy Y (some g)) (hk : k ≠ g) : blk Y k = some o :=
  (hg.block k (blk_lt h) fun e => hk (by injection e)).trans h
theorem used_cnt {b g n : Nat} {bs : List Bool} (w : World) (h : Mp w b g n bs) :
    Calls Try.prog 16 #[.pointer (some ⟨b, 0, none⟩)] w fun e w' => e = .returned (.int .i64 (cnt bs : Nat)) ∧ Below w.heap.size w w' := by
  have := used_any w h
  have e := sum_cnt bs
  rw [show (bs.length : Int) - (sumL (runs bs) : Nat) = (cnt bs : Nat) by omega] at this
  exact this
theorem take_some {b g n K a : Nat} {bs : List Bool} (w : World) (h : Mp w b g n bs) (hK : 1 ≤ K) (hf : first bs K = some a) :
    Calls Try.prog 9 #[.pointer (some ⟨b, 0, none⟩), .int .i64 K] w fun e w' => e = .returned (.tuple #[.int .i64 a, .int .i64 0]) ∧ Mp w' b g n (ExM.mk bs a true K) ∧ w.grownBy w' (some g) := by
  have := take_any K w h hK
  rw [show tkA bs K = a by unfold tkA; rw [hf]; rfl, show tkE bs K = 0 by unfold tkE; rw [hf]; rfl, show tkB bs K = ExM.mk bs a true K by unfold tkB; rw [hf]] at this
  exact this
theorem take_none {b g n K : Nat} {bs : List Bool} (w : World) (h : Mp w b g n bs) (hK : 1 ≤ K) (hf : first bs K = none) :
    Calls Try.prog 9 #[.pointer (some ⟨b, 0, none⟩), .int .i64 K] w fun e w' => e = .returned (.tuple #[.int .i64 0, .int .i64 6]) ∧ Mp w' b g n bs ∧ w.grownBy w' (some g) := by
  have := take_any K w h hK
  rw [show tkA bs K = 0 by unfold tkA; rw [hf]; rfl, show tkE bs K = 6 by unfold tkE; rw [hf]; rfl, show tkB bs K = bs by unfold tkB; rw [hf]] at this
  exact this
/-- given back -/
theorem give_yes {b g n K a : Nat} {bs : List Bool} (w : World) (h : Mp w b g n (ExM.mk bs a true K)) (hK : 1 ≤ K) (hl : bs.length = n) (hfit : a + K ≤ n) (hn : n ≤ 200) (hz : ∀ i, a ≤ i → i < a + K → b_ bs i = false) :
    Calls Try.prog 13 #[.pointer (some ⟨b, 0, none⟩), .int .i64 a, .int .i64 K] w fun e w' => e = .returned (.int .i64 0) ∧ Mp w' b g n bs ∧ w.grownBy w' (some g) := by
  have := give_any (a : Int) (K : Int) w h (by omega) (by omega) (by omega) (by omega)
  have hm : mayB (ExM.mk bs a true K).length (a : Int) (K : Int) = true := decide_eq_true ⟨by omega, by omega, by rw [mk_len, hl]; omega, by rw [mk_len, hl]; omega⟩
  have ha : allB (ExM.mk bs a true K) a K true = true := allB_iff.2 fun i h1 h2 => by rw [mk_at bs a true K (by omega), if_pos ⟨h1, h2⟩]
  rw [show actE (ExM.mk bs a true K) (a : Int) (K : Int) true 4 = 0 by unfold actE; rw [hm, Int.toNat_natCast, Int.toNat_natCast, ha]; rfl,
    show actB (ExM.mk bs a true K) (a : Int) (K : Int) true = bs by unfold actB goB; rw [hm, Int.toNat_natCast, Int.toNat_natCast, ha]; exact mk_back (by omega) hz] at this
  exact this
theorem give_no {b g n K a : Nat} {bs : List Bool} (w : World) (h : Mp w b g n bs) (hK : 1 ≤ K) (hl : bs.length = n) (hfit : a + K ≤ n) (hn : n ≤ 200) (hz : ∀ i, a ≤ i → i < a + K → b_ bs i = false) :
    Calls Try.prog 13 #[.pointer (some ⟨b, 0, none⟩), .int .i64 a, .int .i64 K] w fun e w' => e = .returned (.int .i64 4) ∧ Mp w' b g n bs ∧ w.grownBy w' (some g) := by
  have := give_any (a : Int) (K : Int) w h (by omega) (by omega) (by omega) (by omega)
  have hm : mayB bs.length (a : Int) (K : Int) = true := decide_eq_true ⟨by omega, by omega, by rw [hl]; omega, by rw [hl]; omega⟩
  have ha : allB bs a K true = false := by
    cases h1 : allB bs a K true with
    | false => rfl
    | true => have := allB_iff.1 h1 a (Nat.le_refl _) (by omega); rw [hz a (Nat.le_refl _) (by omega)] at this; cases this
  rw [show actE bs (a : Int) (K : Int) true 4 = 4 by unfold actE; rw [hm, Int.toNat_natCast, Int.toNat_natCast, ha]; rfl,
    show actB bs (a : Int) (K : Int) true = bs by unfold actB goB; rw [hm, Int.toNat_natCast, Int.toNat_natCast, ha]; rfl] at this
  exact this
attribute [local go_sem ↓] run_make_int
set_option maxHeartbeats 16000000 in
theorem apart_gen (m : Int) (ai : Option Addr) (len cap : Nat) (zs : List Int) (ti : Option Addr) (len2 cap2 : Nat) (qs : List Bool) (w : World) (hm1 : -9223372036854775808 ≤ m) (hm2 : m ≤ 9223372036854775807)
    (hz : ∀ z ∈ zs, Ints.In64 z) (hzl : zs.length = len) (hR : Reads w 1 ai len (Ints.i64s zs)) (hQ : Bools.BRow w ti len2 qs) :
    Calls Try.prog 4 #[.int .i64 m, .slice ai len cap, .slice ti len2 cap2] w fun e w' => e = .returned (.bool true) ∧ Below w.heap.size w w' := by
  have HRD := Lib.hid hR
  have HZ := Lib.hid hz
  have HZL := Lib.hid hzl
  have HQR := Lib.hid hQ
  clear hR hz hzl hQ
  by_cases h0 : m < 1
  · have d0 : decide (m < 1) = true := decide_eq_true h0
    go_enter Try.func4, Try.ntmps4
    go_wp2_with fail
    refine (awake_any _).mono ?_
    rintro e w2 ⟨rfl, hb2⟩
    go_wp2
    go_ret
    exact ⟨rfl, hb2⟩
  have d0 : decide (m < 1) = false := decide_eq_false h0
  by_cases h1 : 200 < m
  · have d1 : decide (200 < m) = true := decide_eq_true h1
    go_enter Try.func4, Try.ntmps4
    go_wp2_with fail
    refine (awake_any _).mono ?_
    rintro e w2 ⟨rfl, hb2⟩
    go_wp2
    go_ret
    exact ⟨rfl, hb2⟩
  have d1 : decide (200 < m) = false := decide_eq_false h1
  by_cases h2 : 50 < len
  · have d2 : decide (50 < len) = true := decide_eq_true h2
    go_enter Try.func4, Try.ntmps4
    go_wp2_with fail
    refine (awake_any _).mono ?_
    rintro e w2 ⟨rfl, hb2⟩
    go_wp2
    go_ret
    exact ⟨rfl, hb2⟩
  have d2 : decide (50 < len) = false := decide_eq_false h2
  by_cases h3 : 50 < len2
  · have d3 : decide (50 < len2) = true := decide_eq_true h3
    go_enter Try.func4, Try.ntmps4
    go_wp2_with fail
    refine (awake_any _).mono ?_
    rintro e w2 ⟨rfl, hb2⟩
    go_wp2
    go_ret
    exact ⟨rfl, hb2⟩
  have d3 : decide (50 < len2) = false := decide_eq_false h3
  have hl50 : len ≤ 50 := by omega
  have hl51 : len2 ≤ 50 := by omega
  obtain ⟨n, en⟩ : ∃ n : Nat, m = n := ⟨m.toNat, by omega⟩
  subst en
  have hn : 1 ≤ n ∧ n ≤ 2048 := by omega
  have hn1 := hn.1
  have hn2 : n ≤ 200 := by omega
  have hn3 : n ≤ 100000 := by omega
  have HNN := Lib.hid hn
  clear hm1 hm2 h0 h1 h2 h3 hn
  go_enter Try.func4, Try.ntmps4
  go_wp2_with fail
  refine (new_any n HNN.out _).mono ?_
  rintro e w1 ⟨⟨lb, lg, rfl, hb, hg, s1⟩, L1⟩
  have lt1 := s1.lt
  have M1 := Lib.hid s1
  have HL1 := Lib.hid L1
  clear s1 L1 d0 d1 d2 d3
  go_upto_region 7 with (fail)
  refine Rd.name_world ?_
  intro w2 hw
  have bW : blk w2 w1.heap.size = some (.cells (cs .i64 (List.replicate n 0)) 3 (0, 0)) := by rw [hw]; exact blk_alloc_at _ _ _ rfl
  have hb2 : Below w1.heap.size w1 w2 := by
    rw [hw]
    repeat' (first | (with_reducible exact Below.refl _ _) | (with_reducible refine Rd.below_step ?_ (by assumption)) | (with_reducible refine Rd.below_alloc ?_ _) | (with_reducible refine Rd.below_drewN ?_ _) | (with_reducible refine Below.drew ?_) | (with_reducible refine Below.setCell ?_ ?_ _) | (with_reducible refine Rd.below_setRow ?_ ?_ _) | go_size | (simp only [World.size_alloc]; omega) | omega)
  have HS : Hid (Ap w w2 lb lg w1.heap.size n (List.replicate n false) (List.replicate n 0)) := Lib.hid ⟨M1.out.bel hb2, by simp, bW, ⟨by simp, fun j hj => by simp [b_, List.getD, hj]⟩, HL1.out.trans (hb2.mono HL1.out.size)⟩
  have hcn : cnt (List.replicate n false) = 0 := by simp [cnt, List.count_replicate]
  have hwo : w.heap.size ≤ w1.heap.size := HL1.out.size
  obtain ⟨ow, how⟩ : ∃ p, w1.heap.size = p := ⟨_, rfl⟩
  rw [how] at HS lt1 hwo ⊢
  have HCN := Lib.hid hcn
  clear hw hb2 bW how M1 HL1 hcn
  go_wp2_with fail
  go_loopw [10, 11] (fun u i X => ∃ (k : Nat) (bs : List Bool) (os : List Int), k ≤ len ∧ i = .int .i64 k ∧ u = .int .i64 (cnt bs : Nat) ∧ Hid (Ap w X lb lg ow n bs os)) (fun _ i _ => len - (intOf i).toNat)
  case atStart => exact ⟨0, _, _, by omega, rfl, by rw [HCN.out]; rfl, HS⟩
  case round =>
    clear HS HCN
    obtain ⟨k, bs, os, hk, rfl, rfl, HS⟩ := hrel
    rename World => X
    by_cases hlt : k < len
    · have hlt' : (k : Int) < len := by omega
      obtain ⟨ab, ao, rfl, hab, hac⟩ := Ints.cell_of HRD.out (k := k) (by rw [HZL.out]; exact hlt) (by omega)
      have hcell := (HS.out.below.cell (p := ⟨ab, ao + k, none⟩) hab).trans (hac k (by rw [HZL.out]; exact hlt))
      have hzz := Ints.getD_in HZ.out k
      generalize zs.getD k 0 = z at hcell hzz
      obtain ⟨t, ht⟩ : ∃ t : Int, z % 12 = t := ⟨_, rfl⟩
      have ht1 : 0 ≤ t := by omega
      have ht2 : t < 12 := by omega
      obtain ⟨K, hK⟩ : ∃ K : Nat, 1 + t = (K : Int) := ⟨(1 + t).toNat, by omega⟩
      have hK1 : 1 ≤ K := by omega
      have hK2 : K ≤ 12 := by omega
      have HT := Lib.hid ht
      have hcnt := cnt_le bs
      rw [HS.out.len] at hcnt
      have hol := HS.out.rel.1
      have HOL := Lib.hid hol
      clear hac ht hol
      go_wp2_with fail
      refine (Alk.round_any z 12 _ hzz.1 hzz.2 (by omega) (by omega)).mono ?_
      rintro e _ ⟨rfl, rfl⟩
      rw [HT.out]
      clear hcell hzz HT
      go_upto_region 13 with (fail)
      go_upto_block 2 with (fail)
      go_cut [13, 14, 15] from 50 to 161 (fun v r a Y => Y = X ∧ v = .int .i64 (match first bs K with | some x => (x : Int) | none => -1))
      case first =>
        go_wp2_with fail
        go_loop [13, 14, 15] (fun v r a => ∃ (j rr : Nat) (vv : Int), j ≤ n ∧ rr ≤ 300 ∧ a = .int .i64 j ∧ r = .int .i64 rr ∧ v = .int .i64 vv ∧ Hid ((vv = -1 ∧ Look bs K j rr) ∨ (0 ≤ vv ∧ first bs K = some vv.toNat))) (fun _ _ a => n - (intOf a).toNat)
        case atStart => exact ⟨0, 0, -1, by omega, by omega, rfl, rfl, rfl, Lib.hid (Or.inl ⟨rfl, look_start hK1⟩)⟩
        case round =>
          obtain ⟨j, rr, vv, hj, hrr, rfl, rfl, rfl, HW⟩ := hrel
          by_cases hv : 0 ≤ vv
          · have hfst : first bs K = some vv.toNat := by
              rcases HW.out with ⟨h, -⟩ | ⟨-, h⟩
              · omega
              · exact h
            have HF := Lib.hid hfst
            have dv : decide (vv < 0) = false := decide_eq_false (by omega)
            clear hfst
            by_cases hjn : j < n
            · have djn : decide ((j : Int) < n) = true := decide_eq_true (by omega)
              have hjn' : (j : Int) < n := by omega
              go_wp2
              go_meet
              refine ⟨rfl, ?_⟩
              rw [HF.out]
              simp
              omega
            · have djn : decide ((j : Int) < n) = false := decide_eq_false (by omega)
              have hjn' : ¬ (j : Int) < n := by omega
              go_wp2
              go_meet
              refine ⟨rfl, ?_⟩
              rw [HF.out]
              simp
              omega
          · have hlk : Look bs K j rr ∧ vv = -1 := by
              rcases HW.out with ⟨h, h2⟩ | ⟨h, -⟩
              · exact ⟨h2, h⟩
              · omega
            have HL := Lib.hid hlk.1
            have hle := hlk.1.le
            obtain rfl := hlk.2
            clear hlk HW hv
            by_cases hjn : j < n
            · have djn : decide ((j : Int) < n) = true := decide_eq_true (by omega)
              have hjn' : (j : Int) < n := by omega
              have hbl : j < bs.length := by rw [HS.out.len]; exact hjn
              have co : X.cell? ⟨ow, j, none⟩ = some (.int .i64 (os.getD j 0)) := by rw [blk_cell HS.out.row, at_i (by rw [HOL.out]; exact hjn)]
              have hrel := HS.out.rel.2 j hjn
              obtain ⟨ov, hov⟩ : ∃ v, os.getD j 0 = v := ⟨_, rfl⟩
              rw [hov] at co hrel
              have HBL := Lib.hid hbl
              clear hov hbl
              by_cases hz0 : ov = 0
              · have hbf := Lib.hid (hrel.1 hz0)
                subst hz0
                clear hrel
                by_cases hkk : rr + 1 = K
                · have hkz : ((rr : Int) + 1) = (K : Int) := by omega
                  have HF := Lib.hid (look_hit HL.out HBL.out hbf.out hkk)
                  have hja : (j : Int) - (K : Int) + 1 = ((j + 1 - K : Nat) : Int) := by omega
                  obtain ⟨A, hA⟩ : ∃ A, j + 1 - K = A := ⟨_, rfl⟩
                  rw [hA] at HF hja
                  clear hkk hA
                  go_wp2
                  exact ⟨⟨j + 1, K, A, by omega, by omega, by go_num, rfl, rfl, Lib.hid (Or.inr ⟨by omega, by rw [Int.toNat_natCast]; exact HF.out⟩)⟩, by simp [intOf]; omega⟩
                · have hkz : ¬ ((rr : Int) + 1) = (K : Int) := by omega
                  have HF := Lib.hid (look_false HL.out HBL.out hbf.out (by have := HL.out.lt; omega))
                  clear hkk
                  go_wp2
                  exact ⟨⟨j + 1, rr + 1, -1, by omega, by omega, by go_num, by go_num, rfl, Lib.hid (Or.inl ⟨rfl, HF.out⟩)⟩, by simp [intOf]; omega⟩
              · have hbt := Lib.hid (show b_ bs j = true from by
                  cases hb : b_ bs j with
                  | true => rfl
                  | false => exact absurd (hrel.2 hb) hz0)
                have HF := Lib.hid (look_true HL.out hK1 HBL.out hbt.out)
                have hK0 : ¬ (0 : Int) = (K : Int) := by omega
                clear hrel
                go_wp2
                exact ⟨⟨j + 1, 0, -1, by omega, by omega, by go_num, rfl, rfl, Lib.hid (Or.inl ⟨rfl, HF.out⟩)⟩, by simp [intOf]; omega⟩
            · have djn : decide ((j : Int) < n) = false := decide_eq_false (by omega)
              have hjn' : ¬ (j : Int) < n := by omega
              have HF := Lib.hid (look_end HL.out hK1 (by rw [HS.out.len]; omega))
              go_wp2
              go_meet
              refine ⟨rfl, ?_⟩
              rw [HF.out]
      case rest =>
      obtain ⟨e1, rfl⟩ := hcut
      subst e1
      cases hf : first bs K with
      | none =>
        have HF := Lib.hid hf
        clear hf
        go_wp2_with fail
        refine (take_none _ HS.out.m hK1 HF.out).mono ?_
        rintro e X1 ⟨rfl, h2, g2⟩
        have H1 : Hid (Ap w X1 lb lg ow n bs os) := Lib.hid ⟨h2, HS.out.len, blk_turn HS.out.row g2 (by omega), HS.out.rel, bel_turn HS.out.below g2 (Nat.le_refl _) hg⟩
        clear h2 g2 HS
        go_wp2
        exact ⟨⟨k + 1, bs, os, by omega, by go_num, rfl, H1⟩, by simp [intOf]; omega⟩
      | some a =>
        have HF := Lib.hid hf
        obtain ⟨hfit, -⟩ := first_some hK1 hf
        obtain ⟨-, f2, f3⟩ := fit_iff.1 hfit
        rw [HS.out.len] at f2
        have HZF := Lib.hid f3
        have hcm := cnt_mk K (by rw [HS.out.len]; exact f2) f3
        have HCM := Lib.hid hcm
        have hcm2 := cnt_le (ExM.mk bs a true K)
        rw [hcm, mk_len, HS.out.len] at hcm2
        obtain ⟨u0, hu0⟩ : ∃ u, cnt bs = u := ⟨_, rfl⟩
        rw [hu0] at hcm2 HCM hcnt ⊢
        have HU0 := Lib.hid hu0
        obtain ⟨u1, hu1⟩ : ∃ u, u0 + K = u := ⟨_, rfl⟩
        rw [hu1] at HCM hcm2
        have hku : (u0 : Int) + (K : Int) = (u1 : Int) := by omega
        have hkv : (u1 : Int) - (K : Int) = (u0 : Int) := by omega
        clear hf hfit f3 hcm hu0 hu1
        go_wp2_with fail
        refine (take_some _ HS.out.m hK1 HF.out).mono ?_
        rintro e X1 ⟨rfl, h2, g2⟩
        have H1 : Hid (Mp X1 lb lg n (ExM.mk bs a true K) ∧ blk X1 ow = some (.cells (cs .i64 os) 3 (0, 0)) ∧ Below w.heap.size w X1) := Lib.hid ⟨h2, blk_turn HS.out.row g2 (by omega), bel_turn HS.out.below g2 (Nat.le_refl _) hg⟩
        have HLEN := Lib.hid HS.out.len
        have HREL := Lib.hid HS.out.rel
        clear h2 g2 HS
        have hak : (a : Int) + (K : Int) = ((a + K : Nat) : Int) := by omega
        obtain ⟨E, hE⟩ : ∃ E, a + K = E := ⟨_, rfl⟩
        rw [hE] at hak f2
        have HE := Lib.hid hE
        have haE : a ≤ E := by omega
        clear hE
        go_wp2_with fail
        go_loopw [18] (fun i Y => ∃ c : Nat, a ≤ c ∧ c ≤ E ∧ i = .int .i64 c ∧ Hid (Mp Y lb lg n (ExM.mk bs a true K) ∧ blk Y ow = some (.cells (cs .i64 (mkI os a ((k : Int) + 1) (c - a))) 3 (0, 0)) ∧ Below w.heap.size w Y)) (fun i _ => E - (intOf i).toNat)
        case atStart => exact ⟨a, Nat.le_refl _, haE, rfl, Lib.hid ⟨H1.out.1, by rw [Nat.sub_self]; exact H1.out.2.1, H1.out.2.2⟩⟩
        case round =>
          clear H1
          obtain ⟨c, hc1, hc2, rfl, HC⟩ := hrel
          rename World => Y
          by_cases hce : c < E
          · have hce' : (c : Int) < E := by omega
            have hcn : c < n := by omega
            have cc : Y.cell? ⟨ow, c, none⟩ = some (.int .i64 ((mkI os a ((k : Int) + 1) (c - a)).getD c 0)) := by rw [blk_cell HC.out.2.1, at_i (by rw [mkI_len, HOL.out]; exact hcn)]
            have fc := blk_frozen HC.out.2.1 c
            go_wp2
            refine ⟨⟨c + 1, by omega, by omega, by go_num, Lib.hid ⟨?_, ?_, ?_⟩⟩, by simp [intOf]; omega⟩
            · exact HC.out.1.turn (ExA.set_grown _ _ _ _) (by omega) (by omega)
            · have := blk_set Y ow c (.int .i64 ((k : Int) + 1)) _ _ HC.out.2.1
              rw [set_i] at this
              refine this.trans ?_
              rw [show c + 1 - a = c - a + 1 by omega]
              show _ = some (Obj.cells (cs .i64 ((mkI os a ((k : Int) + 1) (c - a)).set (a + (c - a)) ((k : Int) + 1))) 3 (0, 0))
              rw [show a + (c - a) = c by omega]
            · exact Below.setCell HC.out.2.2 (by show w.heap.size ≤ ow; omega) _
          · obtain rfl : c = E := by omega
            have hca : c - a = K := by have := HE.out; omega
            have HC2 : Hid (Ap w Y lb lg ow n (ExM.mk bs a true K) (mkI os a ((k : Int) + 1) K)) := Lib.hid ⟨HC.out.1, by rw [mk_len]; exact HLEN.out, by rw [← hca]; exact HC.out.2.1, ⟨by rw [mkI_len]; exact HOL.out, fun j hj => by
              rw [mkI_at os a _ K (by rw [HOL.out]; omega), mk_at bs a true K (by rw [HLEN.out]; omega)]
              by_cases e : a ≤ j ∧ j < a + K
              · rw [if_pos e, if_pos e]; constructor
                · intro h; omega
                · intro h; cases h
              · rw [if_neg e, if_neg e]; exact HREL.out.2 j hj⟩, HC.out.2.2⟩
            clear HC hca
            go_upto_region 32 with (fail)
            by_cases hk2 : k < len2
            · have dk2 : decide ((k : Int) < len2) = true := decide_eq_true (by omega)
              have hk2' : (k : Int) < len2 := by omega
              obtain ⟨-, hq⟩ := HQR.out
              obtain ⟨qb, qo, eq_, hqb, hqc⟩ := hq.resolve_left (by omega)
              subst eq_
              have cq := (HC2.out.below.cell (p := ⟨qb, qo + k, none⟩) hqb).trans (hqc k hk2)
              generalize qs.getD k false = qv at cq
              clear hqc hq
              cases qv with
              | true =>
                go_wp2_with fail
                refine (give_yes _ HC2.out.m hK1 HLEN.out (by have := HE.out; omega) hn2 HZF.out).mono ?_
                rintro e Z1 ⟨rfl, h2, g2⟩
                have G1 : Hid (Mp Z1 lb lg n bs ∧ blk Z1 ow = some (.cells (cs .i64 (mkI os a ((k : Int) + 1) K)) 3 (0, 0)) ∧ Below w.heap.size w Z1) := Lib.hid ⟨h2, blk_turn HC2.out.row g2 (by omega), bel_turn HC2.out.below g2 (Nat.le_refl _) hg⟩
                clear h2 g2 cq HC2
                go_wp2_with fail
                refine (give_no _ G1.out.1 hK1 HLEN.out (by have := HE.out; omega) hn2 HZF.out).mono ?_
                rintro e Z2 ⟨rfl, h2, g2⟩
                have G2 : Hid (Mp Z2 lb lg n bs ∧ blk Z2 ow = some (.cells (cs .i64 (mkI os a ((k : Int) + 1) K)) 3 (0, 0)) ∧ Below w.heap.size w Z2) := Lib.hid ⟨h2, blk_turn G1.out.2.1 g2 (by omega), bel_turn G1.out.2.2 g2 (Nat.le_refl _) hg⟩
                clear h2 g2 G1
                go_wp2_with fail
                go_loopw [19] (fun i Y => ∃ d : Nat, a ≤ d ∧ d ≤ c ∧ i = .int .i64 d ∧ Hid (Mp Y lb lg n bs ∧ blk Y ow = some (.cells (cs .i64 (mkI (mkI os a ((k : Int) + 1) K) a 0 (d - a))) 3 (0, 0)) ∧ Below w.heap.size w Y)) (fun i _ => c - (intOf i).toNat)
                case atStart => exact ⟨a, Nat.le_refl _, haE, rfl, Lib.hid ⟨G2.out.1, by rw [Nat.sub_self]; exact G2.out.2.1, G2.out.2.2⟩⟩
                case round =>
                  clear G2
                  obtain ⟨d, hd1, hd2, rfl, HD⟩ := hrel
                  rename World => V
                  by_cases hde : d < c
                  · have hde' : (d : Int) < c := by omega
                    have hdn : d < n := by omega
                    have cc : V.cell? ⟨ow, d, none⟩ = some (.int .i64 ((mkI (mkI os a ((k : Int) + 1) K) a 0 (d - a)).getD d 0)) := by rw [blk_cell HD.out.2.1, at_i (by rw [mkI_len, mkI_len, HOL.out]; exact hdn)]
                    have fc := blk_frozen HD.out.2.1 d
                    go_wp2
                    refine ⟨⟨d + 1, by omega, by omega, by go_num, Lib.hid ⟨?_, ?_, ?_⟩⟩, by simp [intOf]; omega⟩
                    · exact HD.out.1.turn (ExA.set_grown _ _ _ _) (by omega) (by omega)
                    · have := blk_set V ow d (.int .i64 0) _ _ HD.out.2.1
                      rw [set_i] at this
                      refine this.trans ?_
                      rw [show d + 1 - a = d - a + 1 by omega]
                      show _ = some (Obj.cells (cs .i64 ((mkI (mkI os a ((k : Int) + 1) K) a 0 (d - a)).set (a + (d - a)) 0)) 3 (0, 0))
                      rw [show a + (d - a) = d by omega]
                    · exact Below.setCell HD.out.2.2 (by show w.heap.size ≤ ow; omega) _
                  · obtain rfl : d = c := by omega
                    have hca : d - a = K := by have := HE.out; omega
                    have HD2 : Hid (Ap w V lb lg ow n bs (mkI (mkI os a ((k : Int) + 1) K) a 0 K)) := Lib.hid ⟨HD.out.1, HLEN.out, by rw [← hca]; rw [← hca] at HD; exact HD.out.2.1, ⟨by rw [mkI_len, mkI_len]; exact HOL.out, fun j hj => by
                      rw [mkI_at _ a _ K (by rw [mkI_len, HOL.out]; omega), mkI_at os a _ K (by rw [HOL.out]; omega)]
                      by_cases e : a ≤ j ∧ j < a + K
                      · rw [if_pos e]; exact ⟨fun _ => HZF.out j e.1 e.2, fun _ => rfl⟩
                      · rw [if_neg e, if_neg e]; exact HREL.out.2 j hj⟩, HD.out.2.2⟩
                    have hus := used_cnt _ HD2.out.m
                    rw [HU0.out] at hus
                    have HUS := Lib.hid hus
                    clear hus HD hca
                    go_wp2_with fail
                    refine HUS.out.mono ?_
                    rintro e Z ⟨rfl, bz⟩
                    have HZ9 := Lib.hid (HD2.out.bel bz)
                    clear bz HD2 HUS
                    go_wp2
                    exact ⟨⟨k + 1, _, _, by omega, by go_num, by rw [HU0.out], HZ9⟩, by simp [intOf]; omega⟩
              | false =>
                have hus := used_cnt _ HC2.out.m
                rw [HCM.out] at hus
                have HUS := Lib.hid hus
                clear hus
                go_wp2_with fail
                refine HUS.out.mono ?_
                rintro e Z ⟨rfl, bz⟩
                have HZ9 := Lib.hid (HC2.out.bel bz)
                clear bz HC2 HUS
                go_wp2
                exact ⟨⟨k + 1, _, _, by omega, by go_num, by rw [HCM.out], HZ9⟩, by simp [intOf]; omega⟩
            · have dk2 : decide ((k : Int) < len2) = false := decide_eq_false (by omega)
              have hk2' : ¬ (k : Int) < len2 := by omega
              have hus := used_cnt _ HC2.out.m
              rw [HCM.out] at hus
              have HUS := Lib.hid hus
              clear hus
              go_wp2_with fail
              refine HUS.out.mono ?_
              rintro e Z ⟨rfl, bz⟩
              have HZ9 := Lib.hid (HC2.out.bel bz)
              clear bz HC2 HUS
              go_wp2
              exact ⟨⟨k + 1, _, _, by omega, by go_num, by rw [HCM.out], HZ9⟩, by simp [intOf]; omega⟩
    · obtain rfl : k = len := by omega
      have LY := HS.out.below
      go_wp2_with fail
      refine (awake_any _).mono ?_
      rintro e x5 ⟨rfl, b1⟩
      have L5 : Below w.heap.size w x5 := LY.trans (b1.mono LY.size)
      clear b1
      go_wp2
      go_ret
      exact ⟨rfl, L5⟩
end Go.Proofs.Ytmhjhfjbfoklpaa.ExG

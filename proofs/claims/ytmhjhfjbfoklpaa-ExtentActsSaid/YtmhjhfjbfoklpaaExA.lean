/-
  A map of sectors in the store; end, may, mark, New, Contains, Clone, Copy.
-/
import Derived.Test.YtmhjhfjbfoklpaaExM
import Derived.Test.YtmhjhfjbfoklpaaIt
import Derived.Test.YtmhjhfjbfoklpaaReg
import Derived.Test.YtmhjhfjbfoklpaaMid
import Derived.Test.YtmhjhfjbfoklpaaApp
import Derived.Laws.MakeOwn
import Derived.Lib.SliceRun
import Derived.BigQuiet
import Derived.BigGuard
import Derived.Deep.QuietTactic
namespace Go.Proofs.Ytmhjhfjbfoklpaa.ExA
open Go.RowKit Rd Go.Proofs.Ytmhjhfjbfoklpaa.Row ExM
set_option linter.unusedVariables false
set_option linter.unusedSimpArgs false
set_option maxRecDepth 10000
structure Mp (X : World) (b g cap : Nat) (bs : List Bool) : Prop where
  head : blk X b = some (.cells #[.slice (some ⟨g, 0, none⟩) bs.length cap] 51 (0, 0))
  row : ∃ c, blk X g = some (.cells c 4 (0, 0)) ∧ ∀ i, i < bs.length → c[i]? = some (.bool (b_ bs i))
  small : 1 ≤ bs.length ∧ bs.length ≤ 2048 ∧ bs.length ≤ cap
  ne : b ≠ g
variable {X Y : World} {b g cap : Nat} {bs : List Bool}
theorem Mp.lt (h : Mp X b g cap bs) : b < X.heap.size ∧ g < X.heap.size := ⟨blk_lt h.head, by obtain ⟨c, hc, -⟩ := h.row; exact blk_lt hc⟩
theorem Mp.kept (h : Mp X b g cap bs) (hb : Y.heap[b]? = X.heap[b]?) (hg : Y.heap[g]? = X.heap[g]?) : Mp Y b g cap bs :=
  ⟨hb.trans h.head, by obtain ⟨c, hc, h2⟩ := h.row; exact ⟨c, hg.trans hc, h2⟩, h.small, h.ne⟩
theorem Mp.below {B : Nat} (h : Mp X b g cap bs) (hb : Below B X Y) (h1 : b < B) (h2 : g < B) : Mp Y b g cap bs := h.kept (hb.block b h1) (hb.block g h2)
theorem Mp.bel (h : Mp X b g cap bs) (hb : Below X.heap.size X Y) : Mp Y b g cap bs := h.below hb h.lt.1 h.lt.2
theorem Mp.turn {q : Nat} (h : Mp X b g cap bs) (hg : X.grownBy Y (some q)) (h1 : b ≠ q) (h2 : g ≠ q) : Mp Y b g cap bs :=
  h.kept (hg.block b h.lt.1 fun e => h1 (by injection e)) (hg.block g h.lt.2 fun e => h2 (by injection e))
theorem Mp.c0 (h : Mp X b g cap bs) : X.cell? ⟨b, 0, none⟩ = some (.slice (some ⟨g, 0, none⟩) bs.length cap) := by rw [blk_cell h.head]; rfl
theorem Mp.cB (h : Mp X b g cap bs) {i : Nat} (hi : i < bs.length) : X.cell? ⟨g, i, none⟩ = some (.bool (b_ bs i)) := by
  obtain ⟨c, hc, h2⟩ := h.row
  rw [blk_cell hc]; exact h2 i hi
theorem Mp.fr (h : Mp X b g cap bs) (k : Nat) : X.frozen? ⟨g, k, none⟩ = false := by
  obtain ⟨c, hc, -⟩ := h.row
  exact blk_frozen hc k
theorem set_grown (X : World) (g k : Nat) (v : Value) : X.grownBy (X.setCell ⟨g, k, none⟩ v) (some g) :=
  ⟨rfl, rfl, rfl, by simp, fun j hj hne => heap_setCell_other X ⟨g, k, none⟩ j v (fun e => hne (by rw [e]))⟩
theorem Mp.set (h : Mp X b g cap bs) {a : Nat} (ha : a < bs.length) (v : Bool) : Mp (X.setCell ⟨g, a, none⟩ (.bool v)) b g cap (bs.set a v) := by
  have hs := h.small
  refine ⟨?_, ?_, by rw [List.length_set]; exact hs, h.ne⟩
  · rw [List.length_set]
    exact (heap_setCell_other X ⟨g, a, none⟩ b (.bool v) (fun e => h.ne (by first | exact e | exact e.symm))).trans h.head
  · obtain ⟨c, hc, h2⟩ := h.row
    refine ⟨_, blk_set X g _ _ _ _ hc, fun i hi => ?_⟩
    rw [List.length_set] at hi
    rw [b_set ha, Array.getElem?_setIfInBounds]
    by_cases e : a = i
    · subst e
      have : a < c.size := (Array.getElem?_eq_some_iff.1 (h2 a ha)).1
      rw [if_pos rfl, if_pos this, if_pos rfl]
    · rw [if_neg e, if_neg (Ne.symm e)]
      exact h2 i hi
/-! end -/
set_option maxHeartbeats 1000000 in
theorem end_any (s : Nat) (w : World) (h : Mp w b g cap bs) (hs : s < bs.length) :
    Calls Try.prog 31 #[.pointer (some ⟨b, 0, none⟩), .int .i64 s] w fun e w' => (∃ en : Nat, e = .returned (.int .i64 en) ∧ ExM.End bs s en) ∧ Below w.heap.size w w' := by
  have H := Lib.hid h
  obtain ⟨n, hn⟩ : ∃ n, bs.length = n := ⟨_, rfl⟩
  have HN := Lib.hid hn
  have hn2 := h.small.2.1
  have hl := h.lt
  rw [hn] at hs hn2
  clear h hn
  obtain ⟨v, hv⟩ : ∃ v, b_ bs s = v := ⟨_, rfl⟩
  have HV := Lib.hid hv
  clear hv
  go_enter Try.func31, Try.ntmps31
  go_wp2_with fail
  go_loopw [5] (fun i X => ∃ k : Nat, s + 1 ≤ k ∧ k ≤ n ∧ i = .int .i64 k ∧ Hid (∀ j, s ≤ j → j < k → b_ bs j = v) ∧ Hid (Below w.heap.size w X)) (fun i _ => n - (intOf i).toNat)
  case atStart => exact ⟨s + 1, by omega, by omega, by go_num, Lib.hid (fun j h1 h2 => by rw [show j = s by omega]; exact HV.out), Lib.hid (Below.refl _ _)⟩
  case round =>
    obtain ⟨k, hk1, hk2, rfl, HF, HB⟩ := hrel
    rename World => X
    have HM := Lib.hid (H.out.bel HB.out)
    have c0 := HM.out.c0
    rw [HN.out] at c0
    by_cases hlt : k < n
    · have hlt' : (k : Int) < n := by omega
      have dlt : decide ((k : Int) < n) = true := decide_eq_true hlt'
      have dlt2 : decide (k < n) = true := decide_eq_true hlt
      have ck := HM.out.cB (i := k) (by rw [HN.out]; exact hlt)
      have cs := HM.out.cB (i := s) (by rw [HN.out]; exact hs)
      rw [HV.out] at cs
      obtain ⟨q, hq⟩ : ∃ q, b_ bs k = q := ⟨_, rfl⟩
      rw [hq] at ck
      have HQ := Lib.hid hq
      clear hq
      have hs' : (s : Int) < n := by omega
      by_cases he : q = v
      · subst he
        have d1 : (q == q) = true := by simp
        go_wp2
        go_quiet (fail)
        go_wp2
        exact ⟨⟨k + 1, by omega, by omega, by go_num, Lib.hid (fun j h1 h2 => by
          by_cases e : j = k
          · rw [e]; exact HQ.out
          · exact HF.out j h1 (by omega)), Lib.hid (by have LX := HB.out; repeat' (first | (with_reducible exact Below.refl _ _) | (with_reducible refine Rd.below_step ?_ (by assumption)) | (with_reducible refine Rd.below_alloc ?_ _) | (with_reducible refine Rd.below_drewN ?_ _) | (with_reducible refine Below.drew ?_) | (with_reducible refine Below.setCell ?_ ?_ _) | (with_reducible refine Rd.below_setRow ?_ ?_ _) | go_size | (simp only [World.size_alloc]; omega) | omega))⟩, by simp [intOf]; omega⟩
      · have d1 : (q == v) = false := by simpa using he
        have HE : Hid (ExM.End bs s k) := Lib.hid ⟨by omega, by rw [HN.out]; omega, fun j h1 h2 => (HF.out j h1 h2).trans HV.out.symm, fun _ => by rw [HQ.out, HV.out]; exact he⟩
        clear he
        go_wp2
        go_quiet (fail)
        go_wp2
        go_ret
        exact ⟨⟨k, rfl, HE.out⟩, by have LX := HB.out; repeat' (first | (with_reducible exact Below.refl _ _) | (with_reducible refine Rd.below_step ?_ (by assumption)) | (with_reducible refine Rd.below_alloc ?_ _) | (with_reducible refine Rd.below_drewN ?_ _) | (with_reducible refine Below.drew ?_) | (with_reducible refine Below.setCell ?_ ?_ _) | (with_reducible refine Rd.below_setRow ?_ ?_ _) | go_size | (simp only [World.size_alloc]; omega) | omega)⟩
    · obtain rfl : k = n := by omega
      have dlt : decide ((k : Int) < k) = false := decide_eq_false (by omega)
      have dlt2 : decide (k < k) = false := decide_eq_false (by omega)
      have HE : Hid (ExM.End bs s k) := Lib.hid ⟨by omega, by rw [HN.out]; omega, fun j h1 h2 => (HF.out j h1 h2).trans HV.out.symm, fun h => absurd h (by rw [HN.out]; omega)⟩
      go_wp2
      go_quiet (fail)
      go_wp2
      go_ret
      exact ⟨⟨k, rfl, HE.out⟩, by have LX := HB.out; repeat' (first | (with_reducible exact Below.refl _ _) | (with_reducible refine Rd.below_step ?_ (by assumption)) | (with_reducible refine Rd.below_alloc ?_ _) | (with_reducible refine Rd.below_drewN ?_ _) | (with_reducible refine Below.drew ?_) | (with_reducible refine Below.setCell ?_ ?_ _) | (with_reducible refine Rd.below_setRow ?_ ?_ _) | go_size | (simp only [World.size_alloc]; omega) | omega)⟩
/-! may -/
def mayB (n : Nat) (s k : Int) : Bool := decide (1 ≤ k ∧ 0 ≤ s ∧ s < n ∧ k ≤ n - s)
set_option maxHeartbeats 1000000 in
theorem may_any (s k : Int) (w : World) (h : Mp w b g cap bs) (hs1 : -9223372036854775808 ≤ s) (hs2 : s ≤ 9223372036854775807) (hk1 : -9223372036854775808 ≤ k) (hk2 : k ≤ 9223372036854775807) :
    Calls Try.prog 27 #[.pointer (some ⟨b, 0, none⟩), .int .i64 s, .int .i64 k] w fun e w' => e = .returned (.bool (mayB bs.length s k)) ∧ w = w' := by
  have c0 := h.c0
  have hn2 := h.small.2.1
  obtain ⟨n, hn⟩ : ∃ n, bs.length = n := ⟨_, rfl⟩
  rw [hn] at c0 hn2 ⊢
  clear h hn
  by_cases h1 : 1 ≤ k
  · have d1 : decide (1 ≤ k) = true := decide_eq_true h1
    by_cases h2 : 0 ≤ s
    · have d2 : decide (0 ≤ s) = true := decide_eq_true h2
      by_cases h3 : s < n
      · have d3 : decide (s < (n : Int)) = true := decide_eq_true h3
        by_cases h4 : k ≤ n - s
        · have d4 : decide (k ≤ (n : Int) - s) = true := decide_eq_true h4
          have hR : mayB n s k = true := decide_eq_true ⟨h1, h2, h3, h4⟩
          go_enter Try.func27, Try.ntmps27
          go_wp2
          go_ret
          exact ⟨by first | rfl | (rw [hR]; done) | (rw [hR]; rfl), rfl⟩
        · have d4 : decide (k ≤ (n : Int) - s) = false := decide_eq_false h4
          have hR : mayB n s k = false := decide_eq_false fun h => h4 h.2.2.2
          go_enter Try.func27, Try.ntmps27
          go_wp2
          go_ret
          exact ⟨by first | rfl | (rw [hR]; done) | (rw [hR]; rfl), rfl⟩
      · have d3 : decide (s < (n : Int)) = false := decide_eq_false h3
        have hR : mayB n s k = false := decide_eq_false fun h => h3 h.2.2.1
        go_enter Try.func27, Try.ntmps27
        go_wp2
        go_ret
        exact ⟨by first | rfl | (rw [hR]; done) | (rw [hR]; rfl), rfl⟩
    · have d2 : decide (0 ≤ s) = false := decide_eq_false h2
      have hR : mayB n s k = false := decide_eq_false fun h => h2 h.2.1
      go_enter Try.func27, Try.ntmps27
      go_wp2
      go_ret
      exact ⟨by first | rfl | (rw [hR]; done) | (rw [hR]; rfl), rfl⟩
  · have d1 : decide (1 ≤ k) = false := decide_eq_false h1
    have hR : mayB n s k = false := decide_eq_false fun h => h1 h.1
    go_enter Try.func27, Try.ntmps27
    go_wp2
    go_ret
    exact ⟨by first | rfl | (rw [hR]; done) | (rw [hR]; rfl), rfl⟩
theorem may_nil (s k : Int) (w : World) :
    Calls Try.prog 27 #[.pointer none, .int .i64 s, .int .i64 k] w fun e w' => e = .returned (.bool false) ∧ w = w' := by
  go_enter Try.func27, Try.ntmps27
  go_wp2
  go_ret
  exact ⟨rfl, rfl⟩
/-! mark -/
set_option maxHeartbeats 1000000 in
theorem mark_any (s n : Nat) (v : Bool) (w : World) (h : Mp w b g cap bs) (hn : s + n ≤ bs.length) :
    Calls Try.prog 23 #[.pointer (some ⟨b, 0, none⟩), .int .i64 s, .int .i64 n, .bool v] w fun e w' => (∃ x, e = .returned x) ∧ Mp w' b g cap (mk bs s v n) ∧ w.grownBy w' (some g) := by
  have H := Lib.hid h
  obtain ⟨N, hN⟩ : ∃ n, bs.length = n := ⟨_, rfl⟩
  have HN := Lib.hid hN
  have hn2 := h.small.2.1
  rw [hN] at hn hn2
  clear h hN
  go_enter Try.func23, Try.ntmps23
  go_wp2_with fail
  go_loopw [10] (fun i X => ∃ k : Nat, k ≤ n ∧ i = .int .i64 k ∧ Hid (Mp X b g cap (mk bs s v k)) ∧ Hid (w.grownBy X (some g))) (fun i _ => n - (intOf i).toNat)
  case atStart => exact ⟨0, by omega, rfl, H, Lib.hid (World.grownBy.refl _ _)⟩
  case round =>
    obtain ⟨k, hk, rfl, HM, HG⟩ := hrel
    rename World => X
    by_cases hlt : k < n
    · have hlt' : (k : Int) < n := by omega
      have c0 := HM.out.c0
      rw [mk_len, HN.out] at c0
      have hcell := HM.out.cB (i := s + k) (by rw [mk_len, HN.out]; omega)
      have hfr := HM.out.fr (s + k)
      have hsk : ((s : Int) + (k : Int)) = ((s + k : Nat) : Int) := by omega
      obtain ⟨p, hp⟩ : ∃ p, s + k = p := ⟨_, rfl⟩
      rw [hp] at hsk hcell hfr
      have hpN : p < N := by omega
      have HP := Lib.hid hp
      clear hp
      go_wp2
      exact ⟨⟨k + 1, by omega, by go_num, Lib.hid (by
        show Mp _ b g cap ((mk bs s v k).set (s + k) v)
        rw [HP.out]
        exact HM.out.set (by rw [mk_len, HN.out]; exact hpN) v), Lib.hid (HG.out.trans (set_grown _ _ _ _))⟩, by simp [intOf]; omega⟩
    · obtain rfl : k = n := by omega
      go_wp2
      first
        | (go_end0; exact ⟨⟨_, rfl⟩, HM.out, HG.out⟩)
        | (go_ret; exact ⟨⟨_, rfl⟩, HM.out, HG.out⟩)
/-! New -/
def bb (bs : List Bool) : Array Value := (bs.map Value.bool).toArray
theorem bb_at {bs : List Bool} {k : Nat} (h : k < bs.length) : (bb bs)[k]? = some (.bool (b_ bs k)) := by simp [bb, b_, List.getD, h]
theorem info_bool : (Try.prog.info? 4).map (fun i => (i.zero, i.size, i.bytes)) = some (some (.bool false), 1, 1) := by kernel_rfl
theorem made_bool (n : Nat) : madeCells (Value.cells (.bool false)) n = bb (List.replicate n false) := by
  apply Array.ext
  · simp [madeCells, bb]
  · intro i h1 h2
    simp only [madeCells, Value.cells, Nat.mod_one, bb, List.map_replicate, Array.getElem_map, List.getElem_toArray, List.getElem_replicate]
    show #[Value.bool false][(Array.range n)[i]'(by simpa [madeCells] using h1) % 1]! = _
    rw [Nat.mod_one]
    rfl
theorem run_make_bool (n : Nat) (hn : n ≤ 100000) (w : World) :
    (Instr.makeSlice 46 (.int .i64 (n : Int)) (.int .i64 (n : Int))).run Try.prog w = .ok (.slice (some ⟨w.heap.size, 0, none⟩) n n) (w.alloc (.cells (bb (List.replicate n false)) 4)) := by
  obtain ⟨i, hi, hz, hs, hb⟩ := info_parts info_bool
  have hr := run_make (P := Try.prog) w 46 4 i (.bool false) Try.underlying46 hi hz .i64 .i64 (n : Int) (n : Int) (by omega) (by omega) (by rw [hb]; omega) (by omega)
  simp only [Int.toNat_natCast, hs, Nat.mul_one] at hr
  rw [hr, made_bool]
theorem new_no (m : Int) (hm : ¬ (1 ≤ m ∧ m ≤ 2048)) (w : World) :
    Calls Try.prog 7 #[.int .i64 m] w fun e w' => e = .returned (.tuple #[.pointer none, .int .i64 1]) ∧ w = w' := by
  by_cases h0 : m < 1
  · have d0 : decide (m < 1) = true := decide_eq_true h0
    go_enter Try.func7, Try.ntmps7
    go_wp2
    go_ret2
    exact ⟨rfl, rfl⟩
  · have d0 : decide (m < 1) = false := decide_eq_false h0
    have d1 : decide (2048 < m) = true := decide_eq_true (by omega)
    clear hm
    go_enter Try.func7, Try.ntmps7
    go_wp2
    go_ret2
    exact ⟨rfl, rfl⟩
attribute [local go_sem ↓] run_make_bool
set_option maxHeartbeats 1000000 in
theorem new_any (n : Nat) (hn : 1 ≤ n ∧ n ≤ 2048) (w : World) :
    Calls Try.prog 7 #[.int .i64 n] w fun e w' => (∃ b g, e = .returned (.tuple #[.pointer (some ⟨b, 0, none⟩), .int .i64 0]) ∧ w.heap.size ≤ b ∧ w.heap.size ≤ g ∧ Mp w' b g n (List.replicate n false)) ∧ Below w.heap.size w w' := by
  have d0 : decide ((n : Int) < 1) = false := decide_eq_false (by omega)
  have d1 : decide ((2048 : Int) < n) = false := decide_eq_false (by omega)
  have hn3 : n ≤ 100000 := by omega
  have HN := Lib.hid hn
  clear hn
  go_enter Try.func7, Try.ntmps7
  go_wp2
  go_ret2
  refine ⟨⟨w.heap.size + 1, w.heap.size, rfl, by omega, by omega, ?_, ⟨bb (List.replicate n false), ?_, fun i hi => bb_at hi⟩, by rw [List.length_replicate]; exact ⟨HN.out.1, HN.out.2, Nat.le_refl _⟩, by omega⟩, by repeat' (first | (with_reducible exact Below.refl _ _) | (with_reducible refine Rd.below_step ?_ (by assumption)) | (with_reducible refine Rd.below_alloc ?_ _) | (with_reducible refine Rd.below_drewN ?_ _) | (with_reducible refine Below.drew ?_) | (with_reducible refine Below.setCell ?_ ?_ _) | (with_reducible refine Rd.below_setRow ?_ ?_ _) | go_size | (simp only [World.size_alloc]; omega) | omega)⟩
  · rw [List.length_replicate]
    exact blk2_1 _ _ _
  · exact blk2_0 _ _ _
/-! slices.Contains -/
def anyQ (n : Nat) (q : Nat → Bool) (v : Bool) : Bool := (List.range n).any fun i => q i == v
set_option maxHeartbeats 1000000 in
theorem index_any (q : Nat → Bool) (v : Bool) (g o n c : Nat) (w : World) (hc : ∀ i, i < n → w.cell? ⟨g, o + i, none⟩ = some (.bool (q i))) (hn : n ≤ 1000000) (hg : g < w.heap.size) :
    Calls Try.prog 32 #[.slice (some ⟨g, o, none⟩) n c, .bool v] w fun e w' => (∃ r : Int, e = .returned (.int .i64 r) ∧ decide (0 ≤ r) = anyQ n q v) ∧ Below w.heap.size w w' := by
  have HC := Lib.hid hc
  clear hc
  go_enter Try.func32, Try.ntmps32
  go_wp2_with fail
  go_loopw [8] (fun i X => ∃ k : Nat, k ≤ n ∧ i = .int .i64 k ∧ Hid (∀ j, j < k → (q j == v) = false) ∧ Hid (Below w.heap.size w X)) (fun i _ => n - (intOf i).toNat)
  case atStart => exact ⟨0, by omega, rfl, Lib.hid (fun j hj => absurd hj (by omega)), Lib.hid (Below.refl _ _)⟩
  case round =>
    obtain ⟨k, hk, rfl, HF, HB⟩ := hrel
    rename World => X
    by_cases hlt : k < n
    · have hlt' : (k : Int) < n := by omega
      have cx := (HB.out.cell (p := ⟨g, o + k, none⟩) hg).trans (HC.out k hlt)
      obtain ⟨x, hx⟩ : ∃ x, q k = x := ⟨_, rfl⟩
      rw [hx] at cx
      have HX := Lib.hid hx
      clear hx
      cases hv : (x == v) with
      | true =>
        have hv2 : (v == x) = true := by rw [Bool.beq_comm]; exact hv
        have HV := Lib.hid hv
        clear hv
        go_wp2
        go_ret
        refine ⟨⟨k, rfl, ?_⟩, HB.out⟩
        rw [decide_eq_true (by omega)]
        symm
        unfold anyQ
        rw [List.any_eq_true]
        exact ⟨k, List.mem_range.2 hlt, by rw [HX.out]; exact HV.out⟩
      | false =>
        have hv2 : (v == x) = false := by rw [Bool.beq_comm]; exact hv
        have HV := Lib.hid hv
        clear hv
        go_wp2
        exact ⟨⟨k + 1, by omega, by go_num, Lib.hid (fun j hj => by
          by_cases e : j = k
          · rw [e, HX.out]; exact HV.out
          · exact HF.out j (by omega)), HB⟩, by simp [intOf]; omega⟩
    · obtain rfl : k = n := by omega
      go_wp2
      go_ret
      refine ⟨⟨-1, rfl, ?_⟩, HB.out⟩
      have : anyQ k q v = false := by
        unfold anyQ
        rw [List.any_eq_false]
        intro j hj
        rw [HF.out j (List.mem_range.1 hj)]
        decide
      rw [this]; rfl
theorem contains_any (q : Nat → Bool) (v : Bool) (g o n c : Nat) (w : World) (hc : ∀ i, i < n → w.cell? ⟨g, o + i, none⟩ = some (.bool (q i))) (hn : n ≤ 1000000) (hg : g < w.heap.size) :
    Calls Try.prog 28 #[.slice (some ⟨g, o, none⟩) n c, .bool v] w fun e w' => e = .returned (.bool (anyQ n q v)) ∧ Below w.heap.size w w' := by
  have C := Lib.hid (index_any q v g o n c w hc hn hg)
  clear hc
  go_enter Try.func28, Try.ntmps28
  go_wp2_with fail
  refine C.out.mono ?_
  rintro e w1 ⟨⟨r, rfl, hr⟩, hb⟩
  have HR := Lib.hid hr
  clear hr
  go_wp2
  go_ret
  exact ⟨by rw [← HR.out]; first | done | rfl, hb⟩
/-! Copy -/
set_option maxHeartbeats 2000000 in
theorem clone_any (g n c : Nat) (xs : List Value) (w : World) (hR : Reads w 1 (some ⟨g, 0, none⟩) n xs) (h1 : ∀ u ∈ xs, u.oneCell' = true) (hn : n ≤ 1000000) :
    Calls Try.prog 29 #[.slice (some ⟨g, 0, none⟩) n c] w fun e w' => ∃ v', e = .returned v' ∧ w'.ownsRow w.heap.size 4 1 v' n xs ∧ Below w.heap.size w w' := by
  obtain ⟨i0, hi, hz0, hz1, hz2⟩ := info_parts info_bool
  have q22 : ∀ (w : World) (a : Option Addr) (n c n' c' : Nat), (binOp .eql 46 (.slice a n c) (.slice none n' c')).run Try.prog w = .ok (.bool a.isNone) w := fun w a n c n' c' => Lib.run_eql_slice_nil w _ _ a n c n' c' Try.underlying46
  have hmade := World.ownsRow_made w (e := 4) (size := 1) (base := w.heap.size) #[] 0 (Nat.le_refl _) (by decide) rfl
  have hB : Below w.heap.size w (w.alloc (.cells #[] 4)) := (Below.refl _ _).alloc (Nat.le_refl _) _
  have RA := hR.below hB (Nat.le_refl _)
  have ONE := Lib.hid h1
  clear hR h1
  go_enter Try.func29, Try.ntmps29
  go_wp2_with (at_builtin; refine App.wpList_append_reads _ rfl (.tmp 5) (.tmp 6) 46 rfl w.heap.size 4 i0 (.bool false) 1 1 Try.underlying46 hi hz0 hz1 hz2 rfl (by decide) _ _ _ rfl hmade (some ⟨g, 0, none⟩) n c xs rfl RA ONE.out (by unfold maxLen; omega) (by omega) (by simp) ?_; intro v3 w3 hown3 hgrow3)
  go_ret
  have L3 := hB.grown hgrow3 (by simp) (fun j hj => (hmade.lt j hj).1)
  exact ⟨_, rfl, by simpa using hown3, L3⟩
def bv (bs : List Bool) : List Value := bs.map Value.bool
theorem bv_at {bs : List Bool} {k : Nat} (h : k < bs.length) : (bv bs)[k]? = some (.bool (b_ bs k)) := by simp [bv, b_, List.getD, h]
theorem bv_len (bs : List Bool) : (bv bs).length = bs.length := by simp [bv]
theorem Mp.reads (h : Mp X b g cap bs) : Reads X 1 (some ⟨g, 0, none⟩) bs.length (bv bs) :=
  ⟨by rw [bv_len, Nat.mul_one], Or.inr ⟨g, 0, rfl, h.lt.2, fun i hi => by rw [bv_len] at hi; rw [Nat.zero_add, h.cB hi, bv_at hi]⟩⟩
set_option maxHeartbeats 1000000 in
theorem copy_any (w : World) (h : Mp w b g cap bs) :
    Calls Try.prog 20 #[.pointer (some ⟨b, 0, none⟩)] w fun e w' => (∃ b' g' cap', e = .returned (.pointer (some ⟨b', 0, none⟩)) ∧ w.heap.size ≤ b' ∧ w.heap.size ≤ g' ∧ Mp w' b' g' cap' bs) ∧ Below w.heap.size w w' := by
  have c0 := h.c0
  have hs := h.small
  obtain ⟨n, hn⟩ : ∃ n, bs.length = n := ⟨_, rfl⟩
  have C := Lib.hid (clone_any g n cap (bv bs) w (by rw [← hn]; exact h.reads) (fun u hu => by obtain ⟨z, -, rfl⟩ := List.mem_map.1 hu; rfl) (by omega))
  have HN := Lib.hid hn
  rw [hn] at c0 hs
  have HS := Lib.hid hs
  clear h hn hs
  go_enter Try.func20, Try.ntmps20
  go_wp2_with fail
  refine C.out.mono ?_
  rintro e w1 ⟨v1, rfl, ho, hb⟩
  obtain ⟨g', cap', cur, e1, e2, e3, e4, e5, e6⟩ : ∃ g' cap' cur, v1 = .slice (some ⟨g', 0, none⟩) n cap' ∧ w.heap.size ≤ g' ∧ blk w1 g' = some (.cells cur 4 (0, 0)) ∧ n ≤ cap' ∧ (∀ i, i < n → cur[i]? = (bv bs)[i]?) ∧ g' < w1.heap.size := by
    obtain ⟨ad, cap', e, hc, hl⟩ := owns_val ho
    have hR := Reads.of_owns (by rw [e] at ho; exact ho)
    have hn1 := HS.out.1
    rcases ho.2 with ⟨h2, -⟩ | ⟨gl, c2, cur, e1, e2, e3, e4⟩
    · exfalso
      rw [h2] at e
      injection e with _ e5 _
      omega
    · have hlt := blk_lt (w := w1) (g := gl) e3
      refine ⟨gl, c2, cur, e1, e2, e3, ?_, fun i hi => ?_, hlt⟩
      · rw [e1] at e
        injection e with _ _ e7
        omega
      · rcases hR.2 with h0 | ⟨b2, off, e5, hb, hcell⟩
        · omega
        · rw [e1, e5] at e
          injection e with e6
          injection e6 with e6
          injection e6 with e7 e8
          subst e7 e8
          have := hcell i (by rw [bv_len, HN.out]; exact hi)
          rw [Nat.zero_add, blk_cell e3] at this
          exact this
  subst e1
  have HB := Lib.hid hb
  have sz := hb.size
  have H3 : Hid (blk w1 g' = some (.cells cur 4 (0, 0)) ∧ n ≤ cap' ∧ (∀ i, i < n → cur[i]? = (bv bs)[i]?)) := Lib.hid ⟨e3, e4, e5⟩
  clear ho hb e3 e5 C
  go_wp2
  go_ret
  refine ⟨⟨w1.heap.size, g', cap', rfl, sz, e2, ?_, ⟨cur, ?_, fun i hi => ?_⟩, ?_, by omega⟩, HB.out.alloc (by omega) _⟩
  · rw [HN.out]
    exact blk_alloc_at _ _ _ rfl
  · exact (blk_alloc_old _ _ _ e6).trans H3.out.1
  · rw [H3.out.2.2 i (by rw [← HN.out]; exact hi), bv_at hi]
  · rw [HN.out]
    exact ⟨HS.out.1, HS.out.2.1, H3.out.2.1⟩
theorem copy_nil (w : World) :
    Calls Try.prog 20 #[.pointer none] w fun e w' => e = .returned (.pointer none) ∧ w = w' := by
  go_enter Try.func20, Try.ntmps20
  go_wp2
  go_ret
  exact ⟨rfl, rfl⟩
end Go.Proofs.Ytmhjhfjbfoklpaa.ExA

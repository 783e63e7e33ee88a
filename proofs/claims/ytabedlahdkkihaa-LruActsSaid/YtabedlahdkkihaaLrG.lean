/-
  Who was used last is last (LruLast).
-/
import Derived.Test.YtabedlahdkkihaaLrF
namespace Go.Proofs.Ytabedlahdkkihaa.LrG
open Go.RowKit Rd Go.Proofs.Ytabedlahdkkihaa.Row LrM LrA LrB LrC LrD LrE LrF
set_option linter.unusedVariables false
set_option linter.unusedSimpArgs false
set_option maxRecDepth 10000
/-! rows that are made -/
theorem made_int (n : Nat) : madeCells (Value.cells (.int .i64 0)) n = cs .i64 (List.replicate n 0) := by
  apply Array.ext
  · simp [madeCells]
  · intro i h1 h2
    simp only [madeCells, Value.cells, Nat.mod_one, cs, List.map_replicate, Array.getElem_map, List.getElem_toArray, List.getElem_replicate]
    show #[Value.int IntKind.i64 0][(Array.range n)[i]'(by simpa [madeCells] using h1) % 1]! = _
    rw [Nat.mod_one]
    rfl
theorem run_make_int (n : Nat) (hn : n ≤ 100000) (w : World) :
    (Instr.makeSlice 38 (.int .i64 (n : Int)) (.int .i64 (n : Int))).run Try.prog w = .ok (.slice (some ⟨w.heap.size, 0, none⟩) n n) (w.alloc (.cells (cs .i64 (List.replicate n 0)) 3)) := by
  obtain ⟨i, hi, hz, hs, hb⟩ := info_parts info_int
  have hr := run_make (P := Try.prog) w 38 3 i (.int .i64 0) Try.underlying38 hi hz .i64 .i64 (n : Int) (n : Int) (by omega) (by omega) (by rw [hb]; omega) (by omega)
  simp only [Int.toNat_natCast, hs, Nat.mul_one] at hr
  rw [hr, made_int]
def bb (bs : List Bool) : Array Value := (bs.map Value.bool).toArray
theorem bb_at {bs : List Bool} {k : Nat} (h : k < bs.length) : (bb bs)[k]? = some (.bool (bs.getD k false)) := by simp [bb, List.getD, h]
theorem bb_set (bs : List Bool) (k : Nat) (v : Bool) : (bb bs).setIfInBounds k (.bool v) = bb (bs.set k v) := by simp [bb, List.setIfInBounds_toArray, List.map_set]
theorem info_bool : (Try.prog.info? 4).map (fun i => (i.zero, i.size, i.bytes)) = some (some (.bool false), 1, 1) := by kernel_rfl
theorem made_bool (n : Nat) : madeCells (Value.cells (.bool false)) n = bb (List.replicate n false) := by
  apply Array.ext
  · simp [madeCells, bb]
  · intro i h1 h2
    simp only [madeCells, Value.cells, Nat.mod_one, bb, List.map_replicate, Array.getElem_map, List.getElem_toArray, List.getElem_replicate]
    show #[Value.bool false][(Array.range n)[i]'(by simpa [madeCells] using h1) % 1]! = _
    rw [Nat.mod_one]
    rfl
theorem run_make_bool (n : Nat) (hn : n ≤ 100000) (w : World) :
    (Instr.makeSlice 40 (.int .i64 (n : Int)) (.int .i64 (n : Int))).run Try.prog w = .ok (.slice (some ⟨w.heap.size, 0, none⟩) n n) (w.alloc (.cells (bb (List.replicate n false)) 4)) := by
  obtain ⟨i, hi, hz, hs, hb⟩ := info_parts info_bool
  have hr := run_make (P := Try.prog) w 40 4 i (.bool false) Try.underlying40 hi hz .i64 .i64 (n : Int) (n : Int) (by omega) (by omega) (by rw [hb]; omega) (by omega)
  simp only [Int.toNat_natCast, hs, Nat.mul_one] at hr
  rw [hr, made_bool]
/-! in which order -/
def Rw (ws : List Int) (a b : Nat) : Prop := ws.getD a 0 < ws.getD b 0 ∨ (ws.getD a 0 = 0 ∧ ws.getD b 0 = 0 ∧ a < b)
structure Wh (n k : Nat) (o : List Nat) (ws : List Int) : Prop where
  len : ws.length = n
  bd : ∀ x, 0 ≤ ws.getD x 0 ∧ ws.getD x 0 ≤ k
  ord : o.Pairwise (Rw ws)
theorem wh_start (n : Nat) : Wh n 0 (List.range n) (List.replicate n 0) := by
  have h : ∀ x, (List.replicate n (0 : Int)).getD x 0 = 0 := fun x => by
    rw [List.getD_eq_getElem?_getD, List.getElem?_replicate]
    split <;> rfl
  refine ⟨by simp, fun x => by rw [h]; omega, ?_⟩
  refine List.Pairwise.imp ?_ List.pairwise_lt_range
  intro a b hab
  exact Or.inr ⟨h a, h b, hab⟩
theorem wh_step {n k kk : Nat} {o : List Nat} {ws : List Int} (h : Wh n k o ws) (hk : kk < n) : Wh n (k + 1) (touchL o kk) (ws.set kk ((k : Int) + 1)) := by
  have hs : (ws.set kk ((k : Int) + 1)).getD kk 0 = (k : Int) + 1 := by
    rw [List.getD_eq_getElem?_getD, List.getElem?_set_self (by rw [h.len]; exact hk)]; rfl
  have hne : ∀ x, x ≠ kk → (ws.set kk ((k : Int) + 1)).getD x 0 = ws.getD x 0 := fun x hx => by
    rw [List.getD_eq_getElem?_getD, List.getElem?_set_ne (Ne.symm hx), ← List.getD_eq_getElem?_getD]
  refine ⟨by rw [List.length_set]; exact h.len, fun x => ?_, ?_⟩
  · by_cases e : x = kk
    · rw [e, hs]; omega
    · rw [hne x e]
      have := h.bd x
      omega
  · unfold touchL
    rw [List.pairwise_append]
    refine ⟨?_, List.pairwise_singleton _ _, fun a ha b hb => ?_⟩
    · refine (h.ord.filter _).imp_of_mem ?_
      intro a b ha hb hab
      have h1 : a ≠ kk := of_decide_eq_true (List.mem_filter.1 ha).2
      have h2 : b ≠ kk := of_decide_eq_true (List.mem_filter.1 hb).2
      unfold Rw
      rw [hne a h1, hne b h2]
      exact hab
    · rw [List.mem_singleton.1 hb]
      have h1 : a ≠ kk := of_decide_eq_true (List.mem_filter.1 ha).2
      unfold Rw
      rw [hne a h1, hs]
      have := h.bd a
      exact Or.inl (by omega)
theorem wh_next {n k i : Nat} {o : List Nat} {ws : List Int} (h : Wh n k o ws) (hi : i + 1 < o.length) : ¬ ws.getD (o.getD (i + 1) 0) 0 < ws.getD (o.getD i 0) 0 ∧ (ws.getD (o.getD (i + 1) 0) 0 = 0 → o.getD i 0 < o.getD (i + 1) 0) := by
  have hr := List.pairwise_iff_getElem.1 h.ord i (i + 1) (by omega) hi (by omega)
  have e1 : o.getD i 0 = o[i] := by simp [List.getD, show i < o.length by omega]
  have e2 : o.getD (i + 1) 0 = o[i + 1] := by simp [List.getD, hi]
  rw [e1, e2]
  have b1 := h.bd o[i]
  rcases hr with h1 | ⟨h1, h2, h3⟩
  · exact ⟨by omega, fun e => by omega⟩
  · exact ⟨by omega, fun _ => h3⟩
variable {b g n : Nat} {pin : Nat → Bool}
def Seen (n i : Nat) (o : List Nat) (bs : List Bool) : Prop := bs.length = n ∧ ∀ x, x < n → bs.getD x false = decide (x ∈ o.take i)
theorem seen_step {n i x : Nat} {o : List Nat} {bs : List Bool} (h : Seen n i o bs) (hi : i < o.length) (hx : o[i] = x) (hn : x < n) : Seen n (i + 1) o (bs.set x true) := by
  refine ⟨by rw [List.length_set]; exact h.1, fun y hy => ?_⟩
  rw [List.take_add_one, List.getElem?_eq_getElem hi, hx]
  by_cases e : y = x
  · subst e
    rw [List.getD_eq_getElem?_getD, List.getElem?_set_self (by rw [h.1]; exact hn)]
    simp
  · rw [List.getD_eq_getElem?_getD, List.getElem?_set_ne (Ne.symm e), ← List.getD_eq_getElem?_getD, h.2 y hy]
    simp [e]
theorem not_seen {o : List Nat} {i : Nat} (hd : o.Nodup) (hi : i < o.length) : o[i] ∉ o.take i := by
  intro h
  obtain ⟨j, hj, e⟩ := List.mem_iff_getElem.1 h
  rw [List.getElem_take] at e
  have hj' : j < i := by rw [List.length_take] at hj; omega
  exact List.pairwise_iff_getElem.1 hd j i (by omega) hi hj' e
attribute [local go_sem ↓] run_make_int run_make_bool
set_option maxHeartbeats 8000000 in
theorem last_gen (m : Int) (ai : Option Addr) (len cap : Nat) (zs : List Int) (w : World) (hm1 : -9223372036854775808 ≤ m) (hm2 : m ≤ 9223372036854775807)
    (hz : ∀ z ∈ zs, Ints.In64 z) (hzl : zs.length = len) (hR : Reads w 1 ai len (Ints.i64s zs)) :
    Calls Try.prog 4 #[.int .i64 m, .slice ai len cap] w fun e w' => e = .returned (.bool true) ∧ Below w.heap.size w w' := by
  have HR := Lib.hid hR
  have HZ := Lib.hid hz
  have HZL := Lib.hid hzl
  clear hR hz hzl
  by_cases h0 : m < 1
  · have d0 : decide (m < 1) = true := decide_eq_true h0
    go_enter Try.func4, Try.ntmps4
    go_wp2_with fail
    refine (awake_any _).mono ?_
    rintro e w2 ⟨rfl, hb2⟩
    go_wp2
    go_ret
    exact ⟨rfl, hb2⟩
  have d0 : decide (m < 1) = false := decide_eq_false h0
  by_cases h1 : 60 < m
  · have d1 : decide (60 < m) = true := decide_eq_true h1
    go_enter Try.func4, Try.ntmps4
    go_wp2_with fail
    refine (awake_any _).mono ?_
    rintro e w2 ⟨rfl, hb2⟩
    go_wp2
    go_ret
    exact ⟨rfl, hb2⟩
  have d1 : decide (60 < m) = false := decide_eq_false h1
  by_cases h2 : 80 < len
  · have d2 : decide (80 < len) = true := decide_eq_true h2
    go_enter Try.func4, Try.ntmps4
    go_wp2_with fail
    refine (awake_any _).mono ?_
    rintro e w2 ⟨rfl, hb2⟩
    go_wp2
    go_ret
    exact ⟨rfl, hb2⟩
  have d2 : decide (80 < len) = false := decide_eq_false h2
  have hl80 : len ≤ 80 := by omega
  obtain ⟨n, en⟩ : ∃ n : Nat, m = n := ⟨m.toNat, by omega⟩
  subst en
  have hn : 1 ≤ n ∧ n ≤ 128 := by omega
  have hn1 := hn.1
  have hn2 := hn.2
  have hn3 : n ≤ 100000 := by omega
  have HNN := Lib.hid hn
  clear hm1 hm2 h0 h1 hn
  go_enter Try.func4, Try.ntmps4
  go_wp2_with fail
  refine (new_any n HNN.out _).mono ?_
  rintro e w1 ⟨⟨b, g, rfl, hb, hg, s1⟩, L1⟩
  have lt1 := s1.lt
  have S1 := Lib.hid s1
  clear s1 d0 d1 d2
  go_upto_region 7 with (fail)
  refine Rd.name_world ?_
  intro w2 hw
  have bW : blk w2 w1.heap.size = some (.cells (cs .i64 (List.replicate n 0)) 3 (0, 0)) := by rw [hw]; exact blk_alloc_at _ _ _ rfl
  have hb2 : Below w1.heap.size w1 w2 := by
    rw [hw]
    repeat' (first | (with_reducible exact Below.refl _ _) | (with_reducible refine Rd.below_step ?_ (by assumption)) | (with_reducible refine Rd.below_alloc ?_ _) | (with_reducible refine Rd.below_drewN ?_ _) | (with_reducible refine Below.drew ?_) | (with_reducible refine Below.setCell ?_ ?_ _) | (with_reducible refine Rd.below_setRow ?_ ?_ _) | go_size | (simp only [World.size_alloc]; omega) | omega)
  have HS2 : Hid (St w2 b g n (List.range n) (fun _ => false) ∧ blk w2 w1.heap.size = some (.cells (cs .i64 (List.replicate n 0)) 3 (0, 0)) ∧ Below w.heap.size w w2) := Lib.hid ⟨S1.out.bel hb2, bW, L1.trans (hb2.mono L1.size)⟩
  have hL := L1.size
  obtain ⟨gw, hgw⟩ : ∃ p, w1.heap.size = p := ⟨_, rfl⟩
  rw [hgw] at HS2 lt1 hL ⊢
  clear hw hb2 bW L1 S1 hgw
  obtain ⟨ks, eks⟩ : ∃ ks, ksL n zs = ks := ⟨_, rfl⟩
  have EKS := Lib.hid eks
  clear eks
  go_wp2_with fail
  go_loopw [8] (fun i X => ∃ (k : Nat) (o : List Nat) (ws : List Int), k ≤ len ∧ i = .int .i64 k ∧ Hid (St X b g n o (fun _ => false) ∧ blk X gw = some (.cells (cs .i64 ws) 3 (0, 0)) ∧ Below w.heap.size w X) ∧ Hid (Wh n k o ws)) (fun i _ => len - (intOf i).toNat)
  case atStart => exact ⟨0, _, _, by omega, rfl, HS2, Lib.hid (wh_start n)⟩
  case round =>
    clear HS2
    obtain ⟨k, o, ws, hk, rfl, HS, HW⟩ := hrel
    rename World => X
    by_cases hlt : k < len
    · have hlt' : (k : Int) < len := by omega
      obtain ⟨ab, ao, rfl, hab, hac⟩ := Ints.cell_of HR.out (k := k) (by rw [HZL.out]; exact hlt) (by omega)
      have hcell := (HS.out.2.2.cell (p := ⟨ab, ao + k, none⟩) hab).trans (hac k (by rw [HZL.out]; exact hlt))
      obtain ⟨z, ez⟩ : ∃ z, zs.getD k 0 = z := ⟨_, rfl⟩
      have hzz := Ints.getD_in HZ.out k
      rw [ez] at hcell hzz
      obtain ⟨kk, ek⟩ : ∃ q : Nat, z % n = q := ⟨(z % n).toNat, by have := Int.emod_nonneg z (b := (n : Int)) (by omega); omega⟩
      have hkk : kk < n := by have := Int.emod_lt_of_pos z (b := (n : Int)) (by omega); omega
      have EK := Lib.hid ek
      clear ez hac ek
      go_wp2_with fail
      refine (Alk.round_any z n _ hzz.1 hzz.2 (by omega) (by omega)).mono ?_
      rintro e _ ⟨rfl, rfl⟩
      rw [EK.out]
      clear hcell hzz EK
      go_wp2_with fail
      refine (touch_yes kk _ HS.out.1 hkk).mono ?_
      rintro e x1 ⟨rfl, s1, g1⟩
      have b1 := blk_turn HS.out.2.1 g1 (show gw ≠ g by omega)
      have H1 := Lib.hid s1
      have L1 := Lib.hid (below_turn HS.out.2.2 g1 hg)
      have hwl := HW.out.len
      have cw : x1.cell? ⟨gw, kk, none⟩ = some (.int .i64 (ws.getD kk 0)) := by rw [blk_cell b1]; exact cs_at (at_of (by omega))
      have fw := blk_frozen b1 kk
      have B1 := Lib.hid b1
      have HN := Lib.hid (wh_step HW.out hkk)
      clear s1 g1 HS HW b1 hwl
      go_wp2
      refine ⟨⟨k + 1, _, _, by omega, by go_num, Lib.hid ⟨?_, ?_, ?_⟩, HN⟩, by simp [intOf]; omega⟩
      · have := H1.out.lt
        exact H1.out.kept (heap_setCell_other _ _ _ _ (fun e => by have := e; simp at this; omega)) (heap_setCell_other _ _ _ _ (fun e => by have := e; simp at this; omega))
      · have := blk_set x1 gw kk (.int .i64 ((k : Int) + 1)) _ _ B1.out
        rw [set_cs] at this
        exact this
      · exact Below.setCell L1.out (by show w.heap.size ≤ gw; omega) _
    · obtain rfl : k = len := by omega
      have hlo := st_len HS.out.1
      have hp := HS.out.1.perm
      have CO : Hid (∀ X : World, St X b g n o (fun _ => false) → Calls Try.prog 17 #[.pointer (some ⟨b, 0, none⟩), .int .i64 (-1)] X fun e w' => (∃ ad' c', e = .returned (.slice ad' n c') ∧ Reads w' 1 ad' n (Alk.i64s (o.map fun (x : Nat) => (x : Int)))) ∧ Below X.heap.size X w') := Lib.hid fun X h => by
        have := order_st (-1) X h
        rw [cut_all, hlo, iv_i64] at this
        exact this
      have HLO := Lib.hid hlo
      have HP := Lib.hid hp
      clear hlo hp
      go_wp2_with fail
      refine (CO.out _ HS.out.1).mono ?_
      rintro e x1 ⟨⟨ad, c, rfl, hr1⟩, b1⟩
      have BW := Lib.hid ((blk_below b1 _ (blk_lt HS.out.2.1)).trans HS.out.2.1)
      have K3 := Lib.hid (HS.out.2.2.trans (b1.mono HS.out.2.2.size))
      obtain ⟨oa, oo, eoa, hoa, hoc⟩ : ∃ b off, ad = some ⟨b, off, none⟩ ∧ b < x1.heap.size ∧ ∀ i, i < (Alk.i64s (o.map fun (x : Nat) => (x : Int))).length → x1.cell? ⟨b, off + i, none⟩ = (Alk.i64s (o.map fun (x : Nat) => (x : Int)))[i]? := by
        rcases hr1.2 with h | h
        · omega
        · exact h
      subst eoa
      have HOC : Hid (∀ i, i < n → x1.cell? ⟨oa, oo + i, none⟩ = some (.int .i64 ((o.getD i 0 : Nat) : Int))) := Lib.hid fun i hi => by
        rw [hoc i (by simp [Alk.i64s, HLO.out]; exact hi)]
        simp [Alk.i64s, List.getD, HLO.out, hi]
      clear hr1 b1 HS hoc CO
      go_upto_region 18 with (fail)
      refine Rd.name_world ?_
      intro x2 hw
      have bS : blk x2 x1.heap.size = some (.cells (bb (List.replicate n false)) 4 (0, 0)) := by rw [hw]; exact blk_alloc_at _ _ _ rfl
      have hb2 : Below x1.heap.size x1 x2 := by
        rw [hw]
        repeat' (first | (with_reducible exact Below.refl _ _) | (with_reducible refine Rd.below_step ?_ (by assumption)) | (with_reducible refine Rd.below_alloc ?_ _) | (with_reducible refine Rd.below_drewN ?_ _) | (with_reducible refine Below.drew ?_) | (with_reducible refine Below.setCell ?_ ?_ _) | (with_reducible refine Rd.below_setRow ?_ ?_ _) | go_size | (simp only [World.size_alloc]; omega) | omega)
      have HX2 : Hid (blk x2 x1.heap.size = some (.cells (bb (List.replicate n false)) 4 (0, 0)) ∧ Below x1.heap.size x1 x2) := Lib.hid ⟨bS, hb2⟩
      have HSE : Hid (Seen n 0 o (List.replicate n false)) := Lib.hid ⟨by simp, fun x hx => by simp [List.getD, hx]⟩
      obtain ⟨gs, hgs⟩ : ∃ p, x1.heap.size = p := ⟨_, rfl⟩
      have HGS := Lib.hid hgs
      have lw := blk_lt BW.out
      rw [hgs] at HX2 hoa lw ⊢
      clear hw hb2 bS hgs
      go_wp2_with fail
      go_loopw [12] (fun i X => ∃ (j : Nat) (bs : List Bool), j ≤ n ∧ i = .int .i64 j ∧ Hid (blk X gs = some (.cells (bb bs) 4 (0, 0)) ∧ Below gs x1 X) ∧ Hid (Seen n j o bs)) (fun i _ => n - (intOf i).toNat)
      case atStart => exact ⟨0, _, by omega, rfl, HX2, HSE⟩
      case round =>
        clear HX2 HSE
        obtain ⟨j, bs, hj, rfl, HX, HSE⟩ := hrel
        rename World => Y
        by_cases hjn : j < n
        · have hjn' : (j : Int) < n := by omega
          have cx := (HX.out.2.cell (p := ⟨oa, oo + j, none⟩) hoa).trans (HOC.out j hjn)
          obtain ⟨x, ex⟩ : ∃ x, o.getD j 0 = x := ⟨_, rfl⟩
          have hjo : j < o.length := by rw [HLO.out]; exact hjn
          have ex2 : o[j] = x := by rw [← ex]; simp [List.getD, hjo]
          have hxn : x < n := ex2 ▸ HP.out.2.1 _ (List.getElem_mem _)
          have hns : bs.getD x false = false := by
            rw [HSE.out.2 x hxn]
            have := not_seen HP.out.1 hjo
            rw [ex2] at this
            exact decide_eq_false this
          rw [ex] at cx
          have cs1 : Y.cell? ⟨gs, x, none⟩ = some (.bool false) := by
            rw [blk_cell HX.out.1, bb_at (by rw [HSE.out.1]; exact hxn), hns]
          have fs := blk_frozen HX.out.1 x
          have q1 : decide ((n : Int) ≤ (x : Int)) = false := decide_eq_false (by omega)
          have q2 : decide ((x : Int) < 0) = false := decide_eq_false (by omega)
          have q3 : decide (n ≤ x) = false := decide_eq_false (by omega)
          have HNX := Lib.hid (seen_step HSE.out hjo ex2 hxn)
          have EX := Lib.hid ex
          clear ex ex2 hjo hns
          go_upto_region 24 with (fail)
          refine Rd.name_world ?_
          intro Y1 hw
          have HY1 : Hid (blk Y1 gs = some (.cells (bb (bs.set x true)) 4 (0, 0)) ∧ Below gs x1 Y1) := Lib.hid (by
            rw [hw]
            refine ⟨?_, Below.setCell HX.out.2 (Nat.le_refl _) _⟩
            have := blk_set Y gs x (.bool true) _ _ HX.out.1
            rw [bb_set] at this
            exact this)
          clear hw cx cs1 fs HX HSE
          have cx := (HY1.out.2.cell (p := ⟨oa, oo + j, none⟩) hoa).trans (HOC.out j hjn)
          rw [EX.out] at cx
          have bw := (blk_below HY1.out.2 _ lw).trans BW.out
          have cwx : Y1.cell? ⟨gw, x, none⟩ = some (.int .i64 (ws.getD x 0)) := by rw [blk_cell bw]; exact cs_at (at_of (by rw [HW.out.len]; exact hxn))
          obtain ⟨wx, ewx⟩ : ∃ q, ws.getD x 0 = q := ⟨_, rfl⟩
          rw [ewx] at cwx
          by_cases hj0 : j = 0
          · have c0 : decide (0 < (j : Int)) = false := decide_eq_false (by omega)
            have c0' : decide (0 < j) = false := decide_eq_false (by omega)
            have HJ0 := Lib.hid hj0
            clear hj0 ewx bw
            as_aux_lemma =>
            refine wp_region_quiet_lit (by kernel_rfl) (by kernel_rfl) ?_
            iterate 42 go_big_quiet_step (fail)
            refine wpQuiet_nil ?_
            intro Z hU
            have HZ1 : Hid (blk Z gs = some (.cells (bb (bs.set x true)) 4 (0, 0)) ∧ Below gs x1 Z) := Lib.hid (by
              obtain ⟨nq, hU'⟩ := hU
              subst hU'
              exact ⟨HY1.out.1, Rd.below_drewN HY1.out.2 nq⟩)
            clear hU cx cwx HY1
            go_wp2
            exact ⟨⟨j + 1, _, by omega, by go_num, HZ1, HNX⟩, by simp [intOf]; omega⟩
          · obtain ⟨i, hi⟩ : ∃ i, j = i + 1 := ⟨j - 1, by omega⟩
            have hnx := wh_next HW.out (i := i) (by rw [HLO.out]; omega)
            rw [← hi, EX.out, ewx] at hnx
            obtain ⟨y, ey⟩ : ∃ y, o.getD i 0 = y := ⟨_, rfl⟩
            rw [ey] at hnx
            have hin : i < n := by omega
            have hio : i < o.length := by rw [HLO.out]; exact hin
            have ey2 : o[i] = y := by rw [← ey]; simp [List.getD, hio]
            have hyn : y < n := ey2 ▸ HP.out.2.1 _ (List.getElem_mem _)
            have cy := (HY1.out.2.cell (p := ⟨oa, oo + i, none⟩) hoa).trans (HOC.out i hin)
            rw [ey] at cy
            have cwy : Y1.cell? ⟨gw, y, none⟩ = some (.int .i64 (ws.getD y 0)) := by rw [blk_cell bw]; exact cs_at (at_of (by rw [HW.out.len]; exact hyn))
            obtain ⟨wy, ewy⟩ : ∃ q, ws.getD y 0 = q := ⟨_, rfl⟩
            rw [ewy] at cwy hnx
            have c0 : decide (0 < (j : Int)) = true := decide_eq_true (by omega)
            have c0' : decide (0 < j) = true := decide_eq_true (by omega)
            have c1 : decide (wx < wy) = false := decide_eq_false hnx.1
            have ei : IntKind.i64.wrap ((j : Int) - 1) = (i : Int) := by rw [IntWalk.i64_in _ (by omega)]; omega
            have hin' : (i : Int) < n := by omega
            have hi0 : (0 : Int) ≤ i := by omega
            have HI := Lib.hid hi
            have HNXX := Lib.hid hnx
            clear hj0 ewx bw hi hnx ey ey2 hio ewy
            by_cases hw0 : wx = 0
            · subst hw0
              have c2 : decide ((x : Int) < (y : Int)) = false := decide_eq_false (by have := HNXX.out.2 rfl; omega)
              have c3 : decide (x < y) = false := decide_eq_false (by have := HNXX.out.2 rfl; omega)
              as_aux_lemma =>
              refine wp_region_quiet_lit (by kernel_rfl) (by kernel_rfl) ?_
              iterate 42 go_big_quiet_step (fail)
              refine wpQuiet_nil ?_
              intro Z hU
              have HZ1 : Hid (blk Z gs = some (.cells (bb (bs.set x true)) 4 (0, 0)) ∧ Below gs x1 Z) := Lib.hid (by
                obtain ⟨nq, hU'⟩ := hU
                subst hU'
                exact ⟨HY1.out.1, Rd.below_drewN HY1.out.2 nq⟩)
              clear hU cx cwx cy cwy HY1 ei
              go_wp2
              exact ⟨⟨j + 1, _, by omega, by go_num, HZ1, HNX⟩, by simp [intOf]; omega⟩
            · have c2 : (wx == 0) = false := by simpa using hw0
              clear hw0
              as_aux_lemma =>
              refine wp_region_quiet_lit (by kernel_rfl) (by kernel_rfl) ?_
              iterate 42 go_big_quiet_step (fail)
              refine wpQuiet_nil ?_
              intro Z hU
              have HZ1 : Hid (blk Z gs = some (.cells (bb (bs.set x true)) 4 (0, 0)) ∧ Below gs x1 Z) := Lib.hid (by
                obtain ⟨nq, hU'⟩ := hU
                subst hU'
                exact ⟨HY1.out.1, Rd.below_drewN HY1.out.2 nq⟩)
              clear hU cx cwx cy cwy HY1 ei
              go_wp2
              exact ⟨⟨j + 1, _, by omega, by go_num, HZ1, HNX⟩, by simp [intOf]; omega⟩
        · obtain rfl : j = n := by omega
          have LY : Below w.heap.size w Y := K3.out.trans (HX.out.2.mono (by rw [← HGS.out]; exact K3.out.size))
          go_wp2_with fail
          refine (awake_any _).mono ?_
          rintro e x5 ⟨rfl, b1⟩
          have L5 : Below w.heap.size w x5 := LY.trans (b1.mono LY.size)
          clear b1
          go_wp2
          go_ret
          exact ⟨rfl, L5⟩
end Go.Proofs.Ytabedlahdkkihaa.LrG

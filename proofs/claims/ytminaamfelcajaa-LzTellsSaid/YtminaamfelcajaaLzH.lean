/-
  The document's own answer: run, Places, Match.
-/
import Derived.Test.YtminaamfelcajaaLzD
import Derived.BigQuiet
import Derived.BigGuard
namespace Go.Proofs.Ytminaamfelcajaa.LzH
open Go.RowKit Rd Go.Proofs.Ytminaamfelcajaa.Row OctA MaM MaA LzR
open MaD (own_bel own_mono)
set_option linter.unusedVariables false
set_option linter.unusedSimpArgs false
set_option maxRecDepth 10000
def ivN (r : List Nat) : List Value := r.map fun (x : Nat) => Value.int .i64 (x : Int)
theorem ivN_app (r s : List Nat) : ivN (r ++ s) = ivN r ++ ivN s := by simp [ivN]
theorem info_int : (Try.prog.info? 3).map (fun i => (i.zero, i.size, i.bytes)) = some (some (.int .i64 0), 1, 8) := by kernel_rfl
theorem app_int {ops : Array Oper} {rest : List Oper} {o : Oper} {a : Act} {w : World} {Q : Exit → Act → World → Prop} (hgd : o.guard = none) (s x : Operand)
    (ho : o.op = .call { callee := .builtin .append, args := #[s, x], argTypes := #[31, 31] })
    (base : Nat) (v : Value) (m : Nat) (r : List Nat) (hs : a.eval s = v) (hown : w.ownsRow base 3 1 v m (ivN r))
    (gx : Nat) (cx : Nat) (y : Nat) (hx : a.eval x = .slice (some ⟨gx, 0, none⟩) 1 cx) (hg : blk w gx = some (.cells #[.int .i64 (y : Int)] 3 (0, 0))) (hm : m ≤ 1000000) (hbase : base ≤ w.heap.size)
    (h : ∀ v' w', w'.ownsRow base 3 1 v' (m + 1) (ivN (r ++ [y])) → w.grownBy w' v.ownBlock → wpList Try.prog ops Q rest (a.put o.dst v') w') : wpList Try.prog ops Q (o :: rest) a w := by
  obtain ⟨i0, hi, hz0, hz1, hz2⟩ := info_parts info_int
  refine App.wpList_append_reads w hgd s x 31 ho base 3 i0 _ 1 8 Try.underlying31 hi hz0 hz1 hz2 rfl (by decide) v m (ivN r) hs hown (some ⟨gx, 0, none⟩) 1 cx (ivN [y]) hx ?_ ?_ (by unfold maxLen; omega) (by omega) hbase ?_
  · refine ⟨by simp [ivN], Or.inr ⟨gx, 0, rfl, blk_lt hg, fun j hj => ?_⟩⟩
    rw [Nat.zero_add, blk_cell hg]
    simp [ivN]
  · intro u hu
    simp only [ivN, List.map_cons, List.map_nil, List.mem_singleton] at hu
    subst hu
    rfl
  · intro v' w' h1 h2
    rw [← ivN_app] at h1
    exact h v' w' h1 h2
set_option maxHeartbeats 4000000 in
theorem run_any (ai : Option Addr) (c : Nat) (l : List Int) (k d : Nat) (w : World) (hr : Reads w 1 ai l.length (us l)) (hk : k < l.length) (hd : d ≤ k) (hl : l.length ≤ 1000000) :
    Calls Try.prog 37 #[.slice ai l.length c, .int .i64 k, .int .i64 d] w fun e w' => e = .returned (.int .i64 (runL l k d)) ∧ Below w.heap.size w w' := by
  obtain ⟨p, o, rfl, hp, hc⟩ := MaB.cell_u8 hr rfl (by omega)
  have HC := Lib.hid hc
  obtain ⟨n, hn⟩ : ∃ n, l.length = n := ⟨_, rfl⟩
  have HM : Hid (most l k = min 258 (n - k)) := Lib.hid (by unfold most; rw [hn])
  rw [hn] at HC hk hl ⊢
  clear hr hc hn
  go_enter Try.func37, Try.ntmps37
  go_wp2_with fail
  go_loopw [7] (fun v Y => ∃ j : Nat, j ≤ 258 ∧ k + j ≤ n ∧ v = .int .i64 j ∧ Hid (Below w.heap.size w Y) ∧ Hid (∀ t, t < j → l.getD (k + t) 0 = l.getD (k - d + t) 0)) (fun v _ => 258 - (intOf v).toNat)
  case atStart => exact ⟨0, by omega, by omega, rfl, Lib.hid (Below.refl _ _), Lib.hid (fun t ht => by omega)⟩
  case round =>
    obtain ⟨j, hj9, hjn, rfl, HB, HJ⟩ := hrel
    rename World => Y
    by_cases h258 : j < 258
    · have q1 : decide ((j : Int) < 258) = true := decide_eq_true (by omega)
      have q1' : decide (j < 258) = true := decide_eq_true h258
      obtain ⟨s, hs⟩ : ∃ s : Nat, (k : Int) + (j : Int) = s := ⟨k + j, by omega⟩
      have HS := Lib.hid hs
      by_cases hsn : s < n
      · have q2 : decide ((s : Int) < (n : Int)) = true := decide_eq_true (by omega)
        have q2' : decide (s < n) = true := decide_eq_true hsn
        obtain ⟨u, hu⟩ : ∃ u : Nat, (k : Int) - (d : Int) = u := ⟨k - d, by omega⟩
        obtain ⟨z, hz⟩ : ∃ z : Nat, (u : Int) + (j : Int) = z := ⟨u + j, by omega⟩
        have hzn : z < n := by omega
        have hsn' : (s : Int) < (n : Int) := by omega
        have hzn' : (z : Int) < (n : Int) := by omega
        have hks : k + j = s := by omega
        have hkz : k - d + j = z := by omega
        obtain ⟨x, hx⟩ : ∃ x, l.getD s 0 = x := ⟨_, rfl⟩
        obtain ⟨y, hy⟩ : ∃ y, l.getD z 0 = y := ⟨_, rfl⟩
        have HXY : Hid (l.getD (k + j) 0 = x ∧ l.getD (k - d + j) 0 = y) := Lib.hid ⟨by rw [hks]; exact hx, by rw [hkz]; exact hy⟩
        have k1 : Y.cell? ⟨p, o + s, none⟩ = some (.int .u8 x) := by rw [← hx]; exact (HB.out.cell (p := ⟨p, _, none⟩) hp).trans (HC.out s hsn)
        have k2 : Y.cell? ⟨p, o + z, none⟩ = some (.int .u8 y) := by rw [← hy]; exact (HB.out.cell (p := ⟨p, _, none⟩) hp).trans (HC.out z hzn)
        clear hx hy hks hkz
        by_cases hxy : x = y
        · subst hxy
          have e1 : (x == x) = true := by simp
          have HB2 : Hid (∀ m, Below w.heap.size w (Y.drewN m)) := Lib.hid (fun m => below_drewN HB.out m)
          have hjs : k + (j + 1) ≤ n := by have := HS.out; omega
          go_wp2_with (go_quiet (fail))
          exact ⟨⟨j + 1, by omega, hjs, by go_num, Lib.hid (HB2.out _), Lib.hid (fun t ht => by
            rcases Nat.lt_or_ge t j with h | h
            · exact HJ.out t h
            · obtain rfl : t = j := by omega
              rw [HXY.out.1, HXY.out.2])⟩, by simp [intOf]; omega⟩
        · have e1 : (x == y) = false := by simpa using hxy
          have HNE := Lib.hid hxy
          have HB2 : Hid (∀ m, Below w.heap.size w (Y.drewN m)) := Lib.hid (fun m => below_drewN HB.out m)
          have HRUN : Hid (runL l k d = j) := Lib.hid (run_is (by rw [HM.out]; have := HS.out; omega) HJ.out (.inr (by rw [HXY.out.1, HXY.out.2]; exact hxy)))
          clear hxy
          go_wp2_with (go_quiet (fail))
          go_ret
          exact ⟨by rw [HRUN.out]; rfl, HB2.out _⟩
      · have q2 : decide ((s : Int) < (n : Int)) = false := decide_eq_false (by omega)
        have q2' : decide (s < n) = false := decide_eq_false hsn
        have HB2 : Hid (∀ m, Below w.heap.size w (Y.drewN m)) := Lib.hid (fun m => below_drewN HB.out m)
        have HRUN : Hid (runL l k d = j) := Lib.hid (run_is (by rw [HM.out]; have := HS.out; omega) HJ.out (.inl (by rw [HM.out]; have := HS.out; omega)))
        go_wp2_with (go_quiet (fail))
        go_ret
        exact ⟨by rw [HRUN.out]; rfl, HB2.out _⟩
    · obtain rfl : j = 258 := by omega
      have HB2 : Hid (∀ m, Below w.heap.size w (Y.drewN m)) := Lib.hid (fun m => below_drewN HB.out m)
      have HRUN : Hid (runL l k d = 258) := Lib.hid (run_is (by rw [HM.out]; omega) HJ.out (.inl (by rw [HM.out]; omega)))
      go_wp2_with (go_quiet (fail))
      go_ret
      exact ⟨by rw [HRUN.out]; rfl, HB2.out _⟩
set_option maxHeartbeats 4000000 in
theorem places_any (ai : Option Addr) (c : Nat) (l : List Int) (k : Nat) (w : World) (hr : Reads w 1 ai l.length (us l)) (hk : k < l.length) (hl : l.length ≤ 100000) :
    Calls Try.prog 36 #[.slice ai l.length c, .int .i64 k] w fun e w' => (∃ v, e = .returned v ∧ w'.ownsRow w.heap.size 3 1 v (all l k).length (ivN (all l k))) ∧ Below w.heap.size w w' := by
  have HR := Lib.hid hr
  have HRN : Hid (∀ (d : Nat) (Z : World), d ≤ k → Below w.heap.size w Z → Calls Try.prog 37 #[.slice ai l.length c, .int .i64 k, .int .i64 d] Z fun e w' => e = .returned (.int .i64 (runL l k d)) ∧ Below Z.heap.size Z w') := Lib.hid (fun d Z hd hZ => run_any ai c l k d Z (hr.below hZ (Nat.le_refl _)) hk hd (by omega))
  obtain ⟨n, hn⟩ : ∃ n, l.length = n := ⟨_, rfl⟩
  rw [hn] at HRN hk hl ⊢
  have d0 : decide ((k : Int) < 0) = false := decide_eq_false (by omega)
  have d1 : decide ((n : Int) ≤ (k : Int)) = false := decide_eq_false (by omega)
  have d2 : decide (n ≤ k) = false := decide_eq_false (by omega)
  clear hr hn
  go_enter Try.func36, Try.ntmps36
  go_wp2_with fail
  clear d0 d1 d2
  go_loopw [5, 6] (fun v i X => ∃ (m q : Nat), m ≤ min 4096 k ∧ i = .int .i64 ((m : Int) + 1) ∧ Hid (q = (ds (mat l k) m).length) ∧ q ≤ m ∧ Hid (X.ownsRow w.heap.size 3 1 v q (ivN (ds (mat l k) m))) ∧ Hid (Below w.heap.size w X)) (fun _ i _ => min 4096 k + 1 - (intOf i).toNat)
  case atStart => exact ⟨0, 0, by omega, rfl, Lib.hid rfl, by omega, Lib.hid (World.ownsRow_nil _ _ _ _), Lib.hid (Below.refl _ _)⟩
  case round =>
    obtain ⟨m, q, hm, rfl, HQ, hqm, HO, HB⟩ := hrel
    rename World => X
    rename Value => v
    obtain ⟨ra, rc, rfl, -, -⟩ := owns_val HO.out
    obtain ⟨d, hd⟩ : ∃ d : Nat, (m : Int) + 1 = d := ⟨m + 1, by omega⟩
    have hmd : m + 1 = d := by omega
    have HD := Lib.hid hmd
    rw [hd]
    have HDS := Lib.hid (ds_succ (M := mat l k) m)
    rw [hmd] at HDS
    by_cases hlt : d ≤ 4096 ∧ d ≤ k
    · have q1 : decide ((d : Int) ≤ 4096) = true := decide_eq_true (by omega)
      have q1' : decide (d ≤ 4096) = true := decide_eq_true hlt.1
      have q2 : decide ((d : Int) ≤ (k : Int)) = true := decide_eq_true (by omega)
      have q2' : decide (d ≤ k) = true := decide_eq_true hlt.2
      have HCL := Lib.hid (HRN.out d X hlt.2 HB.out)
      have hd9 : d ≤ 4096 := hlt.1
      have hdk : d ≤ min 4096 k := by omega
      clear hd hmd hlt
      go_wp2_with fail
      refine HCL.out.mono ?_
      rintro e X1 ⟨rfl, hb1⟩
      have HO1 := Lib.hid (own_bel HO.out hb1)
      have HB1 := Lib.hid (HB.out.trans (hb1.mono HB.out.size))
      have hsz := HB1.out.size
      obtain ⟨rn, hrn⟩ : ∃ rn, runL l k d = rn := ⟨_, rfl⟩
      have HRR := Lib.hid hrn
      rw [hrn]
      clear hb1 hrn HO HB HCL
      by_cases h3 : 3 ≤ rn
      · have h3' : (3 : Int) ≤ (rn : Int) := by omega
        have hmt : mat l k d = true := by unfold mat; rw [HRR.out]; exact decide_eq_true h3
        have HD2 : Hid (ds (mat l k) d = ds (mat l k) m ++ [d]) := Lib.hid (by rw [HDS.out, if_pos hmt])
        clear hmt
        go_wp2_with (at_builtin; refine app_int rfl (.tmp 29) (.tmp 31) rfl w.heap.size (.slice ra q rc) q (ds (mat l k) m) rfl (HO1.out.alloc _) X1.heap.size 1 d rfl (blk_alloc_at _ _ _ rfl) (by omega) (by simp; omega) ?_; intro v4 w4 ho4 hg4)
        have L4 : Below w.heap.size w w4 := (HB1.out.alloc (by omega) _).grown hg4 (by simp; omega) (fun j hj => (HO1.out.lt j hj).1)
        exact ⟨⟨d, q + 1, hdk, by go_num, Lib.hid (by rw [HD2.out, List.length_append, HQ.out]; rfl), by have := HD.out; omega, Lib.hid (by rw [HD2.out]; exact ho4), Lib.hid L4⟩, by simp [intOf]; omega⟩
      · have h3' : ¬ (3 : Int) ≤ (rn : Int) := by omega
        have hmt : mat l k d = false := by unfold mat; rw [HRR.out]; exact decide_eq_false h3
        have HD2 : Hid (ds (mat l k) d = ds (mat l k) m) := Lib.hid (by rw [HDS.out, if_neg (by rw [hmt]; decide), List.append_nil])
        clear hmt
        go_wp2
        exact ⟨⟨d, q, hdk, by go_num, Lib.hid (by rw [HD2.out]; exact HQ.out), by have := HD.out; omega, Lib.hid (by rw [HD2.out]; exact HO1.out), HB1⟩, by simp [intOf]; omega⟩
    · have hme : m = min 4096 k := by omega
      have HAL : Hid (ds (mat l k) m = all l k) := Lib.hid (by rw [hme]; rfl)
      by_cases h4 : d ≤ 4096
      · have q1 : decide ((d : Int) ≤ 4096) = true := decide_eq_true (by omega)
        have q1' : decide (d ≤ 4096) = true := decide_eq_true h4
        have q2 : decide ((d : Int) ≤ (k : Int)) = false := decide_eq_false (by omega)
        have q2' : decide (d ≤ k) = false := decide_eq_false (by omega)
        clear hme hd hmd
        go_wp2
        go_ret
        exact ⟨⟨_, rfl, by rw [← HAL.out, ← HQ.out]; exact HO.out⟩, HB.out⟩
      · have q1 : decide ((d : Int) ≤ 4096) = false := decide_eq_false (by omega)
        have q1' : decide (d ≤ 4096) = false := decide_eq_false h4
        clear hme hd hmd
        go_wp2
        go_ret
        exact ⟨⟨_, rfl, by rw [← HAL.out, ← HQ.out]; exact HO.out⟩, HB.out⟩
end Go.Proofs.Ytminaamfelcajaa.LzH

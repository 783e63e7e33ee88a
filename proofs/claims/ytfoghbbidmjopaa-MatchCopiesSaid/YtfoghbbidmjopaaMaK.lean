/-
  A row that repeats itself (MatchRuns).
-/
import Derived.Test.YtfoghbbidmjopaaMaJ
import Derived.Deep.CutRange
namespace Go.Proofs.Ytfoghbbidmjopaa.MaK
open Go.RowKit Go.Shelf Rd Go.Proofs.Ytfoghbbidmjopaa.Row MaM MaA MaB MaC MaD MaE MaF MaG MaI MaJ
set_option linter.unusedVariables false
set_option linter.unusedSimpArgs false
set_option maxRecDepth 10000
theorem app_u8 {ops : Array Oper} {rest : List Oper} {o : Oper} {a : Act} {w : World} {Q : Exit → Act → World → Prop} (hgd : o.guard = none) (s x : Operand)
    (ho : o.op = .call { callee := .builtin .append, args := #[s, x], argTypes := #[24, 24] })
    (base : Nat) (v : Value) (m : Nat) (r : List Int) (hs : a.eval s = v) (hown : w.ownsRow base 5 1 v m (us r))
    (gx : Nat) (cx : Nat) (y : Int) (hx : a.eval x = .slice (some ⟨gx, 0, none⟩) 1 cx) (hg : blk w gx = some (.cells #[.int .u8 y] 5 (0, 0))) (hm : m ≤ 1000000) (hbase : base ≤ w.heap.size)
    (h : ∀ v' w', w'.ownsRow base 5 1 v' (m + 1) (us (r ++ [y])) → w.grownBy w' v.ownBlock → wpList Try.prog ops Q rest (a.put o.dst v') w') : wpList Try.prog ops Q (o :: rest) a w := by
  obtain ⟨i0, hi, hz0, hz1, hz2⟩ := info_parts info_u8
  refine App.wpList_append_reads w hgd s x 24 ho base 5 i0 _ 1 1 Try.underlying24 hi hz0 hz1 hz2 rfl (by decide) v m (us r) hs hown (some ⟨gx, 0, none⟩) 1 cx (us [y]) hx ?_ ?_ (by unfold maxLen; omega) (by omega) hbase ?_
  · refine ⟨by simp [us], Or.inr ⟨gx, 0, rfl, blk_lt hg, fun j hj => ?_⟩⟩
    rw [Nat.zero_add, blk_cell hg]
    simp [us]
  · intro u hu
    simp only [us, List.map_cons, List.map_nil, List.mem_singleton] at hu
    subst hu
    rfl
  · intro v' w' h1 h2
    rw [← List.map_append] at h1
    exact h v' w' h1 h2
theorem turns_by (n k : Nat) (hk : k ≤ 40) (hk1 : 1 ≤ k) : By (turns n k) := by
  intro z hz
  obtain ⟨i, -, rfl⟩ := List.mem_map.1 hz
  have := Nat.mod_lt i (show 0 < k by omega)
  omega
theorem turns_succ (m k : Nat) : turns (m + 1) k = turns m k ++ [((m % k : Nat) : Int)] := by
  unfold turns
  rw [List.range_succ, List.map_append]
  rfl
set_option maxHeartbeats 4000000 in
theorem runs_gen (t n a : Int) (w : World) (ht1 : -9223372036854775808 ≤ t) (ht2 : t ≤ 9223372036854775807) (ha1 : -9223372036854775808 ≤ a) (ha2 : a ≤ 9223372036854775807) :
    Calls Try.prog 4 #[.int .i64 t, .int .i64 n, .int .i64 a] w fun e w' => e = .returned (.bool true) ∧ Below w.heap.size w w' := by
  have HA := Lib.hid (And.intro ha1 ha2)
  obtain ⟨k, hk⟩ : ∃ k : Nat, 1 + t % 40 = (k : Int) := ⟨(1 + t % 40).toNat, by omega⟩
  have hk1 : 1 ≤ k := by omega
  have hk2 : k ≤ 40 := by omega
  by_cases h0 : n < 0
  · have d0 : decide (n < 0) = true := decide_eq_true h0
    go_enter Try.func4, Try.ntmps4
    go_wp2_with fail
    refine (Alk.round_any t 40 _ ht1 ht2 (by decide) (by decide)).mono ?_
    rintro e _ ⟨rfl, rfl⟩
    clear HA ht1 ht2 ha1 ha2
    go_wp2_with fail
    refine (awake_any _).mono ?_
    rintro e w2 ⟨rfl, hb2⟩
    go_wp2
    go_ret
    exact ⟨rfl, hb2⟩
  have d0 : decide (n < 0) = false := decide_eq_false h0
  by_cases h1 : 900 < n
  · have d1 : decide (900 < n) = true := decide_eq_true h1
    go_enter Try.func4, Try.ntmps4
    go_wp2_with fail
    refine (Alk.round_any t 40 _ ht1 ht2 (by decide) (by decide)).mono ?_
    rintro e _ ⟨rfl, rfl⟩
    clear HA ht1 ht2 ha1 ha2
    go_wp2_with fail
    refine (awake_any _).mono ?_
    rintro e w2 ⟨rfl, hb2⟩
    go_wp2
    go_ret
    exact ⟨rfl, hb2⟩
  obtain ⟨N, rfl⟩ : ∃ N : Nat, n = N := ⟨n.toNat, by omega⟩
  have d1 : decide ((900 : Int) < (N : Int)) = false := decide_eq_false h1
  have hN : N ≤ 900 := by omega
  go_enter Try.func4, Try.ntmps4
  go_wp2_with fail
  refine (Alk.round_any t 40 _ ht1 ht2 (by decide) (by decide)).mono ?_
  rintro e _ ⟨rfl, rfl⟩
  clear ht1 ht2 ha1 ha2 h0 h1
  go_wp2_with fail
  go_loopw [8, 9] (fun v i X => ∃ m : Nat, m ≤ N ∧ i = .int .i64 m ∧ Hid (X.ownsRow w.heap.size 5 1 v m (us (turns m k))) ∧ Hid (Below w.heap.size w X)) (fun _ i _ => N - (intOf i).toNat)
  case atStart => exact ⟨0, by omega, rfl, Lib.hid (World.ownsRow_nil _ _ _ _), Lib.hid (Below.refl _ _)⟩
  case round =>
    obtain ⟨m, hm, rfl, HO, HB⟩ := hrel
    rename World => X
    rename Value => v
    obtain ⟨ra, rc, rfl, -, -⟩ := owns_val HO.out
    by_cases hlt : m < N
    · have hlt' : (m : Int) < N := by omega
      obtain ⟨c, hc⟩ : ∃ c, m % k = c := ⟨_, rfl⟩
      have HC := Lib.hid hc
      have hc40 : c < 40 := by rw [← hc]; exact Nat.lt_of_lt_of_le (Nat.mod_lt _ (by omega)) hk2
      have hct : (m : Int).tmod (k : Int) = (c : Int) := by rw [← hc]; rfl
      have hsz := HB.out.size
      have hk0 : ¬ (k : Int) = 0 := by omega
      clear hc
      go_wp2_with (at_builtin; refine app_u8 rfl (.tmp 29) (.tmp 34) rfl w.heap.size _ _ _ rfl (HO.out.alloc _) X.heap.size 1 c rfl (blk_alloc_at _ _ _ rfl) (by omega) (by simp; omega) ?_; intro v4 w4 ho4 hg4)
      have L4 : Below w.heap.size w w4 := (HB.out.alloc (by omega) _).grown hg4 (by simp; omega) (fun j hj => (HO.out.lt j hj).1)
      exact ⟨⟨m + 1, by omega, by go_num, Lib.hid (by rw [turns_succ, HC.out]; exact ho4), Lib.hid L4⟩, by simp [intOf]; omega⟩
    · obtain rfl : m = N := by omega
      have CN := new_any ra rc (turns m k) X (by rw [turns_len]; exact Reads.of_owns HO.out) (turns_by m k hk2 hk1) (by rw [turns_len]; omega)
      rw [turns_len] at CN
      have HCN := Lib.hid CN
      clear CN HO
      go_wp2_with fail
      refine HCN.out.mono ?_
      rintro e W1 ⟨f, ba, cb, g, rfl, hst⟩
      have HF := Lib.hid (MaF.St.fx hst)
      have HB1 := Lib.hid (HB.out.trans (hst.below.mono HB.out.size))
      obtain ⟨p, hp⟩ : ∃ p : Nat, a % ((m : Int) + 1) = p := ⟨(a % ((m : Int) + 1)).toNat, by have := Int.emod_nonneg a (show (m : Int) + 1 ≠ 0 by omega); omega⟩
      have hpm : p ≤ m := by have := Int.emod_lt_of_pos a (show 0 < (m : Int) + 1 by omega); omega
      have HP := Lib.hid hp
      clear hst HCN HB hp
      go_wp2_with fail
      refine (Alk.round_any a ((m : Int) + 1) _ HA.out.1 HA.out.2 (by omega) (by omega)).mono ?_
      rintro e _ ⟨rfl, rfl⟩
      rw [HP.out]
      go_wp2_with fail
      refine (at_le HF.out p (by rw [turns_len]; exact hpm) (by rw [turns_len]; omega)).mono ?_
      rintro e W2 ⟨rfl, hb⟩
      have HB2 := Lib.hid (HB1.out.trans (hb.mono HB1.out.size))
      clear hb HF HB1 HP
      by_cases hpk : p < k
      · have q1 : decide ((p : Int) < (k : Int)) = true := decide_eq_true (by omega)
        have q2 : decide (p < k) = true := decide_eq_true hpk
        rw [turns_none hk1 (.inl hpk)]
        simp only [best, List.foldl_nil]
        clear hk
        go_wp2_with fail
        refine (awake_any _).mono ?_
        rintro e w2 ⟨rfl, hb2⟩
        have HB3 := Lib.hid (HB2.out.trans (hb2.mono HB2.out.size))
        clear hb2 HB2
        go_wp2
        go_ret
        exact ⟨rfl, HB3.out⟩
      · have q1 : decide ((p : Int) < (k : Int)) = false := decide_eq_false (by omega)
        have q2 : decide (p < k) = false := decide_eq_false hpk
        obtain ⟨d, hd⟩ : ∃ d : Nat, (m : Int) - (p : Int) = d := ⟨m - p, by omega⟩
        by_cases h3 : d < 3
        · have q3 : decide ((d : Int) < 3) = true := decide_eq_true (by omega)
          have q4 : decide (d < 3) = true := decide_eq_true h3
          rw [turns_none hk1 (.inr (by omega))]
          simp only [best, List.foldl_nil]
          clear hk
          go_wp2_with fail
          refine (awake_any _).mono ?_
          rintro e w2 ⟨rfl, hb2⟩
          have HB3 := Lib.hid (HB2.out.trans (hb2.mono HB2.out.size))
          clear hb2 HB2
          go_wp2
          go_ret
          exact ⟨rfl, HB3.out⟩
        · have q3 : decide ((d : Int) < 3) = false := decide_eq_false (by omega)
          have q4 : decide (d < 3) = false := decide_eq_false h3
          rw [turns_some hk1 hk2 (by omega) (by omega), show m - p = d by omega]
          have e1 : ((k : Int) == (k : Int)) = true := by simp
          clear hk
          by_cases h258 : 258 < d
          · have q5 : (258 : Int) < (d : Int) := by omega
            rw [show min 258 d = 258 by omega]
            go_wp2_with fail
            refine (awake_any _).mono ?_
            rintro e w2 ⟨rfl, hb2⟩
            have HB3 := Lib.hid (HB2.out.trans (hb2.mono HB2.out.size))
            clear hb2 HB2
            go_wp2
            go_ret
            exact ⟨rfl, HB3.out⟩
          · have q5 : ¬ (258 : Int) < (d : Int) := by omega
            rw [show min 258 d = d by omega]
            have e2 : ((d : Int) == (d : Int)) = true := by simp
            go_wp2_with fail
            refine (awake_any _).mono ?_
            rintro e w2 ⟨rfl, hb2⟩
            have HB3 := Lib.hid (HB2.out.trans (hb2.mono HB2.out.size))
            clear hb2 HB2
            go_wp2
            go_ret
            exact ⟨rfl, HB3.out⟩
end Go.Proofs.Ytfoghbbidmjopaa.MaK

/-
  A row copied; what is seen of a polygon.
-/
import Derived.Test.YtimfjogallcgnaaClE
import Derived.Lib.SliceRun
import Derived.WalkMore
namespace Go.Proofs.Ytimfjogallcgnaa.ClF
open Go.RowKit FixA Num Rd Go.Proofs.Ytimfjogallcgnaa.Row Mid ClM ClA ClB ClC ClD ClE
set_option linter.unusedVariables false
set_option linter.unusedSimpArgs false
set_option maxRecDepth 10000

theorem reads_row {W : World} {ad : Option Addr} {r : ClM.Row} (h : RowAt W ad r) : Reads W 6 ad r.length (fl r) := by
  refine ⟨fl_len h.1, ?_⟩
  rcases h.2 with h2 | ⟨b, o, e, hb, hc⟩
  · left; rw [h2]; rfl
  · right
    refine ⟨b, o, e, hb, fun i hi => ?_⟩
    rw [fl_len h.1] at hi
    have e1 : i = i / 6 * 6 + i % 6 := by omega
    have := hc (i / 6) (by omega) (i % 6) (by omega)
    rw [Nat.add_assoc, ← e1] at this
    rw [this]
    have f := fl_at h.1 (i / 6) (by omega) (i % 6) (by omega)
    rw [← e1] at f
    exact f.symm
theorem app_row {ops : Array Oper} {rest : List Oper} {o : Oper} {a : Act} {w : World} {Q : Exit → Act → World → Prop} (hgd : o.guard = none) (s x : Operand)
    (ho : o.op = .call { callee := .builtin .append, args := #[s, x], argTypes := #[63, 63] })
    (base : Nat) (v : Value) (hs : a.eval s = v) (hown : w.ownsRow base 25 6 v 0 [])
    (ad : Option Addr) (c n : Nat) (r : ClM.Row) (hn : r.length = n) (hx : a.eval x = .slice ad n c) (hr : RowAt w ad r) (hm : r.length ≤ 1000000) (hbase : base ≤ w.heap.size)
    (h : ∀ v' w', w'.ownsRow base 25 6 v' r.length (fl r) → w.grownBy w' v.ownBlock → wpList Try.prog ops Q rest (a.put o.dst v') w') : wpList Try.prog ops Q (o :: rest) a w := by
  subst hn
  obtain ⟨i0, hi, hz0, hz1, hz2⟩ := info_parts info_vert
  refine App.wpList_append_reads w hgd s x 63 ho base 25 i0 _ 6 48 Try.underlying63 hi hz0 hz1 hz2 rfl (by decide) v 0 [] hs hown ad r.length c (fl r) hx (reads_row hr) ?_ (by unfold maxLen; omega) (by omega) hbase ?_
  · intro u hu
    unfold fl at hu
    rw [List.mem_flatMap] at hu
    obtain ⟨y, _, hu⟩ := hu
    rw [List.mem_map] at hu
    obtain ⟨z, _, rfl⟩ := hu
    rfl
  · intro v' w' h1 h2
    rw [List.nil_append, Nat.zero_add] at h1
    exact h v' w' h1 h2
theorem owns_empty (w : World) (base : Nat) (h : base ≤ w.heap.size) : (w.alloc (.cells #[] 25)).ownsRow base 25 6 (.slice (some ⟨w.heap.size, 0, none⟩) 0 0) 0 [] :=
  ⟨rfl, Or.inr ⟨w.heap.size, 0, #[], rfl, h, heap_alloc_new w _, Nat.le_refl _, by unfold maxLen; omega, rfl, rfl⟩⟩
set_option maxHeartbeats 1000000 in
theorem clone_any (row : ClM.Row) (ad : Option Addr) (c : Nat) (w : World) (h : RowAt w ad row) (h0 : 0 < row.length) (hm : row.length ≤ 100000) :
    Calls Try.prog 35 #[.slice ad row.length c] w fun e w' => (∃ ad' c', e = .returned (.slice ad' row.length c') ∧ RowAt w' ad' row) ∧ Below w.heap.size w w' := by
  obtain ⟨b, o, ea⟩ : ∃ b o, ad = some ⟨b, o, none⟩ := by
    rcases h.2 with h2 | ⟨b, o, e, _⟩
    · rw [h2] at h0; simp at h0
    · exact ⟨b, o, e⟩
  subst ea
  obtain ⟨n, hn⟩ : ∃ n, row.length = n := ⟨_, rfl⟩
  have HN := Lib.hid hn
  have H := Lib.hid h
  rw [hn]
  rw [hn] at hm h0
  clear hn h
  have q22 : ∀ (w : World) (a : Option Addr) (n c n' c' : Nat), (binOp .eql 63 (.slice a n c) (.slice none n' c')).run Try.prog w = .ok (.bool a.isNone) w := fun w a n c n' c' => Lib.run_eql_slice_nil w _ _ a n c n' c' Try.underlying63
  go_enter Try.func35, Try.ntmps35
  have hR := RowAt.below (B := 0) H.out (Below.alloc (Below.refl w.heap.size w) (Nat.le_refl _) (.cells #[] 25))
  have hE := owns_empty w w.heap.size (Nat.le_refl _)
  have HNl := HN.out
  go_wp2_with (at_builtin; refine app_row rfl (.tmp 5) (.tmp 6) rfl w.heap.size _ rfl hE _ _ _ row HN.out rfl hR (by omega) (by simp) ?_; intro v1 w1 ho1 hg1)
  have L1 : Below w.heap.size w w1 := (Below.alloc (Below.refl _ _) (Nat.le_refl _) _).grown hg1 (by simp) (fun j hj => by
    have h9 : (some w.heap.size : Option Nat) = some j := hj
    injection h9 with h9
    omega)
  obtain ⟨a', cap', e5, _⟩ := owns_val ho1
  subst e5
  have hrow := Lib.hid (rowAt_owns ho1 H.out.1).2
  go_wp2
  go_ret
  exact ⟨⟨a', cap', by rw [HN.out]; rfl, hrow.out⟩, L1⟩

theorem in_step {row : ClM.Row} {k : Int} {j : Nat} (h : ∀ i, i < j → inB k (at_ row i) = true) (h2 : inB k (at_ row j) = true) : ∀ i, i < j + 1 → inB k (at_ row i) = true := by
  intro i hi
  by_cases e : i = j
  · subst e; exact h2
  · exact h i (by omega)
theorem all_in {row : ClM.Row} {k : Int} (h : ∀ i, i < row.length → inB k (at_ row i) = true) : row.all (inB k) = true := by
  rw [List.all_eq_true]
  intro v hv
  obtain ⟨i, hi, rfl⟩ := List.mem_iff_getElem.1 hv
  have := h i hi
  rwa [at_eq hi] at this
theorem wK_small (row : ClM.Row) (h : row.length ≤ 100) (k : Nat) (hk : k ≤ 7) : (wK row k).length ≤ 12800 := by
  have a := wK_bound row k
  have b : 2 ^ k ≤ 2 ^ 7 := Nat.pow_le_pow_right (by omega) hk
  have c := Nat.mul_le_mul b h
  omega
set_option maxHeartbeats 4000000 in
theorem polygon_any (row : ClM.Row) (ad : Option Addr) (c : Nat) (w : World) (h : RowAt w ad row) (hv : VxR row) (hm : row.length ≤ 100) :
    Calls Try.prog 26 #[.slice ad row.length c] w fun e w' => (∃ ad' c', e = .returned (.slice ad' (polyV row).length c') ∧ RowAt w' ad' (polyV row)) ∧ Below w.heap.size w w' := by
  by_cases h3 : row.length < 3
  · have hp : polyV row = [] := by unfold polyV; rw [if_pos h3]
    rw [hp]
    obtain ⟨n, hn⟩ : ∃ n, row.length = n := ⟨_, rfl⟩
    rw [hn] at h3 ⊢
    have h4 : (n : Int) < 3 := by omega
    go_enter Try.func26, Try.ntmps26
    go_wp2
    go_step3
    go_wp2
    (try rw [Exit.noGoto_ret])
    go_ret
    exact ⟨⟨none, 0, rfl, ⟨fun v hv => (by cases hv), Or.inl rfl⟩⟩, by repeat' (first | (with_reducible exact Below.refl _ _) | (with_reducible refine Rd.below_step ?_ (by assumption)) | (with_reducible refine Rd.below_alloc ?_ _) | (with_reducible refine Rd.below_drewN ?_ _) | (with_reducible refine Below.drew ?_) | (with_reducible refine Below.setCell ?_ ?_ _) | (with_reducible refine Rd.below_setRow ?_ ?_ _) | go_size | (simp only [World.size_alloc]; omega) | omega)⟩
  · obtain ⟨n, hn⟩ : ∃ n, row.length = n := ⟨_, rfl⟩
    have HN := Lib.hid hn
    have H := Lib.hid h
    have HV := Lib.hid hv
    have HC := Lib.hid (fun W : World => fun hW : RowAt W ad row => clone_any row ad c W hW (by omega) (by omega))
    rw [hn] at HC ⊢
    rw [hn] at h3 hm
    have h3' : 3 ≤ n := by omega
    clear hn h hv h3
    have h4 : ¬ (n : Int) < 3 := by omega
    go_enter Try.func26, Try.ntmps26
    go_wp2_with fail
    go_step3
    go_wp2_with fail
    refine (HC.out _ H.out).mono ?_
    rintro e w1 ⟨⟨ad1, c1, rfl, hr1⟩, hb1⟩
    have HR1 := Lib.hid hr1
    clear hr1 HC
    go_wp2_with fail
    go_step3
    go_wp2_with fail
    go_loopw [3, 12] (fun v i wr => ∃ k : Nat, k ≤ 7 ∧ i = .int .i64 k ∧ (∃ ad' c' m, v = .slice ad' m c' ∧ Hid ((wK row k).length = m ∧ RowAt wr ad' (wK row k))) ∧ Below w.heap.size w wr) (fun _ i _ => 7 - (intOf i).toNat)
    case atStart => exact ⟨0, by omega, rfl, ⟨ad1, c1, n, rfl, ⟨HN.out, HR1.out⟩⟩, hb1⟩
    case round =>
      obtain ⟨k, hk, rfl, ⟨ad', c', m, rfl, HW⟩, hb⟩ := hrel
      obtain ⟨R, eR⟩ : ∃ R, wK row k = R := ⟨_, rfl⟩
      have hsm := HW.out.1
      have hle := wK_small row (by rw [HN.out]; omega) k hk
      rw [hsm] at hle
      have VR := Lib.hid (wK_vx HV.out k)
      rw [eR] at HW VR
      have ER := Lib.hid eR
      clear eR hsm
      by_cases hlt : k < 7
      · have hk7 : (k : Int) < 7 := by omega
        go_wp2_with fail
        go_loopw [3, 17] (fun v i W => ∃ j : Nat, j ≤ m ∧ i = .int .i64 j ∧ v = .slice ad' m c' ∧ Hid (∀ i, i < j → inB k (at_ R i) = true) ∧ Hid (RowAt W ad' R) ∧ Below w.heap.size w W) (fun _ i _ => m - (intOf i).toNat)
        case atStart => exact ⟨0, by omega, rfl, rfl, fun i hi => absurd hi (by omega), HW.out.2, hb⟩
        case round =>
          obtain ⟨j, hj, rfl, rfl, HI, HRW, hbW⟩ := hrel
          by_cases hjm : j < m
          · have hjm' : (j : Int) < m := by omega
            obtain ⟨b, o, ea, hb0, hc⟩ : ∃ b o, ad' = some ⟨b, o, none⟩ ∧ b < wr.heap.size ∧ ∀ i, i < R.length → ∀ j, j < 6 → wr.cell? ⟨b, o + i * 6 + j, none⟩ = some (.int .i64 (ClM.g (at_ R i) j)) := by
              rcases HRW.out.2 with h | h
              · have := HW.out.1; rw [h] at this; simp at this; omega
              · exact h
            subst ea
            have va := at_vx VR.out (i := j) (by rw [HW.out.1]; exact hjm)
            have ca : ∀ t, t < 6 → wr.cell? ⟨b, o + j * 6 + t, none⟩ = some (.int .i64 (ClM.g (at_ R j) t)) := fun t ht => hc j (by rw [HW.out.1]; exact hjm) t ht
            obtain ⟨x0, x1, x2, x3, x4, x5, eA⟩ := len6 va.len
            rw [eA] at va ca
            have x0' : wr.cell? ⟨b, o + j * 6, none⟩ = some (.int .i64 x0) := ca 0 (by omega)
            have x1' : wr.cell? ⟨b, o + j * 6 + 1, none⟩ = some (.int .i64 x1) := ca 1 (by omega)
            have x2' : wr.cell? ⟨b, o + j * 6 + 2, none⟩ = some (.int .i64 x2) := ca 2 (by omega)
            have x3' : wr.cell? ⟨b, o + j * 6 + 3, none⟩ = some (.int .i64 x3) := ca 3 (by omega)
            have x4' : wr.cell? ⟨b, o + j * 6 + 4, none⟩ = some (.int .i64 x4) := ca 4 (by omega)
            have x5' : wr.cell? ⟨b, o + j * 6 + 5, none⟩ = some (.int .i64 x5) := ca 5 (by omega)
            have EA := Lib.hid eA
            have VA := Lib.hid va
            have CA : Hid (∀ W : World, Calls Try.prog 36 #[.agg #[.int .i64 x0, .int .i64 x1, .int .i64 x2, .int .i64 x3], .int .i64 k] W fun e w' => e = .returned (.int .i64 (insV [x0, x1, x2, x3, x4, x5] k)) ∧ Below W.heap.size W w') := fun W => inside_v VA.out k W
            clear va eA ca hc
            go_wp2_with fail
            refine (CA.out _).mono ?_
            rintro e w3 ⟨rfl, hb3⟩
            have hs3 := hb3.size
            simp only [World.size_alloc] at hs3
            have hWs := hbW.size
            have L3 : Below w.heap.size w w3 := by repeat' (first | (with_reducible exact Below.refl _ _) | (with_reducible refine Rd.below_step ?_ (by assumption)) | (with_reducible refine Rd.below_alloc ?_ _) | (with_reducible refine Rd.below_drewN ?_ _) | (with_reducible refine Below.drew ?_) | (with_reducible refine Below.setCell ?_ ?_ _) | (with_reducible refine Rd.below_setRow ?_ ?_ _) | go_size | (simp only [World.size_alloc]; omega) | omega)
            have hbw3 : Below wr.heap.size wr w3 := (Below.alloc (Below.refl _ _) (Nat.le_refl _) _).trans (hb3.mono (by simp))
            have HR3 := Lib.hid (RowAt.below (B := 0) HRW.out hbw3)
            clear hb3 hbw3 CA x0' x1' x2' x3' x4' x5'
            by_cases hin : insV [x0, x1, x2, x3, x4, x5] k < 0
            · have CW := Lib.hid (fun W : World => fun hW : RowAt W (some ⟨b, o, none⟩) R => within_any R (some ⟨b, o, none⟩) c' k W hW VR.out (by rw [HW.out.1]; omega))
              rw [HW.out.1] at CW
              go_wp2_with fail
              refine (CW.out _ HR3.out).mono ?_
              rintro e w4 ⟨⟨ad2, c2, rfl, hr2⟩, hb4⟩
              have HR4 := Lib.hid hr2
              have L4 : Below w.heap.size w w4 := by repeat' (first | (with_reducible exact Below.refl _ _) | (with_reducible refine Rd.below_step ?_ (by assumption)) | (with_reducible refine Rd.below_alloc ?_ _) | (with_reducible refine Rd.below_drewN ?_ _) | (with_reducible refine Below.drew ?_) | (with_reducible refine Below.setCell ?_ ?_ _) | (with_reducible refine Rd.below_setRow ?_ ?_ _) | go_size | (simp only [World.size_alloc]; omega) | omega)
              clear hr2 CW hb4
              have hk1 : wK row (k + 1) = ClM.within (k : Int) R := by
                show ClM.within (k : Int) (wK row k) = _
                rw [ER.out]
              have HK1 := Lib.hid hk1
              clear hk1
              go_wp2
              exact ⟨⟨k + 1, by omega, by go_num, ⟨ad2, c2, _, rfl, ⟨by rw [HK1.out], by rw [HK1.out]; exact HR4.out⟩⟩, L4⟩, by simp [intOf]; omega⟩
            · have hi : inB k [x0, x1, x2, x3, x4, x5] = true := decide_eq_true (by omega)
              have HIN := Lib.hid (in_step HI.out (show inB k (at_ R j) = true by rw [EA.out]; exact hi))
              clear hi
              go_wp2
              go_roundw
              case rel =>
                exact ⟨j + 1, by omega, by go_num, rfl, HIN.out, HR3.out, L3⟩
              case measure => simp [intOf]; omega
          · obtain rfl : j = m := by omega
            have hall := all_in (row := R) (k := k) (by rw [HW.out.1]; exact HI.out)
            have hk1 : wK row (k + 1) = R := by
              show ClM.within (k : Int) (wK row k) = _
              rw [ER.out, within_all hall]
            have HK1 := Lib.hid hk1
            clear hk1 hall
            go_wp2
            exact ⟨⟨k + 1, by omega, by go_num, ⟨ad', c', j, rfl, ⟨by rw [HK1.out]; exact HW.out.1, by rw [HK1.out]; exact HRW.out⟩⟩, hbW⟩, by simp [intOf]; omega⟩
      · obtain rfl : k = 7 := by omega
        by_cases hm3 : m < 3
        · have hp : polyV row = [] := poly_early (k := 7) (by omega) (by rw [ER.out, HW.out.1]; exact hm3)
          have HPp := Lib.hid hp
          clear hp
          have hm3' : (m : Int) < 3 := by omega
          go_wp2
          (try rw [Exit.noGoto_ret])
          go_ret
          rw [HPp.out]
          exact ⟨⟨none, 0, rfl, ⟨fun v hv => (by cases hv), Or.inl rfl⟩⟩, by repeat' (first | (with_reducible exact Below.refl _ _) | (with_reducible refine Rd.below_step ?_ (by assumption)) | (with_reducible refine Rd.below_alloc ?_ _) | (with_reducible refine Rd.below_drewN ?_ _) | (with_reducible refine Below.drew ?_) | (with_reducible refine Below.setCell ?_ ?_ _) | (with_reducible refine Rd.below_setRow ?_ ?_ _) | go_size | (simp only [World.size_alloc]; omega) | omega)⟩
        · have hp : polyV row = R := by
            unfold polyV
            rw [if_neg (by rw [HN.out]; omega), if_neg (by rw [ER.out, HW.out.1]; exact hm3), ER.out]
          have HPp := Lib.hid hp
          clear hp
          have hm3' : ¬ (m : Int) < 3 := by omega
          go_wp2
          (try rw [Exit.noGoto_ret])
          go_ret
          rw [HPp.out]
          exact ⟨⟨ad', c', by rw [HW.out.1]; rfl, HW.out.2⟩, by repeat' (first | (with_reducible exact Below.refl _ _) | (with_reducible refine Rd.below_step ?_ (by assumption)) | (with_reducible refine Rd.below_alloc ?_ _) | (with_reducible refine Rd.below_drewN ?_ _) | (with_reducible refine Below.drew ?_) | (with_reducible refine Below.setCell ?_ ?_ _) | (with_reducible refine Rd.below_setRow ?_ ?_ _) | go_size | (simp only [World.size_alloc]; omega) | omega)⟩
end Go.Proofs.Ytimfjogallcgnaa.ClF

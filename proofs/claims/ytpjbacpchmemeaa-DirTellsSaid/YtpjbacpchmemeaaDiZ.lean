/-
  Entries that come in; a directory's first bytes.
  DirBack.
-/
import Derived.Test.YtpjbacpchmemeaaDiX
import Derived.Test.YtpjbacpchmemeaaFlat
import Derived.Test.YtpjbacpchmemeaaAlike
import Derived.Test.YtpjbacpchmemeaaDiY
namespace Go.Proofs.Ytpjbacpchmemeaa.DiZ0
open Go.RowKit Go.Shelf Rd Go.Proofs.Ytpjbacpchmemeaa.Row Mid PgM DiM DiA DiC DiD DiE DiF DiJ DiK DiL DiN DiO DiQ DiU DiV DiW DiX OctA OctB
open Go.Proofs.Ytpjbacpchmemeaa.DiM (at_ at_get ce ce_len ce_app ce_one ce_ones ce_at)
set_option linter.unusedVariables false
set_option linter.unusedSimpArgs false
/-- its numbers are numbers -/
def En.W (p : En) : Prop := (Lit.int .i64 p.L).wf = true ∧ (Lit.int .i64 p.X).wf = true ∧ (Lit.int .i64 p.Y).wf = true ∧ (Lit.int .i64 p.S).wf = true ∧ (Lit.int .i64 p.N).wf = true ∧ (Lit.int .u32 p.M).wf = true
theorem fits_en {vs : List Value} (h : Flat.Fits [some .i64, some .i64, some .i64, some .i64, some .i64, some .u32] vs) : ∃ p : En, vs = p.l ∧ En.W p := by
  obtain ⟨n0, v0, rfl, h0, h⟩ := Flat.fits_int h
  obtain ⟨n1, v1, rfl, h1, h⟩ := Flat.fits_int h
  obtain ⟨n2, v2, rfl, h2, h⟩ := Flat.fits_int h
  obtain ⟨n3, v3, rfl, h3, h⟩ := Flat.fits_int h
  obtain ⟨n4, v4, rfl, h4, h⟩ := Flat.fits_int h
  obtain ⟨n5, v5, rfl, h5, h⟩ := Flat.fits_int h
  have := Flat.fits_nil h
  subst this
  exact ⟨⟨n0, n1, n2, n3, n4, n5⟩, rfl, h0, h1, h2, h3, h4, h5⟩
theorem wf_bd {a : Int} (h : (Lit.int .i64 a).wf = true) : -9223372036854775808 ≤ a ∧ a ≤ 9223372036854775807 := by
  have := bounds_i64 h
  exact this
theorem En.W.b {p : En} (h : En.W p) : p.B := by
  have := h.2.2.2.2.2
  simp [Lit.wf] at this
  have e1 : IntKind.u32.min = 0 := rfl
  have e2 : IntKind.u32.max = 4294967295 := rfl
  unfold En.B
  omega
/-- entries that come in -/
theorem rows_en {w : World} {a : Option Addr} {len cap : Nat} {xs : List (List Value)} (h : Flat.IsRows [some .i64, some .i64, some .i64, some .i64, some .i64, some .u32] w a len cap xs) :
    ∃ l : List En, l.length = len ∧ RdE w a l ∧ RB l ∧ (∀ p ∈ l, En.W p) ∧ len ≤ cap := by
  rcases h with ⟨rfl, rfl, rfl⟩ | ⟨b, off, rfl, hb, hpos, hl, hm, hx, hf, hc⟩
  · exact ⟨[], rfl, ⟨⟨rfl, .inl rfl⟩, fun e => absurd rfl e⟩, by unfold RB; simp, by simp, Nat.le_refl _⟩
  · have hv : ∀ i, i < cap → ∃ p : En, xs.getD i [] = p.l ∧ En.W p := fun i hi => fits_en (hf i hi)
    have hex : ∀ n, n ≤ cap → ∃ l : List En, l.length = n ∧ (∀ i, i < n → xs.getD i [] = (at_ l i).l) ∧ ∀ p ∈ l, En.W p := by
      intro n
      induction n with
      | zero => exact fun _ => ⟨[], rfl, fun i hi => absurd hi (Nat.not_lt_zero _), by simp⟩
      | succ n ih =>
        intro hn
        obtain ⟨l, h1, h2, h3⟩ := ih (by omega)
        obtain ⟨p, hp, hW⟩ := hv n (by omega)
        refine ⟨l ++ [p], by simp [h1], fun i hi => ?_, fun q hq => ?_⟩
        · rcases Nat.lt_or_ge i n with h4 | h4
          · rw [h2 i h4]
            unfold DiM.at_
            rw [List.getD_eq_getElem?_getD, List.getD_eq_getElem?_getD, List.getElem?_append_left (by omega)]
          · obtain rfl : i = n := by omega
            rw [hp]
            unfold DiM.at_
            rw [List.getD_eq_getElem?_getD, List.getElem?_append_right (by omega), h1, Nat.sub_self]
            rfl
        · rcases List.mem_append.1 hq with hq | hq
          · exact h3 q hq
          · rw [List.mem_singleton.1 hq]; exact hW
    obtain ⟨l, h1, h2, h3⟩ := hex len hl
    refine ⟨l, h1, ⟨⟨ce_len l, .inr ⟨b, off, rfl, hb, fun i hi => ?_⟩⟩, fun _ => ⟨b, off, rfl⟩⟩, fun p hp => (h3 p hp).b, h3, hl⟩
    rw [ce_len, h1] at hi
    have hi1 : i / 6 < len := by omega
    have hi2 : i % 6 < 6 := Nat.mod_lt _ (by omega)
    have := hc (i / 6) (i % 6) (by omega) hi2
    simp only [List.length_cons, List.length_nil, Nat.zero_add, Nat.reduceAdd] at this
    rw [show i / 6 * 6 + i % 6 = i by omega, h2 _ hi1] at this
    rw [this, ← ce_at (by omega) hi2, show i / 6 * 6 + i % 6 = i by omega]
/-- the first bytes -/
theorem take_dirB (d : Int) {r : List En} {j : Nat} (hj : j ≤ r.length) : (dirB d r).take (10 * j) = dirB d (r.take j) := by
  conv => lhs; rw [← List.take_append_drop j r, dirB_app]
  rw [List.take_append_of_le_length (by rw [dirB_len, List.length_take]; omega), List.take_of_length_le (by rw [dirB_len, List.length_take]; omega)]
theorem good_take {d : Int} {r : List En} (h : good d r) (j : Nat) : good d (r.take j) :=
  ⟨h.1, fun p hp => h.2.1 p (List.mem_of_mem_take hp), h.2.2.sublist (List.take_sublist _ _)⟩
theorem dec_take {X : World} {b : Nat} {d : Int} {r : List En} (h : DB X b d r) (j : Nat) (hj : j ≤ r.length) : decV d ((dirB d r).take (10 * j)) = some (r.take j) := by
  rw [take_dirB d hj]
  exact dec_back (good_take h.dr.good j) (h.dr.by_.sublist (List.take_sublist _ _)) (fun p hp => h.bd p (List.mem_of_mem_take hp))
theorem dec_cut {d : Int} {r : List En} {k : Nat} (h : k % 10 ≠ 0) (hk : k ≤ 10 * r.length) : decV d ((dirB d r).take k) = none := dec_mod d (by rw [List.length_take, dirB_len, Nat.min_eq_left hk]; exact h)
theorem db_depth {X : World} {b : Nat} {d : Int} {r : List En} (h : DB X b d r) : depthB d = true := depth_mk h.dr.good.1.1 h.dr.good.1.2
end Go.Proofs.Ytpjbacpchmemeaa.DiZ0

namespace Go.Proofs.Ytpjbacpchmemeaa.DiZ
open Go.RowKit Go.Shelf Rd Go.Proofs.Ytpjbacpchmemeaa.Row Mid PgM PgA PgB PgC DiM DiA DiC DiD DiE DiF DiJ DiK DiL DiN DiO DiQ DiU DiV DiW DiX DiY DiZ0 OctA OctB
open Go.Proofs.Ytpjbacpchmemeaa.DiM (at_ at_get ce ce_len ce_app ce_one ce_ones ce_at)
open Go.Proofs.Ytpjbacpchmemeaa.DiI (cutV cut_all cut_take)
set_option linter.unusedVariables false
set_option linter.unusedSimpArgs false
set_option maxRecDepth 10000
theorem front_u8 (a : Option Addr) (N c M : Nat) (y : World) (h : M ≤ c) : (Instr.sliceAt 23 (.slice a N c) none (some (.int .i64 (M : Int))) none).run Try.prog y = .ok (.slice a M c) y := by
  have h0 : (0 : Int) ≤ (M : Int) := by omega
  have h1 : (M : Int) ≤ (c : Int) := by omega
  have h2 := add0 a c
  go_simp
theorem front_en (a : Option Addr) (N c M : Nat) (y : World) (h : M ≤ c) : (Instr.sliceAt 22 (.slice a N c) none (some (.int .i64 (M : Int))) none).run Try.prog y = .ok (.slice a M c) y := by
  have h0 : (0 : Int) ≤ (M : Int) := by omega
  have h1 : (M : Int) ≤ (c : Int) := by omega
  have h2 := add0 a c
  go_simp
theorem reads_take {X : World} {a : Option Addr} {N M : Nat} {zs : List Int} (h : Reads X 1 a N (u8s zs)) (hM : M ≤ N) : Reads X 1 a M (u8s (zs.take M)) := by
  have hl : zs.length = N := by have := h.1; simpa using this
  have e : u8s (zs.take M) = (u8s zs).take M := by simp [List.map_take]
  refine ⟨by simp; omega, ?_⟩
  rcases h.2 with h2 | ⟨b, o, e2, hb, hc⟩
  · exact .inl (by omega)
  · refine .inr ⟨b, o, e2, hb, fun i hi => ?_⟩
    rw [e] at hi ⊢
    rw [List.length_take] at hi
    rw [hc i (by omega), List.getElem?_take_of_lt (by omega)]
/-- all of one, whose number is at hand -/
theorem all_n {X : World} {b n : Nat} {d : Int} {r : List En} (h : DB X b d r) (hn : r.length = n) :
    Calls Try.prog 20 #[.pointer (some ⟨b, 0, none⟩), .int .i64 (-1)] X fun e Y => (∃ a c, e = .returned (.slice a n c) ∧ RdE Y a r ∧ n ≤ c) ∧ Below X.heap.size X Y := by
  refine (all_db h (-1)).mono ?_
  rw [cut_all, hn.symm]
  rintro e Y ⟨⟨u, he, a, c, h1, h2, h3⟩, hb⟩
  exact ⟨⟨a, c, by rw [he, h1], h2, h3⟩, hb⟩
theorem bytes_n {X : World} {b n : Nat} {d : Int} {r : List En} (h : DB X b d r) (hn : 10 * r.length = n) :
    Calls Try.prog 21 #[.pointer (some ⟨b, 0, none⟩)] X fun e Y => (∃ a c, e = .returned (.slice a n c) ∧ n ≤ c ∧ Reads Y 1 a n (u8s (dirB d r))) ∧ Below X.heap.size X Y := by
  subst hn
  exact bytes_db h
theorem same_n (r r' : List En) (n n' : Nat) (ad ad' : Option Addr) (c c' : Nat) (w : World) (h : RdE w ad r) (h' : RdE w ad' r') (hn : r.length = n) (hn' : r'.length = n') (hm : n ≤ 1000000) (hm' : n' ≤ 1000000) {q : Bool} (hq : decide (r = r') = q) :
    Calls Try.prog 19 #[.slice ad n c, .slice ad' n' c'] w fun e w' => e = .returned (.bool q) ∧ Below w.heap.size w w' := by
  subst hn hn' hq
  exact same_any r r' ad ad' c c' w h h' hm hm'
theorem len_n {X : World} {b n : Nat} {d : Int} {r : List En} (h : DB X b d r) (hn : r.length = n) :
    Calls Try.prog 22 #[.pointer (some ⟨b, 0, none⟩)] X fun e Y => e = .returned (.int .i64 n) ∧ X = Y := by
  subst hn
  exact len_db h
set_option maxHeartbeats 4000000 in
theorem back_gen (a0 : Int) (ai : Option Addr) (len cap : Nat) (l : List En) (cut : Int) (w : World) (hl : l.length = len) (hR : RdE w ai l) (hB : RB l) (hc1 : -9223372036854775808 ≤ cut) (hc2 : cut ≤ 9223372036854775807) :
    Calls Try.prog 4 #[.int .i64 a0, .slice ai len cap, .int .i64 cut] w fun e w' => e = .returned (.bool true) ∧ Below w.heap.size w w' := by
  by_cases hgood : (len : Int) ≤ 40
  case neg =>
    have hg : (40 : Int) < (len : Int) := by omega
    clear hR hB hl
    go_enter Try.func4, Try.ntmps4
    go_wp2_with fail
    refine (awake_any _).mono ?_
    rintro e w9 ⟨rfl, hb⟩
    go_wp2
    go_ret
    exact ⟨rfl, hb⟩
  have hg : ¬ (40 : Int) < (len : Int) := by omega
  have hn40 : len ≤ 40 := by omega
  have HR := Lib.hid hR
  have HB := Lib.hid hB
  have HL := Lib.hid hl
  clear hR hB hl hgood
  obtain ⟨o, eo⟩ : ∃ o, newV a0 l = o := ⟨_, rfl⟩
  have CN := Lib.hid (fun (h : newV a0 l = none) => new_not h ai cap w HR.out HB.out (by rw [HL.out]; omega))
  rw [HL.out] at CN
  cases o with
  | none =>
    go_enter Try.func4, Try.ntmps4
    go_wp2_with fail
    refine (CN.out eo).mono ?_
    rintro e w2 ⟨rfl, hb⟩
    go_wp2_with fail
    refine (awake_any _).mono ?_
    rintro e w9 ⟨rfl, hb9⟩
    go_wp2
    go_ret
    exact ⟨rfl, Rd.below_step hb hb9⟩
  | some r =>
    have CO := Lib.hid (new_ok eo ai cap w HR.out HB.out (by rw [HL.out]; omega))
    rw [HL.out] at CO
    have hrn : Hid (r.length = len) := Lib.hid ((new_len eo).trans HL.out)
    clear eo CN
    go_enter Try.func4, Try.ntmps4
    go_wp2_with fail
    refine CO.out.mono ?_
    rintro e X1 ⟨⟨b, rfl, hD⟩, hb⟩
    have HD := Lib.hid hD
    have L1 := hb
    clear hD hb CO
    obtain ⟨n, en⟩ : ∃ n, 10 * len = n := ⟨_, rfl⟩
    have EN := Lib.hid en
    have hn400 : n ≤ 400 := by omega
    have hmul : 10 * (len : Int) = (n : Int) := by omega
    clear en
    go_wp2_with fail
    refine (bytes_n HD.out (n := n) (by rw [hrn.out, EN.out])).mono ?_
    rintro e X2 ⟨⟨ab, cb, rfl, hcb, hrb⟩, hb⟩
    have HRB := Lib.hid hrb
    have HD2 := Lib.hid (HD.out.below hb)
    have L2 := Rd.below_step L1 hb
    clear hrb hb L1 HD
    go_wp2_with fail
    refine (dec_ok (dec_back HD2.out.dr.good HD2.out.dr.by_ HD2.out.bd) _ n _ _ HRB.out (dirB_bd _ _) (by omega) hcb).mono ?_
    rintro e X3 ⟨⟨b3, rfl, hD⟩, hb⟩
    have HD3 := Lib.hid (HD2.out.below hb)
    have HE3 := Lib.hid hD
    have HRB3 := Lib.hid (HRB.out.below hb (Nat.le_refl _))
    have L3 := Rd.below_step L2 hb
    clear hD hb L2 HD2 HRB
    go_wp2_with fail
    refine (all_n HD3.out hrn.out).mono ?_
    rintro e X4 ⟨⟨a4, c4, rfl, hr4, -⟩, hb⟩
    have HR4 := Lib.hid hr4
    have HD4 := Lib.hid (HD3.out.below hb)
    have HE4 := Lib.hid (HE3.out.below hb)
    have HRB4 := Lib.hid (HRB3.out.below hb (Nat.le_refl _))
    have L4 := Rd.below_step L3 hb
    clear hr4 hb L3 HD3 HE3 HRB3
    go_wp2_with fail
    refine (all_n HE4.out hrn.out).mono ?_
    rintro e X5 ⟨⟨a5, c5, rfl, hr5, -⟩, hb⟩
    have HR5 := Lib.hid hr5
    have HR45 := Lib.hid (HR4.out.bel hb)
    have HD5 := Lib.hid (HD4.out.below hb)
    have HRB5 := Lib.hid (HRB4.out.below hb (Nat.le_refl _))
    have L5 := Rd.below_step L4 hb
    clear hr5 hb L4 HD4 HE4 HRB4 HR4
    go_wp2_with fail
    refine (same_n r r len len a4 a5 _ _ _ HR45.out HR5.out hrn.out hrn.out (by omega) (by omega) (q := true) (by simp)).mono ?_
    rintro e X6 ⟨rfl, hb⟩
    have HD6 := Lib.hid (HD5.out.below hb)
    have HRB6 := Lib.hid (HRB5.out.below hb (Nat.le_refl _))
    have L6 := Rd.below_step L5 hb
    clear hb L5 HD5 HRB5 HR5 HR45
    go_wp2_with fail
    refine (len_n HD6.out hrn.out).mono ?_
    rintro e X7 ⟨rfl, rfl⟩
    go_wp2_with fail
    refine (Alk.round_any cut ((n : Int) + 1) _ hc1 hc2 (by omega) (by omega)).mono ?_
    rintro e w0 ⟨rfl, rfl⟩
    obtain ⟨k, hk⟩ : ∃ k : Nat, cut % ((n : Int) + 1) = (k : Int) := ⟨(cut % ((n : Int) + 1)).toNat, by have := Int.emod_nonneg cut (show (n : Int) + 1 ≠ 0 by omega); omega⟩
    have hkn : k ≤ n := by have := Int.emod_lt_of_pos cut (show (0 : Int) < (n : Int) + 1 by omega); omega
    rw [hk]
    clear hk hc1 hc2 hmul
    have hfr := fun y => front_u8 ab n cb k y (by omega)
    go_wp2_with fail
    have hrem : (k : Int).tmod 10 = ((k % 10 : Nat) : Int) := by rw [Int.tmod_eq_emod_of_nonneg (by omega)]; omega
    by_cases h10 : k % 10 = 0
    case neg =>
      refine (dec_not (dec_cut (r := r) (d := a0) h10 (by rw [hrn.out, EN.out]; exact hkn)) (db_depth HD6.out) ab k cb _ (reads_take HRB6.out hkn) (fun z hz => dirB_bd _ _ z (List.mem_of_mem_take hz)) (by omega) (by omega)).mono ?_
      rintro e X8 ⟨rfl, hb⟩
      have L8 := Rd.below_step L6 hb
      obtain ⟨q, eq⟩ : ∃ q, k % 10 = q := ⟨_, rfl⟩
      rw [eq] at hrem h10
      have hq0 : ((q : Int) == 0) = false := by rw [beq_eq_false_iff_ne]; omega
      clear hb L6 eq HD6 HRB6 hfr
      go_wp2_with fail
      refine (awake_any _).mono ?_
      rintro e w9 ⟨rfl, hb⟩
      go_wp2
      go_ret
      exact ⟨rfl, Rd.below_step L8 hb⟩
    obtain ⟨j, rfl⟩ : ∃ j, k = 10 * j := ⟨k / 10, by omega⟩
    have hj : j ≤ len := by have := EN.out; omega
    rw [h10] at hrem
    have hquo : ((10 * j : Nat) : Int).tdiv 10 = (j : Int) := by rw [Int.tdiv_eq_ediv_of_nonneg (by omega)]; omega
    obtain ⟨k, ek⟩ : ∃ k, 10 * j = k := ⟨_, rfl⟩
    rw [ek] at hrem hquo hfr hkn ⊢
    have EK := Lib.hid ek
    refine (dec_ok (dec_take HD6.out j (by rw [hrn.out]; exact hj)) ab k cb _ (by rw [ek]; exact reads_take HRB6.out hkn) (fun z hz => dirB_bd _ _ z (List.mem_of_mem_take hz)) (by omega) (by omega)).mono ?_
    rintro e X8 ⟨⟨b8, rfl, hD⟩, hb⟩
    have HE8 := Lib.hid hD
    have HD8 := Lib.hid (HD6.out.below hb)
    have L8 := Rd.below_step L6 hb
    clear hD hb L6 HD6 HRB6 hfr h10 ek
    have hjl : Hid ((r.take j).length = j) := Lib.hid (by rw [List.length_take, hrn.out]; omega)
    go_wp2_with fail
    refine (all_n HE8.out hjl.out).mono ?_
    rintro e X9 ⟨⟨a9, c9, rfl, hr9, -⟩, hb⟩
    have HR9 := Lib.hid hr9
    have HD9 := Lib.hid (HD8.out.below hb)
    have L9 := Rd.below_step L8 hb
    clear hr9 hb L8 HE8 HD8
    go_wp2_with fail
    refine (all_n HD9.out hrn.out).mono ?_
    rintro e XA ⟨⟨aA, cA, rfl, hrA, hcA⟩, hb⟩
    have HRA := Lib.hid hrA
    have HR9A := Lib.hid (HR9.out.bel hb)
    have LA := Rd.below_step L9 hb
    have hfr := fun y => front_en aA len cA j y (by omega)
    clear hrA hb L9 HR9 HD9
    go_wp2_with fail
    refine (same_n (r.take j) (r.take j) j j a9 aA _ _ _ HR9A.out (HRA.out.take j) hjl.out hjl.out (by omega) (by omega) (q := true) (by simp)).mono ?_
    rintro e XB ⟨rfl, hb⟩
    have LB := Rd.below_step LA hb
    clear hb LA HR9A HRA hfr
    go_wp2_with fail
    refine (awake_any _).mono ?_
    rintro e w9 ⟨rfl, hb⟩
    go_wp2
    go_ret
    exact ⟨rfl, Rd.below_step LB hb⟩
end Go.Proofs.Ytpjbacpchmemeaa.DiZ

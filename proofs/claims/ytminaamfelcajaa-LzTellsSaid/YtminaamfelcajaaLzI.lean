/-
  The document's own answer: Match, Pack.
-/
import Derived.Test.YtminaamfelcajaaLzH
import Derived.Test.YtminaamfelcajaaBitI
namespace Go.Proofs.Ytminaamfelcajaa.LzI
open Go.RowKit Rd Go.Proofs.Ytminaamfelcajaa.Row OctA MaM MaA BitA BitB BitH BitI LzM LzR LzH
open MaD (own_bel own_mono)
set_option linter.unusedVariables false
set_option linter.unusedSimpArgs false
set_option maxRecDepth 10000
theorem cell_n {X : World} {a : Option Addr} {n c : Nat} {B : Nat} {r : List Nat} (h : X.ownsRow B 3 1 (.slice a n c) n (ivN r)) (hn : r.length = n) (h0 : n ≠ 0) : ∃ p o, a = some ⟨p, o, none⟩ ∧ p < X.heap.size ∧ ∀ i, i < n → X.cell? ⟨p, o + i, none⟩ = some (.int .i64 ((r.getD i 0 : Nat) : Int)) := by
  rcases (Reads.of_owns h).2 with h1 | ⟨p, o, h1, h2, h3⟩
  · exact absurd h1 h0
  · refine ⟨p, o, h1, h2, fun i hi => ?_⟩
    rw [h3 i (by simp [ivN]; omega)]
    simp [ivN, List.getD, show i < r.length by omega]
theorem best_take {l : List Int} {k i : Nat} {L : List Nat} (hi : i < L.length) : best l k (L.take (i + 1)) = try1 l k (best l k (L.take i)) (L.getD i 0) := by
  rw [List.take_add_one, List.getElem?_eq_getElem hi]
  show best l k (L.take i ++ [L[i]]) = _
  rw [best_snoc]
  congr 1
  simp [List.getD, hi]
set_option maxHeartbeats 4000000 in
theorem match_any (ai : Option Addr) (c : Nat) (l : List Int) (k : Nat) (w : World) (hr : Reads w 1 ai l.length (us l)) (hk : k < l.length) (hl : l.length ≤ 100000) :
    Calls Try.prog 21 #[.slice ai l.length c, .int .i64 k] w fun e w' => e = .returned (.tuple #[.int .i64 ((best l k (all l k)).1 : Int), .int .i64 ((best l k (all l k)).2 : Int)]) ∧ Below w.heap.size w w' := by
  have HRN : Hid (∀ (d : Nat) (Z : World), d ≤ k → Below w.heap.size w Z → Calls Try.prog 37 #[.slice ai l.length c, .int .i64 k, .int .i64 d] Z fun e w' => e = .returned (.int .i64 (runL l k d)) ∧ Below Z.heap.size Z w') := Lib.hid (fun d Z hd hZ => run_any ai c l k d Z (hr.below hZ (Nat.le_refl _)) hk hd (by omega))
  have HPL := Lib.hid (places_any ai c l k w hr hk hl)
  obtain ⟨n, hn⟩ : ∃ n, l.length = n := ⟨_, rfl⟩
  rw [hn] at HRN HPL hk hl ⊢
  obtain ⟨A, hA⟩ : ∃ A, all l k = A := ⟨_, rfl⟩
  have HA := Lib.hid hA
  have HIN : Hid (∀ d ∈ A, d ≤ k) := Lib.hid (fun d hd => by rw [← hA] at hd; exact (all_mat hd).2.1)
  rw [hA] at HPL ⊢
  obtain ⟨K, hK⟩ : ∃ K, A.length = K := ⟨_, rfl⟩
  have HK := Lib.hid hK
  have hK4 : K ≤ 4096 := by rw [← hK, ← hA]; exact Nat.le_trans (ds_len _) (by omega)
  rw [hK] at HPL
  clear hr hn hA hK
  go_enter Try.func21, Try.ntmps21
  go_wp2_with fail
  refine HPL.out.mono ?_
  rintro e W1 ⟨⟨v, rfl, ho⟩, hb1⟩
  obtain ⟨ra, rc, rfl, -, -⟩ := owns_val ho
  have HO := Lib.hid ho
  have HB1 := Lib.hid hb1
  clear ho hb1 HPL
  go_wp2_with fail
  go_loopw [6, 7, 9] (fun dd mm i X => ∃ (j d m : Nat), j ≤ K ∧ dd = .int .i64 d ∧ mm = .int .i64 m ∧ i = .int .i64 j ∧ Hid (best l k (A.take j) = (d, m)) ∧ Hid (Below W1.heap.size W1 X)) (fun _ _ i _ => K - (intOf i).toNat)
  case atStart => exact ⟨0, 0, 0, by omega, rfl, rfl, rfl, Lib.hid rfl, Lib.hid (Below.refl _ _)⟩
  case round =>
    obtain ⟨j, d, m, hj9, rfl, rfl, rfl, HE, HB⟩ := hrel
    rename World => X
    by_cases hlt : j < K
    · have hlt' : (j : Int) < (K : Int) := by omega
      obtain ⟨pb, po, rfl, hpb, hcc⟩ := cell_n HO.out HK.out (by omega)
      have k1 : X.cell? ⟨pb, po + j, none⟩ = some (.int .i64 ((A.getD j 0 : Nat) : Int)) := (HB.out.cell (p := ⟨pb, _, none⟩) hpb).trans (hcc j hlt)
      have HBT := Lib.hid (best_take (l := l) (k := k) (L := A) (i := j) (by rw [HK.out]; exact hlt))
      have hin := HIN.out (A.getD j 0) (by
        have h9 : j < A.length := by rw [HK.out]; exact hlt
        rw [List.getD_eq_getElem?_getD, List.getElem?_eq_getElem h9]
        exact List.getElem_mem h9)
      obtain ⟨x, hx⟩ : ∃ x, A.getD j 0 = x := ⟨_, rfl⟩
      rw [hx] at k1 HBT hin
      have HCL := Lib.hid (HRN.out x X hin (HB1.out.trans (HB.out.mono HB1.out.size)))
      clear hcc hx
      go_wp2_with fail
      refine HCL.out.mono ?_
      rintro e X1 ⟨rfl, hb1⟩
      have HB2 := Lib.hid (HB.out.trans (hb1.mono HB.out.size))
      have k2 : X1.cell? ⟨pb, po + j, none⟩ = some (.int .i64 (x : Int)) := (HB2.out.cell (p := ⟨pb, _, none⟩) hpb).trans (((HB.out.cell (p := ⟨pb, _, none⟩) hpb).symm).trans k1)
      obtain ⟨rn, hrn⟩ : ∃ rn, runL l k x = rn := ⟨_, rfl⟩
      have h9 := HBT.out
      rw [HE.out] at h9
      unfold try1 at h9
      rw [hrn] at h9
      rw [hrn]
      clear hb1 HCL hrn k1 HB
      by_cases hmr : m < rn
      · have hmr' : (m : Int) < (rn : Int) := by omega
        rw [if_pos hmr] at h9
        have H9 := Lib.hid h9
        clear h9
        go_wp2
        exact ⟨⟨j + 1, x, rn, by omega, rfl, rfl, by go_num, H9, HB2⟩, by simp [intOf]; omega⟩
      · have hmr' : ¬ (m : Int) < (rn : Int) := by omega
        rw [if_neg hmr] at h9
        have H9 := Lib.hid h9
        clear h9 k2
        go_wp2
        exact ⟨⟨j + 1, d, m, by omega, rfl, rfl, by go_num, H9, HB2⟩, by simp [intOf]; omega⟩
    · obtain rfl : j = K := by omega
      have h9 := HE.out
      rw [← HK.out, List.take_length] at h9
      have HF := Lib.hid (And.intro h9 (HB1.out.trans (HB.out.mono HB1.out.size)))
      clear h9
      go_wp2
      go_ret2
      exact ⟨by rw [HF.out.1]; rfl, HF.out.2⟩
/-! packing -/
structure Rs (w X : World) (p : Nat) (v : Value) (acc : List Nat) : Prop where
  rb : RB X p v acc
  below : Below w.heap.size w X
  lo : w.heap.size ≤ p
theorem Rs.bel {w X Y : World} {p : Nat} {v : Value} {acc : List Nat} (h : Rs w X p v acc) (hb : Below X.heap.size X Y) : Rs w Y p v acc := ⟨h.rb.below hb, h.below.trans (hb.mono h.below.size), h.lo⟩
theorem rs_put {w X : World} {p : Nat} {v : Value} {acc : List Nat} (h : Rs w X p v acc) (x n : Nat) (hn : n ≤ 32) (hx : x < 2 ^ n) (hl : acc.length ≤ 90000) :
    Calls Try.prog 20 #[.pointer (some ⟨p, 0, none⟩), .int .i64 x, .int .i64 n] X fun e w' => ∃ v', e = .returned (.int .i64 0) ∧ Rs w w' p v' (acc ++ putL x n) :=
  (rput_ok p v acc x n X h.rb hn hx hl).mono fun e w' ⟨v', he, hw, hf⟩ => ⟨v', he, hw, h.below.trans (FrB.below hf h.rb h.lo), h.lo⟩
set_option maxHeartbeats 4000000 in
theorem rpack_any (ai : Option Addr) (c : Nat) (l : List Int) (w : World) (hr : Reads w 1 ai l.length (us l)) (hb : By l) (hl : l.length ≤ 5000) :
    Calls Try.prog 9 #[.slice ai l.length c] w fun e w' => (∃ v, e = .returned (.tuple #[v, .int .i64 0]) ∧ w'.ownsRow w.heap.size 5 1 v (pack (packB l)).length (u8s (pack (packB l)))) ∧ Below w.heap.size w w' := by
  have HR := Lib.hid hr
  have HBY := Lib.hid hb
  obtain ⟨n, hn⟩ : ∃ n, l.length = n := ⟨_, rfl⟩
  have HN := Lib.hid hn
  have HMA : Hid (∀ (a : Nat) (Z : World), a < n → Below w.heap.size w Z → Calls Try.prog 21 #[.slice ai n c, .int .i64 a] Z fun e w' => e = .returned (.tuple #[.int .i64 ((best l a (all l a)).1 : Int), .int .i64 ((best l a (all l a)).2 : Int)]) ∧ Below Z.heap.size Z w') := Lib.hid (fun a Z ha hZ => by
    have h9 := match_any ai c l a Z (hr.below hZ (Nat.le_refl _)) (by rw [hn]; exact ha) (by omega)
    rw [hn] at h9
    exact h9)
  rw [hn] at hl ⊢
  have hn' : ¬ (65535 : Int) < (n : Int) := by omega
  clear hr hb hn
  go_enter Try.func9, Try.ntmps9
  go_upto_region 4 with (fail)
  refine Rd.name_world ?_
  intro W hW
  have HS0 : Hid (Rs w W w.heap.size (.slice none 0 0) []) := Lib.hid ⟨by rw [hW]; exact rb_new w, by rw [hW]; exact (Below.refl _ _).alloc (Nat.le_refl _) _, Nat.le_refl _⟩
  obtain ⟨p, hp⟩ : ∃ p, w.heap.size = p := ⟨_, rfl⟩
  have HP := Lib.hid hp
  rw [hp] at HS0 ⊢
  clear hW hp
  go_wp2_with fail
  refine (rs_put HS0.out n 16 (by decide) (by omega) (by decide)).mono ?_
  rintro e W1 ⟨v1, rfl, hs1⟩
  have HS1 := Lib.hid hs1
  clear hs1 HS0
  go_wp2_with fail
  go_loopw [5] (fun i X => ∃ (a : Nat) (v : Value) (acc : List Nat), a ≤ n ∧ i = .int .i64 a ∧ Hid (Rs w X p v acc) ∧ Hid (∃ fu, l.length - a ≤ fu ∧ acc ++ packF l fu a = packB l)) (fun i _ => n - (intOf i).toNat)
  case atStart => exact ⟨0, v1, _, by omega, rfl, HS1, Lib.hid ⟨l.length, by omega, by rw [← HN.out]; rfl⟩⟩
  case round =>
    clear HS1
    obtain ⟨a, v, acc, ha9, rfl, HS, HE⟩ := hrel
    rename World => X
    have hacc : acc.length ≤ 50000 := by
      obtain ⟨fu, -, e⟩ := HE.out
      have h1 := packB_len l
      rw [← e, List.length_append, HN.out] at h1
      omega
    by_cases hlt : a < n
    · have hlt' : (a : Int) < (n : Int) := by omega
      obtain ⟨fu, hfu, hpe⟩ : ∃ fu, l.length - nextA l a ≤ fu ∧ (acc ++ stepB l a) ++ packF l fu (nextA l a) = packB l := by
        obtain ⟨fu, h1, e⟩ := HE.out
        have h2 := HN.out
        obtain ⟨f', rfl⟩ : ∃ f', fu = f' + 1 := ⟨fu - 1, by omega⟩
        have h3 := next_bd (l := l) (a := a) (by omega)
        refine ⟨f', by omega, ?_⟩
        rw [List.append_assoc, ← e]
        congr 1
        exact (if_pos (by omega)).symm
      have HPE := Lib.hid (And.intro hfu hpe)
      have HCL := Lib.hid (HMA.out a X hlt HS.out.below)
      clear hfu hpe HE
      go_wp2_with fail
      refine HCL.out.mono ?_
      rintro e W3 ⟨rfl, hb3⟩
      have HS3 := Lib.hid (HS.out.bel hb3)
      obtain ⟨r, hr⟩ : ∃ r, best l a (all l a) = r := ⟨_, rfl⟩
      obtain ⟨d, m⟩ := r
      rw [hr]
      have HBS : Hid (bst l a = (d, m)) := Lib.hid hr
      clear hb3 hr HS HCL
      by_cases hm : m = 0
      · subst hm
        have hsb : stepB l a = putL 0 1 ++ putL (l.getD a 0).toNat 8 := if_pos (by rw [HBS.out])
        have hna : nextA l a = a + 1 := if_pos (by rw [HBS.out])
        rw [hsb, hna, ← List.append_assoc] at HPE
        clear hsb hna
        go_wp2_with fail
        refine (rs_put HS3.out 0 1 (by decide) (by decide) (by omega)).mono ?_
        rintro e W4 ⟨v4, rfl, hs4⟩
        have HS4 := Lib.hid hs4
        have hr4 := HR.out.below hs4.below (Nat.le_refl _)
        rw [HN.out] at hr4
        obtain ⟨pb, po, rfl, hpb, hcc⟩ := MaB.cell_u8 hr4 HN.out (by omega)
        have k1 := hcc a hlt
        obtain ⟨z, hz⟩ : ∃ z : Nat, l.getD a 0 = z := ⟨(l.getD a 0).toNat, by have := HBY.out.at_ a; omega⟩
        have hz8 : z < 256 := by have := HBY.out.at_ a; omega
        rw [hz] at k1
        rw [show (l.getD a 0).toNat = z by omega] at HPE
        clear hs4 hr4 hcc hz
        go_wp2_with fail
        refine (rs_put HS4.out z 8 (by decide) (by omega) (by rw [List.length_append, putL_length]; omega)).mono ?_
        rintro e W5 ⟨v5, rfl, hs5⟩
        have HS5 := Lib.hid hs5
        clear hs5 k1
        go_wp2
        exact ⟨⟨a + 1, v5, _, by omega, by go_num, HS5, Lib.hid ⟨fu, HPE.out.1, HPE.out.2⟩⟩, by simp [intOf]; omega⟩
      · have hm' : (0 : Int) < (m : Int) := by omega
        have h0 : (bst l a).2 ≠ 0 := by rw [HBS.out]; exact hm
        obtain ⟨d', m', e0, h1, h2, h3, h4, h5, h6, -, -⟩ := best_is h0
        obtain ⟨-, -, h9, -⟩ := all_mat h1
        rw [show best l a (all l a) = (d, m) from HBS.out] at e0
        injection e0 with e1 e2
        subst e1 e2
        have hsb : stepB l a = putL 1 1 ++ putL (d - 1) 12 ++ putL (m - 3) 8 := by unfold stepB; rw [if_neg h0, HBS.out]
        have hna : nextA l a = a + m := by unfold nextA; rw [if_neg h0, HBS.out]
        rw [hsb, hna, ← List.append_assoc, ← List.append_assoc] at HPE
        rw [HN.out] at h6
        obtain ⟨d1, hd1⟩ : ∃ d1 : Nat, (d : Int) - 1 = d1 := ⟨d - 1, by omega⟩
        obtain ⟨m3, hm3⟩ : ∃ m3 : Nat, (m : Int) - 3 = m3 := ⟨m - 3, by omega⟩
        rw [show d - 1 = d1 by omega, show m - 3 = m3 by omega] at HPE
        have hd2 : d1 < 4096 := by omega
        have hm4 : m3 < 256 := by omega
        clear hsb hna h0 h1 h9
        go_wp2_with fail
        refine (rs_put HS3.out 1 1 (by decide) (by decide) (by omega)).mono ?_
        rintro e W4 ⟨v4, rfl, hs4⟩
        have HS4 := Lib.hid hs4
        clear hs4
        go_wp2_with fail
        refine (rs_put HS4.out d1 12 (by decide) (by omega) (by rw [List.length_append, putL_length]; omega)).mono ?_
        rintro e W5 ⟨v5, rfl, hs5⟩
        have HS5 := Lib.hid hs5
        clear hs5
        go_wp2_with fail
        refine (rs_put HS5.out m3 8 (by decide) (by omega) (by rw [List.length_append, List.length_append, putL_length, putL_length]; omega)).mono ?_
        rintro e W6 ⟨v6, rfl, hs6⟩
        have HS6 := Lib.hid hs6
        clear hs6
        go_wp2
        exact ⟨⟨a + m, v6, _, by omega, by go_num, HS6, Lib.hid ⟨fu, HPE.out.1, HPE.out.2⟩⟩, by simp [intOf]; omega⟩
    · obtain rfl : a = n := by omega
      have hE : acc = packB l := by
        obtain ⟨fu, h1, e⟩ := HE.out
        rw [packF_end (by rw [HN.out]; exact Nat.le_refl _), List.append_nil] at e
        exact e
      subst hE
      go_wp2_with fail
      refine (rbytes_any p v _ X HS.out.rb (by omega)).mono ?_
      rintro e W7 ⟨v7, rfl, hown, hb7⟩
      have HO := Lib.hid (own_mono hown HS.out.below.size)
      have HB7 := Lib.hid (HS.out.below.trans (hb7.mono HS.out.below.size))
      clear hown hb7
      go_wp2_with fail
      go_ret2
      exact ⟨⟨v7, rfl, HO.out⟩, HB7.out⟩
end Go.Proofs.Ytminaamfelcajaa.LzI

/-
  The document's own answer: Unpack.
-/
import Derived.Test.YtminaamfelcajaaLzI
import Derived.Test.YtminaamfelcajaaBitJ
import Derived.Test.YtminaamfelcajaaLzC
namespace Go.Proofs.Ytminaamfelcajaa.LzJ
open Go.RowKit Rd Go.Proofs.Ytminaamfelcajaa.Row OctA MaA BitA BitB BitD BitJ LzM LzB LzC LzR
open MaD (own_bel own_mono)
set_option linter.unusedVariables false
set_option linter.unusedSimpArgs false
set_option maxRecDepth 10000
structure Vs (w X : World) (q : Nat) (ai : Option Addr) (c : Nat) (zs : List Int) (at_ : Nat) (v : Value) (b : List Int) : Prop where
  rd : SSt X q ai c zs at_
  own : X.ownsRow w.heap.size 5 1 v b.length (us b)
  f1 : v.ownBlock ≠ some q
  below : Below w.heap.size w X
  lo : w.heap.size ≤ q
  row : Reads w 1 ai zs.length (us zs)
theorem Vs.get {w X Y : World} {q : Nat} {ai : Option Addr} {c : Nat} {zs : List Int} {at_ a' : Nat} {v : Value} {b : List Int} (h : Vs w X q ai c zs at_ v b) (hr : SSt Y q ai c zs a') (hf : FrQ X Y q) : Vs w Y q ai c zs a' v b :=
  ⟨hr, keep_own h.own fun k hk => hf.block k (h.own.lt k hk).2 (fun e => h.f1 (e ▸ hk)) (by simp [Value.ownBlock]), h.f1, h.below.trans ((hf.below (Nat.le_of_lt (blk_lt h.rd.blk)) (fun k hk => by cases hk)).mono h.lo), h.lo, h.row⟩
theorem Vs.turn {w X Y : World} {q : Nat} {ai : Option Addr} {c : Nat} {zs : List Int} {at_ : Nat} {v v' : Value} {b b' : List Int} (h : Vs w X q ai c zs at_ v b) (ho : Y.ownsRow w.heap.size 5 1 v' b'.length (us b')) (hg : Gr X Y v v') : Vs w Y q ai c zs at_ v' b' := by
  have hq := blk_lt h.rd.blk
  have hb : Below w.heap.size w Y := h.below.trans (hg.below (fun k hk => (h.own.lt k hk).1) h.below.size)
  refine ⟨⟨(hg.block q hq fun e => h.f1 e.symm).trans h.rd.blk, h.row.below hb (Nat.le_refl _), h.rd.far⟩, ho, fun e => ?_, hb, h.lo, h.row⟩
  rcases hg.row with e2 | ⟨g, e2, h3⟩
  · exact h.f1 (e2 ▸ e)
  · rw [e2] at e; cases e; omega
theorem Vs.bel {w X Y : World} {q : Nat} {ai : Option Addr} {c : Nat} {zs : List Int} {at_ : Nat} {v : Value} {b : List Int} (h : Vs w X q ai c zs at_ v b) (hb : Below X.heap.size X Y) : Vs w Y q ai c zs at_ v b :=
  ⟨h.rd.below hb, keep_own h.own fun k hk => hb.block k (h.own.lt k hk).2, h.f1, h.below.trans (hb.mono h.below.size), h.lo, h.row⟩
theorem sget_some {w : World} {q : Nat} {ai : Option Addr} {c : Nat} {zs : List Int} {a n x a' : Nat} (hR : SSt w q ai c zs a) (hz : ∀ z ∈ zs, 0 ≤ z ∧ z ≤ 255) (hn : n ≤ 32) (hl : zs.length ≤ 1000000) (h : getN zs a n = some (x, a')) :
    Calls Try.prog 28 #[.pointer (some ⟨q, 0, none⟩), .int .i64 n] w fun e w' => e = .returned (.tuple #[.int .i64 (x : Nat), .int .i64 0]) ∧ SSt w' q ai c zs a' ∧ FrQ w w' q := by
  obtain ⟨h1, h2, h3, h4⟩ := getN_le h
  subst h3 h1
  exact rget_ok q ai c zs a n w hR hz hn h2 hl
theorem sget_none {w : World} {q : Nat} {ai : Option Addr} {c : Nat} {zs : List Int} {a n : Nat} (hR : SSt w q ai c zs a) (ha : a ≤ 8 * zs.length) (hn : n ≤ 32) (hl : zs.length ≤ 1000000) (h : getN zs a n = none) :
    Calls Try.prog 28 #[.pointer (some ⟨q, 0, none⟩), .int .i64 n] w fun e w' => e = .returned (.tuple #[.int .i64 0, .int .i64 3]) ∧ Below w.heap.size w w' := by
  refine rget_short q ai c zs a n w hR (by omega) (by omega) ha ?_ hl
  unfold getN at h
  split at h
  · cases h
  · omega
set_option maxHeartbeats 8000000 in
theorem runpack_any (ai : Option Addr) (n c : Nat) (zs : List Int) (w : World) (hr : Reads w 1 ai n (us zs)) (hz : ∀ z ∈ zs, 0 ≤ z ∧ z ≤ 255) (hn : n ≤ 100000) :
    Calls Try.prog 11 #[.slice ai n c] w fun e w' => Ur w w' zs e ∧ Below w.heap.size w w' := by
  have hzn : zs.length = n := by have := hr.1; simpa [us] using this
  have hzl : zs.length ≤ 1000000 := by omega
  have HZ := Lib.hid hz
  have HZL := Lib.hid hzl
  have HRD := Lib.hid hr
  have HZN := Lib.hid hzn
  clear hr hz hzn hzl
  go_enter Try.func11, Try.ntmps11
  go_upto_region 2 with (fail)
  refine Rd.name_world ?_
  intro W1 hW
  have HU1 : Hid (Vs w W1 w.heap.size ai c zs 0 (.slice none 0 0) []) := Lib.hid (by
    have hb : Below w.heap.size w W1 := by rw [hW]; exact (Below.refl _ _).alloc (Nat.le_refl _) _
    have hrd : Reads w 1 ai zs.length (us zs) := by rw [HZN.out]; exact HRD.out
    refine ⟨⟨by rw [hW, HZN.out]; exact blk_alloc_at _ _ _ rfl, hrd.below hb (Nat.le_refl _), fun b o e hne => ?_⟩, World.ownsRow_nil _ _ _ _, by simp [Value.ownBlock], hb, Nat.le_refl _, hrd⟩
    rcases hrd.2 with h0 | ⟨b', o', e', hlt, -⟩
    · exact absurd h0 hne
    · rw [e'] at e
      cases e
      omega)
  obtain ⟨q, hq⟩ : ∃ q, w.heap.size = q := ⟨_, rfl⟩
  rw [hq] at HU1 ⊢
  have HQ := Lib.hid hq
  clear hW hq HRD
  cases h16 : getN zs 0 16 with
  | none =>
    have HG := Lib.hid (sget_none (n := 16) HU1.out.rd (Nat.zero_le _) (by decide) HZL.out h16)
    have HX := Lib.hid (unL_short h16)
    go_wp2_with fail
    refine HG.out.mono ?_
    rintro e W2 ⟨rfl, hb⟩
    have HB := Lib.hid (HU1.out.bel hb).below
    clear hb HG HU1 h16
    go_wp2_with fail
    go_ret2
    exact ⟨.inr ⟨HX.out, rfl⟩, HB.out⟩
  | some r =>
  obtain ⟨count, a1⟩ := r
  have HG := Lib.hid (sget_some (n := 16) HU1.out.rd HZ.out (by decide) HZL.out h16)
  have H16 := Lib.hid h16
  have hcount : count < 65536 := (getN_le h16).2.2.2
  have ha1 := (getN_le h16).2.1
  clear h16
  go_wp2_with fail
  refine HG.out.mono ?_
  rintro e W2 ⟨rfl, hrd, hf⟩
  have HU2 := Lib.hid (HU1.out.get hrd hf)
  obtain ⟨R, hR⟩ : ∃ R, unF zs count count a1 [] = R := ⟨_, rfl⟩
  have HRR := Lib.hid hR
  have HCO : Hid (Co zs count a1 [] R) := Lib.hid ⟨count, by simp, hR⟩
  clear hrd hf HG HU1 hR
  go_wp2_with fail
  go_loopw [7] (fun v X => ∃ (at_ : Nat) (b : List Int), at_ ≤ 8 * zs.length ∧ b.length ≤ count ∧ Hid (Vs w X q ai c zs at_ v b) ∧ Hid (Co zs count at_ b R)) (fun v _ => count - lenOf v)
  case atStart => exact ⟨a1, [], ha1, by simp, HU2, HCO⟩
  case round =>
    clear HU2 HCO ha1
    obtain ⟨at_, b, hat, hbl, HU, HCO⟩ := hrel
    rename World => X
    rename Value => v
    obtain ⟨ra, rc, rfl, -, -⟩ := owns_val HU.out.own
    obtain ⟨m, hm⟩ : ∃ m, b.length = m := ⟨_, rfl⟩
    have HM := Lib.hid hm
    rw [hm] at HU hbl ⊢
    clear hm
    by_cases hlt : m < count
    · have hlt' : (m : Int) < (count : Int) := by omega
      cases h1 : getN zs at_ 1 with
      | none =>
        have HG := Lib.hid (sget_none (n := 1) HU.out.rd hat (by decide) HZL.out h1)
        have HX := Lib.hid (unL_err H16.out (HRR.out.trans (HCO.out.none (by rw [HM.out]; exact hlt) (by unfold LzM.tok; rw [h1]))))
        clear h1
        go_wp2_with fail
        refine HG.out.mono ?_
        rintro e W3 ⟨rfl, hb⟩
        have HB := Lib.hid (HU.out.bel hb).below
        clear hb HG HU
        go_wp2_with fail
        go_ret2
        exact ⟨.inr ⟨HX.out, rfl⟩, HB.out⟩
      | some r =>
        obtain ⟨kd, b1⟩ := r
        have HG := Lib.hid (sget_some (n := 1) HU.out.rd HZ.out (by decide) HZL.out h1)
        have hkd : kd < 2 := (getN_le h1).2.2.2
        have hb1 := (getN_le h1).2.1
        have H1 := Lib.hid h1
        clear h1
        go_wp2_with fail
        refine HG.out.mono ?_
        rintro e W3 ⟨rfl, hrd, hf⟩
        have HU3 := Lib.hid (HU.out.get hrd hf)
        clear hrd hf HG HU
        by_cases hk1 : kd = 1
        · subst hk1
          have HTK := Lib.hid (tok_pair (count := count) (b := b) H1.out)
          rw [HM.out] at HTK
          cases h2 : getN zs b1 12 with
          | none =>
            have hpn : pairN zs b1 = none := by unfold pairN; rw [h2]
            rw [hpn] at HTK
            have HG := Lib.hid (sget_none (n := 12) HU3.out.rd hb1 (by decide) HZL.out h2)
            have HX := Lib.hid (unL_err H16.out (HRR.out.trans (HCO.out.none (by rw [HM.out]; exact hlt) HTK.out)))
            clear h2 hpn
            go_wp2_with fail
            refine HG.out.mono ?_
            rintro e W4 ⟨rfl, hb⟩
            have HU4 := Lib.hid (HU3.out.bel hb)
            clear hb HG HU3
            cases h3 : getN zs b1 8 with
            | none =>
              have HG := Lib.hid (sget_none (n := 8) HU4.out.rd hb1 (by decide) HZL.out h3)
              clear h3
              go_wp2_with fail
              refine HG.out.mono ?_
              rintro e W5 ⟨rfl, hb⟩
              have HB := Lib.hid (HU4.out.bel hb).below
              clear hb HG HU4
              go_wp2_with fail
              go_ret2
              exact ⟨.inr ⟨HX.out, rfl⟩, HB.out⟩
            | some r =>
              obtain ⟨n3, b3⟩ := r
              have HG := Lib.hid (sget_some (n := 8) HU4.out.rd HZ.out (by decide) HZL.out h3)
              clear h3
              go_wp2_with fail
              refine HG.out.mono ?_
              rintro e W5 ⟨rfl, hrd, hf⟩
              have HB := Lib.hid (HU4.out.get hrd hf).below
              clear hrd hf HG HU4
              go_wp2_with fail
              go_ret2
              exact ⟨.inr ⟨HX.out, rfl⟩, HB.out⟩
          | some r =>
            obtain ⟨d, b2⟩ := r
            have HG := Lib.hid (sget_some (n := 12) HU3.out.rd HZ.out (by decide) HZL.out h2)
            have hd : d < 4096 := (getN_le h2).2.2.2
            have hb2 := (getN_le h2).2.1
            have H2 := Lib.hid h2
            clear h2
            go_wp2_with fail
            refine HG.out.mono ?_
            rintro e W4 ⟨rfl, hrd, hf⟩
            have HU4 := Lib.hid (HU3.out.get hrd hf)
            clear hrd hf HG HU3
            cases h3 : getN zs b2 8 with
            | none =>
              have hpn : pairN zs b1 = none := by unfold pairN; rw [H2.out]; simp only; rw [h3]
              rw [hpn] at HTK
              have HG := Lib.hid (sget_none (n := 8) HU4.out.rd hb2 (by decide) HZL.out h3)
              have HX := Lib.hid (unL_err H16.out (HRR.out.trans (HCO.out.none (by rw [HM.out]; exact hlt) HTK.out)))
              clear h3 hpn
              go_wp2_with fail
              refine HG.out.mono ?_
              rintro e W5 ⟨rfl, hb⟩
              have HB := Lib.hid (HU4.out.bel hb).below
              clear hb HG HU4
              go_wp2_with fail
              go_ret2
              exact ⟨.inr ⟨HX.out, rfl⟩, HB.out⟩
            | some r =>
              obtain ⟨n3, b3⟩ := r
              have hpn : pairN zs b1 = some (d, n3, b3) := by unfold pairN; rw [H2.out]; simp only; rw [h3]
              rw [hpn] at HTK
              simp only at HTK
              have HG := Lib.hid (sget_some (n := 8) HU4.out.rd HZ.out (by decide) HZL.out h3)
              have hn3 : n3 < 256 := (getN_le h3).2.2.2
              have hb3 := (getN_le h3).2.1
              obtain ⟨dd, hdd⟩ : ∃ dd : Nat, (d : Int) + 1 = dd := ⟨d + 1, by omega⟩
              obtain ⟨nn, hnn⟩ : ∃ nn : Nat, (n3 : Int) + 3 = nn := ⟨n3 + 3, by omega⟩
              obtain ⟨mn, hmn⟩ : ∃ mn : Nat, (m : Int) + (n3 : Int) = mn := ⟨m + n3, by omega⟩
              obtain ⟨mt, hmt⟩ : ∃ mt : Nat, (mn : Int) + 3 = mt := ⟨mn + 3, by omega⟩
              rw [show d + 1 = dd by omega, show n3 + 3 = nn by omega] at HTK
              have hmt2 : mt = m + nn := by omega
              have HMT := Lib.hid hmt2
              clear h3 hpn
              go_wp2_with fail
              refine HG.out.mono ?_
              rintro e W5 ⟨rfl, hrd, hf⟩
              have HU5 := Lib.hid (HU4.out.get hrd hf)
              clear hrd hf HG HU4
              by_cases hdm : m < dd
              · have q1 : decide ((m : Int) < (dd : Int)) = true := decide_eq_true (by omega)
                have q1' : decide (m < dd) = true := decide_eq_true hdm
                have HX := Lib.hid (unL_err H16.out (HRR.out.trans (HCO.out.none (by rw [HM.out]; exact hlt) (by rw [HTK.out, if_pos (.inl hdm)]))))
                have HB := Lib.hid HU5.out.below
                clear HU5 hmt2
                go_wp2_with fail
                go_ret2
                exact ⟨.inr ⟨HX.out, rfl⟩, HB.out⟩
              · have q1 : decide ((m : Int) < (dd : Int)) = false := decide_eq_false (by omega)
                have q1' : decide (m < dd) = false := decide_eq_false hdm
                by_cases hnc : count < mt
                · have q2 : decide ((count : Int) < (mt : Int)) = true := decide_eq_true (by omega)
                  have q2' : decide (count < mt) = true := decide_eq_true hnc
                  have HX := Lib.hid (unL_err H16.out (HRR.out.trans (HCO.out.none (by rw [HM.out]; exact hlt) (by rw [HTK.out, if_pos (.inr (by omega))]))))
                  have HB := Lib.hid HU5.out.below
                  clear HU5 hmt2
                  go_wp2_with fail
                  go_ret2
                  exact ⟨.inr ⟨HX.out, rfl⟩, HB.out⟩
                · have q2 : decide ((count : Int) < (mt : Int)) = false := decide_eq_false (by omega)
                  have q2' : decide (count < mt) = false := decide_eq_false hnc
                  rw [if_neg (show ¬ (m < dd ∨ count - m < nn) by omega)] at HTK
                  have HCO2 := Lib.hid (HCO.out.some (by rw [HM.out]; exact hlt) HTK.out)
                  have hmnc : m + nn ≤ count := by omega
                  have hnn3 : 3 ≤ nn := by omega
                  have hdd1 : 1 ≤ dd := by omega
                  clear HTK HCO hmt2
                  go_wp2_with fail
                  clear q1 q1' q2 q2' hmn hmt
                  go_loopw [7, 16] (fun v i X => ∃ (j L : Nat), j ≤ nn ∧ i = .int .i64 j ∧ L = m + j ∧ Hid ((again b dd j).length = L) ∧ lenOf v = L ∧ Hid (Vs w X q ai c zs b3 v (again b dd j))) (fun _ i _ => nn - (intOf i).toNat)
                  case atStart => exact ⟨0, m, by omega, rfl, rfl, HM, rfl, HU5⟩
                  case round =>
                    clear HU5
                    obtain ⟨j, L, hj9, rfl, hL, HLL, hlv, HV⟩ := hrel
                    rename World => X
                    rename Value => v
                    obtain ⟨r, hr⟩ : ∃ r, again b dd j = r := ⟨_, rfl⟩
                    have HRS := Lib.hid hr
                    rw [hr] at HLL HV
                    obtain ⟨ra, rc, rfl, -, -⟩ := owns_val HV.out.own
                    rw [HLL.out] at HV ⊢
                    by_cases hjn : j < nn
                    · have hjn' : (j : Int) < (nn : Int) := by omega
                      have HST := Lib.hid (show again b dd (j + 1) = again b dd j ++ [(again b dd j).getD ((again b dd j).length - dd) 0] from rfl)
                      rw [HRS.out, HLL.out] at HST
                      obtain ⟨u1, hu1⟩ : ∃ u1 : Nat, (L : Int) - (d : Int) = u1 := ⟨L - d, by omega⟩
                      obtain ⟨u, hu⟩ : ∃ u : Nat, (u1 : Int) - 1 = u := ⟨u1 - 1, by omega⟩
                      have huL : u < L := by omega
                      have huL' : (u : Int) < (L : Int) := by omega
                      have HOW := Lib.hid HV.out.own
                      rw [HLL.out] at HOW
                      obtain ⟨pb, po, rfl, hpb, hcc⟩ := MaB.cell_u8 (Reads.of_owns HOW.out) HLL.out (by omega)
                      have k1 := hcc u huL
                      rw [show L - dd = u by omega] at HST
                      obtain ⟨x, hx⟩ : ∃ x, r.getD u 0 = x := ⟨_, rfl⟩
                      rw [hx] at k1 HST
                      have hsz := HV.out.below.size
                      have hLc : L ≤ 70000 := by omega
                      have HL1 := Lib.hid (show L + 1 = m + (j + 1) by omega)
                      clear hr hcc hx hL hlv
                      go_wp2_with (at_builtin; refine app_u8o rfl (.tmp 90) (.tmp 99) rfl w.heap.size (.slice (some ⟨pb, po, none⟩) L rc) L r rfl (HOW.out.alloc _) X.heap.size 1 x rfl (blk_alloc_at _ _ _ rfl) (by omega) (by simp; omega) ?_; intro v6 w6 ho6 hg6 hr6; obtain ⟨a6, c6, rfl, -, -⟩ := owns_val ho6)
                      have HV6 : Hid (Vs w w6 q ai c zs b3 (.slice a6 (L + 1) c6) (again b dd (j + 1))) := Lib.hid (by rw [HST.out]; exact HV.out.turn (by rw [List.length_append, HLL.out]; exact ho6) (Gr.of_app hg6 hr6))
                      exact ⟨⟨j + 1, L + 1, by omega, by go_num, HL1.out, Lib.hid (by rw [HST.out, List.length_append, HLL.out]; rfl), rfl, HV6⟩, by simp [intOf]; omega⟩
                    · have ejn : j = nn := by omega
                      subst ejn
                      have HL2 := Lib.hid (show L ≤ count ∧ m < L by omega)
                      rw [hr] at HCO2
                      clear hr hL hlv
                      go_wp2
                      exact ⟨⟨b3, r, hb3, by rw [HLL.out]; exact HL2.out.1, by rw [HLL.out] at *; exact HV, HCO2⟩, by have := HL2.out; simp only [lenOf]; omega⟩
        · have hk0 : kd = 0 := by omega
          subst hk0
          have HTK := Lib.hid (tok_byte (count := count) (b := b) H1.out hk1)
          cases h2 : getN zs b1 8 with
          | none =>
            rw [h2] at HTK
            have HG := Lib.hid (sget_none (n := 8) HU3.out.rd hb1 (by decide) HZL.out h2)
            have HX := Lib.hid (unL_err H16.out (HRR.out.trans (HCO.out.none (by rw [HM.out]; exact hlt) HTK.out)))
            clear h2
            go_wp2_with fail
            refine HG.out.mono ?_
            rintro e W4 ⟨rfl, hb⟩
            have HB := Lib.hid (HU3.out.bel hb).below
            clear hb HG HU3
            go_wp2_with fail
            go_ret2
            exact ⟨.inr ⟨HX.out, rfl⟩, HB.out⟩
          | some r =>
            obtain ⟨ch, b2⟩ := r
            rw [h2] at HTK
            simp only at HTK
            have HG := Lib.hid (sget_some (n := 8) HU3.out.rd HZ.out (by decide) HZL.out h2)
            have hch : ch < 256 := (getN_le h2).2.2.2
            have hb2 := (getN_le h2).2.1
            have HCO2 := Lib.hid (HCO.out.some (by rw [HM.out]; exact hlt) HTK.out)
            clear h2 HTK HCO
            go_wp2_with fail
            refine HG.out.mono ?_
            rintro e W4 ⟨rfl, hrd, hf⟩
            have HU4 := Lib.hid (HU3.out.get hrd hf)
            have HO4 := Lib.hid HU4.out.own
            rw [HM.out] at HO4
            have hsz := HU4.out.below.size
            clear hrd hf HG HU3
            go_wp2_with (at_builtin; refine app_u8o rfl (.tmp 47) (.tmp 50) rfl w.heap.size (.slice ra m rc) m b rfl (HO4.out.alloc _) W4.heap.size 1 ch rfl (blk_alloc_at _ _ _ rfl) (by omega) (by simp; omega) ?_; intro v5 w5 ho5 hg5 hr5; obtain ⟨a5, c5, rfl, -, -⟩ := owns_val ho5)
            have HU5 : Hid (Vs w w5 q ai c zs b2 (.slice a5 (m + 1) c5) (b ++ [(ch : Int)])) := Lib.hid (HU4.out.turn (by rw [List.length_append, List.length_singleton, HM.out]; exact ho5) (Gr.of_app hg5 hr5))
            exact ⟨⟨b2, _, hb2, by rw [List.length_append, List.length_singleton, HM.out]; omega, HU5, HCO2⟩, by simp only [lenOf]; omega⟩
    · obtain rfl : m = count := by omega
      have HR2 : Hid (unF zs m m a1 [] = some (at_, b)) := Lib.hid (by
        obtain ⟨fu, h1, h2⟩ := HCO.out
        rw [HRR.out, ← h2]
        exact unF_end (by rw [HM.out]; exact Nat.le_refl _) fu)
      have HRT := Lib.hid (rrest_any q ai c zs at_ X HU.out.rd HZ.out hat HZL.out)
      clear HCO
      go_wp2_with fail
      refine HRT.out.mono ?_
      rintro e W8 ⟨⟨r, rfl, hno⟩, hb8⟩
      have HU8 := Lib.hid (HU.out.bel hb8)
      rcases hno with ⟨hno, rfl⟩ | ⟨hno, rfl⟩
      · have HX := Lib.hid (unL_ok H16.out HR2.out hno)
        clear hno hb8 HRT HU
        go_wp2_with fail
        go_ret2
        exact ⟨.inl ⟨b, _, HX.out, rfl, HU8.out.own⟩, HU8.out.below⟩
      · have HX := Lib.hid (unL_rest H16.out HR2.out hno)
        have HB := Lib.hid HU8.out.below
        clear hno hb8 HRT HU HU8
        go_wp2_with fail
        go_ret2
        exact ⟨.inr ⟨HX.out, rfl⟩, HB.out⟩
end Go.Proofs.Ytminaamfelcajaa.LzJ

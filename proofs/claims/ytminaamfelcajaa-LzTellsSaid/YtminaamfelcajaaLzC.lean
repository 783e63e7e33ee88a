/-
  Unpack.
-/
import Derived.Test.YtminaamfelcajaaLzB
namespace Go.Proofs.Ytminaamfelcajaa.LzC
open Go.RowKit Rd Go.Proofs.Ytminaamfelcajaa.Row OctA MaA MaB BitA BitB BitC BitD LzM LzA LzB
set_option linter.unusedVariables false
set_option linter.unusedSimpArgs false
set_option maxRecDepth 10000
/-- a reader beside a row of one's own -/
structure Us (w X : World) (q : Nat) (rv : Value) (zs : List Int) (at_ : Nat) (v : Value) (b : List Int) : Prop where
  rd : RSt X q rv zs at_
  own : X.ownsRow w.heap.size 5 1 v b.length (us b)
  f1 : v.ownBlock ≠ some q
  f2 : ∀ k, v.ownBlock = some k → rv.ownBlock ≠ some k
  below : Below w.heap.size w X
  lo : w.heap.size ≤ q
theorem Us.get {w X Y : World} {q : Nat} {rv : Value} {zs : List Int} {at_ a' : Nat} {v : Value} {b : List Int} (h : Us w X q rv zs at_ v b) (hr : RSt Y q rv zs a') (hf : FrQ X Y q) : Us w Y q rv zs a' v b :=
  ⟨hr, keep_own h.own fun k hk => hf.block k (h.own.lt k hk).2 (fun e => h.f1 (e ▸ hk)) (by simp [Value.ownBlock]), h.f1, h.f2, h.below.trans ((hf.below (Nat.le_of_lt (blk_lt h.rd.blk)) (fun k hk => by cases hk)).mono h.lo), h.lo⟩
theorem Us.row {w X Y : World} {q : Nat} {rv : Value} {zs : List Int} {at_ : Nat} {v v' : Value} {b b' : List Int} (h : Us w X q rv zs at_ v b) (ho : Y.ownsRow w.heap.size 5 1 v' b'.length (us b')) (hg : Gr X Y v v') : Us w Y q rv zs at_ v' b' := by
  have hq := blk_lt h.rd.blk
  refine ⟨⟨(hg.block q hq fun e => h.f1 e.symm).trans h.rd.blk, keep_own h.rd.row fun k hk => hg.block k (h.rd.row.lt k hk).2 fun e => h.f2 k e.symm hk, h.rd.far⟩, ho, fun e => ?_, fun k hk e => ?_, h.below.trans (hg.below (fun k hk => (h.own.lt k hk).1) h.below.size), h.lo⟩
  · rcases hg.row with e2 | ⟨g, e2, h3⟩
    · exact h.f1 (e2 ▸ e)
    · rw [e2] at e; cases e; omega
  · rcases hg.row with e2 | ⟨g, e2, h3⟩
    · exact h.f2 k (e2 ▸ hk) e
    · rw [e2] at hk; cases hk
      have := (h.rd.row.lt k e).2
      omega
theorem Us.bel {w X Y : World} {q : Nat} {rv : Value} {zs : List Int} {at_ : Nat} {v : Value} {b : List Int} (h : Us w X q rv zs at_ v b) (hb : Below X.heap.size X Y) : Us w Y q rv zs at_ v b :=
  ⟨h.rd.below hb, keep_own h.own fun k hk => hb.block k (h.own.lt k hk).2, h.f1, h.f2, h.below.trans (hb.mono h.below.size), h.lo⟩
def Ur (w w' : World) (zs : List Int) (e : Ending) : Prop :=
  (∃ b v, unL zs = some b ∧ e = .returned (.tuple #[v, .int .i64 0]) ∧ w'.ownsRow w.heap.size 5 1 v b.length (us b)) ∨ (unL zs = none ∧ e = .returned (.tuple #[.slice none 0 0, .int .i64 3]))
theorem unL_short {zs : List Int} (h : getN zs 0 16 = none) : unL zs = none := by unfold unL; rw [h]
theorem unL_err {zs : List Int} {count a : Nat} (h : getN zs 0 16 = some (count, a)) (h2 : unF zs count count a [] = none) : unL zs = none := by unfold unL; rw [h]; simp only; rw [h2]
theorem unL_rest {zs : List Int} {count a a' : Nat} {b : List Int} (h : getN zs 0 16 = some (count, a)) (h2 : unF zs count count a [] = some (a', b)) (hn : ¬ Noughts zs a') : unL zs = none := by unfold unL; rw [h]; simp only; rw [h2]; simp only; rw [if_neg hn]
theorem unL_ok {zs : List Int} {count a a' : Nat} {b : List Int} (h : getN zs 0 16 = some (count, a)) (h2 : unF zs count count a [] = some (a', b)) (hn : Noughts zs a') : unL zs = some b := by unfold unL; rw [h]; simp only; rw [h2]; simp only; rw [if_pos hn]
theorem unF_end {zs : List Int} {count a : Nat} {b : List Int} (h : count ≤ b.length) : ∀ f, unF zs count f a b = some (a, b)
  | 0 => rfl
  | f + 1 => if_neg (by omega)
/-- what is still to come of it -/
def Co (zs : List Int) (count at_ : Nat) (b : List Int) (R : Option (Nat × List Int)) : Prop := ∃ fu, count - b.length ≤ fu ∧ unF zs count fu at_ b = R
theorem Co.none {zs : List Int} {count at_ : Nat} {b : List Int} {R : Option (Nat × List Int)} (h : Co zs count at_ b R) (hb : b.length < count) (ht : tok zs count at_ b = none) : R = none := by
  obtain ⟨fu, h1, h2⟩ := h
  obtain ⟨f', rfl⟩ : ∃ f', fu = f' + 1 := ⟨fu - 1, by omega⟩
  rw [← h2]
  show (if b.length < count then _ else _) = _
  rw [if_pos hb, ht]
theorem Co.some {zs : List Int} {count at_ a' : Nat} {b b' : List Int} {R : Option (Nat × List Int)} (h : Co zs count at_ b R) (hb : b.length < count) (ht : tok zs count at_ b = some (a', b')) : Co zs count a' b' R := by
  obtain ⟨fu, h1, h2⟩ := h
  obtain ⟨f', rfl⟩ : ∃ f', fu = f' + 1 := ⟨fu - 1, by omega⟩
  have h3 := tok_le ht hb
  refine ⟨f', by omega, ?_⟩
  rw [← h2]
  show _ = (if b.length < count then _ else _)
  rw [if_pos hb, ht]
def lenOf : Value → Nat
  | .slice _ n _ => n
  | _ => 0
theorem tok_pair {zs : List Int} {count at_ a1 : Nat} {b : List Int} (h1 : getN zs at_ 1 = some (1, a1)) : tok zs count at_ b = match pairN zs a1 with | none => none | some (d, n, a3) => if b.length < d + 1 ∨ count - b.length < n + 3 then none else some (a3, again b (d + 1) (n + 3)) := by
  unfold LzM.tok pairN
  rw [h1]
  simp only
  rw [if_pos trivial]
  cases getN zs a1 12 with
  | none => rfl
  | some r =>
    obtain ⟨d, a2⟩ := r
    simp only
    cases getN zs a2 8 with
    | none => rfl
    | some r => rfl
theorem tok_byte {zs : List Int} {count at_ kd a1 : Nat} {b : List Int} (h1 : getN zs at_ 1 = some (kd, a1)) (hk : kd ≠ 1) : tok zs count at_ b = match getN zs a1 8 with | none => none | some (c, a2) => some (a2, b ++ [(c : Int)]) := by
  unfold LzM.tok
  rw [h1]
  simp only
  rw [if_neg hk]
  cases getN zs a1 8 with
  | none => rfl
  | some r => rfl
theorem pairN_le {zs : List Int} {a d n a3 : Nat} (h : pairN zs a = some (d, n, a3)) : d < 4096 ∧ n < 256 ∧ a3 ≤ 8 * zs.length := by
  unfold pairN at h
  cases h1 : getN zs a 12 with
  | none => rw [h1] at h; cases h
  | some r =>
    obtain ⟨d', a2⟩ := r
    rw [h1] at h
    simp only at h
    cases h2 : getN zs a2 8 with
    | none => rw [h2] at h; cases h
    | some r =>
      obtain ⟨n', a3'⟩ := r
      rw [h2] at h
      cases h
      exact ⟨(getN_le h1).2.2.2, (getN_le h2).2.2.2, (getN_le h2).2.1⟩
set_option maxHeartbeats 8000000 in
theorem unpack_any (ai : Option Addr) (n c : Nat) (zs : List Int) (w : World) (hr : Reads w 1 ai n (us zs)) (hz : ∀ z ∈ zs, 0 ≤ z ∧ z ≤ 255) (hn : n ≤ 100000) :
    Calls Try.prog 10 #[.slice ai n c] w fun e w' => Ur w w' zs e ∧ Below w.heap.size w w' := by
  have hzn : zs.length = n := by have := hr.1; simpa [us] using this
  have hzl : zs.length ≤ 1000000 := by omega
  have HZ := Lib.hid hz
  have HZL := Lib.hid hzl
  have HRD := Lib.hid (read_any ai n c zs w hr (by omega))
  clear hr hz hzn hzl
  go_enter Try.func10, Try.ntmps10
  go_wp2_with fail
  go_step3
  go_wp2_with fail
  refine HRD.out.mono ?_
  rintro e W1 ⟨q, rv, rfl, hq, hrd, hrv, hb1⟩
  have HU1 : Hid (Us w W1 q rv zs 0 (.slice none 0 0) []) := Lib.hid ⟨hrd, World.ownsRow_nil _ _ _ _, by simp [Value.ownBlock], fun k hk => (by cases hk), hb1, hq⟩
  clear hq hrd hrv hb1 HRD
  cases h16 : getN zs 0 16 with
  | none =>
    have HG := Lib.hid (get_none (n := 16) HU1.out.rd (Nat.zero_le _) (by decide) HZL.out h16)
    have HX := Lib.hid (unL_short h16)
    go_wp2_with fail
    refine HG.out.mono ?_
    rintro e W2 ⟨rfl, hb⟩
    have HB := Lib.hid (HU1.out.bel hb).below
    clear hb HG HU1 h16
    go_wp2_with fail
    (try rw [Exit.noGoto_ret])
    go_ret2
    exact ⟨.inr ⟨HX.out, rfl⟩, HB.out⟩
  | some r =>
  obtain ⟨count, a1⟩ := r
  have HG := Lib.hid (get_some (n := 16) HU1.out.rd HZ.out (by decide) HZL.out h16)
  have H16 := Lib.hid h16
  have hcount : count < 65536 := (getN_le h16).2.2.2
  have ha1 := (getN_le h16).2.1
  clear h16
  go_wp2_with fail
  refine HG.out.mono ?_
  rintro e W2 ⟨rfl, hrd, hf⟩
  have HU2 := Lib.hid (HU1.out.get hrd hf)
  obtain ⟨R, hR⟩ : ∃ R, unF zs count count a1 [] = R := ⟨_, rfl⟩
  have HRR := Lib.hid hR
  have HCO : Hid (Co zs count a1 [] R) := Lib.hid ⟨count, by simp, hR⟩
  clear hrd hf HG HU1 hR
  go_wp2_with fail
  go_step3
  go_wp2_with fail
  go_loopw [7] (fun v X => ∃ (at_ : Nat) (b : List Int), at_ ≤ 8 * zs.length ∧ b.length ≤ count ∧ Hid (Us w X q rv zs at_ v b) ∧ Hid (Co zs count at_ b R)) (fun v _ => count - lenOf v)
  case atStart => exact ⟨a1, [], ha1, by simp, HU2, HCO⟩
  case round =>
    clear HU2 HCO ha1
    obtain ⟨at_, b, hat, hbl, HU, HCO⟩ := hrel
    rename World => X
    rename Value => v
    obtain ⟨ra, rc, rfl, -, -⟩ := owns_val HU.out.own
    obtain ⟨m, hm⟩ : ∃ m, b.length = m := ⟨_, rfl⟩
    have HM := Lib.hid hm
    rw [hm] at HU hbl ⊢
    clear hm
    by_cases hlt : m < count
    · have hlt' : (m : Int) < (count : Int) := by omega
      cases h1 : getN zs at_ 1 with
      | none =>
        have HG := Lib.hid (get_none (n := 1) HU.out.rd hat (by decide) HZL.out h1)
        have HX := Lib.hid (unL_err H16.out (HRR.out.trans (HCO.out.none (by rw [HM.out]; exact hlt) (by unfold LzM.tok; rw [h1]))))
        clear h1
        go_wp2_with fail
        refine HG.out.mono ?_
        rintro e W3 ⟨rfl, hb⟩
        have HB := Lib.hid (HU.out.bel hb).below
        clear hb HG HU
        go_wp2_with fail
        (try rw [Exit.noGoto_ret])
        go_ret2
        exact ⟨.inr ⟨HX.out, rfl⟩, HB.out⟩
      | some r =>
        obtain ⟨kd, b1⟩ := r
        have HG := Lib.hid (get_some (n := 1) HU.out.rd HZ.out (by decide) HZL.out h1)
        have hkd : kd < 2 := (getN_le h1).2.2.2
        have hb1 := (getN_le h1).2.1
        have H1 := Lib.hid h1
        clear h1
        go_wp2_with fail
        refine HG.out.mono ?_
        rintro e W3 ⟨rfl, hrd, hf⟩
        have HU3 := Lib.hid (HU.out.get hrd hf)
        clear hrd hf HG HU
        by_cases hk1 : kd = 1
        · subst hk1
          have HTK := Lib.hid (tok_pair (count := count) (b := b) H1.out)
          rw [HM.out] at HTK
          cases h2 : pairN zs b1 with
          | none =>
            rw [h2] at HTK
            have HG := Lib.hid (pair_none HU3.out.rd hb1 HZ.out HZL.out h2 (Nat.le_of_lt (blk_lt HU3.out.rd.blk)))
            have HX := Lib.hid (unL_err H16.out (HRR.out.trans (HCO.out.none (by rw [HM.out]; exact hlt) HTK.out)))
            clear h2
            go_wp2_with fail
            refine HG.out.mono ?_
            rintro e W4 ⟨rfl, hb⟩
            have HB := Lib.hid (HU3.out.below.trans (hb.mono HU3.out.lo))
            clear hb HG HU3
            go_wp2_with fail
            (try rw [Exit.noGoto_ret])
            go_ret2
            exact ⟨.inr ⟨HX.out, rfl⟩, HB.out⟩
          | some r =>
            obtain ⟨d, n3, b3⟩ := r
            rw [h2] at HTK
            simp only at HTK
            have HG := pair_some HU3.out.rd HZ.out HZL.out h2
            have hpl := pairN_le h2
            obtain ⟨dd, hdd⟩ : ∃ dd, d + 1 = dd := ⟨_, rfl⟩
            obtain ⟨nn, hnn⟩ : ∃ nn, n3 + 3 = nn := ⟨_, rfl⟩
            rw [hdd, hnn] at HG HTK
            have HG2 := Lib.hid HG
            have hdd1 : 1 ≤ dd := by omega
            have hdd2 : dd ≤ 4096 := by omega
            have hnn2 : nn ≤ 258 := by omega
            have hnn3 : 3 ≤ nn := by omega
            have hb3 := hpl.2.2
            obtain ⟨cm, hcm⟩ : ∃ cm : Nat, (count : Int) - (m : Int) = cm := ⟨count - m, by omega⟩
            rw [show count - m = cm by omega] at HTK
            clear HG h2 hpl hdd hnn
            go_wp2_with fail
            refine HG2.out.mono ?_
            rintro e W4 ⟨rfl, hrd, hf⟩
            have HU4 := Lib.hid (HU3.out.get hrd hf)
            clear hrd hf HG2 HU3
            by_cases hdm : m < dd
            · have q1 : decide ((m : Int) < (dd : Int)) = true := decide_eq_true (by omega)
              have q1' : decide (m < dd) = true := decide_eq_true hdm
              have HX := Lib.hid (unL_err H16.out (HRR.out.trans (HCO.out.none (by rw [HM.out]; exact hlt) (by rw [HTK.out, if_pos (.inl hdm)]))))
              have HB := Lib.hid HU4.out.below
              clear HU4 hcm
              go_wp2_with fail
              (try rw [Exit.noGoto_ret])
              go_ret2
              exact ⟨.inr ⟨HX.out, rfl⟩, HB.out⟩
            · have q1 : decide ((m : Int) < (dd : Int)) = false := decide_eq_false (by omega)
              have q1' : decide (m < dd) = false := decide_eq_false hdm
              by_cases hnc : cm < nn
              · have q2 : decide ((cm : Int) < (nn : Int)) = true := decide_eq_true (by omega)
                have q2' : decide (cm < nn) = true := decide_eq_true hnc
                have HX := Lib.hid (unL_err H16.out (HRR.out.trans (HCO.out.none (by rw [HM.out]; exact hlt) (by rw [HTK.out, if_pos (.inr hnc)]))))
                have HB := Lib.hid HU4.out.below
                clear HU4
                go_wp2_with fail
                (try rw [Exit.noGoto_ret])
                go_ret2
                exact ⟨.inr ⟨HX.out, rfl⟩, HB.out⟩
              · have q2 : decide ((cm : Int) < (nn : Int)) = false := decide_eq_false (by omega)
                have q2' : decide (cm < nn) = false := decide_eq_false hnc
                rw [if_neg (show ¬ (m < dd ∨ cm < nn) by omega)] at HTK
                have HAG := Lib.hid (again_any w.heap.size (.slice ra m rc) b dd nn W4 (by rw [HM.out]; have h9 := HU4.out.own; rw [HM.out] at h9; exact h9) HU4.out.below.size hdd1 (by rw [HM.out]; omega) (by rw [HM.out]; omega))
                have HCO2 := Lib.hid (HCO.out.some (by rw [HM.out]; exact hlt) HTK.out)
                have HLN := Lib.hid (again_len b dd nn)
                have hcmm : cm + m = count := by omega
                clear HTK HCO
                go_wp2_with fail
                refine HAG.out.mono ?_
                rintro e W5 ⟨v5, rfl, ho5, hg5⟩
                have HU5 := Lib.hid (HU4.out.row ho5 hg5)
                obtain ⟨a5, c5, rfl, -, -⟩ := owns_val ho5
                have hl5 : (again b dd nn).length = m + nn := by rw [HLN.out, HM.out]
                rw [hl5] at HU5 ⊢
                clear ho5 hg5 HAG HU4 hcm
                have hcn : nn ≤ cm := by omega
                go_wp2
                have hle5 : m + nn ≤ count := by omega
                exact ⟨⟨b3, _, hb3, by rw [hl5]; exact hle5, HU5, HCO2⟩, by simp only [lenOf]; omega⟩
        · have hk0 : kd = 0 := by omega
          subst hk0
          have HTK := Lib.hid (tok_byte (count := count) (b := b) H1.out hk1)
          cases h2 : getN zs b1 8 with
          | none =>
            rw [h2] at HTK
            have HG := Lib.hid (get_none (n := 8) HU3.out.rd hb1 (by decide) HZL.out h2)
            have HX := Lib.hid (unL_err H16.out (HRR.out.trans (HCO.out.none (by rw [HM.out]; exact hlt) HTK.out)))
            clear h2
            go_wp2_with fail
            refine HG.out.mono ?_
            rintro e W4 ⟨rfl, hb⟩
            have HB := Lib.hid (HU3.out.bel hb).below
            clear hb HG HU3
            go_wp2_with fail
            (try rw [Exit.noGoto_ret])
            go_ret2
            exact ⟨.inr ⟨HX.out, rfl⟩, HB.out⟩
          | some r =>
            obtain ⟨ch, b2⟩ := r
            rw [h2] at HTK
            simp only at HTK
            have HG := Lib.hid (get_some (n := 8) HU3.out.rd HZ.out (by decide) HZL.out h2)
            have hch : ch < 256 := (getN_le h2).2.2.2
            have hb2 := (getN_le h2).2.1
            have HCO2 := Lib.hid (HCO.out.some (by rw [HM.out]; exact hlt) HTK.out)
            clear h2 HTK HCO
            go_wp2_with fail
            refine HG.out.mono ?_
            rintro e W4 ⟨rfl, hrd, hf⟩
            have HU4 := Lib.hid (HU3.out.get hrd hf)
            have HO4 := Lib.hid HU4.out.own
            rw [HM.out] at HO4
            have hsz := HU4.out.below.size
            clear hrd hf HG HU3
            go_wp2_with (at_builtin; refine app_u8o rfl (.tmp 69) (.tmp 72) rfl w.heap.size (.slice ra m rc) m b rfl (HO4.out.alloc _) W4.heap.size 1 ch rfl (blk_alloc_at _ _ _ rfl) (by omega) (by simp; omega) ?_; intro v5 w5 ho5 hg5 hr5; obtain ⟨a5, c5, rfl, -, -⟩ := owns_val ho5)
            have HU5 : Hid (Us w w5 q rv zs b2 (.slice a5 (m + 1) c5) (b ++ [(ch : Int)])) := Lib.hid (HU4.out.row (by rw [List.length_append, List.length_singleton, HM.out]; exact ho5) (Gr.of_app hg5 hr5))
            exact ⟨⟨b2, _, hb2, by rw [List.length_append, List.length_singleton, HM.out]; omega, HU5, HCO2⟩, by simp only [lenOf]; omega⟩
    · obtain rfl : m = count := by omega
      have HR2 : Hid (unF zs m m a1 [] = some (at_, b)) := Lib.hid (by
        obtain ⟨fu, h1, h2⟩ := HCO.out
        rw [HRR.out, ← h2]
        exact unF_end (by rw [HM.out]; exact Nat.le_refl _) fu)
      have HRT := Lib.hid (rest_any q rv zs at_ X HU.out.rd HZ.out hat HZL.out)
      clear HCO
      go_wp2_with fail
      refine HRT.out.mono ?_
      rintro e W8 ⟨⟨r, rfl, hno⟩, hb8⟩
      have HU8 := Lib.hid (HU.out.bel hb8)
      rcases hno with ⟨hno, rfl⟩ | ⟨hno, rfl⟩
      · have HX := Lib.hid (unL_ok H16.out HR2.out hno)
        clear hno hb8 HRT HU
        go_wp2_with fail
        (try rw [Exit.noGoto_ret])
        go_ret2
        exact ⟨.inl ⟨b, _, HX.out, rfl, HU8.out.own⟩, HU8.out.below⟩
      · have HX := Lib.hid (unL_rest H16.out HR2.out hno)
        have HB := Lib.hid HU8.out.below
        clear hno hb8 HRT HU HU8
        go_wp2_with fail
        (try rw [Exit.noGoto_ret])
        go_ret2
        exact ⟨.inr ⟨HX.out, rfl⟩, HB.out⟩
end Go.Proofs.Ytminaamfelcajaa.LzC

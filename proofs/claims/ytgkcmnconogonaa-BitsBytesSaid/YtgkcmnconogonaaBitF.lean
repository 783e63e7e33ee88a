/-
  The law of package bits: eight at a time are the bytes.
-/
import Derived.Test.YtgkcmnconogonaaBitE
import Derived.Test.YtgkcmnconogonaaRds
import Derived.Test.YtgkcmnconogonaaAlike
namespace Go.Proofs.Ytgkcmnconogonaa.BitF
open Go.RowKit Rd Go.Proofs.Ytgkcmnconogonaa.Row OctA BitA BitB BitC BitD BitE Alk
open Go.Proofs.Ytgkcmnconogonaa.Pred (Is is_stab Stab)
open Go.Proofs.Ytgkcmnconogonaa.Rds (Rds rds_stab reads_ext)
set_option linter.unusedVariables false
set_option linter.unusedSimpArgs false
set_option maxRecDepth 100000
/-- the bits of bytes -/
def bitsOf (zs : List Int) : List Nat := zs.flatMap (fun z => putL z.toNat 8)
theorem bitsOf_append (a b : List Int) : bitsOf (a ++ b) = bitsOf a ++ bitsOf b := by simp [bitsOf]
theorem bitsOf_length (zs : List Int) : (bitsOf zs).length = 8 * zs.length := by
  induction zs with
  | nil => rfl
  | cons z zs ih =>
    have : bitsOf (z :: zs) = putL z.toNat 8 ++ bitsOf zs := by simp [bitsOf]
    rw [this, List.length_append, putL_length, ih, List.length_cons]
    omega
theorem getD_app {l m : List Nat} {i : Nat} (h : i < l.length) : (l ++ m).getD i 0 = l.getD i 0 := by
  simp only [List.getD_eq_getElem?_getD]
  rw [List.getElem?_append_left h]
theorem getD_app2 {l m : List Nat} {n i : Nat} (h : l.length = n) : (l ++ m).getD (n + i) 0 = m.getD i 0 := by
  subst h
  simp only [List.getD_eq_getElem?_getD]
  rw [List.getElem?_append_right (by omega), Nat.add_sub_cancel_left]
theorem byteAt_app {l m : List Nat} {i : Nat} (h : 8 * i + 7 < l.length) : byteAt (l ++ m) i = byteAt l i := by
  unfold byteAt
  rw [getD_app (by omega), getD_app (by omega), getD_app (by omega), getD_app (by omega), getD_app (by omega), getD_app (by omega), getD_app (by omega), getD_app (by omega)]
theorem pack_push {l : List Nat} {z i : Nat} (h : l.length = 8 * i) (hz : z ≤ 255) : pack (l ++ putL z 8) = pack l ++ [(z : Int)] := by
  have hb : byteAt (l ++ putL z 8) i = z := by
    unfold byteAt
    have e : ∀ j, (l ++ putL z 8).getD (8 * i + j) 0 = (putL z 8).getD j 0 := fun j => getD_app2 h
    rw [show (l ++ putL z 8).getD (8 * i) 0 = (putL z 8).getD 0 0 from e 0, e 1, e 2, e 3, e 4, e 5, e 6, e 7]
    simp [putL, List.getD, List.range, List.range.loop]
    omega
  unfold pack
  rw [List.length_append, putL_length, h, show (8 * i + 8 + 7) / 8 = i + 1 by omega, show (8 * i + 7) / 8 = i by omega, List.range_succ, List.map_append]
  congr 1
  · refine List.map_congr_left fun j hj => ?_
    have := List.mem_range.1 hj
    rw [byteAt_app (by omega)]
  · simp [hb]
theorem pack_bitsOf : ∀ (zs : List Int), (∀ z ∈ zs, 0 ≤ z ∧ z ≤ 255) → pack (bitsOf zs) = zs := by
  intro zs
  induction hn : zs.length generalizing zs with
  | zero => intro _; rw [List.length_eq_zero_iff.1 hn]; rfl
  | succ n ih =>
    intro hz
    obtain ⟨ys, z, rfl⟩ : ∃ ys z, zs = ys ++ [z] := ⟨zs.dropLast, zs.getLast (by intro h; subst h; cases hn), (List.dropLast_concat_getLast _).symm⟩
    have h1 := hz z (by simp)
    have e : bitsOf [z] = putL z.toNat 8 := by simp [bitsOf]
    rw [bitsOf_append, e, pack_push (bitsOf_length ys) (by omega), ih ys (by simpa using hn) (fun x hx => hz x (by simp [hx]))]
    rw [Int.toNat_of_nonneg h1.1]
theorem bitsOf_take {zs : List Int} {k : Nat} (h : k < zs.length) : bitsOf (zs.take (k + 1)) = bitsOf (zs.take k) ++ putL (zs.getD k 0).toNat 8 := by
  rw [List.take_add_one, List.getElem?_eq_getElem h, bitsOf_append]
  congr 1
  simp [bitsOf, List.getD, h]
/-- two writers beside each other -/
structure Two (w : World) (p1 : Nat) (v1 : Value) (l1 : List Nat) (p2 : Nat) (v2 : Value) (l2 : List Nat) : Prop where
  a : Wr w p1 v1 l1
  b : Wr w p2 v2 l2
  ne : p1 ≠ p2
  a2 : v1.ownBlock ≠ some p2
  b1 : v2.ownBlock ≠ some p1
  ab : ∀ k, v1.ownBlock = some k → v2.ownBlock ≠ some k
theorem Two.swap {w : World} {p1 p2 : Nat} {v1 v2 : Value} {l1 l2 : List Nat} (h : Two w p1 v1 l1 p2 v2 l2) : Two w p2 v2 l2 p1 v1 l1 :=
  ⟨h.b, h.a, h.ne.symm, h.b1, h.a2, fun k hk hk2 => h.ab k hk2 hk⟩
theorem Two.left {w w' : World} {p1 p2 : Nat} {v1 v2 v1' : Value} {l1 l2 l1' : List Nat} (h : Two w p1 v1 l1 p2 v2 l2) (hW : Wr w' p1 v1' l1') (hF : Fr w w' p1 v1 v1') : Two w' p1 v1' l1' p2 v2 l2 := by
  refine ⟨hW, Wr.keep h.b (hF.block _ (Wr.lt h.b) h.ne.symm (fun e => h.a2 e.symm)) (fun k hk => hF.block k (Wr.own h.b k hk).2 (fun e => h.b1 (by rw [hk, e])) (fun e => h.ab k e.symm hk)), h.ne, ?_, h.b1, ?_⟩
  · rcases hF.row with e | ⟨g, e, hg⟩
    · rw [e]; exact h.a2
    · rw [e]; intro e2; cases e2; have := Wr.lt h.b; omega
  · intro k hk hk2
    rcases hF.row with e | ⟨g, e, hg⟩
    · rw [e] at hk; exact h.ab k hk hk2
    · rw [e] at hk; cases hk; have := (Wr.own h.b _ hk2).2; omega
theorem Two.right {w w' : World} {p1 p2 : Nat} {v1 v2 v2' : Value} {l1 l2 l2' : List Nat} (h : Two w p1 v1 l1 p2 v2 l2) (hW : Wr w' p2 v2' l2') (hF : Fr w w' p2 v2 v2') : Two w' p1 v1 l1 p2 v2' l2' := (h.swap.left hW hF).swap
theorem Two.below {w w' : World} {p1 p2 : Nat} {v1 v2 : Value} {l1 l2 : List Nat} (h : Two w p1 v1 l1 p2 v2 l2) (hb : Below w.heap.size w w') : Two w' p1 v1 l1 p2 v2 l2 :=
  ⟨Wr.below h.a hb, Wr.below h.b hb, h.ne, h.a2, h.b1, h.ab⟩
theorem two_new (w : World) : Two ((w.alloc (.cells #[.slice none 0 0, .int .i64 0] 28)).alloc (.cells #[.slice none 0 0, .int .i64 0] 28)) w.heap.size (.slice none 0 0) [] (w.heap.size + 1) (.slice none 0 0) [] := by
  have h2 := wr_new (w.alloc (.cells #[.slice none 0 0, .int .i64 0] 28))
  rw [World.size_alloc] at h2
  exact ⟨Wr.below (wr_new w) ((Below.refl _ _).alloc (Nat.le_refl _) _), h2, by omega, by simp [Value.ownBlock], by simp [Value.ownBlock], fun k hk => by simp [Value.ownBlock] at hk⟩
set_option maxHeartbeats 4000000 in
theorem BitsBytes_walk (a0 : Option Addr) (len0 cap0 : Nat) (x0 : List (List Value)) (a1 : Int) (w : World) (w0 : Flat.IsRows [some .u8] w a0 len0 cap0 x0) (w1 : (Lit.int .i64 a1).wf = true) :
    Calls Try.prog 5 #[.slice a0 len0 cap0, .int .i64 a1] w fun e w' => e = .returned (.bool true) ∧ Below w.heap.size w w' := by
  obtain ⟨zs, hzl, hz, hR, hlc, hcm, -⟩ := Bytes.rows_bytes w0
  clear w0
  by_cases hbig : 100 < len0
  · have hbig2 : (100 : Int) < (len0 : Int) := by omega
    clear hzl
    go_enter Try.func5, Try.ntmps5
    go_wp2_with (go_at_call 6; refine (awake_any _).mono ?_; rintro e w3 ⟨rfl, hb⟩)
    go_ret
    exact ⟨rfl, hb⟩
  have hsm : ¬ (100 : Int) < (len0 : Int) := by omega
  have hwf := bounds_i64 w1
  subst hzl
  have HZ := Lib.hid hz
  have HRD := Lib.hid hR
  clear hz hR
  go_enter Try.func5, Try.ntmps5
  go_wp2_with fail
  go_loopw [7] (fun i wr => ∃ k : Nat, k ≤ zs.length ∧ i = .int .i64 k ∧ ∃ v1 v2, Hid (Two wr w.heap.size v1 (bitsOf (zs.take k)) (w.heap.size + 1) v2 (bitsOf (zs.take k))) ∧ Below w.heap.size w wr) (fun i _ => zs.length - (intOf i).toNat)
  case atStart => exact ⟨0, Nat.zero_le _, rfl, _, _, two_new w, by repeat' (first | (with_reducible exact Below.refl _ _) | (with_reducible refine Rd.below_step ?_ (by assumption)) | (with_reducible refine Rd.below_alloc ?_ _) | (with_reducible refine Rd.below_drewN ?_ _) | (with_reducible refine Below.drew ?_) | (with_reducible refine Below.setCell ?_ ?_ _) | (with_reducible refine Rd.below_setRow ?_ ?_ _) | go_size | (simp only [World.size_alloc]; omega) | omega)⟩
  case round =>
    obtain ⟨k, hk, rfl, v1, v2, HT, hb⟩ := hrel
    by_cases hlt : k < zs.length
    · have hlt' : (k : Int) < (zs.length : Int) := by omega
      obtain ⟨ab, ao, rfl, hab, hac⟩ : ∃ ab ao, a0 = some ⟨ab, ao, none⟩ ∧ ab < w.heap.size ∧ ∀ i, i < zs.length → w.cell? ⟨ab, ao + i, none⟩ = (u8s zs)[i]? := by
        rcases HRD.out.2 with h0 | ⟨ab, ao, h1, h2, h3⟩
        · omega
        · exact ⟨ab, ao, h1, h2, fun i hi => h3 i (by simpa using hi)⟩
      have hcw : w.cell? ⟨ab, ao + k, none⟩ = some (.int .u8 (zs.getD k 0)) := by
        rw [hac k hlt]
        simp [List.getD, hlt]
      clear hac
      have hcell := (hb.cell (p := ⟨ab, ao + k, none⟩) hab).trans hcw
      have hby : 0 ≤ zs.getD k 0 ∧ zs.getD k 0 ≤ 255 := by
        have := HZ.out zs[k] (List.getElem_mem _)
        simpa [List.getD, hlt] using this
      have HE := bitsOf_take hlt
      obtain ⟨z, hzz⟩ : ∃ z, z = zs.getD k 0 := ⟨_, rfl⟩
      rw [← hzz] at hcell hcw hby HE
      clear hzz
      obtain ⟨zn, rfl⟩ := Int.eq_ofNat_of_zero_le hby.1
      rw [show (zn : Int).toNat = zn by omega] at HE
      have hlen : (bitsOf (zs.take k)).length ≤ 90000 := by rw [bitsOf_length, List.length_take]; omega
      have hlen2 : (bitsOf (zs.take k)).length ≤ 1000 := by rw [bitsOf_length, List.length_take]; omega
      obtain ⟨l0, hl0⟩ : ∃ l0, l0 = bitsOf (zs.take k) := ⟨_, rfl⟩
      rw [← hl0] at HT HE hlen hlen2
      have HEH := Lib.hid HE
      clear HE hl0
      have hc1 := put_ok w.heap.size v1 l0 zn 8 wr HT.out.a (by omega) (by omega) hlen
      go_wp2_with (go_at_call 7; refine hc1.mono ?_; rintro e w2 ⟨v1', rfl, W2, F2⟩)
      have T2 := Lib.hid (HT.out.left W2 F2)
      have L2 : Below w.heap.size w w2 := hb.trans (FrW.below F2 HT.out.a (Nat.le_refl _))
      clear W2 F2 hc1 HT hb
      go_loopw [8] (fun i wr => ∃ j : Nat, j ≤ 8 ∧ i = .int .i64 (7 - j) ∧ ∃ v2, Hid (Two wr w.heap.size v1' (l0 ++ putL zn 8) (w.heap.size + 1) v2 (l0 ++ (putL zn 8).take j)) ∧ Below w.heap.size w wr) (fun i _ => (intOf i + 1).toNat)
      case atStart => exact ⟨0, by omega, rfl, v2, by rw [List.take_zero, List.append_nil]; exact T2, L2⟩
      case round =>
        obtain ⟨j, hj, rfl, v2', HT3, L3⟩ := hrel
        by_cases hj8 : j < 8
        · obtain ⟨r, hr⟩ : ∃ r, r = 7 - j := ⟨_, rfl⟩
          have hr' : (7 : Int) - (j : Int) = (r : Int) := by omega
          have hr0 : (0 : Int) ≤ (r : Int) := by omega
          rw [hr']
          have HP := putL_take (x := zn) hj8
          rw [show 8 - 1 - j = r by omega] at HP
          have HPH := Lib.hid HP
          have hc3 := (L3.cell (p := ⟨ab, ao + k, none⟩) hab).trans hcw
          have hx : bits .and .u8 ((zn : Int) / 2 ^ r) 1 = ((zn / 2 ^ r % 2 : Nat) : Int) := by
            rw [show (zn : Int) / 2 ^ r = ((zn / 2 ^ r : Nat) : Int) by simp]
            refine u8_and1 _ ?_
            have := Nat.div_le_self zn (2 ^ r)
            omega
          have hc2 := put_ok (w.heap.size + 1) v2' (l0 ++ (putL zn 8).take j) (zn / 2 ^ r % 2) 1 wr HT3.out.b (by omega) (by omega) (by simp [putL_length]; omega)
          rw [show putL (zn / 2 ^ r % 2) 1 = [zn / 2 ^ r % 2] by simp [putL, List.range, List.range.loop]] at hc2
          rw [show ((zn / 2 ^ r % 2 : Nat) : Int) = (zn : Int) / 2 ^ r % 2 by simp] at hc2
          have HRR := Lib.hid hr
          clear HP hr
          go_wp2_with (go_at_call 7; refine hc2.mono ?_; rintro e w3 ⟨v3, rfl, W3, F3⟩)
          have T3 := HT3.out.right W3 F3
          have L4 : Below w.heap.size w w3 := L3.trans (FrW.below F3 HT3.out.b (by omega))
          go_roundw
          case rel => exact ⟨j + 1, by omega, by have := HRR.out; go_num, v3, by rw [HPH.out, ← List.append_assoc]; exact T3, L4⟩
          case measure => have := HRR.out; simp [intOf]
        · obtain rfl : j = 8 := by omega
          have H5 := HT3.out
          rw [List.take_of_length_le (by rw [putL_length]; omega)] at H5
          go_wp2
          go_roundw
          case rel => exact ⟨k + 1, by omega, by go_num, v1', v2', by rw [HEH.out]; exact H5, L3⟩
          case measure => simp [intOf]; omega
    · obtain rfl : k = zs.length := by omega
      rw [List.take_of_length_le (Nat.le_refl _)] at HT
      have HRb := HRD.out.below hb (Nat.le_refl _)
      go_wp2_with fail
      refine (read_any a0 zs.length cap0 zs _ HRb (by omega)).mono ?_
      rintro e w2 ⟨q, v3, rfl, hq, R2, hv3, b2⟩
      have T2 := HT.out.below b2
      have L2 : Below w.heap.size w w2 := hb.trans (b2.mono hb.size)
      have HR2 := HRD.out.below L2 (Nat.le_refl _)
      clear HRb b2 HT
      have H2 := Lib.hid T2
      have H3 := Lib.hid R2
      have H4 := Lib.hid HR2
      have hqs : q < w2.heap.size := blk_lt R2.blk
      have hqw : w.heap.size ≤ q := Nat.le_trans hb.size hq
      clear T2 R2 HR2 hb hq
      go_upto_region 15 with (fail)
      refine Rd.name_world ?_
      intro W hW
      have T2 := H2.out
      have R2 := H3.out
      have HR2 := H4.out
      rw [← hW] at T2 R2 HR2 L2 hqs
      have LW := L2
      clear H2 H3 H4 hW L2
      have hpk := pack_bitsOf zs HZ.out
      have hbl : (bitsOf zs).length ≤ 100000 := by rw [bitsOf_length]; omega
      refine Pred.region_vals (Pred.Of [
          Is (.pointer (some ⟨q, 0, none⟩)),
          Is (.bool false),
          Is (.bool false),
          Is (.pointer (some ⟨w.heap.size, 0, none⟩)),
          Rds zs,
          Is (.string (bytesOf zs)),
          Is (.slice a0 zs.length cap0),
          Is (.string (bytesOf zs)),
          Is (.bool false),
          Is (.bool false),
          Is (.bool false),
          Is (.pointer (some ⟨w.heap.size + 1, 0, none⟩)),
          Rds zs,
          Is (.string (bytesOf zs)),
          Is (.slice a0 zs.length cap0),
          Is (.string (bytesOf zs)),
          Is (.bool false),
          Is (.bool false)]) (by kernel_rfl) (by kernel_rfl) (by kernel_rfl) (Pred.of_stab ?_) ?_ ?_
      · exact ⟨is_stab _, is_stab _, is_stab _, is_stab _, rds_stab _, is_stab _, is_stab _, is_stab _, is_stab _, is_stab _, is_stab _, is_stab _, rds_stab _, is_stab _, is_stab _, is_stab _, is_stab _, is_stab _, trivial⟩
      · refine ⟨?_, ?_, ?_, ?_, ?_, ?_, ?_, ?_, ?_, ?_, ?_, ?_, ?_, ?_, ?_, ?_, ?_, ?_, trivial⟩
        · intro b X hE hd hn hV
          have r9 : b.tmps[9]?.getD undef = .pointer (some ⟨q, 0, none⟩) := (hn 9 (by kernel_rfl)).trans rfl
          exact Pred.yields_run (v := .pointer (some ⟨q, 0, none⟩)) (Pred.wanted_none rfl) (by go_simp) ⟨Pred.ext_refl _ _, rfl⟩
        · intro b X hE hd hn hV
          have r52 : b.tmps[52]?.getD undef = .pointer (some ⟨q, 0, none⟩) := hV 0 _ 52 rfl rfl (Pred.waits_near (by kernel_rfl) (by kernel_rfl))
          exact Pred.yields_run (v := .bool false) (Pred.wanted_none rfl) (by go_simp) ⟨Pred.ext_refl _ _, rfl⟩
        · intro b X hE hd hn hV
          have r53 : b.tmps[53]?.getD undef = .bool false := hV 1 _ 53 rfl rfl (Pred.waits_near (by kernel_rfl) (by kernel_rfl))
          exact Pred.yields_run (v := .bool false) (Pred.wanted_none rfl) (by go_simp) ⟨Pred.ext_refl _ _, rfl⟩
        · intro b X hE hd hn hV
          have r5 : b.tmps[5]?.getD undef = .pointer (some ⟨w.heap.size, 0, none⟩) := (hn 5 (by kernel_rfl)).trans rfl
          have r54 : b.tmps[54]?.getD undef = .bool false := hV 2 _ 54 rfl rfl (Pred.waits_near (by kernel_rfl) (by kernel_rfl))
          exact Pred.yields_run (v := .pointer (some ⟨w.heap.size, 0, none⟩)) ((Pred.wanted_at (g := 2) (d := 54) (f := false) rfl rfl r54).trans rfl) (by go_simp) ⟨Pred.ext_refl _ _, rfl⟩
        · intro b X hE hd hn hV
          have r55 : b.tmps[55]?.getD undef = .pointer (some ⟨w.heap.size, 0, none⟩) := hV 3 _ 55 rfl rfl (Pred.waits_near (by kernel_rfl) (by kernel_rfl))
          have r54 : b.tmps[54]?.getD undef = .bool false := hV 2 _ 54 rfl rfl (Pred.waits_near (by kernel_rfl) (by kernel_rfl))
          refine Pred.yields_call (f := 11) (args := #[.pointer (some ⟨w.heap.size, 0, none⟩)]) ((Pred.wanted_at (g := 2) (d := 54) (f := false) rfl rfl r54).trans rfl) (by go_simp) ?_
          refine (bytes_any _ _ _ _ (Wr.below T2.a hE) hbl).mono ?_
          rintro e w9 ⟨v, he, hown, hb⟩
          rw [hpk] at hown
          obtain ⟨av, cv, rfl, h1, h2⟩ := owns_val hown
          exact ⟨_, he, Pred.ext_below hb hE.size, _, _, _, rfl, Reads.of_owns hown⟩
        · intro b X hE hd hn hV
          obtain ⟨ga56, n56, c56, r56, hr56⟩ : Rds zs (b.tmps[56]?.getD undef) X := hV 4 _ 56 rfl rfl (Pred.waits_near (by kernel_rfl) (by kernel_rfl))
          have r54 : b.tmps[54]?.getD undef = .bool false := hV 2 _ 54 rfl rfl (Pred.waits_near (by kernel_rfl) (by kernel_rfl))
          have hc := conv_reads (P := Try.prog) (src := 23) (dst := 9) (cap := c56) Try.underlying23 Try.underlying5 Try.underlying9 hr56 HZ.out
          exact Pred.yields_run (v := .string (bytesOf zs)) ((Pred.wanted_at (g := 2) (d := 54) (f := false) rfl rfl r54).trans rfl) (by go_simp) ⟨Pred.ext_refl _ _, rfl⟩
        · intro b X hE hd hn hV
          have r0 : b.tmps[0]?.getD undef = .slice a0 zs.length cap0 := (hn 0 (by kernel_rfl)).trans rfl
          have r54 : b.tmps[54]?.getD undef = .bool false := hV 2 _ 54 rfl rfl (Pred.waits_near (by kernel_rfl) (by kernel_rfl))
          exact Pred.yields_run (v := .slice a0 zs.length cap0) ((Pred.wanted_at (g := 2) (d := 54) (f := false) rfl rfl r54).trans rfl) (by go_simp) ⟨Pred.ext_refl _ _, rfl⟩
        · intro b X hE hd hn hV
          have r58 : b.tmps[58]?.getD undef = .slice a0 zs.length cap0 := hV 6 _ 58 rfl rfl (Pred.waits_near (by kernel_rfl) (by kernel_rfl))
          have r54 : b.tmps[54]?.getD undef = .bool false := hV 2 _ 54 rfl rfl (Pred.waits_near (by kernel_rfl) (by kernel_rfl))
          have hc := conv_reads (P := Try.prog) (src := 23) (dst := 9) (cap := cap0) Try.underlying23 Try.underlying5 Try.underlying9 (HR2.below hE (Nat.le_refl _)) HZ.out
          exact Pred.yields_run (v := .string (bytesOf zs)) ((Pred.wanted_at (g := 2) (d := 54) (f := false) rfl rfl r54).trans rfl) (by go_simp) ⟨Pred.ext_refl _ _, rfl⟩
        · intro b X hE hd hn hV
          have r57 : b.tmps[57]?.getD undef = .string (bytesOf zs) := hV 5 _ 57 rfl rfl (Pred.waits_near (by kernel_rfl) (by kernel_rfl))
          have r59 : b.tmps[59]?.getD undef = .string (bytesOf zs) := hV 7 _ 59 rfl rfl (Pred.waits_near (by kernel_rfl) (by kernel_rfl))
          have r54 : b.tmps[54]?.getD undef = .bool false := hV 2 _ 54 rfl rfl (Pred.waits_near (by kernel_rfl) (by kernel_rfl))
          exact Pred.yields_run (v := .bool false) ((Pred.wanted_at (g := 2) (d := 54) (f := false) rfl rfl r54).trans rfl) (by go_simp) ⟨Pred.ext_refl _ _, rfl⟩
        · intro b X hE hd hn hV
          have r54 : b.tmps[54]?.getD undef = .bool false := hV 2 _ 54 rfl rfl (Pred.waits_near (by kernel_rfl) (by kernel_rfl))
          have r60 : b.tmps[60]?.getD undef = .bool false := hV 8 _ 60 rfl rfl (Pred.waits_near (by kernel_rfl) (by kernel_rfl))
          exact Pred.yields_run (v := .bool false) (Pred.wanted_none rfl) (by go_simp) ⟨Pred.ext_refl _ _, rfl⟩
        · intro b X hE hd hn hV
          have r61 : b.tmps[61]?.getD undef = .bool false := hV 9 _ 61 rfl rfl (Pred.waits_near (by kernel_rfl) (by kernel_rfl))
          exact Pred.yields_run (v := .bool false) (Pred.wanted_none rfl) (by go_simp) ⟨Pred.ext_refl _ _, rfl⟩
        · intro b X hE hd hn hV
          have r6 : b.tmps[6]?.getD undef = .pointer (some ⟨w.heap.size + 1, 0, none⟩) := (hn 6 (by kernel_rfl)).trans rfl
          have r62 : b.tmps[62]?.getD undef = .bool false := hV 10 _ 62 rfl rfl (Pred.waits_near (by kernel_rfl) (by kernel_rfl))
          exact Pred.yields_run (v := .pointer (some ⟨w.heap.size + 1, 0, none⟩)) ((Pred.wanted_at (g := 10) (d := 62) (f := false) rfl rfl r62).trans rfl) (by go_simp) ⟨Pred.ext_refl _ _, rfl⟩
        · intro b X hE hd hn hV
          have r63 : b.tmps[63]?.getD undef = .pointer (some ⟨w.heap.size + 1, 0, none⟩) := hV 11 _ 63 rfl rfl (Pred.waits_near (by kernel_rfl) (by kernel_rfl))
          have r62 : b.tmps[62]?.getD undef = .bool false := hV 10 _ 62 rfl rfl (Pred.waits_near (by kernel_rfl) (by kernel_rfl))
          refine Pred.yields_call (f := 11) (args := #[.pointer (some ⟨w.heap.size + 1, 0, none⟩)]) ((Pred.wanted_at (g := 10) (d := 62) (f := false) rfl rfl r62).trans rfl) (by go_simp) ?_
          refine (bytes_any _ _ _ _ (Wr.below T2.b hE) hbl).mono ?_
          rintro e w9 ⟨v, he, hown, hb⟩
          rw [hpk] at hown
          obtain ⟨av, cv, rfl, h1, h2⟩ := owns_val hown
          exact ⟨_, he, Pred.ext_below hb hE.size, _, _, _, rfl, Reads.of_owns hown⟩
        · intro b X hE hd hn hV
          obtain ⟨ga64, n64, c64, r64, hr64⟩ : Rds zs (b.tmps[64]?.getD undef) X := hV 12 _ 64 rfl rfl (Pred.waits_near (by kernel_rfl) (by kernel_rfl))
          have r62 : b.tmps[62]?.getD undef = .bool false := hV 10 _ 62 rfl rfl (Pred.waits_near (by kernel_rfl) (by kernel_rfl))
          have hc := conv_reads (P := Try.prog) (src := 23) (dst := 9) (cap := c64) Try.underlying23 Try.underlying5 Try.underlying9 hr64 HZ.out
          exact Pred.yields_run (v := .string (bytesOf zs)) ((Pred.wanted_at (g := 10) (d := 62) (f := false) rfl rfl r62).trans rfl) (by go_simp) ⟨Pred.ext_refl _ _, rfl⟩
        · intro b X hE hd hn hV
          have r0 : b.tmps[0]?.getD undef = .slice a0 zs.length cap0 := (hn 0 (by kernel_rfl)).trans rfl
          have r62 : b.tmps[62]?.getD undef = .bool false := hV 10 _ 62 rfl rfl (Pred.waits_near (by kernel_rfl) (by kernel_rfl))
          exact Pred.yields_run (v := .slice a0 zs.length cap0) ((Pred.wanted_at (g := 10) (d := 62) (f := false) rfl rfl r62).trans rfl) (by go_simp) ⟨Pred.ext_refl _ _, rfl⟩
        · intro b X hE hd hn hV
          have r66 : b.tmps[66]?.getD undef = .slice a0 zs.length cap0 := hV 14 _ 66 rfl rfl (Pred.waits_near (by kernel_rfl) (by kernel_rfl))
          have r62 : b.tmps[62]?.getD undef = .bool false := hV 10 _ 62 rfl rfl (Pred.waits_near (by kernel_rfl) (by kernel_rfl))
          have hc := conv_reads (P := Try.prog) (src := 23) (dst := 9) (cap := cap0) Try.underlying23 Try.underlying5 Try.underlying9 (HR2.below hE (Nat.le_refl _)) HZ.out
          exact Pred.yields_run (v := .string (bytesOf zs)) ((Pred.wanted_at (g := 10) (d := 62) (f := false) rfl rfl r62).trans rfl) (by go_simp) ⟨Pred.ext_refl _ _, rfl⟩
        · intro b X hE hd hn hV
          have r65 : b.tmps[65]?.getD undef = .string (bytesOf zs) := hV 13 _ 65 rfl rfl (Pred.waits_near (by kernel_rfl) (by kernel_rfl))
          have r67 : b.tmps[67]?.getD undef = .string (bytesOf zs) := hV 15 _ 67 rfl rfl (Pred.waits_near (by kernel_rfl) (by kernel_rfl))
          have r62 : b.tmps[62]?.getD undef = .bool false := hV 10 _ 62 rfl rfl (Pred.waits_near (by kernel_rfl) (by kernel_rfl))
          exact Pred.yields_run (v := .bool false) ((Pred.wanted_at (g := 10) (d := 62) (f := false) rfl rfl r62).trans rfl) (by go_simp) ⟨Pred.ext_refl _ _, rfl⟩
        · intro b X hE hd hn hV
          have r62 : b.tmps[62]?.getD undef = .bool false := hV 10 _ 62 rfl rfl (Pred.waits_near (by kernel_rfl) (by kernel_rfl))
          have r68 : b.tmps[68]?.getD undef = .bool false := hV 16 _ 68 rfl rfl (Pred.waits_near (by kernel_rfl) (by kernel_rfl))
          exact Pred.yields_run (v := .bool false) (Pred.wanted_none rfl) (by go_simp) ⟨Pred.ext_refl _ _, rfl⟩
      intro v X hE hv
      have e0 : v 0 = .pointer (some ⟨q, 0, none⟩) := hv 0 _ 52 rfl rfl
      have e1 : v 1 = .bool false := hv 1 _ 53 rfl rfl
      have e2 : v 2 = .bool false := hv 2 _ 54 rfl rfl
      have e3 : v 3 = .pointer (some ⟨w.heap.size, 0, none⟩) := hv 3 _ 55 rfl rfl
      obtain ⟨ga4, n4, c4, e4, hr4⟩ : Rds zs (v 4) X := hv 4 _ 56 rfl rfl
      have e5 : v 5 = .string (bytesOf zs) := hv 5 _ 57 rfl rfl
      have e6 : v 6 = .slice a0 zs.length cap0 := hv 6 _ 58 rfl rfl
      have e7 : v 7 = .string (bytesOf zs) := hv 7 _ 59 rfl rfl
      have e8 : v 8 = .bool false := hv 8 _ 60 rfl rfl
      have e9 : v 9 = .bool false := hv 9 _ 61 rfl rfl
      have e10 : v 10 = .bool false := hv 10 _ 62 rfl rfl
      have e11 : v 11 = .pointer (some ⟨w.heap.size + 1, 0, none⟩) := hv 11 _ 63 rfl rfl
      obtain ⟨ga12, n12, c12, e12, hr12⟩ : Rds zs (v 12) X := hv 12 _ 64 rfl rfl
      have e13 : v 13 = .string (bytesOf zs) := hv 13 _ 65 rfl rfl
      have e14 : v 14 = .slice a0 zs.length cap0 := hv 14 _ 66 rfl rfl
      have e15 : v 15 = .string (bytesOf zs) := hv 15 _ 67 rfl rfl
      have e16 : v 16 = .bool false := hv 16 _ 68 rfl rfl
      have e17 : v 17 = .bool false := hv 17 _ 69 rfl rfl
      simp only [Pred.putsF_cons, Pred.putsF_nil, Nat.zero_add, Nat.reduceAdd, e0, e1, e2, e3, e4, e5, e6, e7, e8, e9, e10, e11, e12, e13, e14, e15, e16, e17, Act.put, List.setIfInBounds_toArray, List.set_cons_zero, List.set_cons_succ]
      clear e0 e1 e2 e3 e4 e5 e6 e7 e8 e9 e10 e11 e12 e13 e14 e15 e16 e17 hv
      have R3 := R2.below hE
      have L3 : Below w.heap.size w X := LW.trans (hE.mono LW.size)
      have hqX : q < X.heap.size := blk_lt R3.blk
      clear T2 R2 HR2 hpk hbl hr4 hr12 hE
      have hm0 : 0 ≤ a1 % 33 := Int.emod_nonneg _ (by decide)
      have hm1 : a1 % 33 < 33 := Int.emod_lt_of_pos _ (by decide)
      go_wp2_with fail
      refine (round_any a1 33 _ hwf.1 hwf.2 (by decide) (by decide)).mono ?_
      rintro e w4 ⟨rfl, rfl⟩
      obtain ⟨m, hm⟩ := Int.eq_ofNat_of_zero_le hm0
      rw [hm] at hm1 ⊢
      have hm2 : m ≤ 32 := by omega
      clear hm0 hm1 hm
      by_cases hs : m ≤ 8 * zs.length
      · have hs' : ¬ (8 * (zs.length : Int)) < (m : Int) := by omega
        go_wp2_with fail
        refine (get_ok q v3 zs 0 m _ R3 HZ.out hm2 (by omega) (by omega)).mono ?_
        rintro e w5 ⟨rfl, R5, f5⟩
        have L5 : Below w.heap.size w w5 := L3.trans (FrQ.below f5 hqw (Nat.le_of_lt hqX))
        clear R3 f5
        rw [Nat.zero_add] at R5
        go_wp2_with fail
        refine (left_any q v3 zs m _ R5 hs (by omega)).mono ?_
        rintro e w6 ⟨rfl, b6⟩
        have L6 : Below w.heap.size w w6 := L5.trans (b6.mono L5.size)
        go_wp2_with fail
        refine (awake_any _).mono ?_
        rintro e w7 ⟨rfl, b7⟩
        have L7 : Below w.heap.size w w7 := L6.trans (b7.mono L6.size)
        go_wp2
        go_ret
        exact ⟨rfl, L7⟩
      · have hs' : (8 * (zs.length : Int)) < (m : Int) := by omega
        go_wp2_with fail
        refine (get_short q v3 zs 0 m _ R3 (by omega) (by omega) (by omega) (by omega) (by omega)).mono ?_
        rintro e w5 ⟨rfl, b5⟩
        have L5 : Below w.heap.size w w5 := L3.trans (b5.mono L3.size)
        have R5 := R3.below b5
        clear R3 b5
        go_wp2_with fail
        refine (left_any q v3 zs 0 _ R5 (by omega) (by omega)).mono ?_
        rintro e w6 ⟨rfl, b6⟩
        have L6 : Below w.heap.size w w6 := L5.trans (b6.mono L5.size)
        go_wp2_with fail
        refine (awake_any _).mono ?_
        rintro e w7 ⟨rfl, b7⟩
        have L7 : Below w.heap.size w w7 := L6.trans (b7.mono L6.size)
        go_wp2
        go_ret
        exact ⟨rfl, L7⟩
end Go.Proofs.Ytgkcmnconogonaa.BitF

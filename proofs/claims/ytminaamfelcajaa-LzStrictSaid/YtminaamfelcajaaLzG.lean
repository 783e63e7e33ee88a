/-
  One byte more or less, and one bit turned (LzStrict).
-/
import Derived.Test.YtminaamfelcajaaLzN
import Derived.Test.YtminaamfelcajaaLzE
import Derived.Test.YtminaamfelcajaaBytes
import Derived.Deep.CutRange
import Derived.Test.YtminaamfelcajaaAlike
import Derived.BigQuiet
import Derived.Laws.BitsAllLaws
import Derived.Deep.RegionWith
namespace Go.Proofs.Ytminaamfelcajaa.LzG
open Go.RowKit Rd Go.Proofs.Ytminaamfelcajaa.Row OctA MaA BitB BitD LzM LzA LzB LzC LzD LzR LzN
open MaD (own_bel own_mono)
set_option linter.unusedVariables false
set_option linter.unusedSimpArgs false
set_option maxRecDepth 10000
theorem or_i64 (a b : Nat) (ha : a < 256) (hb : b < 256) : bits .or .i64 ((a : Int) * 256) (b : Int) = ((a * 256 + b : Nat) : Int) := by
  have hx : a * 256 ||| b = a * 256 + b := by
    have := Nat.two_pow_add_eq_or_of_lt (i := 8) (b := b) (by omega) a
    rw [show 2 ^ 8 * a = a * 256 by omega] at this
    exact this.symm
  show IntKind.i64.wrap ((BitVec.ofInt 64 ((a * 256 : Nat) : Int) ||| BitVec.ofInt 64 (b : Int)).toNat : Int) = _
  rw [BitVec.toNat_or, ofInt_u64 (a * 256) (by omega), ofInt_u64 b (by omega), IntKind.wrap_i64, hx]
  omega
set_option maxHeartbeats 8000000 in
theorem strict_gen (ai : Option Addr) (len cap : Nat) (zs : List Int) (n at_ bt : Int) (ni : Option Addr) (nl nc : Nat) (ns : List Int) (w : World) (hzl : zs.length = len) (hR : Reads w 1 ai len (i64s zs)) (ha1 : -9223372036854775808 ≤ at_) (ha2 : at_ ≤ 9223372036854775807) (hb1 : -9223372036854775808 ≤ bt) (hb2 : bt ≤ 9223372036854775807) (hnl : ns.length = nl) (hN : Reads w 1 ni nl (us ns)) (hnb : By ns) :
    Calls Try.prog 5 #[.slice ai len cap, .int .i64 n, .int .i64 at_, .int .i64 bt, .slice ni nl nc] w fun e w' => e = .returned (.bool true) ∧ Below w.heap.size w w' := by
  have HBX : Hid (Below w.heap.size w w) := Lib.hid (Below.refl _ _)
  have HNS := Lib.hid (And.intro hnl hN)
  have HNB := Lib.hid hnb
  have HAB := Lib.hid (And.intro (And.intro ha1 ha2) (And.intro hb1 hb2))
  clear hnl hN hnb ha1 ha2 hb1 hb2
  by_cases h20 : 20 < len
  · have q0 : decide (20 < len) = true := decide_eq_true h20
    have q0i : decide ((20 : Int) < (len : Int)) = true := decide_eq_true (by omega)
    clear hR
    go_enter Try.func5, Try.ntmps5
    go_wp2_with fail
    refine (awake_any _).mono ?_
    rintro e w2 ⟨rfl, hb2⟩
    have HB9 := Lib.hid (HBX.out.trans (hb2.mono HBX.out.size))
    clear hb2 HBX
    go_wp2
    go_ret
    exact ⟨rfl, HB9.out⟩
  have d20 : decide (20 < len) = false := decide_eq_false h20
  have d20i : decide ((20 : Int) < (len : Int)) = false := decide_eq_false (by omega)
  by_cases hn0 : n < 0
  · have q0 : decide (n < 0) = true := decide_eq_true hn0
    clear hR
    go_enter Try.func5, Try.ntmps5
    go_wp2_with fail
    refine (awake_any _).mono ?_
    rintro e w2 ⟨rfl, hb2⟩
    have HB9 := Lib.hid (HBX.out.trans (hb2.mono HBX.out.size))
    clear hb2 HBX
    go_wp2
    go_ret
    exact ⟨rfl, HB9.out⟩
  have d0 : decide (n < 0) = false := decide_eq_false hn0
  by_cases h600 : 600 < n
  · have q0 : decide (600 < n) = true := decide_eq_true h600
    clear hR
    go_enter Try.func5, Try.ntmps5
    go_wp2_with fail
    refine (awake_any _).mono ?_
    rintro e w2 ⟨rfl, hb2⟩
    have HB9 := Lib.hid (HBX.out.trans (hb2.mono HBX.out.size))
    clear hb2 HBX
    go_wp2
    go_ret
    exact ⟨rfl, HB9.out⟩
  obtain ⟨N, rfl⟩ : ∃ N : Nat, n = N := ⟨n.toNat, by omega⟩
  have d3 : decide ((600 : Int) < (N : Int)) = false := decide_eq_false h600
  have d32 : decide (600 < N) = false := decide_eq_false (by omega)
  by_cases h200 : 200 < nl
  · have q0 : decide (200 < nl) = true := decide_eq_true h200
    have q0i : decide ((200 : Int) < (nl : Int)) = true := decide_eq_true (by omega)
    clear hR
    go_enter Try.func5, Try.ntmps5
    go_wp2_with fail
    refine (awake_any _).mono ?_
    rintro e w2 ⟨rfl, hb2⟩
    have HB9 := Lib.hid (HBX.out.trans (hb2.mono HBX.out.size))
    clear hb2 HBX
    go_wp2
    go_ret
    exact ⟨rfl, HB9.out⟩
  have d4 : decide (200 < nl) = false := decide_eq_false h200
  have d4i : decide ((200 : Int) < (nl : Int)) = false := decide_eq_false (by omega)
  have HRW := Lib.hid (row_any ai len cap zs N w hzl hR (by omega) (by omega))
  have hN : N ≤ 600 := by omega
  have hnl3 : nl ≤ 200 := by omega
  clear hR hzl h20 hn0 h600 HBX h200
  go_enter Try.func5, Try.ntmps5
  go_wp2_with fail
  refine HRW.out.mono ?_
  rintro e W0 ⟨⟨l, v, rfl, hby, hlN, hown⟩, hb0⟩
  obtain ⟨ra, rc, rfl, -, -⟩ := owns_val hown
  obtain ⟨L, hL⟩ : ∃ L, l.length = L := ⟨_, rfl⟩
  have HL := Lib.hid hL
  have hL7 : L ≤ 600 := by omega
  have HB0 := Lib.hid hb0
  have HBY := Lib.hid hby
  have HPK := pack_any ra rc l W0 (Reads.of_owns hown) hby (by omega)
  rw [hL] at HPK ⊢
  have HPK2 := Lib.hid HPK
  clear hby hlN hown hb0 HRW hL HPK d20 d20i d0 d3 d32 d4 d4i
  go_wp2_with fail
  refine HPK2.out.mono ?_
  rintro e W1 ⟨⟨v2, rfl, ho2⟩, hb1⟩
  obtain ⟨a2, c2, rfl, hPc, hcm⟩ := owns_val ho2
  have HTW := LzE.packB_two l
  have HU1 := Lib.hid (un_more HBY.out (by rw [HL.out]; omega) 0)
  have HU2 := Lib.hid (un_less HBY.out (by rw [HL.out]; omega) HTW.1)
  have HPB := Lib.hid (pack_b8 (packB_bits l))
  obtain ⟨pk, hpk⟩ : ∃ pk, pack (packB l) = pk := ⟨_, rfl⟩
  rw [hpk] at HTW HU1 HU2 HPB hPc ho2 ⊢
  obtain ⟨P, hP⟩ : ∃ P, pk.length = P := ⟨_, rfl⟩
  have HPL := Lib.hid hP
  rw [HL.out] at HTW
  have HRP1 := Lib.hid (Reads.of_owns ho2)
  rw [hP] at HTW HU2 hPc HRP1 ⊢
  have hP2 : 2 ≤ P := HTW.1
  have hP9 : P ≤ 1000 := by omega
  have HB1 := Lib.hid (HB0.out.trans (hb1.mono HB0.out.size))
  have hsz1 := HB1.out.size
  have q1 : decide ((P : Int) < 2) = false := decide_eq_false (by omega)
  have q1' : decide (P < 2) = false := decide_eq_false (by omega)
  obtain ⟨i0, hi, hz0, hz1, hz2⟩ := info_parts BitA.info_u8
  have HI := Lib.hid (And.intro hi (And.intro hz0 (And.intro hz1 hz2)))
  have hmade := World.ownsRow_made W1 (e := 5) (size := 1) (base := W1.heap.size) #[] 0 (Nat.le_refl _) (by decide) rfl
  clear ho2 hb1 HPK2 HTW HB0 hpk hP hi hz0 hz1 hz2
  go_wp2_with (first
    | (at_builtin; refine App.wpList_append_reads _ rfl (.tmp 56) (.tmp 57) 22 rfl W1.heap.size 5 i0 (.int .u8 0) 1 1 Try.underlying22 HI.out.1 HI.out.2.1 HI.out.2.2.1 HI.out.2.2.2 rfl (by decide) _ _ _ rfl hmade a2 P c2 (us pk) rfl (HRP1.out.below ((Below.refl _ _).alloc (Nat.le_refl _) _) (Nat.le_refl _)) (MaD.one_u8 pk) (by unfold maxLen; omega) (by omega) (by simp <;> omega) ?_; intro v3 w3 ho3 hg3; obtain ⟨a3, c3, rfl, -, -⟩ := owns_val ho3; have HO3 : Hid (w3.ownsRow W1.heap.size 5 1 (.slice a3 P c3) P (us pk)) := Lib.hid (by have h9 := ho3; simp only [Nat.zero_add, List.nil_append] at h9; exact h9); have HB3 := Lib.hid (((Below.refl _ W1).alloc (Nat.le_refl _) _).grown hg3 (by simp <;> omega) (fun j hj => (hmade.lt j hj).1)); clear ho3 hg3)
    | (at_builtin; refine app_u8 rfl (.tmp 58) (.tmp 59) rfl W1.heap.size (.slice a3 P c3) P pk rfl (HO3.out.alloc _) w3.heap.size 1 0 rfl (blk_alloc_at _ _ _ rfl) (by omega) (by have := HB3.out.size; simp <;> omega) ?_; intro v4 w4 ho4 hg4; obtain ⟨a4, c4, rfl, -, -⟩ := owns_val ho4))
  have hlen4 : (pk ++ [0]).length = P + 1 := by rw [List.length_append, HPL.out]; rfl
  have hb4 : Below W1.heap.size W1 w4 := (HB3.out.alloc HB3.out.size _).grown hg4 (by have := HB3.out.size; simp <;> omega) (fun j hj => (HO3.out.lt j hj).1)
  have HB4 := Lib.hid hb4
  have HR4 := Lib.hid (Reads.of_owns ho4)
  clear hg4 ho4 hb4 HO3 HB3 hmade q1 q1'
  refine (unpack_any a4 (P + 1) c4 (pk ++ [0]) w4 HR4.out (fun z hz => by
    rcases List.mem_append.1 hz with h | h
    · exact HPB.out z h
    · rw [List.mem_singleton] at h; omega) (by omega)).mono ?_
  rintro e W5 ⟨hu, hb5⟩
  rcases hu with ⟨b', v5, hb', -, -⟩ | ⟨-, rfl⟩
  · rw [HU1.out] at hb'; cases hb'
  have HB5 : Hid (Below W1.heap.size W1 W5) := Lib.hid (HB4.out.trans (hb5.mono HB4.out.size))
  have HRP5 := Lib.hid (HRP1.out.below HB5.out (Nat.le_refl _))
  obtain ⟨pb, po, rfl, -, -⟩ := MaB.cell_u8 HRP5.out HPL.out (by omega)
  obtain ⟨p1, hp1⟩ : ∃ p1 : Nat, (P : Int) - 1 = p1 := ⟨P - 1, by omega⟩
  rw [show P - 1 = p1 by omega] at HU2
  have hp1P : p1 ≤ P := by omega
  have hp1c : p1 ≤ c2 := by omega
  have hp1c' : (p1 : Int) ≤ (c2 : Int) := by omega
  have hpk1 : (pk.take p1).length = p1 := by rw [List.length_take, HPL.out]; omega
  have HRT := Lib.hid (Bytes.Reads.take HRP5.out hp1P)
  clear hb5 HB4 HR4 hlen4
  go_wp2_with fail
  refine (unpack_any (some ⟨pb, po, none⟩) p1 _ (pk.take p1) W5 HRT.out (fun z hz => HPB.out z (List.mem_of_mem_take hz)) (by omega)).mono ?_
  rintro e W6 ⟨hu, hb6⟩
  rcases hu with ⟨b', v6, hb', -, -⟩ | ⟨-, rfl⟩
  · rw [HU2.out] at hb'; cases hb'
  have HB6 : Hid (Below w.heap.size w W6) := Lib.hid (HB1.out.trans ((HB5.out.trans (hb6.mono HB5.out.size)).mono hsz1))
  have HRP6 := Lib.hid (HRP5.out.below hb6 (Nat.le_refl _))
  have hsz6 := HB6.out.size
  have hmade := World.ownsRow_made W6 (e := 5) (size := 1) (base := W6.heap.size) #[] 0 (Nat.le_refl _) (by decide) rfl
  clear hb6 HB5 HRP5 HRT hp1 hpk1 HRP1 HU1 HU2
  go_wp2_with (at_builtin; refine App.wpList_append_reads _ rfl (.tmp 73) (.tmp 74) 22 rfl W6.heap.size 5 i0 (.int .u8 0) 1 1 Try.underlying22 HI.out.1 HI.out.2.1 HI.out.2.2.1 HI.out.2.2.2 rfl (by decide) _ _ _ rfl hmade (some ⟨pb, po, none⟩) P c2 (us pk) rfl (HRP6.out.below ((Below.refl _ _).alloc (Nat.le_refl _) _) (Nat.le_refl _)) (MaD.one_u8 pk) (by unfold maxLen; omega) (by omega) (by simp) ?_; intro w7v w7 ho7 hg7; obtain ⟨a7, c7, rfl, -, -⟩ := owns_val ho7; have HO7 : Hid (w7.ownsRow W6.heap.size 5 1 (.slice a7 P c7) P (us pk)) := Lib.hid (by have h9 := ho7; simp only [Nat.zero_add, List.nil_append] at h9; exact h9); have HB7 := Lib.hid (((Below.refl _ W6).alloc (Nat.le_refl _) _).grown hg7 (by simp) (fun j hj => (hmade.lt j hj).1)); clear ho7 hg7)
  obtain ⟨g7, ea7, hblk7⟩ : ∃ g7, a7 = some ⟨g7, 0, none⟩ ∧ ∃ cur : Array Value, blk w7 g7 = some (.cells cur 5 (0, 0)) := by
    rcases HO7.out.2 with ⟨h, -⟩ | ⟨g, cap, cur, e, hb, hg, -⟩
    · injection h with h1 h2 h3
      omega
    · injection e with e1 e2 e3
      exact ⟨g, e1, cur, hg⟩
  subst ea7
  have HBK := Lib.hid hblk7
  obtain ⟨i, hi⟩ : ∃ i : Nat, at_ % (P : Int) = i := ⟨(at_ % (P : Int)).toNat, by have := Int.emod_nonneg at_ (show (P : Int) ≠ 0 by omega); omega⟩
  have hiP : i < P := by have := Int.emod_lt_of_pos at_ (show (0 : Int) < (P : Int) by omega); omega
  obtain ⟨kb, hkb⟩ : ∃ kb : Nat, bt % 8 = kb := ⟨(bt % 8).toNat, by omega⟩
  have hkb8 : kb < 8 := by omega
  obtain ⟨x, hx⟩ : ∃ x : Nat, pk.getD i 0 = x := ⟨(pk.getD i 0).toNat, by have := (show By pk from HPB.out).at_ i; omega⟩
  have hx8 : x < 256 := by have := (show By pk from HPB.out).at_ i; omega
  have HX := Lib.hid hx
  have HI2 := Lib.hid (And.intro hi hkb)
  have hiP' : (i : Int) < (P : Int) := by omega
  clear hblk7 hi hkb hx hmade HI
  go_upto_region 10 with (fail)
  go_cut [18] from 76 to 88 (fun v Y => v = .slice (some ⟨g7, 0, none⟩) P c7 ∧ ∃ c : List Int, Hid (By c ∧ c.length = P) ∧ Hid (Y.ownsRow W6.heap.size 5 1 (.slice (some ⟨g7, 0, none⟩) P c7) P (us c)) ∧ Hid (Below W6.heap.size W6 Y))
  case first =>
    have c7c : w7.cell? ⟨g7, i, none⟩ = some (.int .u8 (x : Int)) := by
      obtain ⟨p', o', e, hp', hc'⟩ := MaB.cell_u8 (Reads.of_owns HO7.out) HPL.out (by omega)
      cases e
      have h9 := hc' i hiP
      rw [Nat.zero_add, HX.out] at h9
      exact h9
    have g1 := Go.cell_regrown c7c
    have hk9 : kb = 0 ∨ kb = 1 ∨ kb = 2 ∨ kb = 3 ∨ kb = 4 ∨ kb = 5 ∨ kb = 6 ∨ kb = 7 := by omega
    rcases hk9 with rfl | rfl | rfl | rfl | rfl | rfl | rfl | rfl
    · have hxr : bits .xor .u8 (x : Int) 1 = ((x ^^^ 1 : Nat) : Int) := u8_xor_nat x 1 hx8 (by omega)
      have hxl : x ^^^ 1 < 256 := Nat.xor_lt_two_pow (n := 8) hx8 (by omega)
      have HXL := Lib.hid hxl
      obtain ⟨y, hy⟩ : ∃ y, x ^^^ 1 = y := ⟨_, rfl⟩
      rw [hy] at hxr HXL
      clear hy hxl
      (refine Reg.below_tail 12 (by kernel_rfl) (by kernel_rfl) ?_; simp only [List.take_succ_cons, List.take_zero, List.drop_succ_cons, List.drop_zero]; (repeat (go_big_quiet_step (((first | (with_reducible exact Calls.regrown_of ((Alk.round_any at_ (P : Int) _ HAB.out.1.1 HAB.out.1.2 (by omega) (by omega)).mono fun e w' ⟨he, hw⟩ => ⟨he.trans (by rw [HI2.out.1]), by rw [← hw]; exact Below.refl _ _⟩)) | (with_reducible exact Calls.regrown_of ((Alk.round_any bt 8 _ HAB.out.2.1 HAB.out.2.2 (by decide) (by decide)).mono fun e w' ⟨he, hw⟩ => ⟨he.trans (by rw [HI2.out.2]), by rw [← hw]; exact Below.refl _ _⟩))))))); refine wpQuiet_nil ?_)
      intro U hU
      have KU := Rd.below_of_regrown hU
      obtain ⟨cur, hcur⟩ := HBK.out
      have fk := blk_frozen ((blk_below KU g7 (blk_lt hcur)).trans hcur) i
      have ck : U.cell? ⟨g7, i, none⟩ = some (.int .u8 (x : Int)) := (KU.cell (p := ⟨g7, _, none⟩) (blk_lt hcur)).trans c7c
      have HOU := Lib.hid (own_bel HO7.out KU)
      have HBU := Lib.hid (HB7.out.trans (KU.mono HB7.out.size))
      clear hU KU g1 hcur
      go_wp2_with fail
      go_meet
      exact ⟨rfl, pk.set i y, Lib.hid ⟨fun z hz => by
        rcases List.mem_or_eq_of_mem_set hz with h | h
        · exact HPB.out z h
        · subst h; have := HXL.out; omega, by rw [List.length_set, HPL.out]⟩, Lib.hid (BitA.set_own HOU.out hiP), Lib.hid (Below.setCell HBU.out ((HOU.out.lt g7 rfl).1) _)⟩
    · have hxr : bits .xor .u8 (x : Int) 2 = ((x ^^^ 2 : Nat) : Int) := u8_xor_nat x 2 hx8 (by omega)
      have hxl : x ^^^ 2 < 256 := Nat.xor_lt_two_pow (n := 8) hx8 (by omega)
      have HXL := Lib.hid hxl
      obtain ⟨y, hy⟩ : ∃ y, x ^^^ 2 = y := ⟨_, rfl⟩
      rw [hy] at hxr HXL
      clear hy hxl
      (refine Reg.below_tail 12 (by kernel_rfl) (by kernel_rfl) ?_; simp only [List.take_succ_cons, List.take_zero, List.drop_succ_cons, List.drop_zero]; (repeat (go_big_quiet_step (((first | (with_reducible exact Calls.regrown_of ((Alk.round_any at_ (P : Int) _ HAB.out.1.1 HAB.out.1.2 (by omega) (by omega)).mono fun e w' ⟨he, hw⟩ => ⟨he.trans (by rw [HI2.out.1]), by rw [← hw]; exact Below.refl _ _⟩)) | (with_reducible exact Calls.regrown_of ((Alk.round_any bt 8 _ HAB.out.2.1 HAB.out.2.2 (by decide) (by decide)).mono fun e w' ⟨he, hw⟩ => ⟨he.trans (by rw [HI2.out.2]), by rw [← hw]; exact Below.refl _ _⟩))))))); refine wpQuiet_nil ?_)
      intro U hU
      have KU := Rd.below_of_regrown hU
      obtain ⟨cur, hcur⟩ := HBK.out
      have fk := blk_frozen ((blk_below KU g7 (blk_lt hcur)).trans hcur) i
      have ck : U.cell? ⟨g7, i, none⟩ = some (.int .u8 (x : Int)) := (KU.cell (p := ⟨g7, _, none⟩) (blk_lt hcur)).trans c7c
      have HOU := Lib.hid (own_bel HO7.out KU)
      have HBU := Lib.hid (HB7.out.trans (KU.mono HB7.out.size))
      clear hU KU g1 hcur
      go_wp2_with fail
      go_meet
      exact ⟨rfl, pk.set i y, Lib.hid ⟨fun z hz => by
        rcases List.mem_or_eq_of_mem_set hz with h | h
        · exact HPB.out z h
        · subst h; have := HXL.out; omega, by rw [List.length_set, HPL.out]⟩, Lib.hid (BitA.set_own HOU.out hiP), Lib.hid (Below.setCell HBU.out ((HOU.out.lt g7 rfl).1) _)⟩
    · have hxr : bits .xor .u8 (x : Int) 4 = ((x ^^^ 4 : Nat) : Int) := u8_xor_nat x 4 hx8 (by omega)
      have hxl : x ^^^ 4 < 256 := Nat.xor_lt_two_pow (n := 8) hx8 (by omega)
      have HXL := Lib.hid hxl
      obtain ⟨y, hy⟩ : ∃ y, x ^^^ 4 = y := ⟨_, rfl⟩
      rw [hy] at hxr HXL
      clear hy hxl
      (refine Reg.below_tail 12 (by kernel_rfl) (by kernel_rfl) ?_; simp only [List.take_succ_cons, List.take_zero, List.drop_succ_cons, List.drop_zero]; (repeat (go_big_quiet_step (((first | (with_reducible exact Calls.regrown_of ((Alk.round_any at_ (P : Int) _ HAB.out.1.1 HAB.out.1.2 (by omega) (by omega)).mono fun e w' ⟨he, hw⟩ => ⟨he.trans (by rw [HI2.out.1]), by rw [← hw]; exact Below.refl _ _⟩)) | (with_reducible exact Calls.regrown_of ((Alk.round_any bt 8 _ HAB.out.2.1 HAB.out.2.2 (by decide) (by decide)).mono fun e w' ⟨he, hw⟩ => ⟨he.trans (by rw [HI2.out.2]), by rw [← hw]; exact Below.refl _ _⟩))))))); refine wpQuiet_nil ?_)
      intro U hU
      have KU := Rd.below_of_regrown hU
      obtain ⟨cur, hcur⟩ := HBK.out
      have fk := blk_frozen ((blk_below KU g7 (blk_lt hcur)).trans hcur) i
      have ck : U.cell? ⟨g7, i, none⟩ = some (.int .u8 (x : Int)) := (KU.cell (p := ⟨g7, _, none⟩) (blk_lt hcur)).trans c7c
      have HOU := Lib.hid (own_bel HO7.out KU)
      have HBU := Lib.hid (HB7.out.trans (KU.mono HB7.out.size))
      clear hU KU g1 hcur
      go_wp2_with fail
      go_meet
      exact ⟨rfl, pk.set i y, Lib.hid ⟨fun z hz => by
        rcases List.mem_or_eq_of_mem_set hz with h | h
        · exact HPB.out z h
        · subst h; have := HXL.out; omega, by rw [List.length_set, HPL.out]⟩, Lib.hid (BitA.set_own HOU.out hiP), Lib.hid (Below.setCell HBU.out ((HOU.out.lt g7 rfl).1) _)⟩
    · have hxr : bits .xor .u8 (x : Int) 8 = ((x ^^^ 8 : Nat) : Int) := u8_xor_nat x 8 hx8 (by omega)
      have hxl : x ^^^ 8 < 256 := Nat.xor_lt_two_pow (n := 8) hx8 (by omega)
      have HXL := Lib.hid hxl
      obtain ⟨y, hy⟩ : ∃ y, x ^^^ 8 = y := ⟨_, rfl⟩
      rw [hy] at hxr HXL
      clear hy hxl
      (refine Reg.below_tail 12 (by kernel_rfl) (by kernel_rfl) ?_; simp only [List.take_succ_cons, List.take_zero, List.drop_succ_cons, List.drop_zero]; (repeat (go_big_quiet_step (((first | (with_reducible exact Calls.regrown_of ((Alk.round_any at_ (P : Int) _ HAB.out.1.1 HAB.out.1.2 (by omega) (by omega)).mono fun e w' ⟨he, hw⟩ => ⟨he.trans (by rw [HI2.out.1]), by rw [← hw]; exact Below.refl _ _⟩)) | (with_reducible exact Calls.regrown_of ((Alk.round_any bt 8 _ HAB.out.2.1 HAB.out.2.2 (by decide) (by decide)).mono fun e w' ⟨he, hw⟩ => ⟨he.trans (by rw [HI2.out.2]), by rw [← hw]; exact Below.refl _ _⟩))))))); refine wpQuiet_nil ?_)
      intro U hU
      have KU := Rd.below_of_regrown hU
      obtain ⟨cur, hcur⟩ := HBK.out
      have fk := blk_frozen ((blk_below KU g7 (blk_lt hcur)).trans hcur) i
      have ck : U.cell? ⟨g7, i, none⟩ = some (.int .u8 (x : Int)) := (KU.cell (p := ⟨g7, _, none⟩) (blk_lt hcur)).trans c7c
      have HOU := Lib.hid (own_bel HO7.out KU)
      have HBU := Lib.hid (HB7.out.trans (KU.mono HB7.out.size))
      clear hU KU g1 hcur
      go_wp2_with fail
      go_meet
      exact ⟨rfl, pk.set i y, Lib.hid ⟨fun z hz => by
        rcases List.mem_or_eq_of_mem_set hz with h | h
        · exact HPB.out z h
        · subst h; have := HXL.out; omega, by rw [List.length_set, HPL.out]⟩, Lib.hid (BitA.set_own HOU.out hiP), Lib.hid (Below.setCell HBU.out ((HOU.out.lt g7 rfl).1) _)⟩
    · have hxr : bits .xor .u8 (x : Int) 16 = ((x ^^^ 16 : Nat) : Int) := u8_xor_nat x 16 hx8 (by omega)
      have hxl : x ^^^ 16 < 256 := Nat.xor_lt_two_pow (n := 8) hx8 (by omega)
      have HXL := Lib.hid hxl
      obtain ⟨y, hy⟩ : ∃ y, x ^^^ 16 = y := ⟨_, rfl⟩
      rw [hy] at hxr HXL
      clear hy hxl
      (refine Reg.below_tail 12 (by kernel_rfl) (by kernel_rfl) ?_; simp only [List.take_succ_cons, List.take_zero, List.drop_succ_cons, List.drop_zero]; (repeat (go_big_quiet_step (((first | (with_reducible exact Calls.regrown_of ((Alk.round_any at_ (P : Int) _ HAB.out.1.1 HAB.out.1.2 (by omega) (by omega)).mono fun e w' ⟨he, hw⟩ => ⟨he.trans (by rw [HI2.out.1]), by rw [← hw]; exact Below.refl _ _⟩)) | (with_reducible exact Calls.regrown_of ((Alk.round_any bt 8 _ HAB.out.2.1 HAB.out.2.2 (by decide) (by decide)).mono fun e w' ⟨he, hw⟩ => ⟨he.trans (by rw [HI2.out.2]), by rw [← hw]; exact Below.refl _ _⟩))))))); refine wpQuiet_nil ?_)
      intro U hU
      have KU := Rd.below_of_regrown hU
      obtain ⟨cur, hcur⟩ := HBK.out
      have fk := blk_frozen ((blk_below KU g7 (blk_lt hcur)).trans hcur) i
      have ck : U.cell? ⟨g7, i, none⟩ = some (.int .u8 (x : Int)) := (KU.cell (p := ⟨g7, _, none⟩) (blk_lt hcur)).trans c7c
      have HOU := Lib.hid (own_bel HO7.out KU)
      have HBU := Lib.hid (HB7.out.trans (KU.mono HB7.out.size))
      clear hU KU g1 hcur
      go_wp2_with fail
      go_meet
      exact ⟨rfl, pk.set i y, Lib.hid ⟨fun z hz => by
        rcases List.mem_or_eq_of_mem_set hz with h | h
        · exact HPB.out z h
        · subst h; have := HXL.out; omega, by rw [List.length_set, HPL.out]⟩, Lib.hid (BitA.set_own HOU.out hiP), Lib.hid (Below.setCell HBU.out ((HOU.out.lt g7 rfl).1) _)⟩
    · have hxr : bits .xor .u8 (x : Int) 32 = ((x ^^^ 32 : Nat) : Int) := u8_xor_nat x 32 hx8 (by omega)
      have hxl : x ^^^ 32 < 256 := Nat.xor_lt_two_pow (n := 8) hx8 (by omega)
      have HXL := Lib.hid hxl
      obtain ⟨y, hy⟩ : ∃ y, x ^^^ 32 = y := ⟨_, rfl⟩
      rw [hy] at hxr HXL
      clear hy hxl
      (refine Reg.below_tail 12 (by kernel_rfl) (by kernel_rfl) ?_; simp only [List.take_succ_cons, List.take_zero, List.drop_succ_cons, List.drop_zero]; (repeat (go_big_quiet_step (((first | (with_reducible exact Calls.regrown_of ((Alk.round_any at_ (P : Int) _ HAB.out.1.1 HAB.out.1.2 (by omega) (by omega)).mono fun e w' ⟨he, hw⟩ => ⟨he.trans (by rw [HI2.out.1]), by rw [← hw]; exact Below.refl _ _⟩)) | (with_reducible exact Calls.regrown_of ((Alk.round_any bt 8 _ HAB.out.2.1 HAB.out.2.2 (by decide) (by decide)).mono fun e w' ⟨he, hw⟩ => ⟨he.trans (by rw [HI2.out.2]), by rw [← hw]; exact Below.refl _ _⟩))))))); refine wpQuiet_nil ?_)
      intro U hU
      have KU := Rd.below_of_regrown hU
      obtain ⟨cur, hcur⟩ := HBK.out
      have fk := blk_frozen ((blk_below KU g7 (blk_lt hcur)).trans hcur) i
      have ck : U.cell? ⟨g7, i, none⟩ = some (.int .u8 (x : Int)) := (KU.cell (p := ⟨g7, _, none⟩) (blk_lt hcur)).trans c7c
      have HOU := Lib.hid (own_bel HO7.out KU)
      have HBU := Lib.hid (HB7.out.trans (KU.mono HB7.out.size))
      clear hU KU g1 hcur
      go_wp2_with fail
      go_meet
      exact ⟨rfl, pk.set i y, Lib.hid ⟨fun z hz => by
        rcases List.mem_or_eq_of_mem_set hz with h | h
        · exact HPB.out z h
        · subst h; have := HXL.out; omega, by rw [List.length_set, HPL.out]⟩, Lib.hid (BitA.set_own HOU.out hiP), Lib.hid (Below.setCell HBU.out ((HOU.out.lt g7 rfl).1) _)⟩
    · have hxr : bits .xor .u8 (x : Int) 64 = ((x ^^^ 64 : Nat) : Int) := u8_xor_nat x 64 hx8 (by omega)
      have hxl : x ^^^ 64 < 256 := Nat.xor_lt_two_pow (n := 8) hx8 (by omega)
      have HXL := Lib.hid hxl
      obtain ⟨y, hy⟩ : ∃ y, x ^^^ 64 = y := ⟨_, rfl⟩
      rw [hy] at hxr HXL
      clear hy hxl
      (refine Reg.below_tail 12 (by kernel_rfl) (by kernel_rfl) ?_; simp only [List.take_succ_cons, List.take_zero, List.drop_succ_cons, List.drop_zero]; (repeat (go_big_quiet_step (((first | (with_reducible exact Calls.regrown_of ((Alk.round_any at_ (P : Int) _ HAB.out.1.1 HAB.out.1.2 (by omega) (by omega)).mono fun e w' ⟨he, hw⟩ => ⟨he.trans (by rw [HI2.out.1]), by rw [← hw]; exact Below.refl _ _⟩)) | (with_reducible exact Calls.regrown_of ((Alk.round_any bt 8 _ HAB.out.2.1 HAB.out.2.2 (by decide) (by decide)).mono fun e w' ⟨he, hw⟩ => ⟨he.trans (by rw [HI2.out.2]), by rw [← hw]; exact Below.refl _ _⟩))))))); refine wpQuiet_nil ?_)
      intro U hU
      have KU := Rd.below_of_regrown hU
      obtain ⟨cur, hcur⟩ := HBK.out
      have fk := blk_frozen ((blk_below KU g7 (blk_lt hcur)).trans hcur) i
      have ck : U.cell? ⟨g7, i, none⟩ = some (.int .u8 (x : Int)) := (KU.cell (p := ⟨g7, _, none⟩) (blk_lt hcur)).trans c7c
      have HOU := Lib.hid (own_bel HO7.out KU)
      have HBU := Lib.hid (HB7.out.trans (KU.mono HB7.out.size))
      clear hU KU g1 hcur
      go_wp2_with fail
      go_meet
      exact ⟨rfl, pk.set i y, Lib.hid ⟨fun z hz => by
        rcases List.mem_or_eq_of_mem_set hz with h | h
        · exact HPB.out z h
        · subst h; have := HXL.out; omega, by rw [List.length_set, HPL.out]⟩, Lib.hid (BitA.set_own HOU.out hiP), Lib.hid (Below.setCell HBU.out ((HOU.out.lt g7 rfl).1) _)⟩
    · have hxr : bits .xor .u8 (x : Int) 128 = ((x ^^^ 128 : Nat) : Int) := u8_xor_nat x 128 hx8 (by omega)
      have hxl : x ^^^ 128 < 256 := Nat.xor_lt_two_pow (n := 8) hx8 (by omega)
      have HXL := Lib.hid hxl
      obtain ⟨y, hy⟩ : ∃ y, x ^^^ 128 = y := ⟨_, rfl⟩
      rw [hy] at hxr HXL
      clear hy hxl
      (refine Reg.below_tail 12 (by kernel_rfl) (by kernel_rfl) ?_; simp only [List.take_succ_cons, List.take_zero, List.drop_succ_cons, List.drop_zero]; (repeat (go_big_quiet_step (((first | (with_reducible exact Calls.regrown_of ((Alk.round_any at_ (P : Int) _ HAB.out.1.1 HAB.out.1.2 (by omega) (by omega)).mono fun e w' ⟨he, hw⟩ => ⟨he.trans (by rw [HI2.out.1]), by rw [← hw]; exact Below.refl _ _⟩)) | (with_reducible exact Calls.regrown_of ((Alk.round_any bt 8 _ HAB.out.2.1 HAB.out.2.2 (by decide) (by decide)).mono fun e w' ⟨he, hw⟩ => ⟨he.trans (by rw [HI2.out.2]), by rw [← hw]; exact Below.refl _ _⟩))))))); refine wpQuiet_nil ?_)
      intro U hU
      have KU := Rd.below_of_regrown hU
      obtain ⟨cur, hcur⟩ := HBK.out
      have fk := blk_frozen ((blk_below KU g7 (blk_lt hcur)).trans hcur) i
      have ck : U.cell? ⟨g7, i, none⟩ = some (.int .u8 (x : Int)) := (KU.cell (p := ⟨g7, _, none⟩) (blk_lt hcur)).trans c7c
      have HOU := Lib.hid (own_bel HO7.out KU)
      have HBU := Lib.hid (HB7.out.trans (KU.mono HB7.out.size))
      clear hU KU g1 hcur
      go_wp2_with fail
      go_meet
      exact ⟨rfl, pk.set i y, Lib.hid ⟨fun z hz => by
        rcases List.mem_or_eq_of_mem_set hz with h | h
        · exact HPB.out z h
        · subst h; have := HXL.out; omega, by rw [List.length_set, HPL.out]⟩, Lib.hid (BitA.set_own HOU.out hiP), Lib.hid (Below.setCell HBU.out ((HOU.out.lt g7 rfl).1) _)⟩
  case rest =>
  obtain ⟨rfl, c, HC, HOC, HB8⟩ := hcut
  rename World => Y
  clear HBK HX HI2 HO7 HB7
  go_wp2_with fail
  refine (unpack_any (some ⟨g7, 0, none⟩) P c7 c Y (Reads.of_owns HOC.out) HC.out.1 (by omega)).mono ?_
  rintro e W9 ⟨hu9, hb9⟩
  have HB9 := Lib.hid (HB6.out.trans ((HB8.out.trans (hb9.mono HB8.out.size)).mono hsz6))
  have HOC9 := Lib.hid (own_bel HOC.out hb9)
  have HNR := Lib.hid (HNS.out.2.below HB9.out (Nat.le_refl _))
  have hu9' : ∃ u9 ul uc ec, e = .returned (.tuple #[.slice u9 ul uc, .int .i64 ec]) ∧ (ec = 0 ∧ ul = (c.getD 0 0).toNat * 256 + (c.getD 1 0).toNat ∨ ec = 3 ∧ ul = 0) := by
    rcases hu9 with ⟨b, v, hb, rfl, ho⟩ | ⟨-, rfl⟩
    · obtain ⟨u9, uc, rfl, -, -⟩ := owns_val ho
      exact ⟨u9, _, uc, 0, rfl, .inl ⟨rfl, (un_head HC.out.1 hb).2⟩⟩
    · exact ⟨none, 0, 0, 3, rfl, .inr ⟨rfl, rfl⟩⟩
  obtain ⟨u9, ul, uc, ec, rfl, hcase⟩ := hu9'
  have HCASE := Lib.hid hcase
  clear hu9 hb9 hcase HB8 HOC HB6
  go_wp2_with fail
  refine (unpack_any ni nl nc ns W9 HNR.out HNB.out (by omega)).mono ?_
  rintro e W10 ⟨hu10, hb10⟩
  have HBX := Lib.hid (HB9.out.trans (hb10.mono HB9.out.size))
  have HOC10 := Lib.hid (own_bel HOC9.out hb10)
  have HNR10 := Lib.hid (HNR.out.below hb10 (Nat.le_refl _))
  have hu10' : ∃ v9 vl vc fc, e = .returned (.tuple #[.slice v9 vl vc, .int .i64 fc]) ∧ (fc = 0 ∧ 2 ≤ nl ∧ vl = (ns.getD 0 0).toNat * 256 + (ns.getD 1 0).toNat ∨ fc = 3) := by
    rcases hu10 with ⟨b, v, hb, rfl, ho⟩ | ⟨-, rfl⟩
    · obtain ⟨v9, vc, rfl, -, -⟩ := owns_val ho
      have h9 := un_head HNB.out hb
      exact ⟨v9, _, vc, 0, rfl, .inl ⟨rfl, by rw [← HNS.out.1]; exact h9.1, h9.2⟩⟩
    · exact ⟨none, 0, 0, 3, rfl, .inr rfl⟩
  obtain ⟨v9, vl, vc, fc, rfl, hcase2⟩ := hu10'
  have HCASE2 := Lib.hid hcase2
  clear hu10 hb10 hcase2 HOC9 HNR HB9
  obtain ⟨c0, hc0⟩ : ∃ c0 : Nat, c.getD 0 0 = c0 := ⟨(c.getD 0 0).toNat, by have := HC.out.1.at_ 0; omega⟩
  obtain ⟨c1, hc1⟩ : ∃ c1 : Nat, c.getD 1 0 = c1 := ⟨(c.getD 1 0).toNat, by have := HC.out.1.at_ 1; omega⟩
  have hc08 : c0 < 256 := by have := HC.out.1.at_ 0; omega
  have hc18 : c1 < 256 := by have := HC.out.1.at_ 1; omega
  have k1 : W10.cell? ⟨g7, 0, none⟩ = some (.int .u8 (c0 : Int)) := by
    obtain ⟨p', o', e, hp', hc'⟩ := MaB.cell_u8 (Reads.of_owns HOC10.out) HC.out.2 (by omega)
    cases e
    rw [← hc0]; exact hc' 0 (by omega)
  have k2 : W10.cell? ⟨g7, 1, none⟩ = some (.int .u8 (c1 : Int)) := by
    obtain ⟨p', o', e, hp', hc'⟩ := MaB.cell_u8 (Reads.of_owns HOC10.out) HC.out.2 (by omega)
    cases e
    rw [← hc1]; exact hc' 1 (by omega)
  rw [hc0, hc1] at HCASE
  simp only [Int.toNat_natCast] at HCASE
  have x1 := or_i64 c0 c1 hc08 hc18
  obtain ⟨U, hU⟩ : ∃ U, c0 * 256 + c1 = U := ⟨_, rfl⟩
  rw [hU] at HCASE x1
  have e0 : ((U : Int) == (U : Int)) = true := by simp
  have hP2' : (1 : Int) < (P : Int) := by omega
  have hP2'' : (0 : Int) < (P : Int) := by omega
  clear hc0 hc1 hU HOC10
  have hec : (ec = 0 ∧ ul = U) ∨ (ec = 3 ∧ ul = 0) := HCASE.out
  have hfc : (fc = 0 ∧ 2 ≤ nl ∧ vl = (ns.getD 0 0).toNat * 256 + (ns.getD 1 0).toNat) ∨ fc = 3 := HCASE2.out
  clear HCASE HCASE2
  rcases hfc with ⟨rfl, hn2, hvl⟩ | rfl
  · obtain ⟨rb, ro, rfl, hrb, hrc⟩ := MaB.cell_u8 HNR10.out HNS.out.1 (by omega)
    obtain ⟨n0, hn0⟩ : ∃ n0 : Nat, ns.getD 0 0 = n0 := ⟨(ns.getD 0 0).toNat, by have := HNB.out.at_ 0; omega⟩
    obtain ⟨n1, hn1⟩ : ∃ n1 : Nat, ns.getD 1 0 = n1 := ⟨(ns.getD 1 0).toNat, by have := HNB.out.at_ 1; omega⟩
    have hn08 : n0 < 256 := by have := HNB.out.at_ 0; omega
    have hn18 : n1 < 256 := by have := HNB.out.at_ 1; omega
    have k3 : W10.cell? ⟨rb, ro, none⟩ = some (.int .u8 (n0 : Int)) := by rw [← hn0]; exact hrc 0 (by omega)
    have k4 : W10.cell? ⟨rb, ro + 1, none⟩ = some (.int .u8 (n1 : Int)) := by rw [← hn1]; exact hrc 1 (by omega)
    rw [hn0, hn1] at hvl
    simp only [Int.toNat_natCast] at hvl
    have x2 := or_i64 n0 n1 hn08 hn18
    rw [← hvl] at x2
    have e2 : ((vl : Int) == (vl : Int)) = true := by simp
    have q3 : decide ((nl : Int) < 2) = false := decide_eq_false (by omega)
    have q3' : decide (nl < 2) = false := decide_eq_false (by omega)
    have hn2a : (0 : Int) < (nl : Int) := by omega
    have hn2b : (1 : Int) < (nl : Int) := by omega
    clear hvl hn0 hn1 hrc HNR10 HNS HNB
    rcases hec with ⟨rfl, rfl⟩ | ⟨rfl, rfl⟩
    · clear hnl3
      go_wp2_with (first | go_quiet (fail) | fail)
      refine (awake_any _).mono ?_
      rintro e w2 ⟨rfl, hb2⟩
      have HBF : Hid (Below w.heap.size w w2) := Lib.hid ((below_drewN HBX.out _).trans (hb2.mono HBX.out.size))
      clear hb2 HBX
      go_wp2
      go_ret
      exact ⟨rfl, HBF.out⟩
    · go_wp2_with (first | go_quiet (fail) | fail)
      refine (awake_any _).mono ?_
      rintro e w2 ⟨rfl, hb2⟩
      have HBF : Hid (Below w.heap.size w w2) := Lib.hid ((below_drewN HBX.out _).trans (hb2.mono HBX.out.size))
      clear hb2 HBX
      go_wp2
      go_ret
      exact ⟨rfl, HBF.out⟩
  · rcases hec with ⟨rfl, rfl⟩ | ⟨rfl, rfl⟩
    · go_wp2_with (first | go_quiet (fail) | fail)
      refine (awake_any _).mono ?_
      rintro e w2 ⟨rfl, hb2⟩
      have HBF : Hid (Below w.heap.size w w2) := Lib.hid ((below_drewN HBX.out _).trans (hb2.mono HBX.out.size))
      clear hb2 HBX
      go_wp2
      go_ret
      exact ⟨rfl, HBF.out⟩
    · go_wp2_with (first | go_quiet (fail) | fail)
      refine (awake_any _).mono ?_
      rintro e w2 ⟨rfl, hb2⟩
      have HBF : Hid (Below w.heap.size w w2) := Lib.hid ((below_drewN HBX.out _).trans (hb2.mono HBX.out.size))
      clear hb2 HBX
      go_wp2
      go_ret
      exact ⟨rfl, HBF.out⟩
end Go.Proofs.Ytminaamfelcajaa.LzG

/-
  Each call tells what the document says (ExtentActs).
-/
import Derived.Test.YtmhjhfjbfoklpaaExI
import Derived.Test.YtmhjhfjbfoklpaaInts
import Derived.Test.YtmhjhfjbfoklpaaPredT
import Derived.Deep.CutBlock
import Derived.Deep.CutRange
namespace Go.Proofs.Ytmhjhfjbfoklpaa.ExK
open Go.RowKit Rd Go.Proofs.Ytmhjhfjbfoklpaa.Row ExM ExA ExB ExC ExD ExE ExH ExI
open ExG (cnt sum_cnt used_cnt)
open Go.Proofs.Ytmhjhfjbfoklpaa.Pred (Is is_stab Stab)
set_option linter.unusedVariables false
set_option linter.unusedSimpArgs false
set_option maxRecDepth 100000
theorem sel_all {l : List (World → Prop)} {p : Nat} {X : World} {Q : Prop} (h : PredT.Sel l p X) (hq : ∀ q ∈ l, q X → Q) : Q := by
  have hl := PredT.sel_le h
  unfold PredT.Sel at h
  rw [List.getD_eq_getElem?_getD, List.getElem?_eq_getElem hl] at h
  exact hq _ (List.getElem_mem hl) h
theorem cell_ext {B : Nat} {w w' : World} (h : Pred.Ext B w w') {b o : Nat} {v : Value} (hc : w.cell? ⟨b, o, none⟩ = some v) : w'.cell? ⟨b, o, none⟩ = some v ∧ b < w'.heap.size := by
  unfold World.cell? at hc ⊢
  simp only at hc ⊢
  cases hb : w.heap[b]? with
  | none => rw [hb] at hc; cases hc
  | some ob =>
    rw [hb] at hc
    cases ob with
    | cells c t fr =>
      obtain ⟨fr', h2⟩ := h.2 b c t fr hb
      rw [h2]
      refine ⟨hc, ?_⟩
      rcases Nat.lt_or_ge b w'.heap.size with h3 | h3
      · exact h3
      · rw [Array.getElem?_eq_none h3] at h2; cases h2
    | _ => simp at hc
theorem reads_ext {B s n : Nat} {w w' : World} {a : Option Addr} {cs : List Value} (h : Pred.Ext B w w') (hr : Reads w s a n cs) (hs : 0 < s) : Reads w' s a n cs := by
  obtain ⟨h1, h2⟩ := hr
  refine ⟨h1, ?_⟩
  rcases h2 with h2 | ⟨b, off, rfl, hb, hc⟩
  · exact .inl h2
  · by_cases hn : n = 0
    · exact .inl hn
    · have hpos : 0 < cs.length := by rw [h1]; exact Nat.mul_pos (by omega) hs
      have key : ∀ i, i < cs.length → w'.cell? ⟨b, off + i, none⟩ = cs[i]? ∧ b < w'.heap.size := fun i hi => by
        have h3 := hc i hi
        rw [List.getElem?_eq_getElem hi] at h3 ⊢
        exact cell_ext h h3
      exact .inr ⟨b, off, rfl, (key 0 hpos).2, fun i hi => (key i hi).1⟩
def SP (n : Nat) (r : List (Nat × Nat)) : Value → World → Prop := fun v X => ∃ a c, v = .slice a n c ∧ PRd X a r
theorem sp_stab (n : Nat) (r : List (Nat × Nat)) : Stab (SP n r) := by
  intro v w w' B ⟨a, c, h1, h2⟩ hb
  exact ⟨a, c, h1, reads_ext hb h2 (by omega)⟩
theorem prd_take1 {X : World} {a : Option Addr} {R : List (Nat × Nat)} (h : PRd X a R) : PRd X a (R.take 1) := by
  cases R with
  | nil => exact h
  | cons p R =>
    obtain ⟨gb, go_, e, hl, hc⟩ := PRd.cells h (by simp)
    have h0 := hc 0 (by simp)
    refine ⟨rfl, Or.inr ⟨gb, go_, e, hl, fun i hi => ?_⟩⟩
    have e2 : pv ((p :: R).take 1) = [.int .i64 (p.1 : Int), .int .i64 (p.2 : Int)] := rfl
    rw [e2] at hi ⊢
    match i, hi with
    | 0, _ => simpa using h0.1
    | 1, _ => simpa using h0.2
theorem blk_turn {X Y : World} {g k : Nat} {o : Obj} (h : blk X k = some o) (hg : X.grownBy Y (some g)) (hk : k ≠ g) : blk Y k = some o :=
  (hg.block k (blk_lt h) fun e => hk (by injection e)).trans h
theorem prd_turn {X Y : World} {ad : Option Addr} {r : List (Nat × Nat)} {q : Nat} (h : PRd X ad r) (hg : X.grownBy Y (some q)) (hne : r = [] ∨ ∀ a, ad = some a → a.block ≠ q) : PRd Y ad r := by
  refine ⟨h.1, ?_⟩
  rcases h.2 with h2 | ⟨b2, off, e, h3, h4⟩
  · exact Or.inl h2
  · refine Or.inr ⟨b2, off, e, Nat.lt_of_lt_of_le h3 hg.size, fun i hi => ?_⟩
    rw [← h4 i hi]
    have hne2 := hne.resolve_left fun e9 => by subst e9; simp [pv] at hi
    have hb := hg.block b2 h3 fun e2 => hne2 _ e (by injection e2)
    unfold World.cell?
    simp only [hb]
/-- what was copied -/
def CS (X : World) (g rg : Nat) (cv wv : Value) : Prop :=
  cv = .pointer none ∨ ∃ cb cg cc cbs wa wc, cv = .pointer (some ⟨cb, 0, none⟩) ∧ wv = .slice wa (runs cbs).length wc ∧ Mp X cb cg cc cbs ∧ PRd X wa (runs cbs) ∧ (cb ≠ g ∧ cb ≠ rg ∧ cg ≠ g ∧ cg ≠ rg) ∧ (runs cbs = [] ∨ ∀ a, wa = some a → a.block ≠ g ∧ a.block ≠ rg)
theorem CS.bel {X Y : World} {g rg : Nat} {cv wv : Value} (h : CS X g rg cv wv) (hb : Below X.heap.size X Y) : CS Y g rg cv wv := by
  rcases h with h | ⟨cb, cg, cc, cbs, wa, wc, h1, h2, h3, h4, h5, h6⟩
  · exact Or.inl h
  · exact Or.inr ⟨cb, cg, cc, cbs, wa, wc, h1, h2, h3.bel hb, h4.below hb, h5, h6⟩
theorem CS.turn {X Y : World} {g rg q : Nat} {cv wv : Value} (h : CS X g rg cv wv) (hg : X.grownBy Y (some q)) (hq : q = g ∨ q = rg) : CS Y g rg cv wv := by
  rcases h with h | ⟨cb, cg, cc, cbs, wa, wc, h1, h2, h3, h4, h5, h6⟩
  · exact Or.inl h
  · refine Or.inr ⟨cb, cg, cc, cbs, wa, wc, h1, h2, h3.turn hg ?_ ?_, prd_turn h4 hg (h6.imp id fun h a ea => ?_), h5, h6⟩
    · rcases hq with rfl | rfl
      · exact h5.1
      · exact h5.2.1
    · rcases hq with rfl | rfl
      · exact h5.2.2.1
      · exact h5.2.2.2
    · rcases hq with rfl | rfl
      · exact (h a ea).1
      · exact (h a ea).2
structure AS (w X : World) (b g rb rg n : Nat) (cv wv : Value) (bs bs' : List Bool) : Prop where
  m : Mp X b g n bs
  r : Mr X rb rg n bs'
  len : bs.length = n ∧ bs'.length = n
  below : Below w.heap.size w X
  lo : w.heap.size ≤ g ∧ w.heap.size ≤ rg
  ne : b ≠ rg ∧ g ≠ rg ∧ rb ≠ g
  cs : CS X g rg cv wv
variable {b g rb rg n : Nat} {cv wv : Value} {bs bs' : List Bool}
theorem AS.bel {w X Y : World} (h : AS w X b g rb rg n cv wv bs bs') (hb : Below X.heap.size X Y) : AS w Y b g rb rg n cv wv bs bs' :=
  ⟨h.m.bel hb, h.r.bel hb, h.len, h.below.trans (hb.mono h.below.size), h.lo, h.ne, h.cs.bel hb⟩
theorem AS.one {w X Y : World} {cs : List Bool} (h : AS w X b g rb rg n cv wv bs bs') (hm : Mp Y b g n cs) (hl : cs.length = n) (hg : X.grownBy Y (some g)) : AS w Y b g rb rg n cv wv cs bs' :=
  ⟨hm, h.r.turn hg h.ne.2.2 h.ne.2.1.symm, ⟨hl, h.len.2⟩, bel_turn h.below hg (Nat.le_refl _) h.lo.1, h.lo, h.ne, h.cs.turn hg (Or.inl rfl)⟩
theorem AS.two {w X Y : World} {cs : List Bool} (h : AS w X b g rb rg n cv wv bs bs') (hm : Mr Y rb rg n cs) (hl : cs.length = n) (hg : X.grownBy Y (some rg)) : AS w Y b g rb rg n cv wv bs cs :=
  ⟨h.m.turn hg h.ne.1 h.ne.2.1, hm, ⟨h.len.1, hl⟩, bel_turn h.below hg (Nat.le_refl _) h.lo.2, h.lo, h.ne, h.cs.turn hg (Or.inr rfl)⟩
theorem AS.bw {w X Y : World} {q : Nat} (h : AS w X b g rb rg n cv wv bs bs') (hg : X.grownBy Y (some q)) (hq : w.heap.size ≤ q) : Below w.heap.size X Y :=
  ⟨hg.os, hg.tape, hg.output, hg.size, fun j hj => hg.block j (by have := h.below.size; omega) fun e => by injection e with e; omega⟩
/-! the calls, both sides -/
def tA (bs : List Bool) (k : Int) : Int := if k < 1 then 0 else tkA bs k.toNat
def tE (bs : List Bool) (k : Int) : Int := if k < 1 then 1 else tkE bs k.toNat
def tB (bs : List Bool) (k : Int) : List Bool := if k < 1 then bs else tkB bs k.toNat
theorem tkB_len (bs : List Bool) (k : Nat) : (tkB bs k).length = bs.length := by
  unfold tkB
  split
  · exact mk_len _ _ _ _
  · rfl
theorem take_as (k : Int) (w X : World) (h : AS w X b g rb rg n cv wv bs bs') (hk : k ≤ 9223372036854775807) :
    Calls Try.prog 9 #[.pointer (some ⟨b, 0, none⟩), .int .i64 k] X fun e Y => e = .returned (.tuple #[.int .i64 (tA bs k), .int .i64 (tE bs k)]) ∧ AS w Y b g rb rg n cv wv (tB bs k) bs' ∧ X.grownBy Y (some g) := by
  by_cases h1 : k < 1
  · refine (take_low k X h1).mono ?_
    rintro e Y ⟨rfl, hb⟩
    refine ⟨by unfold tA tE; rw [if_pos h1, if_pos h1], ?_, grown_some hb g⟩
    unfold tB
    rw [if_pos h1]
    exact h.bel hb
  · obtain ⟨K, rfl⟩ := Int.eq_ofNat_of_zero_le (show 0 ≤ k by omega)
    refine (take_any K X h.m (by omega)).mono ?_
    rintro e Y ⟨rfl, h2, g2⟩
    refine ⟨by unfold tA tE; rw [if_neg h1, if_neg h1, Int.toNat_natCast], ?_, g2⟩
    unfold tB
    rw [if_neg h1, Int.toNat_natCast]
    exact h.one h2 (by rw [tkB_len]; exact h.len.1) g2
theorem rtake_as (k : Int) (w X : World) (h : AS w X b g rb rg n cv wv bs bs') (hk : k ≤ 9223372036854775807) :
    Calls Try.prog 10 #[.pointer (some ⟨rb, 0, none⟩), .int .i64 k] X fun e Y => e = .returned (.tuple #[.int .i64 (tA bs' k), .int .i64 (tE bs' k)]) ∧ AS w Y b g rb rg n cv wv bs (tB bs' k) ∧ X.grownBy Y (some rg) := by
  by_cases h1 : k < 1
  · refine (rtake_low k X h1).mono ?_
    rintro e Y ⟨rfl, rfl⟩
    refine ⟨by unfold tA tE; rw [if_pos h1, if_pos h1], ?_, World.grownBy.refl _ _⟩
    unfold tB
    rw [if_pos h1]
    exact h
  · obtain ⟨K, rfl⟩ := Int.eq_ofNat_of_zero_le (show 0 ≤ k by omega)
    refine (rtake_any K X h.r (by omega) hk).mono ?_
    rintro e Y ⟨rfl, h2, g2⟩
    refine ⟨by unfold tA tE; rw [if_neg h1, if_neg h1, Int.toNat_natCast], ?_, g2⟩
    unfold tB
    rw [if_neg h1, Int.toNat_natCast]
    exact h.two h2 (by rw [tkB_len]; exact h.len.2) g2
theorem claim_as (s k : Int) (w X : World) (h : AS w X b g rb rg n cv wv bs bs') (hs1 : -9223372036854775808 ≤ s) (hs2 : s ≤ 9223372036854775807) (hk1 : -9223372036854775808 ≤ k) (hk2 : k ≤ 9223372036854775807) :
    Calls Try.prog 11 #[.pointer (some ⟨b, 0, none⟩), .int .i64 s, .int .i64 k] X fun e Y => e = .returned (.int .i64 (actE bs s k false 5)) ∧ AS w Y b g rb rg n cv wv (actB bs s k false) bs' ∧ X.grownBy Y (some g) := by
  refine (claim_any s k X h.m hs1 hs2 hk1 hk2).mono ?_
  rintro e Y ⟨rfl, h2, g2⟩
  exact ⟨rfl, h.one h2 (by rw [act_len]; exact h.len.1) g2, g2⟩
theorem rclaim_as (s k : Int) (w X : World) (h : AS w X b g rb rg n cv wv bs bs') (hs1 : -9223372036854775808 ≤ s) (hs2 : s ≤ 9223372036854775807) (hk1 : -9223372036854775808 ≤ k) (hk2 : k ≤ 9223372036854775807) :
    Calls Try.prog 12 #[.pointer (some ⟨rb, 0, none⟩), .int .i64 s, .int .i64 k] X fun e Y => e = .returned (.int .i64 (actE bs' s k false 5)) ∧ AS w Y b g rb rg n cv wv bs (actB bs' s k false) ∧ X.grownBy Y (some rg) := by
  refine (rclaim_any s k X h.r hs1 hs2 hk1 hk2).mono ?_
  rintro e Y ⟨rfl, h2, g2⟩
  exact ⟨rfl, h.two h2 (by rw [act_len]; exact h.len.2) g2, g2⟩
theorem give_as (s k : Int) (w X : World) (h : AS w X b g rb rg n cv wv bs bs') (hs1 : -9223372036854775808 ≤ s) (hs2 : s ≤ 9223372036854775807) (hk1 : -9223372036854775808 ≤ k) (hk2 : k ≤ 9223372036854775807) :
    Calls Try.prog 13 #[.pointer (some ⟨b, 0, none⟩), .int .i64 s, .int .i64 k] X fun e Y => e = .returned (.int .i64 (actE bs s k true 4)) ∧ AS w Y b g rb rg n cv wv (actB bs s k true) bs' ∧ X.grownBy Y (some g) := by
  refine (give_any s k X h.m hs1 hs2 hk1 hk2).mono ?_
  rintro e Y ⟨rfl, h2, g2⟩
  exact ⟨rfl, h.one h2 (by rw [act_len]; exact h.len.1) g2, g2⟩
theorem rgive_as (s k : Int) (w X : World) (h : AS w X b g rb rg n cv wv bs bs') (hs1 : -9223372036854775808 ≤ s) (hs2 : s ≤ 9223372036854775807) (hk1 : -9223372036854775808 ≤ k) (hk2 : k ≤ 9223372036854775807) :
    Calls Try.prog 14 #[.pointer (some ⟨rb, 0, none⟩), .int .i64 s, .int .i64 k] X fun e Y => e = .returned (.int .i64 (actE bs' s k true 4)) ∧ AS w Y b g rb rg n cv wv bs (actB bs' s k true) ∧ X.grownBy Y (some rg) := by
  refine (rgive_any s k X h.r hs1 hs2 hk1 hk2).mono ?_
  rintro e Y ⟨rfl, h2, g2⟩
  exact ⟨rfl, h.two h2 (by rw [act_len]; exact h.len.2) g2, g2⟩
set_option maxHeartbeats 16000000 in
theorem acts_gen (m : Int) (ai : Option Addr) (len cap : Nat) (zs : List Int) (cp : Int) (w : World) (hm1 : -9223372036854775808 ≤ m) (hm2 : m ≤ 9223372036854775807)
    (hz : ∀ z ∈ zs, Ints.In64 z) (hzl : zs.length = len * 3) (hR : Reads w 3 ai len (Ints.i64s zs)) :
    Calls Try.prog 3 #[.int .i64 m, .slice ai len cap, .int .i64 cp] w fun e w' => e = .returned (.bool true) ∧ Below w.heap.size w w' := by
  have HRD := Lib.hid hR
  have HZ := Lib.hid hz
  have HZL := Lib.hid hzl
  clear hR hz hzl
  by_cases h0 : 60 < len
  · have d0 : decide (60 < len) = true := decide_eq_true h0
    go_enter Try.func3, Try.ntmps3
    go_wp2_with fail
    refine (awake_any _).mono ?_
    rintro e w2 ⟨rfl, hb2⟩
    go_wp2
    go_ret
    exact ⟨rfl, hb2⟩
  have d0 : decide (60 < len) = false := decide_eq_false h0
  by_cases h1 : ¬ (1 ≤ m ∧ m ≤ 2048)
  · go_enter Try.func3, Try.ntmps3
    go_wp2_with fail
    refine (new_no m h1 _).mono ?_
    rintro e _ ⟨rfl, rfl⟩
    go_wp2_with fail
    refine (rnew_no m h1 _).mono ?_
    rintro e _ ⟨rfl, rfl⟩
    go_wp2_with fail
    refine (awake_any _).mono ?_
    rintro e w2 ⟨rfl, hb2⟩
    go_wp2
    go_ret
    exact ⟨rfl, hb2⟩
  obtain ⟨n, en⟩ : ∃ n : Nat, m = n := ⟨m.toNat, by omega⟩
  subst en
  have hn : 1 ≤ n ∧ n ≤ 2048 := by omega
  have hn1 := hn.1
  have hn2 := hn.2
  have hl60 : len ≤ 60 := by omega
  have HNN := Lib.hid hn
  clear hm1 hm2 h0 h1 hn
  go_enter Try.func3, Try.ntmps3
  go_wp2_with fail
  refine (new_any n HNN.out _).mono ?_
  rintro e w1 ⟨⟨lb, lg, rfl, hb, hg, s1⟩, L1⟩
  have lt1 := s1.lt
  have S1 := Lib.hid s1
  have HL1 := Lib.hid L1
  have sz1 := L1.size
  clear s1 d0 L1
  go_wp2_with fail
  refine (rnew_any n HNN.out _).mono ?_
  rintro e w2 ⟨⟨rb, rg, rfl, hrb, hrg, s2⟩, B2⟩
  have HS2 : Hid (AS w w2 lb lg rb rg n (.pointer none) (.slice none 0 0) (List.replicate n false) (List.replicate n false)) := Lib.hid ⟨S1.out.bel B2, s2, ⟨by simp, by simp⟩, HL1.out.trans (B2.mono sz1), ⟨hg, by omega⟩, ⟨by omega, by omega, by omega⟩, Or.inl rfl⟩
  clear s2 B2 S1 HL1
  go_wp2_with fail
  go_loopw [10, 11, 12] (fun cv0 wv0 i X => ∃ (k : Nat) (bs : List Bool) (cv wv : Value), k ≤ len ∧ cv = cv0 ∧ wv = wv0 ∧ i = .int .i64 k ∧ Hid (AS w X lb lg rb rg n cv wv bs bs)) (fun _ _ i _ => len - (intOf i).toNat)
  case atStart => exact ⟨0, _, _, _, by omega, rfl, rfl, rfl, HS2⟩
  case round =>
    clear HS2
    obtain ⟨k, bs, cv, wv, hk, rfl, rfl, rfl, HS⟩ := hrel
    rename World => W0
    by_cases hlt : k < len
    · have hlt' : (k : Int) < len := by omega
      have hzl := HZL.out
      obtain ⟨ab, ao, rfl, hab, hac⟩ := Ints.cell_of HRD.out (k := 3 * k) (by omega) (by omega)
      have cx : w.cell? ⟨ab, ao + k * 3, none⟩ = some (.int .i64 (zs.getD (3 * k) 0)) := by rw [show ao + k * 3 = ao + 3 * k by omega]; exact hac _ (by omega)
      have cy : w.cell? ⟨ab, ao + k * 3 + 1, none⟩ = some (.int .i64 (zs.getD (3 * k + 1) 0)) := by rw [show ao + k * 3 + 1 = ao + (3 * k + 1) by omega]; exact hac _ (by omega)
      have cz : w.cell? ⟨ab, ao + k * 3 + 2, none⟩ = some (.int .i64 (zs.getD (3 * k + 2) 0)) := by rw [show ao + k * 3 + 2 = ao + (3 * k + 2) by omega]; exact hac _ (by omega)
      have hyy := Ints.getD_in HZ.out (3 * k + 1)
      have hzz := Ints.getD_in HZ.out (3 * k + 2)
      clear hac hzl
      generalize zs.getD (3 * k) 0 = K at cx
      generalize zs.getD (3 * k + 1) 0 = y at cy hyy
      generalize zs.getD (3 * k + 2) 0 = z at cz hzz
      have dx := (HS.out.below.cell (p := ⟨ab, ao + k * 3, none⟩) hab).trans cx
      have dy := (HS.out.below.cell (p := ⟨ab, ao + k * 3 + 1, none⟩) hab).trans cy
      have dz := (HS.out.below.cell (p := ⟨ab, ao + k * 3 + 2, none⟩) hab).trans cz
      clear cx cy cz
      go_upto_region 15 with (fail)
      refine Rd.name_world ?_
      intro W hw
      have bP : blk W W0.heap.size = some (.cells #[.int .i64 K, .int .i64 y, .int .i64 z] 32 (0, 0)) := by rw [hw]; exact blk_alloc_at _ _ _ rfl
      have hbW : Below W0.heap.size W0 W := by
        rw [hw]
        repeat' (first | (with_reducible exact Below.refl _ _) | (with_reducible refine Rd.below_step ?_ (by assumption)) | (with_reducible refine Rd.below_alloc ?_ _) | (with_reducible refine Rd.below_drewN ?_ _) | (with_reducible refine Below.drew ?_) | (with_reducible refine Below.setCell ?_ ?_ _) | (with_reducible refine Rd.below_setRow ?_ ?_ _) | go_size | (simp only [World.size_alloc]; omega) | omega)
      have h0m := HS.out.m.lt
      have h0r := HS.out.r.lt
      have HS1 := Lib.hid (HS.out.bel hbW)
      obtain ⟨pa, hpa⟩ : ∃ p, W0.heap.size = p := ⟨_, rfl⟩
      rw [hpa] at bP h0m h0r ⊢
      have hwW : w.heap.size ≤ W.heap.size := HS1.out.below.size
      have hpg : pa ≠ lg := by omega
      have hprg : pa ≠ rg := by omega
      clear hw hbW hpa dx dy dz HS h0m h0r
      have HBP := Lib.hid bP
      have ck : W.cell? ⟨pa, 0, none⟩ = some (.int .i64 K) := by rw [blk_cell bP]; rfl
      clear bP
      go_upto_block 2 with (fail)
      clear ck
      go_cut [14, 15, 16, 17] from 59 to 112 (fun _ _ _ _ Y => ∃ bs' : List Bool, Hid (AS w Y lb lg rb rg n cv wv bs' bs'))
      case first =>
        by_cases k1 : K = 1
        · subst k1
          have cz : W.cell? ⟨pa, 2, none⟩ = some (.int .i64 z) := by rw [blk_cell HBP.out]; rfl
          go_wp2_with fail
          refine (take_as z w W HS1.out hzz.2).mono ?_
          rintro e X1 ⟨rfl, h1, g1⟩
          have H1 := Lib.hid h1
          have HB1 := Lib.hid (blk_turn HBP.out g1 hpg)
          clear h1 g1 HS1 cz HBP
          have cz : X1.cell? ⟨pa, 2, none⟩ = some (.int .i64 z) := by rw [blk_cell HB1.out]; rfl
          go_wp2_with fail
          refine (rtake_as z w X1 H1.out hzz.2).mono ?_
          rintro e X2 ⟨rfl, h2, g2⟩
          have H2 := Lib.hid h2
          clear h2 g2 H1 cz HB1
          have e1 : (tA bs z == tA bs z) = true := by simp
          have e2 : (tE bs z == tE bs z) = true := by simp
          generalize tA bs z = a1 at *
          generalize tE bs z = a2 at *
          go_wp2
          go_meet
          exact ⟨_, H2⟩
        · have q1 : (K == 1) = false := by simpa using k1
          by_cases k2 : K = 2
          · subst k2
            go_upto_region 22 with (fail)
            refine PredT.region_of (W := W) (w.heap.size) hwW [5, 11] [
                fun yy => AS w yy lb lg rb rg n cv wv bs bs ∧ blk yy pa = some (.cells #[.int .i64 2, .int .i64 y, .int .i64 z] 32 (0, 0)),
                fun yy => AS w yy lb lg rb rg n cv wv (actB bs y z false) bs ∧ blk yy pa = some (.cells #[.int .i64 2, .int .i64 y, .int .i64 z] 32 (0, 0)),
                fun yy => AS w yy lb lg rb rg n cv wv (actB bs y z false) (actB bs y z false) ∧ blk yy pa = some (.cells #[.int .i64 2, .int .i64 y, .int .i64 z] 32 (0, 0))] [
                PredT.At 0 (.pointer (some ⟨lb, 0, none⟩)),
                PredT.At 0 (.pointer (some ⟨pa, 1, none⟩)),
                PredT.At 0 (.int .i64 y),
                PredT.At 0 (.pointer (some ⟨pa, 2, none⟩)),
                PredT.At 0 (.int .i64 z),
                PredT.At 1 (.int .i64 (actE bs y z false 5)),
                PredT.At 0 (.pointer (some ⟨rb, 0, none⟩)),
                PredT.At 0 (.pointer (some ⟨pa, 1, none⟩)),
                PredT.At 0 (.int .i64 y),
                PredT.At 0 (.pointer (some ⟨pa, 2, none⟩)),
                PredT.At 0 (.int .i64 z),
                PredT.At 2 (.int .i64 (actE bs y z false 5)),
                PredT.At 2 (.bool false)] (by kernel_rfl) (by kernel_rfl) (by kernel_rfl) (by decide) (by decide) ?_ ?_ ?_ ?_ ?_ ?_
            · exact ⟨PredT.at_stab _ _ _ _, PredT.at_stab _ _ _ _, PredT.at_stab _ _ _ _, PredT.at_stab _ _ _ _, PredT.at_stab _ _ _ _, PredT.at_stab _ _ _ _, PredT.at_stab _ _ _ _, PredT.at_stab _ _ _ _, PredT.at_stab _ _ _ _, PredT.at_stab _ _ _ _, PredT.at_stab _ _ _ _, PredT.at_stab _ _ _ _, PredT.at_stab _ _ _ _, trivial⟩
            · intro q hq
              rcases List.mem_cons.1 hq with rfl | hq
              · exact fun yy y' h hb => ⟨h.1.bel hb, (blk_below hb _ (blk_lt h.2)).trans h.2⟩
              rcases List.mem_cons.1 hq with rfl | hq
              · exact fun yy y' h hb => ⟨h.1.bel hb, (blk_below hb _ (blk_lt h.2)).trans h.2⟩
              rcases List.mem_cons.1 hq with rfl | hq
              · exact fun yy y' h hb => ⟨h.1.bel hb, (blk_below hb _ (blk_lt h.2)).trans h.2⟩
              cases hq
            · exact ⟨HS1.out, HBP.out⟩
            · refine ⟨.inr ?_, .inr ?_, .inr ?_, .inr ?_, .inr ?_, .inl rfl, .inr ?_, .inr ?_, .inr ?_, .inr ?_, .inr ?_, .inl rfl, .inr ?_, trivial⟩
              · intro b X p hE hd hn hS hV hI hF
                have r7 : b.tmps[7]?.getD undef = .pointer (some ⟨lb, 0, none⟩) := (hn 7 (by kernel_rfl)).trans rfl
                exact Pred.yields_run (v := .pointer (some ⟨lb, 0, none⟩)) (Pred.wanted_none rfl) (by go_simp) ⟨Below.refl _ _, rfl, Nat.zero_le _⟩
              · intro b X p hE hd hn hS hV hI hF
                have r13 : b.tmps[13]?.getD undef = .pointer (some ⟨pa, 0, none⟩) := (hn 13 (by kernel_rfl)).trans rfl
                exact Pred.yields_run (v := .pointer (some ⟨pa, 1, none⟩)) (Pred.wanted_none rfl) (by go_simp) ⟨Below.refl _ _, rfl, Nat.zero_le _⟩
              · intro b X p hE hd hn hS hV hI hF
                obtain ⟨r86, j86⟩ : PredT.At 0 (.pointer (some ⟨pa, 1, none⟩)) (b.tmps[86]?.getD undef) X p := hV 1 _ 86 rfl rfl (Pred.waits_near (by kernel_rfl) (by kernel_rfl))
                have hbp : blk X pa = some (.cells #[.int .i64 2, .int .i64 y, .int .i64 z] 32 (0, 0)) := sel_all hS (by simp only [List.mem_cons, List.not_mem_nil, or_false]; rintro q (rfl | rfl | rfl) h <;> exact h.2)
                have cz : X.cell? ⟨pa, 1, none⟩ = some (.int .i64 y) := by rw [blk_cell hbp]; rfl
                clear hS
                exact Pred.yields_run (v := .int .i64 y) (Pred.wanted_none rfl) (by go_simp) ⟨Below.refl _ _, rfl, Nat.zero_le _⟩
              · intro b X p hE hd hn hS hV hI hF
                have r13 : b.tmps[13]?.getD undef = .pointer (some ⟨pa, 0, none⟩) := (hn 13 (by kernel_rfl)).trans rfl
                exact Pred.yields_run (v := .pointer (some ⟨pa, 2, none⟩)) (Pred.wanted_none rfl) (by go_simp) ⟨Below.refl _ _, rfl, Nat.zero_le _⟩
              · intro b X p hE hd hn hS hV hI hF
                obtain ⟨r88, j88⟩ : PredT.At 0 (.pointer (some ⟨pa, 2, none⟩)) (b.tmps[88]?.getD undef) X p := hV 3 _ 88 rfl rfl (Pred.waits_near (by kernel_rfl) (by kernel_rfl))
                have hbp : blk X pa = some (.cells #[.int .i64 2, .int .i64 y, .int .i64 z] 32 (0, 0)) := sel_all hS (by simp only [List.mem_cons, List.not_mem_nil, or_false]; rintro q (rfl | rfl | rfl) h <;> exact h.2)
                have cz : X.cell? ⟨pa, 2, none⟩ = some (.int .i64 z) := by rw [blk_cell hbp]; rfl
                clear hS
                exact Pred.yields_run (v := .int .i64 z) (Pred.wanted_none rfl) (by go_simp) ⟨Below.refl _ _, rfl, Nat.zero_le _⟩
              · intro b X p hE hd hn hS hV hI hF
                have r9 : b.tmps[9]?.getD undef = .pointer (some ⟨rb, 0, none⟩) := (hn 9 (by kernel_rfl)).trans rfl
                exact Pred.yields_run (v := .pointer (some ⟨rb, 0, none⟩)) (Pred.wanted_none rfl) (by go_simp) ⟨Below.refl _ _, rfl, Nat.zero_le _⟩
              · intro b X p hE hd hn hS hV hI hF
                have r13 : b.tmps[13]?.getD undef = .pointer (some ⟨pa, 0, none⟩) := (hn 13 (by kernel_rfl)).trans rfl
                exact Pred.yields_run (v := .pointer (some ⟨pa, 1, none⟩)) (Pred.wanted_none rfl) (by go_simp) ⟨Below.refl _ _, rfl, Nat.zero_le _⟩
              · intro b X p hE hd hn hS hV hI hF
                obtain ⟨r92, j92⟩ : PredT.At 0 (.pointer (some ⟨pa, 1, none⟩)) (b.tmps[92]?.getD undef) X p := hV 7 _ 92 rfl rfl (Pred.waits_near (by kernel_rfl) (by kernel_rfl))
                have hbp : blk X pa = some (.cells #[.int .i64 2, .int .i64 y, .int .i64 z] 32 (0, 0)) := sel_all hS (by simp only [List.mem_cons, List.not_mem_nil, or_false]; rintro q (rfl | rfl | rfl) h <;> exact h.2)
                have cz : X.cell? ⟨pa, 1, none⟩ = some (.int .i64 y) := by rw [blk_cell hbp]; rfl
                clear hS
                exact Pred.yields_run (v := .int .i64 y) (Pred.wanted_none rfl) (by go_simp) ⟨Below.refl _ _, rfl, Nat.zero_le _⟩
              · intro b X p hE hd hn hS hV hI hF
                have r13 : b.tmps[13]?.getD undef = .pointer (some ⟨pa, 0, none⟩) := (hn 13 (by kernel_rfl)).trans rfl
                exact Pred.yields_run (v := .pointer (some ⟨pa, 2, none⟩)) (Pred.wanted_none rfl) (by go_simp) ⟨Below.refl _ _, rfl, Nat.zero_le _⟩
              · intro b X p hE hd hn hS hV hI hF
                obtain ⟨r94, j94⟩ : PredT.At 0 (.pointer (some ⟨pa, 2, none⟩)) (b.tmps[94]?.getD undef) X p := hV 9 _ 94 rfl rfl (Pred.waits_near (by kernel_rfl) (by kernel_rfl))
                have hbp : blk X pa = some (.cells #[.int .i64 2, .int .i64 y, .int .i64 z] 32 (0, 0)) := sel_all hS (by simp only [List.mem_cons, List.not_mem_nil, or_false]; rintro q (rfl | rfl | rfl) h <;> exact h.2)
                have cz : X.cell? ⟨pa, 2, none⟩ = some (.int .i64 z) := by rw [blk_cell hbp]; rfl
                clear hS
                exact Pred.yields_run (v := .int .i64 z) (Pred.wanted_none rfl) (by go_simp) ⟨Below.refl _ _, rfl, Nat.zero_le _⟩
              · intro b X p hE hd hn hS hV hI hF
                obtain ⟨r90, j90⟩ : PredT.At 1 (.int .i64 (actE bs y z false 5)) (b.tmps[90]?.getD undef) X p := hV 5 _ 90 rfl rfl (Pred.waits_near (by kernel_rfl) (by kernel_rfl))
                obtain ⟨r96, j96⟩ : PredT.At 2 (.int .i64 (actE bs y z false 5)) (b.tmps[96]?.getD undef) X p := hV 11 _ 96 rfl rfl (Pred.waits_near (by kernel_rfl) (by kernel_rfl))
                exact Pred.yields_run (v := .bool false) (Pred.wanted_none rfl) (by go_simp) ⟨Below.refl _ _, rfl, (by omega)⟩
            · refine ⟨?_, ?_, trivial⟩
              · refine ⟨_, rfl, fun k hk => (by cases hk), fun b X hE hd hn hS hV hI => ?_⟩
                obtain ⟨r85, j85⟩ : PredT.At 0 (.pointer (some ⟨lb, 0, none⟩)) (b.tmps[85]?.getD undef) X 0 := hV 0 _ 85 rfl rfl (Pred.waits_near (by kernel_rfl) (by kernel_rfl))
                obtain ⟨r87, j87⟩ : PredT.At 0 (.int .i64 y) (b.tmps[87]?.getD undef) X 0 := hV 2 _ 87 rfl rfl (Pred.waits_near (by kernel_rfl) (by kernel_rfl))
                obtain ⟨r89, j89⟩ : PredT.At 0 (.int .i64 z) (b.tmps[89]?.getD undef) X 0 := hV 4 _ 89 rfl rfl (Pred.waits_near (by kernel_rfl) (by kernel_rfl))
                replace hS : (fun yy => AS w yy lb lg rb rg n cv wv bs bs ∧ blk yy pa = some (.cells #[.int .i64 2, .int .i64 y, .int .i64 z] 32 (0, 0))) X := hS
                refine Pred.yields_call (f := 11) (args := #[.pointer (some ⟨lb, 0, none⟩), .int .i64 y, .int .i64 z]) (Pred.wanted_none rfl) (by go_simp) ?_
                refine (claim_as y z w X hS.1 hyy.1 hyy.2 hzz.1 hzz.2).mono ?_
                rintro e w9 ⟨rfl, h9, g9⟩
                exact ⟨_, rfl, hS.1.bw g9 hS.1.lo.1, ⟨h9, blk_turn hS.2 g9 hpg⟩, rfl, Nat.le_refl _⟩
              · refine ⟨_, rfl, fun k hk => (by cases hk; exact Pred.waits_near (by kernel_rfl) (by kernel_rfl)), fun b X hE hd hn hS hV hI => ?_⟩
                obtain ⟨r91, j91⟩ : PredT.At 0 (.pointer (some ⟨rb, 0, none⟩)) (b.tmps[91]?.getD undef) X 1 := hV 6 _ 91 rfl rfl (Pred.waits_near (by kernel_rfl) (by kernel_rfl))
                obtain ⟨r93, j93⟩ : PredT.At 0 (.int .i64 y) (b.tmps[93]?.getD undef) X 1 := hV 8 _ 93 rfl rfl (Pred.waits_near (by kernel_rfl) (by kernel_rfl))
                obtain ⟨r95, j95⟩ : PredT.At 0 (.int .i64 z) (b.tmps[95]?.getD undef) X 1 := hV 10 _ 95 rfl rfl (Pred.waits_near (by kernel_rfl) (by kernel_rfl))
                replace hS : (fun yy => AS w yy lb lg rb rg n cv wv (actB bs y z false) bs ∧ blk yy pa = some (.cells #[.int .i64 2, .int .i64 y, .int .i64 z] 32 (0, 0))) X := hS
                refine Pred.yields_call (f := 12) (args := #[.pointer (some ⟨rb, 0, none⟩), .int .i64 y, .int .i64 z]) (Pred.wanted_none rfl) (by go_simp) ?_
                refine (rclaim_as y z w X hS.1 hyy.1 hyy.2 hzz.1 hzz.2).mono ?_
                rintro e w9 ⟨rfl, h9, g9⟩
                exact ⟨_, rfl, hS.1.bw g9 hS.1.lo.2, ⟨h9, blk_turn hS.2 g9 hprg⟩, rfl, Nat.le_refl _⟩
            intro v X hE hS hv
            replace hS : (fun yy => AS w yy lb lg rb rg n cv wv (actB bs y z false) (actB bs y z false) ∧ blk yy pa = some (.cells #[.int .i64 2, .int .i64 y, .int .i64 z] 32 (0, 0))) X := hS
            have e0 : v 0 = .pointer (some ⟨lb, 0, none⟩) := (hv 0 _ 85 rfl rfl).1
            have e1 : v 1 = .pointer (some ⟨pa, 1, none⟩) := (hv 1 _ 86 rfl rfl).1
            have e2 : v 2 = .int .i64 y := (hv 2 _ 87 rfl rfl).1
            have e3 : v 3 = .pointer (some ⟨pa, 2, none⟩) := (hv 3 _ 88 rfl rfl).1
            have e4 : v 4 = .int .i64 z := (hv 4 _ 89 rfl rfl).1
            have e5 : v 5 = .int .i64 (actE bs y z false 5) := (hv 5 _ 90 rfl rfl).1
            have e6 : v 6 = .pointer (some ⟨rb, 0, none⟩) := (hv 6 _ 91 rfl rfl).1
            have e7 : v 7 = .pointer (some ⟨pa, 1, none⟩) := (hv 7 _ 92 rfl rfl).1
            have e8 : v 8 = .int .i64 y := (hv 8 _ 93 rfl rfl).1
            have e9 : v 9 = .pointer (some ⟨pa, 2, none⟩) := (hv 9 _ 94 rfl rfl).1
            have e10 : v 10 = .int .i64 z := (hv 10 _ 95 rfl rfl).1
            have e11 : v 11 = .int .i64 (actE bs y z false 5) := (hv 11 _ 96 rfl rfl).1
            have e12 : v 12 = .bool false := (hv 12 _ 97 rfl rfl).1
            simp only [Pred.putsF_cons, Pred.putsF_nil, Nat.zero_add, Nat.reduceAdd, e0, e1, e2, e3, e4, e5, e6, e7, e8, e9, e10, e11, e12, Act.put, List.setIfInBounds_toArray, List.set_cons_zero, List.set_cons_succ]
            clear e0 e1 e2 e3 e4 e5 e6 e7 e8 e9 e10 e11 e12 hv
            go_wp2
            go_meet
            exact ⟨_, Lib.hid hS.1⟩
          · have q2 : (K == 2) = false := by simpa using k2
            by_cases k3 : K = 3
            · subst k3
              go_upto_region 25 with (fail)
              refine PredT.region_of (W := W) (w.heap.size) hwW [5, 11] [
                  fun yy => AS w yy lb lg rb rg n cv wv bs bs ∧ blk yy pa = some (.cells #[.int .i64 3, .int .i64 y, .int .i64 z] 32 (0, 0)),
                  fun yy => AS w yy lb lg rb rg n cv wv (actB bs y z true) bs ∧ blk yy pa = some (.cells #[.int .i64 3, .int .i64 y, .int .i64 z] 32 (0, 0)),
                  fun yy => AS w yy lb lg rb rg n cv wv (actB bs y z true) (actB bs y z true) ∧ blk yy pa = some (.cells #[.int .i64 3, .int .i64 y, .int .i64 z] 32 (0, 0))] [
                  PredT.At 0 (.pointer (some ⟨lb, 0, none⟩)),
                  PredT.At 0 (.pointer (some ⟨pa, 1, none⟩)),
                  PredT.At 0 (.int .i64 y),
                  PredT.At 0 (.pointer (some ⟨pa, 2, none⟩)),
                  PredT.At 0 (.int .i64 z),
                  PredT.At 1 (.int .i64 (actE bs y z true 4)),
                  PredT.At 0 (.pointer (some ⟨rb, 0, none⟩)),
                  PredT.At 0 (.pointer (some ⟨pa, 1, none⟩)),
                  PredT.At 0 (.int .i64 y),
                  PredT.At 0 (.pointer (some ⟨pa, 2, none⟩)),
                  PredT.At 0 (.int .i64 z),
                  PredT.At 2 (.int .i64 (actE bs y z true 4)),
                  PredT.At 2 (.bool false)] (by kernel_rfl) (by kernel_rfl) (by kernel_rfl) (by decide) (by decide) ?_ ?_ ?_ ?_ ?_ ?_
              · exact ⟨PredT.at_stab _ _ _ _, PredT.at_stab _ _ _ _, PredT.at_stab _ _ _ _, PredT.at_stab _ _ _ _, PredT.at_stab _ _ _ _, PredT.at_stab _ _ _ _, PredT.at_stab _ _ _ _, PredT.at_stab _ _ _ _, PredT.at_stab _ _ _ _, PredT.at_stab _ _ _ _, PredT.at_stab _ _ _ _, PredT.at_stab _ _ _ _, PredT.at_stab _ _ _ _, trivial⟩
              · intro q hq
                rcases List.mem_cons.1 hq with rfl | hq
                · exact fun yy y' h hb => ⟨h.1.bel hb, (blk_below hb _ (blk_lt h.2)).trans h.2⟩
                rcases List.mem_cons.1 hq with rfl | hq
                · exact fun yy y' h hb => ⟨h.1.bel hb, (blk_below hb _ (blk_lt h.2)).trans h.2⟩
                rcases List.mem_cons.1 hq with rfl | hq
                · exact fun yy y' h hb => ⟨h.1.bel hb, (blk_below hb _ (blk_lt h.2)).trans h.2⟩
                cases hq
              · exact ⟨HS1.out, HBP.out⟩
              · refine ⟨.inr ?_, .inr ?_, .inr ?_, .inr ?_, .inr ?_, .inl rfl, .inr ?_, .inr ?_, .inr ?_, .inr ?_, .inr ?_, .inl rfl, .inr ?_, trivial⟩
                · intro b X p hE hd hn hS hV hI hF
                  have r7 : b.tmps[7]?.getD undef = .pointer (some ⟨lb, 0, none⟩) := (hn 7 (by kernel_rfl)).trans rfl
                  exact Pred.yields_run (v := .pointer (some ⟨lb, 0, none⟩)) (Pred.wanted_none rfl) (by go_simp) ⟨Below.refl _ _, rfl, Nat.zero_le _⟩
                · intro b X p hE hd hn hS hV hI hF
                  have r13 : b.tmps[13]?.getD undef = .pointer (some ⟨pa, 0, none⟩) := (hn 13 (by kernel_rfl)).trans rfl
                  exact Pred.yields_run (v := .pointer (some ⟨pa, 1, none⟩)) (Pred.wanted_none rfl) (by go_simp) ⟨Below.refl _ _, rfl, Nat.zero_le _⟩
                · intro b X p hE hd hn hS hV hI hF
                  obtain ⟨r101, j101⟩ : PredT.At 0 (.pointer (some ⟨pa, 1, none⟩)) (b.tmps[101]?.getD undef) X p := hV 1 _ 101 rfl rfl (Pred.waits_near (by kernel_rfl) (by kernel_rfl))
                  have hbp : blk X pa = some (.cells #[.int .i64 3, .int .i64 y, .int .i64 z] 32 (0, 0)) := sel_all hS (by simp only [List.mem_cons, List.not_mem_nil, or_false]; rintro q (rfl | rfl | rfl) h <;> exact h.2)
                  have cz : X.cell? ⟨pa, 1, none⟩ = some (.int .i64 y) := by rw [blk_cell hbp]; rfl
                  clear hS
                  exact Pred.yields_run (v := .int .i64 y) (Pred.wanted_none rfl) (by go_simp) ⟨Below.refl _ _, rfl, Nat.zero_le _⟩
                · intro b X p hE hd hn hS hV hI hF
                  have r13 : b.tmps[13]?.getD undef = .pointer (some ⟨pa, 0, none⟩) := (hn 13 (by kernel_rfl)).trans rfl
                  exact Pred.yields_run (v := .pointer (some ⟨pa, 2, none⟩)) (Pred.wanted_none rfl) (by go_simp) ⟨Below.refl _ _, rfl, Nat.zero_le _⟩
                · intro b X p hE hd hn hS hV hI hF
                  obtain ⟨r103, j103⟩ : PredT.At 0 (.pointer (some ⟨pa, 2, none⟩)) (b.tmps[103]?.getD undef) X p := hV 3 _ 103 rfl rfl (Pred.waits_near (by kernel_rfl) (by kernel_rfl))
                  have hbp : blk X pa = some (.cells #[.int .i64 3, .int .i64 y, .int .i64 z] 32 (0, 0)) := sel_all hS (by simp only [List.mem_cons, List.not_mem_nil, or_false]; rintro q (rfl | rfl | rfl) h <;> exact h.2)
                  have cz : X.cell? ⟨pa, 2, none⟩ = some (.int .i64 z) := by rw [blk_cell hbp]; rfl
                  clear hS
                  exact Pred.yields_run (v := .int .i64 z) (Pred.wanted_none rfl) (by go_simp) ⟨Below.refl _ _, rfl, Nat.zero_le _⟩
                · intro b X p hE hd hn hS hV hI hF
                  have r9 : b.tmps[9]?.getD undef = .pointer (some ⟨rb, 0, none⟩) := (hn 9 (by kernel_rfl)).trans rfl
                  exact Pred.yields_run (v := .pointer (some ⟨rb, 0, none⟩)) (Pred.wanted_none rfl) (by go_simp) ⟨Below.refl _ _, rfl, Nat.zero_le _⟩
                · intro b X p hE hd hn hS hV hI hF
                  have r13 : b.tmps[13]?.getD undef = .pointer (some ⟨pa, 0, none⟩) := (hn 13 (by kernel_rfl)).trans rfl
                  exact Pred.yields_run (v := .pointer (some ⟨pa, 1, none⟩)) (Pred.wanted_none rfl) (by go_simp) ⟨Below.refl _ _, rfl, Nat.zero_le _⟩
                · intro b X p hE hd hn hS hV hI hF
                  obtain ⟨r107, j107⟩ : PredT.At 0 (.pointer (some ⟨pa, 1, none⟩)) (b.tmps[107]?.getD undef) X p := hV 7 _ 107 rfl rfl (Pred.waits_near (by kernel_rfl) (by kernel_rfl))
                  have hbp : blk X pa = some (.cells #[.int .i64 3, .int .i64 y, .int .i64 z] 32 (0, 0)) := sel_all hS (by simp only [List.mem_cons, List.not_mem_nil, or_false]; rintro q (rfl | rfl | rfl) h <;> exact h.2)
                  have cz : X.cell? ⟨pa, 1, none⟩ = some (.int .i64 y) := by rw [blk_cell hbp]; rfl
                  clear hS
                  exact Pred.yields_run (v := .int .i64 y) (Pred.wanted_none rfl) (by go_simp) ⟨Below.refl _ _, rfl, Nat.zero_le _⟩
                · intro b X p hE hd hn hS hV hI hF
                  have r13 : b.tmps[13]?.getD undef = .pointer (some ⟨pa, 0, none⟩) := (hn 13 (by kernel_rfl)).trans rfl
                  exact Pred.yields_run (v := .pointer (some ⟨pa, 2, none⟩)) (Pred.wanted_none rfl) (by go_simp) ⟨Below.refl _ _, rfl, Nat.zero_le _⟩
                · intro b X p hE hd hn hS hV hI hF
                  obtain ⟨r109, j109⟩ : PredT.At 0 (.pointer (some ⟨pa, 2, none⟩)) (b.tmps[109]?.getD undef) X p := hV 9 _ 109 rfl rfl (Pred.waits_near (by kernel_rfl) (by kernel_rfl))
                  have hbp : blk X pa = some (.cells #[.int .i64 3, .int .i64 y, .int .i64 z] 32 (0, 0)) := sel_all hS (by simp only [List.mem_cons, List.not_mem_nil, or_false]; rintro q (rfl | rfl | rfl) h <;> exact h.2)
                  have cz : X.cell? ⟨pa, 2, none⟩ = some (.int .i64 z) := by rw [blk_cell hbp]; rfl
                  clear hS
                  exact Pred.yields_run (v := .int .i64 z) (Pred.wanted_none rfl) (by go_simp) ⟨Below.refl _ _, rfl, Nat.zero_le _⟩
                · intro b X p hE hd hn hS hV hI hF
                  obtain ⟨r105, j105⟩ : PredT.At 1 (.int .i64 (actE bs y z true 4)) (b.tmps[105]?.getD undef) X p := hV 5 _ 105 rfl rfl (Pred.waits_near (by kernel_rfl) (by kernel_rfl))
                  obtain ⟨r111, j111⟩ : PredT.At 2 (.int .i64 (actE bs y z true 4)) (b.tmps[111]?.getD undef) X p := hV 11 _ 111 rfl rfl (Pred.waits_near (by kernel_rfl) (by kernel_rfl))
                  exact Pred.yields_run (v := .bool false) (Pred.wanted_none rfl) (by go_simp) ⟨Below.refl _ _, rfl, (by omega)⟩
              · refine ⟨?_, ?_, trivial⟩
                · refine ⟨_, rfl, fun k hk => (by cases hk), fun b X hE hd hn hS hV hI => ?_⟩
                  obtain ⟨r100, j100⟩ : PredT.At 0 (.pointer (some ⟨lb, 0, none⟩)) (b.tmps[100]?.getD undef) X 0 := hV 0 _ 100 rfl rfl (Pred.waits_near (by kernel_rfl) (by kernel_rfl))
                  obtain ⟨r102, j102⟩ : PredT.At 0 (.int .i64 y) (b.tmps[102]?.getD undef) X 0 := hV 2 _ 102 rfl rfl (Pred.waits_near (by kernel_rfl) (by kernel_rfl))
                  obtain ⟨r104, j104⟩ : PredT.At 0 (.int .i64 z) (b.tmps[104]?.getD undef) X 0 := hV 4 _ 104 rfl rfl (Pred.waits_near (by kernel_rfl) (by kernel_rfl))
                  replace hS : (fun yy => AS w yy lb lg rb rg n cv wv bs bs ∧ blk yy pa = some (.cells #[.int .i64 3, .int .i64 y, .int .i64 z] 32 (0, 0))) X := hS
                  refine Pred.yields_call (f := 13) (args := #[.pointer (some ⟨lb, 0, none⟩), .int .i64 y, .int .i64 z]) (Pred.wanted_none rfl) (by go_simp) ?_
                  refine (give_as y z w X hS.1 hyy.1 hyy.2 hzz.1 hzz.2).mono ?_
                  rintro e w9 ⟨rfl, h9, g9⟩
                  exact ⟨_, rfl, hS.1.bw g9 hS.1.lo.1, ⟨h9, blk_turn hS.2 g9 hpg⟩, rfl, Nat.le_refl _⟩
                · refine ⟨_, rfl, fun k hk => (by cases hk; exact Pred.waits_near (by kernel_rfl) (by kernel_rfl)), fun b X hE hd hn hS hV hI => ?_⟩
                  obtain ⟨r106, j106⟩ : PredT.At 0 (.pointer (some ⟨rb, 0, none⟩)) (b.tmps[106]?.getD undef) X 1 := hV 6 _ 106 rfl rfl (Pred.waits_near (by kernel_rfl) (by kernel_rfl))
                  obtain ⟨r108, j108⟩ : PredT.At 0 (.int .i64 y) (b.tmps[108]?.getD undef) X 1 := hV 8 _ 108 rfl rfl (Pred.waits_near (by kernel_rfl) (by kernel_rfl))
                  obtain ⟨r110, j110⟩ : PredT.At 0 (.int .i64 z) (b.tmps[110]?.getD undef) X 1 := hV 10 _ 110 rfl rfl (Pred.waits_near (by kernel_rfl) (by kernel_rfl))
                  replace hS : (fun yy => AS w yy lb lg rb rg n cv wv (actB bs y z true) bs ∧ blk yy pa = some (.cells #[.int .i64 3, .int .i64 y, .int .i64 z] 32 (0, 0))) X := hS
                  refine Pred.yields_call (f := 14) (args := #[.pointer (some ⟨rb, 0, none⟩), .int .i64 y, .int .i64 z]) (Pred.wanted_none rfl) (by go_simp) ?_
                  refine (rgive_as y z w X hS.1 hyy.1 hyy.2 hzz.1 hzz.2).mono ?_
                  rintro e w9 ⟨rfl, h9, g9⟩
                  exact ⟨_, rfl, hS.1.bw g9 hS.1.lo.2, ⟨h9, blk_turn hS.2 g9 hprg⟩, rfl, Nat.le_refl _⟩
              intro v X hE hS hv
              replace hS : (fun yy => AS w yy lb lg rb rg n cv wv (actB bs y z true) (actB bs y z true) ∧ blk yy pa = some (.cells #[.int .i64 3, .int .i64 y, .int .i64 z] 32 (0, 0))) X := hS
              have e0 : v 0 = .pointer (some ⟨lb, 0, none⟩) := (hv 0 _ 100 rfl rfl).1
              have e1 : v 1 = .pointer (some ⟨pa, 1, none⟩) := (hv 1 _ 101 rfl rfl).1
              have e2 : v 2 = .int .i64 y := (hv 2 _ 102 rfl rfl).1
              have e3 : v 3 = .pointer (some ⟨pa, 2, none⟩) := (hv 3 _ 103 rfl rfl).1
              have e4 : v 4 = .int .i64 z := (hv 4 _ 104 rfl rfl).1
              have e5 : v 5 = .int .i64 (actE bs y z true 4) := (hv 5 _ 105 rfl rfl).1
              have e6 : v 6 = .pointer (some ⟨rb, 0, none⟩) := (hv 6 _ 106 rfl rfl).1
              have e7 : v 7 = .pointer (some ⟨pa, 1, none⟩) := (hv 7 _ 107 rfl rfl).1
              have e8 : v 8 = .int .i64 y := (hv 8 _ 108 rfl rfl).1
              have e9 : v 9 = .pointer (some ⟨pa, 2, none⟩) := (hv 9 _ 109 rfl rfl).1
              have e10 : v 10 = .int .i64 z := (hv 10 _ 110 rfl rfl).1
              have e11 : v 11 = .int .i64 (actE bs y z true 4) := (hv 11 _ 111 rfl rfl).1
              have e12 : v 12 = .bool false := (hv 12 _ 112 rfl rfl).1
              simp only [Pred.putsF_cons, Pred.putsF_nil, Nat.zero_add, Nat.reduceAdd, e0, e1, e2, e3, e4, e5, e6, e7, e8, e9, e10, e11, e12, Act.put, List.setIfInBounds_toArray, List.set_cons_zero, List.set_cons_succ]
              clear e0 e1 e2 e3 e4 e5 e6 e7 e8 e9 e10 e11 e12 hv
              go_wp2
              go_meet
              exact ⟨_, Lib.hid hS.1⟩
            · have q3 : (K == 3) = false := by simpa using k3
              go_wp2
              go_meet
              exact ⟨bs, HS1⟩
      case rest =>
      obtain ⟨bs1, H1⟩ := hcut
      obtain ⟨W1, e1⟩ : ∃ z : World, z = wc := ⟨_, rfl⟩
      subst e1
      clear HS1 HBP hwW
      have C := rfree_any W1 H1.out.r
      have hl1 := H1.out.m.lt
      have hl2 := H1.out.r.lt
      obtain ⟨R, hR⟩ : ∃ R, runs bs1 = R := ⟨_, rfl⟩
      rw [hR] at C
      obtain ⟨N, hN⟩ : ∃ N, R.length = N := ⟨_, rfl⟩
      rw [hN] at C
      have hNb : N ≤ 2048 := by have := runs_len bs1; have := H1.out.m.small.2.1; rw [hR, hN] at *; omega
      obtain ⟨cu, hcu⟩ : ∃ c, cnt bs1 = c := ⟨_, rfl⟩
      obtain ⟨k1, hk1⟩ : ∃ q, (R.take 1).length = q := ⟨_, rfl⟩
      have hk1' : k1 = min 1 N := by rw [← hk1, List.length_take, hN]
      have CU : Hid (∀ X : World, Mp X lb lg n bs1 → Calls Try.prog 16 #[.pointer (some ⟨lb, 0, none⟩)] X fun e w' => e = .returned (.int .i64 (cu : Nat)) ∧ Below X.heap.size X w') := Lib.hid fun X h => by
        have := used_cnt X h
        rw [hcu] at this
        exact this
      have CRU : Hid (∀ X : World, Mr X rb rg n bs1 → Calls Try.prog 17 #[.pointer (some ⟨rb, 0, none⟩)] X fun e w' => e = .returned (.int .i64 (cu : Nat)) ∧ Below X.heap.size X w') := Lib.hid fun X h => by
        have := rused_any X h
        rw [hcu] at this
        exact this
      have CF : Hid (∀ X : World, Mp X lb lg n bs1 → Calls Try.prog 19 #[.pointer (some ⟨lb, 0, none⟩), .int .i64 (-1)] X fun e w' => (∃ v, e = .returned v ∧ SP N R v w') ∧ Below X.heap.size X w') := Lib.hid fun X h => by
        have := free_st (-1) X h
        rw [cut_all, hR, hN] at this
        exact this.mono fun e w' ⟨⟨ad, c, h1, h2, _⟩, h3⟩ => ⟨⟨_, h1, ad, c, rfl, by unfold PRd; rw [hN]; exact h2⟩, h3⟩
      have CF1 : Hid (∀ X : World, Mp X lb lg n bs1 → Calls Try.prog 19 #[.pointer (some ⟨lb, 0, none⟩), .int .i64 1] X fun e w' => (∃ v, e = .returned v ∧ SP k1 (R.take 1) v w') ∧ Below X.heap.size X w') := Lib.hid fun X h => by
        have := free_st 1 X h
        rw [cut_one, hR, hk1] at this
        exact this.mono fun e w' ⟨⟨ad, c, h1, h2, _⟩, h3⟩ => ⟨⟨_, h1, ad, c, rfl, by unfold PRd; rw [hk1]; exact h2⟩, h3⟩
      have HN := Lib.hid hN
      have HRB := Lib.hid hR
      have HK1 := Lib.hid hk1
      have HK1' := Lib.hid hk1'
      have hk1b : k1 ≤ 1 := by omega
      have HC := Lib.hid C
      clear C hN hR hk1 hk1' hcu
      go_wp2_with fail
      refine HC.out.mono ?_
      rintro e W2 ⟨⟨ra, rc, rfl, hrow, hNc, hcase⟩, b2⟩
      have H2 := Lib.hid (H1.out.bel b2)
      have HROW2 := Lib.hid hrow
      have hsz12 := b2.size
      clear b2 H1 HC hrow
      rcases hcase with ⟨hRn, era, erc⟩ | ⟨gl, era, hgl⟩
      · subst era erc
        have hN0 : N = 0 := by rw [← HN.out, hRn]; rfl
        have hk10 : k1 = 0 := by rw [HK1'.out, hN0]; rfl
        subst hN0 hk10
        go_upto_region 28 with (fail)
        refine Rd.name_world ?_
        intro W hW
        rw [← hW] at H2 HROW2 hsz12
        clear hW
        have HROW1 := Lib.hid (prd_take1 HROW2.out)
        refine Pred.region_vals (Pred.Of [
            Is (.pointer (some ⟨lb, 0, none⟩)),
            Is (.int .i64 (cu : Nat)),
            Is (.pointer (some ⟨rb, 0, none⟩)),
            Is (.int .i64 (cu : Nat)),
            Is (.bool false),
            Is (.bool false),
            Is (.pointer (some ⟨lb, 0, none⟩)),
            SP (0) (R),
            Is (.slice none 0 0),
            Is (.bool true),
            Is (.bool false),
            Is (.bool false),
            Is (.bool false),
            Is (.pointer (some ⟨lb, 0, none⟩)),
            SP (0) (R.take 1),
            Is (.slice none 0 0),
            Is (.slice none 0 0),
            Is (.int .i64 (0 : Nat)),
            Is (.int .i64 (0 : Nat)),
            Is (.slice none 0 0),
            Is (.bool true),
            Is (.bool false),
            Is (.bool false)]) (by kernel_rfl) (by kernel_rfl) (by kernel_rfl) (Pred.of_stab ?_) ?_ ?_
        · exact ⟨is_stab _, is_stab _, is_stab _, is_stab _, is_stab _, is_stab _, is_stab _, sp_stab _ _, is_stab _, is_stab _, is_stab _, is_stab _, is_stab _, is_stab _, sp_stab _ _, is_stab _, is_stab _, is_stab _, is_stab _, is_stab _, is_stab _, is_stab _, is_stab _, trivial⟩
        · refine ⟨?_, ?_, ?_, ?_, ?_, ?_, ?_, ?_, ?_, ?_, ?_, ?_, ?_, ?_, ?_, ?_, ?_, ?_, ?_, ?_, ?_, ?_, ?_, trivial⟩
          · intro b X hE hd hn hV
            have r7 : b.tmps[7]?.getD undef = .pointer (some ⟨lb, 0, none⟩) := (hn 7 (by kernel_rfl)).trans rfl
            exact Pred.yields_run (v := .pointer (some ⟨lb, 0, none⟩)) (Pred.wanted_none rfl) (by go_simp) ⟨Pred.ext_refl _ _, rfl⟩
          · intro b X hE hd hn hV
            have r115 : b.tmps[115]?.getD undef = .pointer (some ⟨lb, 0, none⟩) := hV 0 _ 115 rfl rfl (Pred.waits_near (by kernel_rfl) (by kernel_rfl))
            refine Pred.yields_call (f := 16) (args := #[.pointer (some ⟨lb, 0, none⟩)]) (Pred.wanted_none rfl) (by go_simp) ?_
            exact (CU.out _ (H2.out.m.bel hE)).mono fun e w2 ⟨he, hb⟩ => ⟨_, he, Pred.ext_below hb hE.size, rfl⟩
          · intro b X hE hd hn hV
            have r9 : b.tmps[9]?.getD undef = .pointer (some ⟨rb, 0, none⟩) := (hn 9 (by kernel_rfl)).trans rfl
            exact Pred.yields_run (v := .pointer (some ⟨rb, 0, none⟩)) (Pred.wanted_none rfl) (by go_simp) ⟨Pred.ext_refl _ _, rfl⟩
          · intro b X hE hd hn hV
            have r117 : b.tmps[117]?.getD undef = .pointer (some ⟨rb, 0, none⟩) := hV 2 _ 117 rfl rfl (Pred.waits_near (by kernel_rfl) (by kernel_rfl))
            refine Pred.yields_call (f := 17) (args := #[.pointer (some ⟨rb, 0, none⟩)]) (Pred.wanted_none rfl) (by go_simp) ?_
            exact (CRU.out _ (H2.out.r.bel hE)).mono fun e w2 ⟨he, hb⟩ => ⟨_, he, Pred.ext_below hb hE.size, rfl⟩
          · intro b X hE hd hn hV
            have r116 : b.tmps[116]?.getD undef = .int .i64 (cu : Nat) := hV 1 _ 116 rfl rfl (Pred.waits_near (by kernel_rfl) (by kernel_rfl))
            have r118 : b.tmps[118]?.getD undef = .int .i64 (cu : Nat) := hV 3 _ 118 rfl rfl (Pred.waits_near (by kernel_rfl) (by kernel_rfl))
            exact Pred.yields_run (v := .bool false) (Pred.wanted_none rfl) (by go_simp) ⟨Pred.ext_refl _ _, rfl⟩
          · intro b X hE hd hn hV
            have r119 : b.tmps[119]?.getD undef = .bool false := hV 4 _ 119 rfl rfl (Pred.waits_near (by kernel_rfl) (by kernel_rfl))
            exact Pred.yields_run (v := .bool false) (Pred.wanted_none rfl) (by go_simp) ⟨Pred.ext_refl _ _, rfl⟩
          · intro b X hE hd hn hV
            have r7 : b.tmps[7]?.getD undef = .pointer (some ⟨lb, 0, none⟩) := (hn 7 (by kernel_rfl)).trans rfl
            have r120 : b.tmps[120]?.getD undef = .bool false := hV 5 _ 120 rfl rfl (Pred.waits_near (by kernel_rfl) (by kernel_rfl))
            exact Pred.yields_run (v := .pointer (some ⟨lb, 0, none⟩)) ((Pred.wanted_at (g := 5) (d := 120) (f := false) rfl rfl r120).trans rfl) (by go_simp) ⟨Pred.ext_refl _ _, rfl⟩
          · intro b X hE hd hn hV
            have r121 : b.tmps[121]?.getD undef = .pointer (some ⟨lb, 0, none⟩) := hV 6 _ 121 rfl rfl (Pred.waits_near (by kernel_rfl) (by kernel_rfl))
            have r120 : b.tmps[120]?.getD undef = .bool false := hV 5 _ 120 rfl rfl (Pred.waits_near (by kernel_rfl) (by kernel_rfl))
            refine Pred.yields_call (f := 19) (args := #[.pointer (some ⟨lb, 0, none⟩), .int .i64 (-1)]) ((Pred.wanted_at (g := 5) (d := 120) (f := false) rfl rfl r120).trans rfl) (by go_simp) ?_
            exact (CF.out _ (H2.out.m.bel hE)).mono fun e w2 ⟨⟨v, he, hp⟩, hb⟩ => ⟨v, he, Pred.ext_below hb hE.size, hp⟩
          · intro b X hE hd hn hV
            have r18 : b.tmps[18]?.getD undef = .slice none 0 0 := (hn 18 (by kernel_rfl)).trans rfl
            have r120 : b.tmps[120]?.getD undef = .bool false := hV 5 _ 120 rfl rfl (Pred.waits_near (by kernel_rfl) (by kernel_rfl))
            exact Pred.yields_run (v := .slice none 0 0) ((Pred.wanted_at (g := 5) (d := 120) (f := false) rfl rfl r120).trans rfl) (by go_simp) ⟨Pred.ext_refl _ _, rfl⟩
          · intro b X hE hd hn hV
            obtain ⟨ga122, ca122, r122, hr122⟩ : SP (0) (R) (b.tmps[122]?.getD undef) X := hV 7 _ 122 rfl rfl (Pred.waits_near (by kernel_rfl) (by kernel_rfl))
            have r123 : b.tmps[123]?.getD undef = .slice none 0 0 := hV 8 _ 123 rfl rfl (Pred.waits_near (by kernel_rfl) (by kernel_rfl))
            have r120 : b.tmps[120]?.getD undef = .bool false := hV 5 _ 120 rfl rfl (Pred.waits_near (by kernel_rfl) (by kernel_rfl))
            refine Pred.yields_call (f := 18) (args := #[.slice ga122 0 ca122, .slice none 0 0]) ((Pred.wanted_at (g := 5) (d := 120) (f := false) rfl rfl r120).trans rfl) (by go_simp) ?_
            have hq := same_any (R) (R) ga122 none ca122 0 X hr122 (HROW2.out.below hE) (by rw [HN.out]; omega) (by rw [HN.out]; omega)
            rw [decide_eq_true rfl, HN.out] at hq
            exact hq.mono fun e w2 ⟨he, hb⟩ => ⟨_, he, Pred.ext_below hb hE.size, rfl⟩
          · intro b X hE hd hn hV
            have r124 : b.tmps[124]?.getD undef = .bool true := hV 9 _ 124 rfl rfl (Pred.waits_near (by kernel_rfl) (by kernel_rfl))
            have r120 : b.tmps[120]?.getD undef = .bool false := hV 5 _ 120 rfl rfl (Pred.waits_near (by kernel_rfl) (by kernel_rfl))
            exact Pred.yields_run (v := .bool false) ((Pred.wanted_at (g := 5) (d := 120) (f := false) rfl rfl r120).trans rfl) (by go_simp) ⟨Pred.ext_refl _ _, rfl⟩
          · intro b X hE hd hn hV
            have r120 : b.tmps[120]?.getD undef = .bool false := hV 5 _ 120 rfl rfl (Pred.waits_near (by kernel_rfl) (by kernel_rfl))
            have r125 : b.tmps[125]?.getD undef = .bool false := hV 10 _ 125 rfl rfl (Pred.waits_near (by kernel_rfl) (by kernel_rfl))
            exact Pred.yields_run (v := .bool false) (Pred.wanted_none rfl) (by go_simp) ⟨Pred.ext_refl _ _, rfl⟩
          · intro b X hE hd hn hV
            have r126 : b.tmps[126]?.getD undef = .bool false := hV 11 _ 126 rfl rfl (Pred.waits_near (by kernel_rfl) (by kernel_rfl))
            exact Pred.yields_run (v := .bool false) (Pred.wanted_none rfl) (by go_simp) ⟨Pred.ext_refl _ _, rfl⟩
          · intro b X hE hd hn hV
            have r7 : b.tmps[7]?.getD undef = .pointer (some ⟨lb, 0, none⟩) := (hn 7 (by kernel_rfl)).trans rfl
            have r127 : b.tmps[127]?.getD undef = .bool false := hV 12 _ 127 rfl rfl (Pred.waits_near (by kernel_rfl) (by kernel_rfl))
            exact Pred.yields_run (v := .pointer (some ⟨lb, 0, none⟩)) ((Pred.wanted_at (g := 12) (d := 127) (f := false) rfl rfl r127).trans rfl) (by go_simp) ⟨Pred.ext_refl _ _, rfl⟩
          · intro b X hE hd hn hV
            have r128 : b.tmps[128]?.getD undef = .pointer (some ⟨lb, 0, none⟩) := hV 13 _ 128 rfl rfl (Pred.waits_near (by kernel_rfl) (by kernel_rfl))
            have r127 : b.tmps[127]?.getD undef = .bool false := hV 12 _ 127 rfl rfl (Pred.waits_near (by kernel_rfl) (by kernel_rfl))
            refine Pred.yields_call (f := 19) (args := #[.pointer (some ⟨lb, 0, none⟩), .int .i64 1]) ((Pred.wanted_at (g := 12) (d := 127) (f := false) rfl rfl r127).trans rfl) (by go_simp) ?_
            exact (CF1.out _ (H2.out.m.bel hE)).mono fun e w2 ⟨⟨v, he, hp⟩, hb⟩ => ⟨v, he, Pred.ext_below hb hE.size, hp⟩
          · intro b X hE hd hn hV
            have r18 : b.tmps[18]?.getD undef = .slice none 0 0 := (hn 18 (by kernel_rfl)).trans rfl
            have r127 : b.tmps[127]?.getD undef = .bool false := hV 12 _ 127 rfl rfl (Pred.waits_near (by kernel_rfl) (by kernel_rfl))
            exact Pred.yields_run (v := .slice none 0 0) ((Pred.wanted_at (g := 12) (d := 127) (f := false) rfl rfl r127).trans rfl) (by go_simp) ⟨Pred.ext_refl _ _, rfl⟩
          · intro b X hE hd hn hV
            have r18 : b.tmps[18]?.getD undef = .slice none 0 0 := (hn 18 (by kernel_rfl)).trans rfl
            have r127 : b.tmps[127]?.getD undef = .bool false := hV 12 _ 127 rfl rfl (Pred.waits_near (by kernel_rfl) (by kernel_rfl))
            exact Pred.yields_run (v := .slice none 0 0) ((Pred.wanted_at (g := 12) (d := 127) (f := false) rfl rfl r127).trans rfl) (by go_simp) ⟨Pred.ext_refl _ _, rfl⟩
          · intro b X hE hd hn hV
            have r131 : b.tmps[131]?.getD undef = .slice none 0 0 := hV 16 _ 131 rfl rfl (Pred.waits_near (by kernel_rfl) (by kernel_rfl))
            have r127 : b.tmps[127]?.getD undef = .bool false := hV 12 _ 127 rfl rfl (Pred.waits_near (by kernel_rfl) (by kernel_rfl))
            exact Pred.yields_run (v := .int .i64 (0 : Nat)) ((Pred.wanted_at (g := 12) (d := 127) (f := false) rfl rfl r127).trans rfl) (by go_simp) ⟨Pred.ext_refl _ _, rfl⟩
          · intro b X hE hd hn hV
            have r132 : b.tmps[132]?.getD undef = .int .i64 (0 : Nat) := hV 17 _ 132 rfl rfl (Pred.waits_near (by kernel_rfl) (by kernel_rfl))
            have r127 : b.tmps[127]?.getD undef = .bool false := hV 12 _ 127 rfl rfl (Pred.waits_near (by kernel_rfl) (by kernel_rfl))
            exact Pred.yields_run (v := .int .i64 (0 : Nat)) ((Pred.wanted_at (g := 12) (d := 127) (f := false) rfl rfl r127).trans rfl) (by go_simp) ⟨Pred.ext_refl _ _, rfl⟩
          · intro b X hE hd hn hV
            have r130 : b.tmps[130]?.getD undef = .slice none 0 0 := hV 15 _ 130 rfl rfl (Pred.waits_near (by kernel_rfl) (by kernel_rfl))
            have r133 : b.tmps[133]?.getD undef = .int .i64 (0 : Nat) := hV 18 _ 133 rfl rfl (Pred.waits_near (by kernel_rfl) (by kernel_rfl))
            have r127 : b.tmps[127]?.getD undef = .bool false := hV 12 _ 127 rfl rfl (Pred.waits_near (by kernel_rfl) (by kernel_rfl))
            exact Pred.yields_run (v := .slice none 0 0) ((Pred.wanted_at (g := 12) (d := 127) (f := false) rfl rfl r127).trans rfl) (by go_simp) ⟨Pred.ext_refl _ _, rfl⟩
          · intro b X hE hd hn hV
            obtain ⟨ga129, ca129, r129, hr129⟩ : SP (0) (R.take 1) (b.tmps[129]?.getD undef) X := hV 14 _ 129 rfl rfl (Pred.waits_near (by kernel_rfl) (by kernel_rfl))
            have r134 : b.tmps[134]?.getD undef = .slice none 0 0 := hV 19 _ 134 rfl rfl (Pred.waits_near (by kernel_rfl) (by kernel_rfl))
            have r127 : b.tmps[127]?.getD undef = .bool false := hV 12 _ 127 rfl rfl (Pred.waits_near (by kernel_rfl) (by kernel_rfl))
            refine Pred.yields_call (f := 18) (args := #[.slice ga129 0 ca129, .slice none 0 0]) ((Pred.wanted_at (g := 12) (d := 127) (f := false) rfl rfl r127).trans rfl) (by go_simp) ?_
            have hq := same_any (R.take 1) (R.take 1) ga129 none ca129 0 X hr129 (HROW1.out.below hE) (by rw [HK1.out]; omega) (by rw [HK1.out]; omega)
            rw [decide_eq_true rfl, HK1.out] at hq
            exact hq.mono fun e w2 ⟨he, hb⟩ => ⟨_, he, Pred.ext_below hb hE.size, rfl⟩
          · intro b X hE hd hn hV
            have r135 : b.tmps[135]?.getD undef = .bool true := hV 20 _ 135 rfl rfl (Pred.waits_near (by kernel_rfl) (by kernel_rfl))
            have r127 : b.tmps[127]?.getD undef = .bool false := hV 12 _ 127 rfl rfl (Pred.waits_near (by kernel_rfl) (by kernel_rfl))
            exact Pred.yields_run (v := .bool false) ((Pred.wanted_at (g := 12) (d := 127) (f := false) rfl rfl r127).trans rfl) (by go_simp) ⟨Pred.ext_refl _ _, rfl⟩
          · intro b X hE hd hn hV
            have r127 : b.tmps[127]?.getD undef = .bool false := hV 12 _ 127 rfl rfl (Pred.waits_near (by kernel_rfl) (by kernel_rfl))
            have r136 : b.tmps[136]?.getD undef = .bool false := hV 21 _ 136 rfl rfl (Pred.waits_near (by kernel_rfl) (by kernel_rfl))
            exact Pred.yields_run (v := .bool false) (Pred.wanted_none rfl) (by go_simp) ⟨Pred.ext_refl _ _, rfl⟩
        intro v X hE hv
        have e0 : v 0 = .pointer (some ⟨lb, 0, none⟩) := hv 0 _ 115 rfl rfl
        have e1 : v 1 = .int .i64 (cu : Nat) := hv 1 _ 116 rfl rfl
        have e2 : v 2 = .pointer (some ⟨rb, 0, none⟩) := hv 2 _ 117 rfl rfl
        have e3 : v 3 = .int .i64 (cu : Nat) := hv 3 _ 118 rfl rfl
        have e4 : v 4 = .bool false := hv 4 _ 119 rfl rfl
        have e5 : v 5 = .bool false := hv 5 _ 120 rfl rfl
        have e6 : v 6 = .pointer (some ⟨lb, 0, none⟩) := hv 6 _ 121 rfl rfl
        obtain ⟨ga7, ca7, e7, hr7⟩ : SP (0) (R) (v 7) X := hv 7 _ 122 rfl rfl
        have e8 : v 8 = .slice none 0 0 := hv 8 _ 123 rfl rfl
        have e9 : v 9 = .bool true := hv 9 _ 124 rfl rfl
        have e10 : v 10 = .bool false := hv 10 _ 125 rfl rfl
        have e11 : v 11 = .bool false := hv 11 _ 126 rfl rfl
        have e12 : v 12 = .bool false := hv 12 _ 127 rfl rfl
        have e13 : v 13 = .pointer (some ⟨lb, 0, none⟩) := hv 13 _ 128 rfl rfl
        obtain ⟨ga14, ca14, e14, hr14⟩ : SP (0) (R.take 1) (v 14) X := hv 14 _ 129 rfl rfl
        have e15 : v 15 = .slice none 0 0 := hv 15 _ 130 rfl rfl
        have e16 : v 16 = .slice none 0 0 := hv 16 _ 131 rfl rfl
        have e17 : v 17 = .int .i64 (0 : Nat) := hv 17 _ 132 rfl rfl
        have e18 : v 18 = .int .i64 (0 : Nat) := hv 18 _ 133 rfl rfl
        have e19 : v 19 = .slice none 0 0 := hv 19 _ 134 rfl rfl
        have e20 : v 20 = .bool true := hv 20 _ 135 rfl rfl
        have e21 : v 21 = .bool false := hv 21 _ 136 rfl rfl
        have e22 : v 22 = .bool false := hv 22 _ 137 rfl rfl
        simp only [Pred.putsF_cons, Pred.putsF_nil, Nat.zero_add, Nat.reduceAdd, e0, e1, e2, e3, e4, e5, e6, e7, e8, e9, e10, e11, e12, e13, e14, e15, e16, e17, e18, e19, e20, e21, e22, Act.put, List.setIfInBounds_toArray, List.set_cons_zero, List.set_cons_succ]
        clear e0 e1 e2 e3 e4 e5 e6 e7 e8 e9 e10 e11 e12 e13 e14 e15 e16 e17 e18 e19 e20 e21 e22 hv
        clear HROW1 CU CRU CF CF1
        have H4 := Lib.hid (H2.out.bel hE)
        have HR4 := Lib.hid (HROW2.out.below hE)
        have hsz4 := hE.size
        clear hE H2 HROW2
        by_cases hcp : (k : Int) = cp
        · have dcp : ((k : Int) == cp) = true := by simpa using hcp
          have C := Lib.hid (copy_any _ H4.out.m)
          clear hcp
          go_wp2_with fail
          refine C.out.mono ?_
          rintro e Z ⟨⟨cb, cg, cc, rfl, hcb, hcg, hcm⟩, bz⟩
          have H5 : Hid (AS w Z lb lg rb rg n (.pointer (some ⟨cb, 0, none⟩)) (.slice none 0 0) bs1 bs1) := Lib.hid (by
            have h := H4.out.bel bz
            refine ⟨h.m, h.r, h.len, h.below, h.lo, h.ne, Or.inr ⟨cb, cg, cc, bs1, none, 0, rfl, by rw [HRB.out, HN.out], hcm, by rw [HRB.out]; exact HR4.out.below bz, ⟨by omega, by omega, by omega, by omega⟩, Or.inr (fun a ea => by cases ea)⟩⟩)
          clear hcm bz C H4 HR4
          go_wp2
          exact ⟨⟨k + 1, bs1, _, _, by omega, rfl, rfl, by go_num, H5⟩, by simp [intOf]; omega⟩
        · have dcp : ((k : Int) == cp) = false := by simpa using hcp
          go_wp2
          exact ⟨⟨k + 1, bs1, _, _, by omega, rfl, rfl, by go_num, H4⟩, by simp [intOf]; omega⟩
      · subst era
        go_upto_region 28 with (fail)
        refine Rd.name_world ?_
        intro W hW
        rw [← hW] at H2 HROW2 hsz12
        clear hW
        have HROW1 := Lib.hid (prd_take1 HROW2.out)
        have hk1c : k1 ≤ rc := by have := HK1'.out; omega
        refine Pred.region_vals (Pred.Of [
            Is (.pointer (some ⟨lb, 0, none⟩)),
            Is (.int .i64 (cu : Nat)),
            Is (.pointer (some ⟨rb, 0, none⟩)),
            Is (.int .i64 (cu : Nat)),
            Is (.bool false),
            Is (.bool false),
            Is (.pointer (some ⟨lb, 0, none⟩)),
            SP (N) (R),
            Is (.slice (some ⟨gl, 0, none⟩) N rc),
            Is (.bool true),
            Is (.bool false),
            Is (.bool false),
            Is (.bool false),
            Is (.pointer (some ⟨lb, 0, none⟩)),
            SP (k1) (R.take 1),
            Is (.slice (some ⟨gl, 0, none⟩) N rc),
            Is (.slice (some ⟨gl, 0, none⟩) N rc),
            Is (.int .i64 (N : Nat)),
            Is (.int .i64 (k1 : Nat)),
            Is (.slice (some ⟨gl, 0, none⟩) k1 rc),
            Is (.bool true),
            Is (.bool false),
            Is (.bool false)]) (by kernel_rfl) (by kernel_rfl) (by kernel_rfl) (Pred.of_stab ?_) ?_ ?_
        · exact ⟨is_stab _, is_stab _, is_stab _, is_stab _, is_stab _, is_stab _, is_stab _, sp_stab _ _, is_stab _, is_stab _, is_stab _, is_stab _, is_stab _, is_stab _, sp_stab _ _, is_stab _, is_stab _, is_stab _, is_stab _, is_stab _, is_stab _, is_stab _, is_stab _, trivial⟩
        · refine ⟨?_, ?_, ?_, ?_, ?_, ?_, ?_, ?_, ?_, ?_, ?_, ?_, ?_, ?_, ?_, ?_, ?_, ?_, ?_, ?_, ?_, ?_, ?_, trivial⟩
          · intro b X hE hd hn hV
            have r7 : b.tmps[7]?.getD undef = .pointer (some ⟨lb, 0, none⟩) := (hn 7 (by kernel_rfl)).trans rfl
            exact Pred.yields_run (v := .pointer (some ⟨lb, 0, none⟩)) (Pred.wanted_none rfl) (by go_simp) ⟨Pred.ext_refl _ _, rfl⟩
          · intro b X hE hd hn hV
            have r115 : b.tmps[115]?.getD undef = .pointer (some ⟨lb, 0, none⟩) := hV 0 _ 115 rfl rfl (Pred.waits_near (by kernel_rfl) (by kernel_rfl))
            refine Pred.yields_call (f := 16) (args := #[.pointer (some ⟨lb, 0, none⟩)]) (Pred.wanted_none rfl) (by go_simp) ?_
            exact (CU.out _ (H2.out.m.bel hE)).mono fun e w2 ⟨he, hb⟩ => ⟨_, he, Pred.ext_below hb hE.size, rfl⟩
          · intro b X hE hd hn hV
            have r9 : b.tmps[9]?.getD undef = .pointer (some ⟨rb, 0, none⟩) := (hn 9 (by kernel_rfl)).trans rfl
            exact Pred.yields_run (v := .pointer (some ⟨rb, 0, none⟩)) (Pred.wanted_none rfl) (by go_simp) ⟨Pred.ext_refl _ _, rfl⟩
          · intro b X hE hd hn hV
            have r117 : b.tmps[117]?.getD undef = .pointer (some ⟨rb, 0, none⟩) := hV 2 _ 117 rfl rfl (Pred.waits_near (by kernel_rfl) (by kernel_rfl))
            refine Pred.yields_call (f := 17) (args := #[.pointer (some ⟨rb, 0, none⟩)]) (Pred.wanted_none rfl) (by go_simp) ?_
            exact (CRU.out _ (H2.out.r.bel hE)).mono fun e w2 ⟨he, hb⟩ => ⟨_, he, Pred.ext_below hb hE.size, rfl⟩
          · intro b X hE hd hn hV
            have r116 : b.tmps[116]?.getD undef = .int .i64 (cu : Nat) := hV 1 _ 116 rfl rfl (Pred.waits_near (by kernel_rfl) (by kernel_rfl))
            have r118 : b.tmps[118]?.getD undef = .int .i64 (cu : Nat) := hV 3 _ 118 rfl rfl (Pred.waits_near (by kernel_rfl) (by kernel_rfl))
            exact Pred.yields_run (v := .bool false) (Pred.wanted_none rfl) (by go_simp) ⟨Pred.ext_refl _ _, rfl⟩
          · intro b X hE hd hn hV
            have r119 : b.tmps[119]?.getD undef = .bool false := hV 4 _ 119 rfl rfl (Pred.waits_near (by kernel_rfl) (by kernel_rfl))
            exact Pred.yields_run (v := .bool false) (Pred.wanted_none rfl) (by go_simp) ⟨Pred.ext_refl _ _, rfl⟩
          · intro b X hE hd hn hV
            have r7 : b.tmps[7]?.getD undef = .pointer (some ⟨lb, 0, none⟩) := (hn 7 (by kernel_rfl)).trans rfl
            have r120 : b.tmps[120]?.getD undef = .bool false := hV 5 _ 120 rfl rfl (Pred.waits_near (by kernel_rfl) (by kernel_rfl))
            exact Pred.yields_run (v := .pointer (some ⟨lb, 0, none⟩)) ((Pred.wanted_at (g := 5) (d := 120) (f := false) rfl rfl r120).trans rfl) (by go_simp) ⟨Pred.ext_refl _ _, rfl⟩
          · intro b X hE hd hn hV
            have r121 : b.tmps[121]?.getD undef = .pointer (some ⟨lb, 0, none⟩) := hV 6 _ 121 rfl rfl (Pred.waits_near (by kernel_rfl) (by kernel_rfl))
            have r120 : b.tmps[120]?.getD undef = .bool false := hV 5 _ 120 rfl rfl (Pred.waits_near (by kernel_rfl) (by kernel_rfl))
            refine Pred.yields_call (f := 19) (args := #[.pointer (some ⟨lb, 0, none⟩), .int .i64 (-1)]) ((Pred.wanted_at (g := 5) (d := 120) (f := false) rfl rfl r120).trans rfl) (by go_simp) ?_
            exact (CF.out _ (H2.out.m.bel hE)).mono fun e w2 ⟨⟨v, he, hp⟩, hb⟩ => ⟨v, he, Pred.ext_below hb hE.size, hp⟩
          · intro b X hE hd hn hV
            have r18 : b.tmps[18]?.getD undef = .slice (some ⟨gl, 0, none⟩) N rc := (hn 18 (by kernel_rfl)).trans rfl
            have r120 : b.tmps[120]?.getD undef = .bool false := hV 5 _ 120 rfl rfl (Pred.waits_near (by kernel_rfl) (by kernel_rfl))
            exact Pred.yields_run (v := .slice (some ⟨gl, 0, none⟩) N rc) ((Pred.wanted_at (g := 5) (d := 120) (f := false) rfl rfl r120).trans rfl) (by go_simp) ⟨Pred.ext_refl _ _, rfl⟩
          · intro b X hE hd hn hV
            obtain ⟨ga122, ca122, r122, hr122⟩ : SP (N) (R) (b.tmps[122]?.getD undef) X := hV 7 _ 122 rfl rfl (Pred.waits_near (by kernel_rfl) (by kernel_rfl))
            have r123 : b.tmps[123]?.getD undef = .slice (some ⟨gl, 0, none⟩) N rc := hV 8 _ 123 rfl rfl (Pred.waits_near (by kernel_rfl) (by kernel_rfl))
            have r120 : b.tmps[120]?.getD undef = .bool false := hV 5 _ 120 rfl rfl (Pred.waits_near (by kernel_rfl) (by kernel_rfl))
            refine Pred.yields_call (f := 18) (args := #[.slice ga122 N ca122, .slice (some ⟨gl, 0, none⟩) N rc]) ((Pred.wanted_at (g := 5) (d := 120) (f := false) rfl rfl r120).trans rfl) (by go_simp) ?_
            have hq := same_any (R) (R) ga122 (some ⟨gl, 0, none⟩) ca122 rc X hr122 (HROW2.out.below hE) (by rw [HN.out]; omega) (by rw [HN.out]; omega)
            rw [decide_eq_true rfl, HN.out] at hq
            exact hq.mono fun e w2 ⟨he, hb⟩ => ⟨_, he, Pred.ext_below hb hE.size, rfl⟩
          · intro b X hE hd hn hV
            have r124 : b.tmps[124]?.getD undef = .bool true := hV 9 _ 124 rfl rfl (Pred.waits_near (by kernel_rfl) (by kernel_rfl))
            have r120 : b.tmps[120]?.getD undef = .bool false := hV 5 _ 120 rfl rfl (Pred.waits_near (by kernel_rfl) (by kernel_rfl))
            exact Pred.yields_run (v := .bool false) ((Pred.wanted_at (g := 5) (d := 120) (f := false) rfl rfl r120).trans rfl) (by go_simp) ⟨Pred.ext_refl _ _, rfl⟩
          · intro b X hE hd hn hV
            have r120 : b.tmps[120]?.getD undef = .bool false := hV 5 _ 120 rfl rfl (Pred.waits_near (by kernel_rfl) (by kernel_rfl))
            have r125 : b.tmps[125]?.getD undef = .bool false := hV 10 _ 125 rfl rfl (Pred.waits_near (by kernel_rfl) (by kernel_rfl))
            exact Pred.yields_run (v := .bool false) (Pred.wanted_none rfl) (by go_simp) ⟨Pred.ext_refl _ _, rfl⟩
          · intro b X hE hd hn hV
            have r126 : b.tmps[126]?.getD undef = .bool false := hV 11 _ 126 rfl rfl (Pred.waits_near (by kernel_rfl) (by kernel_rfl))
            exact Pred.yields_run (v := .bool false) (Pred.wanted_none rfl) (by go_simp) ⟨Pred.ext_refl _ _, rfl⟩
          · intro b X hE hd hn hV
            have r7 : b.tmps[7]?.getD undef = .pointer (some ⟨lb, 0, none⟩) := (hn 7 (by kernel_rfl)).trans rfl
            have r127 : b.tmps[127]?.getD undef = .bool false := hV 12 _ 127 rfl rfl (Pred.waits_near (by kernel_rfl) (by kernel_rfl))
            exact Pred.yields_run (v := .pointer (some ⟨lb, 0, none⟩)) ((Pred.wanted_at (g := 12) (d := 127) (f := false) rfl rfl r127).trans rfl) (by go_simp) ⟨Pred.ext_refl _ _, rfl⟩
          · intro b X hE hd hn hV
            have r128 : b.tmps[128]?.getD undef = .pointer (some ⟨lb, 0, none⟩) := hV 13 _ 128 rfl rfl (Pred.waits_near (by kernel_rfl) (by kernel_rfl))
            have r127 : b.tmps[127]?.getD undef = .bool false := hV 12 _ 127 rfl rfl (Pred.waits_near (by kernel_rfl) (by kernel_rfl))
            refine Pred.yields_call (f := 19) (args := #[.pointer (some ⟨lb, 0, none⟩), .int .i64 1]) ((Pred.wanted_at (g := 12) (d := 127) (f := false) rfl rfl r127).trans rfl) (by go_simp) ?_
            exact (CF1.out _ (H2.out.m.bel hE)).mono fun e w2 ⟨⟨v, he, hp⟩, hb⟩ => ⟨v, he, Pred.ext_below hb hE.size, hp⟩
          · intro b X hE hd hn hV
            have r18 : b.tmps[18]?.getD undef = .slice (some ⟨gl, 0, none⟩) N rc := (hn 18 (by kernel_rfl)).trans rfl
            have r127 : b.tmps[127]?.getD undef = .bool false := hV 12 _ 127 rfl rfl (Pred.waits_near (by kernel_rfl) (by kernel_rfl))
            exact Pred.yields_run (v := .slice (some ⟨gl, 0, none⟩) N rc) ((Pred.wanted_at (g := 12) (d := 127) (f := false) rfl rfl r127).trans rfl) (by go_simp) ⟨Pred.ext_refl _ _, rfl⟩
          · intro b X hE hd hn hV
            have r18 : b.tmps[18]?.getD undef = .slice (some ⟨gl, 0, none⟩) N rc := (hn 18 (by kernel_rfl)).trans rfl
            have r127 : b.tmps[127]?.getD undef = .bool false := hV 12 _ 127 rfl rfl (Pred.waits_near (by kernel_rfl) (by kernel_rfl))
            exact Pred.yields_run (v := .slice (some ⟨gl, 0, none⟩) N rc) ((Pred.wanted_at (g := 12) (d := 127) (f := false) rfl rfl r127).trans rfl) (by go_simp) ⟨Pred.ext_refl _ _, rfl⟩
          · intro b X hE hd hn hV
            have r131 : b.tmps[131]?.getD undef = .slice (some ⟨gl, 0, none⟩) N rc := hV 16 _ 131 rfl rfl (Pred.waits_near (by kernel_rfl) (by kernel_rfl))
            have r127 : b.tmps[127]?.getD undef = .bool false := hV 12 _ 127 rfl rfl (Pred.waits_near (by kernel_rfl) (by kernel_rfl))
            exact Pred.yields_run (v := .int .i64 (N : Nat)) ((Pred.wanted_at (g := 12) (d := 127) (f := false) rfl rfl r127).trans rfl) (by go_simp) ⟨Pred.ext_refl _ _, rfl⟩
          · intro b X hE hd hn hV
            have r132 : b.tmps[132]?.getD undef = .int .i64 (N : Nat) := hV 17 _ 132 rfl rfl (Pred.waits_near (by kernel_rfl) (by kernel_rfl))
            have r127 : b.tmps[127]?.getD undef = .bool false := hV 12 _ 127 rfl rfl (Pred.waits_near (by kernel_rfl) (by kernel_rfl))
            have hk3 := HK1'.out
            have hmn : (if (N : Int) < 1 then (N : Int) else 1) = (k1 : Int) := by split <;> omega
            have hmn2 : min (1 : Int) (N : Int) = (k1 : Int) := by omega
            clear hk3
            exact Pred.yields_run (v := .int .i64 (k1 : Nat)) ((Pred.wanted_at (g := 12) (d := 127) (f := false) rfl rfl r127).trans rfl) (by go_simp) ⟨Pred.ext_refl _ _, rfl⟩
          · intro b X hE hd hn hV
            have r130 : b.tmps[130]?.getD undef = .slice (some ⟨gl, 0, none⟩) N rc := hV 15 _ 130 rfl rfl (Pred.waits_near (by kernel_rfl) (by kernel_rfl))
            have r133 : b.tmps[133]?.getD undef = .int .i64 (k1 : Nat) := hV 18 _ 133 rfl rfl (Pred.waits_near (by kernel_rfl) (by kernel_rfl))
            have r127 : b.tmps[127]?.getD undef = .bool false := hV 12 _ 127 rfl rfl (Pred.waits_near (by kernel_rfl) (by kernel_rfl))
            have hk0 : (0 : Int) ≤ (k1 : Int) := by omega
            have hkc2 : (k1 : Int) ≤ (rc : Int) := by omega
            have hkc3 : ¬ rc < k1 := by omega
            exact Pred.yields_run (v := .slice (some ⟨gl, 0, none⟩) k1 rc) ((Pred.wanted_at (g := 12) (d := 127) (f := false) rfl rfl r127).trans rfl) (by go_simp) ⟨Pred.ext_refl _ _, rfl⟩
          · intro b X hE hd hn hV
            obtain ⟨ga129, ca129, r129, hr129⟩ : SP (k1) (R.take 1) (b.tmps[129]?.getD undef) X := hV 14 _ 129 rfl rfl (Pred.waits_near (by kernel_rfl) (by kernel_rfl))
            have r134 : b.tmps[134]?.getD undef = .slice (some ⟨gl, 0, none⟩) k1 rc := hV 19 _ 134 rfl rfl (Pred.waits_near (by kernel_rfl) (by kernel_rfl))
            have r127 : b.tmps[127]?.getD undef = .bool false := hV 12 _ 127 rfl rfl (Pred.waits_near (by kernel_rfl) (by kernel_rfl))
            refine Pred.yields_call (f := 18) (args := #[.slice ga129 k1 ca129, .slice (some ⟨gl, 0, none⟩) k1 rc]) ((Pred.wanted_at (g := 12) (d := 127) (f := false) rfl rfl r127).trans rfl) (by go_simp) ?_
            have hq := same_any (R.take 1) (R.take 1) ga129 (some ⟨gl, 0, none⟩) ca129 rc X hr129 (HROW1.out.below hE) (by rw [HK1.out]; omega) (by rw [HK1.out]; omega)
            rw [decide_eq_true rfl, HK1.out] at hq
            exact hq.mono fun e w2 ⟨he, hb⟩ => ⟨_, he, Pred.ext_below hb hE.size, rfl⟩
          · intro b X hE hd hn hV
            have r135 : b.tmps[135]?.getD undef = .bool true := hV 20 _ 135 rfl rfl (Pred.waits_near (by kernel_rfl) (by kernel_rfl))
            have r127 : b.tmps[127]?.getD undef = .bool false := hV 12 _ 127 rfl rfl (Pred.waits_near (by kernel_rfl) (by kernel_rfl))
            exact Pred.yields_run (v := .bool false) ((Pred.wanted_at (g := 12) (d := 127) (f := false) rfl rfl r127).trans rfl) (by go_simp) ⟨Pred.ext_refl _ _, rfl⟩
          · intro b X hE hd hn hV
            have r127 : b.tmps[127]?.getD undef = .bool false := hV 12 _ 127 rfl rfl (Pred.waits_near (by kernel_rfl) (by kernel_rfl))
            have r136 : b.tmps[136]?.getD undef = .bool false := hV 21 _ 136 rfl rfl (Pred.waits_near (by kernel_rfl) (by kernel_rfl))
            exact Pred.yields_run (v := .bool false) (Pred.wanted_none rfl) (by go_simp) ⟨Pred.ext_refl _ _, rfl⟩
        intro v X hE hv
        have e0 : v 0 = .pointer (some ⟨lb, 0, none⟩) := hv 0 _ 115 rfl rfl
        have e1 : v 1 = .int .i64 (cu : Nat) := hv 1 _ 116 rfl rfl
        have e2 : v 2 = .pointer (some ⟨rb, 0, none⟩) := hv 2 _ 117 rfl rfl
        have e3 : v 3 = .int .i64 (cu : Nat) := hv 3 _ 118 rfl rfl
        have e4 : v 4 = .bool false := hv 4 _ 119 rfl rfl
        have e5 : v 5 = .bool false := hv 5 _ 120 rfl rfl
        have e6 : v 6 = .pointer (some ⟨lb, 0, none⟩) := hv 6 _ 121 rfl rfl
        obtain ⟨ga7, ca7, e7, hr7⟩ : SP (N) (R) (v 7) X := hv 7 _ 122 rfl rfl
        have e8 : v 8 = .slice (some ⟨gl, 0, none⟩) N rc := hv 8 _ 123 rfl rfl
        have e9 : v 9 = .bool true := hv 9 _ 124 rfl rfl
        have e10 : v 10 = .bool false := hv 10 _ 125 rfl rfl
        have e11 : v 11 = .bool false := hv 11 _ 126 rfl rfl
        have e12 : v 12 = .bool false := hv 12 _ 127 rfl rfl
        have e13 : v 13 = .pointer (some ⟨lb, 0, none⟩) := hv 13 _ 128 rfl rfl
        obtain ⟨ga14, ca14, e14, hr14⟩ : SP (k1) (R.take 1) (v 14) X := hv 14 _ 129 rfl rfl
        have e15 : v 15 = .slice (some ⟨gl, 0, none⟩) N rc := hv 15 _ 130 rfl rfl
        have e16 : v 16 = .slice (some ⟨gl, 0, none⟩) N rc := hv 16 _ 131 rfl rfl
        have e17 : v 17 = .int .i64 (N : Nat) := hv 17 _ 132 rfl rfl
        have e18 : v 18 = .int .i64 (k1 : Nat) := hv 18 _ 133 rfl rfl
        have e19 : v 19 = .slice (some ⟨gl, 0, none⟩) k1 rc := hv 19 _ 134 rfl rfl
        have e20 : v 20 = .bool true := hv 20 _ 135 rfl rfl
        have e21 : v 21 = .bool false := hv 21 _ 136 rfl rfl
        have e22 : v 22 = .bool false := hv 22 _ 137 rfl rfl
        simp only [Pred.putsF_cons, Pred.putsF_nil, Nat.zero_add, Nat.reduceAdd, e0, e1, e2, e3, e4, e5, e6, e7, e8, e9, e10, e11, e12, e13, e14, e15, e16, e17, e18, e19, e20, e21, e22, Act.put, List.setIfInBounds_toArray, List.set_cons_zero, List.set_cons_succ]
        clear e0 e1 e2 e3 e4 e5 e6 e7 e8 e9 e10 e11 e12 e13 e14 e15 e16 e17 e18 e19 e20 e21 e22 hv
        clear HROW1 CU CRU CF CF1
        have H4 := Lib.hid (H2.out.bel hE)
        have HR4 := Lib.hid (HROW2.out.below hE)
        have hsz4 := hE.size
        clear hE H2 HROW2
        by_cases hcp : (k : Int) = cp
        · have dcp : ((k : Int) == cp) = true := by simpa using hcp
          have C := Lib.hid (copy_any _ H4.out.m)
          clear hcp
          go_wp2_with fail
          refine C.out.mono ?_
          rintro e Z ⟨⟨cb, cg, cc, rfl, hcb, hcg, hcm⟩, bz⟩
          have H5 : Hid (AS w Z lb lg rb rg n (.pointer (some ⟨cb, 0, none⟩)) (.slice (some ⟨gl, 0, none⟩) N rc) bs1 bs1) := Lib.hid (by
            have h := H4.out.bel bz
            refine ⟨h.m, h.r, h.len, h.below, h.lo, h.ne, Or.inr ⟨cb, cg, cc, bs1, (some ⟨gl, 0, none⟩), rc, rfl, by rw [HRB.out, HN.out], hcm, by rw [HRB.out]; exact HR4.out.below bz, ⟨by omega, by omega, by omega, by omega⟩, Or.inr (fun a ea => by injection ea with ea; subst ea; exact ⟨by show gl ≠ lg; omega, by show gl ≠ rg; omega⟩)⟩⟩)
          clear hcm bz C H4 HR4
          go_wp2
          exact ⟨⟨k + 1, bs1, _, _, by omega, rfl, rfl, by go_num, H5⟩, by simp [intOf]; omega⟩
        · have dcp : ((k : Int) == cp) = false := by simpa using hcp
          go_wp2
          exact ⟨⟨k + 1, bs1, _, _, by omega, rfl, rfl, by go_num, H4⟩, by simp [intOf]; omega⟩
    · obtain rfl : k = len := by omega
      rcases HS.out.cs with e0 | ⟨cb, cg, cc, cbs, wa, wc, e1, e2, h3, h4, h5, h6⟩
      · subst e0
        have LY := HS.out.below
        go_wp2_with fail
        refine (awake_any _).mono ?_
        rintro e x5 ⟨rfl, b1⟩
        have L5 : Below w.heap.size w x5 := LY.trans (b1.mono LY.size)
        clear b1
        go_wp2
        go_ret
        exact ⟨rfl, L5⟩
      · subst e1 e2
        obtain ⟨N, hN⟩ : ∃ N, (runs cbs).length = N := ⟨_, rfl⟩
        have C := free_st (-1) W0 h3
        rw [cut_all] at C
        have hNb : N ≤ 2048 := by have := runs_len cbs; have := h3.small.2.1; omega
        have CS9 : Hid (∀ (a : Option Addr) (c : Nat) (X : World), PRd X a (runs cbs) → PRd X wa (runs cbs) → Calls Try.prog 18 #[.slice a N c, .slice wa N wc] X fun e w' => e = .returned (.bool true) ∧ Below X.heap.size X w') := Lib.hid fun a c X h1 h2 => by
          have := same_any (runs cbs) (runs cbs) a wa c wc X h1 h2 (by omega) (by omega)
          rw [decide_eq_true rfl, hN] at this
          exact this
        rw [hN] at C ⊢
        have HC := Lib.hid C
        have H4 := Lib.hid h4
        have HN := Lib.hid hN
        have LY := HS.out.below
        clear C hN h3 h4 h5 h6 HS
        go_wp2_with fail
        refine HC.out.mono ?_
        rintro e X1 ⟨⟨ad, c, rfl, hr, -⟩, b1⟩
        have HR1 : Hid (PRd X1 ad (runs cbs)) := Lib.hid (by unfold PRd; rw [HN.out]; exact hr)
        have H5 := Lib.hid (H4.out.below b1)
        have L1 : Below w.heap.size w X1 := LY.trans (b1.mono LY.size)
        clear b1 hr H4 HC
        go_wp2_with fail
        refine (CS9.out ad c X1 HR1.out H5.out).mono ?_
        rintro e X2 ⟨rfl, b1⟩
        have L2 : Below w.heap.size w X2 := L1.trans (b1.mono L1.size)
        clear b1 HR1 H5 CS9
        go_wp2_with fail
        refine (awake_any _).mono ?_
        rintro e x5 ⟨rfl, b1⟩
        have L5 : Below w.heap.size w x5 := L2.trans (b1.mono L2.size)
        clear b1
        go_wp2
        go_ret
        exact ⟨rfl, L5⟩
end Go.Proofs.Ytmhjhfjbfoklpaa.ExK

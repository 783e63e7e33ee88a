/-
  wainscotref17: SameHues, SameTex: two of the same texels.
-/
import Derived.Test.YtdjiblgnealmkaaMpG
import Derived.Test.YtdjiblgnealmkaaEq
namespace Go.Proofs.Ytdjiblgnealmkaa.MpT
open Go.RowKit Rd Go.Proofs.Ytdjiblgnealmkaa.Row Mid DkM HueA MpM MpA MpB MpC MpD MpE MpF MpG
set_option linter.unusedVariables false
set_option linter.unusedSimpArgs false
set_option maxRecDepth 10000
theorem eq_px (p q : Px) (w : World) (d : Nat) : (Op.equalIn (d + 2) 39 (.agg p.c) (.agg q.c)).run Try.prog w = .ok (decide (p = q)) w := by
  have h := Eq.eq_col p.r p.g p.b p.a q.r q.g q.b q.a w d
  refine Eq.trans h ?_
  congr 1
  obtain ⟨r, g, b, a⟩ := p
  obtain ⟨r', g', b', a'⟩ := q
  simp only [Px.mk.injEq, Bool.decide_and]
  rfl
theorem px_self (p : Px) : decide (p = p) = true := decide_eq_true rfl
attribute [local go_sem ↓] load_col store_col alloc_col
attribute [local go_sem] eq_px px_self
set_option maxHeartbeats 8000000 in
theorem hues_same (a b : Addr) (n ca cb : Nat) (ps : List Px) (w : World) (ha : Reads w 4 (some a) n (cp ps)) (hb : Reads w 4 (some b) n (cp ps)) (hn : n ≤ 1000000) :
    Calls Try.prog 50 #[.slice (some a) n ca, .slice (some b) n cb] w fun e w' => e = .returned (.bool true) ∧ Below w.heap.size w w' := by
  have hl : ps.length = n := by
    have := ha.1
    rw [cp_len] at this
    omega
  have HL := Lib.hid hl
  clear hl
  go_enter Try.func50, Try.ntmps50
  go_wp2_with fail
  go_loopw [5] (fun i Y => ∃ k : Nat, k ≤ n ∧ i = .int .i64 k ∧ Below w.heap.size w Y) (fun i _ => n - (intOf i).toNat)
  case atStart => exact ⟨0, by omega, rfl, Below.refl _ _⟩
  case round =>
    obtain ⟨k, hk, rfl, hB⟩ := hrel
    rename World => Y
    by_cases hlt : k < n
    · have hlt' : (k : Int) < (n : Int) := by omega
      obtain ⟨ab, ao, hae⟩ : ∃ ab ao, a = ⟨ab, ao, none⟩ := by
        rcases ha.2 with h | ⟨b9, o9, h, _⟩
        · omega
        · cases h; exact ⟨_, _, rfl⟩
      obtain ⟨bb, bo, hbe⟩ : ∃ ab ao, b = ⟨ab, ao, none⟩ := by
        rcases hb.2 with h | ⟨b9, o9, h, _⟩
        · omega
        · cases h; exact ⟨_, _, rfl⟩
      subst hae
      subst hbe
      have g1 := ld_regrown (ha.below hB (Nat.le_refl _)) (i := k) (by have := HL.out; omega)
      have g2 := ld_regrown (hb.below hB (Nat.le_refl _)) (i := k) (by have := HL.out; omega)
      go_upto_region 6 with (fail)
      (refine wp_region_quiet_below (by kernel_rfl) (by kernel_rfl) ?_; (repeat (go_big_quiet_step ((fail)))); refine wpQuiet_nil ?_)
      intro w3 hU
      have KU := Rd.below_of_regrown hU
      have L3 : Below w.heap.size w w3 := hB.trans (KU.mono hB.size)
      clear hU g1 g2
      go_wp2_with fail
      first
        | exact ⟨⟨k + 1, by omega, by go_num, L3⟩, by simp [intOf]; omega⟩
        | (go_roundw
           case rel => exact ⟨k + 1, by omega, by go_num, L3⟩
           case measure => simp [intOf]; omega)
    · obtain rfl : k = n := by omega
      go_wp2_with fail
      go_ret
      exact ⟨rfl, hB⟩
set_option maxHeartbeats 8000000 in
theorem tex_same (D : Nat) (wr : Bool) (a b : Addr) (n ca cb : Nat) (ps : List Px) (w : World) (ha : Reads w 4 (some a) n (cp ps)) (hb : Reads w 4 (some b) n (cp ps)) (hn : n ≤ 1000000) (hD : D ≤ 3) :
    Calls Try.prog 21 #[.agg #[.int .i64 D, .bool wr, .slice (some a) n ca], .agg #[.int .i64 D, .bool wr, .slice (some b) n cb]] w fun e w' => e = .returned (.bool true) ∧ Below w.heap.size w w' := by
  have CH := Lib.hid fun X (hX : Below w.heap.size w X) => hues_same a b n ca cb ps X (ha.below hX (Nat.le_refl _)) (hb.below hX (Nat.le_refl _)) hn
  clear ha hb
  go_enter Try.func21, Try.ntmps21
  go_wp2_with (go_at_call 50; refine (CH.out _ (by repeat' (first | (with_reducible exact Below.refl _ _) | (with_reducible refine Rd.below_step ?_ (by assumption)) | (with_reducible refine Rd.below_alloc ?_ _) | (with_reducible refine Rd.below_drewN ?_ _) | (with_reducible refine Below.drew ?_) | (with_reducible refine Below.setCell ?_ ?_ _) | (with_reducible refine Rd.below_setRow ?_ ?_ _) | go_size | (simp only [World.size_alloc]; omega) | omega))).mono ?_; rintro e w3 ⟨rfl, hb⟩)
  go_ret
  exact ⟨rfl, by repeat' (first | (with_reducible exact Below.refl _ _) | (with_reducible refine Rd.below_step ?_ (by assumption)) | (with_reducible refine Rd.below_alloc ?_ _) | (with_reducible refine Rd.below_drewN ?_ _) | (with_reducible refine Below.drew ?_) | (with_reducible refine Below.setCell ?_ ?_ _) | (with_reducible refine Rd.below_setRow ?_ ?_ _) | go_size | (simp only [World.size_alloc]; omega) | omega)⟩
end Go.Proofs.Ytdjiblgnealmkaa.MpT

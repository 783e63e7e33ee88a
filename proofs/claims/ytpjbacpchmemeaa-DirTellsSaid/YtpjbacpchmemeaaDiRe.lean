/-
  The document's own directory: its bytes.
-/
import Derived.Test.YtpjbacpchmemeaaDiRb
import Derived.Test.YtpjbacpchmemeaaRefA
import Derived.Test.YtpjbacpchmemeaaPredD
import Derived.Test.YtpjbacpchmemeaaDiW
namespace Go.Proofs.Ytpjbacpchmemeaa.DiRe
open Go.RowKit Go.Shelf Rd Go.Proofs.Ytpjbacpchmemeaa.Row Mid PgM PgA PgB PgC DiM DiA DiC DiD DiE DiF DiJ DiK DiL DiN DiQ DiX DiRb OctA OctB
open Go.Proofs.Ytpjbacpchmemeaa.DiM (at_ at_get ce ce_len ce_app ce_one ce_ones ce_at)
set_option linter.unusedVariables false
set_option linter.unusedSimpArgs false
set_option maxRecDepth 10000
attribute [local go_sem ↓] load_pg store_pg load_en store_en alloc_en eq_pg3
attribute [local go_sem] one_int pc3 piece_en piece_p3 DiI.fold_en run_store_pg run_alloc_en run_store_en rowStore_eq blk_alloc_at blk_alloc_old blk_drew blk_drewN blk_set_far blk_set_far' blk_grow setRow_alloc_at setRow_alloc_old setRow_drew setRow_drewN En.c_size En.c_all all6
theorem ld_pbox9 {W : World} {b : Nat} {p : En} {fr : Nat × Nat} (h : W.heap[b]? = some (.cells p.c 39 fr)) : (loadRow 25 (.pointer (some ⟨b, 0, none⟩))).run Try.prog W = .ok (pg p.L p.X p.Y) W := by
  exact run_loadAt_mid (P := Try.prog) W b 0 25 [.int .i64 p.L, .int .i64 p.X, .int .i64 p.Y] _ (fun j v hj => by
    have hj4 : j < 3 := (List.getElem?_eq_some_iff.1 hj).1
    unfold World.cell?
    simp only [Nat.zero_add]
    rw [h]
    rcases (show j = 0 ∨ j = 1 ∨ j = 2 by omega) with rfl | rfl | rfl <;> exact hj) Try.underlying25 rfl (by kernel_rfl)
theorem wrap_u {m : Int} (h : 0 ≤ m ∧ m ≤ 4294967295) : IntKind.i64.wrap m = m := IntWalk.i64_in _ (by omega)
theorem dirB_step (d : Int) {r : List En} {k : Nat} (hk : k < r.length) : dirB d (r.take (k + 1)) = dirB d (r.take k) ++ entB d (at_ r k) := by rw [take_snoc hk, dirB_app, dirB_one]
set_option maxHeartbeats 8000000 in
theorem rbytes_any (t : Nat) (d : Int) (r : List En) (w : World) (h : Rf w t d r) (hm : ∀ p ∈ r, mayP d p) (hB : RB r) (hsm : r.length ≤ 1000) :
    Calls Try.prog 39 #[.pointer (some ⟨t, 0, none⟩)] w fun e w' => (∃ a c, e = .returned (.slice a (10 * r.length) c) ∧ Reads w' 1 a (10 * r.length) (u8s (dirB d r))) ∧ Below w.heap.size w w' := by
  have lT := h.lt
  obtain ⟨a, c, bT, hRL, hcL⟩ := h
  have HRL := Lib.hid hRL
  have BT := Lib.hid bT
  have HMM := Lib.hid hm
  have HBB := Lib.hid hB
  obtain ⟨n, en⟩ : ∃ n, r.length = n := ⟨_, rfl⟩
  rw [en] at BT hcL hsm ⊢
  have HN := Lib.hid en
  clear en hRL bT hm hB
  go_enter Try.func39, Try.ntmps39
  go_wp2_with fail
  go_loopw [3, 4] (fun v i W => ∃ k : Nat, k ≤ n ∧ i = .int .i64 (k : Int) ∧ Hid (W.ownsRow w.heap.size 5 1 v (10 * k) (u8s (dirB d (r.take k)))) ∧ Below w.heap.size w W) (fun _ i _ => n - (intOf i).toNat)
  case atStart => exact ⟨0, Nat.zero_le _, rfl, Lib.hid (World.ownsRow_nil _ _ _ _), Below.refl _ _⟩
  case round =>
    obtain ⟨k, hk, rfl, HW, hb⟩ := hrel
    rename World => W
    rename Value => v
    obtain ⟨av, cv, rfl, hcv⟩ := Rd.owns_val HW.out
    clear hcv
    have c1 : W.cell? ⟨t, 1, none⟩ = some (.slice a n c) := by rw [blk_cell ((blk_below hb t lT).trans BT.out)]; rfl
    by_cases hlt : k < n
    · have hlt' : (k : Int) < (n : Int) := by omega
      have hkl : k < r.length := by rw [HN.out]; exact hlt
      obtain ⟨g2, o2, e2⟩ := HRL.out.2 (fun e => by have := HN.out; rw [e] at this; simp at this; omega)
      rw [e2] at c1
      have hld := ld_en ((show RdE w (some ⟨g2, o2, none⟩) r from e2 ▸ HRL.out).bel hb).1 (i := k) hkl
      have HDS := Lib.hid (dirB_step d hkl)
      have hpm := HMM.out _ (show at_ r k ∈ r by rw [at_get hkl]; exact List.getElem_mem hkl)
      have hpB := HBB.out _ (show at_ r k ∈ r by rw [at_get hkl]; exact List.getElem_mem hkl)
      obtain ⟨p, ep⟩ : ∃ p, at_ r k = p := ⟨_, rfl⟩
      rw [ep] at hld HDS hpm hpB
      have hks := key_small hpm
      have bS := hpm.2.1
      have bN := hpm.2.2.1
      obtain ⟨kp, ekp⟩ : ∃ z, p.K d = z := ⟨_, rfl⟩
      have CK : Hid (∀ X, Calls Try.prog 35 #[.int .i64 d, pg p.L p.X p.Y] X fun e w' => e = .returned (.int .i64 kp) ∧ Below X.heap.size X w') := Lib.hid (fun X => by
        have := rkey_any d p.L p.X p.Y X
        rw [show keyV d p.L p.X p.Y = kp from ekp] at this
        exact this)
      have HEB : Hid (entB d p = byts kp 2 ++ byts p.S 2 ++ byts p.N 2 ++ byts p.M 4) := Lib.hid (by rw [← ekp]; rfl)
      rw [ekp] at hks
      have hpM : 0 ≤ p.M ∧ p.M ≤ 4294967295 := hpB
      have hwM := wrap_u hpM
      clear ep ekp hpm hpB
      go_upto_region 6 with (fail)
      refine Rd.name_world ?_
      intro w3 hw
      have bE : blk w3 W.heap.size = some (.cells p.c 39 (0, 0)) := by rw [hw]; exact blk_alloc_at _ _ _ rfl
      have hW3 : Below W.heap.size W w3 := by
        rw [hw]
        exact (Below.refl _ _).alloc (Nat.le_refl _) _
      obtain ⟨ge, ege⟩ : ∃ ge, W.heap.size = ge := ⟨_, rfl⟩
      rw [ege] at bE ⊢
      have L3 := Rd.below_step hb hW3
      have bT3 := (blk_below L3 t lT).trans BT.out
      have lE := blk_lt bE
      have hk0 : ∀ (k9 : Nat) (c9 : Array Value) (t9 : TypeId) (fr : Nat × Nat), w3.heap[k9]? = some (.cells c9 t9 fr) → t9 ≠ 5 → some k9 ≠ (Value.slice av (10 * k) cv).ownBlock := fun k9 c9 t9 fr hk9 ht9 e9 => by
        rcases HW.out.2 with ⟨e8, _⟩ | ⟨g9, cap9, cur9, e8, _, hg9, _⟩
        · rw [e8] at e9; cases e9
        · rw [e8] at e9
          obtain rfl : k9 = g9 := by simpa [Value.ownBlock] using e9
          have h7 := (hW3.block k9 (blk_lt (show blk W k9 = _ from hg9))).trans hg9
          rw [hk9] at h7
          cases h7
          exact ht9 rfl
      have lT3 := blk_lt bT3
      have gb3 : W.grownBy w3 none := ⟨hW3.os, hW3.tape, hW3.output, hW3.size, fun k hk _ => hW3.block k (ege ▸ hk)⟩
      have hown3 : w3.ownsRow w.heap.size 5 1 (.slice av (10 * k) cv) (10 * k) (u8s (dirB d (r.take k))) := HW.out.kept gb3 (by cases (Value.slice av (10 * k) cv).ownBlock with
        | none => exact .inl rfl
        | some _ => exact .inr (by simp))
      have s3 := L3.size
      obtain ⟨K, eK⟩ : ∃ K, 10 * k = K := ⟨_, rfl⟩
      rw [eK] at hown3 hk0 ⊢
      have EK := Lib.hid eK
      have hK : K ≤ 10000 := by omega
      obtain ⟨ZS, eZ⟩ : ∃ z, dirB d (r.take k) = z := ⟨_, rfl⟩
      rw [eZ] at hown3 HDS
      have c0 : w3.cell? ⟨t, 0, none⟩ = some (.int .i64 d) := by rw [blk_cell bT3]; rfl
      have e3 : w3.cell? ⟨ge, 3, none⟩ = some (.int .i64 p.S) := by rw [blk_cell bE]; rfl
      have e4 : w3.cell? ⟨ge, 4, none⟩ = some (.int .i64 p.N) := by rw [blk_cell bE]; rfl
      have e5 : w3.cell? ⟨ge, 5, none⟩ = some (.int .u32 p.M) := by rw [blk_cell bE]; rfl
      clear hw hld hb ege hW3 eK eZ HW c1
      go_upto_region 6 with (fail)
      refine PredD.region_of (W := w3) (w.heap.size) (by omega) [9, 13, 17, 22, 23] 23 ((.slice av K cv : Value).ownBlock) hk0 [
          PredD.Is (.slice av K cv),
          PredD.Is (.pointer (some ⟨t, 0, none⟩)),
          PredD.Is (.pointer (some ⟨t, 0, none⟩)),
          PredD.Is (.pointer (some ⟨t, 0, none⟩)),
          PredD.Is (.int .i64 d),
          PredD.Is (.pointer (some ⟨ge, 0, none⟩)),
          PredD.Is (.agg #[.int .i64 p.L, .int .i64 p.X, .int .i64 p.Y]),
          PredD.Is (.int .i64 kp),
          PredD.Rb (byts kp 2) 5,
          PredD.Oc (w.heap.size) 5 (K + (byts kp 2).length) (u8s ZS ++ u8s (byts kp 2)),
          PredD.Is (.pointer (some ⟨ge, 3, none⟩)),
          PredD.Is (.int .i64 p.S),
          PredD.Rb (byts p.S 2) 5,
          PredD.Oc (w.heap.size) 5 (K + (byts kp 2).length + (byts p.S 2).length) (u8s ZS ++ u8s (byts kp 2) ++ u8s (byts p.S 2)),
          PredD.Is (.pointer (some ⟨ge, 4, none⟩)),
          PredD.Is (.int .i64 p.N),
          PredD.Rb (byts p.N 2) 5,
          PredD.Oc (w.heap.size) 5 (K + (byts kp 2).length + (byts p.S 2).length + (byts p.N 2).length) (u8s ZS ++ u8s (byts kp 2) ++ u8s (byts p.S 2) ++ u8s (byts p.N 2)),
          PredD.Is (.pointer (some ⟨ge, 5, none⟩)),
          PredD.Is (.int .u32 p.M),
          PredD.Is (.int .i64 p.M),
          PredD.Rb (byts p.M 4) 5,
          PredD.Oc (w.heap.size) 5 (K + (byts kp 2).length + (byts p.S 2).length + (byts p.N 2).length + (byts p.M 4).length) (u8s ZS ++ u8s (byts kp 2) ++ u8s (byts p.S 2) ++ u8s (byts p.N 2) ++ u8s (byts p.M 4)),
          PredD.Oc (w.heap.size) 5 (K + (byts kp 2).length + (byts p.S 2).length + (byts p.N 2).length + (byts p.M 4).length) (u8s ZS ++ u8s (byts kp 2) ++ u8s (byts p.S 2) ++ u8s (byts p.N 2) ++ u8s (byts p.M 4))] 5 (K) (u8s ZS) (.slice av K cv) (by kernel_rfl) (by kernel_rfl) (by kernel_rfl) (by decide) rfl (by decide) ?_ ⟨hown3, rfl⟩ ?_ ?_ ?_
      · exact ⟨.inr (PredD.is_stab _), .inl rfl, .inr (PredD.is_stab _), .inl rfl, .inr (PredD.is_stab _), .inl rfl, .inr (PredD.is_stab _), .inl rfl, .inr (PredD.is_stab _), .inl rfl, .inr (PredD.is_stab _), .inl rfl, .inr (PredD.is_stab _), .inl rfl, .inr (PredD.is_stab _), .inl rfl, .inr (PredD.rb_stab _ _), .inl rfl, .inl rfl, .inr (PredD.oc_stab _ _ _ _), .inr (PredD.is_stab _), .inl rfl, .inr (PredD.is_stab _), .inl rfl, .inr (PredD.rb_stab _ _), .inl rfl, .inl rfl, .inr (PredD.oc_stab _ _ _ _), .inr (PredD.is_stab _), .inl rfl, .inr (PredD.is_stab _), .inl rfl, .inr (PredD.rb_stab _ _), .inl rfl, .inl rfl, .inr (PredD.oc_stab _ _ _ _), .inr (PredD.is_stab _), .inl rfl, .inr (PredD.is_stab _), .inl rfl, .inr (PredD.is_stab _), .inl rfl, .inr (PredD.rb_stab _ _), .inl rfl, .inl rfl, .inr (PredD.oc_stab _ _ _ _), .inl rfl, .inr (PredD.oc_stab _ _ _ _), trivial⟩
      · refine ⟨.inr ?_, .inr ?_, .inr ?_, .inr ?_, .inr ?_, .inr ?_, .inr ?_, .inr ?_, .inr ?_, .inl rfl, .inr ?_, .inr ?_, .inr ?_, .inl rfl, .inr ?_, .inr ?_, .inr ?_, .inl rfl, .inr ?_, .inr ?_, .inr ?_, .inr ?_, .inl rfl, .inl rfl, trivial⟩
        · intro b X G hE hd hn hG hV hI
          have r3 : b.tmps[3]?.getD undef = .slice av K cv := (hI 23 _ 3 rfl rfl (by kernel_rfl)).trans rfl
          exact Pred.yields_run (v := .slice av K cv) (Pred.wanted_none rfl) (by go_simp) ⟨PredD.ext_refl _ _ _, rfl⟩
        · intro b X G hE hd hn hG hV hI
          have r0 : b.tmps[0]?.getD undef = .pointer (some ⟨t, 0, none⟩) := (hn 0 (by kernel_rfl)).trans rfl
          exact Pred.yields_run (v := .pointer (some ⟨t, 0, none⟩)) (Pred.wanted_none rfl) (by go_simp) ⟨PredD.ext_refl _ _ _, rfl⟩
        · intro b X G hE hd hn hG hV hI
          have r23 : b.tmps[23]?.getD undef = .pointer (some ⟨t, 0, none⟩) := hV 1 _ 23 rfl rfl rfl (Pred.waits_near (by kernel_rfl) (by kernel_rfl))
          exact Pred.yields_run (v := .pointer (some ⟨t, 0, none⟩)) (Pred.wanted_none rfl) (by go_simp) ⟨PredD.ext_refl _ _ _, rfl⟩
        · intro b X G hE hd hn hG hV hI
          have r24 : b.tmps[24]?.getD undef = .pointer (some ⟨t, 0, none⟩) := hV 2 _ 24 rfl rfl rfl (Pred.waits_near (by kernel_rfl) (by kernel_rfl))
          exact Pred.yields_run (v := .pointer (some ⟨t, 0, none⟩)) (Pred.wanted_none rfl) (by go_simp) ⟨PredD.ext_refl _ _ _, rfl⟩
        · intro b X G hE hd hn hG hV hI
          have r25 : b.tmps[25]?.getD undef = .pointer (some ⟨t, 0, none⟩) := hV 3 _ 25 rfl rfl rfl (Pred.waits_near (by kernel_rfl) (by kernel_rfl))
          have hc := (hE.1.cell (p := ⟨t, 0, none⟩) (by show t < _; omega)).trans c0
          exact Pred.yields_run (v := .int .i64 d) (Pred.wanted_none rfl) (by go_simp) ⟨PredD.ext_refl _ _ _, rfl⟩
        · intro b X G hE hd hn hG hV hI
          have r5 : b.tmps[5]?.getD undef = .pointer (some ⟨ge, 0, none⟩) := (hn 5 (by kernel_rfl)).trans rfl
          exact Pred.yields_run (v := .pointer (some ⟨ge, 0, none⟩)) (Pred.wanted_none rfl) (by go_simp) ⟨PredD.ext_refl _ _ _, rfl⟩
        · intro b X G hE hd hn hG hV hI
          have r27 : b.tmps[27]?.getD undef = .pointer (some ⟨ge, 0, none⟩) := hV 5 _ 27 rfl rfl rfl (Pred.waits_near (by kernel_rfl) (by kernel_rfl))
          obtain ⟨⟨fr9, hk9⟩, -⟩ := hE.2 ge _ _ _ bE (by decide)
          have hc := ld_pbox9 hk9
          exact Pred.yields_run (v := .agg #[.int .i64 p.L, .int .i64 p.X, .int .i64 p.Y]) (Pred.wanted_none rfl) (by go_simp) ⟨PredD.ext_refl _ _ _, rfl⟩
        · intro b X G hE hd hn hG hV hI
          have r26 : b.tmps[26]?.getD undef = .int .i64 d := hV 4 _ 26 rfl rfl rfl (Pred.waits_near (by kernel_rfl) (by kernel_rfl))
          have r28 : b.tmps[28]?.getD undef = .agg #[.int .i64 p.L, .int .i64 p.X, .int .i64 p.Y] := hV 6 _ 28 rfl rfl rfl (Pred.waits_near (by kernel_rfl) (by kernel_rfl))
          refine Pred.yields_call (f := 35) (args := #[.int .i64 d, .agg #[.int .i64 p.L, .int .i64 p.X, .int .i64 p.Y]]) (Pred.wanted_none rfl) (by go_simp) ?_
          exact (CK.out _).mono fun e w2 ⟨he, hb⟩ => ⟨_, he, PredD.ext_below hb (by have := hE.1.size; omega) hG, rfl⟩
        · intro b X G hE hd hn hG hV hI
          have r29 : b.tmps[29]?.getD undef = .int .i64 kp := hV 7 _ 29 rfl rfl rfl (Pred.waits_near (by kernel_rfl) (by kernel_rfl))
          refine Pred.yields_call (f := 55) (args := #[.int .i64 kp, .int .i64 2]) (Pred.wanted_none rfl) (by go_simp) ?_
          refine (RefA.big_any kp 2 _ (by omega) (by omega)).mono fun e w2 ⟨v, he, hown, hb⟩ => ⟨v, he, PredD.ext_below hb (by have := hE.1.size; omega) hG, RefA.rb_own hown (by omega) hG⟩
        · intro b X G hE hd hn hG hV hI
          have r5 : b.tmps[5]?.getD undef = .pointer (some ⟨ge, 0, none⟩) := (hn 5 (by kernel_rfl)).trans rfl
          exact Pred.yields_run (v := .pointer (some ⟨ge, 3, none⟩)) (Pred.wanted_none rfl) (by go_simp) ⟨PredD.ext_refl _ _ _, rfl⟩
        · intro b X G hE hd hn hG hV hI
          have r32 : b.tmps[32]?.getD undef = .pointer (some ⟨ge, 3, none⟩) := hV 10 _ 32 rfl rfl rfl (Pred.waits_near (by kernel_rfl) (by kernel_rfl))
          obtain ⟨⟨fr9, hk9⟩, -⟩ := hE.2 ge _ _ _ bE (by decide)
          have hc : X.cell? ⟨ge, 3, none⟩ = some (.int .i64 p.S) := by unfold World.cell?; simp only; rw [hk9]; rfl
          exact Pred.yields_run (v := .int .i64 p.S) (Pred.wanted_none rfl) (by go_simp) ⟨PredD.ext_refl _ _ _, rfl⟩
        · intro b X G hE hd hn hG hV hI
          have r33 : b.tmps[33]?.getD undef = .int .i64 p.S := hV 11 _ 33 rfl rfl rfl (Pred.waits_near (by kernel_rfl) (by kernel_rfl))
          refine Pred.yields_call (f := 55) (args := #[.int .i64 p.S, .int .i64 2]) (Pred.wanted_none rfl) (by go_simp) ?_
          refine (RefA.big_any p.S 2 _ (by omega) (by omega)).mono fun e w2 ⟨v, he, hown, hb⟩ => ⟨v, he, PredD.ext_below hb (by have := hE.1.size; omega) hG, RefA.rb_own hown (by omega) hG⟩
        · intro b X G hE hd hn hG hV hI
          have r5 : b.tmps[5]?.getD undef = .pointer (some ⟨ge, 0, none⟩) := (hn 5 (by kernel_rfl)).trans rfl
          exact Pred.yields_run (v := .pointer (some ⟨ge, 4, none⟩)) (Pred.wanted_none rfl) (by go_simp) ⟨PredD.ext_refl _ _ _, rfl⟩
        · intro b X G hE hd hn hG hV hI
          have r36 : b.tmps[36]?.getD undef = .pointer (some ⟨ge, 4, none⟩) := hV 14 _ 36 rfl rfl rfl (Pred.waits_near (by kernel_rfl) (by kernel_rfl))
          obtain ⟨⟨fr9, hk9⟩, -⟩ := hE.2 ge _ _ _ bE (by decide)
          have hc : X.cell? ⟨ge, 4, none⟩ = some (.int .i64 p.N) := by unfold World.cell?; simp only; rw [hk9]; rfl
          exact Pred.yields_run (v := .int .i64 p.N) (Pred.wanted_none rfl) (by go_simp) ⟨PredD.ext_refl _ _ _, rfl⟩
        · intro b X G hE hd hn hG hV hI
          have r37 : b.tmps[37]?.getD undef = .int .i64 p.N := hV 15 _ 37 rfl rfl rfl (Pred.waits_near (by kernel_rfl) (by kernel_rfl))
          refine Pred.yields_call (f := 55) (args := #[.int .i64 p.N, .int .i64 2]) (Pred.wanted_none rfl) (by go_simp) ?_
          refine (RefA.big_any p.N 2 _ (by omega) (by omega)).mono fun e w2 ⟨v, he, hown, hb⟩ => ⟨v, he, PredD.ext_below hb (by have := hE.1.size; omega) hG, RefA.rb_own hown (by omega) hG⟩
        · intro b X G hE hd hn hG hV hI
          have r5 : b.tmps[5]?.getD undef = .pointer (some ⟨ge, 0, none⟩) := (hn 5 (by kernel_rfl)).trans rfl
          exact Pred.yields_run (v := .pointer (some ⟨ge, 5, none⟩)) (Pred.wanted_none rfl) (by go_simp) ⟨PredD.ext_refl _ _ _, rfl⟩
        · intro b X G hE hd hn hG hV hI
          have r40 : b.tmps[40]?.getD undef = .pointer (some ⟨ge, 5, none⟩) := hV 18 _ 40 rfl rfl rfl (Pred.waits_near (by kernel_rfl) (by kernel_rfl))
          obtain ⟨⟨fr9, hk9⟩, -⟩ := hE.2 ge _ _ _ bE (by decide)
          have hc : X.cell? ⟨ge, 5, none⟩ = some (.int .u32 p.M) := by unfold World.cell?; simp only; rw [hk9]; rfl
          exact Pred.yields_run (v := .int .u32 p.M) (Pred.wanted_none rfl) (by go_simp) ⟨PredD.ext_refl _ _ _, rfl⟩
        · intro b X G hE hd hn hG hV hI
          have r41 : b.tmps[41]?.getD undef = .int .u32 p.M := hV 19 _ 41 rfl rfl rfl (Pred.waits_near (by kernel_rfl) (by kernel_rfl))
          exact Pred.yields_run (v := .int .i64 p.M) (Pred.wanted_none rfl) (by go_simp) ⟨PredD.ext_refl _ _ _, rfl⟩
        · intro b X G hE hd hn hG hV hI
          have r42 : b.tmps[42]?.getD undef = .int .i64 p.M := hV 20 _ 42 rfl rfl rfl (Pred.waits_near (by kernel_rfl) (by kernel_rfl))
          refine Pred.yields_call (f := 55) (args := #[.int .i64 p.M, .int .i64 4]) (Pred.wanted_none rfl) (by go_simp) ?_
          refine (RefA.big_any p.M 4 _ (by omega) (by omega)).mono fun e w2 ⟨v, he, hown, hb⟩ => ⟨v, he, PredD.ext_below hb (by have := hE.1.size; omega) hG, RefA.rb_own hown (by omega) hG⟩
      · refine ⟨?_, ?_, ?_, ?_, ?_, trivial⟩
        · refine ⟨_, rfl, fun k hk => (by cases hk), fun b X G hE hd hn hG hV hI hP => ?_⟩
          have r22 : b.tmps[22]?.getD undef = .slice av K cv := hV 0 _ 22 rfl rfl rfl (Pred.waits_near (by kernel_rfl) (by kernel_rfl))
          have r30 : PredD.Rb (byts kp 2) 5 (b.tmps[30]?.getD undef) X G := hV 8 _ 30 rfl rfl rfl (Pred.waits_near (by kernel_rfl) (by kernel_rfl))
          have hO : PredD.Oc (w.heap.size) 5 (K) (u8s ZS) (.slice av K cv) X G := hP
          have hsz := hE.1.size
          rw [← r22] at hO
          exact PredD.yields_append rfl (.tmp 22) (.tmp 30) 23 5 5 rfl Try.underlying23 OctB.info_u8 _ _ _ (by simp [Act.eval]) hO (byts kp 2) _ (by simp [Act.eval]) r30 (by simp [byts_len]) (by simp [byts_len]; omega) (by omega)
        · refine ⟨_, rfl, fun k hk => (by cases hk; exact Pred.waits_near (by kernel_rfl) (by kernel_rfl)), fun b X G hE hd hn hG hV hI hP => ?_⟩
          have r34 : PredD.Rb (byts p.S 2) 5 (b.tmps[34]?.getD undef) X G := hV 12 _ 34 rfl rfl rfl (Pred.waits_near (by kernel_rfl) (by kernel_rfl))
          have hO : PredD.Oc (w.heap.size) 5 (K + (byts kp 2).length) (u8s ZS ++ u8s (byts kp 2)) (b.tmps[31]?.getD undef) X G := hP _ 31 rfl rfl
          have hsz := hE.1.size
          exact PredD.yields_append rfl (.tmp 31) (.tmp 34) 23 5 5 rfl Try.underlying23 OctB.info_u8 _ _ _ (by simp [Act.eval]) hO (byts p.S 2) _ (by simp [Act.eval]) r34 (by simp [byts_len]) (by simp [byts_len]; omega) (by omega)
        · refine ⟨_, rfl, fun k hk => (by cases hk; exact Pred.waits_near (by kernel_rfl) (by kernel_rfl)), fun b X G hE hd hn hG hV hI hP => ?_⟩
          have r38 : PredD.Rb (byts p.N 2) 5 (b.tmps[38]?.getD undef) X G := hV 16 _ 38 rfl rfl rfl (Pred.waits_near (by kernel_rfl) (by kernel_rfl))
          have hO : PredD.Oc (w.heap.size) 5 (K + (byts kp 2).length + (byts p.S 2).length) (u8s ZS ++ u8s (byts kp 2) ++ u8s (byts p.S 2)) (b.tmps[35]?.getD undef) X G := hP _ 35 rfl rfl
          have hsz := hE.1.size
          exact PredD.yields_append rfl (.tmp 35) (.tmp 38) 23 5 5 rfl Try.underlying23 OctB.info_u8 _ _ _ (by simp [Act.eval]) hO (byts p.N 2) _ (by simp [Act.eval]) r38 (by simp [byts_len]) (by simp [byts_len]; omega) (by omega)
        · refine ⟨_, rfl, fun k hk => (by cases hk; exact Pred.waits_near (by kernel_rfl) (by kernel_rfl)), fun b X G hE hd hn hG hV hI hP => ?_⟩
          have r43 : PredD.Rb (byts p.M 4) 5 (b.tmps[43]?.getD undef) X G := hV 21 _ 43 rfl rfl rfl (Pred.waits_near (by kernel_rfl) (by kernel_rfl))
          have hO : PredD.Oc (w.heap.size) 5 (K + (byts kp 2).length + (byts p.S 2).length + (byts p.N 2).length) (u8s ZS ++ u8s (byts kp 2) ++ u8s (byts p.S 2) ++ u8s (byts p.N 2)) (b.tmps[39]?.getD undef) X G := hP _ 39 rfl rfl
          have hsz := hE.1.size
          exact PredD.yields_append rfl (.tmp 39) (.tmp 43) 23 5 5 rfl Try.underlying23 OctB.info_u8 _ _ _ (by simp [Act.eval]) hO (byts p.M 4) _ (by simp [Act.eval]) r43 (by simp [byts_len]) (by simp [byts_len]; omega) (by omega)
        · refine ⟨_, rfl, fun k hk => (by cases hk; exact Pred.waits_near (by kernel_rfl) (by kernel_rfl)), fun b X G hE hd hn hG hV hI hP => ?_⟩
          have hO : PredD.Oc (w.heap.size) 5 (K + (byts kp 2).length + (byts p.S 2).length + (byts p.N 2).length + (byts p.M 4).length) (u8s ZS ++ u8s (byts kp 2) ++ u8s (byts p.S 2) ++ u8s (byts p.N 2) ++ u8s (byts p.M 4)) (b.tmps[44]?.getD undef) X G := hP _ 44 rfl rfl
          have hsz := hE.1.size
          exact Pred.yields_run (v := b.tmps[44]?.getD undef) (Pred.wanted_none rfl) (by go_simp) ⟨G, PredD.step_refl _ _ _, hG, hO⟩
      intro v X G hE hG hv hl
      have e0 : v 0 = .slice av K cv := hv 0 _ 22 rfl rfl rfl
      have e1 : v 1 = .pointer (some ⟨t, 0, none⟩) := hv 1 _ 23 rfl rfl rfl
      have e2 : v 2 = .pointer (some ⟨t, 0, none⟩) := hv 2 _ 24 rfl rfl rfl
      have e3 : v 3 = .pointer (some ⟨t, 0, none⟩) := hv 3 _ 25 rfl rfl rfl
      have e4 : v 4 = .int .i64 d := hv 4 _ 26 rfl rfl rfl
      have e5 : v 5 = .pointer (some ⟨ge, 0, none⟩) := hv 5 _ 27 rfl rfl rfl
      have e6 : v 6 = .agg #[.int .i64 p.L, .int .i64 p.X, .int .i64 p.Y] := hv 6 _ 28 rfl rfl rfl
      have e7 : v 7 = .int .i64 kp := hv 7 _ 29 rfl rfl rfl
      have e10 : v 10 = .pointer (some ⟨ge, 3, none⟩) := hv 10 _ 32 rfl rfl rfl
      have e11 : v 11 = .int .i64 p.S := hv 11 _ 33 rfl rfl rfl
      have e14 : v 14 = .pointer (some ⟨ge, 4, none⟩) := hv 14 _ 36 rfl rfl rfl
      have e15 : v 15 = .int .i64 p.N := hv 15 _ 37 rfl rfl rfl
      have e18 : v 18 = .pointer (some ⟨ge, 5, none⟩) := hv 18 _ 40 rfl rfl rfl
      have e19 : v 19 = .int .u32 p.M := hv 19 _ 41 rfl rfl rfl
      have e20 : v 20 = .int .i64 p.M := hv 20 _ 42 rfl rfl rfl
      have hO : PredD.Oc (w.heap.size) 5 (K + (byts kp 2).length + (byts p.S 2).length + (byts p.N 2).length + (byts p.M 4).length) (u8s ZS ++ u8s (byts kp 2) ++ u8s (byts p.S 2) ++ u8s (byts p.N 2) ++ u8s (byts p.M 4)) (v 23) X G := hl _ 3 rfl rfl
      simp only [Pred.putsF_cons, Pred.putsF_nil, Nat.zero_add, Nat.reduceAdd, e0, e1, e2, e3, e4, e5, e6, e7, e10, e11, e14, e15, e18, e19, e20, Act.put, List.setIfInBounds_toArray, List.set_cons_zero, List.set_cons_succ]
      clear e0 e1 e2 e3 e4 e5 e6 e7 e10 e11 e14 e15 e18 e19 e20 hv hl
      have LX : Below w.heap.size w X := L3.trans (hE.1.mono (by omega))
      have hown5 := hO.1
      generalize v 23 = v23 at hown5 ⊢
      have HO5 : Hid (X.ownsRow w.heap.size 5 1 v23 (10 * (k + 1)) (u8s (dirB d (r.take (k + 1))))) := Lib.hid (by
        rw [HDS.out, HEB.out]
        have e9 : 10 * (k + 1) = K + (byts kp 2).length + (byts p.S 2).length + (byts p.N 2).length + (byts p.M 4).length := by
          have := EK.out
          simp only [byts_len]
          omega
        rw [e9]
        simpa [u8s, List.map_append, List.append_assoc] using hown5)
      clear hown5 hO hE hG
      go_wp2
      go_roundw
      case rel => exact ⟨k + 1, by omega, by go_num, HO5, LX⟩
      case measure => simp [intOf]; omega
    · obtain rfl : n = k := by omega
      have hlt' : ¬ (n : Int) < (n : Int) := by omega
      have hfull : r.take n = r := by rw [← HN.out, List.take_length]
      have hWW := HW.out
      rw [hfull] at hWW
      have HR9 := Lib.hid (Reads.of_owns hWW)
      clear hfull hWW HW
      go_wp2
      go_ret
      first
        | exact ⟨⟨_, _, rfl, HR9.out⟩, hb⟩
        | exact ⟨⟨_, ⟨_, rfl⟩, HR9.out⟩, hb⟩
end Go.Proofs.Ytpjbacpchmemeaa.DiRe

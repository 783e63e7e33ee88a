/-
  What the document's own head is.
-/
import Derived.Test.YtbicgcnlijgjmaaRefA
import Derived.Test.YtbicgcnlijgjmaaSupB
namespace Go.Proofs.Ytbicgcnlijgjmaa.RefB
open Go.RowKit Rd Go.Proofs.Ytbicgcnlijgjmaa.Row OctA OctB SupA SupB
open CrcB (onV onF onF_lt)
set_option linter.unusedVariables false
set_option linter.unusedSimpArgs false
set_option maxRecDepth 100000
theorem load_rb (x : Value) : Instr.loadAt 37 x = loadRow 37 x := rfl
theorem store_rb (x v : Value) : Instr.storeAt 37 x v = storeRow 37 x v := rfl
theorem alloc_rb : Instr.alloc 37 true (.tuple #[]) = allocRow 37 := rfl
theorem run_alloc_rb (w : World) : (allocRow 37).run Try.prog w = .ok (.pointer (some ⟨w.heap.size, 0, none⟩)) (w.alloc (.cells zeroB 37)) := by kernel_rfl
theorem run_load_rb (g o : Nat) (W : World) : (loadRow 37 (.pointer (some ⟨g, o, none⟩))).run Try.prog W = rowLoad Try.prog 37 6 g o W := run_loadRow Try.underlying37 rfl (by kernel_rfl) g o W
theorem run_store_rb (g o : Nat) (c : Array Value) (W : World) : (storeRow 37 (.pointer (some ⟨g, o, none⟩)) (.agg c)).run Try.prog W = rowStore Try.prog 37 6 g o c W := run_storeRow (by kernel_rfl) g o c W
attribute [local go_sem ↓] load_rb store_rb alloc_rb
attribute [local go_sem] run_alloc_rb run_load_rb run_store_rb rowLoad_eq rowStore_eq blk_alloc_at blk_alloc_old blk_drew blk_drewN blk_set_far blk_set_far' blk_grow setRow_alloc_at setRow_alloc_old setRow_drew setRow_drewN all_map one_int blkV_size blkV_all blkV_all6 zeroB_size zeroB_all6 one_bool

theorem World.grownBy_below {w w' : World} (h : Below w.heap.size w w') : w.grownBy w' none := ⟨h.1, h.2, h.3, h.size, fun k hk _ => h.block k hk⟩
theorem wrap_i64 {m : Int} (h : 0 ≤ m ∧ m ≤ 4294967295) : IntKind.i64.wrap m = m := by
  simp only [IntKind.wrap, IntKind.bits, IntKind.signed, Bool.true_and]
  rw [if_neg (by simp; omega)]
  simp
  omega
theorem head_no (g d : Int) (r : Bool) (s l m : Int) (w : World) (h : mayB g d s l = false) :
    Calls Try.prog 10 #[.agg (blkV g d r s l m)] w fun e w' => e = .returned (.tuple #[.slice none 0 0, .bool false]) ∧ Below w.heap.size w w' := by
  unfold mayB at h
  unfold blkV
  have n1 : RefA.wN g 0 4294967295 = wI g 4294967295 := rfl
  have n2 : RefA.wN d 0 3 = wI d 3 := rfl
  have n3 : RefA.wN s 0 65535 = wI s 65535 := rfl
  have n4 : RefA.wN l 0 65535 = wI l 65535 := rfl
  cases h1 : wI g 4294967295
  · go_enter Try.func10, Try.ntmps10
    go_wp2_with (go_at_call 23; refine (RefA.within_any _ _ _ _).mono ?_; rintro e w1 ⟨rfl, rfl⟩; try simp only [n1, h1])
    go_ret2
    exact ⟨rfl, by repeat' (first | (with_reducible exact Below.refl _ _) | (with_reducible refine Rd.below_step ?_ (by assumption)) | (with_reducible refine Rd.below_alloc ?_ _) | (with_reducible refine Rd.below_drewN ?_ _) | (with_reducible refine Below.drew ?_) | (with_reducible refine Below.setCell ?_ ?_ _) | (with_reducible refine Rd.below_setRow ?_ ?_ _) | go_size | (simp only [World.size_alloc]; omega) | omega)⟩
  cases h2 : wI d 3
  · go_enter Try.func10, Try.ntmps10
    go_wp2_with (go_at_call 23; refine (RefA.within_any _ _ _ _).mono ?_; rintro e w1 ⟨rfl, rfl⟩; try simp only [n1, h1, n2, h2])
    go_ret2
    exact ⟨rfl, by repeat' (first | (with_reducible exact Below.refl _ _) | (with_reducible refine Rd.below_step ?_ (by assumption)) | (with_reducible refine Rd.below_alloc ?_ _) | (with_reducible refine Rd.below_drewN ?_ _) | (with_reducible refine Below.drew ?_) | (with_reducible refine Below.setCell ?_ ?_ _) | (with_reducible refine Rd.below_setRow ?_ ?_ _) | go_size | (simp only [World.size_alloc]; omega) | omega)⟩
  cases h3 : wI s 65535
  · go_enter Try.func10, Try.ntmps10
    go_wp2_with (go_at_call 23; refine (RefA.within_any _ _ _ _).mono ?_; rintro e w1 ⟨rfl, rfl⟩; try simp only [n1, h1, n2, h2, n3, h3])
    go_ret2
    exact ⟨rfl, by repeat' (first | (with_reducible exact Below.refl _ _) | (with_reducible refine Rd.below_step ?_ (by assumption)) | (with_reducible refine Rd.below_alloc ?_ _) | (with_reducible refine Rd.below_drewN ?_ _) | (with_reducible refine Below.drew ?_) | (with_reducible refine Below.setCell ?_ ?_ _) | (with_reducible refine Rd.below_setRow ?_ ?_ _) | go_size | (simp only [World.size_alloc]; omega) | omega)⟩
  cases h4 : wI l 65535
  · go_enter Try.func10, Try.ntmps10
    go_wp2_with (go_at_call 23; refine (RefA.within_any _ _ _ _).mono ?_; rintro e w1 ⟨rfl, rfl⟩; try simp only [n1, h1, n2, h2, n3, h3, n4, h4])
    go_ret2
    exact ⟨rfl, by repeat' (first | (with_reducible exact Below.refl _ _) | (with_reducible refine Rd.below_step ?_ (by assumption)) | (with_reducible refine Rd.below_alloc ?_ _) | (with_reducible refine Rd.below_drewN ?_ _) | (with_reducible refine Below.drew ?_) | (with_reducible refine Below.setCell ?_ ?_ _) | (with_reducible refine Rd.below_setRow ?_ ?_ _) | go_size | (simp only [World.size_alloc]; omega) | omega)⟩
  · exfalso
    rw [h1, h2, h3, h4] at h
    cases h
set_option maxHeartbeats 4000000 in
theorem head_yes (g d : Int) (r : Bool) (s l m : Int) (w : World) (h : mayB g d s l = true) (hg : -9223372036854775808 ≤ g ∧ g ≤ 9223372036854775807) (hd : -9223372036854775808 ≤ d ∧ d ≤ 9223372036854775807) (hs : -9223372036854775808 ≤ s ∧ s ≤ 9223372036854775807) (hll : -9223372036854775808 ≤ l ∧ l ≤ 9223372036854775807) (hm : 0 ≤ m ∧ m ≤ 4294967295) :
    Calls Try.prog 10 #[.agg (blkV g d r s l m)] w fun e w' => ∃ a cap, e = .returned (.tuple #[.slice a 32 cap, .bool true]) ∧ 32 ≤ cap ∧ cap ≤ maxLen ∧ Reads w' 1 a 32 (u8s (encL g d r s l m)) ∧ Below w.heap.size w w' := by
  obtain ⟨h1, h2, h3, h4⟩ : wI g 4294967295 = true ∧ wI d 3 = true ∧ wI s 65535 = true ∧ wI l 65535 = true := by
    unfold mayB at h
    simp only [Bool.and_eq_true] at h
    exact ⟨h.1.1.1, h.1.1.2, h.1.2, h.2⟩
  have n1 : RefA.wN g 0 4294967295 = wI g 4294967295 := rfl
  have n2 : RefA.wN d 0 3 = wI d 3 := rfl
  have n3 : RefA.wN s 0 65535 = wI s 65535 := rfl
  have n4 : RefA.wN l 0 65535 = wI l 65535 := rfl
  unfold blkV
  obtain ⟨i0, hi, hz0, hz1, hz2⟩ := info_parts info_u8
  cases r
  · go_enter Try.func10, Try.ntmps10
    go_upto_region 3 with (go_at_call 23; refine (RefA.within_any _ _ _ _).mono ?_; rintro e w1 ⟨rfl, rfl⟩; try simp only [n1, h1, n2, h2, n3, h3, n4, h4])
    refine Rd.name_world ?_
    intro W hW
    have K0 : blk W w.heap.size = some (.cells (blkV g d false s l m) 37 (0, 0)) := by rw [hW]; exact blk_alloc_at _ _ _ rfl
    have L1 : Below w.heap.size w W := by rw [hW]; repeat' (first | (with_reducible exact Below.refl _ _) | (with_reducible refine Rd.below_step ?_ (by assumption)) | (with_reducible refine Rd.below_alloc ?_ _) | (with_reducible refine Rd.below_drewN ?_ _) | (with_reducible refine Below.drew ?_) | (with_reducible refine Below.setCell ?_ ?_ _) | (with_reducible refine Rd.below_setRow ?_ ?_ _) | go_size | (simp only [World.size_alloc]; omega) | omega)
    clear hW
    have l0 := blk_lt K0
    have k0 := blk_cell K0 0
    unfold blkV at k0
    simp only [List.getElem?_toArray, List.getElem?_cons_zero] at k0
    have Y0 : blk (W.alloc (.cells #[.int .u8 87, .int .u8 65, .int .u8 73, .int .u8 78] 5)) W.heap.size = some (.cells #[.int .u8 87, .int .u8 65, .int .u8 73, .int .u8 78] 5 (0, 0)) := blk_alloc_at _ _ _ rfl
    obtain ⟨Y, hY, hext⟩ := Pred.run_conv_own (P := Try.prog) (t := 25) (n := 4) (c := 4) Try.underlying25 Try.underlying5 Y0
    obtain ⟨fy, h3y⟩ := hext.2 _ _ _ _ Y0
    have BY : Below W.heap.size W Y := ((Below.refl W.heap.size W).alloc (Nat.le_refl _) _).trans hext.1
    have kY := (BY.cell (p := ⟨w.heap.size, 0, none⟩) l0).trans k0
    have O0 : Own Y W.heap.size 5 1 (.slice (some ⟨W.heap.size, 0, none⟩) 4 4) 4 (u8s [87, 65, 73, 78]) := .inr ⟨_, 0, rfl, blk_lt h3y, by decide, rfl, fun j u hu => by rw [Nat.zero_add, blk_cell h3y]; simpa using hu⟩
    have K1 := (blk_below BY _ l0).trans K0
    have sY := BY.size
    go_wp2_with fail
    clear hY hext h3y Y0 k0 kY K0
    refine (RefA.big_any g 4 _ (by omega) hg).mono ?_
    rintro e w1 ⟨v1, rfl, hown1, hb1⟩
    have K2 := (blk_below hb1 _ (by omega)).trans K1
    have O1 := O0.below hb1
    have s1 := hb1.size
    have M1 : Below W.heap.size W w1 := BY.trans (hb1.mono (by omega))
    obtain ⟨g1, c1, rfl, hg1, hlt1, hn1, hm1, hcell1⟩ := owns_pos hown1 (by omega)
    clear hown1 hb1 O0 K1 BY
    go_upto_region 8 with (first
      | (at_builtin; refine wpList_append_either _ rfl (.tmp 29) (.tmp 32) 25 rfl W.heap.size 5 i0 (.int .u8 0) 1 1 Try.underlying25 hi hz0 hz1 hz2 rfl (by decide) _ _ _ rfl O1 ⟨g1, 0, none⟩ 4 c1 (u8s (byts g 4)) rfl (by simp [byts_len]) (by decide) (RefA.news_own (by simp [byts_len]) hcell1) one_ints (by unfold maxLen; omega) (by omega) (by omega) ?_; intro v2 w2 hown2 hb2; have K3 := (blk_below hb2 _ (by omega)).trans K2; have s2 := hb2.size; have M2 : Below W.heap.size W w2 := M1.trans hb2; clear O1 hcell1 hb2 K2 M1; have k1 := blk_cell K3 1; have k2 := blk_cell K3 2; unfold blkV at k1 k2; simp only [List.getElem?_toArray, List.getElem?_cons_zero, List.getElem?_cons_succ] at k1 k2)
      | (at_builtin; refine wpList_append_either _ rfl (.tmp 36) (.tmp 41) 25 rfl W.heap.size 5 i0 (.int .u8 0) 1 1 Try.underlying25 hi hz0 hz1 hz2 rfl (by decide) _ _ _ rfl (.inl (hown2.alloc _)) ⟨w2.heap.size, 0, none⟩ 2 2 [.int .u8 (d % 256), .int .u8 0] rfl rfl (by decide) (news_of _ _ _) (by simp [Value.oneCell']) (by unfold maxLen; omega) (by omega) (by simp; omega) ?_; intro v3 w3 hown3 hb3))
    have hb3' : Below W.heap.size w2 w3 := ((Below.refl W.heap.size w2).alloc (by omega) _).trans hb3
    have K4 := (blk_below hb3' _ (by omega)).trans K3
    have M3 : Below W.heap.size W w3 := M2.trans hb3'
    have hown4 : w3.ownsRow W.heap.size 5 1 v3 10 (u8s ([87, 65, 73, 78] ++ byts g 4 ++ byts d 1 ++ byts (wr1 false) 1)) := by
      have e : u8s ([87, 65, 73, 78] ++ byts g 4 ++ byts d 1 ++ byts (wr1 false) 1) = u8s [87, 65, 73, 78] ++ u8s (byts g 4) ++ [.int .u8 (d % 256), .int .u8 0] := by
        have e1 : byt d 0 = d % 256 := by unfold byt; simp
        have e2 : byt (wr1 false) 0 = 0 := by decide
        simp only [u8s, List.map_append, byts, e1, e2, List.map_cons, List.map_nil, List.append_assoc, List.cons_append, List.nil_append]
      rw [e]
      exact hown3
    clear hown2 hown3 hb3 hb3' K3 M2 k1 k2
    have s3 := M3.size
    have l4 := blk_lt K4
    have k3 := blk_cell K4 3
    have k4 := blk_cell K4 4
    have k5 := blk_cell K4 5
    unfold blkV at k3 k4 k5
    simp only [List.getElem?_toArray, List.getElem?_cons_zero, List.getElem?_cons_succ] at k3 k4 k5
    refine PredC.region_of (W := w3) (W.heap.size) (by omega) [4, 8, 13, 14] 14 (v3.ownBlock) [
        PredC.Is (v3),
        PredC.Is (.pointer (some ⟨w.heap.size, 3, none⟩)),
        PredC.Is (.int .i64 s),
        PredC.Rb (byts s 2) 5,
        PredC.Oc (W.heap.size) 5 (10 + (byts s 2).length) (u8s ([87, 65, 73, 78] ++ byts g 4 ++ byts d 1 ++ byts (wr1 false) 1) ++ u8s (byts s 2)),
        PredC.Is (.pointer (some ⟨w.heap.size, 4, none⟩)),
        PredC.Is (.int .i64 l),
        PredC.Rb (byts l 2) 5,
        PredC.Oc (W.heap.size) 5 (10 + (byts s 2).length + (byts l 2).length) (u8s ([87, 65, 73, 78] ++ byts g 4 ++ byts d 1 ++ byts (wr1 false) 1) ++ u8s (byts s 2) ++ u8s (byts l 2)),
        PredC.Is (.pointer (some ⟨w.heap.size, 5, none⟩)),
        PredC.Is (.int .u32 m),
        PredC.Is (.int .i64 m),
        PredC.Rb (byts m 4) 5,
        PredC.Oc (W.heap.size) 5 (10 + (byts s 2).length + (byts l 2).length + (byts m 4).length) (u8s ([87, 65, 73, 78] ++ byts g 4 ++ byts d 1 ++ byts (wr1 false) 1) ++ u8s (byts s 2) ++ u8s (byts l 2) ++ u8s (byts m 4)),
        PredC.Oc (W.heap.size) 5 (10 + (byts s 2).length + (byts l 2).length + (byts m 4).length) (u8s ([87, 65, 73, 78] ++ byts g 4 ++ byts d 1 ++ byts (wr1 false) 1) ++ u8s (byts s 2) ++ u8s (byts l 2) ++ u8s (byts m 4))] 5 (10) (u8s ([87, 65, 73, 78] ++ byts g 4 ++ byts d 1 ++ byts (wr1 false) 1)) (v3) (by kernel_rfl) (by kernel_rfl) (by kernel_rfl) (by decide) rfl (by decide) ?_ ⟨hown4, rfl⟩ ?_ ?_ ?_
    · exact ⟨.inr (PredC.is_stab _), .inl rfl, .inr (PredC.is_stab _), .inl rfl, .inr (PredC.is_stab _), .inl rfl, .inr (PredC.rb_stab _ _), .inl rfl, .inl rfl, .inr (PredC.oc_stab _ _ _ _), .inr (PredC.is_stab _), .inl rfl, .inr (PredC.is_stab _), .inl rfl, .inr (PredC.rb_stab _ _), .inl rfl, .inl rfl, .inr (PredC.oc_stab _ _ _ _), .inr (PredC.is_stab _), .inl rfl, .inr (PredC.is_stab _), .inl rfl, .inr (PredC.is_stab _), .inl rfl, .inr (PredC.rb_stab _ _), .inl rfl, .inl rfl, .inr (PredC.oc_stab _ _ _ _), .inl rfl, .inr (PredC.oc_stab _ _ _ _), trivial⟩
    · refine ⟨.inr ?_, .inr ?_, .inr ?_, .inr ?_, .inl rfl, .inr ?_, .inr ?_, .inr ?_, .inl rfl, .inr ?_, .inr ?_, .inr ?_, .inr ?_, .inl rfl, .inl rfl, trivial⟩
      · intro b X G hE hd hn hG hV hI
        have r4 : b.tmps[4]?.getD undef = v3 := (hI 14 _ 4 rfl rfl (by kernel_rfl)).trans rfl
        exact Pred.yields_run (v := v3) (Pred.wanted_none rfl) (by go_simp) ⟨PredC.ext_refl _ _ _, rfl⟩
      · intro b X G hE hd hn hG hV hI
        have r1 : b.tmps[1]?.getD undef = .pointer (some ⟨w.heap.size, 0, none⟩) := (hn 1 (by kernel_rfl)).trans rfl
        exact Pred.yields_run (v := .pointer (some ⟨w.heap.size, 3, none⟩)) (Pred.wanted_none rfl) (by go_simp) ⟨PredC.ext_refl _ _ _, rfl⟩
      · intro b X G hE hd hn hG hV hI
        have r44 : b.tmps[44]?.getD undef = .pointer (some ⟨w.heap.size, 3, none⟩) := hV 1 _ 44 rfl rfl rfl (Pred.waits_near (by kernel_rfl) (by kernel_rfl))
        have hc := (hE.cell (p := ⟨w.heap.size, 3, none⟩) (by show w.heap.size < _; omega)).trans k3
        exact Pred.yields_run (v := .int .i64 s) (Pred.wanted_none rfl) (by go_simp) ⟨PredC.ext_refl _ _ _, rfl⟩
      · intro b X G hE hd hn hG hV hI
        have r45 : b.tmps[45]?.getD undef = .int .i64 s := hV 2 _ 45 rfl rfl rfl (Pred.waits_near (by kernel_rfl) (by kernel_rfl))
        refine Pred.yields_call (f := 24) (args := #[.int .i64 s, .int .i64 2]) (Pred.wanted_none rfl) (by go_simp) ?_
        refine (RefA.big_any s 2 _ (by omega) hs).mono fun e w2 ⟨v, he, hown, hb⟩ => ⟨v, he, PredC.ext_below hb (by have := hE.size; omega) hG, RefA.rb_own hown (by omega) hG⟩
      · intro b X G hE hd hn hG hV hI
        have r1 : b.tmps[1]?.getD undef = .pointer (some ⟨w.heap.size, 0, none⟩) := (hn 1 (by kernel_rfl)).trans rfl
        exact Pred.yields_run (v := .pointer (some ⟨w.heap.size, 4, none⟩)) (Pred.wanted_none rfl) (by go_simp) ⟨PredC.ext_refl _ _ _, rfl⟩
      · intro b X G hE hd hn hG hV hI
        have r48 : b.tmps[48]?.getD undef = .pointer (some ⟨w.heap.size, 4, none⟩) := hV 5 _ 48 rfl rfl rfl (Pred.waits_near (by kernel_rfl) (by kernel_rfl))
        have hc := (hE.cell (p := ⟨w.heap.size, 4, none⟩) (by show w.heap.size < _; omega)).trans k4
        exact Pred.yields_run (v := .int .i64 l) (Pred.wanted_none rfl) (by go_simp) ⟨PredC.ext_refl _ _ _, rfl⟩
      · intro b X G hE hd hn hG hV hI
        have r49 : b.tmps[49]?.getD undef = .int .i64 l := hV 6 _ 49 rfl rfl rfl (Pred.waits_near (by kernel_rfl) (by kernel_rfl))
        refine Pred.yields_call (f := 24) (args := #[.int .i64 l, .int .i64 2]) (Pred.wanted_none rfl) (by go_simp) ?_
        refine (RefA.big_any l 2 _ (by omega) hll).mono fun e w2 ⟨v, he, hown, hb⟩ => ⟨v, he, PredC.ext_below hb (by have := hE.size; omega) hG, RefA.rb_own hown (by omega) hG⟩
      · intro b X G hE hd hn hG hV hI
        have r1 : b.tmps[1]?.getD undef = .pointer (some ⟨w.heap.size, 0, none⟩) := (hn 1 (by kernel_rfl)).trans rfl
        exact Pred.yields_run (v := .pointer (some ⟨w.heap.size, 5, none⟩)) (Pred.wanted_none rfl) (by go_simp) ⟨PredC.ext_refl _ _ _, rfl⟩
      · intro b X G hE hd hn hG hV hI
        have r52 : b.tmps[52]?.getD undef = .pointer (some ⟨w.heap.size, 5, none⟩) := hV 9 _ 52 rfl rfl rfl (Pred.waits_near (by kernel_rfl) (by kernel_rfl))
        have hc := (hE.cell (p := ⟨w.heap.size, 5, none⟩) (by show w.heap.size < _; omega)).trans k5
        exact Pred.yields_run (v := .int .u32 m) (Pred.wanted_none rfl) (by go_simp) ⟨PredC.ext_refl _ _ _, rfl⟩
      · intro b X G hE hd hn hG hV hI
        have r53 : b.tmps[53]?.getD undef = .int .u32 m := hV 10 _ 53 rfl rfl rfl (Pred.waits_near (by kernel_rfl) (by kernel_rfl))
        exact Pred.yields_run (v := .int .i64 m) (Pred.wanted_none rfl) (by go_simp; exact wrap_i64 hm) ⟨PredC.ext_refl _ _ _, rfl⟩
      · intro b X G hE hd hn hG hV hI
        have r54 : b.tmps[54]?.getD undef = .int .i64 m := hV 11 _ 54 rfl rfl rfl (Pred.waits_near (by kernel_rfl) (by kernel_rfl))
        refine Pred.yields_call (f := 24) (args := #[.int .i64 m, .int .i64 4]) (Pred.wanted_none rfl) (by go_simp) ?_
        refine (RefA.big_any m 4 _ (by omega) (by omega)).mono fun e w2 ⟨v, he, hown, hb⟩ => ⟨v, he, PredC.ext_below hb (by have := hE.size; omega) hG, RefA.rb_own hown (by omega) hG⟩
    · refine ⟨?_, ?_, ?_, ?_, trivial⟩
      · refine ⟨_, rfl, fun k hk => (by cases hk), fun b X G hE hd hn hG hV hI hP => ?_⟩
        have r43 : b.tmps[43]?.getD undef = v3 := hV 0 _ 43 rfl rfl rfl (Pred.waits_near (by kernel_rfl) (by kernel_rfl))
        have r46 : PredC.Rb (byts s 2) 5 (b.tmps[46]?.getD undef) X G := hV 3 _ 46 rfl rfl rfl (Pred.waits_near (by kernel_rfl) (by kernel_rfl))
        have hO : PredC.Oc (W.heap.size) 5 (10) (u8s ([87, 65, 73, 78] ++ byts g 4 ++ byts d 1 ++ byts (wr1 false) 1)) (v3) X G := hP
        have hsz := hE.size
        rw [← r43] at hO
        exact PredC.yields_append rfl (.tmp 43) (.tmp 46) 25 5 5 rfl Try.underlying25 OctB.info_u8 _ _ _ (by simp [Act.eval]) hO (byts s 2) _ (by simp [Act.eval]) r46 (by simp [byts_len]) (by simp [byts_len]) (by omega)
      · refine ⟨_, rfl, fun k hk => (by cases hk; exact Pred.waits_near (by kernel_rfl) (by kernel_rfl)), fun b X G hE hd hn hG hV hI hP => ?_⟩
        have r50 : PredC.Rb (byts l 2) 5 (b.tmps[50]?.getD undef) X G := hV 7 _ 50 rfl rfl rfl (Pred.waits_near (by kernel_rfl) (by kernel_rfl))
        have hO : PredC.Oc (W.heap.size) 5 (10 + (byts s 2).length) (u8s ([87, 65, 73, 78] ++ byts g 4 ++ byts d 1 ++ byts (wr1 false) 1) ++ u8s (byts s 2)) (b.tmps[47]?.getD undef) X G := hP _ 47 rfl rfl
        have hsz := hE.size
        exact PredC.yields_append rfl (.tmp 47) (.tmp 50) 25 5 5 rfl Try.underlying25 OctB.info_u8 _ _ _ (by simp [Act.eval]) hO (byts l 2) _ (by simp [Act.eval]) r50 (by simp [byts_len]) (by simp [byts_len]) (by omega)
      · refine ⟨_, rfl, fun k hk => (by cases hk; exact Pred.waits_near (by kernel_rfl) (by kernel_rfl)), fun b X G hE hd hn hG hV hI hP => ?_⟩
        have r55 : PredC.Rb (byts m 4) 5 (b.tmps[55]?.getD undef) X G := hV 12 _ 55 rfl rfl rfl (Pred.waits_near (by kernel_rfl) (by kernel_rfl))
        have hO : PredC.Oc (W.heap.size) 5 (10 + (byts s 2).length + (byts l 2).length) (u8s ([87, 65, 73, 78] ++ byts g 4 ++ byts d 1 ++ byts (wr1 false) 1) ++ u8s (byts s 2) ++ u8s (byts l 2)) (b.tmps[51]?.getD undef) X G := hP _ 51 rfl rfl
        have hsz := hE.size
        exact PredC.yields_append rfl (.tmp 51) (.tmp 55) 25 5 5 rfl Try.underlying25 OctB.info_u8 _ _ _ (by simp [Act.eval]) hO (byts m 4) _ (by simp [Act.eval]) r55 (by simp [byts_len]) (by simp [byts_len]) (by omega)
      · refine ⟨_, rfl, fun k hk => (by cases hk; exact Pred.waits_near (by kernel_rfl) (by kernel_rfl)), fun b X G hE hd hn hG hV hI hP => ?_⟩
        have hO : PredC.Oc (W.heap.size) 5 (10 + (byts s 2).length + (byts l 2).length + (byts m 4).length) (u8s ([87, 65, 73, 78] ++ byts g 4 ++ byts d 1 ++ byts (wr1 false) 1) ++ u8s (byts s 2) ++ u8s (byts l 2) ++ u8s (byts m 4)) (b.tmps[56]?.getD undef) X G := hP _ 56 rfl rfl
        have hsz := hE.size
        exact Pred.yields_run (v := b.tmps[56]?.getD undef) (Pred.wanted_none rfl) (by go_simp) ⟨G, PredC.step_refl _ _ _, hG, hO⟩
    intro v X G hE hG hv hl
    have e0 : v 0 = v3 := hv 0 _ 43 rfl rfl rfl
    have e1 : v 1 = .pointer (some ⟨w.heap.size, 3, none⟩) := hv 1 _ 44 rfl rfl rfl
    have e2 : v 2 = .int .i64 s := hv 2 _ 45 rfl rfl rfl
    have e5 : v 5 = .pointer (some ⟨w.heap.size, 4, none⟩) := hv 5 _ 48 rfl rfl rfl
    have e6 : v 6 = .int .i64 l := hv 6 _ 49 rfl rfl rfl
    have e9 : v 9 = .pointer (some ⟨w.heap.size, 5, none⟩) := hv 9 _ 52 rfl rfl rfl
    have e10 : v 10 = .int .u32 m := hv 10 _ 53 rfl rfl rfl
    have e11 : v 11 = .int .i64 m := hv 11 _ 54 rfl rfl rfl
    have hO : PredC.Oc (W.heap.size) 5 (10 + (byts s 2).length + (byts l 2).length + (byts m 4).length) (u8s ([87, 65, 73, 78] ++ byts g 4 ++ byts d 1 ++ byts (wr1 false) 1) ++ u8s (byts s 2) ++ u8s (byts l 2) ++ u8s (byts m 4)) (v 14) X G := hl _ 4 rfl rfl
    simp only [Pred.putsF_cons, Pred.putsF_nil, Nat.zero_add, Nat.reduceAdd, e0, e1, e2, e5, e6, e9, e10, e11, Act.put, List.setIfInBounds_toArray, List.set_cons_zero, List.set_cons_succ]
    clear e0 e1 e2 e5 e6 e9 e10 e11 hv hl
    have sX := hE.size
    have MX : Below W.heap.size W X := M3.trans hE
    have hown5 : X.ownsRow W.heap.size 5 1 (v 14) 18 (u8s ([87, 65, 73, 78] ++ byts g 4 ++ byts d 1 ++ byts (wr1 false) 1 ++ byts s 2 ++ byts l 2 ++ byts m 4)) := by
      have h := hO.1
      simp only [byts_len, Nat.reduceAdd] at h
      simpa [u8s, List.map_append, List.append_assoc] using h
    generalize v 14 = v5 at hown5
    clear hO hE hown4 K4 k3 k4 k5
    go_upto_region 10 with (at_builtin; refine PredC.wpList_append_noughts _ rfl (.tmp 57) (.const (.int .i64 10)) 25 3 5 rfl W.heap.size Try.underlying25 Try.underlying3 OctB.info_u8 _ 18 _ rfl hown5 10 rfl (by omega) (by omega) (by omega) (by omega) ?_; intro v6 w6 hown6 hb6; obtain ⟨a6, c6, rfl, h61, h62⟩ := owns_val hown6)
    have eB : u8s ([87, 65, 73, 78] ++ byts g 4 ++ byts d 1 ++ byts (wr1 false) 1 ++ byts s 2 ++ byts l 2 ++ byts m 4) ++ List.replicate 10 (Value.int .u8 0) = u8s (encB g d false s l m) := by
      rw [show List.replicate 10 (Value.int .u8 0) = u8s (byts 0 10) from rfl]
      simp only [encB, u8s, List.map_append, List.append_assoc]
    rw [eB] at hown6
    have R6 : Reads w6 1 a6 28 (u8s (encB g d false s l m)) := Reads.of_owns hown6
    have M6 : Below W.heap.size W w6 := MX.trans hb6
    have s6 := M6.size
    clear hown5 hb6 MX
    have hlt := onV0_lt (encB_bd g d false s l m)
    go_wp2_with fail
    refine (CrcD.rcrc_any a6 _ c6 _ w6 R6 (encB_bd _ _ _ _ _ _) (by omega)).mono ?_
    rintro e w7 ⟨rfl, hb7⟩
    have s7 := hb7.size
    have hown7 : w7.ownsRow W.heap.size 5 1 (.slice a6 28 c6) 28 (u8s (encB g d false s l m)) := hown6.kept (World.grownBy_below hb7) (by cases (Value.slice a6 28 c6).ownBlock <;> simp)
    have M7 : Below W.heap.size W w7 := M6.trans (hb7.mono (by omega))
    clear hown6 hb7 R6 M6
    go_wp2_with fail
    refine (RefA.big_any _ 4 _ (by omega) (by omega)).mono ?_
    rintro e w8 ⟨v8, rfl, hown8, hb8⟩
    have s8 := hb8.size
    have hown9 : w8.ownsRow W.heap.size 5 1 (.slice a6 28 c6) 28 (u8s (encB g d false s l m)) := hown7.kept (World.grownBy_below hb8) (by cases (Value.slice a6 28 c6).ownBlock <;> simp)
    have M8 : Below W.heap.size W w8 := M7.trans (hb8.mono (by omega))
    obtain ⟨g8, c8, rfl, hg8, hlt8, hn8, hm8, hcell8⟩ := owns_pos hown8 (by omega)
    clear hown8 hb8 hown7 M7
    go_wp2_with (at_builtin; refine wpList_append_either _ rfl (.tmp 59) (.tmp 63) 25 rfl W.heap.size 5 i0 (.int .u8 0) 1 1 Try.underlying25 hi hz0 hz1 hz2 rfl (by decide) _ _ _ rfl (.inl hown9) ⟨g8, 0, none⟩ 4 c8 (u8s (byts (onV 0 (encB g d false s l m) : Nat) 4)) rfl (by simp [byts_len]) (by decide) (RefA.news_own (by simp [byts_len]) hcell8) one_ints (by unfold maxLen; omega) (by omega) (by omega) ?_; intro v9 w9 hown10 hb9; obtain ⟨a9, c9, rfl, h91, h92⟩ := owns_val hown10)
    go_ret2
    exact ⟨a9, c9, rfl, h91, h92, by have h := Reads.of_owns hown10; simpa [encL, u8s] using h, L1.trans ((M8.trans hb9).mono L1.size)⟩
  · go_enter Try.func10, Try.ntmps10
    go_upto_region 3 with (go_at_call 23; refine (RefA.within_any _ _ _ _).mono ?_; rintro e w1 ⟨rfl, rfl⟩; try simp only [n1, h1, n2, h2, n3, h3, n4, h4])
    refine Rd.name_world ?_
    intro W hW
    have K0 : blk W w.heap.size = some (.cells (blkV g d true s l m) 37 (0, 0)) := by rw [hW]; exact blk_alloc_at _ _ _ rfl
    have L1 : Below w.heap.size w W := by rw [hW]; repeat' (first | (with_reducible exact Below.refl _ _) | (with_reducible refine Rd.below_step ?_ (by assumption)) | (with_reducible refine Rd.below_alloc ?_ _) | (with_reducible refine Rd.below_drewN ?_ _) | (with_reducible refine Below.drew ?_) | (with_reducible refine Below.setCell ?_ ?_ _) | (with_reducible refine Rd.below_setRow ?_ ?_ _) | go_size | (simp only [World.size_alloc]; omega) | omega)
    clear hW
    have l0 := blk_lt K0
    have k0 := blk_cell K0 0
    unfold blkV at k0
    simp only [List.getElem?_toArray, List.getElem?_cons_zero] at k0
    have Y0 : blk (W.alloc (.cells #[.int .u8 87, .int .u8 65, .int .u8 73, .int .u8 78] 5)) W.heap.size = some (.cells #[.int .u8 87, .int .u8 65, .int .u8 73, .int .u8 78] 5 (0, 0)) := blk_alloc_at _ _ _ rfl
    obtain ⟨Y, hY, hext⟩ := Pred.run_conv_own (P := Try.prog) (t := 25) (n := 4) (c := 4) Try.underlying25 Try.underlying5 Y0
    obtain ⟨fy, h3y⟩ := hext.2 _ _ _ _ Y0
    have BY : Below W.heap.size W Y := ((Below.refl W.heap.size W).alloc (Nat.le_refl _) _).trans hext.1
    have kY := (BY.cell (p := ⟨w.heap.size, 0, none⟩) l0).trans k0
    have O0 : Own Y W.heap.size 5 1 (.slice (some ⟨W.heap.size, 0, none⟩) 4 4) 4 (u8s [87, 65, 73, 78]) := .inr ⟨_, 0, rfl, blk_lt h3y, by decide, rfl, fun j u hu => by rw [Nat.zero_add, blk_cell h3y]; simpa using hu⟩
    have K1 := (blk_below BY _ l0).trans K0
    have sY := BY.size
    go_wp2_with fail
    clear hY hext h3y Y0 k0 kY K0
    refine (RefA.big_any g 4 _ (by omega) hg).mono ?_
    rintro e w1 ⟨v1, rfl, hown1, hb1⟩
    have K2 := (blk_below hb1 _ (by omega)).trans K1
    have O1 := O0.below hb1
    have s1 := hb1.size
    have M1 : Below W.heap.size W w1 := BY.trans (hb1.mono (by omega))
    obtain ⟨g1, c1, rfl, hg1, hlt1, hn1, hm1, hcell1⟩ := owns_pos hown1 (by omega)
    clear hown1 hb1 O0 K1 BY
    go_upto_region 8 with (first
      | (at_builtin; refine wpList_append_either _ rfl (.tmp 29) (.tmp 32) 25 rfl W.heap.size 5 i0 (.int .u8 0) 1 1 Try.underlying25 hi hz0 hz1 hz2 rfl (by decide) _ _ _ rfl O1 ⟨g1, 0, none⟩ 4 c1 (u8s (byts g 4)) rfl (by simp [byts_len]) (by decide) (RefA.news_own (by simp [byts_len]) hcell1) one_ints (by unfold maxLen; omega) (by omega) (by omega) ?_; intro v2 w2 hown2 hb2; have K3 := (blk_below hb2 _ (by omega)).trans K2; have s2 := hb2.size; have M2 : Below W.heap.size W w2 := M1.trans hb2; clear O1 hcell1 hb2 K2 M1; have k1 := blk_cell K3 1; have k2 := blk_cell K3 2; unfold blkV at k1 k2; simp only [List.getElem?_toArray, List.getElem?_cons_zero, List.getElem?_cons_succ] at k1 k2)
      | (at_builtin; refine wpList_append_either _ rfl (.tmp 36) (.tmp 41) 25 rfl W.heap.size 5 i0 (.int .u8 0) 1 1 Try.underlying25 hi hz0 hz1 hz2 rfl (by decide) _ _ _ rfl (.inl (hown2.alloc _)) ⟨w2.heap.size, 0, none⟩ 2 2 [.int .u8 (d % 256), .int .u8 1] rfl rfl (by decide) (news_of _ _ _) (by simp [Value.oneCell']) (by unfold maxLen; omega) (by omega) (by simp; omega) ?_; intro v3 w3 hown3 hb3))
    have hb3' : Below W.heap.size w2 w3 := ((Below.refl W.heap.size w2).alloc (by omega) _).trans hb3
    have K4 := (blk_below hb3' _ (by omega)).trans K3
    have M3 : Below W.heap.size W w3 := M2.trans hb3'
    have hown4 : w3.ownsRow W.heap.size 5 1 v3 10 (u8s ([87, 65, 73, 78] ++ byts g 4 ++ byts d 1 ++ byts (wr1 true) 1)) := by
      have e : u8s ([87, 65, 73, 78] ++ byts g 4 ++ byts d 1 ++ byts (wr1 true) 1) = u8s [87, 65, 73, 78] ++ u8s (byts g 4) ++ [.int .u8 (d % 256), .int .u8 1] := by
        have e1 : byt d 0 = d % 256 := by unfold byt; simp
        have e2 : byt (wr1 true) 0 = 1 := by decide
        simp only [u8s, List.map_append, byts, e1, e2, List.map_cons, List.map_nil, List.append_assoc, List.cons_append, List.nil_append]
      rw [e]
      exact hown3
    clear hown2 hown3 hb3 hb3' K3 M2 k1 k2
    have s3 := M3.size
    have l4 := blk_lt K4
    have k3 := blk_cell K4 3
    have k4 := blk_cell K4 4
    have k5 := blk_cell K4 5
    unfold blkV at k3 k4 k5
    simp only [List.getElem?_toArray, List.getElem?_cons_zero, List.getElem?_cons_succ] at k3 k4 k5
    refine PredC.region_of (W := w3) (W.heap.size) (by omega) [4, 8, 13, 14] 14 (v3.ownBlock) [
        PredC.Is (v3),
        PredC.Is (.pointer (some ⟨w.heap.size, 3, none⟩)),
        PredC.Is (.int .i64 s),
        PredC.Rb (byts s 2) 5,
        PredC.Oc (W.heap.size) 5 (10 + (byts s 2).length) (u8s ([87, 65, 73, 78] ++ byts g 4 ++ byts d 1 ++ byts (wr1 true) 1) ++ u8s (byts s 2)),
        PredC.Is (.pointer (some ⟨w.heap.size, 4, none⟩)),
        PredC.Is (.int .i64 l),
        PredC.Rb (byts l 2) 5,
        PredC.Oc (W.heap.size) 5 (10 + (byts s 2).length + (byts l 2).length) (u8s ([87, 65, 73, 78] ++ byts g 4 ++ byts d 1 ++ byts (wr1 true) 1) ++ u8s (byts s 2) ++ u8s (byts l 2)),
        PredC.Is (.pointer (some ⟨w.heap.size, 5, none⟩)),
        PredC.Is (.int .u32 m),
        PredC.Is (.int .i64 m),
        PredC.Rb (byts m 4) 5,
        PredC.Oc (W.heap.size) 5 (10 + (byts s 2).length + (byts l 2).length + (byts m 4).length) (u8s ([87, 65, 73, 78] ++ byts g 4 ++ byts d 1 ++ byts (wr1 true) 1) ++ u8s (byts s 2) ++ u8s (byts l 2) ++ u8s (byts m 4)),
        PredC.Oc (W.heap.size) 5 (10 + (byts s 2).length + (byts l 2).length + (byts m 4).length) (u8s ([87, 65, 73, 78] ++ byts g 4 ++ byts d 1 ++ byts (wr1 true) 1) ++ u8s (byts s 2) ++ u8s (byts l 2) ++ u8s (byts m 4))] 5 (10) (u8s ([87, 65, 73, 78] ++ byts g 4 ++ byts d 1 ++ byts (wr1 true) 1)) (v3) (by kernel_rfl) (by kernel_rfl) (by kernel_rfl) (by decide) rfl (by decide) ?_ ⟨hown4, rfl⟩ ?_ ?_ ?_
    · exact ⟨.inr (PredC.is_stab _), .inl rfl, .inr (PredC.is_stab _), .inl rfl, .inr (PredC.is_stab _), .inl rfl, .inr (PredC.rb_stab _ _), .inl rfl, .inl rfl, .inr (PredC.oc_stab _ _ _ _), .inr (PredC.is_stab _), .inl rfl, .inr (PredC.is_stab _), .inl rfl, .inr (PredC.rb_stab _ _), .inl rfl, .inl rfl, .inr (PredC.oc_stab _ _ _ _), .inr (PredC.is_stab _), .inl rfl, .inr (PredC.is_stab _), .inl rfl, .inr (PredC.is_stab _), .inl rfl, .inr (PredC.rb_stab _ _), .inl rfl, .inl rfl, .inr (PredC.oc_stab _ _ _ _), .inl rfl, .inr (PredC.oc_stab _ _ _ _), trivial⟩
    · refine ⟨.inr ?_, .inr ?_, .inr ?_, .inr ?_, .inl rfl, .inr ?_, .inr ?_, .inr ?_, .inl rfl, .inr ?_, .inr ?_, .inr ?_, .inr ?_, .inl rfl, .inl rfl, trivial⟩
      · intro b X G hE hd hn hG hV hI
        have r4 : b.tmps[4]?.getD undef = v3 := (hI 14 _ 4 rfl rfl (by kernel_rfl)).trans rfl
        exact Pred.yields_run (v := v3) (Pred.wanted_none rfl) (by go_simp) ⟨PredC.ext_refl _ _ _, rfl⟩
      · intro b X G hE hd hn hG hV hI
        have r1 : b.tmps[1]?.getD undef = .pointer (some ⟨w.heap.size, 0, none⟩) := (hn 1 (by kernel_rfl)).trans rfl
        exact Pred.yields_run (v := .pointer (some ⟨w.heap.size, 3, none⟩)) (Pred.wanted_none rfl) (by go_simp) ⟨PredC.ext_refl _ _ _, rfl⟩
      · intro b X G hE hd hn hG hV hI
        have r44 : b.tmps[44]?.getD undef = .pointer (some ⟨w.heap.size, 3, none⟩) := hV 1 _ 44 rfl rfl rfl (Pred.waits_near (by kernel_rfl) (by kernel_rfl))
        have hc := (hE.cell (p := ⟨w.heap.size, 3, none⟩) (by show w.heap.size < _; omega)).trans k3
        exact Pred.yields_run (v := .int .i64 s) (Pred.wanted_none rfl) (by go_simp) ⟨PredC.ext_refl _ _ _, rfl⟩
      · intro b X G hE hd hn hG hV hI
        have r45 : b.tmps[45]?.getD undef = .int .i64 s := hV 2 _ 45 rfl rfl rfl (Pred.waits_near (by kernel_rfl) (by kernel_rfl))
        refine Pred.yields_call (f := 24) (args := #[.int .i64 s, .int .i64 2]) (Pred.wanted_none rfl) (by go_simp) ?_
        refine (RefA.big_any s 2 _ (by omega) hs).mono fun e w2 ⟨v, he, hown, hb⟩ => ⟨v, he, PredC.ext_below hb (by have := hE.size; omega) hG, RefA.rb_own hown (by omega) hG⟩
      · intro b X G hE hd hn hG hV hI
        have r1 : b.tmps[1]?.getD undef = .pointer (some ⟨w.heap.size, 0, none⟩) := (hn 1 (by kernel_rfl)).trans rfl
        exact Pred.yields_run (v := .pointer (some ⟨w.heap.size, 4, none⟩)) (Pred.wanted_none rfl) (by go_simp) ⟨PredC.ext_refl _ _ _, rfl⟩
      · intro b X G hE hd hn hG hV hI
        have r48 : b.tmps[48]?.getD undef = .pointer (some ⟨w.heap.size, 4, none⟩) := hV 5 _ 48 rfl rfl rfl (Pred.waits_near (by kernel_rfl) (by kernel_rfl))
        have hc := (hE.cell (p := ⟨w.heap.size, 4, none⟩) (by show w.heap.size < _; omega)).trans k4
        exact Pred.yields_run (v := .int .i64 l) (Pred.wanted_none rfl) (by go_simp) ⟨PredC.ext_refl _ _ _, rfl⟩
      · intro b X G hE hd hn hG hV hI
        have r49 : b.tmps[49]?.getD undef = .int .i64 l := hV 6 _ 49 rfl rfl rfl (Pred.waits_near (by kernel_rfl) (by kernel_rfl))
        refine Pred.yields_call (f := 24) (args := #[.int .i64 l, .int .i64 2]) (Pred.wanted_none rfl) (by go_simp) ?_
        refine (RefA.big_any l 2 _ (by omega) hll).mono fun e w2 ⟨v, he, hown, hb⟩ => ⟨v, he, PredC.ext_below hb (by have := hE.size; omega) hG, RefA.rb_own hown (by omega) hG⟩
      · intro b X G hE hd hn hG hV hI
        have r1 : b.tmps[1]?.getD undef = .pointer (some ⟨w.heap.size, 0, none⟩) := (hn 1 (by kernel_rfl)).trans rfl
        exact Pred.yields_run (v := .pointer (some ⟨w.heap.size, 5, none⟩)) (Pred.wanted_none rfl) (by go_simp) ⟨PredC.ext_refl _ _ _, rfl⟩
      · intro b X G hE hd hn hG hV hI
        have r52 : b.tmps[52]?.getD undef = .pointer (some ⟨w.heap.size, 5, none⟩) := hV 9 _ 52 rfl rfl rfl (Pred.waits_near (by kernel_rfl) (by kernel_rfl))
        have hc := (hE.cell (p := ⟨w.heap.size, 5, none⟩) (by show w.heap.size < _; omega)).trans k5
        exact Pred.yields_run (v := .int .u32 m) (Pred.wanted_none rfl) (by go_simp) ⟨PredC.ext_refl _ _ _, rfl⟩
      · intro b X G hE hd hn hG hV hI
        have r53 : b.tmps[53]?.getD undef = .int .u32 m := hV 10 _ 53 rfl rfl rfl (Pred.waits_near (by kernel_rfl) (by kernel_rfl))
        exact Pred.yields_run (v := .int .i64 m) (Pred.wanted_none rfl) (by go_simp; exact wrap_i64 hm) ⟨PredC.ext_refl _ _ _, rfl⟩
      · intro b X G hE hd hn hG hV hI
        have r54 : b.tmps[54]?.getD undef = .int .i64 m := hV 11 _ 54 rfl rfl rfl (Pred.waits_near (by kernel_rfl) (by kernel_rfl))
        refine Pred.yields_call (f := 24) (args := #[.int .i64 m, .int .i64 4]) (Pred.wanted_none rfl) (by go_simp) ?_
        refine (RefA.big_any m 4 _ (by omega) (by omega)).mono fun e w2 ⟨v, he, hown, hb⟩ => ⟨v, he, PredC.ext_below hb (by have := hE.size; omega) hG, RefA.rb_own hown (by omega) hG⟩
    · refine ⟨?_, ?_, ?_, ?_, trivial⟩
      · refine ⟨_, rfl, fun k hk => (by cases hk), fun b X G hE hd hn hG hV hI hP => ?_⟩
        have r43 : b.tmps[43]?.getD undef = v3 := hV 0 _ 43 rfl rfl rfl (Pred.waits_near (by kernel_rfl) (by kernel_rfl))
        have r46 : PredC.Rb (byts s 2) 5 (b.tmps[46]?.getD undef) X G := hV 3 _ 46 rfl rfl rfl (Pred.waits_near (by kernel_rfl) (by kernel_rfl))
        have hO : PredC.Oc (W.heap.size) 5 (10) (u8s ([87, 65, 73, 78] ++ byts g 4 ++ byts d 1 ++ byts (wr1 true) 1)) (v3) X G := hP
        have hsz := hE.size
        rw [← r43] at hO
        exact PredC.yields_append rfl (.tmp 43) (.tmp 46) 25 5 5 rfl Try.underlying25 OctB.info_u8 _ _ _ (by simp [Act.eval]) hO (byts s 2) _ (by simp [Act.eval]) r46 (by simp [byts_len]) (by simp [byts_len]) (by omega)
      · refine ⟨_, rfl, fun k hk => (by cases hk; exact Pred.waits_near (by kernel_rfl) (by kernel_rfl)), fun b X G hE hd hn hG hV hI hP => ?_⟩
        have r50 : PredC.Rb (byts l 2) 5 (b.tmps[50]?.getD undef) X G := hV 7 _ 50 rfl rfl rfl (Pred.waits_near (by kernel_rfl) (by kernel_rfl))
        have hO : PredC.Oc (W.heap.size) 5 (10 + (byts s 2).length) (u8s ([87, 65, 73, 78] ++ byts g 4 ++ byts d 1 ++ byts (wr1 true) 1) ++ u8s (byts s 2)) (b.tmps[47]?.getD undef) X G := hP _ 47 rfl rfl
        have hsz := hE.size
        exact PredC.yields_append rfl (.tmp 47) (.tmp 50) 25 5 5 rfl Try.underlying25 OctB.info_u8 _ _ _ (by simp [Act.eval]) hO (byts l 2) _ (by simp [Act.eval]) r50 (by simp [byts_len]) (by simp [byts_len]) (by omega)
      · refine ⟨_, rfl, fun k hk => (by cases hk; exact Pred.waits_near (by kernel_rfl) (by kernel_rfl)), fun b X G hE hd hn hG hV hI hP => ?_⟩
        have r55 : PredC.Rb (byts m 4) 5 (b.tmps[55]?.getD undef) X G := hV 12 _ 55 rfl rfl rfl (Pred.waits_near (by kernel_rfl) (by kernel_rfl))
        have hO : PredC.Oc (W.heap.size) 5 (10 + (byts s 2).length + (byts l 2).length) (u8s ([87, 65, 73, 78] ++ byts g 4 ++ byts d 1 ++ byts (wr1 true) 1) ++ u8s (byts s 2) ++ u8s (byts l 2)) (b.tmps[51]?.getD undef) X G := hP _ 51 rfl rfl
        have hsz := hE.size
        exact PredC.yields_append rfl (.tmp 51) (.tmp 55) 25 5 5 rfl Try.underlying25 OctB.info_u8 _ _ _ (by simp [Act.eval]) hO (byts m 4) _ (by simp [Act.eval]) r55 (by simp [byts_len]) (by simp [byts_len]) (by omega)
      · refine ⟨_, rfl, fun k hk => (by cases hk; exact Pred.waits_near (by kernel_rfl) (by kernel_rfl)), fun b X G hE hd hn hG hV hI hP => ?_⟩
        have hO : PredC.Oc (W.heap.size) 5 (10 + (byts s 2).length + (byts l 2).length + (byts m 4).length) (u8s ([87, 65, 73, 78] ++ byts g 4 ++ byts d 1 ++ byts (wr1 true) 1) ++ u8s (byts s 2) ++ u8s (byts l 2) ++ u8s (byts m 4)) (b.tmps[56]?.getD undef) X G := hP _ 56 rfl rfl
        have hsz := hE.size
        exact Pred.yields_run (v := b.tmps[56]?.getD undef) (Pred.wanted_none rfl) (by go_simp) ⟨G, PredC.step_refl _ _ _, hG, hO⟩
    intro v X G hE hG hv hl
    have e0 : v 0 = v3 := hv 0 _ 43 rfl rfl rfl
    have e1 : v 1 = .pointer (some ⟨w.heap.size, 3, none⟩) := hv 1 _ 44 rfl rfl rfl
    have e2 : v 2 = .int .i64 s := hv 2 _ 45 rfl rfl rfl
    have e5 : v 5 = .pointer (some ⟨w.heap.size, 4, none⟩) := hv 5 _ 48 rfl rfl rfl
    have e6 : v 6 = .int .i64 l := hv 6 _ 49 rfl rfl rfl
    have e9 : v 9 = .pointer (some ⟨w.heap.size, 5, none⟩) := hv 9 _ 52 rfl rfl rfl
    have e10 : v 10 = .int .u32 m := hv 10 _ 53 rfl rfl rfl
    have e11 : v 11 = .int .i64 m := hv 11 _ 54 rfl rfl rfl
    have hO : PredC.Oc (W.heap.size) 5 (10 + (byts s 2).length + (byts l 2).length + (byts m 4).length) (u8s ([87, 65, 73, 78] ++ byts g 4 ++ byts d 1 ++ byts (wr1 true) 1) ++ u8s (byts s 2) ++ u8s (byts l 2) ++ u8s (byts m 4)) (v 14) X G := hl _ 4 rfl rfl
    simp only [Pred.putsF_cons, Pred.putsF_nil, Nat.zero_add, Nat.reduceAdd, e0, e1, e2, e5, e6, e9, e10, e11, Act.put, List.setIfInBounds_toArray, List.set_cons_zero, List.set_cons_succ]
    clear e0 e1 e2 e5 e6 e9 e10 e11 hv hl
    have sX := hE.size
    have MX : Below W.heap.size W X := M3.trans hE
    have hown5 : X.ownsRow W.heap.size 5 1 (v 14) 18 (u8s ([87, 65, 73, 78] ++ byts g 4 ++ byts d 1 ++ byts (wr1 true) 1 ++ byts s 2 ++ byts l 2 ++ byts m 4)) := by
      have h := hO.1
      simp only [byts_len, Nat.reduceAdd] at h
      simpa [u8s, List.map_append, List.append_assoc] using h
    generalize v 14 = v5 at hown5
    clear hO hE hown4 K4 k3 k4 k5
    go_upto_region 10 with (at_builtin; refine PredC.wpList_append_noughts _ rfl (.tmp 57) (.const (.int .i64 10)) 25 3 5 rfl W.heap.size Try.underlying25 Try.underlying3 OctB.info_u8 _ 18 _ rfl hown5 10 rfl (by omega) (by omega) (by omega) (by omega) ?_; intro v6 w6 hown6 hb6; obtain ⟨a6, c6, rfl, h61, h62⟩ := owns_val hown6)
    have eB : u8s ([87, 65, 73, 78] ++ byts g 4 ++ byts d 1 ++ byts (wr1 true) 1 ++ byts s 2 ++ byts l 2 ++ byts m 4) ++ List.replicate 10 (Value.int .u8 0) = u8s (encB g d true s l m) := by
      rw [show List.replicate 10 (Value.int .u8 0) = u8s (byts 0 10) from rfl]
      simp only [encB, u8s, List.map_append, List.append_assoc]
    rw [eB] at hown6
    have R6 : Reads w6 1 a6 28 (u8s (encB g d true s l m)) := Reads.of_owns hown6
    have M6 : Below W.heap.size W w6 := MX.trans hb6
    have s6 := M6.size
    clear hown5 hb6 MX
    have hlt := onV0_lt (encB_bd g d true s l m)
    go_wp2_with fail
    refine (CrcD.rcrc_any a6 _ c6 _ w6 R6 (encB_bd _ _ _ _ _ _) (by omega)).mono ?_
    rintro e w7 ⟨rfl, hb7⟩
    have s7 := hb7.size
    have hown7 : w7.ownsRow W.heap.size 5 1 (.slice a6 28 c6) 28 (u8s (encB g d true s l m)) := hown6.kept (World.grownBy_below hb7) (by cases (Value.slice a6 28 c6).ownBlock <;> simp)
    have M7 : Below W.heap.size W w7 := M6.trans (hb7.mono (by omega))
    clear hown6 hb7 R6 M6
    go_wp2_with fail
    refine (RefA.big_any _ 4 _ (by omega) (by omega)).mono ?_
    rintro e w8 ⟨v8, rfl, hown8, hb8⟩
    have s8 := hb8.size
    have hown9 : w8.ownsRow W.heap.size 5 1 (.slice a6 28 c6) 28 (u8s (encB g d true s l m)) := hown7.kept (World.grownBy_below hb8) (by cases (Value.slice a6 28 c6).ownBlock <;> simp)
    have M8 : Below W.heap.size W w8 := M7.trans (hb8.mono (by omega))
    obtain ⟨g8, c8, rfl, hg8, hlt8, hn8, hm8, hcell8⟩ := owns_pos hown8 (by omega)
    clear hown8 hb8 hown7 M7
    go_wp2_with (at_builtin; refine wpList_append_either _ rfl (.tmp 59) (.tmp 63) 25 rfl W.heap.size 5 i0 (.int .u8 0) 1 1 Try.underlying25 hi hz0 hz1 hz2 rfl (by decide) _ _ _ rfl (.inl hown9) ⟨g8, 0, none⟩ 4 c8 (u8s (byts (onV 0 (encB g d true s l m) : Nat) 4)) rfl (by simp [byts_len]) (by decide) (RefA.news_own (by simp [byts_len]) hcell8) one_ints (by unfold maxLen; omega) (by omega) (by omega) ?_; intro v9 w9 hown10 hb9; obtain ⟨a9, c9, rfl, h91, h92⟩ := owns_val hown10)
    go_ret2
    exact ⟨a9, c9, rfl, h91, h92, by have h := Reads.of_owns hown10; simpa [encL, u8s] using h, L1.trans ((M8.trans hb9).mono L1.size)⟩
end Go.Proofs.Ytbicgcnlijgjmaa.RefB

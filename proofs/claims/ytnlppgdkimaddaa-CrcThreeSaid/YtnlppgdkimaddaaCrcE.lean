/-
  What the document fixes of sums.
-/
import Derived.Test.YtnlppgdkimaddaaCrcD
import Derived.Test.YtnlppgdkimaddaaPred
namespace Go.Proofs.Ytnlppgdkimaddaa.CrcE
open Go.RowKit Rd Go.Proofs.Ytnlppgdkimaddaa.Row CrcA CrcB CrcC CrcD
open Go.Proofs.Ytnlppgdkimaddaa.Pred (Is is_stab Stab)
set_option linter.unusedVariables false
set_option linter.unusedSimpArgs false
set_option maxRecDepth 100000
attribute [local go_sem ↓] load_tbl store_tbl alloc_tbl
attribute [local go_sem] run_alloc_tbl run_load_tbl run_store_tbl rowLoad_eq rowStore_eq blk_alloc_at blk_alloc_old blk_drew blk_drewN blk_set_far blk_set_far' blk_grow setRow_alloc_at setRow_alloc_old setRow_drew setRow_drewN all_map one_int


/-- a slice of the call's own, of these bytes -/
def Sl (B : Nat) (zs : List Int) (T : TypeId) : Value → World → Prop := fun v w => ∃ g cap, v = .slice (some ⟨g, 0, none⟩) zs.length cap ∧ B ≤ g ∧ ∃ fr, blk w g = some (.cells (cs .u8 zs) T fr)
theorem sl_stab (B : Nat) (zs : List Int) (T : TypeId) : Stab (Sl B zs T) := fun v w w' B' ⟨g, cap, h1, h0, fr, h2⟩ hb => by
  obtain ⟨fr', h3⟩ := hb.2 g _ _ _ h2
  exact ⟨g, cap, h1, h0, fr', h3⟩
theorem reads_blk {w : World} {g : Nat} {zs : List Int} {T : TypeId} {fr : Nat × Nat} (h : blk w g = some (.cells (cs .u8 zs) T fr)) : Reads w 1 (some ⟨g, 0, none⟩) zs.length (u8s zs) :=
  ⟨by simp, .inr ⟨g, 0, rfl, blk_lt h, fun i hi => by rw [Nat.zero_add, blk_cell h]; simp⟩⟩
theorem reads_nil (w : World) : Reads w 1 none 0 (u8s []) := ⟨rfl, .inl rfl⟩


set_option maxHeartbeats 2000000 in
theorem awake_any (w : World) :
    Calls Try.prog 7 #[] w fun e w' => e = .returned (.bool true) ∧ Below w.heap.size w w' := by
  have hl := tblL_len
  go_enter Try.func7, Try.ntmps7
  go_wp2_with fail
  refine (make_any _).mono ?_
  rintro e w1 ⟨rfl, hb1⟩
  have s1 := hb1.size
  go_upto_region 2 with (fail)
  refine Rd.name_world ?_
  intro W hW
  have T0 : blk W w1.heap.size = some (.cells (cs .u32 tblL) 26 (0, 0)) := by rw [hW]; exact blk_alloc_at _ _ _ rfl
  have lT := blk_lt T0
  have L1 : Below w.heap.size w W := by rw [hW]; repeat' (first | (with_reducible exact Below.refl _ _) | (with_reducible refine Rd.below_step ?_ (by assumption)) | (with_reducible refine Rd.below_alloc ?_ _) | (with_reducible refine Rd.below_drewN ?_ _) | (with_reducible refine Below.drew ?_) | (with_reducible refine Below.setCell ?_ ?_ _) | (with_reducible refine Rd.below_setRow ?_ ?_ _) | go_size | (simp only [World.size_alloc]; omega) | omega)
  clear hW hb1
  refine Pred.region_vals (Pred.Of [
      Is (.agg (cs .u32 tblL)),
      Sl W.heap.size ([49, 50, 51, 52, 53, 54, 55, 56, 57]) 5,
      Sl W.heap.size ([49, 50, 51, 52, 53, 54, 55, 56, 57]) 5,
      Is (.int .u32 3421780262),
      Is (.bool true),
      Is (.bool true),
      Is (.agg (cs .u32 tblL)),
      Is (.int .u32 0),
      Is (.bool true),
      Is (.bool true),
      Is (.bool true),
      Is (.agg (cs .u32 tblL)),
      Is (.agg (cs .u32 tblL)),
      Sl W.heap.size ([49, 50, 51, 52]) 5,
      Sl W.heap.size ([49, 50, 51, 52]) 5,
      Is (.int .u32 2615402659),
      Sl W.heap.size ([53, 54, 55, 56, 57]) 5,
      Sl W.heap.size ([53, 54, 55, 56, 57]) 5,
      Is (.int .u32 3421780262),
      Is (.bool true),
      Is (.bool true),
      Is (.bool true),
      Is (.pointer (some ⟨w1.heap.size, 1, none⟩)),
      Is (.int .u32 1996959894),
      Is (.bool true),
      Is (.bool true),
      Is (.bool true)]) (by kernel_rfl) (by kernel_rfl) (by kernel_rfl) (Pred.of_stab ?_) ?_ ?_
  · exact ⟨is_stab _, sl_stab _ _ _, sl_stab _ _ _, is_stab _, is_stab _, is_stab _, is_stab _, is_stab _, is_stab _, is_stab _, is_stab _, is_stab _, is_stab _, sl_stab _ _ _, sl_stab _ _ _, is_stab _, sl_stab _ _ _, sl_stab _ _ _, is_stab _, is_stab _, is_stab _, is_stab _, is_stab _, is_stab _, is_stab _, is_stab _, is_stab _, trivial⟩
  · refine ⟨?_, ?_, ?_, ?_, ?_, ?_, ?_, ?_, ?_, ?_, ?_, ?_, ?_, ?_, ?_, ?_, ?_, ?_, ?_, ?_, ?_, ?_, ?_, ?_, ?_, ?_, ?_, trivial⟩
    · intro b X hE hd hn hV
      have r1 : b.tmps[1]?.getD undef = .pointer (some ⟨w1.heap.size, 0, none⟩) := (hn 1 (by kernel_rfl)).trans rfl
      have q := (blk_below hE _ lT).trans T0
      exact Pred.yields_run (v := .agg (cs .u32 tblL)) (Pred.wanted_none rfl) (by go_simp) ⟨Pred.ext_refl _ _, rfl⟩
    · intro b X hE hd hn hV
      exact Pred.yields_run (v := .slice (some ⟨X.heap.size, 0, none⟩) 9 9) (w' := X.alloc (.cells (cs .u8 [49, 50, 51, 52, 53, 54, 55, 56, 57]) 5)) (Pred.wanted_none rfl) (by go_simp; rfl) ⟨Pred.ext_below ((Below.refl _ _).alloc (Nat.le_refl _) _) hE.size, X.heap.size, 9, rfl, hE.size, _, blk_alloc_at _ _ _ rfl⟩
    · intro b X hE hd hn hV
      obtain ⟨g4, c4, r4, o4, f4, q4⟩ : Sl W.heap.size ([49, 50, 51, 52, 53, 54, 55, 56, 57]) 5 (b.tmps[4]?.getD undef) X := hV 1 _ 4 rfl rfl (by kernel_rfl)
      have k4 := blk_lt q4
      obtain ⟨Y, hY, hext⟩ := Pred.run_conv_own (P := Try.prog) (t := 22) (n := ([49, 50, 51, 52, 53, 54, 55, 56, 57]).length) (c := c4) Try.underlying22 Try.underlying5 q4
      obtain ⟨f, h3⟩ := hext.2 _ _ _ _ q4
      have own4 : W.heap.size ≤ g4 := o4
      try simp only [List.length_cons, List.length_nil, Nat.zero_add, Nat.reduceAdd] at hY
      exact Pred.yields_run (v := .slice (some ⟨g4, 0, none⟩) ([49, 50, 51, 52, 53, 54, 55, 56, 57]).length c4) (w' := Y) (Pred.wanted_none rfl) (by go_simp) ⟨⟨hext.1.mono own4, hext.2⟩, g4, c4, rfl, own4, f, h3⟩
    · intro b X hE hd hn hV
      have r3 : b.tmps[3]?.getD undef = .agg (cs .u32 tblL) := hV 0 _ 3 rfl rfl (by kernel_rfl)
      obtain ⟨g5, c5, r5, o5, f5, q5⟩ : Sl W.heap.size ([49, 50, 51, 52, 53, 54, 55, 56, 57]) 5 (b.tmps[5]?.getD undef) X := hV 2 _ 5 rfl rfl (by kernel_rfl)
      have k5 := blk_lt q5
      refine Pred.yields_call (f := 10) (args := #[.agg (cs .u32 tblL), .slice (some ⟨g5, 0, none⟩) 9 c5]) (Pred.wanted_none rfl) (by go_simp) ?_
      exact (of_any _ _ c5 [49, 50, 51, 52, 53, 54, 55, 56, 57] _ (reads_blk q5) (by decide) (by decide)).mono fun e w2 ⟨he, hb⟩ => ⟨_, he, Pred.ext_below hb hE.size, show _ = _ by rw [show onV 0 [49, 50, 51, 52, 53, 54, 55, 56, 57] = 3421780262 by decide]; rfl⟩
    · intro b X hE hd hn hV
      have r6 : b.tmps[6]?.getD undef = .int .u32 3421780262 := hV 3 _ 6 rfl rfl (by kernel_rfl)
      exact Pred.yields_run (v := .bool true) (Pred.wanted_none rfl) (by go_simp) ⟨Pred.ext_refl _ _, rfl⟩
    · intro b X hE hd hn hV
      have r7 : b.tmps[7]?.getD undef = .bool true := hV 4 _ 7 rfl rfl (by kernel_rfl)
      exact Pred.yields_run (v := .bool true) (Pred.wanted_none rfl) (by go_simp) ⟨Pred.ext_refl _ _, rfl⟩
    · intro b X hE hd hn hV
      have r1 : b.tmps[1]?.getD undef = .pointer (some ⟨w1.heap.size, 0, none⟩) := (hn 1 (by kernel_rfl)).trans rfl
      have r8 : b.tmps[8]?.getD undef = .bool true := hV 5 _ 8 rfl rfl (by kernel_rfl)
      have q := (blk_below hE _ lT).trans T0
      exact Pred.yields_run (v := .agg (cs .u32 tblL)) ((Pred.wanted_at (g := 5) (d := 8) (f := true) rfl rfl r8).trans rfl) (by go_simp) ⟨Pred.ext_refl _ _, rfl⟩
    · intro b X hE hd hn hV
      have r9 : b.tmps[9]?.getD undef = .agg (cs .u32 tblL) := hV 6 _ 9 rfl rfl (by kernel_rfl)
      have r8 : b.tmps[8]?.getD undef = .bool true := hV 5 _ 8 rfl rfl (by kernel_rfl)
      refine Pred.yields_call (f := 10) (args := #[.agg (cs .u32 tblL), .slice none 0 0]) ((Pred.wanted_at (g := 5) (d := 8) (f := true) rfl rfl r8).trans rfl) (by go_simp) ?_
      exact (of_any none 0 0 [] _ (reads_nil _) (by decide) (by decide)).mono fun e w2 ⟨he, hb⟩ => ⟨_, he, Pred.ext_below hb hE.size, show _ = _ by rw [show onV 0 [] = 0 by decide]; rfl⟩
    · intro b X hE hd hn hV
      have r10 : b.tmps[10]?.getD undef = .int .u32 0 := hV 7 _ 10 rfl rfl (by kernel_rfl)
      have r8 : b.tmps[8]?.getD undef = .bool true := hV 5 _ 8 rfl rfl (by kernel_rfl)
      exact Pred.yields_run (v := .bool true) ((Pred.wanted_at (g := 5) (d := 8) (f := true) rfl rfl r8).trans rfl) (by go_simp) ⟨Pred.ext_refl _ _, rfl⟩
    · intro b X hE hd hn hV
      have r8 : b.tmps[8]?.getD undef = .bool true := hV 5 _ 8 rfl rfl (by kernel_rfl)
      have r11 : b.tmps[11]?.getD undef = .bool true := hV 8 _ 11 rfl rfl (by kernel_rfl)
      exact Pred.yields_run (v := .bool true) (Pred.wanted_none rfl) (by go_simp) ⟨Pred.ext_refl _ _, rfl⟩
    · intro b X hE hd hn hV
      have r12 : b.tmps[12]?.getD undef = .bool true := hV 9 _ 12 rfl rfl (by kernel_rfl)
      exact Pred.yields_run (v := .bool true) (Pred.wanted_none rfl) (by go_simp) ⟨Pred.ext_refl _ _, rfl⟩
    · intro b X hE hd hn hV
      have r1 : b.tmps[1]?.getD undef = .pointer (some ⟨w1.heap.size, 0, none⟩) := (hn 1 (by kernel_rfl)).trans rfl
      have r13 : b.tmps[13]?.getD undef = .bool true := hV 10 _ 13 rfl rfl (by kernel_rfl)
      have q := (blk_below hE _ lT).trans T0
      exact Pred.yields_run (v := .agg (cs .u32 tblL)) ((Pred.wanted_at (g := 10) (d := 13) (f := true) rfl rfl r13).trans rfl) (by go_simp) ⟨Pred.ext_refl _ _, rfl⟩
    · intro b X hE hd hn hV
      have r1 : b.tmps[1]?.getD undef = .pointer (some ⟨w1.heap.size, 0, none⟩) := (hn 1 (by kernel_rfl)).trans rfl
      have r13 : b.tmps[13]?.getD undef = .bool true := hV 10 _ 13 rfl rfl (by kernel_rfl)
      have q := (blk_below hE _ lT).trans T0
      exact Pred.yields_run (v := .agg (cs .u32 tblL)) ((Pred.wanted_at (g := 10) (d := 13) (f := true) rfl rfl r13).trans rfl) (by go_simp) ⟨Pred.ext_refl _ _, rfl⟩
    · intro b X hE hd hn hV
      have r13 : b.tmps[13]?.getD undef = .bool true := hV 10 _ 13 rfl rfl (by kernel_rfl)
      exact Pred.yields_run (v := .slice (some ⟨X.heap.size, 0, none⟩) 4 4) (w' := X.alloc (.cells (cs .u8 [49, 50, 51, 52]) 5)) ((Pred.wanted_at (g := 10) (d := 13) (f := true) rfl rfl r13).trans rfl) (by go_simp; rfl) ⟨Pred.ext_below ((Below.refl _ _).alloc (Nat.le_refl _) _) hE.size, X.heap.size, 4, rfl, hE.size, _, blk_alloc_at _ _ _ rfl⟩
    · intro b X hE hd hn hV
      obtain ⟨g16, c16, r16, o16, f16, q16⟩ : Sl W.heap.size ([49, 50, 51, 52]) 5 (b.tmps[16]?.getD undef) X := hV 13 _ 16 rfl rfl (by kernel_rfl)
      have k16 := blk_lt q16
      have r13 : b.tmps[13]?.getD undef = .bool true := hV 10 _ 13 rfl rfl (by kernel_rfl)
      obtain ⟨Y, hY, hext⟩ := Pred.run_conv_own (P := Try.prog) (t := 22) (n := ([49, 50, 51, 52]).length) (c := c16) Try.underlying22 Try.underlying5 q16
      obtain ⟨f, h3⟩ := hext.2 _ _ _ _ q16
      have own16 : W.heap.size ≤ g16 := o16
      try simp only [List.length_cons, List.length_nil, Nat.zero_add, Nat.reduceAdd] at hY
      exact Pred.yields_run (v := .slice (some ⟨g16, 0, none⟩) ([49, 50, 51, 52]).length c16) (w' := Y) ((Pred.wanted_at (g := 10) (d := 13) (f := true) rfl rfl r13).trans rfl) (by go_simp) ⟨⟨hext.1.mono own16, hext.2⟩, g16, c16, rfl, own16, f, h3⟩
    · intro b X hE hd hn hV
      have r15 : b.tmps[15]?.getD undef = .agg (cs .u32 tblL) := hV 12 _ 15 rfl rfl (by kernel_rfl)
      obtain ⟨g17, c17, r17, o17, f17, q17⟩ : Sl W.heap.size ([49, 50, 51, 52]) 5 (b.tmps[17]?.getD undef) X := hV 14 _ 17 rfl rfl (by kernel_rfl)
      have k17 := blk_lt q17
      have r13 : b.tmps[13]?.getD undef = .bool true := hV 10 _ 13 rfl rfl (by kernel_rfl)
      refine Pred.yields_call (f := 10) (args := #[.agg (cs .u32 tblL), .slice (some ⟨g17, 0, none⟩) 4 c17]) ((Pred.wanted_at (g := 10) (d := 13) (f := true) rfl rfl r13).trans rfl) (by go_simp) ?_
      exact (of_any _ _ c17 [49, 50, 51, 52] _ (reads_blk q17) (by decide) (by decide)).mono fun e w2 ⟨he, hb⟩ => ⟨_, he, Pred.ext_below hb hE.size, show _ = _ by rw [show onV 0 [49, 50, 51, 52] = 2615402659 by decide]; rfl⟩
    · intro b X hE hd hn hV
      have r13 : b.tmps[13]?.getD undef = .bool true := hV 10 _ 13 rfl rfl (by kernel_rfl)
      exact Pred.yields_run (v := .slice (some ⟨X.heap.size, 0, none⟩) 5 5) (w' := X.alloc (.cells (cs .u8 [53, 54, 55, 56, 57]) 5)) ((Pred.wanted_at (g := 10) (d := 13) (f := true) rfl rfl r13).trans rfl) (by go_simp; rfl) ⟨Pred.ext_below ((Below.refl _ _).alloc (Nat.le_refl _) _) hE.size, X.heap.size, 5, rfl, hE.size, _, blk_alloc_at _ _ _ rfl⟩
    · intro b X hE hd hn hV
      obtain ⟨g19, c19, r19, o19, f19, q19⟩ : Sl W.heap.size ([53, 54, 55, 56, 57]) 5 (b.tmps[19]?.getD undef) X := hV 16 _ 19 rfl rfl (by kernel_rfl)
      have k19 := blk_lt q19
      have r13 : b.tmps[13]?.getD undef = .bool true := hV 10 _ 13 rfl rfl (by kernel_rfl)
      obtain ⟨Y, hY, hext⟩ := Pred.run_conv_own (P := Try.prog) (t := 22) (n := ([53, 54, 55, 56, 57]).length) (c := c19) Try.underlying22 Try.underlying5 q19
      obtain ⟨f, h3⟩ := hext.2 _ _ _ _ q19
      have own19 : W.heap.size ≤ g19 := o19
      try simp only [List.length_cons, List.length_nil, Nat.zero_add, Nat.reduceAdd] at hY
      exact Pred.yields_run (v := .slice (some ⟨g19, 0, none⟩) ([53, 54, 55, 56, 57]).length c19) (w' := Y) ((Pred.wanted_at (g := 10) (d := 13) (f := true) rfl rfl r13).trans rfl) (by go_simp) ⟨⟨hext.1.mono own19, hext.2⟩, g19, c19, rfl, own19, f, h3⟩
    · intro b X hE hd hn hV
      have r14 : b.tmps[14]?.getD undef = .agg (cs .u32 tblL) := hV 11 _ 14 rfl rfl (by kernel_rfl)
      have r18 : b.tmps[18]?.getD undef = .int .u32 2615402659 := hV 15 _ 18 rfl rfl (by kernel_rfl)
      obtain ⟨g20, c20, r20, o20, f20, q20⟩ : Sl W.heap.size ([53, 54, 55, 56, 57]) 5 (b.tmps[20]?.getD undef) X := hV 17 _ 20 rfl rfl (by kernel_rfl)
      have k20 := blk_lt q20
      have r13 : b.tmps[13]?.getD undef = .bool true := hV 10 _ 13 rfl rfl (by kernel_rfl)
      refine Pred.yields_call (f := 12) (args := #[.agg (cs .u32 tblL), .int .u32 2615402659, .slice (some ⟨g20, 0, none⟩) 5 c20]) ((Pred.wanted_at (g := 10) (d := 13) (f := true) rfl rfl r13).trans rfl) (by go_simp) ?_
      exact (on_any 2615402659 _ _ c20 [53, 54, 55, 56, 57] _ (by decide) (reads_blk q20) (by decide) (by decide)).mono fun e w2 ⟨he, hb⟩ => ⟨_, he, Pred.ext_below hb hE.size, show _ = _ by rw [show onV 2615402659 [53, 54, 55, 56, 57] = 3421780262 by decide]; rfl⟩
    · intro b X hE hd hn hV
      have r21 : b.tmps[21]?.getD undef = .int .u32 3421780262 := hV 18 _ 21 rfl rfl (by kernel_rfl)
      have r13 : b.tmps[13]?.getD undef = .bool true := hV 10 _ 13 rfl rfl (by kernel_rfl)
      exact Pred.yields_run (v := .bool true) ((Pred.wanted_at (g := 10) (d := 13) (f := true) rfl rfl r13).trans rfl) (by go_simp) ⟨Pred.ext_refl _ _, rfl⟩
    · intro b X hE hd hn hV
      have r13 : b.tmps[13]?.getD undef = .bool true := hV 10 _ 13 rfl rfl (by kernel_rfl)
      have r22 : b.tmps[22]?.getD undef = .bool true := hV 19 _ 22 rfl rfl (by kernel_rfl)
      exact Pred.yields_run (v := .bool true) (Pred.wanted_none rfl) (by go_simp) ⟨Pred.ext_refl _ _, rfl⟩
    · intro b X hE hd hn hV
      have r23 : b.tmps[23]?.getD undef = .bool true := hV 20 _ 23 rfl rfl (by kernel_rfl)
      exact Pred.yields_run (v := .bool true) (Pred.wanted_none rfl) (by go_simp) ⟨Pred.ext_refl _ _, rfl⟩
    · intro b X hE hd hn hV
      have r1 : b.tmps[1]?.getD undef = .pointer (some ⟨w1.heap.size, 0, none⟩) := (hn 1 (by kernel_rfl)).trans rfl
      have r24 : b.tmps[24]?.getD undef = .bool true := hV 21 _ 24 rfl rfl (by kernel_rfl)
      exact Pred.yields_run (v := .pointer (some ⟨w1.heap.size, 1, none⟩)) ((Pred.wanted_at (g := 21) (d := 24) (f := true) rfl rfl r24).trans rfl) (by go_simp) ⟨Pred.ext_refl _ _, rfl⟩
    · intro b X hE hd hn hV
      have r25 : b.tmps[25]?.getD undef = .pointer (some ⟨w1.heap.size, 1, none⟩) := hV 22 _ 25 rfl rfl (by kernel_rfl)
      have r24 : b.tmps[24]?.getD undef = .bool true := hV 21 _ 24 rfl rfl (by kernel_rfl)
      have q := (blk_below hE _ lT).trans T0
      have qc : X.cell? ⟨w1.heap.size, 1, none⟩ = some (.int .u32 1996959894) := by rw [blk_cell q]; exact cs_at (tblL_at 1 (by omega))
      exact Pred.yields_run (v := .int .u32 1996959894) ((Pred.wanted_at (g := 21) (d := 24) (f := true) rfl rfl r24).trans rfl) (by go_simp) ⟨Pred.ext_refl _ _, rfl⟩
    · intro b X hE hd hn hV
      have r26 : b.tmps[26]?.getD undef = .int .u32 1996959894 := hV 23 _ 26 rfl rfl (by kernel_rfl)
      have r24 : b.tmps[24]?.getD undef = .bool true := hV 21 _ 24 rfl rfl (by kernel_rfl)
      exact Pred.yields_run (v := .bool true) ((Pred.wanted_at (g := 21) (d := 24) (f := true) rfl rfl r24).trans rfl) (by go_simp) ⟨Pred.ext_refl _ _, rfl⟩
    · intro b X hE hd hn hV
      have r24 : b.tmps[24]?.getD undef = .bool true := hV 21 _ 24 rfl rfl (by kernel_rfl)
      have r27 : b.tmps[27]?.getD undef = .bool true := hV 24 _ 27 rfl rfl (by kernel_rfl)
      exact Pred.yields_run (v := .bool true) (Pred.wanted_none rfl) (by go_simp) ⟨Pred.ext_refl _ _, rfl⟩
    · intro b X hE hd hn hV
      have r28 : b.tmps[28]?.getD undef = .bool true := hV 25 _ 28 rfl rfl (by kernel_rfl)
      exact Pred.yields_run (v := .bool true) (Pred.wanted_none rfl) (by go_simp) ⟨Pred.ext_refl _ _, rfl⟩
  intro v X hE hv
  have e0 : v 0 = .agg (cs .u32 tblL) := hv 0 _ 3 rfl rfl
  obtain ⟨g1, c1, e1, o1, f1, q1⟩ : Sl W.heap.size ([49, 50, 51, 52, 53, 54, 55, 56, 57]) 5 (v 1) X := hv 1 _ 4 rfl rfl
  obtain ⟨g2, c2, e2, o2, f2, q2⟩ : Sl W.heap.size ([49, 50, 51, 52, 53, 54, 55, 56, 57]) 5 (v 2) X := hv 2 _ 5 rfl rfl
  have e3 : v 3 = .int .u32 3421780262 := hv 3 _ 6 rfl rfl
  have e4 : v 4 = .bool true := hv 4 _ 7 rfl rfl
  have e5 : v 5 = .bool true := hv 5 _ 8 rfl rfl
  have e6 : v 6 = .agg (cs .u32 tblL) := hv 6 _ 9 rfl rfl
  have e7 : v 7 = .int .u32 0 := hv 7 _ 10 rfl rfl
  have e8 : v 8 = .bool true := hv 8 _ 11 rfl rfl
  have e9 : v 9 = .bool true := hv 9 _ 12 rfl rfl
  have e10 : v 10 = .bool true := hv 10 _ 13 rfl rfl
  have e11 : v 11 = .agg (cs .u32 tblL) := hv 11 _ 14 rfl rfl
  have e12 : v 12 = .agg (cs .u32 tblL) := hv 12 _ 15 rfl rfl
  obtain ⟨g13, c13, e13, o13, f13, q13⟩ : Sl W.heap.size ([49, 50, 51, 52]) 5 (v 13) X := hv 13 _ 16 rfl rfl
  obtain ⟨g14, c14, e14, o14, f14, q14⟩ : Sl W.heap.size ([49, 50, 51, 52]) 5 (v 14) X := hv 14 _ 17 rfl rfl
  have e15 : v 15 = .int .u32 2615402659 := hv 15 _ 18 rfl rfl
  obtain ⟨g16, c16, e16, o16, f16, q16⟩ : Sl W.heap.size ([53, 54, 55, 56, 57]) 5 (v 16) X := hv 16 _ 19 rfl rfl
  obtain ⟨g17, c17, e17, o17, f17, q17⟩ : Sl W.heap.size ([53, 54, 55, 56, 57]) 5 (v 17) X := hv 17 _ 20 rfl rfl
  have e18 : v 18 = .int .u32 3421780262 := hv 18 _ 21 rfl rfl
  have e19 : v 19 = .bool true := hv 19 _ 22 rfl rfl
  have e20 : v 20 = .bool true := hv 20 _ 23 rfl rfl
  have e21 : v 21 = .bool true := hv 21 _ 24 rfl rfl
  have e22 : v 22 = .pointer (some ⟨w1.heap.size, 1, none⟩) := hv 22 _ 25 rfl rfl
  have e23 : v 23 = .int .u32 1996959894 := hv 23 _ 26 rfl rfl
  have e24 : v 24 = .bool true := hv 24 _ 27 rfl rfl
  have e25 : v 25 = .bool true := hv 25 _ 28 rfl rfl
  have e26 : v 26 = .bool true := hv 26 _ 0 rfl rfl
  simp only [Pred.putsF_cons, Pred.putsF_nil, Nat.zero_add, Nat.reduceAdd, e0, e1, e2, e3, e4, e5, e6, e7, e8, e9, e10, e11, e12, e13, e14, e15, e16, e17, e18, e19, e20, e21, e22, e23, e24, e25, e26, Act.put, List.setIfInBounds_toArray, List.set_cons_zero, List.set_cons_succ]
  clear e0 e1 e2 e3 e4 e5 e6 e7 e8 e9 e10 e11 e12 e13 e14 e15 e16 e17 e18 e19 e20 e21 e22 e23 e24 e25 e26 hv
  go_wp2
  go_ret
  exact ⟨rfl, by repeat' (first | (with_reducible exact Below.refl _ _) | (with_reducible refine Rd.below_step ?_ (by assumption)) | (with_reducible refine Rd.below_alloc ?_ _) | (with_reducible refine Rd.below_drewN ?_ _) | (with_reducible refine Below.drew ?_) | (with_reducible refine Below.setCell ?_ ?_ _) | (with_reducible refine Rd.below_setRow ?_ ?_ _) | go_size | (simp only [World.size_alloc]; omega) | omega)⟩
end Go.Proofs.Ytnlppgdkimaddaa.CrcE

/-
  What the document fixes.
-/
import Derived.Test.YtajoajblmaopjaaDkD
import Derived.Test.YtajoajblmaopjaaPred
namespace Go.Proofs.Ytajoajblmaopjaa.DkE
open Go.RowKit Rd Go.Proofs.Ytajoajblmaopjaa.Row Mid DkM DkA DkB DkC DkD
set_option linter.unusedVariables false
set_option linter.unusedSimpArgs false
set_option maxRecDepth 10000
open Go.Proofs.Ytajoajblmaopjaa.Pred (Is is_stab Stab)
theorem cell_ext {B : Nat} {w w' : World} (h : Pred.Ext B w w') {b o : Nat} {v : Value} (hc : w.cell? ⟨b, o, none⟩ = some v) : w'.cell? ⟨b, o, none⟩ = some v ∧ b < w'.heap.size := by
  unfold World.cell? at hc ⊢
  simp only at hc ⊢
  cases hb : w.heap[b]? with
  | none => rw [hb] at hc; cases hc
  | some ob =>
    rw [hb] at hc
    cases ob with
    | cells c t fr =>
      obtain ⟨fr', h2⟩ := h.2 b c t fr hb
      rw [h2]
      refine ⟨hc, ?_⟩
      rcases Nat.lt_or_ge b w'.heap.size with h3 | h3
      · exact h3
      · rw [Array.getElem?_eq_none h3] at h2; cases h2
    | _ => simp at hc
theorem reads_ext {B s n : Nat} {w w' : World} {a : Option Addr} {cs : List Value} (h : Pred.Ext B w w') (hr : Reads w s a n cs) (hs : 0 < s) : Reads w' s a n cs := by
  obtain ⟨h1, h2⟩ := hr
  refine ⟨h1, ?_⟩
  rcases h2 with h2 | ⟨b, off, rfl, hb, hc⟩
  · exact .inl h2
  · by_cases hn : n = 0
    · exact .inl hn
    · have hpos : 0 < cs.length := by rw [h1]; exact Nat.mul_pos (by omega) hs
      have key : ∀ i, i < cs.length → w'.cell? ⟨b, off + i, none⟩ = cs[i]? ∧ b < w'.heap.size := fun i hi => by
        have h3 := hc i hi
        rw [List.getElem?_eq_getElem hi] at h3 ⊢
        exact cell_ext h h3
      exact .inr ⟨b, off, rfl, (key 0 hpos).2, fun i hi => (key i hi).1⟩
def SecP (l : List Int) : Value → World → Prop := fun v X => ∃ g, v = .slice (some ⟨g, 0, none⟩) 32 32 ∧ Reads X 1 (some ⟨g, 0, none⟩) 32 (us l)
theorem secp_stab (l : List Int) : Stab (SecP l) := by
  intro v w w' B ⟨g, h1, h2⟩ hb
  exact ⟨g, h1, reads_ext hb h2 (by omega)⟩
theorem reads_of {X : World} {g : Nat} {l : List Int} {t : TypeId} (h : blk X g = some (.cells (us l).toArray t (0, 0))) (hl : l.length = 32) : Reads X 1 (some ⟨g, 0, none⟩) 32 (us l) :=
  ⟨by rw [us_len, hl], Or.inr ⟨g, 0, rfl, blk_lt h, fun i hi => by rw [Nat.zero_add, blk_cell h, List.getElem?_toArray]⟩⟩
theorem str_reads {W : World} {g : Nat} {l : List Int} {c : Nat} (h : Reads W 1 (some ⟨g, 0, none⟩) 32 (us l)) (hb : ∀ z ∈ l, 0 ≤ z ∧ z ≤ 255) :
    (convert 32 9 (.slice (some ⟨g, 0, none⟩) 32 c)).run Try.prog W = .ok (.string (bytesOf l)) W :=
  Rd.conv_reads Try.underlying32 Try.underlying5 Try.underlying9 h hb
structure Lw (w X : World) (b kg hg n : Nat) (s : DS) : Prop where
  d : Dk X b kg hg n s
  below : Below w.heap.size w X
  lo : w.heap.size ≤ b ∧ w.heap.size ≤ kg ∧ w.heap.size ≤ hg
variable {b kg hg n : Nat} {s s' : DS}
theorem Lw.bel {w X Y : World} (h : Lw w X b kg hg n s) (hb : Below X.heap.size X Y) : Lw w Y b kg hg n s := ⟨h.d.bel hb, h.below.trans (hb.mono h.below.size), h.lo⟩
theorem Lw.tn {w X Y : World} (h : Lw w X b kg hg n s) (d : Dk Y b kg hg n s') (t : Tn [b, kg, hg] X Y) : Lw w Y b kg hg n s' :=
  ⟨d, h.below.trans (t.below (by intro k hk; simp at hk; have := h.lo; omega) h.below.size), h.lo⟩
theorem src_of {X : World} {g : Nat} {l : List Int} {t : TypeId} (h : blk X g = some (.cells (us l).toArray t (0, 0))) : ∀ j u, (us l)[j]? = some u → X.cell? ⟨g, 0 + j, none⟩ = some u := fun j u hj => by
  rw [Nat.zero_add, blk_cell h, List.getElem?_toArray]
  exact hj
def s1 : DS := wrS (newS 3) 1 (secL 1)
def s2 : DS := flN s1 3
def s3 : DS := wrS s2 2 (secL 2)
def s4 : DS := { s3 with lf := 0, ms := 0 }
def s5 : DS := { s4 with dn := true }
def s6 : DS := { (upN s5 3).1 with dn := false, lf := -1, ms := 0 }
theorem fact1 : (upN s5 3).2.2 = [] := by decide +kernel
theorem fact2 : rd s6 1 = secL 1 := by decide +kernel
theorem fact3 : rd s6 2 = z32 := by decide +kernel
theorem fact4 : s6.wr = 2 := by decide +kernel
theorem fact5 : s2.lf = -1 ∧ s2.wr = 1 ∧ s2.dn = false := by decide +kernel
attribute [local go_sem ↓] run_make_32
set_option maxHeartbeats 8000000 in
theorem awake_any (w : World) : Calls Try.prog 7 #[] w fun e w' => e = .returned (.bool true) ∧ Below w.heap.size w w' := by
  go_enter Try.func7, Try.ntmps7
  go_wp2_with fail
  refine (new_any 3 (by decide) _).mono ?_
  rintro e w1 ⟨⟨db, kg, hg, rfl, hb, hk, hh, d1⟩, L1⟩
  have H1 : Hid (Lw w w1 db kg hg 3 (newS 3)) := Lib.hid ⟨d1, L1, hb, hk, hh⟩
  clear d1 L1
  go_wp2_with fail
  refine (new_no 0 (by decide) _).mono ?_
  rintro e _ ⟨rfl, rfl⟩
  go_wp2_with fail
  refine (sector_any 1 (by decide) _).mono ?_
  rintro e w2 ⟨rfl, hbl, hb2⟩
  have H2 := Lib.hid (H1.out.bel hb2)
  have hl := H1.out.d.lt
  have HB := Lib.hid hbl
  have hsz := blk_lt hbl
  obtain ⟨p, hp⟩ : ∃ p, w1.heap.size = p := ⟨_, rfl⟩
  rw [hp] at HB hsz hl ⊢
  clear hbl hb2 hp H1
  go_wp2_with fail
  refine (write_any 1 (secL 1) p 0 32 _ H2.out.d rfl (by decide) (secL_len 1) (by decide) (by decide) (by decide) hsz (by simp; omega) (src_of HB.out)).mono ?_
  rintro e w3 ⟨rfl, d3, t3⟩
  have H3 : Hid (Lw w w3 db kg hg 3 s1) := Lib.hid (H2.out.tn d3 t3)
  clear d3 t3 H2 HB hsz hl
  go_wp2_with fail
  refine (flush_any _ H3.out.d rfl).mono ?_
  rintro e w4 ⟨rfl, d3, t3⟩
  have H4 : Hid (Lw w w4 db kg hg 3 s2) := Lib.hid (H3.out.tn d3 t3)
  clear d3 t3 H3
  go_wp2_with fail
  refine (sector_any 2 (by decide) _).mono ?_
  rintro e w5 ⟨rfl, hbl, hb2⟩
  have H5 := Lib.hid (H4.out.bel hb2)
  have hl := H4.out.d.lt
  have HB := Lib.hid hbl
  have hsz := blk_lt hbl
  obtain ⟨p, hp⟩ : ∃ p, w4.heap.size = p := ⟨_, rfl⟩
  rw [hp] at HB hsz hl ⊢
  clear hbl hb2 hp H4
  go_wp2_with fail
  refine (write_any 2 (secL 2) p 0 32 _ H5.out.d fact5.2.2 (by decide) (secL_len 2) (by rw [fact5.1]; decide) (by rw [fact5.1]; decide) (by rw [fact5.2.1]; decide) hsz (by simp; omega) (src_of HB.out)).mono ?_
  rintro e w6 ⟨rfl, d3, t3⟩
  have H6 : Hid (Lw w w6 db kg hg 3 s3) := Lib.hid (H5.out.tn d3 t3)
  clear d3 t3 H5 HB hsz hl
  go_wp2_with fail
  refine (fuse_any 0 0 _ H6.out.d fact5.2.2 (by decide)).mono ?_
  rintro e w7 ⟨rfl, d3, t3⟩
  have H7 : Hid (Lw w w7 db kg hg 3 s4) := Lib.hid (H6.out.tn d3 t3)
  clear d3 t3 H6
  go_wp2_with fail
  refine (sector_any 3 (by decide) _).mono ?_
  rintro e w8 ⟨rfl, hbl, hb2⟩
  have H8 := Lib.hid (H7.out.bel hb2)
  clear hbl hb2 H7
  go_wp2_with fail
  refine (write_down 0 (secL 3) _ 32 _ H8.out.d fact5.2.2 (by decide) rfl).mono ?_
  rintro e w9 ⟨rfl, d3, t3⟩
  have H9 : Hid (Lw w w9 db kg hg 3 s5) := Lib.hid (H8.out.tn d3 t3)
  clear d3 t3 H8
  go_wp2_with fail
  refine (down_any _ H9.out.d).mono ?_
  rintro e _ ⟨he, rfl⟩
  replace he : e = .returned (.bool true) := he
  subst he
  go_wp2_with fail
  refine (read_no 1 _ H9.out.d (by decide)).mono ?_
  rintro e _ ⟨he, rfl⟩
  replace he : e = .returned (.tuple #[.slice none 0 0, .int .i64 7]) := he
  subst he
  go_wp2_with fail
  refine (up_any _ H9.out.d rfl).mono ?_
  rintro e w10 ⟨⟨ad, uc, he, -, -⟩, d3, t3⟩
  rw [fact1] at he
  replace he : e = .returned (.slice ad 0 uc) := he
  subst he
  have H10 : Hid (Lw w w10 db kg hg 3 s6) := Lib.hid (H9.out.tn d3 t3)
  clear d3 t3 H9
  go_wp2_with fail
  refine (read_any 1 _ H10.out.d rfl (by decide)).mono ?_
  rintro e w11 ⟨rfl, hbl, hb2⟩
  rw [fact2] at hbl
  have H11 := Lib.hid (H10.out.bel hb2)
  have HX := Lib.hid hbl
  obtain ⟨px, hp⟩ : ∃ p, w10.heap.size = p := ⟨_, rfl⟩
  rw [hp] at HX ⊢
  clear hbl hb2 hp H10
  go_wp2_with fail
  refine (read_any 2 _ H11.out.d rfl (by decide)).mono ?_
  rintro e w12 ⟨rfl, hbl, hb2⟩
  rw [fact3] at hbl
  have H12 := Lib.hid (H11.out.bel hb2)
  have HX2 := Lib.hid ((blk_below hb2 _ (blk_lt HX.out)).trans HX.out)
  have HY := Lib.hid hbl
  obtain ⟨py, hp⟩ : ∃ p, w11.heap.size = p := ⟨_, rfl⟩
  rw [hp] at HY ⊢
  clear hbl hb2 hp H11 HX
  go_wp2_with fail
  refine (read_nil 0 _).mono ?_
  rintro e _ ⟨rfl, rfl⟩
  go_upto_region 16 with (fail)
  simp only [List.append_eq, List.cons_append, List.nil_append]
  refine Pred.region_vals (Pred.Of [
      Is (.int .i64 1),
      Is (.bool true),
      Is (.bool true),
      Is (.int .i64 0),
      Is (.bool true),
      Is (.bool true),
      Is (.bool true),
      Is (.int .i64 0),
      Is (.bool true),
      Is (.bool true),
      Is (.bool true),
      Is (.int .i64 0),
      Is (.bool true),
      Is (.bool true),
      Is (.bool true),
      Is (.int .i64 0),
      Is (.bool true),
      Is (.bool true),
      Is (.bool true),
      Is (.int .i64 7),
      Is (.bool true),
      Is (.bool true),
      Is (.bool true),
      Is (.bool true),
      Is (.bool true),
      Is (.bool true),
      Is (.int .i64 7),
      Is (.bool true),
      Is (.bool true),
      Is (.bool true),
      Is (.slice ad 0 uc),
      Is (.int .i64 0),
      Is (.bool true),
      Is (.bool true),
      Is (.bool true),
      Is (.int .i64 0),
      Is (.bool true),
      Is (.bool true),
      Is (.bool true),
      Is (.slice (some ⟨px, 0, none⟩) 32 32),
      Is (.string (bytesOf (secL 1))),
      SecP (secL 1),
      Is (.string (bytesOf (secL 1))),
      Is (.bool true),
      Is (.bool true),
      Is (.bool true),
      Is (.int .i64 0),
      Is (.bool true),
      Is (.bool true),
      Is (.bool true),
      Is (.slice (some ⟨py, 0, none⟩) 32 32),
      Is (.string (bytesOf z32)),
      SecP (z32),
      Is (.string (bytesOf z32)),
      Is (.bool true),
      Is (.bool true),
      Is (.bool true),
      Is (.pointer (some ⟨db, 0, none⟩)),
      Is (.int .i64 2),
      Is (.bool true),
      Is (.bool true),
      Is (.bool true),
      Is (.pointer (some ⟨db, 0, none⟩)),
      Is (.int .i64 3),
      Is (.bool true),
      Is (.bool true),
      Is (.bool true),
      Is (.int .i64 7),
      Is (.bool true),
      Is (.bool true),
      Is (.bool true),
      Is (.pointer none),
      Is (.bool false),
      Is (.bool true),
      Is (.bool true),
      Is (.bool true)]) (by kernel_rfl) (by kernel_rfl) (by kernel_rfl) (Pred.of_stab ?_) ?_ ?_
  · exact ⟨is_stab _, is_stab _, is_stab _, is_stab _, is_stab _, is_stab _, is_stab _, is_stab _, is_stab _, is_stab _, is_stab _, is_stab _, is_stab _, is_stab _, is_stab _, is_stab _, is_stab _, is_stab _, is_stab _, is_stab _, is_stab _, is_stab _, is_stab _, is_stab _, is_stab _, is_stab _, is_stab _, is_stab _, is_stab _, is_stab _, is_stab _, is_stab _, is_stab _, is_stab _, is_stab _, is_stab _, is_stab _, is_stab _, is_stab _, is_stab _, is_stab _, secp_stab _, is_stab _, is_stab _, is_stab _, is_stab _, is_stab _, is_stab _, is_stab _, is_stab _, is_stab _, is_stab _, secp_stab _, is_stab _, is_stab _, is_stab _, is_stab _, is_stab _, is_stab _, is_stab _, is_stab _, is_stab _, is_stab _, is_stab _, is_stab _, is_stab _, is_stab _, is_stab _, is_stab _, is_stab _, is_stab _, is_stab _, is_stab _, is_stab _, is_stab _, is_stab _, trivial⟩
  · refine ⟨?_, ?_, ?_, ?_, ?_, ?_, ?_, ?_, ?_, ?_, ?_, ?_, ?_, ?_, ?_, ?_, ?_, ?_, ?_, ?_, ?_, ?_, ?_, ?_, ?_, ?_, ?_, ?_, ?_, ?_, ?_, ?_, ?_, ?_, ?_, ?_, ?_, ?_, ?_, ?_, ?_, ?_, ?_, ?_, ?_, ?_, ?_, ?_, ?_, ?_, ?_, ?_, ?_, ?_, ?_, ?_, ?_, ?_, ?_, ?_, ?_, ?_, ?_, ?_, ?_, ?_, ?_, ?_, ?_, ?_, ?_, ?_, ?_, ?_, ?_, ?_, trivial⟩
    · intro b X hE hd hn hV
      have r4 : b.tmps[4]?.getD undef = .int .i64 1 := (hn 4 (by kernel_rfl)).trans rfl
      exact Pred.yields_run (v := .int .i64 1) (Pred.wanted_none rfl) (by go_simp) ⟨Pred.ext_refl _ _, rfl⟩
    · intro b X hE hd hn hV
      have r72 : b.tmps[72]?.getD undef = .int .i64 1 := hV 0 _ 72 rfl rfl (Pred.waits_near (by kernel_rfl) (by kernel_rfl))
      exact Pred.yields_run (v := .bool true) (Pred.wanted_none rfl) (by go_simp) ⟨Pred.ext_refl _ _, rfl⟩
    · intro b X hE hd hn hV
      have r73 : b.tmps[73]?.getD undef = .bool true := hV 1 _ 73 rfl rfl (Pred.waits_near (by kernel_rfl) (by kernel_rfl))
      exact Pred.yields_run (v := .bool true) (Pred.wanted_none rfl) (by go_simp) ⟨Pred.ext_refl _ _, rfl⟩
    · intro b X hE hd hn hV
      have r5 : b.tmps[5]?.getD undef = .int .i64 0 := (hn 5 (by kernel_rfl)).trans rfl
      have r74 : b.tmps[74]?.getD undef = .bool true := hV 2 _ 74 rfl rfl (Pred.waits_near (by kernel_rfl) (by kernel_rfl))
      exact Pred.yields_run (v := .int .i64 0) ((Pred.wanted_at (g := 2) (d := 74) (f := true) rfl rfl r74).trans rfl) (by go_simp) ⟨Pred.ext_refl _ _, rfl⟩
    · intro b X hE hd hn hV
      have r75 : b.tmps[75]?.getD undef = .int .i64 0 := hV 3 _ 75 rfl rfl (Pred.waits_near (by kernel_rfl) (by kernel_rfl))
      have r74 : b.tmps[74]?.getD undef = .bool true := hV 2 _ 74 rfl rfl (Pred.waits_near (by kernel_rfl) (by kernel_rfl))
      exact Pred.yields_run (v := .bool true) ((Pred.wanted_at (g := 2) (d := 74) (f := true) rfl rfl r74).trans rfl) (by go_simp) ⟨Pred.ext_refl _ _, rfl⟩
    · intro b X hE hd hn hV
      have r74 : b.tmps[74]?.getD undef = .bool true := hV 2 _ 74 rfl rfl (Pred.waits_near (by kernel_rfl) (by kernel_rfl))
      have r76 : b.tmps[76]?.getD undef = .bool true := hV 4 _ 76 rfl rfl (Pred.waits_near (by kernel_rfl) (by kernel_rfl))
      exact Pred.yields_run (v := .bool true) (Pred.wanted_none rfl) (by go_simp) ⟨Pred.ext_refl _ _, rfl⟩
    · intro b X hE hd hn hV
      have r77 : b.tmps[77]?.getD undef = .bool true := hV 5 _ 77 rfl rfl (Pred.waits_near (by kernel_rfl) (by kernel_rfl))
      exact Pred.yields_run (v := .bool true) (Pred.wanted_none rfl) (by go_simp) ⟨Pred.ext_refl _ _, rfl⟩
    · intro b X hE hd hn hV
      have r6 : b.tmps[6]?.getD undef = .int .i64 0 := (hn 6 (by kernel_rfl)).trans rfl
      have r78 : b.tmps[78]?.getD undef = .bool true := hV 6 _ 78 rfl rfl (Pred.waits_near (by kernel_rfl) (by kernel_rfl))
      exact Pred.yields_run (v := .int .i64 0) ((Pred.wanted_at (g := 6) (d := 78) (f := true) rfl rfl r78).trans rfl) (by go_simp) ⟨Pred.ext_refl _ _, rfl⟩
    · intro b X hE hd hn hV
      have r79 : b.tmps[79]?.getD undef = .int .i64 0 := hV 7 _ 79 rfl rfl (Pred.waits_near (by kernel_rfl) (by kernel_rfl))
      have r78 : b.tmps[78]?.getD undef = .bool true := hV 6 _ 78 rfl rfl (Pred.waits_near (by kernel_rfl) (by kernel_rfl))
      exact Pred.yields_run (v := .bool true) ((Pred.wanted_at (g := 6) (d := 78) (f := true) rfl rfl r78).trans rfl) (by go_simp) ⟨Pred.ext_refl _ _, rfl⟩
    · intro b X hE hd hn hV
      have r78 : b.tmps[78]?.getD undef = .bool true := hV 6 _ 78 rfl rfl (Pred.waits_near (by kernel_rfl) (by kernel_rfl))
      have r80 : b.tmps[80]?.getD undef = .bool true := hV 8 _ 80 rfl rfl (Pred.waits_near (by kernel_rfl) (by kernel_rfl))
      exact Pred.yields_run (v := .bool true) (Pred.wanted_none rfl) (by go_simp) ⟨Pred.ext_refl _ _, rfl⟩
    · intro b X hE hd hn hV
      have r81 : b.tmps[81]?.getD undef = .bool true := hV 9 _ 81 rfl rfl (Pred.waits_near (by kernel_rfl) (by kernel_rfl))
      exact Pred.yields_run (v := .bool true) (Pred.wanted_none rfl) (by go_simp) ⟨Pred.ext_refl _ _, rfl⟩
    · intro b X hE hd hn hV
      have r7 : b.tmps[7]?.getD undef = .int .i64 0 := (hn 7 (by kernel_rfl)).trans rfl
      have r82 : b.tmps[82]?.getD undef = .bool true := hV 10 _ 82 rfl rfl (Pred.waits_near (by kernel_rfl) (by kernel_rfl))
      exact Pred.yields_run (v := .int .i64 0) ((Pred.wanted_at (g := 10) (d := 82) (f := true) rfl rfl r82).trans rfl) (by go_simp) ⟨Pred.ext_refl _ _, rfl⟩
    · intro b X hE hd hn hV
      have r83 : b.tmps[83]?.getD undef = .int .i64 0 := hV 11 _ 83 rfl rfl (Pred.waits_near (by kernel_rfl) (by kernel_rfl))
      have r82 : b.tmps[82]?.getD undef = .bool true := hV 10 _ 82 rfl rfl (Pred.waits_near (by kernel_rfl) (by kernel_rfl))
      exact Pred.yields_run (v := .bool true) ((Pred.wanted_at (g := 10) (d := 82) (f := true) rfl rfl r82).trans rfl) (by go_simp) ⟨Pred.ext_refl _ _, rfl⟩
    · intro b X hE hd hn hV
      have r82 : b.tmps[82]?.getD undef = .bool true := hV 10 _ 82 rfl rfl (Pred.waits_near (by kernel_rfl) (by kernel_rfl))
      have r84 : b.tmps[84]?.getD undef = .bool true := hV 12 _ 84 rfl rfl (Pred.waits_near (by kernel_rfl) (by kernel_rfl))
      exact Pred.yields_run (v := .bool true) (Pred.wanted_none rfl) (by go_simp) ⟨Pred.ext_refl _ _, rfl⟩
    · intro b X hE hd hn hV
      have r85 : b.tmps[85]?.getD undef = .bool true := hV 13 _ 85 rfl rfl (Pred.waits_near (by kernel_rfl) (by kernel_rfl))
      exact Pred.yields_run (v := .bool true) (Pred.wanted_none rfl) (by go_simp) ⟨Pred.ext_refl _ _, rfl⟩
    · intro b X hE hd hn hV
      have r8 : b.tmps[8]?.getD undef = .int .i64 0 := (hn 8 (by kernel_rfl)).trans rfl
      have r86 : b.tmps[86]?.getD undef = .bool true := hV 14 _ 86 rfl rfl (Pred.waits_near (by kernel_rfl) (by kernel_rfl))
      exact Pred.yields_run (v := .int .i64 0) ((Pred.wanted_at (g := 14) (d := 86) (f := true) rfl rfl r86).trans rfl) (by go_simp) ⟨Pred.ext_refl _ _, rfl⟩
    · intro b X hE hd hn hV
      have r87 : b.tmps[87]?.getD undef = .int .i64 0 := hV 15 _ 87 rfl rfl (Pred.waits_near (by kernel_rfl) (by kernel_rfl))
      have r86 : b.tmps[86]?.getD undef = .bool true := hV 14 _ 86 rfl rfl (Pred.waits_near (by kernel_rfl) (by kernel_rfl))
      exact Pred.yields_run (v := .bool true) ((Pred.wanted_at (g := 14) (d := 86) (f := true) rfl rfl r86).trans rfl) (by go_simp) ⟨Pred.ext_refl _ _, rfl⟩
    · intro b X hE hd hn hV
      have r86 : b.tmps[86]?.getD undef = .bool true := hV 14 _ 86 rfl rfl (Pred.waits_near (by kernel_rfl) (by kernel_rfl))
      have r88 : b.tmps[88]?.getD undef = .bool true := hV 16 _ 88 rfl rfl (Pred.waits_near (by kernel_rfl) (by kernel_rfl))
      exact Pred.yields_run (v := .bool true) (Pred.wanted_none rfl) (by go_simp) ⟨Pred.ext_refl _ _, rfl⟩
    · intro b X hE hd hn hV
      have r89 : b.tmps[89]?.getD undef = .bool true := hV 17 _ 89 rfl rfl (Pred.waits_near (by kernel_rfl) (by kernel_rfl))
      exact Pred.yields_run (v := .bool true) (Pred.wanted_none rfl) (by go_simp) ⟨Pred.ext_refl _ _, rfl⟩
    · intro b X hE hd hn hV
      have r9 : b.tmps[9]?.getD undef = .int .i64 7 := (hn 9 (by kernel_rfl)).trans rfl
      have r90 : b.tmps[90]?.getD undef = .bool true := hV 18 _ 90 rfl rfl (Pred.waits_near (by kernel_rfl) (by kernel_rfl))
      exact Pred.yields_run (v := .int .i64 7) ((Pred.wanted_at (g := 18) (d := 90) (f := true) rfl rfl r90).trans rfl) (by go_simp) ⟨Pred.ext_refl _ _, rfl⟩
    · intro b X hE hd hn hV
      have r91 : b.tmps[91]?.getD undef = .int .i64 7 := hV 19 _ 91 rfl rfl (Pred.waits_near (by kernel_rfl) (by kernel_rfl))
      have r90 : b.tmps[90]?.getD undef = .bool true := hV 18 _ 90 rfl rfl (Pred.waits_near (by kernel_rfl) (by kernel_rfl))
      exact Pred.yields_run (v := .bool true) ((Pred.wanted_at (g := 18) (d := 90) (f := true) rfl rfl r90).trans rfl) (by go_simp) ⟨Pred.ext_refl _ _, rfl⟩
    · intro b X hE hd hn hV
      have r90 : b.tmps[90]?.getD undef = .bool true := hV 18 _ 90 rfl rfl (Pred.waits_near (by kernel_rfl) (by kernel_rfl))
      have r92 : b.tmps[92]?.getD undef = .bool true := hV 20 _ 92 rfl rfl (Pred.waits_near (by kernel_rfl) (by kernel_rfl))
      exact Pred.yields_run (v := .bool true) (Pred.wanted_none rfl) (by go_simp) ⟨Pred.ext_refl _ _, rfl⟩
    · intro b X hE hd hn hV
      have r93 : b.tmps[93]?.getD undef = .bool true := hV 21 _ 93 rfl rfl (Pred.waits_near (by kernel_rfl) (by kernel_rfl))
      exact Pred.yields_run (v := .bool true) (Pred.wanted_none rfl) (by go_simp) ⟨Pred.ext_refl _ _, rfl⟩
    · intro b X hE hd hn hV
      have r10 : b.tmps[10]?.getD undef = .bool true := (hn 10 (by kernel_rfl)).trans rfl
      have r94 : b.tmps[94]?.getD undef = .bool true := hV 22 _ 94 rfl rfl (Pred.waits_near (by kernel_rfl) (by kernel_rfl))
      exact Pred.yields_run (v := .bool true) ((Pred.wanted_at (g := 22) (d := 94) (f := true) rfl rfl r94).trans rfl) (by go_simp) ⟨Pred.ext_refl _ _, rfl⟩
    · intro b X hE hd hn hV
      have r94 : b.tmps[94]?.getD undef = .bool true := hV 22 _ 94 rfl rfl (Pred.waits_near (by kernel_rfl) (by kernel_rfl))
      have r95 : b.tmps[95]?.getD undef = .bool true := hV 23 _ 95 rfl rfl (Pred.waits_near (by kernel_rfl) (by kernel_rfl))
      exact Pred.yields_run (v := .bool true) (Pred.wanted_none rfl) (by go_simp) ⟨Pred.ext_refl _ _, rfl⟩
    · intro b X hE hd hn hV
      have r96 : b.tmps[96]?.getD undef = .bool true := hV 24 _ 96 rfl rfl (Pred.waits_near (by kernel_rfl) (by kernel_rfl))
      exact Pred.yields_run (v := .bool true) (Pred.wanted_none rfl) (by go_simp) ⟨Pred.ext_refl _ _, rfl⟩
    · intro b X hE hd hn hV
      have r12 : b.tmps[12]?.getD undef = .int .i64 7 := (hn 12 (by kernel_rfl)).trans rfl
      have r97 : b.tmps[97]?.getD undef = .bool true := hV 25 _ 97 rfl rfl (Pred.waits_near (by kernel_rfl) (by kernel_rfl))
      exact Pred.yields_run (v := .int .i64 7) ((Pred.wanted_at (g := 25) (d := 97) (f := true) rfl rfl r97).trans rfl) (by go_simp) ⟨Pred.ext_refl _ _, rfl⟩
    · intro b X hE hd hn hV
      have r98 : b.tmps[98]?.getD undef = .int .i64 7 := hV 26 _ 98 rfl rfl (Pred.waits_near (by kernel_rfl) (by kernel_rfl))
      have r97 : b.tmps[97]?.getD undef = .bool true := hV 25 _ 97 rfl rfl (Pred.waits_near (by kernel_rfl) (by kernel_rfl))
      exact Pred.yields_run (v := .bool true) ((Pred.wanted_at (g := 25) (d := 97) (f := true) rfl rfl r97).trans rfl) (by go_simp) ⟨Pred.ext_refl _ _, rfl⟩
    · intro b X hE hd hn hV
      have r97 : b.tmps[97]?.getD undef = .bool true := hV 25 _ 97 rfl rfl (Pred.waits_near (by kernel_rfl) (by kernel_rfl))
      have r99 : b.tmps[99]?.getD undef = .bool true := hV 27 _ 99 rfl rfl (Pred.waits_near (by kernel_rfl) (by kernel_rfl))
      exact Pred.yields_run (v := .bool true) (Pred.wanted_none rfl) (by go_simp) ⟨Pred.ext_refl _ _, rfl⟩
    · intro b X hE hd hn hV
      have r100 : b.tmps[100]?.getD undef = .bool true := hV 28 _ 100 rfl rfl (Pred.waits_near (by kernel_rfl) (by kernel_rfl))
      exact Pred.yields_run (v := .bool true) (Pred.wanted_none rfl) (by go_simp) ⟨Pred.ext_refl _ _, rfl⟩
    · intro b X hE hd hn hV
      have r13 : b.tmps[13]?.getD undef = .slice ad 0 uc := (hn 13 (by kernel_rfl)).trans rfl
      have r101 : b.tmps[101]?.getD undef = .bool true := hV 29 _ 101 rfl rfl (Pred.waits_near (by kernel_rfl) (by kernel_rfl))
      exact Pred.yields_run (v := .slice ad 0 uc) ((Pred.wanted_at (g := 29) (d := 101) (f := true) rfl rfl r101).trans rfl) (by go_simp) ⟨Pred.ext_refl _ _, rfl⟩
    · intro b X hE hd hn hV
      have r102 : b.tmps[102]?.getD undef = .slice ad 0 uc := hV 30 _ 102 rfl rfl (Pred.waits_near (by kernel_rfl) (by kernel_rfl))
      have r101 : b.tmps[101]?.getD undef = .bool true := hV 29 _ 101 rfl rfl (Pred.waits_near (by kernel_rfl) (by kernel_rfl))
      exact Pred.yields_run (v := .int .i64 0) ((Pred.wanted_at (g := 29) (d := 101) (f := true) rfl rfl r101).trans rfl) (by go_simp) ⟨Pred.ext_refl _ _, rfl⟩
    · intro b X hE hd hn hV
      have r103 : b.tmps[103]?.getD undef = .int .i64 0 := hV 31 _ 103 rfl rfl (Pred.waits_near (by kernel_rfl) (by kernel_rfl))
      have r101 : b.tmps[101]?.getD undef = .bool true := hV 29 _ 101 rfl rfl (Pred.waits_near (by kernel_rfl) (by kernel_rfl))
      exact Pred.yields_run (v := .bool true) ((Pred.wanted_at (g := 29) (d := 101) (f := true) rfl rfl r101).trans rfl) (by go_simp) ⟨Pred.ext_refl _ _, rfl⟩
    · intro b X hE hd hn hV
      have r101 : b.tmps[101]?.getD undef = .bool true := hV 29 _ 101 rfl rfl (Pred.waits_near (by kernel_rfl) (by kernel_rfl))
      have r104 : b.tmps[104]?.getD undef = .bool true := hV 32 _ 104 rfl rfl (Pred.waits_near (by kernel_rfl) (by kernel_rfl))
      exact Pred.yields_run (v := .bool true) (Pred.wanted_none rfl) (by go_simp) ⟨Pred.ext_refl _ _, rfl⟩
    · intro b X hE hd hn hV
      have r105 : b.tmps[105]?.getD undef = .bool true := hV 33 _ 105 rfl rfl (Pred.waits_near (by kernel_rfl) (by kernel_rfl))
      exact Pred.yields_run (v := .bool true) (Pred.wanted_none rfl) (by go_simp) ⟨Pred.ext_refl _ _, rfl⟩
    · intro b X hE hd hn hV
      have r15 : b.tmps[15]?.getD undef = .int .i64 0 := (hn 15 (by kernel_rfl)).trans rfl
      have r106 : b.tmps[106]?.getD undef = .bool true := hV 34 _ 106 rfl rfl (Pred.waits_near (by kernel_rfl) (by kernel_rfl))
      exact Pred.yields_run (v := .int .i64 0) ((Pred.wanted_at (g := 34) (d := 106) (f := true) rfl rfl r106).trans rfl) (by go_simp) ⟨Pred.ext_refl _ _, rfl⟩
    · intro b X hE hd hn hV
      have r107 : b.tmps[107]?.getD undef = .int .i64 0 := hV 35 _ 107 rfl rfl (Pred.waits_near (by kernel_rfl) (by kernel_rfl))
      have r106 : b.tmps[106]?.getD undef = .bool true := hV 34 _ 106 rfl rfl (Pred.waits_near (by kernel_rfl) (by kernel_rfl))
      exact Pred.yields_run (v := .bool true) ((Pred.wanted_at (g := 34) (d := 106) (f := true) rfl rfl r106).trans rfl) (by go_simp) ⟨Pred.ext_refl _ _, rfl⟩
    · intro b X hE hd hn hV
      have r106 : b.tmps[106]?.getD undef = .bool true := hV 34 _ 106 rfl rfl (Pred.waits_near (by kernel_rfl) (by kernel_rfl))
      have r108 : b.tmps[108]?.getD undef = .bool true := hV 36 _ 108 rfl rfl (Pred.waits_near (by kernel_rfl) (by kernel_rfl))
      exact Pred.yields_run (v := .bool true) (Pred.wanted_none rfl) (by go_simp) ⟨Pred.ext_refl _ _, rfl⟩
    · intro b X hE hd hn hV
      have r109 : b.tmps[109]?.getD undef = .bool true := hV 37 _ 109 rfl rfl (Pred.waits_near (by kernel_rfl) (by kernel_rfl))
      exact Pred.yields_run (v := .bool true) (Pred.wanted_none rfl) (by go_simp) ⟨Pred.ext_refl _ _, rfl⟩
    · intro b X hE hd hn hV
      have r14 : b.tmps[14]?.getD undef = .slice (some ⟨px, 0, none⟩) 32 32 := (hn 14 (by kernel_rfl)).trans rfl
      have r110 : b.tmps[110]?.getD undef = .bool true := hV 38 _ 110 rfl rfl (Pred.waits_near (by kernel_rfl) (by kernel_rfl))
      exact Pred.yields_run (v := .slice (some ⟨px, 0, none⟩) 32 32) ((Pred.wanted_at (g := 38) (d := 110) (f := true) rfl rfl r110).trans rfl) (by go_simp) ⟨Pred.ext_refl _ _, rfl⟩
    · intro b X hE hd hn hV
      have r111 : b.tmps[111]?.getD undef = .slice (some ⟨px, 0, none⟩) 32 32 := hV 39 _ 111 rfl rfl (Pred.waits_near (by kernel_rfl) (by kernel_rfl))
      have r110 : b.tmps[110]?.getD undef = .bool true := hV 38 _ 110 rfl rfl (Pred.waits_near (by kernel_rfl) (by kernel_rfl))
      have cz := str_of (c := 32) ((blk_below hE _ (blk_lt HX2.out)).trans HX2.out) (secL_len 1) (secL_bd 1)
      exact Pred.yields_run (v := .string (bytesOf (secL 1))) ((Pred.wanted_at (g := 38) (d := 110) (f := true) rfl rfl r110).trans rfl) (by go_simp) ⟨Pred.ext_refl _ _, rfl⟩
    · intro b X hE hd hn hV
      have r110 : b.tmps[110]?.getD undef = .bool true := hV 38 _ 110 rfl rfl (Pred.waits_near (by kernel_rfl) (by kernel_rfl))
      refine Pred.yields_call (f := 10) (args := #[.int .i64 1]) ((Pred.wanted_at (g := 38) (d := 110) (f := true) rfl rfl r110).trans rfl) (by go_simp) ?_
      exact (sector_any 1 (by decide) _).mono fun e w2 ⟨he, hbl, hb⟩ => ⟨_, he, Pred.ext_below hb hE.size, _, rfl, reads_of hbl (secL_len 1)⟩
    · intro b X hE hd hn hV
      obtain ⟨ga113, r113, hr113⟩ : SecP (secL 1) (b.tmps[113]?.getD undef) X := hV 41 _ 113 rfl rfl (Pred.waits_near (by kernel_rfl) (by kernel_rfl))
      have r110 : b.tmps[110]?.getD undef = .bool true := hV 38 _ 110 rfl rfl (Pred.waits_near (by kernel_rfl) (by kernel_rfl))
      have cz := str_reads (c := 32) hr113 (secL_bd 1)
      exact Pred.yields_run (v := .string (bytesOf (secL 1))) ((Pred.wanted_at (g := 38) (d := 110) (f := true) rfl rfl r110).trans rfl) (by go_simp) ⟨Pred.ext_refl _ _, rfl⟩
    · intro b X hE hd hn hV
      have r112 : b.tmps[112]?.getD undef = .string (bytesOf (secL 1)) := hV 40 _ 112 rfl rfl (Pred.waits_near (by kernel_rfl) (by kernel_rfl))
      have r114 : b.tmps[114]?.getD undef = .string (bytesOf (secL 1)) := hV 42 _ 114 rfl rfl (Pred.waits_near (by kernel_rfl) (by kernel_rfl))
      have r110 : b.tmps[110]?.getD undef = .bool true := hV 38 _ 110 rfl rfl (Pred.waits_near (by kernel_rfl) (by kernel_rfl))
      exact Pred.yields_run (v := .bool true) ((Pred.wanted_at (g := 38) (d := 110) (f := true) rfl rfl r110).trans rfl) (by go_simp) ⟨Pred.ext_refl _ _, rfl⟩
    · intro b X hE hd hn hV
      have r110 : b.tmps[110]?.getD undef = .bool true := hV 38 _ 110 rfl rfl (Pred.waits_near (by kernel_rfl) (by kernel_rfl))
      have r115 : b.tmps[115]?.getD undef = .bool true := hV 43 _ 115 rfl rfl (Pred.waits_near (by kernel_rfl) (by kernel_rfl))
      exact Pred.yields_run (v := .bool true) (Pred.wanted_none rfl) (by go_simp) ⟨Pred.ext_refl _ _, rfl⟩
    · intro b X hE hd hn hV
      have r116 : b.tmps[116]?.getD undef = .bool true := hV 44 _ 116 rfl rfl (Pred.waits_near (by kernel_rfl) (by kernel_rfl))
      exact Pred.yields_run (v := .bool true) (Pred.wanted_none rfl) (by go_simp) ⟨Pred.ext_refl _ _, rfl⟩
    · intro b X hE hd hn hV
      have r17 : b.tmps[17]?.getD undef = .int .i64 0 := (hn 17 (by kernel_rfl)).trans rfl
      have r117 : b.tmps[117]?.getD undef = .bool true := hV 45 _ 117 rfl rfl (Pred.waits_near (by kernel_rfl) (by kernel_rfl))
      exact Pred.yields_run (v := .int .i64 0) ((Pred.wanted_at (g := 45) (d := 117) (f := true) rfl rfl r117).trans rfl) (by go_simp) ⟨Pred.ext_refl _ _, rfl⟩
    · intro b X hE hd hn hV
      have r118 : b.tmps[118]?.getD undef = .int .i64 0 := hV 46 _ 118 rfl rfl (Pred.waits_near (by kernel_rfl) (by kernel_rfl))
      have r117 : b.tmps[117]?.getD undef = .bool true := hV 45 _ 117 rfl rfl (Pred.waits_near (by kernel_rfl) (by kernel_rfl))
      exact Pred.yields_run (v := .bool true) ((Pred.wanted_at (g := 45) (d := 117) (f := true) rfl rfl r117).trans rfl) (by go_simp) ⟨Pred.ext_refl _ _, rfl⟩
    · intro b X hE hd hn hV
      have r117 : b.tmps[117]?.getD undef = .bool true := hV 45 _ 117 rfl rfl (Pred.waits_near (by kernel_rfl) (by kernel_rfl))
      have r119 : b.tmps[119]?.getD undef = .bool true := hV 47 _ 119 rfl rfl (Pred.waits_near (by kernel_rfl) (by kernel_rfl))
      exact Pred.yields_run (v := .bool true) (Pred.wanted_none rfl) (by go_simp) ⟨Pred.ext_refl _ _, rfl⟩
    · intro b X hE hd hn hV
      have r120 : b.tmps[120]?.getD undef = .bool true := hV 48 _ 120 rfl rfl (Pred.waits_near (by kernel_rfl) (by kernel_rfl))
      exact Pred.yields_run (v := .bool true) (Pred.wanted_none rfl) (by go_simp) ⟨Pred.ext_refl _ _, rfl⟩
    · intro b X hE hd hn hV
      have r16 : b.tmps[16]?.getD undef = .slice (some ⟨py, 0, none⟩) 32 32 := (hn 16 (by kernel_rfl)).trans rfl
      have r121 : b.tmps[121]?.getD undef = .bool true := hV 49 _ 121 rfl rfl (Pred.waits_near (by kernel_rfl) (by kernel_rfl))
      exact Pred.yields_run (v := .slice (some ⟨py, 0, none⟩) 32 32) ((Pred.wanted_at (g := 49) (d := 121) (f := true) rfl rfl r121).trans rfl) (by go_simp) ⟨Pred.ext_refl _ _, rfl⟩
    · intro b X hE hd hn hV
      have r122 : b.tmps[122]?.getD undef = .slice (some ⟨py, 0, none⟩) 32 32 := hV 50 _ 122 rfl rfl (Pred.waits_near (by kernel_rfl) (by kernel_rfl))
      have r121 : b.tmps[121]?.getD undef = .bool true := hV 49 _ 121 rfl rfl (Pred.waits_near (by kernel_rfl) (by kernel_rfl))
      have cz := str_of (c := 32) ((blk_below hE _ (blk_lt HY.out)).trans HY.out) z32_len z32_bd
      exact Pred.yields_run (v := .string (bytesOf z32)) ((Pred.wanted_at (g := 49) (d := 121) (f := true) rfl rfl r121).trans rfl) (by go_simp) ⟨Pred.ext_refl _ _, rfl⟩
    · intro b X hE hd hn hV
      have r121 : b.tmps[121]?.getD undef = .bool true := hV 49 _ 121 rfl rfl (Pred.waits_near (by kernel_rfl) (by kernel_rfl))
      exact Pred.yields_run (v := .slice (some ⟨X.heap.size, 0, none⟩) 32 32) (w' := X.alloc (.cells (us z32).toArray 5)) ((Pred.wanted_at (g := 49) (d := 121) (f := true) rfl rfl r121).trans rfl) (by go_simp) ⟨Pred.ext_below ((Below.refl _ _).alloc (Nat.le_refl _) _) hE.size, _, rfl, reads_of (blk_alloc_at _ _ _ rfl) z32_len⟩
    · intro b X hE hd hn hV
      obtain ⟨ga124, r124, hr124⟩ : SecP (z32) (b.tmps[124]?.getD undef) X := hV 52 _ 124 rfl rfl (Pred.waits_near (by kernel_rfl) (by kernel_rfl))
      have r121 : b.tmps[121]?.getD undef = .bool true := hV 49 _ 121 rfl rfl (Pred.waits_near (by kernel_rfl) (by kernel_rfl))
      have cz := str_reads (c := 32) hr124 z32_bd
      exact Pred.yields_run (v := .string (bytesOf z32)) ((Pred.wanted_at (g := 49) (d := 121) (f := true) rfl rfl r121).trans rfl) (by go_simp) ⟨Pred.ext_refl _ _, rfl⟩
    · intro b X hE hd hn hV
      have r123 : b.tmps[123]?.getD undef = .string (bytesOf z32) := hV 51 _ 123 rfl rfl (Pred.waits_near (by kernel_rfl) (by kernel_rfl))
      have r125 : b.tmps[125]?.getD undef = .string (bytesOf z32) := hV 53 _ 125 rfl rfl (Pred.waits_near (by kernel_rfl) (by kernel_rfl))
      have r121 : b.tmps[121]?.getD undef = .bool true := hV 49 _ 121 rfl rfl (Pred.waits_near (by kernel_rfl) (by kernel_rfl))
      exact Pred.yields_run (v := .bool true) ((Pred.wanted_at (g := 49) (d := 121) (f := true) rfl rfl r121).trans rfl) (by go_simp) ⟨Pred.ext_refl _ _, rfl⟩
    · intro b X hE hd hn hV
      have r121 : b.tmps[121]?.getD undef = .bool true := hV 49 _ 121 rfl rfl (Pred.waits_near (by kernel_rfl) (by kernel_rfl))
      have r126 : b.tmps[126]?.getD undef = .bool true := hV 54 _ 126 rfl rfl (Pred.waits_near (by kernel_rfl) (by kernel_rfl))
      exact Pred.yields_run (v := .bool true) (Pred.wanted_none rfl) (by go_simp) ⟨Pred.ext_refl _ _, rfl⟩
    · intro b X hE hd hn hV
      have r127 : b.tmps[127]?.getD undef = .bool true := hV 55 _ 127 rfl rfl (Pred.waits_near (by kernel_rfl) (by kernel_rfl))
      exact Pred.yields_run (v := .bool true) (Pred.wanted_none rfl) (by go_simp) ⟨Pred.ext_refl _ _, rfl⟩
    · intro b X hE hd hn hV
      have r1 : b.tmps[1]?.getD undef = .pointer (some ⟨db, 0, none⟩) := (hn 1 (by kernel_rfl)).trans rfl
      have r128 : b.tmps[128]?.getD undef = .bool true := hV 56 _ 128 rfl rfl (Pred.waits_near (by kernel_rfl) (by kernel_rfl))
      exact Pred.yields_run (v := .pointer (some ⟨db, 0, none⟩)) ((Pred.wanted_at (g := 56) (d := 128) (f := true) rfl rfl r128).trans rfl) (by go_simp) ⟨Pred.ext_refl _ _, rfl⟩
    · intro b X hE hd hn hV
      have r129 : b.tmps[129]?.getD undef = .pointer (some ⟨db, 0, none⟩) := hV 57 _ 129 rfl rfl (Pred.waits_near (by kernel_rfl) (by kernel_rfl))
      have r128 : b.tmps[128]?.getD undef = .bool true := hV 56 _ 128 rfl rfl (Pred.waits_near (by kernel_rfl) (by kernel_rfl))
      refine Pred.yields_call (f := 25) (args := #[.pointer (some ⟨db, 0, none⟩)]) ((Pred.wanted_at (g := 56) (d := 128) (f := true) rfl rfl r128).trans rfl) (by go_simp) ?_
      refine (writes_any _ (H12.out.d.bel hE)).mono ?_
      rintro e w2 ⟨he, rfl⟩
      rw [fact4] at he
      exact ⟨_, he, Pred.ext_refl _ _, rfl⟩
    · intro b X hE hd hn hV
      have r130 : b.tmps[130]?.getD undef = .int .i64 2 := hV 58 _ 130 rfl rfl (Pred.waits_near (by kernel_rfl) (by kernel_rfl))
      have r128 : b.tmps[128]?.getD undef = .bool true := hV 56 _ 128 rfl rfl (Pred.waits_near (by kernel_rfl) (by kernel_rfl))
      exact Pred.yields_run (v := .bool true) ((Pred.wanted_at (g := 56) (d := 128) (f := true) rfl rfl r128).trans rfl) (by go_simp) ⟨Pred.ext_refl _ _, rfl⟩
    · intro b X hE hd hn hV
      have r128 : b.tmps[128]?.getD undef = .bool true := hV 56 _ 128 rfl rfl (Pred.waits_near (by kernel_rfl) (by kernel_rfl))
      have r131 : b.tmps[131]?.getD undef = .bool true := hV 59 _ 131 rfl rfl (Pred.waits_near (by kernel_rfl) (by kernel_rfl))
      exact Pred.yields_run (v := .bool true) (Pred.wanted_none rfl) (by go_simp) ⟨Pred.ext_refl _ _, rfl⟩
    · intro b X hE hd hn hV
      have r132 : b.tmps[132]?.getD undef = .bool true := hV 60 _ 132 rfl rfl (Pred.waits_near (by kernel_rfl) (by kernel_rfl))
      exact Pred.yields_run (v := .bool true) (Pred.wanted_none rfl) (by go_simp) ⟨Pred.ext_refl _ _, rfl⟩
    · intro b X hE hd hn hV
      have r1 : b.tmps[1]?.getD undef = .pointer (some ⟨db, 0, none⟩) := (hn 1 (by kernel_rfl)).trans rfl
      have r133 : b.tmps[133]?.getD undef = .bool true := hV 61 _ 133 rfl rfl (Pred.waits_near (by kernel_rfl) (by kernel_rfl))
      exact Pred.yields_run (v := .pointer (some ⟨db, 0, none⟩)) ((Pred.wanted_at (g := 61) (d := 133) (f := true) rfl rfl r133).trans rfl) (by go_simp) ⟨Pred.ext_refl _ _, rfl⟩
    · intro b X hE hd hn hV
      have r134 : b.tmps[134]?.getD undef = .pointer (some ⟨db, 0, none⟩) := hV 62 _ 134 rfl rfl (Pred.waits_near (by kernel_rfl) (by kernel_rfl))
      have r133 : b.tmps[133]?.getD undef = .bool true := hV 61 _ 133 rfl rfl (Pred.waits_near (by kernel_rfl) (by kernel_rfl))
      refine Pred.yields_call (f := 26) (args := #[.pointer (some ⟨db, 0, none⟩)]) ((Pred.wanted_at (g := 61) (d := 133) (f := true) rfl rfl r133).trans rfl) (by go_simp) ?_
      refine (len_any _ (H12.out.d.bel hE)).mono ?_
      rintro e w2 ⟨he, rfl⟩
      exact ⟨_, he, Pred.ext_refl _ _, rfl⟩
    · intro b X hE hd hn hV
      have r135 : b.tmps[135]?.getD undef = .int .i64 3 := hV 63 _ 135 rfl rfl (Pred.waits_near (by kernel_rfl) (by kernel_rfl))
      have r133 : b.tmps[133]?.getD undef = .bool true := hV 61 _ 133 rfl rfl (Pred.waits_near (by kernel_rfl) (by kernel_rfl))
      exact Pred.yields_run (v := .bool true) ((Pred.wanted_at (g := 61) (d := 133) (f := true) rfl rfl r133).trans rfl) (by go_simp) ⟨Pred.ext_refl _ _, rfl⟩
    · intro b X hE hd hn hV
      have r133 : b.tmps[133]?.getD undef = .bool true := hV 61 _ 133 rfl rfl (Pred.waits_near (by kernel_rfl) (by kernel_rfl))
      have r136 : b.tmps[136]?.getD undef = .bool true := hV 64 _ 136 rfl rfl (Pred.waits_near (by kernel_rfl) (by kernel_rfl))
      exact Pred.yields_run (v := .bool true) (Pred.wanted_none rfl) (by go_simp) ⟨Pred.ext_refl _ _, rfl⟩
    · intro b X hE hd hn hV
      have r137 : b.tmps[137]?.getD undef = .bool true := hV 65 _ 137 rfl rfl (Pred.waits_near (by kernel_rfl) (by kernel_rfl))
      exact Pred.yields_run (v := .bool true) (Pred.wanted_none rfl) (by go_simp) ⟨Pred.ext_refl _ _, rfl⟩
    · intro b X hE hd hn hV
      have r20 : b.tmps[20]?.getD undef = .int .i64 7 := (hn 20 (by kernel_rfl)).trans rfl
      have r138 : b.tmps[138]?.getD undef = .bool true := hV 66 _ 138 rfl rfl (Pred.waits_near (by kernel_rfl) (by kernel_rfl))
      exact Pred.yields_run (v := .int .i64 7) ((Pred.wanted_at (g := 66) (d := 138) (f := true) rfl rfl r138).trans rfl) (by go_simp) ⟨Pred.ext_refl _ _, rfl⟩
    · intro b X hE hd hn hV
      have r139 : b.tmps[139]?.getD undef = .int .i64 7 := hV 67 _ 139 rfl rfl (Pred.waits_near (by kernel_rfl) (by kernel_rfl))
      have r138 : b.tmps[138]?.getD undef = .bool true := hV 66 _ 138 rfl rfl (Pred.waits_near (by kernel_rfl) (by kernel_rfl))
      exact Pred.yields_run (v := .bool true) ((Pred.wanted_at (g := 66) (d := 138) (f := true) rfl rfl r138).trans rfl) (by go_simp) ⟨Pred.ext_refl _ _, rfl⟩
    · intro b X hE hd hn hV
      have r138 : b.tmps[138]?.getD undef = .bool true := hV 66 _ 138 rfl rfl (Pred.waits_near (by kernel_rfl) (by kernel_rfl))
      have r140 : b.tmps[140]?.getD undef = .bool true := hV 68 _ 140 rfl rfl (Pred.waits_near (by kernel_rfl) (by kernel_rfl))
      exact Pred.yields_run (v := .bool true) (Pred.wanted_none rfl) (by go_simp) ⟨Pred.ext_refl _ _, rfl⟩
    · intro b X hE hd hn hV
      have r141 : b.tmps[141]?.getD undef = .bool true := hV 69 _ 141 rfl rfl (Pred.waits_near (by kernel_rfl) (by kernel_rfl))
      exact Pred.yields_run (v := .bool true) (Pred.wanted_none rfl) (by go_simp) ⟨Pred.ext_refl _ _, rfl⟩
    · intro b X hE hd hn hV
      have r18 : b.tmps[18]?.getD undef = .pointer none := (hn 18 (by kernel_rfl)).trans rfl
      have r142 : b.tmps[142]?.getD undef = .bool true := hV 70 _ 142 rfl rfl (Pred.waits_near (by kernel_rfl) (by kernel_rfl))
      exact Pred.yields_run (v := .pointer none) ((Pred.wanted_at (g := 70) (d := 142) (f := true) rfl rfl r142).trans rfl) (by go_simp) ⟨Pred.ext_refl _ _, rfl⟩
    · intro b X hE hd hn hV
      have r143 : b.tmps[143]?.getD undef = .pointer none := hV 71 _ 143 rfl rfl (Pred.waits_near (by kernel_rfl) (by kernel_rfl))
      have r142 : b.tmps[142]?.getD undef = .bool true := hV 70 _ 142 rfl rfl (Pred.waits_near (by kernel_rfl) (by kernel_rfl))
      refine Pred.yields_call (f := 24) (args := #[.pointer none]) ((Pred.wanted_at (g := 70) (d := 142) (f := true) rfl rfl r142).trans rfl) (by go_simp) ?_
      refine (down_nil _).mono ?_
      rintro e w2 ⟨he, rfl⟩
      exact ⟨_, he, Pred.ext_refl _ _, rfl⟩
    · intro b X hE hd hn hV
      have r144 : b.tmps[144]?.getD undef = .bool false := hV 72 _ 144 rfl rfl (Pred.waits_near (by kernel_rfl) (by kernel_rfl))
      have r142 : b.tmps[142]?.getD undef = .bool true := hV 70 _ 142 rfl rfl (Pred.waits_near (by kernel_rfl) (by kernel_rfl))
      exact Pred.yields_run (v := .bool true) ((Pred.wanted_at (g := 70) (d := 142) (f := true) rfl rfl r142).trans rfl) (by go_simp) ⟨Pred.ext_refl _ _, rfl⟩
    · intro b X hE hd hn hV
      have r142 : b.tmps[142]?.getD undef = .bool true := hV 70 _ 142 rfl rfl (Pred.waits_near (by kernel_rfl) (by kernel_rfl))
      have r145 : b.tmps[145]?.getD undef = .bool true := hV 73 _ 145 rfl rfl (Pred.waits_near (by kernel_rfl) (by kernel_rfl))
      exact Pred.yields_run (v := .bool true) (Pred.wanted_none rfl) (by go_simp) ⟨Pred.ext_refl _ _, rfl⟩
    · intro b X hE hd hn hV
      have r146 : b.tmps[146]?.getD undef = .bool true := hV 74 _ 146 rfl rfl (Pred.waits_near (by kernel_rfl) (by kernel_rfl))
      exact Pred.yields_run (v := .bool true) (Pred.wanted_none rfl) (by go_simp) ⟨Pred.ext_refl _ _, rfl⟩
  intro v X hE hv
  have e0 : v 0 = .int .i64 1 := hv 0 _ 72 rfl rfl
  have e1 : v 1 = .bool true := hv 1 _ 73 rfl rfl
  have e2 : v 2 = .bool true := hv 2 _ 74 rfl rfl
  have e3 : v 3 = .int .i64 0 := hv 3 _ 75 rfl rfl
  have e4 : v 4 = .bool true := hv 4 _ 76 rfl rfl
  have e5 : v 5 = .bool true := hv 5 _ 77 rfl rfl
  have e6 : v 6 = .bool true := hv 6 _ 78 rfl rfl
  have e7 : v 7 = .int .i64 0 := hv 7 _ 79 rfl rfl
  have e8 : v 8 = .bool true := hv 8 _ 80 rfl rfl
  have e9 : v 9 = .bool true := hv 9 _ 81 rfl rfl
  have e10 : v 10 = .bool true := hv 10 _ 82 rfl rfl
  have e11 : v 11 = .int .i64 0 := hv 11 _ 83 rfl rfl
  have e12 : v 12 = .bool true := hv 12 _ 84 rfl rfl
  have e13 : v 13 = .bool true := hv 13 _ 85 rfl rfl
  have e14 : v 14 = .bool true := hv 14 _ 86 rfl rfl
  have e15 : v 15 = .int .i64 0 := hv 15 _ 87 rfl rfl
  have e16 : v 16 = .bool true := hv 16 _ 88 rfl rfl
  have e17 : v 17 = .bool true := hv 17 _ 89 rfl rfl
  have e18 : v 18 = .bool true := hv 18 _ 90 rfl rfl
  have e19 : v 19 = .int .i64 7 := hv 19 _ 91 rfl rfl
  have e20 : v 20 = .bool true := hv 20 _ 92 rfl rfl
  have e21 : v 21 = .bool true := hv 21 _ 93 rfl rfl
  have e22 : v 22 = .bool true := hv 22 _ 94 rfl rfl
  have e23 : v 23 = .bool true := hv 23 _ 95 rfl rfl
  have e24 : v 24 = .bool true := hv 24 _ 96 rfl rfl
  have e25 : v 25 = .bool true := hv 25 _ 97 rfl rfl
  have e26 : v 26 = .int .i64 7 := hv 26 _ 98 rfl rfl
  have e27 : v 27 = .bool true := hv 27 _ 99 rfl rfl
  have e28 : v 28 = .bool true := hv 28 _ 100 rfl rfl
  have e29 : v 29 = .bool true := hv 29 _ 101 rfl rfl
  have e30 : v 30 = .slice ad 0 uc := hv 30 _ 102 rfl rfl
  have e31 : v 31 = .int .i64 0 := hv 31 _ 103 rfl rfl
  have e32 : v 32 = .bool true := hv 32 _ 104 rfl rfl
  have e33 : v 33 = .bool true := hv 33 _ 105 rfl rfl
  have e34 : v 34 = .bool true := hv 34 _ 106 rfl rfl
  have e35 : v 35 = .int .i64 0 := hv 35 _ 107 rfl rfl
  have e36 : v 36 = .bool true := hv 36 _ 108 rfl rfl
  have e37 : v 37 = .bool true := hv 37 _ 109 rfl rfl
  have e38 : v 38 = .bool true := hv 38 _ 110 rfl rfl
  have e39 : v 39 = .slice (some ⟨px, 0, none⟩) 32 32 := hv 39 _ 111 rfl rfl
  have e40 : v 40 = .string (bytesOf (secL 1)) := hv 40 _ 112 rfl rfl
  obtain ⟨ga41, e41, hr41⟩ : SecP (secL 1) (v 41) X := hv 41 _ 113 rfl rfl
  have e42 : v 42 = .string (bytesOf (secL 1)) := hv 42 _ 114 rfl rfl
  have e43 : v 43 = .bool true := hv 43 _ 115 rfl rfl
  have e44 : v 44 = .bool true := hv 44 _ 116 rfl rfl
  have e45 : v 45 = .bool true := hv 45 _ 117 rfl rfl
  have e46 : v 46 = .int .i64 0 := hv 46 _ 118 rfl rfl
  have e47 : v 47 = .bool true := hv 47 _ 119 rfl rfl
  have e48 : v 48 = .bool true := hv 48 _ 120 rfl rfl
  have e49 : v 49 = .bool true := hv 49 _ 121 rfl rfl
  have e50 : v 50 = .slice (some ⟨py, 0, none⟩) 32 32 := hv 50 _ 122 rfl rfl
  have e51 : v 51 = .string (bytesOf z32) := hv 51 _ 123 rfl rfl
  obtain ⟨ga52, e52, hr52⟩ : SecP (z32) (v 52) X := hv 52 _ 124 rfl rfl
  have e53 : v 53 = .string (bytesOf z32) := hv 53 _ 125 rfl rfl
  have e54 : v 54 = .bool true := hv 54 _ 126 rfl rfl
  have e55 : v 55 = .bool true := hv 55 _ 127 rfl rfl
  have e56 : v 56 = .bool true := hv 56 _ 128 rfl rfl
  have e57 : v 57 = .pointer (some ⟨db, 0, none⟩) := hv 57 _ 129 rfl rfl
  have e58 : v 58 = .int .i64 2 := hv 58 _ 130 rfl rfl
  have e59 : v 59 = .bool true := hv 59 _ 131 rfl rfl
  have e60 : v 60 = .bool true := hv 60 _ 132 rfl rfl
  have e61 : v 61 = .bool true := hv 61 _ 133 rfl rfl
  have e62 : v 62 = .pointer (some ⟨db, 0, none⟩) := hv 62 _ 134 rfl rfl
  have e63 : v 63 = .int .i64 3 := hv 63 _ 135 rfl rfl
  have e64 : v 64 = .bool true := hv 64 _ 136 rfl rfl
  have e65 : v 65 = .bool true := hv 65 _ 137 rfl rfl
  have e66 : v 66 = .bool true := hv 66 _ 138 rfl rfl
  have e67 : v 67 = .int .i64 7 := hv 67 _ 139 rfl rfl
  have e68 : v 68 = .bool true := hv 68 _ 140 rfl rfl
  have e69 : v 69 = .bool true := hv 69 _ 141 rfl rfl
  have e70 : v 70 = .bool true := hv 70 _ 142 rfl rfl
  have e71 : v 71 = .pointer none := hv 71 _ 143 rfl rfl
  have e72 : v 72 = .bool false := hv 72 _ 144 rfl rfl
  have e73 : v 73 = .bool true := hv 73 _ 145 rfl rfl
  have e74 : v 74 = .bool true := hv 74 _ 146 rfl rfl
  have e75 : v 75 = .bool true := hv 75 _ 0 rfl rfl
  simp only [Pred.putsF_cons, Pred.putsF_nil, Nat.zero_add, Nat.reduceAdd, e0, e1, e2, e3, e4, e5, e6, e7, e8, e9, e10, e11, e12, e13, e14, e15, e16, e17, e18, e19, e20, e21, e22, e23, e24, e25, e26, e27, e28, e29, e30, e31, e32, e33, e34, e35, e36, e37, e38, e39, e40, e41, e42, e43, e44, e45, e46, e47, e48, e49, e50, e51, e52, e53, e54, e55, e56, e57, e58, e59, e60, e61, e62, e63, e64, e65, e66, e67, e68, e69, e70, e71, e72, e73, e74, e75, Act.put, List.setIfInBounds_toArray, List.set_cons_zero, List.set_cons_succ]
  clear e0 e1 e2 e3 e4 e5 e6 e7 e8 e9 e10 e11 e12 e13 e14 e15 e16 e17 e18 e19 e20 e21 e22 e23 e24 e25 e26 e27 e28 e29 e30 e31 e32 e33 e34 e35 e36 e37 e38 e39 e40 e41 e42 e43 e44 e45 e46 e47 e48 e49 e50 e51 e52 e53 e54 e55 e56 e57 e58 e59 e60 e61 e62 e63 e64 e65 e66 e67 e68 e69 e70 e71 e72 e73 e74 e75 hv
  clear HX2 HY
  have HF := Lib.hid (H12.out.bel hE)
  clear hE H12
  go_wp2
  go_ret
  exact ⟨rfl, HF.out.below⟩
end Go.Proofs.Ytajoajblmaopjaa.DkE

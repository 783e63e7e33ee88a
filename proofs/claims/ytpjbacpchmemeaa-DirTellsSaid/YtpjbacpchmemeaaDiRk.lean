/-
  alike.
  DirTells.
-/
import Derived.Test.YtpjbacpchmemeaaDiZ
import Derived.Test.YtpjbacpchmemeaaDiRh
import Derived.Test.YtpjbacpchmemeaaDiRe
import Derived.Test.YtpjbacpchmemeaaDiRd
import Derived.BigGuard
namespace Go.Proofs.Ytpjbacpchmemeaa.DiRj
open Go.RowKit Go.Shelf Rd Go.Proofs.Ytpjbacpchmemeaa.Row Mid PgM PgA PgB PgC DiM DiA DiC DiD DiE DiF DiJ DiK DiL DiN DiO DiQ DiU DiV DiW DiX DiY DiZ0 DiZ DiRb OctA OctB
open Go.Proofs.Ytpjbacpchmemeaa.DiM (at_ at_get ce ce_len ce_app ce_one ce_ones ce_at)
open Go.Proofs.Ytpjbacpchmemeaa.DiI (cutV cut_all cut_take)
open Go.Proofs.Ytpjbacpchmemeaa.Rds (Rds rds_stab reads_ext)
open Go.Proofs.Ytpjbacpchmemeaa.Pred (Is is_stab Stab)
set_option linter.unusedVariables false
set_option linter.unusedSimpArgs false
set_option maxRecDepth 100000
/-- the two show the same -/
def Two (X : World) (vx vy : Value) (d : Int) (o : Option (List En)) : Prop := match o with
  | none => vx = .pointer none ∧ vy = .pointer none
  | some r => ∃ b t, vx = .pointer (some ⟨b, 0, none⟩) ∧ vy = .pointer (some ⟨t, 0, none⟩) ∧ DB X b d r ∧ Rf X t d r ∧ r.length ≤ 1000
theorem Two.bel {X Y : World} {vx vy : Value} {d : Int} {o : Option (List En)} (h : Two X vx vy d o) (hb : Below X.heap.size X Y) : Two Y vx vy d o := by
  cases o with
  | none => exact h
  | some r =>
    obtain ⟨b, t, h1, h2, h3, h4, h5⟩ := h
    exact ⟨b, t, h1, h2, h3.below hb, h4.bel hb, h5⟩
theorem two_of {X Y : World} {vx vy : Value} {d : Int} {o : Option (List En)} (h : DbO X vx d o) (h2 : RfO Y vy d o) (hb : Below X.heap.size X Y) (hs : ∀ r, o = some r → r.length ≤ 1000) : Two Y vx vy d o := by
  cases o with
  | none => exact ⟨h, h2⟩
  | some r =>
    obtain ⟨b, h1, h3⟩ := h
    obtain ⟨t, h4, h5⟩ := h2
    exact ⟨b, t, h1, h4, h3.below hb, h5, hs r rfl⟩
set_option maxHeartbeats 8000000 in
theorem alike_any (vx vy : Value) (d : Int) (o : Option (List En)) (w : World) (h : Two w vx vy d o) :
    Calls Try.prog 12 #[vx, vy] w fun e w' => e = .returned (.bool true) ∧ Below w.heap.size w w' := by
  cases o with
  | none =>
    obtain ⟨rfl, rfl⟩ := h
    go_enter Try.func12, Try.ntmps12
    go_upto_region 3 with (fail)
    (refine wp_region_quiet_below (by kernel_rfl) (by kernel_rfl) ?_; (repeat (go_big_quiet_step ((fail)))); refine wpQuiet_nil ?_)
    intro w3 hU
    have L3 := Rd.below_of_regrown hU
    go_wp2
    go_ret
    exact ⟨rfl, L3⟩
  | some r =>
    obtain ⟨b1, t1, rfl, rfl, hD, hF, hsm⟩ := h
    have HD := Lib.hid hD
    have HF := Lib.hid hF
    obtain ⟨aR, cR, bT, hRR, hcR⟩ := hF
    have HRR := Lib.hid hRR
    have BT := Lib.hid bT
    have HZ := Lib.hid (dirB_bd d r)
    clear hD bT hRR
    go_enter Try.func12, Try.ntmps12
    go_upto_region 3 with (fail)
    obtain ⟨W, eW⟩ : ∃ W, w = W := ⟨_, rfl⟩
    subst eW
    refine Pred.region_vals (Pred.Of [
        Is (.pointer (some ⟨t1, 0, none⟩)),
        Is (.bool false),
        Is (.bool false),
        Is (.pointer (some ⟨b1, 0, none⟩)),
        SE r,
        Is (.pointer (some ⟨t1, 0, none⟩)),
        Is (.pointer (some ⟨t1, 0, none⟩)),
        Is (.pointer (some ⟨t1, 1, none⟩)),
        Is (.slice aR r.length cR),
        Is (.bool true),
        Is (.bool true),
        Is (.pointer (some ⟨b1, 0, none⟩)),
        Is (.int .i64 (r.length : Int)),
        Is (.pointer (some ⟨t1, 0, none⟩)),
        Is (.pointer (some ⟨t1, 0, none⟩)),
        Is (.pointer (some ⟨t1, 1, none⟩)),
        Is (.slice aR r.length cR),
        Is (.int .i64 (r.length : Int)),
        Is (.bool true),
        Is (.bool true),
        Is (.bool true),
        Is (.pointer (some ⟨b1, 0, none⟩)),
        Rds (dirB d r),
        Is (.string (bytesOf (dirB d r))),
        Is (.pointer (some ⟨t1, 0, none⟩)),
        Rds (dirB d r),
        Is (.string (bytesOf (dirB d r))),
        Is (.bool true),
        Is (.bool true),
        Is (.bool true),
        Is (.bool true)]) (by kernel_rfl) (by kernel_rfl) (by kernel_rfl) (Pred.of_stab ?_) ?_ ?_
    · exact ⟨is_stab _, is_stab _, is_stab _, is_stab _, se_stab _, is_stab _, is_stab _, is_stab _, is_stab _, is_stab _, is_stab _, is_stab _, is_stab _, is_stab _, is_stab _, is_stab _, is_stab _, is_stab _, is_stab _, is_stab _, is_stab _, is_stab _, rds_stab _, is_stab _, is_stab _, rds_stab _, is_stab _, is_stab _, is_stab _, is_stab _, is_stab _, trivial⟩
    · refine ⟨?_, ?_, ?_, ?_, ?_, ?_, ?_, ?_, ?_, ?_, ?_, ?_, ?_, ?_, ?_, ?_, ?_, ?_, ?_, ?_, ?_, ?_, ?_, ?_, ?_, ?_, ?_, ?_, ?_, ?_, ?_, trivial⟩
      · intro b X hE hd hn hV
        have r1 : b.tmps[1]?.getD undef = .pointer (some ⟨t1, 0, none⟩) := (hn 1 (by kernel_rfl)).trans rfl
        exact Pred.yields_run (v := .pointer (some ⟨t1, 0, none⟩)) (Pred.wanted_none rfl) (by go_simp) ⟨Pred.ext_refl _ _, rfl⟩
      · intro b X hE hd hn hV
        have r10 : b.tmps[10]?.getD undef = .pointer (some ⟨t1, 0, none⟩) := hV 0 _ 10 rfl rfl (Pred.waits_near (by kernel_rfl) (by kernel_rfl))
        exact Pred.yields_run (v := .bool false) (Pred.wanted_none rfl) (by go_simp) ⟨Pred.ext_refl _ _, rfl⟩
      · intro b X hE hd hn hV
        have r11 : b.tmps[11]?.getD undef = .bool false := hV 1 _ 11 rfl rfl (Pred.waits_near (by kernel_rfl) (by kernel_rfl))
        exact Pred.yields_run (v := .bool false) (Pred.wanted_none rfl) (by go_simp) ⟨Pred.ext_refl _ _, rfl⟩
      · intro b X hE hd hn hV
        have r0 : b.tmps[0]?.getD undef = .pointer (some ⟨b1, 0, none⟩) := (hn 0 (by kernel_rfl)).trans rfl
        have r12 : b.tmps[12]?.getD undef = .bool false := hV 2 _ 12 rfl rfl (Pred.waits_near (by kernel_rfl) (by kernel_rfl))
        exact Pred.yields_run (v := .pointer (some ⟨b1, 0, none⟩)) ((Pred.wanted_at (g := 2) (d := 12) (f := false) rfl rfl r12).trans rfl) (by go_simp) ⟨Pred.ext_refl _ _, rfl⟩
      · intro b X hE hd hn hV
        have r13 : b.tmps[13]?.getD undef = .pointer (some ⟨b1, 0, none⟩) := hV 3 _ 13 rfl rfl (Pred.waits_near (by kernel_rfl) (by kernel_rfl))
        have r12 : b.tmps[12]?.getD undef = .bool false := hV 2 _ 12 rfl rfl (Pred.waits_near (by kernel_rfl) (by kernel_rfl))
        refine Pred.yields_call (f := 20) (args := #[.pointer (some ⟨b1, 0, none⟩), .int .i64 (-1)]) ((Pred.wanted_at (g := 2) (d := 12) (f := false) rfl rfl r12).trans rfl) (by go_simp) ?_
        have C := all_db (HD.out.below hE) (-1)
        rw [cut_all] at C
        exact C.mono fun e w2 ⟨⟨u, he, hu⟩, hb⟩ => ⟨_, he, Pred.ext_below hb hE.size, hu⟩
      · intro b X hE hd hn hV
        have r1 : b.tmps[1]?.getD undef = .pointer (some ⟨t1, 0, none⟩) := (hn 1 (by kernel_rfl)).trans rfl
        have r12 : b.tmps[12]?.getD undef = .bool false := hV 2 _ 12 rfl rfl (Pred.waits_near (by kernel_rfl) (by kernel_rfl))
        exact Pred.yields_run (v := .pointer (some ⟨t1, 0, none⟩)) ((Pred.wanted_at (g := 2) (d := 12) (f := false) rfl rfl r12).trans rfl) (by go_simp) ⟨Pred.ext_refl _ _, rfl⟩
      · intro b X hE hd hn hV
        have r15 : b.tmps[15]?.getD undef = .pointer (some ⟨t1, 0, none⟩) := hV 5 _ 15 rfl rfl (Pred.waits_near (by kernel_rfl) (by kernel_rfl))
        have r12 : b.tmps[12]?.getD undef = .bool false := hV 2 _ 12 rfl rfl (Pred.waits_near (by kernel_rfl) (by kernel_rfl))
        exact Pred.yields_run (v := .pointer (some ⟨t1, 0, none⟩)) ((Pred.wanted_at (g := 2) (d := 12) (f := false) rfl rfl r12).trans rfl) (by go_simp) ⟨Pred.ext_refl _ _, rfl⟩
      · intro b X hE hd hn hV
        have r16 : b.tmps[16]?.getD undef = .pointer (some ⟨t1, 0, none⟩) := hV 6 _ 16 rfl rfl (Pred.waits_near (by kernel_rfl) (by kernel_rfl))
        have r12 : b.tmps[12]?.getD undef = .bool false := hV 2 _ 12 rfl rfl (Pred.waits_near (by kernel_rfl) (by kernel_rfl))
        exact Pred.yields_run (v := .pointer (some ⟨t1, 1, none⟩)) ((Pred.wanted_at (g := 2) (d := 12) (f := false) rfl rfl r12).trans rfl) (by go_simp) ⟨Pred.ext_refl _ _, rfl⟩
      · intro b X hE hd hn hV
        have r17 : b.tmps[17]?.getD undef = .pointer (some ⟨t1, 1, none⟩) := hV 7 _ 17 rfl rfl (Pred.waits_near (by kernel_rfl) (by kernel_rfl))
        have r12 : b.tmps[12]?.getD undef = .bool false := hV 2 _ 12 rfl rfl (Pred.waits_near (by kernel_rfl) (by kernel_rfl))
        have z : X.cell? ⟨t1, 1, none⟩ = some (.slice aR r.length cR) := by rw [blk_cell ((blk_below hE _ (blk_lt BT.out)).trans BT.out)]; rfl
        exact Pred.yields_run (v := .slice aR r.length cR) ((Pred.wanted_at (g := 2) (d := 12) (f := false) rfl rfl r12).trans rfl) (by go_simp) ⟨Pred.ext_refl _ _, rfl⟩
      · intro b X hE hd hn hV
        obtain ⟨ga14, ca14, r14, hr14, hc14⟩ : SE r (b.tmps[14]?.getD undef) X := hV 4 _ 14 rfl rfl (Pred.waits_near (by kernel_rfl) (by kernel_rfl))
        have r18 : b.tmps[18]?.getD undef = .slice aR r.length cR := hV 8 _ 18 rfl rfl (Pred.waits_near (by kernel_rfl) (by kernel_rfl))
        have r12 : b.tmps[12]?.getD undef = .bool false := hV 2 _ 12 rfl rfl (Pred.waits_near (by kernel_rfl) (by kernel_rfl))
        refine Pred.yields_call (f := 19) (args := #[.slice ga14 r.length ca14, .slice aR r.length cR]) ((Pred.wanted_at (g := 2) (d := 12) (f := false) rfl rfl r12).trans rfl) (by go_simp) ?_
        have C := same_n r r r.length r.length ga14 aR ca14 cR X hr14 (HRR.out.bel hE) rfl rfl (by omega) (by omega) (q := true) (by simp)
        exact C.mono fun e w2 ⟨he, hb⟩ => ⟨_, he, Pred.ext_below hb hE.size, rfl⟩
      · intro b X hE hd hn hV
        have r19 : b.tmps[19]?.getD undef = .bool true := hV 9 _ 19 rfl rfl (Pred.waits_near (by kernel_rfl) (by kernel_rfl))
        have r12 : b.tmps[12]?.getD undef = .bool false := hV 2 _ 12 rfl rfl (Pred.waits_near (by kernel_rfl) (by kernel_rfl))
        exact Pred.yields_run (v := .bool true) ((Pred.wanted_at (g := 2) (d := 12) (f := false) rfl rfl r12).trans rfl) (by go_simp) ⟨Pred.ext_refl _ _, rfl⟩
      · intro b X hE hd hn hV
        have r0 : b.tmps[0]?.getD undef = .pointer (some ⟨b1, 0, none⟩) := (hn 0 (by kernel_rfl)).trans rfl
        have r20 : b.tmps[20]?.getD undef = .bool true := hV 10 _ 20 rfl rfl (Pred.waits_near (by kernel_rfl) (by kernel_rfl))
        exact Pred.yields_run (v := .pointer (some ⟨b1, 0, none⟩)) ((Pred.wanted_at (g := 10) (d := 20) (f := true) rfl rfl r20).trans rfl) (by go_simp) ⟨Pred.ext_refl _ _, rfl⟩
      · intro b X hE hd hn hV
        have r21 : b.tmps[21]?.getD undef = .pointer (some ⟨b1, 0, none⟩) := hV 11 _ 21 rfl rfl (Pred.waits_near (by kernel_rfl) (by kernel_rfl))
        have r20 : b.tmps[20]?.getD undef = .bool true := hV 10 _ 20 rfl rfl (Pred.waits_near (by kernel_rfl) (by kernel_rfl))
        refine Pred.yields_call (f := 22) (args := #[.pointer (some ⟨b1, 0, none⟩)]) ((Pred.wanted_at (g := 10) (d := 20) (f := true) rfl rfl r20).trans rfl) (by go_simp) ?_
        have C := len_db (HD.out.below hE)
        exact C.mono fun e w2 ⟨he, hb⟩ => ⟨_, he, hb ▸ Pred.ext_refl _ _, rfl⟩
      · intro b X hE hd hn hV
        have r1 : b.tmps[1]?.getD undef = .pointer (some ⟨t1, 0, none⟩) := (hn 1 (by kernel_rfl)).trans rfl
        have r20 : b.tmps[20]?.getD undef = .bool true := hV 10 _ 20 rfl rfl (Pred.waits_near (by kernel_rfl) (by kernel_rfl))
        exact Pred.yields_run (v := .pointer (some ⟨t1, 0, none⟩)) ((Pred.wanted_at (g := 10) (d := 20) (f := true) rfl rfl r20).trans rfl) (by go_simp) ⟨Pred.ext_refl _ _, rfl⟩
      · intro b X hE hd hn hV
        have r23 : b.tmps[23]?.getD undef = .pointer (some ⟨t1, 0, none⟩) := hV 13 _ 23 rfl rfl (Pred.waits_near (by kernel_rfl) (by kernel_rfl))
        have r20 : b.tmps[20]?.getD undef = .bool true := hV 10 _ 20 rfl rfl (Pred.waits_near (by kernel_rfl) (by kernel_rfl))
        exact Pred.yields_run (v := .pointer (some ⟨t1, 0, none⟩)) ((Pred.wanted_at (g := 10) (d := 20) (f := true) rfl rfl r20).trans rfl) (by go_simp) ⟨Pred.ext_refl _ _, rfl⟩
      · intro b X hE hd hn hV
        have r24 : b.tmps[24]?.getD undef = .pointer (some ⟨t1, 0, none⟩) := hV 14 _ 24 rfl rfl (Pred.waits_near (by kernel_rfl) (by kernel_rfl))
        have r20 : b.tmps[20]?.getD undef = .bool true := hV 10 _ 20 rfl rfl (Pred.waits_near (by kernel_rfl) (by kernel_rfl))
        exact Pred.yields_run (v := .pointer (some ⟨t1, 1, none⟩)) ((Pred.wanted_at (g := 10) (d := 20) (f := true) rfl rfl r20).trans rfl) (by go_simp) ⟨Pred.ext_refl _ _, rfl⟩
      · intro b X hE hd hn hV
        have r25 : b.tmps[25]?.getD undef = .pointer (some ⟨t1, 1, none⟩) := hV 15 _ 25 rfl rfl (Pred.waits_near (by kernel_rfl) (by kernel_rfl))
        have r20 : b.tmps[20]?.getD undef = .bool true := hV 10 _ 20 rfl rfl (Pred.waits_near (by kernel_rfl) (by kernel_rfl))
        have z : X.cell? ⟨t1, 1, none⟩ = some (.slice aR r.length cR) := by rw [blk_cell ((blk_below hE _ (blk_lt BT.out)).trans BT.out)]; rfl
        exact Pred.yields_run (v := .slice aR r.length cR) ((Pred.wanted_at (g := 10) (d := 20) (f := true) rfl rfl r20).trans rfl) (by go_simp) ⟨Pred.ext_refl _ _, rfl⟩
      · intro b X hE hd hn hV
        have r26 : b.tmps[26]?.getD undef = .slice aR r.length cR := hV 16 _ 26 rfl rfl (Pred.waits_near (by kernel_rfl) (by kernel_rfl))
        have r20 : b.tmps[20]?.getD undef = .bool true := hV 10 _ 20 rfl rfl (Pred.waits_near (by kernel_rfl) (by kernel_rfl))
        exact Pred.yields_run (v := .int .i64 (r.length : Int)) ((Pred.wanted_at (g := 10) (d := 20) (f := true) rfl rfl r20).trans rfl) (by go_simp) ⟨Pred.ext_refl _ _, rfl⟩
      · intro b X hE hd hn hV
        have r22 : b.tmps[22]?.getD undef = .int .i64 (r.length : Int) := hV 12 _ 22 rfl rfl (Pred.waits_near (by kernel_rfl) (by kernel_rfl))
        have r27 : b.tmps[27]?.getD undef = .int .i64 (r.length : Int) := hV 17 _ 27 rfl rfl (Pred.waits_near (by kernel_rfl) (by kernel_rfl))
        have r20 : b.tmps[20]?.getD undef = .bool true := hV 10 _ 20 rfl rfl (Pred.waits_near (by kernel_rfl) (by kernel_rfl))
        exact Pred.yields_run (v := .bool true) ((Pred.wanted_at (g := 10) (d := 20) (f := true) rfl rfl r20).trans rfl) (by go_simp) ⟨Pred.ext_refl _ _, rfl⟩
      · intro b X hE hd hn hV
        have r20 : b.tmps[20]?.getD undef = .bool true := hV 10 _ 20 rfl rfl (Pred.waits_near (by kernel_rfl) (by kernel_rfl))
        have r28 : b.tmps[28]?.getD undef = .bool true := hV 18 _ 28 rfl rfl (Pred.waits_near (by kernel_rfl) (by kernel_rfl))
        have r12 : b.tmps[12]?.getD undef = .bool false := hV 2 _ 12 rfl rfl (Pred.waits_near (by kernel_rfl) (by kernel_rfl))
        exact Pred.yields_run (v := .bool true) ((Pred.wanted_at (g := 2) (d := 12) (f := false) rfl rfl r12).trans rfl) (by go_simp) ⟨Pred.ext_refl _ _, rfl⟩
      · intro b X hE hd hn hV
        have r29 : b.tmps[29]?.getD undef = .bool true := hV 19 _ 29 rfl rfl (Pred.waits_near (by kernel_rfl) (by kernel_rfl))
        have r12 : b.tmps[12]?.getD undef = .bool false := hV 2 _ 12 rfl rfl (Pred.waits_near (by kernel_rfl) (by kernel_rfl))
        exact Pred.yields_run (v := .bool true) ((Pred.wanted_at (g := 2) (d := 12) (f := false) rfl rfl r12).trans rfl) (by go_simp) ⟨Pred.ext_refl _ _, rfl⟩
      · intro b X hE hd hn hV
        have r0 : b.tmps[0]?.getD undef = .pointer (some ⟨b1, 0, none⟩) := (hn 0 (by kernel_rfl)).trans rfl
        have r30 : b.tmps[30]?.getD undef = .bool true := hV 20 _ 30 rfl rfl (Pred.waits_near (by kernel_rfl) (by kernel_rfl))
        exact Pred.yields_run (v := .pointer (some ⟨b1, 0, none⟩)) ((Pred.wanted_at (g := 20) (d := 30) (f := true) rfl rfl r30).trans rfl) (by go_simp) ⟨Pred.ext_refl _ _, rfl⟩
      · intro b X hE hd hn hV
        have r31 : b.tmps[31]?.getD undef = .pointer (some ⟨b1, 0, none⟩) := hV 21 _ 31 rfl rfl (Pred.waits_near (by kernel_rfl) (by kernel_rfl))
        have r30 : b.tmps[30]?.getD undef = .bool true := hV 20 _ 30 rfl rfl (Pred.waits_near (by kernel_rfl) (by kernel_rfl))
        refine Pred.yields_call (f := 21) (args := #[.pointer (some ⟨b1, 0, none⟩)]) ((Pred.wanted_at (g := 20) (d := 30) (f := true) rfl rfl r30).trans rfl) (by go_simp) ?_
        have C := bytes_db (HD.out.below hE)
        exact C.mono fun e w2 ⟨⟨a, c, he, _, hr⟩, hb⟩ => ⟨_, he, Pred.ext_below hb hE.size, _, _, _, rfl, hr⟩
      · intro b X hE hd hn hV
        obtain ⟨ga32, na32, ca32, r32, hr32⟩ : Rds (dirB d r) (b.tmps[32]?.getD undef) X := hV 22 _ 32 rfl rfl (Pred.waits_near (by kernel_rfl) (by kernel_rfl))
        have r30 : b.tmps[30]?.getD undef = .bool true := hV 20 _ 30 rfl rfl (Pred.waits_near (by kernel_rfl) (by kernel_rfl))
        have hc := conv_reads (P := Try.prog) (src := 23) (dst := 9) (cap := ca32) Try.underlying23 Try.underlying5 Try.underlying9 hr32 HZ.out
        exact Pred.yields_run (v := .string (bytesOf (dirB d r))) ((Pred.wanted_at (g := 20) (d := 30) (f := true) rfl rfl r30).trans rfl) (by go_simp) ⟨Pred.ext_refl _ _, rfl⟩
      · intro b X hE hd hn hV
        have r1 : b.tmps[1]?.getD undef = .pointer (some ⟨t1, 0, none⟩) := (hn 1 (by kernel_rfl)).trans rfl
        have r30 : b.tmps[30]?.getD undef = .bool true := hV 20 _ 30 rfl rfl (Pred.waits_near (by kernel_rfl) (by kernel_rfl))
        exact Pred.yields_run (v := .pointer (some ⟨t1, 0, none⟩)) ((Pred.wanted_at (g := 20) (d := 30) (f := true) rfl rfl r30).trans rfl) (by go_simp) ⟨Pred.ext_refl _ _, rfl⟩
      · intro b X hE hd hn hV
        have r34 : b.tmps[34]?.getD undef = .pointer (some ⟨t1, 0, none⟩) := hV 24 _ 34 rfl rfl (Pred.waits_near (by kernel_rfl) (by kernel_rfl))
        have r30 : b.tmps[30]?.getD undef = .bool true := hV 20 _ 30 rfl rfl (Pred.waits_near (by kernel_rfl) (by kernel_rfl))
        refine Pred.yields_call (f := 39) (args := #[.pointer (some ⟨t1, 0, none⟩)]) ((Pred.wanted_at (g := 20) (d := 30) (f := true) rfl rfl r30).trans rfl) (by go_simp) ?_
        have C := DiRe.rbytes_any t1 d r X (HF.out.bel hE) HD.out.dr.good.2.1 HD.out.bd hsm
        exact C.mono fun e w2 ⟨⟨a, c, he, hr⟩, hb⟩ => ⟨_, he, Pred.ext_below hb hE.size, _, _, _, rfl, hr⟩
      · intro b X hE hd hn hV
        obtain ⟨ga35, na35, ca35, r35, hr35⟩ : Rds (dirB d r) (b.tmps[35]?.getD undef) X := hV 25 _ 35 rfl rfl (Pred.waits_near (by kernel_rfl) (by kernel_rfl))
        have r30 : b.tmps[30]?.getD undef = .bool true := hV 20 _ 30 rfl rfl (Pred.waits_near (by kernel_rfl) (by kernel_rfl))
        have hc := conv_reads (P := Try.prog) (src := 23) (dst := 9) (cap := ca35) Try.underlying23 Try.underlying5 Try.underlying9 hr35 HZ.out
        exact Pred.yields_run (v := .string (bytesOf (dirB d r))) ((Pred.wanted_at (g := 20) (d := 30) (f := true) rfl rfl r30).trans rfl) (by go_simp) ⟨Pred.ext_refl _ _, rfl⟩
      · intro b X hE hd hn hV
        have r33 : b.tmps[33]?.getD undef = .string (bytesOf (dirB d r)) := hV 23 _ 33 rfl rfl (Pred.waits_near (by kernel_rfl) (by kernel_rfl))
        have r36 : b.tmps[36]?.getD undef = .string (bytesOf (dirB d r)) := hV 26 _ 36 rfl rfl (Pred.waits_near (by kernel_rfl) (by kernel_rfl))
        have r30 : b.tmps[30]?.getD undef = .bool true := hV 20 _ 30 rfl rfl (Pred.waits_near (by kernel_rfl) (by kernel_rfl))
        exact Pred.yields_run (v := .bool true) ((Pred.wanted_at (g := 20) (d := 30) (f := true) rfl rfl r30).trans rfl) (by go_simp) ⟨Pred.ext_refl _ _, rfl⟩
      · intro b X hE hd hn hV
        have r30 : b.tmps[30]?.getD undef = .bool true := hV 20 _ 30 rfl rfl (Pred.waits_near (by kernel_rfl) (by kernel_rfl))
        have r37 : b.tmps[37]?.getD undef = .bool true := hV 27 _ 37 rfl rfl (Pred.waits_near (by kernel_rfl) (by kernel_rfl))
        have r12 : b.tmps[12]?.getD undef = .bool false := hV 2 _ 12 rfl rfl (Pred.waits_near (by kernel_rfl) (by kernel_rfl))
        exact Pred.yields_run (v := .bool true) ((Pred.wanted_at (g := 2) (d := 12) (f := false) rfl rfl r12).trans rfl) (by go_simp) ⟨Pred.ext_refl _ _, rfl⟩
      · intro b X hE hd hn hV
        have r12 : b.tmps[12]?.getD undef = .bool false := hV 2 _ 12 rfl rfl (Pred.waits_near (by kernel_rfl) (by kernel_rfl))
        have r38 : b.tmps[38]?.getD undef = .bool true := hV 28 _ 38 rfl rfl (Pred.waits_near (by kernel_rfl) (by kernel_rfl))
        exact Pred.yields_run (v := .bool true) (Pred.wanted_none rfl) (by go_simp) ⟨Pred.ext_refl _ _, rfl⟩
      · intro b X hE hd hn hV
        have r39 : b.tmps[39]?.getD undef = .bool true := hV 29 _ 39 rfl rfl (Pred.waits_near (by kernel_rfl) (by kernel_rfl))
        exact Pred.yields_run (v := .bool true) (Pred.wanted_none rfl) (by go_simp) ⟨Pred.ext_refl _ _, rfl⟩
    intro v X hE hv
    have e0 : v 0 = .pointer (some ⟨t1, 0, none⟩) := hv 0 _ 10 rfl rfl
    have e1 : v 1 = .bool false := hv 1 _ 11 rfl rfl
    have e2 : v 2 = .bool false := hv 2 _ 12 rfl rfl
    have e3 : v 3 = .pointer (some ⟨b1, 0, none⟩) := hv 3 _ 13 rfl rfl
    obtain ⟨ga4, ca4, e4, hr4, hc4⟩ : SE r (v 4) X := hv 4 _ 14 rfl rfl
    have e5 : v 5 = .pointer (some ⟨t1, 0, none⟩) := hv 5 _ 15 rfl rfl
    have e6 : v 6 = .pointer (some ⟨t1, 0, none⟩) := hv 6 _ 16 rfl rfl
    have e7 : v 7 = .pointer (some ⟨t1, 1, none⟩) := hv 7 _ 17 rfl rfl
    have e8 : v 8 = .slice aR r.length cR := hv 8 _ 18 rfl rfl
    have e9 : v 9 = .bool true := hv 9 _ 19 rfl rfl
    have e10 : v 10 = .bool true := hv 10 _ 20 rfl rfl
    have e11 : v 11 = .pointer (some ⟨b1, 0, none⟩) := hv 11 _ 21 rfl rfl
    have e12 : v 12 = .int .i64 (r.length : Int) := hv 12 _ 22 rfl rfl
    have e13 : v 13 = .pointer (some ⟨t1, 0, none⟩) := hv 13 _ 23 rfl rfl
    have e14 : v 14 = .pointer (some ⟨t1, 0, none⟩) := hv 14 _ 24 rfl rfl
    have e15 : v 15 = .pointer (some ⟨t1, 1, none⟩) := hv 15 _ 25 rfl rfl
    have e16 : v 16 = .slice aR r.length cR := hv 16 _ 26 rfl rfl
    have e17 : v 17 = .int .i64 (r.length : Int) := hv 17 _ 27 rfl rfl
    have e18 : v 18 = .bool true := hv 18 _ 28 rfl rfl
    have e19 : v 19 = .bool true := hv 19 _ 29 rfl rfl
    have e20 : v 20 = .bool true := hv 20 _ 30 rfl rfl
    have e21 : v 21 = .pointer (some ⟨b1, 0, none⟩) := hv 21 _ 31 rfl rfl
    obtain ⟨ga22, na22, ca22, e22, hr22⟩ : Rds (dirB d r) (v 22) X := hv 22 _ 32 rfl rfl
    have e23 : v 23 = .string (bytesOf (dirB d r)) := hv 23 _ 33 rfl rfl
    have e24 : v 24 = .pointer (some ⟨t1, 0, none⟩) := hv 24 _ 34 rfl rfl
    obtain ⟨ga25, na25, ca25, e25, hr25⟩ : Rds (dirB d r) (v 25) X := hv 25 _ 35 rfl rfl
    have e26 : v 26 = .string (bytesOf (dirB d r)) := hv 26 _ 36 rfl rfl
    have e27 : v 27 = .bool true := hv 27 _ 37 rfl rfl
    have e28 : v 28 = .bool true := hv 28 _ 38 rfl rfl
    have e29 : v 29 = .bool true := hv 29 _ 39 rfl rfl
    have e30 : v 30 = .bool true := hv 30 _ 4 rfl rfl
    simp only [Pred.putsF_cons, Pred.putsF_nil, Nat.zero_add, Nat.reduceAdd, e0, e1, e2, e3, e4, e5, e6, e7, e8, e9, e10, e11, e12, e13, e14, e15, e16, e17, e18, e19, e20, e21, e22, e23, e24, e25, e26, e27, e28, e29, e30, Act.put, List.setIfInBounds_toArray, List.set_cons_zero, List.set_cons_succ]
    clear e0 e1 e2 e3 e4 e5 e6 e7 e8 e9 e10 e11 e12 e13 e14 e15 e16 e17 e18 e19 e20 e21 e22 e23 e24 e25 e26 e27 e28 e29 e30 hv
    clear BT HF HRR HZ HD
    have L6 := Lib.hid hE
    clear hE
    go_wp2
    go_ret
    exact ⟨rfl, L6.out⟩
end Go.Proofs.Ytpjbacpchmemeaa.DiRj

namespace Go.Proofs.Ytpjbacpchmemeaa.DiRk
open Go.RowKit Go.Shelf Rd Go.Proofs.Ytpjbacpchmemeaa.Row Mid PgM PgA PgB PgC DiM DiA DiC DiD DiE DiF DiJ DiK DiL DiN DiO DiQ DiU DiV DiW DiX DiY DiZ0 DiZ DiRb DiRj OctA OctB
open Go.Proofs.Ytpjbacpchmemeaa.DiM (at_ at_get ce ce_len ce_app ce_one ce_ones ce_at)
open Go.Proofs.Ytpjbacpchmemeaa.DiI (cutV cut_all cut_take)
open Go.Proofs.Ytpjbacpchmemeaa.Pred (Is is_stab Stab)
set_option linter.unusedVariables false
set_option linter.unusedSimpArgs false
set_option maxRecDepth 100000
attribute [local go_sem high] run_minT run_maxT
attribute [local go_sem ↓] load_pg store_pg load_en store_en alloc_en eq_en
attribute [local go_sem] one_int pc3 piece_en DiI.fold_en run_store_pg run_alloc_en run_store_en rowStore_eq blk_alloc_at blk_alloc_old blk_drew blk_drewN blk_set_far blk_set_far' blk_grow setRow_alloc_at setRow_alloc_old setRow_drew setRow_drewN En.c_size En.c_all all6
theorem eqE_self (q : En) : eqE q q = true := decide_eq_true rfl
theorem cut_one (r : List En) : cutV r 1 = r.take (min 1 r.length) := by
  rcases Nat.eq_zero_or_pos r.length with h | h
  · have : r = [] := List.eq_nil_of_length_eq_zero h
    subst this
    rfl
  · have := cut_take (xs := r) (k := 1) (by omega)
    rw [Nat.min_eq_left (by omega)]
    exact this
theorem keep_perm (d : Int) (m r : List En) : newV d (keepP m r ++ m) = newV d (m ++ keepP m r) := newV_perm List.perm_append_comm
set_option maxHeartbeats 8000000 in
theorem tells_gen (a0 : Int) (al : Option Addr) (len1 cap1 : Nat) (l : List En) (am : Option Addr) (len2 cap2 : Nat) (m : List En) (ab : Option Addr) (len3 cap3 : Nat) (zs : List Int) (p0 p1 p2 n : Int) (w : World)
    (hl : l.length = len1) (hRl : RdE w al l) (hBl : RB l) (hm : m.length = len2) (hRm : RdE w am m) (hBm : RB m) (hRz : Reads w 1 ab len3 (u8s zs)) (hz : B8s zs) (hc3 : len3 ≤ cap3) (hn : -9223372036854775808 ≤ n ∧ n ≤ 9223372036854775807) :
    Calls Try.prog 3 #[.int .i64 a0, .slice al len1 cap1, .slice am len2 cap2, .slice ab len3 cap3, pg p0 p1 p2, .int .i64 n] w fun e w' => e = .returned (.bool true) ∧ Below w.heap.size w w' := by
  by_cases hgood : (len1 : Int) ≤ 40 ∧ (len2 : Int) ≤ 40 ∧ (len3 : Int) ≤ 900
  rotate_left
  · obtain ⟨q, eq⟩ : ∃ q, decide ((40 : Int) < (len1 : Int)) = q := ⟨_, rfl⟩
    obtain ⟨q', eq'⟩ : ∃ q, decide ((40 : Int) < (len2 : Int)) = q := ⟨_, rfl⟩
    obtain ⟨q2, eq2⟩ : ∃ q, decide ((900 : Int) < (len3 : Int)) = q := ⟨_, rfl⟩
    have hor : (q || q' || q2) = true := by
      rw [← eq, ← eq', ← eq2]
      simp
      omega
    have eqn : decide (40 < len1) = q := by rw [← eq]; simp; omega
    have eqn' : decide (40 < len2) = q' := by rw [← eq']; simp; omega
    have eq2n : decide (900 < len3) = q2 := by rw [← eq2]; simp; omega
    clear hgood hRl hRm hRz hl hm
    cases q <;> cases q' <;> cases q2 <;> first | (exact absurd hor (by decide)) | skip
    all_goals
      clear hor
      go_enter Try.func3, Try.ntmps3
      go_wp2_with fail
      refine (awake_any _).mono ?_
      rintro e w9 ⟨rfl, hb⟩
      go_wp2
      go_ret
      exact ⟨rfl, by repeat' (first | (with_reducible exact Below.refl _ _) | (with_reducible refine Rd.below_step ?_ (by assumption)) | (with_reducible refine Rd.below_alloc ?_ _) | (with_reducible refine Rd.below_drewN ?_ _) | (with_reducible refine Below.drew ?_) | (with_reducible refine Below.setCell ?_ ?_ _) | (with_reducible refine Rd.below_setRow ?_ ?_ _) | go_size | (simp only [World.size_alloc]; omega) | omega)⟩
  obtain ⟨g1, g2, g3⟩ := hgood
  have h1 : ¬ (40 : Int) < (len1 : Int) := by omega
  have h2 : ¬ (40 : Int) < (len2 : Int) := by omega
  have h3 : ¬ (900 : Int) < (len3 : Int) := by omega
  have HL := Lib.hid hl
  have HM := Lib.hid hm
  have hzl : zs.length = len3 := by have := hRz.1; simpa using this
  have HZL := Lib.hid hzl
  have CN := Lib.hid (fun X (hX : Below w.heap.size w X) => new_db a0 al cap1 l X (hRl.bel hX) hBl (by omega))
  have CR := Lib.hid (fun X (hX : Below w.heap.size w X) => rnew_any a0 al cap1 l X (hRl.bel hX) (by omega))
  have CD := Lib.hid (fun X (hX : Below w.heap.size w X) => dec_db a0 ab zs cap3 X (by rw [hzl]; exact hRz.below hX (Nat.le_refl _)) hz (by omega) (by omega))
  have CE := Lib.hid (fun X (hX : Below w.heap.size w X) => DiRh.rread_any a0 ab zs cap3 X (by rw [hzl]; exact hRz.below hX (Nat.le_refl _)) hz (by omega) (by omega))
  have HRM := Lib.hid hRm
  have HBM := Lib.hid hBm
  have HNL : Hid (∀ r, newV a0 l = some r → r.length ≤ 40) := Lib.hid (fun r h => by rw [new_len h]; omega)
  have HDL : Hid (∀ r, decV a0 zs = some r → r.length ≤ 1000) := Lib.hid (fun r h => by rw [(dec_is h hz).2]; omega)
  rw [hl] at CN CR
  rw [hzl] at CD CE
  have CS := Lib.hid (fun X => sectors_any n hn X)
  have CS2 := Lib.hid (fun X => rsectors_any n hn X)
  obtain ⟨sn, esn⟩ : ∃ z, secV n = z := ⟨_, rfl⟩
  rw [esn] at CS CS2
  obtain ⟨o, eo⟩ : ∃ o, newV a0 l = o := ⟨_, rfl⟩
  obtain ⟨o3, eo3⟩ : ∃ o, decV a0 zs = o := ⟨_, rfl⟩
  rw [eo] at CN CR HNL
  rw [eo3] at CD CE HDL
  clear hl hRl hBl hm hRm hBm hRz hz hzl hn esn eo eo3 g1 g2 g3
  go_enter Try.func3, Try.ntmps3
  go_upto_region 1 with (fail)
  refine Rd.name_world ?_
  intro w1 hw
  have bP : blk w1 w.heap.size = some (.cells #[.int .i64 p0, .int .i64 p1, .int .i64 p2] 25 (0, 0)) := by rw [hw]; exact blk_alloc_at _ _ _ rfl
  have L1 : Below w.heap.size w w1 := by
    rw [hw]
    repeat' (first | (with_reducible exact Below.refl _ _) | (with_reducible refine Rd.below_step ?_ (by assumption)) | (with_reducible refine Rd.below_alloc ?_ _) | (with_reducible refine Rd.below_drewN ?_ _) | (with_reducible refine Below.drew ?_) | (with_reducible refine Below.setCell ?_ ?_ _) | (with_reducible refine Rd.below_setRow ?_ ?_ _) | go_size | (simp only [World.size_alloc]; omega) | omega)
  have BP1 := Lib.hid bP
  clear hw bP
  go_wp2_with fail
  refine (CN.out _ L1).mono ?_
  rintro e X1 ⟨⟨vx, rfl, hvx⟩, hb⟩
  have HX1 := Lib.hid hvx
  have L2 := Rd.below_step L1 hb
  have BP2 := Lib.hid ((blk_below hb _ (blk_lt BP1.out)).trans BP1.out)
  clear hvx hb L1 BP1 CN
  obtain ⟨ce1, ece1⟩ : ∃ c : Int, (if o.isSome = true then (0 : Int) else 1) = c := ⟨_, rfl⟩
  rw [ece1]
  go_wp2_with fail
  refine (CR.out _ L2).mono ?_
  rintro e X2 ⟨⟨vy, rfl, hvy⟩, hb⟩
  have HT2 := Lib.hid (two_of HX1.out hvy hb (fun r h => by have := HNL.out r h; omega))
  have L3 := Rd.below_step L2 hb
  have BP3 := Lib.hid ((blk_below hb _ (blk_lt BP2.out)).trans BP2.out)
  clear hvy hb L2 BP2 HX1 CR
  go_wp2_with fail
  refine (CD.out _ L3).mono ?_
  rintro e X3 ⟨⟨vz, rfl, hvz⟩, hb⟩
  have HZ3 := Lib.hid hvz
  have HT3 := Lib.hid (HT2.out.bel hb)
  have L4 := Rd.below_step L3 hb
  have BP4 := Lib.hid ((blk_below hb _ (blk_lt BP3.out)).trans BP3.out)
  clear hvz hb L3 BP3 HT2 CD
  obtain ⟨ce3, ece3⟩ : ∃ c : Int, (if o3.isSome = true then (0 : Int) else if depthB a0 = true then 3 else 1) = c := ⟨_, rfl⟩
  rw [ece3]
  go_wp2_with fail
  refine (CE.out _ L4).mono ?_
  rintro e X4 ⟨⟨vw, rfl, hvw⟩, hb⟩
  have HU4 := Lib.hid (two_of HZ3.out hvw hb HDL.out)
  have HT4 := Lib.hid (HT3.out.bel hb)
  have L5 := Rd.below_step L4 hb
  have BP5 := Lib.hid ((blk_below hb _ (blk_lt BP4.out)).trans BP4.out)
  clear hvw hb L4 BP4 HT3 HZ3 CE
  cases o3 with
  | none =>
    have hce3 : (ce3 == 0) = false := by
      rw [beq_eq_false_iff_ne, ← ece3]
      simp only [Option.isSome_none, Bool.false_eq_true, if_false]
      split <;> decide
    have h9 := HU4.out
    obtain ⟨rfl, rfl⟩ := h9
    clear ece3
    cases o with
    | none =>
      obtain rfl : ce1 = 1 := by rw [← ece1]; rfl
      have h9 := HT4.out
      obtain ⟨rfl, rfl⟩ := h9
      clear ece1
      go_wp2_with fail
      refine (alike_any _ _ a0 (none) _ HT4.out).mono ?_
      rintro e Y1 ⟨rfl, hb⟩
      have HT5 := Lib.hid (HT4.out.bel hb)
      have HU5 := Lib.hid (HU4.out.bel hb)
      have L6 := Rd.below_step L5 hb
      have BP6 := Lib.hid ((blk_below hb _ (blk_lt BP5.out)).trans BP5.out)
      clear hb HT4 HU4 L5 BP5
      go_wp2_with fail
      refine (alike_any _ _ a0 (none) _ HU5.out).mono ?_
      rintro e Y2 ⟨rfl, hb⟩
      have HT6 := Lib.hid (HT5.out.bel hb)
      have L7 := Rd.below_step L6 hb
      have BP7 := Lib.hid ((blk_below hb _ (blk_lt BP6.out)).trans BP6.out)
      clear hb HT5 HU5 L6 BP6
      go_wp2_with fail
      refine (CS.out _).mono ?_
      rintro e Y3 ⟨rfl, hb⟩
      have HT7 := Lib.hid (HT6.out.bel hb)
      have L8 := Rd.below_step L7 hb
      have BP8 := Lib.hid ((blk_below hb _ (blk_lt BP7.out)).trans BP7.out)
      clear hb HT6 L7 BP7
      go_wp2_with fail
      refine (CS2.out _).mono ?_
      rintro e Y4 ⟨rfl, hb⟩
      have HT8 := Lib.hid (HT7.out.bel hb)
      have L9 := Rd.below_step L8 hb
      have BP9 := Lib.hid ((blk_below hb _ (blk_lt BP8.out)).trans BP8.out)
      clear hb HT7 L8 BP8
      go_wp2_with fail
      refine (awake_any _).mono ?_
      rintro e w9 ⟨rfl, hb⟩
      go_wp2
      go_ret
      exact ⟨rfl, Rd.below_step L9 hb⟩
    | some r =>
      obtain rfl : ce1 = 0 := by rw [← ece1]; rfl
      have h9 := HT4.out
      obtain ⟨b1, t1, rfl, rfl, -, -, -⟩ := h9
      have hr40 := HNL.out r rfl
      clear ece1
      go_wp2_with fail
      refine (alike_any _ _ a0 (some r) _ HT4.out).mono ?_
      rintro e Y1 ⟨rfl, hb⟩
      have HT5 := Lib.hid (HT4.out.bel hb)
      have HU5 := Lib.hid (HU4.out.bel hb)
      have L6 := Rd.below_step L5 hb
      have BP6 := Lib.hid ((blk_below hb _ (blk_lt BP5.out)).trans BP5.out)
      clear hb HT4 HU4 L5 BP5
      go_wp2_with fail
      refine (alike_any _ _ a0 (none) _ HU5.out).mono ?_
      rintro e Y2 ⟨rfl, hb⟩
      have HT6 := Lib.hid (HT5.out.bel hb)
      have L7 := Rd.below_step L6 hb
      have BP7 := Lib.hid ((blk_below hb _ (blk_lt BP6.out)).trans BP6.out)
      clear hb HT5 HU5 L6 BP6
      go_wp2_with fail
      refine (CS.out _).mono ?_
      rintro e Y3 ⟨rfl, hb⟩
      have HT7 := Lib.hid (HT6.out.bel hb)
      have L8 := Rd.below_step L7 hb
      have BP8 := Lib.hid ((blk_below hb _ (blk_lt BP7.out)).trans BP7.out)
      clear hb HT6 L7 BP7
      go_wp2_with fail
      refine (CS2.out _).mono ?_
      rintro e Y4 ⟨rfl, hb⟩
      have HT8 := Lib.hid (HT7.out.bel hb)
      have L9 := Rd.below_step L8 hb
      have BP9 := Lib.hid ((blk_below hb _ (blk_lt BP8.out)).trans BP8.out)
      clear hb HT7 L8 BP8
      have hP := DiRc.ld_pg0 BP9.out
      have h9 := HT8.out
      obtain ⟨b1', t1', e1, e2, hD, hF, hsm⟩ := h9
      cases e1
      cases e2
      have HD9 := Lib.hid hD
      have HF9 := Lib.hid hF
      clear hD hF
      go_wp2_with fail
      refine (get_db HD9.out p0 p1 p2).mono ?_
      rintro e Z1 ⟨rfl, hb⟩
      have HF10 := Lib.hid (HF9.out.bel hb)
      have HT10 := Lib.hid (HT8.out.bel hb)
      have L10 := Rd.below_step L9 hb
      have BP10 := Lib.hid ((blk_below hb _ (blk_lt BP9.out)).trans BP9.out)
      obtain ⟨pe, epe⟩ : ∃ p : En, (getO r [p0, p1, p2]).getD En.z = p := ⟨_, rfl⟩
      obtain ⟨qb, eqb⟩ : ∃ b, (getO r [p0, p1, p2]).isSome = b := ⟨_, rfl⟩
      have EPE := Lib.hid (And.intro epe eqb)
      rw [epe, eqb]
      clear hb HF9 HT8 L9 BP9 hP epe eqb HD9
      go_upto_region 12 with (fail)
      refine Rd.name_world ?_
      intro Z2 hw
      have hb : Below Z1.heap.size Z1 Z2 := by
        rw [hw]
        exact (Below.refl _ _).alloc (Nat.le_refl _) _
      have BX2 : Hid (blk Z2 Z1.heap.size = some (.cells pe.c 39 (0, 0))) := Lib.hid (by rw [hw]; exact blk_alloc_at _ _ _ rfl)
      obtain ⟨gx, egx⟩ : ∃ g, Z1.heap.size = g := ⟨_, rfl⟩
      have HF11 := Lib.hid (HF10.out.bel hb)
      have HT11 := Lib.hid (HT10.out.bel hb)
      have L11 := Rd.below_step L10 hb
      have BP11 := Lib.hid ((blk_below hb _ (blk_lt BP10.out)).trans BP10.out)
      rw [egx] at BX2 ⊢
      clear hw hb HF10 HT10 L10 BP10 egx
      have hP := DiRc.ld_pg0 BP11.out
      go_wp2_with fail
      have CG := DiRc.rget_any t1 a0 r p0 p1 p2 _ HF11.out (by omega)
      rw [EPE.out.1, EPE.out.2] at CG
      refine CG.mono ?_
      clear CG
      rintro e Z3 ⟨rfl, hb⟩
      have BX3 := Lib.hid ((blk_below hb _ (blk_lt BX2.out)).trans BX2.out)
      have HT12 := Lib.hid (HT11.out.bel hb)
      have L12 := Rd.below_step L11 hb
      clear hb HF11 HT11 L11 BP11 BX2 hP
      go_upto_region 13 with (fail)
      refine Rd.name_world ?_
      intro Z4 hw
      have hb : Below Z3.heap.size Z3 Z4 := by
        rw [hw]
        exact (Below.refl _ _).alloc (Nat.le_refl _) _
      have BY4 : Hid (blk Z4 Z3.heap.size = some (.cells pe.c 39 (0, 0))) := Lib.hid (by rw [hw]; exact blk_alloc_at _ _ _ rfl)
      obtain ⟨gy, egy⟩ : ∃ g, Z3.heap.size = g := ⟨_, rfl⟩
      have BX4 := Lib.hid ((blk_below hb _ (blk_lt BX3.out)).trans BX3.out)
      have HT13 := Lib.hid (HT12.out.bel hb)
      have L13 := Rd.below_step L12 hb
      rw [egy] at BY4 ⊢
      clear hw hb HT12 L12 BX3 egy
      have h9 := HT13.out
      obtain ⟨b1', t1', e1, e2, hD, hF, -⟩ := h9
      cases e1
      cases e2
      have CW := Lib.hid (with_db hD am cap2 m (HRM.out.bel L13) HBM.out (by have := HM.out; omega))
      rw [HM.out] at CW
      obtain ⟨o5, eo5⟩ : ∃ o, newV a0 (m ++ keepP m r) = o := ⟨_, rfl⟩
      have HO5 := Lib.hid eo5
      have HO6 := Lib.hid ((keep_perm a0 m r).trans eo5)
      rw [eo5] at CW
      have HS5 : Hid (∀ s, o5 = some s → s.length ≤ 1000) := Lib.hid (fun s h => by
        rw [h] at eo5
        have h1 := new_len eo5
        have h2 := DiO.keepP_len m r
        rw [List.length_append] at h1
        have := HM.out
        omega)
      clear hD hF eo5
      go_wp2_with fail
      refine CW.out.mono ?_
      rintro e Z5 ⟨⟨vu, rfl, hvu⟩, hb⟩
      have HVU := Lib.hid hvu
      have BX5 := Lib.hid ((blk_below hb _ (blk_lt BX4.out)).trans BX4.out)
      have BY5 := Lib.hid ((blk_below hb _ (blk_lt BY4.out)).trans BY4.out)
      have HT14 := Lib.hid (HT13.out.bel hb)
      have L14 := Rd.below_step L13 hb
      clear hvu hb HT13 L13 BX4 BY4 CW
      obtain ⟨cu, ecu⟩ : ∃ c : Int, (if o5.isSome = true then (0 : Int) else 1) = c := ⟨_, rfl⟩
      rw [ecu]
      have h9 := HT14.out
      obtain ⟨b1', t1', e1, e2, hD, hF, -⟩ := h9
      cases e1
      cases e2
      have CW := Lib.hid (DiRd.rwith_any t1 a0 r am cap2 m Z5 hF (HRM.out.bel L14) (by omega) (by have := HM.out; omega))
      rw [HM.out, HO6.out] at CW
      clear hD hF
      go_wp2_with fail
      refine CW.out.mono ?_
      rintro e Z6 ⟨⟨vv, rfl, hvv⟩, hb⟩
      have HV := Lib.hid (two_of HVU.out hvv hb HS5.out)
      have BX := Lib.hid ((blk_below hb _ (blk_lt BX5.out)).trans BX5.out)
      have BY := Lib.hid ((blk_below hb _ (blk_lt BY5.out)).trans BY5.out)
      have HT := Lib.hid (HT14.out.bel hb)
      have L12 := Rd.below_step L14 hb
      clear hvv hb HT14 L14 BX5 BY5 CW HVU HO5 HO6 HS5 EPE
      have h9 := HT.out
      obtain ⟨b1', t1', e1, e2, hD, hF, -⟩ := h9
      cases e1
      cases e2
      have HD := Lib.hid hD
      obtain ⟨aR, cR, bT, hRR, hcR⟩ := hF
      have HRR := Lib.hid hRR
      have BT := Lib.hid bT
      have HCR := Lib.hid hcR
      clear hD bT hRR hcR
      cases o5 with
      | none =>
        obtain rfl : cu = 1 := by rw [← ecu]; rfl
        have h9 := HV.out
        obtain ⟨rfl, rfl⟩ := h9
        go_upto_region 15 with (fail)
        refine Pred.region_vals (Pred.Of [
            Is (.agg pe.c),
            Is (.agg pe.c),
            Is (.bool true),
            Is (.bool true),
            Is (.bool qb),
            Is (.bool qb),
            Is (.bool true),
            Is (.bool true),
            Is (.bool true),
            Is (.pointer none),
            Is (.pointer none),
            Is (.bool true),
            Is (.bool true),
            Is (.bool true),
            Is (.int .i64 1),
            Is (.bool false),
            Is (.pointer none),
            Is (.bool false),
            Is (.bool true),
            Is (.bool true),
            Is (.bool true),
            Is (.pointer none),
            Is (.bool false),
            Is (.bool false),
            Is (.int .i64 1),
            Is (.bool true),
            Is (.bool true),
            Is (.bool true),
            Is (.bool true),
            Is (.pointer (some ⟨b1, 0, none⟩)),
            Is (.pointer (some ⟨t1, 0, none⟩)),
            Is (.bool true),
            Is (.bool true),
            Is (.bool true),
            Is (.pointer (some ⟨b1, 0, none⟩)),
            SE (r.take (min 1 r.length)),
            Is (.pointer (some ⟨t1, 0, none⟩)),
            Is (.pointer (some ⟨t1, 0, none⟩)),
            Is (.pointer (some ⟨t1, 1, none⟩)),
            Is (.slice aR r.length cR),
            Is (.pointer (some ⟨t1, 0, none⟩)),
            Is (.pointer (some ⟨t1, 0, none⟩)),
            Is (.pointer (some ⟨t1, 1, none⟩)),
            Is (.slice aR r.length cR),
            Is (.int .i64 (r.length : Int)),
            Is (.int .i64 ((min 1 r.length : Nat) : Int)),
            Is (.slice aR (min 1 r.length) cR),
            Is (.bool true),
            Is (.bool true),
            Is (.bool true),
            Is (.bool true),
            Is (.bool true),
            Is (.bool true)]) (by kernel_rfl) (by kernel_rfl) (by kernel_rfl) (Pred.of_stab ?_) ?_ ?_
        · exact ⟨is_stab _, is_stab _, is_stab _, is_stab _, is_stab _, is_stab _, is_stab _, is_stab _, is_stab _, is_stab _, is_stab _, is_stab _, is_stab _, is_stab _, is_stab _, is_stab _, is_stab _, is_stab _, is_stab _, is_stab _, is_stab _, is_stab _, is_stab _, is_stab _, is_stab _, is_stab _, is_stab _, is_stab _, is_stab _, is_stab _, is_stab _, is_stab _, is_stab _, is_stab _, is_stab _, se_stab _, is_stab _, is_stab _, is_stab _, is_stab _, is_stab _, is_stab _, is_stab _, is_stab _, is_stab _, is_stab _, is_stab _, is_stab _, is_stab _, is_stab _, is_stab _, is_stab _, is_stab _, trivial⟩
        · refine ⟨?_, ?_, ?_, ?_, ?_, ?_, ?_, ?_, ?_, ?_, ?_, ?_, ?_, ?_, ?_, ?_, ?_, ?_, ?_, ?_, ?_, ?_, ?_, ?_, ?_, ?_, ?_, ?_, ?_, ?_, ?_, ?_, ?_, ?_, ?_, ?_, ?_, ?_, ?_, ?_, ?_, ?_, ?_, ?_, ?_, ?_, ?_, ?_, ?_, ?_, ?_, ?_, ?_, trivial⟩
          · intro b X hE hd hn hV
            have r19 : b.tmps[19]?.getD undef = .pointer (some ⟨gx, 0, none⟩) := (hn 19 (by kernel_rfl)).trans rfl
            have q := ld_box ((blk_below hE _ (blk_lt BX.out)).trans BX.out)
            exact Pred.yields_run (v := .agg pe.c) (Pred.wanted_none rfl) (by go_simp) ⟨Pred.ext_refl _ _, rfl⟩
          · intro b X hE hd hn hV
            have r21 : b.tmps[21]?.getD undef = .pointer (some ⟨gy, 0, none⟩) := (hn 21 (by kernel_rfl)).trans rfl
            have q := ld_box ((blk_below hE _ (blk_lt BY.out)).trans BY.out)
            exact Pred.yields_run (v := .agg pe.c) (Pred.wanted_none rfl) (by go_simp) ⟨Pred.ext_refl _ _, rfl⟩
          · intro b X hE hd hn hV
            have r121 : b.tmps[121]?.getD undef = .agg pe.c := hV 0 _ 121 rfl rfl (Pred.waits_near (by kernel_rfl) (by kernel_rfl))
            have r122 : b.tmps[122]?.getD undef = .agg pe.c := hV 1 _ 122 rfl rfl (Pred.waits_near (by kernel_rfl) (by kernel_rfl))
            have h := eqE_self pe
            exact Pred.yields_run (v := .bool true) (Pred.wanted_none rfl) (by go_simp) ⟨Pred.ext_refl _ _, rfl⟩
          · intro b X hE hd hn hV
            have r123 : b.tmps[123]?.getD undef = .bool true := hV 2 _ 123 rfl rfl (Pred.waits_near (by kernel_rfl) (by kernel_rfl))
            exact Pred.yields_run (v := .bool true) (Pred.wanted_none rfl) (by go_simp) ⟨Pred.ext_refl _ _, rfl⟩
          · intro b X hE hd hn hV
            have r20 : b.tmps[20]?.getD undef = .bool qb := (hn 20 (by kernel_rfl)).trans rfl
            have r124 : b.tmps[124]?.getD undef = .bool true := hV 3 _ 124 rfl rfl (Pred.waits_near (by kernel_rfl) (by kernel_rfl))
            exact Pred.yields_run (v := .bool qb) ((Pred.wanted_at (g := 3) (d := 124) (f := true) rfl rfl r124).trans rfl) (by go_simp) ⟨Pred.ext_refl _ _, rfl⟩
          · intro b X hE hd hn hV
            have r22 : b.tmps[22]?.getD undef = .bool qb := (hn 22 (by kernel_rfl)).trans rfl
            have r124 : b.tmps[124]?.getD undef = .bool true := hV 3 _ 124 rfl rfl (Pred.waits_near (by kernel_rfl) (by kernel_rfl))
            exact Pred.yields_run (v := .bool qb) ((Pred.wanted_at (g := 3) (d := 124) (f := true) rfl rfl r124).trans rfl) (by go_simp) ⟨Pred.ext_refl _ _, rfl⟩
          · intro b X hE hd hn hV
            have r125 : b.tmps[125]?.getD undef = .bool qb := hV 4 _ 125 rfl rfl (Pred.waits_near (by kernel_rfl) (by kernel_rfl))
            have r126 : b.tmps[126]?.getD undef = .bool qb := hV 5 _ 126 rfl rfl (Pred.waits_near (by kernel_rfl) (by kernel_rfl))
            have r124 : b.tmps[124]?.getD undef = .bool true := hV 3 _ 124 rfl rfl (Pred.waits_near (by kernel_rfl) (by kernel_rfl))
            exact Pred.yields_run (v := .bool true) ((Pred.wanted_at (g := 3) (d := 124) (f := true) rfl rfl r124).trans rfl) (by go_simp) ⟨Pred.ext_refl _ _, rfl⟩
          · intro b X hE hd hn hV
            have r124 : b.tmps[124]?.getD undef = .bool true := hV 3 _ 124 rfl rfl (Pred.waits_near (by kernel_rfl) (by kernel_rfl))
            have r127 : b.tmps[127]?.getD undef = .bool true := hV 6 _ 127 rfl rfl (Pred.waits_near (by kernel_rfl) (by kernel_rfl))
            exact Pred.yields_run (v := .bool true) (Pred.wanted_none rfl) (by go_simp) ⟨Pred.ext_refl _ _, rfl⟩
          · intro b X hE hd hn hV
            have r128 : b.tmps[128]?.getD undef = .bool true := hV 7 _ 128 rfl rfl (Pred.waits_near (by kernel_rfl) (by kernel_rfl))
            exact Pred.yields_run (v := .bool true) (Pred.wanted_none rfl) (by go_simp) ⟨Pred.ext_refl _ _, rfl⟩
          · intro b X hE hd hn hV
            have r23 : b.tmps[23]?.getD undef = .pointer none := (hn 23 (by kernel_rfl)).trans rfl
            have r129 : b.tmps[129]?.getD undef = .bool true := hV 8 _ 129 rfl rfl (Pred.waits_near (by kernel_rfl) (by kernel_rfl))
            exact Pred.yields_run (v := .pointer none) ((Pred.wanted_at (g := 8) (d := 129) (f := true) rfl rfl r129).trans rfl) (by go_simp) ⟨Pred.ext_refl _ _, rfl⟩
          · intro b X hE hd hn hV
            have r25 : b.tmps[25]?.getD undef = .pointer none := (hn 25 (by kernel_rfl)).trans rfl
            have r129 : b.tmps[129]?.getD undef = .bool true := hV 8 _ 129 rfl rfl (Pred.waits_near (by kernel_rfl) (by kernel_rfl))
            exact Pred.yields_run (v := .pointer none) ((Pred.wanted_at (g := 8) (d := 129) (f := true) rfl rfl r129).trans rfl) (by go_simp) ⟨Pred.ext_refl _ _, rfl⟩
          · intro b X hE hd hn hV
            have r130 : b.tmps[130]?.getD undef = .pointer none := hV 9 _ 130 rfl rfl (Pred.waits_near (by kernel_rfl) (by kernel_rfl))
            have r131 : b.tmps[131]?.getD undef = .pointer none := hV 10 _ 131 rfl rfl (Pred.waits_near (by kernel_rfl) (by kernel_rfl))
            have r129 : b.tmps[129]?.getD undef = .bool true := hV 8 _ 129 rfl rfl (Pred.waits_near (by kernel_rfl) (by kernel_rfl))
            refine Pred.yields_call (f := 12) (args := #[.pointer none, .pointer none]) ((Pred.wanted_at (g := 8) (d := 129) (f := true) rfl rfl r129).trans rfl) (by go_simp) ?_
            have C := alike_any _ _ a0 none X (HV.out.bel hE)
            exact C.mono fun e w2 ⟨he, hb⟩ => ⟨_, he, Pred.ext_below hb hE.size, rfl⟩
          · intro b X hE hd hn hV
            have r129 : b.tmps[129]?.getD undef = .bool true := hV 8 _ 129 rfl rfl (Pred.waits_near (by kernel_rfl) (by kernel_rfl))
            have r132 : b.tmps[132]?.getD undef = .bool true := hV 11 _ 132 rfl rfl (Pred.waits_near (by kernel_rfl) (by kernel_rfl))
            exact Pred.yields_run (v := .bool true) (Pred.wanted_none rfl) (by go_simp) ⟨Pred.ext_refl _ _, rfl⟩
          · intro b X hE hd hn hV
            have r133 : b.tmps[133]?.getD undef = .bool true := hV 12 _ 133 rfl rfl (Pred.waits_near (by kernel_rfl) (by kernel_rfl))
            exact Pred.yields_run (v := .bool true) (Pred.wanted_none rfl) (by go_simp) ⟨Pred.ext_refl _ _, rfl⟩
          · intro b X hE hd hn hV
            have r24 : b.tmps[24]?.getD undef = .int .i64 1 := (hn 24 (by kernel_rfl)).trans rfl
            have r134 : b.tmps[134]?.getD undef = .bool true := hV 13 _ 134 rfl rfl (Pred.waits_near (by kernel_rfl) (by kernel_rfl))
            exact Pred.yields_run (v := .int .i64 1) ((Pred.wanted_at (g := 13) (d := 134) (f := true) rfl rfl r134).trans rfl) (by go_simp) ⟨Pred.ext_refl _ _, rfl⟩
          · intro b X hE hd hn hV
            have r135 : b.tmps[135]?.getD undef = .int .i64 1 := hV 14 _ 135 rfl rfl (Pred.waits_near (by kernel_rfl) (by kernel_rfl))
            have r134 : b.tmps[134]?.getD undef = .bool true := hV 13 _ 134 rfl rfl (Pred.waits_near (by kernel_rfl) (by kernel_rfl))
            exact Pred.yields_run (v := .bool false) ((Pred.wanted_at (g := 13) (d := 134) (f := true) rfl rfl r134).trans rfl) (by go_simp) ⟨Pred.ext_refl _ _, rfl⟩
          · intro b X hE hd hn hV
            have r25 : b.tmps[25]?.getD undef = .pointer none := (hn 25 (by kernel_rfl)).trans rfl
            have r134 : b.tmps[134]?.getD undef = .bool true := hV 13 _ 134 rfl rfl (Pred.waits_near (by kernel_rfl) (by kernel_rfl))
            exact Pred.yields_run (v := .pointer none) ((Pred.wanted_at (g := 13) (d := 134) (f := true) rfl rfl r134).trans rfl) (by go_simp) ⟨Pred.ext_refl _ _, rfl⟩
          · intro b X hE hd hn hV
            have r137 : b.tmps[137]?.getD undef = .pointer none := hV 16 _ 137 rfl rfl (Pred.waits_near (by kernel_rfl) (by kernel_rfl))
            have r134 : b.tmps[134]?.getD undef = .bool true := hV 13 _ 134 rfl rfl (Pred.waits_near (by kernel_rfl) (by kernel_rfl))
            exact Pred.yields_run (v := .bool false) ((Pred.wanted_at (g := 13) (d := 134) (f := true) rfl rfl r134).trans rfl) (by go_simp) ⟨Pred.ext_refl _ _, rfl⟩
          · intro b X hE hd hn hV
            have r136 : b.tmps[136]?.getD undef = .bool false := hV 15 _ 136 rfl rfl (Pred.waits_near (by kernel_rfl) (by kernel_rfl))
            have r138 : b.tmps[138]?.getD undef = .bool false := hV 17 _ 138 rfl rfl (Pred.waits_near (by kernel_rfl) (by kernel_rfl))
            have r134 : b.tmps[134]?.getD undef = .bool true := hV 13 _ 134 rfl rfl (Pred.waits_near (by kernel_rfl) (by kernel_rfl))
            exact Pred.yields_run (v := .bool true) ((Pred.wanted_at (g := 13) (d := 134) (f := true) rfl rfl r134).trans rfl) (by go_simp) ⟨Pred.ext_refl _ _, rfl⟩
          · intro b X hE hd hn hV
            have r134 : b.tmps[134]?.getD undef = .bool true := hV 13 _ 134 rfl rfl (Pred.waits_near (by kernel_rfl) (by kernel_rfl))
            have r139 : b.tmps[139]?.getD undef = .bool true := hV 18 _ 139 rfl rfl (Pred.waits_near (by kernel_rfl) (by kernel_rfl))
            exact Pred.yields_run (v := .bool true) (Pred.wanted_none rfl) (by go_simp) ⟨Pred.ext_refl _ _, rfl⟩
          · intro b X hE hd hn hV
            have r140 : b.tmps[140]?.getD undef = .bool true := hV 19 _ 140 rfl rfl (Pred.waits_near (by kernel_rfl) (by kernel_rfl))
            exact Pred.yields_run (v := .bool true) (Pred.wanted_none rfl) (by go_simp) ⟨Pred.ext_refl _ _, rfl⟩
          · intro b X hE hd hn hV
            have r25 : b.tmps[25]?.getD undef = .pointer none := (hn 25 (by kernel_rfl)).trans rfl
            have r141 : b.tmps[141]?.getD undef = .bool true := hV 20 _ 141 rfl rfl (Pred.waits_near (by kernel_rfl) (by kernel_rfl))
            exact Pred.yields_run (v := .pointer none) ((Pred.wanted_at (g := 20) (d := 141) (f := true) rfl rfl r141).trans rfl) (by go_simp) ⟨Pred.ext_refl _ _, rfl⟩
          · intro b X hE hd hn hV
            have r142 : b.tmps[142]?.getD undef = .pointer none := hV 21 _ 142 rfl rfl (Pred.waits_near (by kernel_rfl) (by kernel_rfl))
            have r141 : b.tmps[141]?.getD undef = .bool true := hV 20 _ 141 rfl rfl (Pred.waits_near (by kernel_rfl) (by kernel_rfl))
            exact Pred.yields_run (v := .bool false) ((Pred.wanted_at (g := 20) (d := 141) (f := true) rfl rfl r141).trans rfl) (by go_simp) ⟨Pred.ext_refl _ _, rfl⟩
          · intro b X hE hd hn hV
            have r143 : b.tmps[143]?.getD undef = .bool false := hV 22 _ 143 rfl rfl (Pred.waits_near (by kernel_rfl) (by kernel_rfl))
            have r141 : b.tmps[141]?.getD undef = .bool true := hV 20 _ 141 rfl rfl (Pred.waits_near (by kernel_rfl) (by kernel_rfl))
            exact Pred.yields_run (v := .bool false) ((Pred.wanted_at (g := 20) (d := 141) (f := true) rfl rfl r141).trans rfl) (by go_simp) ⟨Pred.ext_refl _ _, rfl⟩
          · intro b X hE hd hn hV
            have r24 : b.tmps[24]?.getD undef = .int .i64 1 := (hn 24 (by kernel_rfl)).trans rfl
            have r144 : b.tmps[144]?.getD undef = .bool false := hV 23 _ 144 rfl rfl (Pred.waits_near (by kernel_rfl) (by kernel_rfl))
            exact Pred.yields_run (v := .int .i64 1) ((Pred.wanted_at (g := 23) (d := 144) (f := false) rfl rfl r144).trans rfl) (by go_simp) ⟨Pred.ext_refl _ _, rfl⟩
          · intro b X hE hd hn hV
            have r145 : b.tmps[145]?.getD undef = .int .i64 1 := hV 24 _ 145 rfl rfl (Pred.waits_near (by kernel_rfl) (by kernel_rfl))
            have r144 : b.tmps[144]?.getD undef = .bool false := hV 23 _ 144 rfl rfl (Pred.waits_near (by kernel_rfl) (by kernel_rfl))
            exact Pred.yields_run (v := .bool true) ((Pred.wanted_at (g := 23) (d := 144) (f := false) rfl rfl r144).trans rfl) (by go_simp) ⟨Pred.ext_refl _ _, rfl⟩
          · intro b X hE hd hn hV
            have r144 : b.tmps[144]?.getD undef = .bool false := hV 23 _ 144 rfl rfl (Pred.waits_near (by kernel_rfl) (by kernel_rfl))
            have r146 : b.tmps[146]?.getD undef = .bool true := hV 25 _ 146 rfl rfl (Pred.waits_near (by kernel_rfl) (by kernel_rfl))
            have r141 : b.tmps[141]?.getD undef = .bool true := hV 20 _ 141 rfl rfl (Pred.waits_near (by kernel_rfl) (by kernel_rfl))
            exact Pred.yields_run (v := .bool true) ((Pred.wanted_at (g := 20) (d := 141) (f := true) rfl rfl r141).trans rfl) (by go_simp) ⟨Pred.ext_refl _ _, rfl⟩
          · intro b X hE hd hn hV
            have r141 : b.tmps[141]?.getD undef = .bool true := hV 20 _ 141 rfl rfl (Pred.waits_near (by kernel_rfl) (by kernel_rfl))
            have r147 : b.tmps[147]?.getD undef = .bool true := hV 26 _ 147 rfl rfl (Pred.waits_near (by kernel_rfl) (by kernel_rfl))
            exact Pred.yields_run (v := .bool true) (Pred.wanted_none rfl) (by go_simp) ⟨Pred.ext_refl _ _, rfl⟩
          · intro b X hE hd hn hV
            have r148 : b.tmps[148]?.getD undef = .bool true := hV 27 _ 148 rfl rfl (Pred.waits_near (by kernel_rfl) (by kernel_rfl))
            exact Pred.yields_run (v := .bool true) (Pred.wanted_none rfl) (by go_simp) ⟨Pred.ext_refl _ _, rfl⟩
          · intro b X hE hd hn hV
            have r13 : b.tmps[13]?.getD undef = .pointer (some ⟨b1, 0, none⟩) := (hn 13 (by kernel_rfl)).trans rfl
            have r149 : b.tmps[149]?.getD undef = .bool true := hV 28 _ 149 rfl rfl (Pred.waits_near (by kernel_rfl) (by kernel_rfl))
            exact Pred.yields_run (v := .pointer (some ⟨b1, 0, none⟩)) ((Pred.wanted_at (g := 28) (d := 149) (f := true) rfl rfl r149).trans rfl) (by go_simp) ⟨Pred.ext_refl _ _, rfl⟩
          · intro b X hE hd hn hV
            have r15 : b.tmps[15]?.getD undef = .pointer (some ⟨t1, 0, none⟩) := (hn 15 (by kernel_rfl)).trans rfl
            have r149 : b.tmps[149]?.getD undef = .bool true := hV 28 _ 149 rfl rfl (Pred.waits_near (by kernel_rfl) (by kernel_rfl))
            exact Pred.yields_run (v := .pointer (some ⟨t1, 0, none⟩)) ((Pred.wanted_at (g := 28) (d := 149) (f := true) rfl rfl r149).trans rfl) (by go_simp) ⟨Pred.ext_refl _ _, rfl⟩
          · intro b X hE hd hn hV
            have r150 : b.tmps[150]?.getD undef = .pointer (some ⟨b1, 0, none⟩) := hV 29 _ 150 rfl rfl (Pred.waits_near (by kernel_rfl) (by kernel_rfl))
            have r151 : b.tmps[151]?.getD undef = .pointer (some ⟨t1, 0, none⟩) := hV 30 _ 151 rfl rfl (Pred.waits_near (by kernel_rfl) (by kernel_rfl))
            have r149 : b.tmps[149]?.getD undef = .bool true := hV 28 _ 149 rfl rfl (Pred.waits_near (by kernel_rfl) (by kernel_rfl))
            refine Pred.yields_call (f := 12) (args := #[.pointer (some ⟨b1, 0, none⟩), .pointer (some ⟨t1, 0, none⟩)]) ((Pred.wanted_at (g := 28) (d := 149) (f := true) rfl rfl r149).trans rfl) (by go_simp) ?_
            have C := alike_any _ _ a0 (some r) X (HT.out.bel hE)
            exact C.mono fun e w2 ⟨he, hb⟩ => ⟨_, he, Pred.ext_below hb hE.size, rfl⟩
          · intro b X hE hd hn hV
            have r149 : b.tmps[149]?.getD undef = .bool true := hV 28 _ 149 rfl rfl (Pred.waits_near (by kernel_rfl) (by kernel_rfl))
            have r152 : b.tmps[152]?.getD undef = .bool true := hV 31 _ 152 rfl rfl (Pred.waits_near (by kernel_rfl) (by kernel_rfl))
            exact Pred.yields_run (v := .bool true) (Pred.wanted_none rfl) (by go_simp) ⟨Pred.ext_refl _ _, rfl⟩
          · intro b X hE hd hn hV
            have r153 : b.tmps[153]?.getD undef = .bool true := hV 32 _ 153 rfl rfl (Pred.waits_near (by kernel_rfl) (by kernel_rfl))
            exact Pred.yields_run (v := .bool true) (Pred.wanted_none rfl) (by go_simp) ⟨Pred.ext_refl _ _, rfl⟩
          · intro b X hE hd hn hV
            have r13 : b.tmps[13]?.getD undef = .pointer (some ⟨b1, 0, none⟩) := (hn 13 (by kernel_rfl)).trans rfl
            have r154 : b.tmps[154]?.getD undef = .bool true := hV 33 _ 154 rfl rfl (Pred.waits_near (by kernel_rfl) (by kernel_rfl))
            exact Pred.yields_run (v := .pointer (some ⟨b1, 0, none⟩)) ((Pred.wanted_at (g := 33) (d := 154) (f := true) rfl rfl r154).trans rfl) (by go_simp) ⟨Pred.ext_refl _ _, rfl⟩
          · intro b X hE hd hn hV
            have r155 : b.tmps[155]?.getD undef = .pointer (some ⟨b1, 0, none⟩) := hV 34 _ 155 rfl rfl (Pred.waits_near (by kernel_rfl) (by kernel_rfl))
            have r154 : b.tmps[154]?.getD undef = .bool true := hV 33 _ 154 rfl rfl (Pred.waits_near (by kernel_rfl) (by kernel_rfl))
            refine Pred.yields_call (f := 20) (args := #[.pointer (some ⟨b1, 0, none⟩), .int .i64 1]) ((Pred.wanted_at (g := 33) (d := 154) (f := true) rfl rfl r154).trans rfl) (by go_simp) ?_
            have C := all_db (HD.out.below hE) 1
            rw [cut_one] at C
            exact C.mono fun e w2 ⟨⟨u, he, hu⟩, hb⟩ => ⟨_, he, Pred.ext_below hb hE.size, hu⟩
          · intro b X hE hd hn hV
            have r15 : b.tmps[15]?.getD undef = .pointer (some ⟨t1, 0, none⟩) := (hn 15 (by kernel_rfl)).trans rfl
            have r154 : b.tmps[154]?.getD undef = .bool true := hV 33 _ 154 rfl rfl (Pred.waits_near (by kernel_rfl) (by kernel_rfl))
            exact Pred.yields_run (v := .pointer (some ⟨t1, 0, none⟩)) ((Pred.wanted_at (g := 33) (d := 154) (f := true) rfl rfl r154).trans rfl) (by go_simp) ⟨Pred.ext_refl _ _, rfl⟩
          · intro b X hE hd hn hV
            have r157 : b.tmps[157]?.getD undef = .pointer (some ⟨t1, 0, none⟩) := hV 36 _ 157 rfl rfl (Pred.waits_near (by kernel_rfl) (by kernel_rfl))
            have r154 : b.tmps[154]?.getD undef = .bool true := hV 33 _ 154 rfl rfl (Pred.waits_near (by kernel_rfl) (by kernel_rfl))
            exact Pred.yields_run (v := .pointer (some ⟨t1, 0, none⟩)) ((Pred.wanted_at (g := 33) (d := 154) (f := true) rfl rfl r154).trans rfl) (by go_simp) ⟨Pred.ext_refl _ _, rfl⟩
          · intro b X hE hd hn hV
            have r158 : b.tmps[158]?.getD undef = .pointer (some ⟨t1, 0, none⟩) := hV 37 _ 158 rfl rfl (Pred.waits_near (by kernel_rfl) (by kernel_rfl))
            have r154 : b.tmps[154]?.getD undef = .bool true := hV 33 _ 154 rfl rfl (Pred.waits_near (by kernel_rfl) (by kernel_rfl))
            exact Pred.yields_run (v := .pointer (some ⟨t1, 1, none⟩)) ((Pred.wanted_at (g := 33) (d := 154) (f := true) rfl rfl r154).trans rfl) (by go_simp) ⟨Pred.ext_refl _ _, rfl⟩
          · intro b X hE hd hn hV
            have r159 : b.tmps[159]?.getD undef = .pointer (some ⟨t1, 1, none⟩) := hV 38 _ 159 rfl rfl (Pred.waits_near (by kernel_rfl) (by kernel_rfl))
            have r154 : b.tmps[154]?.getD undef = .bool true := hV 33 _ 154 rfl rfl (Pred.waits_near (by kernel_rfl) (by kernel_rfl))
            have z : X.cell? ⟨t1, 1, none⟩ = some (.slice aR r.length cR) := by rw [blk_cell ((blk_below hE _ (blk_lt BT.out)).trans BT.out)]; rfl
            exact Pred.yields_run (v := .slice aR r.length cR) ((Pred.wanted_at (g := 33) (d := 154) (f := true) rfl rfl r154).trans rfl) (by go_simp) ⟨Pred.ext_refl _ _, rfl⟩
          · intro b X hE hd hn hV
            have r15 : b.tmps[15]?.getD undef = .pointer (some ⟨t1, 0, none⟩) := (hn 15 (by kernel_rfl)).trans rfl
            have r154 : b.tmps[154]?.getD undef = .bool true := hV 33 _ 154 rfl rfl (Pred.waits_near (by kernel_rfl) (by kernel_rfl))
            exact Pred.yields_run (v := .pointer (some ⟨t1, 0, none⟩)) ((Pred.wanted_at (g := 33) (d := 154) (f := true) rfl rfl r154).trans rfl) (by go_simp) ⟨Pred.ext_refl _ _, rfl⟩
          · intro b X hE hd hn hV
            have r161 : b.tmps[161]?.getD undef = .pointer (some ⟨t1, 0, none⟩) := hV 40 _ 161 rfl rfl (Pred.waits_near (by kernel_rfl) (by kernel_rfl))
            have r154 : b.tmps[154]?.getD undef = .bool true := hV 33 _ 154 rfl rfl (Pred.waits_near (by kernel_rfl) (by kernel_rfl))
            exact Pred.yields_run (v := .pointer (some ⟨t1, 0, none⟩)) ((Pred.wanted_at (g := 33) (d := 154) (f := true) rfl rfl r154).trans rfl) (by go_simp) ⟨Pred.ext_refl _ _, rfl⟩
          · intro b X hE hd hn hV
            have r162 : b.tmps[162]?.getD undef = .pointer (some ⟨t1, 0, none⟩) := hV 41 _ 162 rfl rfl (Pred.waits_near (by kernel_rfl) (by kernel_rfl))
            have r154 : b.tmps[154]?.getD undef = .bool true := hV 33 _ 154 rfl rfl (Pred.waits_near (by kernel_rfl) (by kernel_rfl))
            exact Pred.yields_run (v := .pointer (some ⟨t1, 1, none⟩)) ((Pred.wanted_at (g := 33) (d := 154) (f := true) rfl rfl r154).trans rfl) (by go_simp) ⟨Pred.ext_refl _ _, rfl⟩
          · intro b X hE hd hn hV
            have r163 : b.tmps[163]?.getD undef = .pointer (some ⟨t1, 1, none⟩) := hV 42 _ 163 rfl rfl (Pred.waits_near (by kernel_rfl) (by kernel_rfl))
            have r154 : b.tmps[154]?.getD undef = .bool true := hV 33 _ 154 rfl rfl (Pred.waits_near (by kernel_rfl) (by kernel_rfl))
            have z : X.cell? ⟨t1, 1, none⟩ = some (.slice aR r.length cR) := by rw [blk_cell ((blk_below hE _ (blk_lt BT.out)).trans BT.out)]; rfl
            exact Pred.yields_run (v := .slice aR r.length cR) ((Pred.wanted_at (g := 33) (d := 154) (f := true) rfl rfl r154).trans rfl) (by go_simp) ⟨Pred.ext_refl _ _, rfl⟩
          · intro b X hE hd hn hV
            have r164 : b.tmps[164]?.getD undef = .slice aR r.length cR := hV 43 _ 164 rfl rfl (Pred.waits_near (by kernel_rfl) (by kernel_rfl))
            have r154 : b.tmps[154]?.getD undef = .bool true := hV 33 _ 154 rfl rfl (Pred.waits_near (by kernel_rfl) (by kernel_rfl))
            exact Pred.yields_run (v := .int .i64 (r.length : Int)) ((Pred.wanted_at (g := 33) (d := 154) (f := true) rfl rfl r154).trans rfl) (by go_simp) ⟨Pred.ext_refl _ _, rfl⟩
          · intro b X hE hd hn hV
            have r165 : b.tmps[165]?.getD undef = .int .i64 (r.length : Int) := hV 44 _ 165 rfl rfl (Pred.waits_near (by kernel_rfl) (by kernel_rfl))
            have r154 : b.tmps[154]?.getD undef = .bool true := hV 33 _ 154 rfl rfl (Pred.waits_near (by kernel_rfl) (by kernel_rfl))
            have h9 : (min 1 (r.length : Int)) = ((min 1 r.length : Nat) : Int) := by omega
            exact Pred.yields_run (v := .int .i64 ((min 1 r.length : Nat) : Int)) ((Pred.wanted_at (g := 33) (d := 154) (f := true) rfl rfl r154).trans rfl) (by go_simp) ⟨Pred.ext_refl _ _, rfl⟩
          · intro b X hE hd hn hV
            have r160 : b.tmps[160]?.getD undef = .slice aR r.length cR := hV 39 _ 160 rfl rfl (Pred.waits_near (by kernel_rfl) (by kernel_rfl))
            have r166 : b.tmps[166]?.getD undef = .int .i64 ((min 1 r.length : Nat) : Int) := hV 45 _ 166 rfl rfl (Pred.waits_near (by kernel_rfl) (by kernel_rfl))
            have r154 : b.tmps[154]?.getD undef = .bool true := hV 33 _ 154 rfl rfl (Pred.waits_near (by kernel_rfl) (by kernel_rfl))
            exact Pred.yields_run (v := .slice aR (min 1 r.length) cR) ((Pred.wanted_at (g := 33) (d := 154) (f := true) rfl rfl r154).trans rfl) (DiRb.run_front (by rfl) r160 r166 (Nat.le_trans (Nat.min_le_right _ _) HCR.out)) ⟨Pred.ext_refl _ _, rfl⟩
          · intro b X hE hd hn hV
            obtain ⟨ga156, ca156, r156, hr156, hc156⟩ : SE (r.take (min 1 r.length)) (b.tmps[156]?.getD undef) X := hV 35 _ 156 rfl rfl (Pred.waits_near (by kernel_rfl) (by kernel_rfl))
            have r167 : b.tmps[167]?.getD undef = .slice aR (min 1 r.length) cR := hV 46 _ 167 rfl rfl (Pred.waits_near (by kernel_rfl) (by kernel_rfl))
            have r154 : b.tmps[154]?.getD undef = .bool true := hV 33 _ 154 rfl rfl (Pred.waits_near (by kernel_rfl) (by kernel_rfl))
            refine Pred.yields_call (f := 19) (args := #[.slice ga156 (r.take (min 1 r.length)).length ca156, .slice aR (min 1 r.length) cR]) ((Pred.wanted_at (g := 33) (d := 154) (f := true) rfl rfl r154).trans rfl) (by go_simp) ?_
            have C := same_n (r.take (min 1 r.length)) (r.take (min 1 r.length)) _ (min 1 r.length) ga156 aR ca156 cR X hr156 ((HRR.out.bel hE).take _) rfl (by rw [List.length_take]; omega) (by rw [List.length_take]; omega) (by omega) (q := true) (by simp)
            exact C.mono fun e w2 ⟨he, hb⟩ => ⟨_, he, Pred.ext_below hb hE.size, rfl⟩
          · intro b X hE hd hn hV
            have r154 : b.tmps[154]?.getD undef = .bool true := hV 33 _ 154 rfl rfl (Pred.waits_near (by kernel_rfl) (by kernel_rfl))
            have r168 : b.tmps[168]?.getD undef = .bool true := hV 47 _ 168 rfl rfl (Pred.waits_near (by kernel_rfl) (by kernel_rfl))
            exact Pred.yields_run (v := .bool true) (Pred.wanted_none rfl) (by go_simp) ⟨Pred.ext_refl _ _, rfl⟩
          · intro b X hE hd hn hV
            have r169 : b.tmps[169]?.getD undef = .bool true := hV 48 _ 169 rfl rfl (Pred.waits_near (by kernel_rfl) (by kernel_rfl))
            exact Pred.yields_run (v := .bool true) (Pred.wanted_none rfl) (by go_simp) ⟨Pred.ext_refl _ _, rfl⟩
          · intro b X hE hd hn hV
            have r170 : b.tmps[170]?.getD undef = .bool true := hV 49 _ 170 rfl rfl (Pred.waits_near (by kernel_rfl) (by kernel_rfl))
            refine Pred.yields_call (f := 7) (args := #[]) ((Pred.wanted_at (g := 49) (d := 170) (f := true) rfl rfl r170).trans rfl) (by go_simp) ?_
            have C := awake_any X
            exact C.mono fun e w2 ⟨he, hb⟩ => ⟨_, he, Pred.ext_below hb hE.size, rfl⟩
          · intro b X hE hd hn hV
            have r170 : b.tmps[170]?.getD undef = .bool true := hV 49 _ 170 rfl rfl (Pred.waits_near (by kernel_rfl) (by kernel_rfl))
            have r171 : b.tmps[171]?.getD undef = .bool true := hV 50 _ 171 rfl rfl (Pred.waits_near (by kernel_rfl) (by kernel_rfl))
            exact Pred.yields_run (v := .bool true) (Pred.wanted_none rfl) (by go_simp) ⟨Pred.ext_refl _ _, rfl⟩
          · intro b X hE hd hn hV
            have r172 : b.tmps[172]?.getD undef = .bool true := hV 51 _ 172 rfl rfl (Pred.waits_near (by kernel_rfl) (by kernel_rfl))
            exact Pred.yields_run (v := .bool true) (Pred.wanted_none rfl) (by go_simp) ⟨Pred.ext_refl _ _, rfl⟩
        intro v X hE hv
        have e0 : v 0 = .agg pe.c := hv 0 _ 121 rfl rfl
        have e1 : v 1 = .agg pe.c := hv 1 _ 122 rfl rfl
        have e2 : v 2 = .bool true := hv 2 _ 123 rfl rfl
        have e3 : v 3 = .bool true := hv 3 _ 124 rfl rfl
        have e4 : v 4 = .bool qb := hv 4 _ 125 rfl rfl
        have e5 : v 5 = .bool qb := hv 5 _ 126 rfl rfl
        have e6 : v 6 = .bool true := hv 6 _ 127 rfl rfl
        have e7 : v 7 = .bool true := hv 7 _ 128 rfl rfl
        have e8 : v 8 = .bool true := hv 8 _ 129 rfl rfl
        have e9 : v 9 = .pointer none := hv 9 _ 130 rfl rfl
        have e10 : v 10 = .pointer none := hv 10 _ 131 rfl rfl
        have e11 : v 11 = .bool true := hv 11 _ 132 rfl rfl
        have e12 : v 12 = .bool true := hv 12 _ 133 rfl rfl
        have e13 : v 13 = .bool true := hv 13 _ 134 rfl rfl
        have e14 : v 14 = .int .i64 1 := hv 14 _ 135 rfl rfl
        have e15 : v 15 = .bool false := hv 15 _ 136 rfl rfl
        have e16 : v 16 = .pointer none := hv 16 _ 137 rfl rfl
        have e17 : v 17 = .bool false := hv 17 _ 138 rfl rfl
        have e18 : v 18 = .bool true := hv 18 _ 139 rfl rfl
        have e19 : v 19 = .bool true := hv 19 _ 140 rfl rfl
        have e20 : v 20 = .bool true := hv 20 _ 141 rfl rfl
        have e21 : v 21 = .pointer none := hv 21 _ 142 rfl rfl
        have e22 : v 22 = .bool false := hv 22 _ 143 rfl rfl
        have e23 : v 23 = .bool false := hv 23 _ 144 rfl rfl
        have e24 : v 24 = .int .i64 1 := hv 24 _ 145 rfl rfl
        have e25 : v 25 = .bool true := hv 25 _ 146 rfl rfl
        have e26 : v 26 = .bool true := hv 26 _ 147 rfl rfl
        have e27 : v 27 = .bool true := hv 27 _ 148 rfl rfl
        have e28 : v 28 = .bool true := hv 28 _ 149 rfl rfl
        have e29 : v 29 = .pointer (some ⟨b1, 0, none⟩) := hv 29 _ 150 rfl rfl
        have e30 : v 30 = .pointer (some ⟨t1, 0, none⟩) := hv 30 _ 151 rfl rfl
        have e31 : v 31 = .bool true := hv 31 _ 152 rfl rfl
        have e32 : v 32 = .bool true := hv 32 _ 153 rfl rfl
        have e33 : v 33 = .bool true := hv 33 _ 154 rfl rfl
        have e34 : v 34 = .pointer (some ⟨b1, 0, none⟩) := hv 34 _ 155 rfl rfl
        obtain ⟨ga35, ca35, e35, hr35, hc35⟩ : SE (r.take (min 1 r.length)) (v 35) X := hv 35 _ 156 rfl rfl
        have e36 : v 36 = .pointer (some ⟨t1, 0, none⟩) := hv 36 _ 157 rfl rfl
        have e37 : v 37 = .pointer (some ⟨t1, 0, none⟩) := hv 37 _ 158 rfl rfl
        have e38 : v 38 = .pointer (some ⟨t1, 1, none⟩) := hv 38 _ 159 rfl rfl
        have e39 : v 39 = .slice aR r.length cR := hv 39 _ 160 rfl rfl
        have e40 : v 40 = .pointer (some ⟨t1, 0, none⟩) := hv 40 _ 161 rfl rfl
        have e41 : v 41 = .pointer (some ⟨t1, 0, none⟩) := hv 41 _ 162 rfl rfl
        have e42 : v 42 = .pointer (some ⟨t1, 1, none⟩) := hv 42 _ 163 rfl rfl
        have e43 : v 43 = .slice aR r.length cR := hv 43 _ 164 rfl rfl
        have e44 : v 44 = .int .i64 (r.length : Int) := hv 44 _ 165 rfl rfl
        have e45 : v 45 = .int .i64 ((min 1 r.length : Nat) : Int) := hv 45 _ 166 rfl rfl
        have e46 : v 46 = .slice aR (min 1 r.length) cR := hv 46 _ 167 rfl rfl
        have e47 : v 47 = .bool true := hv 47 _ 168 rfl rfl
        have e48 : v 48 = .bool true := hv 48 _ 169 rfl rfl
        have e49 : v 49 = .bool true := hv 49 _ 170 rfl rfl
        have e50 : v 50 = .bool true := hv 50 _ 171 rfl rfl
        have e51 : v 51 = .bool true := hv 51 _ 172 rfl rfl
        have e52 : v 52 = .bool true := hv 52 _ 12 rfl rfl
        simp only [Pred.putsF_cons, Pred.putsF_nil, Nat.zero_add, Nat.reduceAdd, e0, e1, e2, e3, e4, e5, e6, e7, e8, e9, e10, e11, e12, e13, e14, e15, e16, e17, e18, e19, e20, e21, e22, e23, e24, e25, e26, e27, e28, e29, e30, e31, e32, e33, e34, e35, e36, e37, e38, e39, e40, e41, e42, e43, e44, e45, e46, e47, e48, e49, e50, e51, e52, Act.put, List.setIfInBounds_toArray, List.set_cons_zero, List.set_cons_succ]
        clear e0 e1 e2 e3 e4 e5 e6 e7 e8 e9 e10 e11 e12 e13 e14 e15 e16 e17 e18 e19 e20 e21 e22 e23 e24 e25 e26 e27 e28 e29 e30 e31 e32 e33 e34 e35 e36 e37 e38 e39 e40 e41 e42 e43 e44 e45 e46 e47 e48 e49 e50 e51 e52 hv
        have LX := L12.trans (hE.mono L12.size)
        clear hE
        go_wp2
        go_ret
        exact ⟨rfl, LX⟩
      | some r5 =>
        obtain rfl : cu = 0 := by rw [← ecu]; rfl
        have h9 := HV.out
        obtain ⟨b5, t5, rfl, rfl, -, -, -⟩ := h9
        go_upto_region 15 with (fail)
        refine Pred.region_vals (Pred.Of [
            Is (.agg pe.c),
            Is (.agg pe.c),
            Is (.bool true),
            Is (.bool true),
            Is (.bool qb),
            Is (.bool qb),
            Is (.bool true),
            Is (.bool true),
            Is (.bool true),
            Is (.pointer (some ⟨b5, 0, none⟩)),
            Is (.pointer (some ⟨t5, 0, none⟩)),
            Is (.bool true),
            Is (.bool true),
            Is (.bool true),
            Is (.int .i64 0),
            Is (.bool true),
            Is (.pointer (some ⟨t5, 0, none⟩)),
            Is (.bool true),
            Is (.bool true),
            Is (.bool true),
            Is (.bool true),
            Is (.pointer (some ⟨t5, 0, none⟩)),
            Is (.bool true),
            Is (.bool true),
            Is (undef),
            Is (undef),
            Is (.bool true),
            Is (.bool true),
            Is (.bool true),
            Is (.pointer (some ⟨b1, 0, none⟩)),
            Is (.pointer (some ⟨t1, 0, none⟩)),
            Is (.bool true),
            Is (.bool true),
            Is (.bool true),
            Is (.pointer (some ⟨b1, 0, none⟩)),
            SE (r.take (min 1 r.length)),
            Is (.pointer (some ⟨t1, 0, none⟩)),
            Is (.pointer (some ⟨t1, 0, none⟩)),
            Is (.pointer (some ⟨t1, 1, none⟩)),
            Is (.slice aR r.length cR),
            Is (.pointer (some ⟨t1, 0, none⟩)),
            Is (.pointer (some ⟨t1, 0, none⟩)),
            Is (.pointer (some ⟨t1, 1, none⟩)),
            Is (.slice aR r.length cR),
            Is (.int .i64 (r.length : Int)),
            Is (.int .i64 ((min 1 r.length : Nat) : Int)),
            Is (.slice aR (min 1 r.length) cR),
            Is (.bool true),
            Is (.bool true),
            Is (.bool true),
            Is (.bool true),
            Is (.bool true),
            Is (.bool true)]) (by kernel_rfl) (by kernel_rfl) (by kernel_rfl) (Pred.of_stab ?_) ?_ ?_
        · exact ⟨is_stab _, is_stab _, is_stab _, is_stab _, is_stab _, is_stab _, is_stab _, is_stab _, is_stab _, is_stab _, is_stab _, is_stab _, is_stab _, is_stab _, is_stab _, is_stab _, is_stab _, is_stab _, is_stab _, is_stab _, is_stab _, is_stab _, is_stab _, is_stab _, is_stab _, is_stab _, is_stab _, is_stab _, is_stab _, is_stab _, is_stab _, is_stab _, is_stab _, is_stab _, is_stab _, se_stab _, is_stab _, is_stab _, is_stab _, is_stab _, is_stab _, is_stab _, is_stab _, is_stab _, is_stab _, is_stab _, is_stab _, is_stab _, is_stab _, is_stab _, is_stab _, is_stab _, is_stab _, trivial⟩
        · refine ⟨?_, ?_, ?_, ?_, ?_, ?_, ?_, ?_, ?_, ?_, ?_, ?_, ?_, ?_, ?_, ?_, ?_, ?_, ?_, ?_, ?_, ?_, ?_, ?_, ?_, ?_, ?_, ?_, ?_, ?_, ?_, ?_, ?_, ?_, ?_, ?_, ?_, ?_, ?_, ?_, ?_, ?_, ?_, ?_, ?_, ?_, ?_, ?_, ?_, ?_, ?_, ?_, ?_, trivial⟩
          · intro b X hE hd hn hV
            have r19 : b.tmps[19]?.getD undef = .pointer (some ⟨gx, 0, none⟩) := (hn 19 (by kernel_rfl)).trans rfl
            have q := ld_box ((blk_below hE _ (blk_lt BX.out)).trans BX.out)
            exact Pred.yields_run (v := .agg pe.c) (Pred.wanted_none rfl) (by go_simp) ⟨Pred.ext_refl _ _, rfl⟩
          · intro b X hE hd hn hV
            have r21 : b.tmps[21]?.getD undef = .pointer (some ⟨gy, 0, none⟩) := (hn 21 (by kernel_rfl)).trans rfl
            have q := ld_box ((blk_below hE _ (blk_lt BY.out)).trans BY.out)
            exact Pred.yields_run (v := .agg pe.c) (Pred.wanted_none rfl) (by go_simp) ⟨Pred.ext_refl _ _, rfl⟩
          · intro b X hE hd hn hV
            have r121 : b.tmps[121]?.getD undef = .agg pe.c := hV 0 _ 121 rfl rfl (Pred.waits_near (by kernel_rfl) (by kernel_rfl))
            have r122 : b.tmps[122]?.getD undef = .agg pe.c := hV 1 _ 122 rfl rfl (Pred.waits_near (by kernel_rfl) (by kernel_rfl))
            have h := eqE_self pe
            exact Pred.yields_run (v := .bool true) (Pred.wanted_none rfl) (by go_simp) ⟨Pred.ext_refl _ _, rfl⟩
          · intro b X hE hd hn hV
            have r123 : b.tmps[123]?.getD undef = .bool true := hV 2 _ 123 rfl rfl (Pred.waits_near (by kernel_rfl) (by kernel_rfl))
            exact Pred.yields_run (v := .bool true) (Pred.wanted_none rfl) (by go_simp) ⟨Pred.ext_refl _ _, rfl⟩
          · intro b X hE hd hn hV
            have r20 : b.tmps[20]?.getD undef = .bool qb := (hn 20 (by kernel_rfl)).trans rfl
            have r124 : b.tmps[124]?.getD undef = .bool true := hV 3 _ 124 rfl rfl (Pred.waits_near (by kernel_rfl) (by kernel_rfl))
            exact Pred.yields_run (v := .bool qb) ((Pred.wanted_at (g := 3) (d := 124) (f := true) rfl rfl r124).trans rfl) (by go_simp) ⟨Pred.ext_refl _ _, rfl⟩
          · intro b X hE hd hn hV
            have r22 : b.tmps[22]?.getD undef = .bool qb := (hn 22 (by kernel_rfl)).trans rfl
            have r124 : b.tmps[124]?.getD undef = .bool true := hV 3 _ 124 rfl rfl (Pred.waits_near (by kernel_rfl) (by kernel_rfl))
            exact Pred.yields_run (v := .bool qb) ((Pred.wanted_at (g := 3) (d := 124) (f := true) rfl rfl r124).trans rfl) (by go_simp) ⟨Pred.ext_refl _ _, rfl⟩
          · intro b X hE hd hn hV
            have r125 : b.tmps[125]?.getD undef = .bool qb := hV 4 _ 125 rfl rfl (Pred.waits_near (by kernel_rfl) (by kernel_rfl))
            have r126 : b.tmps[126]?.getD undef = .bool qb := hV 5 _ 126 rfl rfl (Pred.waits_near (by kernel_rfl) (by kernel_rfl))
            have r124 : b.tmps[124]?.getD undef = .bool true := hV 3 _ 124 rfl rfl (Pred.waits_near (by kernel_rfl) (by kernel_rfl))
            exact Pred.yields_run (v := .bool true) ((Pred.wanted_at (g := 3) (d := 124) (f := true) rfl rfl r124).trans rfl) (by go_simp) ⟨Pred.ext_refl _ _, rfl⟩
          · intro b X hE hd hn hV
            have r124 : b.tmps[124]?.getD undef = .bool true := hV 3 _ 124 rfl rfl (Pred.waits_near (by kernel_rfl) (by kernel_rfl))
            have r127 : b.tmps[127]?.getD undef = .bool true := hV 6 _ 127 rfl rfl (Pred.waits_near (by kernel_rfl) (by kernel_rfl))
            exact Pred.yields_run (v := .bool true) (Pred.wanted_none rfl) (by go_simp) ⟨Pred.ext_refl _ _, rfl⟩
          · intro b X hE hd hn hV
            have r128 : b.tmps[128]?.getD undef = .bool true := hV 7 _ 128 rfl rfl (Pred.waits_near (by kernel_rfl) (by kernel_rfl))
            exact Pred.yields_run (v := .bool true) (Pred.wanted_none rfl) (by go_simp) ⟨Pred.ext_refl _ _, rfl⟩
          · intro b X hE hd hn hV
            have r23 : b.tmps[23]?.getD undef = .pointer (some ⟨b5, 0, none⟩) := (hn 23 (by kernel_rfl)).trans rfl
            have r129 : b.tmps[129]?.getD undef = .bool true := hV 8 _ 129 rfl rfl (Pred.waits_near (by kernel_rfl) (by kernel_rfl))
            exact Pred.yields_run (v := .pointer (some ⟨b5, 0, none⟩)) ((Pred.wanted_at (g := 8) (d := 129) (f := true) rfl rfl r129).trans rfl) (by go_simp) ⟨Pred.ext_refl _ _, rfl⟩
          · intro b X hE hd hn hV
            have r25 : b.tmps[25]?.getD undef = .pointer (some ⟨t5, 0, none⟩) := (hn 25 (by kernel_rfl)).trans rfl
            have r129 : b.tmps[129]?.getD undef = .bool true := hV 8 _ 129 rfl rfl (Pred.waits_near (by kernel_rfl) (by kernel_rfl))
            exact Pred.yields_run (v := .pointer (some ⟨t5, 0, none⟩)) ((Pred.wanted_at (g := 8) (d := 129) (f := true) rfl rfl r129).trans rfl) (by go_simp) ⟨Pred.ext_refl _ _, rfl⟩
          · intro b X hE hd hn hV
            have r130 : b.tmps[130]?.getD undef = .pointer (some ⟨b5, 0, none⟩) := hV 9 _ 130 rfl rfl (Pred.waits_near (by kernel_rfl) (by kernel_rfl))
            have r131 : b.tmps[131]?.getD undef = .pointer (some ⟨t5, 0, none⟩) := hV 10 _ 131 rfl rfl (Pred.waits_near (by kernel_rfl) (by kernel_rfl))
            have r129 : b.tmps[129]?.getD undef = .bool true := hV 8 _ 129 rfl rfl (Pred.waits_near (by kernel_rfl) (by kernel_rfl))
            refine Pred.yields_call (f := 12) (args := #[.pointer (some ⟨b5, 0, none⟩), .pointer (some ⟨t5, 0, none⟩)]) ((Pred.wanted_at (g := 8) (d := 129) (f := true) rfl rfl r129).trans rfl) (by go_simp) ?_
            have C := alike_any _ _ a0 (some r5) X (HV.out.bel hE)
            exact C.mono fun e w2 ⟨he, hb⟩ => ⟨_, he, Pred.ext_below hb hE.size, rfl⟩
          · intro b X hE hd hn hV
            have r129 : b.tmps[129]?.getD undef = .bool true := hV 8 _ 129 rfl rfl (Pred.waits_near (by kernel_rfl) (by kernel_rfl))
            have r132 : b.tmps[132]?.getD undef = .bool true := hV 11 _ 132 rfl rfl (Pred.waits_near (by kernel_rfl) (by kernel_rfl))
            exact Pred.yields_run (v := .bool true) (Pred.wanted_none rfl) (by go_simp) ⟨Pred.ext_refl _ _, rfl⟩
          · intro b X hE hd hn hV
            have r133 : b.tmps[133]?.getD undef = .bool true := hV 12 _ 133 rfl rfl (Pred.waits_near (by kernel_rfl) (by kernel_rfl))
            exact Pred.yields_run (v := .bool true) (Pred.wanted_none rfl) (by go_simp) ⟨Pred.ext_refl _ _, rfl⟩
          · intro b X hE hd hn hV
            have r24 : b.tmps[24]?.getD undef = .int .i64 0 := (hn 24 (by kernel_rfl)).trans rfl
            have r134 : b.tmps[134]?.getD undef = .bool true := hV 13 _ 134 rfl rfl (Pred.waits_near (by kernel_rfl) (by kernel_rfl))
            exact Pred.yields_run (v := .int .i64 0) ((Pred.wanted_at (g := 13) (d := 134) (f := true) rfl rfl r134).trans rfl) (by go_simp) ⟨Pred.ext_refl _ _, rfl⟩
          · intro b X hE hd hn hV
            have r135 : b.tmps[135]?.getD undef = .int .i64 0 := hV 14 _ 135 rfl rfl (Pred.waits_near (by kernel_rfl) (by kernel_rfl))
            have r134 : b.tmps[134]?.getD undef = .bool true := hV 13 _ 134 rfl rfl (Pred.waits_near (by kernel_rfl) (by kernel_rfl))
            exact Pred.yields_run (v := .bool true) ((Pred.wanted_at (g := 13) (d := 134) (f := true) rfl rfl r134).trans rfl) (by go_simp) ⟨Pred.ext_refl _ _, rfl⟩
          · intro b X hE hd hn hV
            have r25 : b.tmps[25]?.getD undef = .pointer (some ⟨t5, 0, none⟩) := (hn 25 (by kernel_rfl)).trans rfl
            have r134 : b.tmps[134]?.getD undef = .bool true := hV 13 _ 134 rfl rfl (Pred.waits_near (by kernel_rfl) (by kernel_rfl))
            exact Pred.yields_run (v := .pointer (some ⟨t5, 0, none⟩)) ((Pred.wanted_at (g := 13) (d := 134) (f := true) rfl rfl r134).trans rfl) (by go_simp) ⟨Pred.ext_refl _ _, rfl⟩
          · intro b X hE hd hn hV
            have r137 : b.tmps[137]?.getD undef = .pointer (some ⟨t5, 0, none⟩) := hV 16 _ 137 rfl rfl (Pred.waits_near (by kernel_rfl) (by kernel_rfl))
            have r134 : b.tmps[134]?.getD undef = .bool true := hV 13 _ 134 rfl rfl (Pred.waits_near (by kernel_rfl) (by kernel_rfl))
            exact Pred.yields_run (v := .bool true) ((Pred.wanted_at (g := 13) (d := 134) (f := true) rfl rfl r134).trans rfl) (by go_simp) ⟨Pred.ext_refl _ _, rfl⟩
          · intro b X hE hd hn hV
            have r136 : b.tmps[136]?.getD undef = .bool true := hV 15 _ 136 rfl rfl (Pred.waits_near (by kernel_rfl) (by kernel_rfl))
            have r138 : b.tmps[138]?.getD undef = .bool true := hV 17 _ 138 rfl rfl (Pred.waits_near (by kernel_rfl) (by kernel_rfl))
            have r134 : b.tmps[134]?.getD undef = .bool true := hV 13 _ 134 rfl rfl (Pred.waits_near (by kernel_rfl) (by kernel_rfl))
            exact Pred.yields_run (v := .bool true) ((Pred.wanted_at (g := 13) (d := 134) (f := true) rfl rfl r134).trans rfl) (by go_simp) ⟨Pred.ext_refl _ _, rfl⟩
          · intro b X hE hd hn hV
            have r134 : b.tmps[134]?.getD undef = .bool true := hV 13 _ 134 rfl rfl (Pred.waits_near (by kernel_rfl) (by kernel_rfl))
            have r139 : b.tmps[139]?.getD undef = .bool true := hV 18 _ 139 rfl rfl (Pred.waits_near (by kernel_rfl) (by kernel_rfl))
            exact Pred.yields_run (v := .bool true) (Pred.wanted_none rfl) (by go_simp) ⟨Pred.ext_refl _ _, rfl⟩
          · intro b X hE hd hn hV
            have r140 : b.tmps[140]?.getD undef = .bool true := hV 19 _ 140 rfl rfl (Pred.waits_near (by kernel_rfl) (by kernel_rfl))
            exact Pred.yields_run (v := .bool true) (Pred.wanted_none rfl) (by go_simp) ⟨Pred.ext_refl _ _, rfl⟩
          · intro b X hE hd hn hV
            have r25 : b.tmps[25]?.getD undef = .pointer (some ⟨t5, 0, none⟩) := (hn 25 (by kernel_rfl)).trans rfl
            have r141 : b.tmps[141]?.getD undef = .bool true := hV 20 _ 141 rfl rfl (Pred.waits_near (by kernel_rfl) (by kernel_rfl))
            exact Pred.yields_run (v := .pointer (some ⟨t5, 0, none⟩)) ((Pred.wanted_at (g := 20) (d := 141) (f := true) rfl rfl r141).trans rfl) (by go_simp) ⟨Pred.ext_refl _ _, rfl⟩
          · intro b X hE hd hn hV
            have r142 : b.tmps[142]?.getD undef = .pointer (some ⟨t5, 0, none⟩) := hV 21 _ 142 rfl rfl (Pred.waits_near (by kernel_rfl) (by kernel_rfl))
            have r141 : b.tmps[141]?.getD undef = .bool true := hV 20 _ 141 rfl rfl (Pred.waits_near (by kernel_rfl) (by kernel_rfl))
            exact Pred.yields_run (v := .bool true) ((Pred.wanted_at (g := 20) (d := 141) (f := true) rfl rfl r141).trans rfl) (by go_simp) ⟨Pred.ext_refl _ _, rfl⟩
          · intro b X hE hd hn hV
            have r143 : b.tmps[143]?.getD undef = .bool true := hV 22 _ 143 rfl rfl (Pred.waits_near (by kernel_rfl) (by kernel_rfl))
            have r141 : b.tmps[141]?.getD undef = .bool true := hV 20 _ 141 rfl rfl (Pred.waits_near (by kernel_rfl) (by kernel_rfl))
            exact Pred.yields_run (v := .bool true) ((Pred.wanted_at (g := 20) (d := 141) (f := true) rfl rfl r141).trans rfl) (by go_simp) ⟨Pred.ext_refl _ _, rfl⟩
          · intro b X hE hd hn hV
            have r144 : b.tmps[144]?.getD undef = .bool true := hV 23 _ 144 rfl rfl (Pred.waits_near (by kernel_rfl) (by kernel_rfl))
            exact Pred.yields_not ((Pred.wanted_at (g := 23) (d := 144) (f := false) rfl rfl r144).trans rfl) ⟨Pred.ext_refl _ _, rfl⟩
          · intro b X hE hd hn hV
            have r144 : b.tmps[144]?.getD undef = .bool true := hV 23 _ 144 rfl rfl (Pred.waits_near (by kernel_rfl) (by kernel_rfl))
            exact Pred.yields_not ((Pred.wanted_at (g := 23) (d := 144) (f := false) rfl rfl r144).trans rfl) ⟨Pred.ext_refl _ _, rfl⟩
          · intro b X hE hd hn hV
            have r144 : b.tmps[144]?.getD undef = .bool true := hV 23 _ 144 rfl rfl (Pred.waits_near (by kernel_rfl) (by kernel_rfl))
            have r146 : b.tmps[146]?.getD undef = undef := hV 25 _ 146 rfl rfl (Pred.waits_near (by kernel_rfl) (by kernel_rfl))
            have r141 : b.tmps[141]?.getD undef = .bool true := hV 20 _ 141 rfl rfl (Pred.waits_near (by kernel_rfl) (by kernel_rfl))
            exact Pred.yields_run (v := .bool true) ((Pred.wanted_at (g := 20) (d := 141) (f := true) rfl rfl r141).trans rfl) (by go_simp) ⟨Pred.ext_refl _ _, rfl⟩
          · intro b X hE hd hn hV
            have r141 : b.tmps[141]?.getD undef = .bool true := hV 20 _ 141 rfl rfl (Pred.waits_near (by kernel_rfl) (by kernel_rfl))
            have r147 : b.tmps[147]?.getD undef = .bool true := hV 26 _ 147 rfl rfl (Pred.waits_near (by kernel_rfl) (by kernel_rfl))
            exact Pred.yields_run (v := .bool true) (Pred.wanted_none rfl) (by go_simp) ⟨Pred.ext_refl _ _, rfl⟩
          · intro b X hE hd hn hV
            have r148 : b.tmps[148]?.getD undef = .bool true := hV 27 _ 148 rfl rfl (Pred.waits_near (by kernel_rfl) (by kernel_rfl))
            exact Pred.yields_run (v := .bool true) (Pred.wanted_none rfl) (by go_simp) ⟨Pred.ext_refl _ _, rfl⟩
          · intro b X hE hd hn hV
            have r13 : b.tmps[13]?.getD undef = .pointer (some ⟨b1, 0, none⟩) := (hn 13 (by kernel_rfl)).trans rfl
            have r149 : b.tmps[149]?.getD undef = .bool true := hV 28 _ 149 rfl rfl (Pred.waits_near (by kernel_rfl) (by kernel_rfl))
            exact Pred.yields_run (v := .pointer (some ⟨b1, 0, none⟩)) ((Pred.wanted_at (g := 28) (d := 149) (f := true) rfl rfl r149).trans rfl) (by go_simp) ⟨Pred.ext_refl _ _, rfl⟩
          · intro b X hE hd hn hV
            have r15 : b.tmps[15]?.getD undef = .pointer (some ⟨t1, 0, none⟩) := (hn 15 (by kernel_rfl)).trans rfl
            have r149 : b.tmps[149]?.getD undef = .bool true := hV 28 _ 149 rfl rfl (Pred.waits_near (by kernel_rfl) (by kernel_rfl))
            exact Pred.yields_run (v := .pointer (some ⟨t1, 0, none⟩)) ((Pred.wanted_at (g := 28) (d := 149) (f := true) rfl rfl r149).trans rfl) (by go_simp) ⟨Pred.ext_refl _ _, rfl⟩
          · intro b X hE hd hn hV
            have r150 : b.tmps[150]?.getD undef = .pointer (some ⟨b1, 0, none⟩) := hV 29 _ 150 rfl rfl (Pred.waits_near (by kernel_rfl) (by kernel_rfl))
            have r151 : b.tmps[151]?.getD undef = .pointer (some ⟨t1, 0, none⟩) := hV 30 _ 151 rfl rfl (Pred.waits_near (by kernel_rfl) (by kernel_rfl))
            have r149 : b.tmps[149]?.getD undef = .bool true := hV 28 _ 149 rfl rfl (Pred.waits_near (by kernel_rfl) (by kernel_rfl))
            refine Pred.yields_call (f := 12) (args := #[.pointer (some ⟨b1, 0, none⟩), .pointer (some ⟨t1, 0, none⟩)]) ((Pred.wanted_at (g := 28) (d := 149) (f := true) rfl rfl r149).trans rfl) (by go_simp) ?_
            have C := alike_any _ _ a0 (some r) X (HT.out.bel hE)
            exact C.mono fun e w2 ⟨he, hb⟩ => ⟨_, he, Pred.ext_below hb hE.size, rfl⟩
          · intro b X hE hd hn hV
            have r149 : b.tmps[149]?.getD undef = .bool true := hV 28 _ 149 rfl rfl (Pred.waits_near (by kernel_rfl) (by kernel_rfl))
            have r152 : b.tmps[152]?.getD undef = .bool true := hV 31 _ 152 rfl rfl (Pred.waits_near (by kernel_rfl) (by kernel_rfl))
            exact Pred.yields_run (v := .bool true) (Pred.wanted_none rfl) (by go_simp) ⟨Pred.ext_refl _ _, rfl⟩
          · intro b X hE hd hn hV
            have r153 : b.tmps[153]?.getD undef = .bool true := hV 32 _ 153 rfl rfl (Pred.waits_near (by kernel_rfl) (by kernel_rfl))
            exact Pred.yields_run (v := .bool true) (Pred.wanted_none rfl) (by go_simp) ⟨Pred.ext_refl _ _, rfl⟩
          · intro b X hE hd hn hV
            have r13 : b.tmps[13]?.getD undef = .pointer (some ⟨b1, 0, none⟩) := (hn 13 (by kernel_rfl)).trans rfl
            have r154 : b.tmps[154]?.getD undef = .bool true := hV 33 _ 154 rfl rfl (Pred.waits_near (by kernel_rfl) (by kernel_rfl))
            exact Pred.yields_run (v := .pointer (some ⟨b1, 0, none⟩)) ((Pred.wanted_at (g := 33) (d := 154) (f := true) rfl rfl r154).trans rfl) (by go_simp) ⟨Pred.ext_refl _ _, rfl⟩
          · intro b X hE hd hn hV
            have r155 : b.tmps[155]?.getD undef = .pointer (some ⟨b1, 0, none⟩) := hV 34 _ 155 rfl rfl (Pred.waits_near (by kernel_rfl) (by kernel_rfl))
            have r154 : b.tmps[154]?.getD undef = .bool true := hV 33 _ 154 rfl rfl (Pred.waits_near (by kernel_rfl) (by kernel_rfl))
            refine Pred.yields_call (f := 20) (args := #[.pointer (some ⟨b1, 0, none⟩), .int .i64 1]) ((Pred.wanted_at (g := 33) (d := 154) (f := true) rfl rfl r154).trans rfl) (by go_simp) ?_
            have C := all_db (HD.out.below hE) 1
            rw [cut_one] at C
            exact C.mono fun e w2 ⟨⟨u, he, hu⟩, hb⟩ => ⟨_, he, Pred.ext_below hb hE.size, hu⟩
          · intro b X hE hd hn hV
            have r15 : b.tmps[15]?.getD undef = .pointer (some ⟨t1, 0, none⟩) := (hn 15 (by kernel_rfl)).trans rfl
            have r154 : b.tmps[154]?.getD undef = .bool true := hV 33 _ 154 rfl rfl (Pred.waits_near (by kernel_rfl) (by kernel_rfl))
            exact Pred.yields_run (v := .pointer (some ⟨t1, 0, none⟩)) ((Pred.wanted_at (g := 33) (d := 154) (f := true) rfl rfl r154).trans rfl) (by go_simp) ⟨Pred.ext_refl _ _, rfl⟩
          · intro b X hE hd hn hV
            have r157 : b.tmps[157]?.getD undef = .pointer (some ⟨t1, 0, none⟩) := hV 36 _ 157 rfl rfl (Pred.waits_near (by kernel_rfl) (by kernel_rfl))
            have r154 : b.tmps[154]?.getD undef = .bool true := hV 33 _ 154 rfl rfl (Pred.waits_near (by kernel_rfl) (by kernel_rfl))
            exact Pred.yields_run (v := .pointer (some ⟨t1, 0, none⟩)) ((Pred.wanted_at (g := 33) (d := 154) (f := true) rfl rfl r154).trans rfl) (by go_simp) ⟨Pred.ext_refl _ _, rfl⟩
          · intro b X hE hd hn hV
            have r158 : b.tmps[158]?.getD undef = .pointer (some ⟨t1, 0, none⟩) := hV 37 _ 158 rfl rfl (Pred.waits_near (by kernel_rfl) (by kernel_rfl))
            have r154 : b.tmps[154]?.getD undef = .bool true := hV 33 _ 154 rfl rfl (Pred.waits_near (by kernel_rfl) (by kernel_rfl))
            exact Pred.yields_run (v := .pointer (some ⟨t1, 1, none⟩)) ((Pred.wanted_at (g := 33) (d := 154) (f := true) rfl rfl r154).trans rfl) (by go_simp) ⟨Pred.ext_refl _ _, rfl⟩
          · intro b X hE hd hn hV
            have r159 : b.tmps[159]?.getD undef = .pointer (some ⟨t1, 1, none⟩) := hV 38 _ 159 rfl rfl (Pred.waits_near (by kernel_rfl) (by kernel_rfl))
            have r154 : b.tmps[154]?.getD undef = .bool true := hV 33 _ 154 rfl rfl (Pred.waits_near (by kernel_rfl) (by kernel_rfl))
            have z : X.cell? ⟨t1, 1, none⟩ = some (.slice aR r.length cR) := by rw [blk_cell ((blk_below hE _ (blk_lt BT.out)).trans BT.out)]; rfl
            exact Pred.yields_run (v := .slice aR r.length cR) ((Pred.wanted_at (g := 33) (d := 154) (f := true) rfl rfl r154).trans rfl) (by go_simp) ⟨Pred.ext_refl _ _, rfl⟩
          · intro b X hE hd hn hV
            have r15 : b.tmps[15]?.getD undef = .pointer (some ⟨t1, 0, none⟩) := (hn 15 (by kernel_rfl)).trans rfl
            have r154 : b.tmps[154]?.getD undef = .bool true := hV 33 _ 154 rfl rfl (Pred.waits_near (by kernel_rfl) (by kernel_rfl))
            exact Pred.yields_run (v := .pointer (some ⟨t1, 0, none⟩)) ((Pred.wanted_at (g := 33) (d := 154) (f := true) rfl rfl r154).trans rfl) (by go_simp) ⟨Pred.ext_refl _ _, rfl⟩
          · intro b X hE hd hn hV
            have r161 : b.tmps[161]?.getD undef = .pointer (some ⟨t1, 0, none⟩) := hV 40 _ 161 rfl rfl (Pred.waits_near (by kernel_rfl) (by kernel_rfl))
            have r154 : b.tmps[154]?.getD undef = .bool true := hV 33 _ 154 rfl rfl (Pred.waits_near (by kernel_rfl) (by kernel_rfl))
            exact Pred.yields_run (v := .pointer (some ⟨t1, 0, none⟩)) ((Pred.wanted_at (g := 33) (d := 154) (f := true) rfl rfl r154).trans rfl) (by go_simp) ⟨Pred.ext_refl _ _, rfl⟩
          · intro b X hE hd hn hV
            have r162 : b.tmps[162]?.getD undef = .pointer (some ⟨t1, 0, none⟩) := hV 41 _ 162 rfl rfl (Pred.waits_near (by kernel_rfl) (by kernel_rfl))
            have r154 : b.tmps[154]?.getD undef = .bool true := hV 33 _ 154 rfl rfl (Pred.waits_near (by kernel_rfl) (by kernel_rfl))
            exact Pred.yields_run (v := .pointer (some ⟨t1, 1, none⟩)) ((Pred.wanted_at (g := 33) (d := 154) (f := true) rfl rfl r154).trans rfl) (by go_simp) ⟨Pred.ext_refl _ _, rfl⟩
          · intro b X hE hd hn hV
            have r163 : b.tmps[163]?.getD undef = .pointer (some ⟨t1, 1, none⟩) := hV 42 _ 163 rfl rfl (Pred.waits_near (by kernel_rfl) (by kernel_rfl))
            have r154 : b.tmps[154]?.getD undef = .bool true := hV 33 _ 154 rfl rfl (Pred.waits_near (by kernel_rfl) (by kernel_rfl))
            have z : X.cell? ⟨t1, 1, none⟩ = some (.slice aR r.length cR) := by rw [blk_cell ((blk_below hE _ (blk_lt BT.out)).trans BT.out)]; rfl
            exact Pred.yields_run (v := .slice aR r.length cR) ((Pred.wanted_at (g := 33) (d := 154) (f := true) rfl rfl r154).trans rfl) (by go_simp) ⟨Pred.ext_refl _ _, rfl⟩
          · intro b X hE hd hn hV
            have r164 : b.tmps[164]?.getD undef = .slice aR r.length cR := hV 43 _ 164 rfl rfl (Pred.waits_near (by kernel_rfl) (by kernel_rfl))
            have r154 : b.tmps[154]?.getD undef = .bool true := hV 33 _ 154 rfl rfl (Pred.waits_near (by kernel_rfl) (by kernel_rfl))
            exact Pred.yields_run (v := .int .i64 (r.length : Int)) ((Pred.wanted_at (g := 33) (d := 154) (f := true) rfl rfl r154).trans rfl) (by go_simp) ⟨Pred.ext_refl _ _, rfl⟩
          · intro b X hE hd hn hV
            have r165 : b.tmps[165]?.getD undef = .int .i64 (r.length : Int) := hV 44 _ 165 rfl rfl (Pred.waits_near (by kernel_rfl) (by kernel_rfl))
            have r154 : b.tmps[154]?.getD undef = .bool true := hV 33 _ 154 rfl rfl (Pred.waits_near (by kernel_rfl) (by kernel_rfl))
            have h9 : (min 1 (r.length : Int)) = ((min 1 r.length : Nat) : Int) := by omega
            exact Pred.yields_run (v := .int .i64 ((min 1 r.length : Nat) : Int)) ((Pred.wanted_at (g := 33) (d := 154) (f := true) rfl rfl r154).trans rfl) (by go_simp) ⟨Pred.ext_refl _ _, rfl⟩
          · intro b X hE hd hn hV
            have r160 : b.tmps[160]?.getD undef = .slice aR r.length cR := hV 39 _ 160 rfl rfl (Pred.waits_near (by kernel_rfl) (by kernel_rfl))
            have r166 : b.tmps[166]?.getD undef = .int .i64 ((min 1 r.length : Nat) : Int) := hV 45 _ 166 rfl rfl (Pred.waits_near (by kernel_rfl) (by kernel_rfl))
            have r154 : b.tmps[154]?.getD undef = .bool true := hV 33 _ 154 rfl rfl (Pred.waits_near (by kernel_rfl) (by kernel_rfl))
            exact Pred.yields_run (v := .slice aR (min 1 r.length) cR) ((Pred.wanted_at (g := 33) (d := 154) (f := true) rfl rfl r154).trans rfl) (DiRb.run_front (by rfl) r160 r166 (Nat.le_trans (Nat.min_le_right _ _) HCR.out)) ⟨Pred.ext_refl _ _, rfl⟩
          · intro b X hE hd hn hV
            obtain ⟨ga156, ca156, r156, hr156, hc156⟩ : SE (r.take (min 1 r.length)) (b.tmps[156]?.getD undef) X := hV 35 _ 156 rfl rfl (Pred.waits_near (by kernel_rfl) (by kernel_rfl))
            have r167 : b.tmps[167]?.getD undef = .slice aR (min 1 r.length) cR := hV 46 _ 167 rfl rfl (Pred.waits_near (by kernel_rfl) (by kernel_rfl))
            have r154 : b.tmps[154]?.getD undef = .bool true := hV 33 _ 154 rfl rfl (Pred.waits_near (by kernel_rfl) (by kernel_rfl))
            refine Pred.yields_call (f := 19) (args := #[.slice ga156 (r.take (min 1 r.length)).length ca156, .slice aR (min 1 r.length) cR]) ((Pred.wanted_at (g := 33) (d := 154) (f := true) rfl rfl r154).trans rfl) (by go_simp) ?_
            have C := same_n (r.take (min 1 r.length)) (r.take (min 1 r.length)) _ (min 1 r.length) ga156 aR ca156 cR X hr156 ((HRR.out.bel hE).take _) rfl (by rw [List.length_take]; omega) (by rw [List.length_take]; omega) (by omega) (q := true) (by simp)
            exact C.mono fun e w2 ⟨he, hb⟩ => ⟨_, he, Pred.ext_below hb hE.size, rfl⟩
          · intro b X hE hd hn hV
            have r154 : b.tmps[154]?.getD undef = .bool true := hV 33 _ 154 rfl rfl (Pred.waits_near (by kernel_rfl) (by kernel_rfl))
            have r168 : b.tmps[168]?.getD undef = .bool true := hV 47 _ 168 rfl rfl (Pred.waits_near (by kernel_rfl) (by kernel_rfl))
            exact Pred.yields_run (v := .bool true) (Pred.wanted_none rfl) (by go_simp) ⟨Pred.ext_refl _ _, rfl⟩
          · intro b X hE hd hn hV
            have r169 : b.tmps[169]?.getD undef = .bool true := hV 48 _ 169 rfl rfl (Pred.waits_near (by kernel_rfl) (by kernel_rfl))
            exact Pred.yields_run (v := .bool true) (Pred.wanted_none rfl) (by go_simp) ⟨Pred.ext_refl _ _, rfl⟩
          · intro b X hE hd hn hV
            have r170 : b.tmps[170]?.getD undef = .bool true := hV 49 _ 170 rfl rfl (Pred.waits_near (by kernel_rfl) (by kernel_rfl))
            refine Pred.yields_call (f := 7) (args := #[]) ((Pred.wanted_at (g := 49) (d := 170) (f := true) rfl rfl r170).trans rfl) (by go_simp) ?_
            have C := awake_any X
            exact C.mono fun e w2 ⟨he, hb⟩ => ⟨_, he, Pred.ext_below hb hE.size, rfl⟩
          · intro b X hE hd hn hV
            have r170 : b.tmps[170]?.getD undef = .bool true := hV 49 _ 170 rfl rfl (Pred.waits_near (by kernel_rfl) (by kernel_rfl))
            have r171 : b.tmps[171]?.getD undef = .bool true := hV 50 _ 171 rfl rfl (Pred.waits_near (by kernel_rfl) (by kernel_rfl))
            exact Pred.yields_run (v := .bool true) (Pred.wanted_none rfl) (by go_simp) ⟨Pred.ext_refl _ _, rfl⟩
          · intro b X hE hd hn hV
            have r172 : b.tmps[172]?.getD undef = .bool true := hV 51 _ 172 rfl rfl (Pred.waits_near (by kernel_rfl) (by kernel_rfl))
            exact Pred.yields_run (v := .bool true) (Pred.wanted_none rfl) (by go_simp) ⟨Pred.ext_refl _ _, rfl⟩
        intro v X hE hv
        have e0 : v 0 = .agg pe.c := hv 0 _ 121 rfl rfl
        have e1 : v 1 = .agg pe.c := hv 1 _ 122 rfl rfl
        have e2 : v 2 = .bool true := hv 2 _ 123 rfl rfl
        have e3 : v 3 = .bool true := hv 3 _ 124 rfl rfl
        have e4 : v 4 = .bool qb := hv 4 _ 125 rfl rfl
        have e5 : v 5 = .bool qb := hv 5 _ 126 rfl rfl
        have e6 : v 6 = .bool true := hv 6 _ 127 rfl rfl
        have e7 : v 7 = .bool true := hv 7 _ 128 rfl rfl
        have e8 : v 8 = .bool true := hv 8 _ 129 rfl rfl
        have e9 : v 9 = .pointer (some ⟨b5, 0, none⟩) := hv 9 _ 130 rfl rfl
        have e10 : v 10 = .pointer (some ⟨t5, 0, none⟩) := hv 10 _ 131 rfl rfl
        have e11 : v 11 = .bool true := hv 11 _ 132 rfl rfl
        have e12 : v 12 = .bool true := hv 12 _ 133 rfl rfl
        have e13 : v 13 = .bool true := hv 13 _ 134 rfl rfl
        have e14 : v 14 = .int .i64 0 := hv 14 _ 135 rfl rfl
        have e15 : v 15 = .bool true := hv 15 _ 136 rfl rfl
        have e16 : v 16 = .pointer (some ⟨t5, 0, none⟩) := hv 16 _ 137 rfl rfl
        have e17 : v 17 = .bool true := hv 17 _ 138 rfl rfl
        have e18 : v 18 = .bool true := hv 18 _ 139 rfl rfl
        have e19 : v 19 = .bool true := hv 19 _ 140 rfl rfl
        have e20 : v 20 = .bool true := hv 20 _ 141 rfl rfl
        have e21 : v 21 = .pointer (some ⟨t5, 0, none⟩) := hv 21 _ 142 rfl rfl
        have e22 : v 22 = .bool true := hv 22 _ 143 rfl rfl
        have e23 : v 23 = .bool true := hv 23 _ 144 rfl rfl
        have e24 : v 24 = undef := hv 24 _ 145 rfl rfl
        have e25 : v 25 = undef := hv 25 _ 146 rfl rfl
        have e26 : v 26 = .bool true := hv 26 _ 147 rfl rfl
        have e27 : v 27 = .bool true := hv 27 _ 148 rfl rfl
        have e28 : v 28 = .bool true := hv 28 _ 149 rfl rfl
        have e29 : v 29 = .pointer (some ⟨b1, 0, none⟩) := hv 29 _ 150 rfl rfl
        have e30 : v 30 = .pointer (some ⟨t1, 0, none⟩) := hv 30 _ 151 rfl rfl
        have e31 : v 31 = .bool true := hv 31 _ 152 rfl rfl
        have e32 : v 32 = .bool true := hv 32 _ 153 rfl rfl
        have e33 : v 33 = .bool true := hv 33 _ 154 rfl rfl
        have e34 : v 34 = .pointer (some ⟨b1, 0, none⟩) := hv 34 _ 155 rfl rfl
        obtain ⟨ga35, ca35, e35, hr35, hc35⟩ : SE (r.take (min 1 r.length)) (v 35) X := hv 35 _ 156 rfl rfl
        have e36 : v 36 = .pointer (some ⟨t1, 0, none⟩) := hv 36 _ 157 rfl rfl
        have e37 : v 37 = .pointer (some ⟨t1, 0, none⟩) := hv 37 _ 158 rfl rfl
        have e38 : v 38 = .pointer (some ⟨t1, 1, none⟩) := hv 38 _ 159 rfl rfl
        have e39 : v 39 = .slice aR r.length cR := hv 39 _ 160 rfl rfl
        have e40 : v 40 = .pointer (some ⟨t1, 0, none⟩) := hv 40 _ 161 rfl rfl
        have e41 : v 41 = .pointer (some ⟨t1, 0, none⟩) := hv 41 _ 162 rfl rfl
        have e42 : v 42 = .pointer (some ⟨t1, 1, none⟩) := hv 42 _ 163 rfl rfl
        have e43 : v 43 = .slice aR r.length cR := hv 43 _ 164 rfl rfl
        have e44 : v 44 = .int .i64 (r.length : Int) := hv 44 _ 165 rfl rfl
        have e45 : v 45 = .int .i64 ((min 1 r.length : Nat) : Int) := hv 45 _ 166 rfl rfl
        have e46 : v 46 = .slice aR (min 1 r.length) cR := hv 46 _ 167 rfl rfl
        have e47 : v 47 = .bool true := hv 47 _ 168 rfl rfl
        have e48 : v 48 = .bool true := hv 48 _ 169 rfl rfl
        have e49 : v 49 = .bool true := hv 49 _ 170 rfl rfl
        have e50 : v 50 = .bool true := hv 50 _ 171 rfl rfl
        have e51 : v 51 = .bool true := hv 51 _ 172 rfl rfl
        have e52 : v 52 = .bool true := hv 52 _ 12 rfl rfl
        simp only [Pred.putsF_cons, Pred.putsF_nil, Nat.zero_add, Nat.reduceAdd, e0, e1, e2, e3, e4, e5, e6, e7, e8, e9, e10, e11, e12, e13, e14, e15, e16, e17, e18, e19, e20, e21, e22, e23, e24, e25, e26, e27, e28, e29, e30, e31, e32, e33, e34, e35, e36, e37, e38, e39, e40, e41, e42, e43, e44, e45, e46, e47, e48, e49, e50, e51, e52, Act.put, List.setIfInBounds_toArray, List.set_cons_zero, List.set_cons_succ]
        clear e0 e1 e2 e3 e4 e5 e6 e7 e8 e9 e10 e11 e12 e13 e14 e15 e16 e17 e18 e19 e20 e21 e22 e23 e24 e25 e26 e27 e28 e29 e30 e31 e32 e33 e34 e35 e36 e37 e38 e39 e40 e41 e42 e43 e44 e45 e46 e47 e48 e49 e50 e51 e52 hv
        have LX := L12.trans (hE.mono L12.size)
        clear hE
        go_wp2
        go_ret
        exact ⟨rfl, LX⟩
  | some r3 =>
    obtain rfl : ce3 = 0 := by rw [← ece3]; rfl
    have h9 := HU4.out
    obtain ⟨b3, t3, rfl, rfl, -, -, -⟩ := h9
    clear ece3
    cases o with
    | none =>
      obtain rfl : ce1 = 1 := by rw [← ece1]; rfl
      have h9 := HT4.out
      obtain ⟨rfl, rfl⟩ := h9
      clear ece1
      go_wp2_with fail
      refine (alike_any _ _ a0 (none) _ HT4.out).mono ?_
      rintro e Y1 ⟨rfl, hb⟩
      have HT5 := Lib.hid (HT4.out.bel hb)
      have HU5 := Lib.hid (HU4.out.bel hb)
      have L6 := Rd.below_step L5 hb
      have BP6 := Lib.hid ((blk_below hb _ (blk_lt BP5.out)).trans BP5.out)
      clear hb HT4 HU4 L5 BP5
      go_wp2_with fail
      refine (alike_any _ _ a0 (some r3) _ HU5.out).mono ?_
      rintro e Y2 ⟨rfl, hb⟩
      have HT6 := Lib.hid (HT5.out.bel hb)
      have L7 := Rd.below_step L6 hb
      have BP7 := Lib.hid ((blk_below hb _ (blk_lt BP6.out)).trans BP6.out)
      clear hb HT5 HU5 L6 BP6
      go_wp2_with fail
      refine (CS.out _).mono ?_
      rintro e Y3 ⟨rfl, hb⟩
      have HT7 := Lib.hid (HT6.out.bel hb)
      have L8 := Rd.below_step L7 hb
      have BP8 := Lib.hid ((blk_below hb _ (blk_lt BP7.out)).trans BP7.out)
      clear hb HT6 L7 BP7
      go_wp2_with fail
      refine (CS2.out _).mono ?_
      rintro e Y4 ⟨rfl, hb⟩
      have HT8 := Lib.hid (HT7.out.bel hb)
      have L9 := Rd.below_step L8 hb
      have BP9 := Lib.hid ((blk_below hb _ (blk_lt BP8.out)).trans BP8.out)
      clear hb HT7 L8 BP8
      go_wp2_with fail
      refine (awake_any _).mono ?_
      rintro e w9 ⟨rfl, hb⟩
      go_wp2
      go_ret
      exact ⟨rfl, Rd.below_step L9 hb⟩
    | some r =>
      obtain rfl : ce1 = 0 := by rw [← ece1]; rfl
      have h9 := HT4.out
      obtain ⟨b1, t1, rfl, rfl, -, -, -⟩ := h9
      have hr40 := HNL.out r rfl
      clear ece1
      go_wp2_with fail
      refine (alike_any _ _ a0 (some r) _ HT4.out).mono ?_
      rintro e Y1 ⟨rfl, hb⟩
      have HT5 := Lib.hid (HT4.out.bel hb)
      have HU5 := Lib.hid (HU4.out.bel hb)
      have L6 := Rd.below_step L5 hb
      have BP6 := Lib.hid ((blk_below hb _ (blk_lt BP5.out)).trans BP5.out)
      clear hb HT4 HU4 L5 BP5
      go_wp2_with fail
      refine (alike_any _ _ a0 (some r3) _ HU5.out).mono ?_
      rintro e Y2 ⟨rfl, hb⟩
      have HT6 := Lib.hid (HT5.out.bel hb)
      have L7 := Rd.below_step L6 hb
      have BP7 := Lib.hid ((blk_below hb _ (blk_lt BP6.out)).trans BP6.out)
      clear hb HT5 HU5 L6 BP6
      go_wp2_with fail
      refine (CS.out _).mono ?_
      rintro e Y3 ⟨rfl, hb⟩
      have HT7 := Lib.hid (HT6.out.bel hb)
      have L8 := Rd.below_step L7 hb
      have BP8 := Lib.hid ((blk_below hb _ (blk_lt BP7.out)).trans BP7.out)
      clear hb HT6 L7 BP7
      go_wp2_with fail
      refine (CS2.out _).mono ?_
      rintro e Y4 ⟨rfl, hb⟩
      have HT8 := Lib.hid (HT7.out.bel hb)
      have L9 := Rd.below_step L8 hb
      have BP9 := Lib.hid ((blk_below hb _ (blk_lt BP8.out)).trans BP8.out)
      clear hb HT7 L8 BP8
      have hP := DiRc.ld_pg0 BP9.out
      have h9 := HT8.out
      obtain ⟨b1', t1', e1, e2, hD, hF, hsm⟩ := h9
      cases e1
      cases e2
      have HD9 := Lib.hid hD
      have HF9 := Lib.hid hF
      clear hD hF
      go_wp2_with fail
      refine (get_db HD9.out p0 p1 p2).mono ?_
      rintro e Z1 ⟨rfl, hb⟩
      have HF10 := Lib.hid (HF9.out.bel hb)
      have HT10 := Lib.hid (HT8.out.bel hb)
      have L10 := Rd.below_step L9 hb
      have BP10 := Lib.hid ((blk_below hb _ (blk_lt BP9.out)).trans BP9.out)
      obtain ⟨pe, epe⟩ : ∃ p : En, (getO r [p0, p1, p2]).getD En.z = p := ⟨_, rfl⟩
      obtain ⟨qb, eqb⟩ : ∃ b, (getO r [p0, p1, p2]).isSome = b := ⟨_, rfl⟩
      have EPE := Lib.hid (And.intro epe eqb)
      rw [epe, eqb]
      clear hb HF9 HT8 L9 BP9 hP epe eqb HD9
      go_upto_region 12 with (fail)
      refine Rd.name_world ?_
      intro Z2 hw
      have hb : Below Z1.heap.size Z1 Z2 := by
        rw [hw]
        exact (Below.refl _ _).alloc (Nat.le_refl _) _
      have BX2 : Hid (blk Z2 Z1.heap.size = some (.cells pe.c 39 (0, 0))) := Lib.hid (by rw [hw]; exact blk_alloc_at _ _ _ rfl)
      obtain ⟨gx, egx⟩ : ∃ g, Z1.heap.size = g := ⟨_, rfl⟩
      have HF11 := Lib.hid (HF10.out.bel hb)
      have HT11 := Lib.hid (HT10.out.bel hb)
      have L11 := Rd.below_step L10 hb
      have BP11 := Lib.hid ((blk_below hb _ (blk_lt BP10.out)).trans BP10.out)
      rw [egx] at BX2 ⊢
      clear hw hb HF10 HT10 L10 BP10 egx
      have hP := DiRc.ld_pg0 BP11.out
      go_wp2_with fail
      have CG := DiRc.rget_any t1 a0 r p0 p1 p2 _ HF11.out (by omega)
      rw [EPE.out.1, EPE.out.2] at CG
      refine CG.mono ?_
      clear CG
      rintro e Z3 ⟨rfl, hb⟩
      have BX3 := Lib.hid ((blk_below hb _ (blk_lt BX2.out)).trans BX2.out)
      have HT12 := Lib.hid (HT11.out.bel hb)
      have L12 := Rd.below_step L11 hb
      clear hb HF11 HT11 L11 BP11 BX2 hP
      go_upto_region 13 with (fail)
      refine Rd.name_world ?_
      intro Z4 hw
      have hb : Below Z3.heap.size Z3 Z4 := by
        rw [hw]
        exact (Below.refl _ _).alloc (Nat.le_refl _) _
      have BY4 : Hid (blk Z4 Z3.heap.size = some (.cells pe.c 39 (0, 0))) := Lib.hid (by rw [hw]; exact blk_alloc_at _ _ _ rfl)
      obtain ⟨gy, egy⟩ : ∃ g, Z3.heap.size = g := ⟨_, rfl⟩
      have BX4 := Lib.hid ((blk_below hb _ (blk_lt BX3.out)).trans BX3.out)
      have HT13 := Lib.hid (HT12.out.bel hb)
      have L13 := Rd.below_step L12 hb
      rw [egy] at BY4 ⊢
      clear hw hb HT12 L12 BX3 egy
      have h9 := HT13.out
      obtain ⟨b1', t1', e1, e2, hD, hF, -⟩ := h9
      cases e1
      cases e2
      have CW := Lib.hid (with_db hD am cap2 m (HRM.out.bel L13) HBM.out (by have := HM.out; omega))
      rw [HM.out] at CW
      obtain ⟨o5, eo5⟩ : ∃ o, newV a0 (m ++ keepP m r) = o := ⟨_, rfl⟩
      have HO5 := Lib.hid eo5
      have HO6 := Lib.hid ((keep_perm a0 m r).trans eo5)
      rw [eo5] at CW
      have HS5 : Hid (∀ s, o5 = some s → s.length ≤ 1000) := Lib.hid (fun s h => by
        rw [h] at eo5
        have h1 := new_len eo5
        have h2 := DiO.keepP_len m r
        rw [List.length_append] at h1
        have := HM.out
        omega)
      clear hD hF eo5
      go_wp2_with fail
      refine CW.out.mono ?_
      rintro e Z5 ⟨⟨vu, rfl, hvu⟩, hb⟩
      have HVU := Lib.hid hvu
      have BX5 := Lib.hid ((blk_below hb _ (blk_lt BX4.out)).trans BX4.out)
      have BY5 := Lib.hid ((blk_below hb _ (blk_lt BY4.out)).trans BY4.out)
      have HT14 := Lib.hid (HT13.out.bel hb)
      have L14 := Rd.below_step L13 hb
      clear hvu hb HT13 L13 BX4 BY4 CW
      obtain ⟨cu, ecu⟩ : ∃ c : Int, (if o5.isSome = true then (0 : Int) else 1) = c := ⟨_, rfl⟩
      rw [ecu]
      have h9 := HT14.out
      obtain ⟨b1', t1', e1, e2, hD, hF, -⟩ := h9
      cases e1
      cases e2
      have CW := Lib.hid (DiRd.rwith_any t1 a0 r am cap2 m Z5 hF (HRM.out.bel L14) (by omega) (by have := HM.out; omega))
      rw [HM.out, HO6.out] at CW
      clear hD hF
      go_wp2_with fail
      refine CW.out.mono ?_
      rintro e Z6 ⟨⟨vv, rfl, hvv⟩, hb⟩
      have HV := Lib.hid (two_of HVU.out hvv hb HS5.out)
      have BX := Lib.hid ((blk_below hb _ (blk_lt BX5.out)).trans BX5.out)
      have BY := Lib.hid ((blk_below hb _ (blk_lt BY5.out)).trans BY5.out)
      have HT := Lib.hid (HT14.out.bel hb)
      have L12 := Rd.below_step L14 hb
      clear hvv hb HT14 L14 BX5 BY5 CW HVU HO5 HO6 HS5 EPE
      have h9 := HT.out
      obtain ⟨b1', t1', e1, e2, hD, hF, -⟩ := h9
      cases e1
      cases e2
      have HD := Lib.hid hD
      obtain ⟨aR, cR, bT, hRR, hcR⟩ := hF
      have HRR := Lib.hid hRR
      have BT := Lib.hid bT
      have HCR := Lib.hid hcR
      clear hD bT hRR hcR
      cases o5 with
      | none =>
        obtain rfl : cu = 1 := by rw [← ecu]; rfl
        have h9 := HV.out
        obtain ⟨rfl, rfl⟩ := h9
        go_upto_region 15 with (fail)
        refine Pred.region_vals (Pred.Of [
            Is (.agg pe.c),
            Is (.agg pe.c),
            Is (.bool true),
            Is (.bool true),
            Is (.bool qb),
            Is (.bool qb),
            Is (.bool true),
            Is (.bool true),
            Is (.bool true),
            Is (.pointer none),
            Is (.pointer none),
            Is (.bool true),
            Is (.bool true),
            Is (.bool true),
            Is (.int .i64 1),
            Is (.bool false),
            Is (.pointer none),
            Is (.bool false),
            Is (.bool true),
            Is (.bool true),
            Is (.bool true),
            Is (.pointer none),
            Is (.bool false),
            Is (.bool false),
            Is (.int .i64 1),
            Is (.bool true),
            Is (.bool true),
            Is (.bool true),
            Is (.bool true),
            Is (.pointer (some ⟨b1, 0, none⟩)),
            Is (.pointer (some ⟨t1, 0, none⟩)),
            Is (.bool true),
            Is (.bool true),
            Is (.bool true),
            Is (.pointer (some ⟨b1, 0, none⟩)),
            SE (r.take (min 1 r.length)),
            Is (.pointer (some ⟨t1, 0, none⟩)),
            Is (.pointer (some ⟨t1, 0, none⟩)),
            Is (.pointer (some ⟨t1, 1, none⟩)),
            Is (.slice aR r.length cR),
            Is (.pointer (some ⟨t1, 0, none⟩)),
            Is (.pointer (some ⟨t1, 0, none⟩)),
            Is (.pointer (some ⟨t1, 1, none⟩)),
            Is (.slice aR r.length cR),
            Is (.int .i64 (r.length : Int)),
            Is (.int .i64 ((min 1 r.length : Nat) : Int)),
            Is (.slice aR (min 1 r.length) cR),
            Is (.bool true),
            Is (.bool true),
            Is (.bool true),
            Is (.bool true),
            Is (.bool true),
            Is (.bool true)]) (by kernel_rfl) (by kernel_rfl) (by kernel_rfl) (Pred.of_stab ?_) ?_ ?_
        · exact ⟨is_stab _, is_stab _, is_stab _, is_stab _, is_stab _, is_stab _, is_stab _, is_stab _, is_stab _, is_stab _, is_stab _, is_stab _, is_stab _, is_stab _, is_stab _, is_stab _, is_stab _, is_stab _, is_stab _, is_stab _, is_stab _, is_stab _, is_stab _, is_stab _, is_stab _, is_stab _, is_stab _, is_stab _, is_stab _, is_stab _, is_stab _, is_stab _, is_stab _, is_stab _, is_stab _, se_stab _, is_stab _, is_stab _, is_stab _, is_stab _, is_stab _, is_stab _, is_stab _, is_stab _, is_stab _, is_stab _, is_stab _, is_stab _, is_stab _, is_stab _, is_stab _, is_stab _, is_stab _, trivial⟩
        · refine ⟨?_, ?_, ?_, ?_, ?_, ?_, ?_, ?_, ?_, ?_, ?_, ?_, ?_, ?_, ?_, ?_, ?_, ?_, ?_, ?_, ?_, ?_, ?_, ?_, ?_, ?_, ?_, ?_, ?_, ?_, ?_, ?_, ?_, ?_, ?_, ?_, ?_, ?_, ?_, ?_, ?_, ?_, ?_, ?_, ?_, ?_, ?_, ?_, ?_, ?_, ?_, ?_, ?_, trivial⟩
          · intro b X hE hd hn hV
            have r19 : b.tmps[19]?.getD undef = .pointer (some ⟨gx, 0, none⟩) := (hn 19 (by kernel_rfl)).trans rfl
            have q := ld_box ((blk_below hE _ (blk_lt BX.out)).trans BX.out)
            exact Pred.yields_run (v := .agg pe.c) (Pred.wanted_none rfl) (by go_simp) ⟨Pred.ext_refl _ _, rfl⟩
          · intro b X hE hd hn hV
            have r21 : b.tmps[21]?.getD undef = .pointer (some ⟨gy, 0, none⟩) := (hn 21 (by kernel_rfl)).trans rfl
            have q := ld_box ((blk_below hE _ (blk_lt BY.out)).trans BY.out)
            exact Pred.yields_run (v := .agg pe.c) (Pred.wanted_none rfl) (by go_simp) ⟨Pred.ext_refl _ _, rfl⟩
          · intro b X hE hd hn hV
            have r121 : b.tmps[121]?.getD undef = .agg pe.c := hV 0 _ 121 rfl rfl (Pred.waits_near (by kernel_rfl) (by kernel_rfl))
            have r122 : b.tmps[122]?.getD undef = .agg pe.c := hV 1 _ 122 rfl rfl (Pred.waits_near (by kernel_rfl) (by kernel_rfl))
            have h := eqE_self pe
            exact Pred.yields_run (v := .bool true) (Pred.wanted_none rfl) (by go_simp) ⟨Pred.ext_refl _ _, rfl⟩
          · intro b X hE hd hn hV
            have r123 : b.tmps[123]?.getD undef = .bool true := hV 2 _ 123 rfl rfl (Pred.waits_near (by kernel_rfl) (by kernel_rfl))
            exact Pred.yields_run (v := .bool true) (Pred.wanted_none rfl) (by go_simp) ⟨Pred.ext_refl _ _, rfl⟩
          · intro b X hE hd hn hV
            have r20 : b.tmps[20]?.getD undef = .bool qb := (hn 20 (by kernel_rfl)).trans rfl
            have r124 : b.tmps[124]?.getD undef = .bool true := hV 3 _ 124 rfl rfl (Pred.waits_near (by kernel_rfl) (by kernel_rfl))
            exact Pred.yields_run (v := .bool qb) ((Pred.wanted_at (g := 3) (d := 124) (f := true) rfl rfl r124).trans rfl) (by go_simp) ⟨Pred.ext_refl _ _, rfl⟩
          · intro b X hE hd hn hV
            have r22 : b.tmps[22]?.getD undef = .bool qb := (hn 22 (by kernel_rfl)).trans rfl
            have r124 : b.tmps[124]?.getD undef = .bool true := hV 3 _ 124 rfl rfl (Pred.waits_near (by kernel_rfl) (by kernel_rfl))
            exact Pred.yields_run (v := .bool qb) ((Pred.wanted_at (g := 3) (d := 124) (f := true) rfl rfl r124).trans rfl) (by go_simp) ⟨Pred.ext_refl _ _, rfl⟩
          · intro b X hE hd hn hV
            have r125 : b.tmps[125]?.getD undef = .bool qb := hV 4 _ 125 rfl rfl (Pred.waits_near (by kernel_rfl) (by kernel_rfl))
            have r126 : b.tmps[126]?.getD undef = .bool qb := hV 5 _ 126 rfl rfl (Pred.waits_near (by kernel_rfl) (by kernel_rfl))
            have r124 : b.tmps[124]?.getD undef = .bool true := hV 3 _ 124 rfl rfl (Pred.waits_near (by kernel_rfl) (by kernel_rfl))
            exact Pred.yields_run (v := .bool true) ((Pred.wanted_at (g := 3) (d := 124) (f := true) rfl rfl r124).trans rfl) (by go_simp) ⟨Pred.ext_refl _ _, rfl⟩
          · intro b X hE hd hn hV
            have r124 : b.tmps[124]?.getD undef = .bool true := hV 3 _ 124 rfl rfl (Pred.waits_near (by kernel_rfl) (by kernel_rfl))
            have r127 : b.tmps[127]?.getD undef = .bool true := hV 6 _ 127 rfl rfl (Pred.waits_near (by kernel_rfl) (by kernel_rfl))
            exact Pred.yields_run (v := .bool true) (Pred.wanted_none rfl) (by go_simp) ⟨Pred.ext_refl _ _, rfl⟩
          · intro b X hE hd hn hV
            have r128 : b.tmps[128]?.getD undef = .bool true := hV 7 _ 128 rfl rfl (Pred.waits_near (by kernel_rfl) (by kernel_rfl))
            exact Pred.yields_run (v := .bool true) (Pred.wanted_none rfl) (by go_simp) ⟨Pred.ext_refl _ _, rfl⟩
          · intro b X hE hd hn hV
            have r23 : b.tmps[23]?.getD undef = .pointer none := (hn 23 (by kernel_rfl)).trans rfl
            have r129 : b.tmps[129]?.getD undef = .bool true := hV 8 _ 129 rfl rfl (Pred.waits_near (by kernel_rfl) (by kernel_rfl))
            exact Pred.yields_run (v := .pointer none) ((Pred.wanted_at (g := 8) (d := 129) (f := true) rfl rfl r129).trans rfl) (by go_simp) ⟨Pred.ext_refl _ _, rfl⟩
          · intro b X hE hd hn hV
            have r25 : b.tmps[25]?.getD undef = .pointer none := (hn 25 (by kernel_rfl)).trans rfl
            have r129 : b.tmps[129]?.getD undef = .bool true := hV 8 _ 129 rfl rfl (Pred.waits_near (by kernel_rfl) (by kernel_rfl))
            exact Pred.yields_run (v := .pointer none) ((Pred.wanted_at (g := 8) (d := 129) (f := true) rfl rfl r129).trans rfl) (by go_simp) ⟨Pred.ext_refl _ _, rfl⟩
          · intro b X hE hd hn hV
            have r130 : b.tmps[130]?.getD undef = .pointer none := hV 9 _ 130 rfl rfl (Pred.waits_near (by kernel_rfl) (by kernel_rfl))
            have r131 : b.tmps[131]?.getD undef = .pointer none := hV 10 _ 131 rfl rfl (Pred.waits_near (by kernel_rfl) (by kernel_rfl))
            have r129 : b.tmps[129]?.getD undef = .bool true := hV 8 _ 129 rfl rfl (Pred.waits_near (by kernel_rfl) (by kernel_rfl))
            refine Pred.yields_call (f := 12) (args := #[.pointer none, .pointer none]) ((Pred.wanted_at (g := 8) (d := 129) (f := true) rfl rfl r129).trans rfl) (by go_simp) ?_
            have C := alike_any _ _ a0 none X (HV.out.bel hE)
            exact C.mono fun e w2 ⟨he, hb⟩ => ⟨_, he, Pred.ext_below hb hE.size, rfl⟩
          · intro b X hE hd hn hV
            have r129 : b.tmps[129]?.getD undef = .bool true := hV 8 _ 129 rfl rfl (Pred.waits_near (by kernel_rfl) (by kernel_rfl))
            have r132 : b.tmps[132]?.getD undef = .bool true := hV 11 _ 132 rfl rfl (Pred.waits_near (by kernel_rfl) (by kernel_rfl))
            exact Pred.yields_run (v := .bool true) (Pred.wanted_none rfl) (by go_simp) ⟨Pred.ext_refl _ _, rfl⟩
          · intro b X hE hd hn hV
            have r133 : b.tmps[133]?.getD undef = .bool true := hV 12 _ 133 rfl rfl (Pred.waits_near (by kernel_rfl) (by kernel_rfl))
            exact Pred.yields_run (v := .bool true) (Pred.wanted_none rfl) (by go_simp) ⟨Pred.ext_refl _ _, rfl⟩
          · intro b X hE hd hn hV
            have r24 : b.tmps[24]?.getD undef = .int .i64 1 := (hn 24 (by kernel_rfl)).trans rfl
            have r134 : b.tmps[134]?.getD undef = .bool true := hV 13 _ 134 rfl rfl (Pred.waits_near (by kernel_rfl) (by kernel_rfl))
            exact Pred.yields_run (v := .int .i64 1) ((Pred.wanted_at (g := 13) (d := 134) (f := true) rfl rfl r134).trans rfl) (by go_simp) ⟨Pred.ext_refl _ _, rfl⟩
          · intro b X hE hd hn hV
            have r135 : b.tmps[135]?.getD undef = .int .i64 1 := hV 14 _ 135 rfl rfl (Pred.waits_near (by kernel_rfl) (by kernel_rfl))
            have r134 : b.tmps[134]?.getD undef = .bool true := hV 13 _ 134 rfl rfl (Pred.waits_near (by kernel_rfl) (by kernel_rfl))
            exact Pred.yields_run (v := .bool false) ((Pred.wanted_at (g := 13) (d := 134) (f := true) rfl rfl r134).trans rfl) (by go_simp) ⟨Pred.ext_refl _ _, rfl⟩
          · intro b X hE hd hn hV
            have r25 : b.tmps[25]?.getD undef = .pointer none := (hn 25 (by kernel_rfl)).trans rfl
            have r134 : b.tmps[134]?.getD undef = .bool true := hV 13 _ 134 rfl rfl (Pred.waits_near (by kernel_rfl) (by kernel_rfl))
            exact Pred.yields_run (v := .pointer none) ((Pred.wanted_at (g := 13) (d := 134) (f := true) rfl rfl r134).trans rfl) (by go_simp) ⟨Pred.ext_refl _ _, rfl⟩
          · intro b X hE hd hn hV
            have r137 : b.tmps[137]?.getD undef = .pointer none := hV 16 _ 137 rfl rfl (Pred.waits_near (by kernel_rfl) (by kernel_rfl))
            have r134 : b.tmps[134]?.getD undef = .bool true := hV 13 _ 134 rfl rfl (Pred.waits_near (by kernel_rfl) (by kernel_rfl))
            exact Pred.yields_run (v := .bool false) ((Pred.wanted_at (g := 13) (d := 134) (f := true) rfl rfl r134).trans rfl) (by go_simp) ⟨Pred.ext_refl _ _, rfl⟩
          · intro b X hE hd hn hV
            have r136 : b.tmps[136]?.getD undef = .bool false := hV 15 _ 136 rfl rfl (Pred.waits_near (by kernel_rfl) (by kernel_rfl))
            have r138 : b.tmps[138]?.getD undef = .bool false := hV 17 _ 138 rfl rfl (Pred.waits_near (by kernel_rfl) (by kernel_rfl))
            have r134 : b.tmps[134]?.getD undef = .bool true := hV 13 _ 134 rfl rfl (Pred.waits_near (by kernel_rfl) (by kernel_rfl))
            exact Pred.yields_run (v := .bool true) ((Pred.wanted_at (g := 13) (d := 134) (f := true) rfl rfl r134).trans rfl) (by go_simp) ⟨Pred.ext_refl _ _, rfl⟩
          · intro b X hE hd hn hV
            have r134 : b.tmps[134]?.getD undef = .bool true := hV 13 _ 134 rfl rfl (Pred.waits_near (by kernel_rfl) (by kernel_rfl))
            have r139 : b.tmps[139]?.getD undef = .bool true := hV 18 _ 139 rfl rfl (Pred.waits_near (by kernel_rfl) (by kernel_rfl))
            exact Pred.yields_run (v := .bool true) (Pred.wanted_none rfl) (by go_simp) ⟨Pred.ext_refl _ _, rfl⟩
          · intro b X hE hd hn hV
            have r140 : b.tmps[140]?.getD undef = .bool true := hV 19 _ 140 rfl rfl (Pred.waits_near (by kernel_rfl) (by kernel_rfl))
            exact Pred.yields_run (v := .bool true) (Pred.wanted_none rfl) (by go_simp) ⟨Pred.ext_refl _ _, rfl⟩
          · intro b X hE hd hn hV
            have r25 : b.tmps[25]?.getD undef = .pointer none := (hn 25 (by kernel_rfl)).trans rfl
            have r141 : b.tmps[141]?.getD undef = .bool true := hV 20 _ 141 rfl rfl (Pred.waits_near (by kernel_rfl) (by kernel_rfl))
            exact Pred.yields_run (v := .pointer none) ((Pred.wanted_at (g := 20) (d := 141) (f := true) rfl rfl r141).trans rfl) (by go_simp) ⟨Pred.ext_refl _ _, rfl⟩
          · intro b X hE hd hn hV
            have r142 : b.tmps[142]?.getD undef = .pointer none := hV 21 _ 142 rfl rfl (Pred.waits_near (by kernel_rfl) (by kernel_rfl))
            have r141 : b.tmps[141]?.getD undef = .bool true := hV 20 _ 141 rfl rfl (Pred.waits_near (by kernel_rfl) (by kernel_rfl))
            exact Pred.yields_run (v := .bool false) ((Pred.wanted_at (g := 20) (d := 141) (f := true) rfl rfl r141).trans rfl) (by go_simp) ⟨Pred.ext_refl _ _, rfl⟩
          · intro b X hE hd hn hV
            have r143 : b.tmps[143]?.getD undef = .bool false := hV 22 _ 143 rfl rfl (Pred.waits_near (by kernel_rfl) (by kernel_rfl))
            have r141 : b.tmps[141]?.getD undef = .bool true := hV 20 _ 141 rfl rfl (Pred.waits_near (by kernel_rfl) (by kernel_rfl))
            exact Pred.yields_run (v := .bool false) ((Pred.wanted_at (g := 20) (d := 141) (f := true) rfl rfl r141).trans rfl) (by go_simp) ⟨Pred.ext_refl _ _, rfl⟩
          · intro b X hE hd hn hV
            have r24 : b.tmps[24]?.getD undef = .int .i64 1 := (hn 24 (by kernel_rfl)).trans rfl
            have r144 : b.tmps[144]?.getD undef = .bool false := hV 23 _ 144 rfl rfl (Pred.waits_near (by kernel_rfl) (by kernel_rfl))
            exact Pred.yields_run (v := .int .i64 1) ((Pred.wanted_at (g := 23) (d := 144) (f := false) rfl rfl r144).trans rfl) (by go_simp) ⟨Pred.ext_refl _ _, rfl⟩
          · intro b X hE hd hn hV
            have r145 : b.tmps[145]?.getD undef = .int .i64 1 := hV 24 _ 145 rfl rfl (Pred.waits_near (by kernel_rfl) (by kernel_rfl))
            have r144 : b.tmps[144]?.getD undef = .bool false := hV 23 _ 144 rfl rfl (Pred.waits_near (by kernel_rfl) (by kernel_rfl))
            exact Pred.yields_run (v := .bool true) ((Pred.wanted_at (g := 23) (d := 144) (f := false) rfl rfl r144).trans rfl) (by go_simp) ⟨Pred.ext_refl _ _, rfl⟩
          · intro b X hE hd hn hV
            have r144 : b.tmps[144]?.getD undef = .bool false := hV 23 _ 144 rfl rfl (Pred.waits_near (by kernel_rfl) (by kernel_rfl))
            have r146 : b.tmps[146]?.getD undef = .bool true := hV 25 _ 146 rfl rfl (Pred.waits_near (by kernel_rfl) (by kernel_rfl))
            have r141 : b.tmps[141]?.getD undef = .bool true := hV 20 _ 141 rfl rfl (Pred.waits_near (by kernel_rfl) (by kernel_rfl))
            exact Pred.yields_run (v := .bool true) ((Pred.wanted_at (g := 20) (d := 141) (f := true) rfl rfl r141).trans rfl) (by go_simp) ⟨Pred.ext_refl _ _, rfl⟩
          · intro b X hE hd hn hV
            have r141 : b.tmps[141]?.getD undef = .bool true := hV 20 _ 141 rfl rfl (Pred.waits_near (by kernel_rfl) (by kernel_rfl))
            have r147 : b.tmps[147]?.getD undef = .bool true := hV 26 _ 147 rfl rfl (Pred.waits_near (by kernel_rfl) (by kernel_rfl))
            exact Pred.yields_run (v := .bool true) (Pred.wanted_none rfl) (by go_simp) ⟨Pred.ext_refl _ _, rfl⟩
          · intro b X hE hd hn hV
            have r148 : b.tmps[148]?.getD undef = .bool true := hV 27 _ 148 rfl rfl (Pred.waits_near (by kernel_rfl) (by kernel_rfl))
            exact Pred.yields_run (v := .bool true) (Pred.wanted_none rfl) (by go_simp) ⟨Pred.ext_refl _ _, rfl⟩
          · intro b X hE hd hn hV
            have r13 : b.tmps[13]?.getD undef = .pointer (some ⟨b1, 0, none⟩) := (hn 13 (by kernel_rfl)).trans rfl
            have r149 : b.tmps[149]?.getD undef = .bool true := hV 28 _ 149 rfl rfl (Pred.waits_near (by kernel_rfl) (by kernel_rfl))
            exact Pred.yields_run (v := .pointer (some ⟨b1, 0, none⟩)) ((Pred.wanted_at (g := 28) (d := 149) (f := true) rfl rfl r149).trans rfl) (by go_simp) ⟨Pred.ext_refl _ _, rfl⟩
          · intro b X hE hd hn hV
            have r15 : b.tmps[15]?.getD undef = .pointer (some ⟨t1, 0, none⟩) := (hn 15 (by kernel_rfl)).trans rfl
            have r149 : b.tmps[149]?.getD undef = .bool true := hV 28 _ 149 rfl rfl (Pred.waits_near (by kernel_rfl) (by kernel_rfl))
            exact Pred.yields_run (v := .pointer (some ⟨t1, 0, none⟩)) ((Pred.wanted_at (g := 28) (d := 149) (f := true) rfl rfl r149).trans rfl) (by go_simp) ⟨Pred.ext_refl _ _, rfl⟩
          · intro b X hE hd hn hV
            have r150 : b.tmps[150]?.getD undef = .pointer (some ⟨b1, 0, none⟩) := hV 29 _ 150 rfl rfl (Pred.waits_near (by kernel_rfl) (by kernel_rfl))
            have r151 : b.tmps[151]?.getD undef = .pointer (some ⟨t1, 0, none⟩) := hV 30 _ 151 rfl rfl (Pred.waits_near (by kernel_rfl) (by kernel_rfl))
            have r149 : b.tmps[149]?.getD undef = .bool true := hV 28 _ 149 rfl rfl (Pred.waits_near (by kernel_rfl) (by kernel_rfl))
            refine Pred.yields_call (f := 12) (args := #[.pointer (some ⟨b1, 0, none⟩), .pointer (some ⟨t1, 0, none⟩)]) ((Pred.wanted_at (g := 28) (d := 149) (f := true) rfl rfl r149).trans rfl) (by go_simp) ?_
            have C := alike_any _ _ a0 (some r) X (HT.out.bel hE)
            exact C.mono fun e w2 ⟨he, hb⟩ => ⟨_, he, Pred.ext_below hb hE.size, rfl⟩
          · intro b X hE hd hn hV
            have r149 : b.tmps[149]?.getD undef = .bool true := hV 28 _ 149 rfl rfl (Pred.waits_near (by kernel_rfl) (by kernel_rfl))
            have r152 : b.tmps[152]?.getD undef = .bool true := hV 31 _ 152 rfl rfl (Pred.waits_near (by kernel_rfl) (by kernel_rfl))
            exact Pred.yields_run (v := .bool true) (Pred.wanted_none rfl) (by go_simp) ⟨Pred.ext_refl _ _, rfl⟩
          · intro b X hE hd hn hV
            have r153 : b.tmps[153]?.getD undef = .bool true := hV 32 _ 153 rfl rfl (Pred.waits_near (by kernel_rfl) (by kernel_rfl))
            exact Pred.yields_run (v := .bool true) (Pred.wanted_none rfl) (by go_simp) ⟨Pred.ext_refl _ _, rfl⟩
          · intro b X hE hd hn hV
            have r13 : b.tmps[13]?.getD undef = .pointer (some ⟨b1, 0, none⟩) := (hn 13 (by kernel_rfl)).trans rfl
            have r154 : b.tmps[154]?.getD undef = .bool true := hV 33 _ 154 rfl rfl (Pred.waits_near (by kernel_rfl) (by kernel_rfl))
            exact Pred.yields_run (v := .pointer (some ⟨b1, 0, none⟩)) ((Pred.wanted_at (g := 33) (d := 154) (f := true) rfl rfl r154).trans rfl) (by go_simp) ⟨Pred.ext_refl _ _, rfl⟩
          · intro b X hE hd hn hV
            have r155 : b.tmps[155]?.getD undef = .pointer (some ⟨b1, 0, none⟩) := hV 34 _ 155 rfl rfl (Pred.waits_near (by kernel_rfl) (by kernel_rfl))
            have r154 : b.tmps[154]?.getD undef = .bool true := hV 33 _ 154 rfl rfl (Pred.waits_near (by kernel_rfl) (by kernel_rfl))
            refine Pred.yields_call (f := 20) (args := #[.pointer (some ⟨b1, 0, none⟩), .int .i64 1]) ((Pred.wanted_at (g := 33) (d := 154) (f := true) rfl rfl r154).trans rfl) (by go_simp) ?_
            have C := all_db (HD.out.below hE) 1
            rw [cut_one] at C
            exact C.mono fun e w2 ⟨⟨u, he, hu⟩, hb⟩ => ⟨_, he, Pred.ext_below hb hE.size, hu⟩
          · intro b X hE hd hn hV
            have r15 : b.tmps[15]?.getD undef = .pointer (some ⟨t1, 0, none⟩) := (hn 15 (by kernel_rfl)).trans rfl
            have r154 : b.tmps[154]?.getD undef = .bool true := hV 33 _ 154 rfl rfl (Pred.waits_near (by kernel_rfl) (by kernel_rfl))
            exact Pred.yields_run (v := .pointer (some ⟨t1, 0, none⟩)) ((Pred.wanted_at (g := 33) (d := 154) (f := true) rfl rfl r154).trans rfl) (by go_simp) ⟨Pred.ext_refl _ _, rfl⟩
          · intro b X hE hd hn hV
            have r157 : b.tmps[157]?.getD undef = .pointer (some ⟨t1, 0, none⟩) := hV 36 _ 157 rfl rfl (Pred.waits_near (by kernel_rfl) (by kernel_rfl))
            have r154 : b.tmps[154]?.getD undef = .bool true := hV 33 _ 154 rfl rfl (Pred.waits_near (by kernel_rfl) (by kernel_rfl))
            exact Pred.yields_run (v := .pointer (some ⟨t1, 0, none⟩)) ((Pred.wanted_at (g := 33) (d := 154) (f := true) rfl rfl r154).trans rfl) (by go_simp) ⟨Pred.ext_refl _ _, rfl⟩
          · intro b X hE hd hn hV
            have r158 : b.tmps[158]?.getD undef = .pointer (some ⟨t1, 0, none⟩) := hV 37 _ 158 rfl rfl (Pred.waits_near (by kernel_rfl) (by kernel_rfl))
            have r154 : b.tmps[154]?.getD undef = .bool true := hV 33 _ 154 rfl rfl (Pred.waits_near (by kernel_rfl) (by kernel_rfl))
            exact Pred.yields_run (v := .pointer (some ⟨t1, 1, none⟩)) ((Pred.wanted_at (g := 33) (d := 154) (f := true) rfl rfl r154).trans rfl) (by go_simp) ⟨Pred.ext_refl _ _, rfl⟩
          · intro b X hE hd hn hV
            have r159 : b.tmps[159]?.getD undef = .pointer (some ⟨t1, 1, none⟩) := hV 38 _ 159 rfl rfl (Pred.waits_near (by kernel_rfl) (by kernel_rfl))
            have r154 : b.tmps[154]?.getD undef = .bool true := hV 33 _ 154 rfl rfl (Pred.waits_near (by kernel_rfl) (by kernel_rfl))
            have z : X.cell? ⟨t1, 1, none⟩ = some (.slice aR r.length cR) := by rw [blk_cell ((blk_below hE _ (blk_lt BT.out)).trans BT.out)]; rfl
            exact Pred.yields_run (v := .slice aR r.length cR) ((Pred.wanted_at (g := 33) (d := 154) (f := true) rfl rfl r154).trans rfl) (by go_simp) ⟨Pred.ext_refl _ _, rfl⟩
          · intro b X hE hd hn hV
            have r15 : b.tmps[15]?.getD undef = .pointer (some ⟨t1, 0, none⟩) := (hn 15 (by kernel_rfl)).trans rfl
            have r154 : b.tmps[154]?.getD undef = .bool true := hV 33 _ 154 rfl rfl (Pred.waits_near (by kernel_rfl) (by kernel_rfl))
            exact Pred.yields_run (v := .pointer (some ⟨t1, 0, none⟩)) ((Pred.wanted_at (g := 33) (d := 154) (f := true) rfl rfl r154).trans rfl) (by go_simp) ⟨Pred.ext_refl _ _, rfl⟩
          · intro b X hE hd hn hV
            have r161 : b.tmps[161]?.getD undef = .pointer (some ⟨t1, 0, none⟩) := hV 40 _ 161 rfl rfl (Pred.waits_near (by kernel_rfl) (by kernel_rfl))
            have r154 : b.tmps[154]?.getD undef = .bool true := hV 33 _ 154 rfl rfl (Pred.waits_near (by kernel_rfl) (by kernel_rfl))
            exact Pred.yields_run (v := .pointer (some ⟨t1, 0, none⟩)) ((Pred.wanted_at (g := 33) (d := 154) (f := true) rfl rfl r154).trans rfl) (by go_simp) ⟨Pred.ext_refl _ _, rfl⟩
          · intro b X hE hd hn hV
            have r162 : b.tmps[162]?.getD undef = .pointer (some ⟨t1, 0, none⟩) := hV 41 _ 162 rfl rfl (Pred.waits_near (by kernel_rfl) (by kernel_rfl))
            have r154 : b.tmps[154]?.getD undef = .bool true := hV 33 _ 154 rfl rfl (Pred.waits_near (by kernel_rfl) (by kernel_rfl))
            exact Pred.yields_run (v := .pointer (some ⟨t1, 1, none⟩)) ((Pred.wanted_at (g := 33) (d := 154) (f := true) rfl rfl r154).trans rfl) (by go_simp) ⟨Pred.ext_refl _ _, rfl⟩
          · intro b X hE hd hn hV
            have r163 : b.tmps[163]?.getD undef = .pointer (some ⟨t1, 1, none⟩) := hV 42 _ 163 rfl rfl (Pred.waits_near (by kernel_rfl) (by kernel_rfl))
            have r154 : b.tmps[154]?.getD undef = .bool true := hV 33 _ 154 rfl rfl (Pred.waits_near (by kernel_rfl) (by kernel_rfl))
            have z : X.cell? ⟨t1, 1, none⟩ = some (.slice aR r.length cR) := by rw [blk_cell ((blk_below hE _ (blk_lt BT.out)).trans BT.out)]; rfl
            exact Pred.yields_run (v := .slice aR r.length cR) ((Pred.wanted_at (g := 33) (d := 154) (f := true) rfl rfl r154).trans rfl) (by go_simp) ⟨Pred.ext_refl _ _, rfl⟩
          · intro b X hE hd hn hV
            have r164 : b.tmps[164]?.getD undef = .slice aR r.length cR := hV 43 _ 164 rfl rfl (Pred.waits_near (by kernel_rfl) (by kernel_rfl))
            have r154 : b.tmps[154]?.getD undef = .bool true := hV 33 _ 154 rfl rfl (Pred.waits_near (by kernel_rfl) (by kernel_rfl))
            exact Pred.yields_run (v := .int .i64 (r.length : Int)) ((Pred.wanted_at (g := 33) (d := 154) (f := true) rfl rfl r154).trans rfl) (by go_simp) ⟨Pred.ext_refl _ _, rfl⟩
          · intro b X hE hd hn hV
            have r165 : b.tmps[165]?.getD undef = .int .i64 (r.length : Int) := hV 44 _ 165 rfl rfl (Pred.waits_near (by kernel_rfl) (by kernel_rfl))
            have r154 : b.tmps[154]?.getD undef = .bool true := hV 33 _ 154 rfl rfl (Pred.waits_near (by kernel_rfl) (by kernel_rfl))
            have h9 : (min 1 (r.length : Int)) = ((min 1 r.length : Nat) : Int) := by omega
            exact Pred.yields_run (v := .int .i64 ((min 1 r.length : Nat) : Int)) ((Pred.wanted_at (g := 33) (d := 154) (f := true) rfl rfl r154).trans rfl) (by go_simp) ⟨Pred.ext_refl _ _, rfl⟩
          · intro b X hE hd hn hV
            have r160 : b.tmps[160]?.getD undef = .slice aR r.length cR := hV 39 _ 160 rfl rfl (Pred.waits_near (by kernel_rfl) (by kernel_rfl))
            have r166 : b.tmps[166]?.getD undef = .int .i64 ((min 1 r.length : Nat) : Int) := hV 45 _ 166 rfl rfl (Pred.waits_near (by kernel_rfl) (by kernel_rfl))
            have r154 : b.tmps[154]?.getD undef = .bool true := hV 33 _ 154 rfl rfl (Pred.waits_near (by kernel_rfl) (by kernel_rfl))
            exact Pred.yields_run (v := .slice aR (min 1 r.length) cR) ((Pred.wanted_at (g := 33) (d := 154) (f := true) rfl rfl r154).trans rfl) (DiRb.run_front (by rfl) r160 r166 (Nat.le_trans (Nat.min_le_right _ _) HCR.out)) ⟨Pred.ext_refl _ _, rfl⟩
          · intro b X hE hd hn hV
            obtain ⟨ga156, ca156, r156, hr156, hc156⟩ : SE (r.take (min 1 r.length)) (b.tmps[156]?.getD undef) X := hV 35 _ 156 rfl rfl (Pred.waits_near (by kernel_rfl) (by kernel_rfl))
            have r167 : b.tmps[167]?.getD undef = .slice aR (min 1 r.length) cR := hV 46 _ 167 rfl rfl (Pred.waits_near (by kernel_rfl) (by kernel_rfl))
            have r154 : b.tmps[154]?.getD undef = .bool true := hV 33 _ 154 rfl rfl (Pred.waits_near (by kernel_rfl) (by kernel_rfl))
            refine Pred.yields_call (f := 19) (args := #[.slice ga156 (r.take (min 1 r.length)).length ca156, .slice aR (min 1 r.length) cR]) ((Pred.wanted_at (g := 33) (d := 154) (f := true) rfl rfl r154).trans rfl) (by go_simp) ?_
            have C := same_n (r.take (min 1 r.length)) (r.take (min 1 r.length)) _ (min 1 r.length) ga156 aR ca156 cR X hr156 ((HRR.out.bel hE).take _) rfl (by rw [List.length_take]; omega) (by rw [List.length_take]; omega) (by omega) (q := true) (by simp)
            exact C.mono fun e w2 ⟨he, hb⟩ => ⟨_, he, Pred.ext_below hb hE.size, rfl⟩
          · intro b X hE hd hn hV
            have r154 : b.tmps[154]?.getD undef = .bool true := hV 33 _ 154 rfl rfl (Pred.waits_near (by kernel_rfl) (by kernel_rfl))
            have r168 : b.tmps[168]?.getD undef = .bool true := hV 47 _ 168 rfl rfl (Pred.waits_near (by kernel_rfl) (by kernel_rfl))
            exact Pred.yields_run (v := .bool true) (Pred.wanted_none rfl) (by go_simp) ⟨Pred.ext_refl _ _, rfl⟩
          · intro b X hE hd hn hV
            have r169 : b.tmps[169]?.getD undef = .bool true := hV 48 _ 169 rfl rfl (Pred.waits_near (by kernel_rfl) (by kernel_rfl))
            exact Pred.yields_run (v := .bool true) (Pred.wanted_none rfl) (by go_simp) ⟨Pred.ext_refl _ _, rfl⟩
          · intro b X hE hd hn hV
            have r170 : b.tmps[170]?.getD undef = .bool true := hV 49 _ 170 rfl rfl (Pred.waits_near (by kernel_rfl) (by kernel_rfl))
            refine Pred.yields_call (f := 7) (args := #[]) ((Pred.wanted_at (g := 49) (d := 170) (f := true) rfl rfl r170).trans rfl) (by go_simp) ?_
            have C := awake_any X
            exact C.mono fun e w2 ⟨he, hb⟩ => ⟨_, he, Pred.ext_below hb hE.size, rfl⟩
          · intro b X hE hd hn hV
            have r170 : b.tmps[170]?.getD undef = .bool true := hV 49 _ 170 rfl rfl (Pred.waits_near (by kernel_rfl) (by kernel_rfl))
            have r171 : b.tmps[171]?.getD undef = .bool true := hV 50 _ 171 rfl rfl (Pred.waits_near (by kernel_rfl) (by kernel_rfl))
            exact Pred.yields_run (v := .bool true) (Pred.wanted_none rfl) (by go_simp) ⟨Pred.ext_refl _ _, rfl⟩
          · intro b X hE hd hn hV
            have r172 : b.tmps[172]?.getD undef = .bool true := hV 51 _ 172 rfl rfl (Pred.waits_near (by kernel_rfl) (by kernel_rfl))
            exact Pred.yields_run (v := .bool true) (Pred.wanted_none rfl) (by go_simp) ⟨Pred.ext_refl _ _, rfl⟩
        intro v X hE hv
        have e0 : v 0 = .agg pe.c := hv 0 _ 121 rfl rfl
        have e1 : v 1 = .agg pe.c := hv 1 _ 122 rfl rfl
        have e2 : v 2 = .bool true := hv 2 _ 123 rfl rfl
        have e3 : v 3 = .bool true := hv 3 _ 124 rfl rfl
        have e4 : v 4 = .bool qb := hv 4 _ 125 rfl rfl
        have e5 : v 5 = .bool qb := hv 5 _ 126 rfl rfl
        have e6 : v 6 = .bool true := hv 6 _ 127 rfl rfl
        have e7 : v 7 = .bool true := hv 7 _ 128 rfl rfl
        have e8 : v 8 = .bool true := hv 8 _ 129 rfl rfl
        have e9 : v 9 = .pointer none := hv 9 _ 130 rfl rfl
        have e10 : v 10 = .pointer none := hv 10 _ 131 rfl rfl
        have e11 : v 11 = .bool true := hv 11 _ 132 rfl rfl
        have e12 : v 12 = .bool true := hv 12 _ 133 rfl rfl
        have e13 : v 13 = .bool true := hv 13 _ 134 rfl rfl
        have e14 : v 14 = .int .i64 1 := hv 14 _ 135 rfl rfl
        have e15 : v 15 = .bool false := hv 15 _ 136 rfl rfl
        have e16 : v 16 = .pointer none := hv 16 _ 137 rfl rfl
        have e17 : v 17 = .bool false := hv 17 _ 138 rfl rfl
        have e18 : v 18 = .bool true := hv 18 _ 139 rfl rfl
        have e19 : v 19 = .bool true := hv 19 _ 140 rfl rfl
        have e20 : v 20 = .bool true := hv 20 _ 141 rfl rfl
        have e21 : v 21 = .pointer none := hv 21 _ 142 rfl rfl
        have e22 : v 22 = .bool false := hv 22 _ 143 rfl rfl
        have e23 : v 23 = .bool false := hv 23 _ 144 rfl rfl
        have e24 : v 24 = .int .i64 1 := hv 24 _ 145 rfl rfl
        have e25 : v 25 = .bool true := hv 25 _ 146 rfl rfl
        have e26 : v 26 = .bool true := hv 26 _ 147 rfl rfl
        have e27 : v 27 = .bool true := hv 27 _ 148 rfl rfl
        have e28 : v 28 = .bool true := hv 28 _ 149 rfl rfl
        have e29 : v 29 = .pointer (some ⟨b1, 0, none⟩) := hv 29 _ 150 rfl rfl
        have e30 : v 30 = .pointer (some ⟨t1, 0, none⟩) := hv 30 _ 151 rfl rfl
        have e31 : v 31 = .bool true := hv 31 _ 152 rfl rfl
        have e32 : v 32 = .bool true := hv 32 _ 153 rfl rfl
        have e33 : v 33 = .bool true := hv 33 _ 154 rfl rfl
        have e34 : v 34 = .pointer (some ⟨b1, 0, none⟩) := hv 34 _ 155 rfl rfl
        obtain ⟨ga35, ca35, e35, hr35, hc35⟩ : SE (r.take (min 1 r.length)) (v 35) X := hv 35 _ 156 rfl rfl
        have e36 : v 36 = .pointer (some ⟨t1, 0, none⟩) := hv 36 _ 157 rfl rfl
        have e37 : v 37 = .pointer (some ⟨t1, 0, none⟩) := hv 37 _ 158 rfl rfl
        have e38 : v 38 = .pointer (some ⟨t1, 1, none⟩) := hv 38 _ 159 rfl rfl
        have e39 : v 39 = .slice aR r.length cR := hv 39 _ 160 rfl rfl
        have e40 : v 40 = .pointer (some ⟨t1, 0, none⟩) := hv 40 _ 161 rfl rfl
        have e41 : v 41 = .pointer (some ⟨t1, 0, none⟩) := hv 41 _ 162 rfl rfl
        have e42 : v 42 = .pointer (some ⟨t1, 1, none⟩) := hv 42 _ 163 rfl rfl
        have e43 : v 43 = .slice aR r.length cR := hv 43 _ 164 rfl rfl
        have e44 : v 44 = .int .i64 (r.length : Int) := hv 44 _ 165 rfl rfl
        have e45 : v 45 = .int .i64 ((min 1 r.length : Nat) : Int) := hv 45 _ 166 rfl rfl
        have e46 : v 46 = .slice aR (min 1 r.length) cR := hv 46 _ 167 rfl rfl
        have e47 : v 47 = .bool true := hv 47 _ 168 rfl rfl
        have e48 : v 48 = .bool true := hv 48 _ 169 rfl rfl
        have e49 : v 49 = .bool true := hv 49 _ 170 rfl rfl
        have e50 : v 50 = .bool true := hv 50 _ 171 rfl rfl
        have e51 : v 51 = .bool true := hv 51 _ 172 rfl rfl
        have e52 : v 52 = .bool true := hv 52 _ 12 rfl rfl
        simp only [Pred.putsF_cons, Pred.putsF_nil, Nat.zero_add, Nat.reduceAdd, e0, e1, e2, e3, e4, e5, e6, e7, e8, e9, e10, e11, e12, e13, e14, e15, e16, e17, e18, e19, e20, e21, e22, e23, e24, e25, e26, e27, e28, e29, e30, e31, e32, e33, e34, e35, e36, e37, e38, e39, e40, e41, e42, e43, e44, e45, e46, e47, e48, e49, e50, e51, e52, Act.put, List.setIfInBounds_toArray, List.set_cons_zero, List.set_cons_succ]
        clear e0 e1 e2 e3 e4 e5 e6 e7 e8 e9 e10 e11 e12 e13 e14 e15 e16 e17 e18 e19 e20 e21 e22 e23 e24 e25 e26 e27 e28 e29 e30 e31 e32 e33 e34 e35 e36 e37 e38 e39 e40 e41 e42 e43 e44 e45 e46 e47 e48 e49 e50 e51 e52 hv
        have LX := L12.trans (hE.mono L12.size)
        clear hE
        go_wp2
        go_ret
        exact ⟨rfl, LX⟩
      | some r5 =>
        obtain rfl : cu = 0 := by rw [← ecu]; rfl
        have h9 := HV.out
        obtain ⟨b5, t5, rfl, rfl, -, -, -⟩ := h9
        go_upto_region 15 with (fail)
        refine Pred.region_vals (Pred.Of [
            Is (.agg pe.c),
            Is (.agg pe.c),
            Is (.bool true),
            Is (.bool true),
            Is (.bool qb),
            Is (.bool qb),
            Is (.bool true),
            Is (.bool true),
            Is (.bool true),
            Is (.pointer (some ⟨b5, 0, none⟩)),
            Is (.pointer (some ⟨t5, 0, none⟩)),
            Is (.bool true),
            Is (.bool true),
            Is (.bool true),
            Is (.int .i64 0),
            Is (.bool true),
            Is (.pointer (some ⟨t5, 0, none⟩)),
            Is (.bool true),
            Is (.bool true),
            Is (.bool true),
            Is (.bool true),
            Is (.pointer (some ⟨t5, 0, none⟩)),
            Is (.bool true),
            Is (.bool true),
            Is (undef),
            Is (undef),
            Is (.bool true),
            Is (.bool true),
            Is (.bool true),
            Is (.pointer (some ⟨b1, 0, none⟩)),
            Is (.pointer (some ⟨t1, 0, none⟩)),
            Is (.bool true),
            Is (.bool true),
            Is (.bool true),
            Is (.pointer (some ⟨b1, 0, none⟩)),
            SE (r.take (min 1 r.length)),
            Is (.pointer (some ⟨t1, 0, none⟩)),
            Is (.pointer (some ⟨t1, 0, none⟩)),
            Is (.pointer (some ⟨t1, 1, none⟩)),
            Is (.slice aR r.length cR),
            Is (.pointer (some ⟨t1, 0, none⟩)),
            Is (.pointer (some ⟨t1, 0, none⟩)),
            Is (.pointer (some ⟨t1, 1, none⟩)),
            Is (.slice aR r.length cR),
            Is (.int .i64 (r.length : Int)),
            Is (.int .i64 ((min 1 r.length : Nat) : Int)),
            Is (.slice aR (min 1 r.length) cR),
            Is (.bool true),
            Is (.bool true),
            Is (.bool true),
            Is (.bool true),
            Is (.bool true),
            Is (.bool true)]) (by kernel_rfl) (by kernel_rfl) (by kernel_rfl) (Pred.of_stab ?_) ?_ ?_
        · exact ⟨is_stab _, is_stab _, is_stab _, is_stab _, is_stab _, is_stab _, is_stab _, is_stab _, is_stab _, is_stab _, is_stab _, is_stab _, is_stab _, is_stab _, is_stab _, is_stab _, is_stab _, is_stab _, is_stab _, is_stab _, is_stab _, is_stab _, is_stab _, is_stab _, is_stab _, is_stab _, is_stab _, is_stab _, is_stab _, is_stab _, is_stab _, is_stab _, is_stab _, is_stab _, is_stab _, se_stab _, is_stab _, is_stab _, is_stab _, is_stab _, is_stab _, is_stab _, is_stab _, is_stab _, is_stab _, is_stab _, is_stab _, is_stab _, is_stab _, is_stab _, is_stab _, is_stab _, is_stab _, trivial⟩
        · refine ⟨?_, ?_, ?_, ?_, ?_, ?_, ?_, ?_, ?_, ?_, ?_, ?_, ?_, ?_, ?_, ?_, ?_, ?_, ?_, ?_, ?_, ?_, ?_, ?_, ?_, ?_, ?_, ?_, ?_, ?_, ?_, ?_, ?_, ?_, ?_, ?_, ?_, ?_, ?_, ?_, ?_, ?_, ?_, ?_, ?_, ?_, ?_, ?_, ?_, ?_, ?_, ?_, ?_, trivial⟩
          · intro b X hE hd hn hV
            have r19 : b.tmps[19]?.getD undef = .pointer (some ⟨gx, 0, none⟩) := (hn 19 (by kernel_rfl)).trans rfl
            have q := ld_box ((blk_below hE _ (blk_lt BX.out)).trans BX.out)
            exact Pred.yields_run (v := .agg pe.c) (Pred.wanted_none rfl) (by go_simp) ⟨Pred.ext_refl _ _, rfl⟩
          · intro b X hE hd hn hV
            have r21 : b.tmps[21]?.getD undef = .pointer (some ⟨gy, 0, none⟩) := (hn 21 (by kernel_rfl)).trans rfl
            have q := ld_box ((blk_below hE _ (blk_lt BY.out)).trans BY.out)
            exact Pred.yields_run (v := .agg pe.c) (Pred.wanted_none rfl) (by go_simp) ⟨Pred.ext_refl _ _, rfl⟩
          · intro b X hE hd hn hV
            have r121 : b.tmps[121]?.getD undef = .agg pe.c := hV 0 _ 121 rfl rfl (Pred.waits_near (by kernel_rfl) (by kernel_rfl))
            have r122 : b.tmps[122]?.getD undef = .agg pe.c := hV 1 _ 122 rfl rfl (Pred.waits_near (by kernel_rfl) (by kernel_rfl))
            have h := eqE_self pe
            exact Pred.yields_run (v := .bool true) (Pred.wanted_none rfl) (by go_simp) ⟨Pred.ext_refl _ _, rfl⟩
          · intro b X hE hd hn hV
            have r123 : b.tmps[123]?.getD undef = .bool true := hV 2 _ 123 rfl rfl (Pred.waits_near (by kernel_rfl) (by kernel_rfl))
            exact Pred.yields_run (v := .bool true) (Pred.wanted_none rfl) (by go_simp) ⟨Pred.ext_refl _ _, rfl⟩
          · intro b X hE hd hn hV
            have r20 : b.tmps[20]?.getD undef = .bool qb := (hn 20 (by kernel_rfl)).trans rfl
            have r124 : b.tmps[124]?.getD undef = .bool true := hV 3 _ 124 rfl rfl (Pred.waits_near (by kernel_rfl) (by kernel_rfl))
            exact Pred.yields_run (v := .bool qb) ((Pred.wanted_at (g := 3) (d := 124) (f := true) rfl rfl r124).trans rfl) (by go_simp) ⟨Pred.ext_refl _ _, rfl⟩
          · intro b X hE hd hn hV
            have r22 : b.tmps[22]?.getD undef = .bool qb := (hn 22 (by kernel_rfl)).trans rfl
            have r124 : b.tmps[124]?.getD undef = .bool true := hV 3 _ 124 rfl rfl (Pred.waits_near (by kernel_rfl) (by kernel_rfl))
            exact Pred.yields_run (v := .bool qb) ((Pred.wanted_at (g := 3) (d := 124) (f := true) rfl rfl r124).trans rfl) (by go_simp) ⟨Pred.ext_refl _ _, rfl⟩
          · intro b X hE hd hn hV
            have r125 : b.tmps[125]?.getD undef = .bool qb := hV 4 _ 125 rfl rfl (Pred.waits_near (by kernel_rfl) (by kernel_rfl))
            have r126 : b.tmps[126]?.getD undef = .bool qb := hV 5 _ 126 rfl rfl (Pred.waits_near (by kernel_rfl) (by kernel_rfl))
            have r124 : b.tmps[124]?.getD undef = .bool true := hV 3 _ 124 rfl rfl (Pred.waits_near (by kernel_rfl) (by kernel_rfl))
            exact Pred.yields_run (v := .bool true) ((Pred.wanted_at (g := 3) (d := 124) (f := true) rfl rfl r124).trans rfl) (by go_simp) ⟨Pred.ext_refl _ _, rfl⟩
          · intro b X hE hd hn hV
            have r124 : b.tmps[124]?.getD undef = .bool true := hV 3 _ 124 rfl rfl (Pred.waits_near (by kernel_rfl) (by kernel_rfl))
            have r127 : b.tmps[127]?.getD undef = .bool true := hV 6 _ 127 rfl rfl (Pred.waits_near (by kernel_rfl) (by kernel_rfl))
            exact Pred.yields_run (v := .bool true) (Pred.wanted_none rfl) (by go_simp) ⟨Pred.ext_refl _ _, rfl⟩
          · intro b X hE hd hn hV
            have r128 : b.tmps[128]?.getD undef = .bool true := hV 7 _ 128 rfl rfl (Pred.waits_near (by kernel_rfl) (by kernel_rfl))
            exact Pred.yields_run (v := .bool true) (Pred.wanted_none rfl) (by go_simp) ⟨Pred.ext_refl _ _, rfl⟩
          · intro b X hE hd hn hV
            have r23 : b.tmps[23]?.getD undef = .pointer (some ⟨b5, 0, none⟩) := (hn 23 (by kernel_rfl)).trans rfl
            have r129 : b.tmps[129]?.getD undef = .bool true := hV 8 _ 129 rfl rfl (Pred.waits_near (by kernel_rfl) (by kernel_rfl))
            exact Pred.yields_run (v := .pointer (some ⟨b5, 0, none⟩)) ((Pred.wanted_at (g := 8) (d := 129) (f := true) rfl rfl r129).trans rfl) (by go_simp) ⟨Pred.ext_refl _ _, rfl⟩
          · intro b X hE hd hn hV
            have r25 : b.tmps[25]?.getD undef = .pointer (some ⟨t5, 0, none⟩) := (hn 25 (by kernel_rfl)).trans rfl
            have r129 : b.tmps[129]?.getD undef = .bool true := hV 8 _ 129 rfl rfl (Pred.waits_near (by kernel_rfl) (by kernel_rfl))
            exact Pred.yields_run (v := .pointer (some ⟨t5, 0, none⟩)) ((Pred.wanted_at (g := 8) (d := 129) (f := true) rfl rfl r129).trans rfl) (by go_simp) ⟨Pred.ext_refl _ _, rfl⟩
          · intro b X hE hd hn hV
            have r130 : b.tmps[130]?.getD undef = .pointer (some ⟨b5, 0, none⟩) := hV 9 _ 130 rfl rfl (Pred.waits_near (by kernel_rfl) (by kernel_rfl))
            have r131 : b.tmps[131]?.getD undef = .pointer (some ⟨t5, 0, none⟩) := hV 10 _ 131 rfl rfl (Pred.waits_near (by kernel_rfl) (by kernel_rfl))
            have r129 : b.tmps[129]?.getD undef = .bool true := hV 8 _ 129 rfl rfl (Pred.waits_near (by kernel_rfl) (by kernel_rfl))
            refine Pred.yields_call (f := 12) (args := #[.pointer (some ⟨b5, 0, none⟩), .pointer (some ⟨t5, 0, none⟩)]) ((Pred.wanted_at (g := 8) (d := 129) (f := true) rfl rfl r129).trans rfl) (by go_simp) ?_
            have C := alike_any _ _ a0 (some r5) X (HV.out.bel hE)
            exact C.mono fun e w2 ⟨he, hb⟩ => ⟨_, he, Pred.ext_below hb hE.size, rfl⟩
          · intro b X hE hd hn hV
            have r129 : b.tmps[129]?.getD undef = .bool true := hV 8 _ 129 rfl rfl (Pred.waits_near (by kernel_rfl) (by kernel_rfl))
            have r132 : b.tmps[132]?.getD undef = .bool true := hV 11 _ 132 rfl rfl (Pred.waits_near (by kernel_rfl) (by kernel_rfl))
            exact Pred.yields_run (v := .bool true) (Pred.wanted_none rfl) (by go_simp) ⟨Pred.ext_refl _ _, rfl⟩
          · intro b X hE hd hn hV
            have r133 : b.tmps[133]?.getD undef = .bool true := hV 12 _ 133 rfl rfl (Pred.waits_near (by kernel_rfl) (by kernel_rfl))
            exact Pred.yields_run (v := .bool true) (Pred.wanted_none rfl) (by go_simp) ⟨Pred.ext_refl _ _, rfl⟩
          · intro b X hE hd hn hV
            have r24 : b.tmps[24]?.getD undef = .int .i64 0 := (hn 24 (by kernel_rfl)).trans rfl
            have r134 : b.tmps[134]?.getD undef = .bool true := hV 13 _ 134 rfl rfl (Pred.waits_near (by kernel_rfl) (by kernel_rfl))
            exact Pred.yields_run (v := .int .i64 0) ((Pred.wanted_at (g := 13) (d := 134) (f := true) rfl rfl r134).trans rfl) (by go_simp) ⟨Pred.ext_refl _ _, rfl⟩
          · intro b X hE hd hn hV
            have r135 : b.tmps[135]?.getD undef = .int .i64 0 := hV 14 _ 135 rfl rfl (Pred.waits_near (by kernel_rfl) (by kernel_rfl))
            have r134 : b.tmps[134]?.getD undef = .bool true := hV 13 _ 134 rfl rfl (Pred.waits_near (by kernel_rfl) (by kernel_rfl))
            exact Pred.yields_run (v := .bool true) ((Pred.wanted_at (g := 13) (d := 134) (f := true) rfl rfl r134).trans rfl) (by go_simp) ⟨Pred.ext_refl _ _, rfl⟩
          · intro b X hE hd hn hV
            have r25 : b.tmps[25]?.getD undef = .pointer (some ⟨t5, 0, none⟩) := (hn 25 (by kernel_rfl)).trans rfl
            have r134 : b.tmps[134]?.getD undef = .bool true := hV 13 _ 134 rfl rfl (Pred.waits_near (by kernel_rfl) (by kernel_rfl))
            exact Pred.yields_run (v := .pointer (some ⟨t5, 0, none⟩)) ((Pred.wanted_at (g := 13) (d := 134) (f := true) rfl rfl r134).trans rfl) (by go_simp) ⟨Pred.ext_refl _ _, rfl⟩
          · intro b X hE hd hn hV
            have r137 : b.tmps[137]?.getD undef = .pointer (some ⟨t5, 0, none⟩) := hV 16 _ 137 rfl rfl (Pred.waits_near (by kernel_rfl) (by kernel_rfl))
            have r134 : b.tmps[134]?.getD undef = .bool true := hV 13 _ 134 rfl rfl (Pred.waits_near (by kernel_rfl) (by kernel_rfl))
            exact Pred.yields_run (v := .bool true) ((Pred.wanted_at (g := 13) (d := 134) (f := true) rfl rfl r134).trans rfl) (by go_simp) ⟨Pred.ext_refl _ _, rfl⟩
          · intro b X hE hd hn hV
            have r136 : b.tmps[136]?.getD undef = .bool true := hV 15 _ 136 rfl rfl (Pred.waits_near (by kernel_rfl) (by kernel_rfl))
            have r138 : b.tmps[138]?.getD undef = .bool true := hV 17 _ 138 rfl rfl (Pred.waits_near (by kernel_rfl) (by kernel_rfl))
            have r134 : b.tmps[134]?.getD undef = .bool true := hV 13 _ 134 rfl rfl (Pred.waits_near (by kernel_rfl) (by kernel_rfl))
            exact Pred.yields_run (v := .bool true) ((Pred.wanted_at (g := 13) (d := 134) (f := true) rfl rfl r134).trans rfl) (by go_simp) ⟨Pred.ext_refl _ _, rfl⟩
          · intro b X hE hd hn hV
            have r134 : b.tmps[134]?.getD undef = .bool true := hV 13 _ 134 rfl rfl (Pred.waits_near (by kernel_rfl) (by kernel_rfl))
            have r139 : b.tmps[139]?.getD undef = .bool true := hV 18 _ 139 rfl rfl (Pred.waits_near (by kernel_rfl) (by kernel_rfl))
            exact Pred.yields_run (v := .bool true) (Pred.wanted_none rfl) (by go_simp) ⟨Pred.ext_refl _ _, rfl⟩
          · intro b X hE hd hn hV
            have r140 : b.tmps[140]?.getD undef = .bool true := hV 19 _ 140 rfl rfl (Pred.waits_near (by kernel_rfl) (by kernel_rfl))
            exact Pred.yields_run (v := .bool true) (Pred.wanted_none rfl) (by go_simp) ⟨Pred.ext_refl _ _, rfl⟩
          · intro b X hE hd hn hV
            have r25 : b.tmps[25]?.getD undef = .pointer (some ⟨t5, 0, none⟩) := (hn 25 (by kernel_rfl)).trans rfl
            have r141 : b.tmps[141]?.getD undef = .bool true := hV 20 _ 141 rfl rfl (Pred.waits_near (by kernel_rfl) (by kernel_rfl))
            exact Pred.yields_run (v := .pointer (some ⟨t5, 0, none⟩)) ((Pred.wanted_at (g := 20) (d := 141) (f := true) rfl rfl r141).trans rfl) (by go_simp) ⟨Pred.ext_refl _ _, rfl⟩
          · intro b X hE hd hn hV
            have r142 : b.tmps[142]?.getD undef = .pointer (some ⟨t5, 0, none⟩) := hV 21 _ 142 rfl rfl (Pred.waits_near (by kernel_rfl) (by kernel_rfl))
            have r141 : b.tmps[141]?.getD undef = .bool true := hV 20 _ 141 rfl rfl (Pred.waits_near (by kernel_rfl) (by kernel_rfl))
            exact Pred.yields_run (v := .bool true) ((Pred.wanted_at (g := 20) (d := 141) (f := true) rfl rfl r141).trans rfl) (by go_simp) ⟨Pred.ext_refl _ _, rfl⟩
          · intro b X hE hd hn hV
            have r143 : b.tmps[143]?.getD undef = .bool true := hV 22 _ 143 rfl rfl (Pred.waits_near (by kernel_rfl) (by kernel_rfl))
            have r141 : b.tmps[141]?.getD undef = .bool true := hV 20 _ 141 rfl rfl (Pred.waits_near (by kernel_rfl) (by kernel_rfl))
            exact Pred.yields_run (v := .bool true) ((Pred.wanted_at (g := 20) (d := 141) (f := true) rfl rfl r141).trans rfl) (by go_simp) ⟨Pred.ext_refl _ _, rfl⟩
          · intro b X hE hd hn hV
            have r144 : b.tmps[144]?.getD undef = .bool true := hV 23 _ 144 rfl rfl (Pred.waits_near (by kernel_rfl) (by kernel_rfl))
            exact Pred.yields_not ((Pred.wanted_at (g := 23) (d := 144) (f := false) rfl rfl r144).trans rfl) ⟨Pred.ext_refl _ _, rfl⟩
          · intro b X hE hd hn hV
            have r144 : b.tmps[144]?.getD undef = .bool true := hV 23 _ 144 rfl rfl (Pred.waits_near (by kernel_rfl) (by kernel_rfl))
            exact Pred.yields_not ((Pred.wanted_at (g := 23) (d := 144) (f := false) rfl rfl r144).trans rfl) ⟨Pred.ext_refl _ _, rfl⟩
          · intro b X hE hd hn hV
            have r144 : b.tmps[144]?.getD undef = .bool true := hV 23 _ 144 rfl rfl (Pred.waits_near (by kernel_rfl) (by kernel_rfl))
            have r146 : b.tmps[146]?.getD undef = undef := hV 25 _ 146 rfl rfl (Pred.waits_near (by kernel_rfl) (by kernel_rfl))
            have r141 : b.tmps[141]?.getD undef = .bool true := hV 20 _ 141 rfl rfl (Pred.waits_near (by kernel_rfl) (by kernel_rfl))
            exact Pred.yields_run (v := .bool true) ((Pred.wanted_at (g := 20) (d := 141) (f := true) rfl rfl r141).trans rfl) (by go_simp) ⟨Pred.ext_refl _ _, rfl⟩
          · intro b X hE hd hn hV
            have r141 : b.tmps[141]?.getD undef = .bool true := hV 20 _ 141 rfl rfl (Pred.waits_near (by kernel_rfl) (by kernel_rfl))
            have r147 : b.tmps[147]?.getD undef = .bool true := hV 26 _ 147 rfl rfl (Pred.waits_near (by kernel_rfl) (by kernel_rfl))
            exact Pred.yields_run (v := .bool true) (Pred.wanted_none rfl) (by go_simp) ⟨Pred.ext_refl _ _, rfl⟩
          · intro b X hE hd hn hV
            have r148 : b.tmps[148]?.getD undef = .bool true := hV 27 _ 148 rfl rfl (Pred.waits_near (by kernel_rfl) (by kernel_rfl))
            exact Pred.yields_run (v := .bool true) (Pred.wanted_none rfl) (by go_simp) ⟨Pred.ext_refl _ _, rfl⟩
          · intro b X hE hd hn hV
            have r13 : b.tmps[13]?.getD undef = .pointer (some ⟨b1, 0, none⟩) := (hn 13 (by kernel_rfl)).trans rfl
            have r149 : b.tmps[149]?.getD undef = .bool true := hV 28 _ 149 rfl rfl (Pred.waits_near (by kernel_rfl) (by kernel_rfl))
            exact Pred.yields_run (v := .pointer (some ⟨b1, 0, none⟩)) ((Pred.wanted_at (g := 28) (d := 149) (f := true) rfl rfl r149).trans rfl) (by go_simp) ⟨Pred.ext_refl _ _, rfl⟩
          · intro b X hE hd hn hV
            have r15 : b.tmps[15]?.getD undef = .pointer (some ⟨t1, 0, none⟩) := (hn 15 (by kernel_rfl)).trans rfl
            have r149 : b.tmps[149]?.getD undef = .bool true := hV 28 _ 149 rfl rfl (Pred.waits_near (by kernel_rfl) (by kernel_rfl))
            exact Pred.yields_run (v := .pointer (some ⟨t1, 0, none⟩)) ((Pred.wanted_at (g := 28) (d := 149) (f := true) rfl rfl r149).trans rfl) (by go_simp) ⟨Pred.ext_refl _ _, rfl⟩
          · intro b X hE hd hn hV
            have r150 : b.tmps[150]?.getD undef = .pointer (some ⟨b1, 0, none⟩) := hV 29 _ 150 rfl rfl (Pred.waits_near (by kernel_rfl) (by kernel_rfl))
            have r151 : b.tmps[151]?.getD undef = .pointer (some ⟨t1, 0, none⟩) := hV 30 _ 151 rfl rfl (Pred.waits_near (by kernel_rfl) (by kernel_rfl))
            have r149 : b.tmps[149]?.getD undef = .bool true := hV 28 _ 149 rfl rfl (Pred.waits_near (by kernel_rfl) (by kernel_rfl))
            refine Pred.yields_call (f := 12) (args := #[.pointer (some ⟨b1, 0, none⟩), .pointer (some ⟨t1, 0, none⟩)]) ((Pred.wanted_at (g := 28) (d := 149) (f := true) rfl rfl r149).trans rfl) (by go_simp) ?_
            have C := alike_any _ _ a0 (some r) X (HT.out.bel hE)
            exact C.mono fun e w2 ⟨he, hb⟩ => ⟨_, he, Pred.ext_below hb hE.size, rfl⟩
          · intro b X hE hd hn hV
            have r149 : b.tmps[149]?.getD undef = .bool true := hV 28 _ 149 rfl rfl (Pred.waits_near (by kernel_rfl) (by kernel_rfl))
            have r152 : b.tmps[152]?.getD undef = .bool true := hV 31 _ 152 rfl rfl (Pred.waits_near (by kernel_rfl) (by kernel_rfl))
            exact Pred.yields_run (v := .bool true) (Pred.wanted_none rfl) (by go_simp) ⟨Pred.ext_refl _ _, rfl⟩
          · intro b X hE hd hn hV
            have r153 : b.tmps[153]?.getD undef = .bool true := hV 32 _ 153 rfl rfl (Pred.waits_near (by kernel_rfl) (by kernel_rfl))
            exact Pred.yields_run (v := .bool true) (Pred.wanted_none rfl) (by go_simp) ⟨Pred.ext_refl _ _, rfl⟩
          · intro b X hE hd hn hV
            have r13 : b.tmps[13]?.getD undef = .pointer (some ⟨b1, 0, none⟩) := (hn 13 (by kernel_rfl)).trans rfl
            have r154 : b.tmps[154]?.getD undef = .bool true := hV 33 _ 154 rfl rfl (Pred.waits_near (by kernel_rfl) (by kernel_rfl))
            exact Pred.yields_run (v := .pointer (some ⟨b1, 0, none⟩)) ((Pred.wanted_at (g := 33) (d := 154) (f := true) rfl rfl r154).trans rfl) (by go_simp) ⟨Pred.ext_refl _ _, rfl⟩
          · intro b X hE hd hn hV
            have r155 : b.tmps[155]?.getD undef = .pointer (some ⟨b1, 0, none⟩) := hV 34 _ 155 rfl rfl (Pred.waits_near (by kernel_rfl) (by kernel_rfl))
            have r154 : b.tmps[154]?.getD undef = .bool true := hV 33 _ 154 rfl rfl (Pred.waits_near (by kernel_rfl) (by kernel_rfl))
            refine Pred.yields_call (f := 20) (args := #[.pointer (some ⟨b1, 0, none⟩), .int .i64 1]) ((Pred.wanted_at (g := 33) (d := 154) (f := true) rfl rfl r154).trans rfl) (by go_simp) ?_
            have C := all_db (HD.out.below hE) 1
            rw [cut_one] at C
            exact C.mono fun e w2 ⟨⟨u, he, hu⟩, hb⟩ => ⟨_, he, Pred.ext_below hb hE.size, hu⟩
          · intro b X hE hd hn hV
            have r15 : b.tmps[15]?.getD undef = .pointer (some ⟨t1, 0, none⟩) := (hn 15 (by kernel_rfl)).trans rfl
            have r154 : b.tmps[154]?.getD undef = .bool true := hV 33 _ 154 rfl rfl (Pred.waits_near (by kernel_rfl) (by kernel_rfl))
            exact Pred.yields_run (v := .pointer (some ⟨t1, 0, none⟩)) ((Pred.wanted_at (g := 33) (d := 154) (f := true) rfl rfl r154).trans rfl) (by go_simp) ⟨Pred.ext_refl _ _, rfl⟩
          · intro b X hE hd hn hV
            have r157 : b.tmps[157]?.getD undef = .pointer (some ⟨t1, 0, none⟩) := hV 36 _ 157 rfl rfl (Pred.waits_near (by kernel_rfl) (by kernel_rfl))
            have r154 : b.tmps[154]?.getD undef = .bool true := hV 33 _ 154 rfl rfl (Pred.waits_near (by kernel_rfl) (by kernel_rfl))
            exact Pred.yields_run (v := .pointer (some ⟨t1, 0, none⟩)) ((Pred.wanted_at (g := 33) (d := 154) (f := true) rfl rfl r154).trans rfl) (by go_simp) ⟨Pred.ext_refl _ _, rfl⟩
          · intro b X hE hd hn hV
            have r158 : b.tmps[158]?.getD undef = .pointer (some ⟨t1, 0, none⟩) := hV 37 _ 158 rfl rfl (Pred.waits_near (by kernel_rfl) (by kernel_rfl))
            have r154 : b.tmps[154]?.getD undef = .bool true := hV 33 _ 154 rfl rfl (Pred.waits_near (by kernel_rfl) (by kernel_rfl))
            exact Pred.yields_run (v := .pointer (some ⟨t1, 1, none⟩)) ((Pred.wanted_at (g := 33) (d := 154) (f := true) rfl rfl r154).trans rfl) (by go_simp) ⟨Pred.ext_refl _ _, rfl⟩
          · intro b X hE hd hn hV
            have r159 : b.tmps[159]?.getD undef = .pointer (some ⟨t1, 1, none⟩) := hV 38 _ 159 rfl rfl (Pred.waits_near (by kernel_rfl) (by kernel_rfl))
            have r154 : b.tmps[154]?.getD undef = .bool true := hV 33 _ 154 rfl rfl (Pred.waits_near (by kernel_rfl) (by kernel_rfl))
            have z : X.cell? ⟨t1, 1, none⟩ = some (.slice aR r.length cR) := by rw [blk_cell ((blk_below hE _ (blk_lt BT.out)).trans BT.out)]; rfl
            exact Pred.yields_run (v := .slice aR r.length cR) ((Pred.wanted_at (g := 33) (d := 154) (f := true) rfl rfl r154).trans rfl) (by go_simp) ⟨Pred.ext_refl _ _, rfl⟩
          · intro b X hE hd hn hV
            have r15 : b.tmps[15]?.getD undef = .pointer (some ⟨t1, 0, none⟩) := (hn 15 (by kernel_rfl)).trans rfl
            have r154 : b.tmps[154]?.getD undef = .bool true := hV 33 _ 154 rfl rfl (Pred.waits_near (by kernel_rfl) (by kernel_rfl))
            exact Pred.yields_run (v := .pointer (some ⟨t1, 0, none⟩)) ((Pred.wanted_at (g := 33) (d := 154) (f := true) rfl rfl r154).trans rfl) (by go_simp) ⟨Pred.ext_refl _ _, rfl⟩
          · intro b X hE hd hn hV
            have r161 : b.tmps[161]?.getD undef = .pointer (some ⟨t1, 0, none⟩) := hV 40 _ 161 rfl rfl (Pred.waits_near (by kernel_rfl) (by kernel_rfl))
            have r154 : b.tmps[154]?.getD undef = .bool true := hV 33 _ 154 rfl rfl (Pred.waits_near (by kernel_rfl) (by kernel_rfl))
            exact Pred.yields_run (v := .pointer (some ⟨t1, 0, none⟩)) ((Pred.wanted_at (g := 33) (d := 154) (f := true) rfl rfl r154).trans rfl) (by go_simp) ⟨Pred.ext_refl _ _, rfl⟩
          · intro b X hE hd hn hV
            have r162 : b.tmps[162]?.getD undef = .pointer (some ⟨t1, 0, none⟩) := hV 41 _ 162 rfl rfl (Pred.waits_near (by kernel_rfl) (by kernel_rfl))
            have r154 : b.tmps[154]?.getD undef = .bool true := hV 33 _ 154 rfl rfl (Pred.waits_near (by kernel_rfl) (by kernel_rfl))
            exact Pred.yields_run (v := .pointer (some ⟨t1, 1, none⟩)) ((Pred.wanted_at (g := 33) (d := 154) (f := true) rfl rfl r154).trans rfl) (by go_simp) ⟨Pred.ext_refl _ _, rfl⟩
          · intro b X hE hd hn hV
            have r163 : b.tmps[163]?.getD undef = .pointer (some ⟨t1, 1, none⟩) := hV 42 _ 163 rfl rfl (Pred.waits_near (by kernel_rfl) (by kernel_rfl))
            have r154 : b.tmps[154]?.getD undef = .bool true := hV 33 _ 154 rfl rfl (Pred.waits_near (by kernel_rfl) (by kernel_rfl))
            have z : X.cell? ⟨t1, 1, none⟩ = some (.slice aR r.length cR) := by rw [blk_cell ((blk_below hE _ (blk_lt BT.out)).trans BT.out)]; rfl
            exact Pred.yields_run (v := .slice aR r.length cR) ((Pred.wanted_at (g := 33) (d := 154) (f := true) rfl rfl r154).trans rfl) (by go_simp) ⟨Pred.ext_refl _ _, rfl⟩
          · intro b X hE hd hn hV
            have r164 : b.tmps[164]?.getD undef = .slice aR r.length cR := hV 43 _ 164 rfl rfl (Pred.waits_near (by kernel_rfl) (by kernel_rfl))
            have r154 : b.tmps[154]?.getD undef = .bool true := hV 33 _ 154 rfl rfl (Pred.waits_near (by kernel_rfl) (by kernel_rfl))
            exact Pred.yields_run (v := .int .i64 (r.length : Int)) ((Pred.wanted_at (g := 33) (d := 154) (f := true) rfl rfl r154).trans rfl) (by go_simp) ⟨Pred.ext_refl _ _, rfl⟩
          · intro b X hE hd hn hV
            have r165 : b.tmps[165]?.getD undef = .int .i64 (r.length : Int) := hV 44 _ 165 rfl rfl (Pred.waits_near (by kernel_rfl) (by kernel_rfl))
            have r154 : b.tmps[154]?.getD undef = .bool true := hV 33 _ 154 rfl rfl (Pred.waits_near (by kernel_rfl) (by kernel_rfl))
            have h9 : (min 1 (r.length : Int)) = ((min 1 r.length : Nat) : Int) := by omega
            exact Pred.yields_run (v := .int .i64 ((min 1 r.length : Nat) : Int)) ((Pred.wanted_at (g := 33) (d := 154) (f := true) rfl rfl r154).trans rfl) (by go_simp) ⟨Pred.ext_refl _ _, rfl⟩
          · intro b X hE hd hn hV
            have r160 : b.tmps[160]?.getD undef = .slice aR r.length cR := hV 39 _ 160 rfl rfl (Pred.waits_near (by kernel_rfl) (by kernel_rfl))
            have r166 : b.tmps[166]?.getD undef = .int .i64 ((min 1 r.length : Nat) : Int) := hV 45 _ 166 rfl rfl (Pred.waits_near (by kernel_rfl) (by kernel_rfl))
            have r154 : b.tmps[154]?.getD undef = .bool true := hV 33 _ 154 rfl rfl (Pred.waits_near (by kernel_rfl) (by kernel_rfl))
            exact Pred.yields_run (v := .slice aR (min 1 r.length) cR) ((Pred.wanted_at (g := 33) (d := 154) (f := true) rfl rfl r154).trans rfl) (DiRb.run_front (by rfl) r160 r166 (Nat.le_trans (Nat.min_le_right _ _) HCR.out)) ⟨Pred.ext_refl _ _, rfl⟩
          · intro b X hE hd hn hV
            obtain ⟨ga156, ca156, r156, hr156, hc156⟩ : SE (r.take (min 1 r.length)) (b.tmps[156]?.getD undef) X := hV 35 _ 156 rfl rfl (Pred.waits_near (by kernel_rfl) (by kernel_rfl))
            have r167 : b.tmps[167]?.getD undef = .slice aR (min 1 r.length) cR := hV 46 _ 167 rfl rfl (Pred.waits_near (by kernel_rfl) (by kernel_rfl))
            have r154 : b.tmps[154]?.getD undef = .bool true := hV 33 _ 154 rfl rfl (Pred.waits_near (by kernel_rfl) (by kernel_rfl))
            refine Pred.yields_call (f := 19) (args := #[.slice ga156 (r.take (min 1 r.length)).length ca156, .slice aR (min 1 r.length) cR]) ((Pred.wanted_at (g := 33) (d := 154) (f := true) rfl rfl r154).trans rfl) (by go_simp) ?_
            have C := same_n (r.take (min 1 r.length)) (r.take (min 1 r.length)) _ (min 1 r.length) ga156 aR ca156 cR X hr156 ((HRR.out.bel hE).take _) rfl (by rw [List.length_take]; omega) (by rw [List.length_take]; omega) (by omega) (q := true) (by simp)
            exact C.mono fun e w2 ⟨he, hb⟩ => ⟨_, he, Pred.ext_below hb hE.size, rfl⟩
          · intro b X hE hd hn hV
            have r154 : b.tmps[154]?.getD undef = .bool true := hV 33 _ 154 rfl rfl (Pred.waits_near (by kernel_rfl) (by kernel_rfl))
            have r168 : b.tmps[168]?.getD undef = .bool true := hV 47 _ 168 rfl rfl (Pred.waits_near (by kernel_rfl) (by kernel_rfl))
            exact Pred.yields_run (v := .bool true) (Pred.wanted_none rfl) (by go_simp) ⟨Pred.ext_refl _ _, rfl⟩
          · intro b X hE hd hn hV
            have r169 : b.tmps[169]?.getD undef = .bool true := hV 48 _ 169 rfl rfl (Pred.waits_near (by kernel_rfl) (by kernel_rfl))
            exact Pred.yields_run (v := .bool true) (Pred.wanted_none rfl) (by go_simp) ⟨Pred.ext_refl _ _, rfl⟩
          · intro b X hE hd hn hV
            have r170 : b.tmps[170]?.getD undef = .bool true := hV 49 _ 170 rfl rfl (Pred.waits_near (by kernel_rfl) (by kernel_rfl))
            refine Pred.yields_call (f := 7) (args := #[]) ((Pred.wanted_at (g := 49) (d := 170) (f := true) rfl rfl r170).trans rfl) (by go_simp) ?_
            have C := awake_any X
            exact C.mono fun e w2 ⟨he, hb⟩ => ⟨_, he, Pred.ext_below hb hE.size, rfl⟩
          · intro b X hE hd hn hV
            have r170 : b.tmps[170]?.getD undef = .bool true := hV 49 _ 170 rfl rfl (Pred.waits_near (by kernel_rfl) (by kernel_rfl))
            have r171 : b.tmps[171]?.getD undef = .bool true := hV 50 _ 171 rfl rfl (Pred.waits_near (by kernel_rfl) (by kernel_rfl))
            exact Pred.yields_run (v := .bool true) (Pred.wanted_none rfl) (by go_simp) ⟨Pred.ext_refl _ _, rfl⟩
          · intro b X hE hd hn hV
            have r172 : b.tmps[172]?.getD undef = .bool true := hV 51 _ 172 rfl rfl (Pred.waits_near (by kernel_rfl) (by kernel_rfl))
            exact Pred.yields_run (v := .bool true) (Pred.wanted_none rfl) (by go_simp) ⟨Pred.ext_refl _ _, rfl⟩
        intro v X hE hv
        have e0 : v 0 = .agg pe.c := hv 0 _ 121 rfl rfl
        have e1 : v 1 = .agg pe.c := hv 1 _ 122 rfl rfl
        have e2 : v 2 = .bool true := hv 2 _ 123 rfl rfl
        have e3 : v 3 = .bool true := hv 3 _ 124 rfl rfl
        have e4 : v 4 = .bool qb := hv 4 _ 125 rfl rfl
        have e5 : v 5 = .bool qb := hv 5 _ 126 rfl rfl
        have e6 : v 6 = .bool true := hv 6 _ 127 rfl rfl
        have e7 : v 7 = .bool true := hv 7 _ 128 rfl rfl
        have e8 : v 8 = .bool true := hv 8 _ 129 rfl rfl
        have e9 : v 9 = .pointer (some ⟨b5, 0, none⟩) := hv 9 _ 130 rfl rfl
        have e10 : v 10 = .pointer (some ⟨t5, 0, none⟩) := hv 10 _ 131 rfl rfl
        have e11 : v 11 = .bool true := hv 11 _ 132 rfl rfl
        have e12 : v 12 = .bool true := hv 12 _ 133 rfl rfl
        have e13 : v 13 = .bool true := hv 13 _ 134 rfl rfl
        have e14 : v 14 = .int .i64 0 := hv 14 _ 135 rfl rfl
        have e15 : v 15 = .bool true := hv 15 _ 136 rfl rfl
        have e16 : v 16 = .pointer (some ⟨t5, 0, none⟩) := hv 16 _ 137 rfl rfl
        have e17 : v 17 = .bool true := hv 17 _ 138 rfl rfl
        have e18 : v 18 = .bool true := hv 18 _ 139 rfl rfl
        have e19 : v 19 = .bool true := hv 19 _ 140 rfl rfl
        have e20 : v 20 = .bool true := hv 20 _ 141 rfl rfl
        have e21 : v 21 = .pointer (some ⟨t5, 0, none⟩) := hv 21 _ 142 rfl rfl
        have e22 : v 22 = .bool true := hv 22 _ 143 rfl rfl
        have e23 : v 23 = .bool true := hv 23 _ 144 rfl rfl
        have e24 : v 24 = undef := hv 24 _ 145 rfl rfl
        have e25 : v 25 = undef := hv 25 _ 146 rfl rfl
        have e26 : v 26 = .bool true := hv 26 _ 147 rfl rfl
        have e27 : v 27 = .bool true := hv 27 _ 148 rfl rfl
        have e28 : v 28 = .bool true := hv 28 _ 149 rfl rfl
        have e29 : v 29 = .pointer (some ⟨b1, 0, none⟩) := hv 29 _ 150 rfl rfl
        have e30 : v 30 = .pointer (some ⟨t1, 0, none⟩) := hv 30 _ 151 rfl rfl
        have e31 : v 31 = .bool true := hv 31 _ 152 rfl rfl
        have e32 : v 32 = .bool true := hv 32 _ 153 rfl rfl
        have e33 : v 33 = .bool true := hv 33 _ 154 rfl rfl
        have e34 : v 34 = .pointer (some ⟨b1, 0, none⟩) := hv 34 _ 155 rfl rfl
        obtain ⟨ga35, ca35, e35, hr35, hc35⟩ : SE (r.take (min 1 r.length)) (v 35) X := hv 35 _ 156 rfl rfl
        have e36 : v 36 = .pointer (some ⟨t1, 0, none⟩) := hv 36 _ 157 rfl rfl
        have e37 : v 37 = .pointer (some ⟨t1, 0, none⟩) := hv 37 _ 158 rfl rfl
        have e38 : v 38 = .pointer (some ⟨t1, 1, none⟩) := hv 38 _ 159 rfl rfl
        have e39 : v 39 = .slice aR r.length cR := hv 39 _ 160 rfl rfl
        have e40 : v 40 = .pointer (some ⟨t1, 0, none⟩) := hv 40 _ 161 rfl rfl
        have e41 : v 41 = .pointer (some ⟨t1, 0, none⟩) := hv 41 _ 162 rfl rfl
        have e42 : v 42 = .pointer (some ⟨t1, 1, none⟩) := hv 42 _ 163 rfl rfl
        have e43 : v 43 = .slice aR r.length cR := hv 43 _ 164 rfl rfl
        have e44 : v 44 = .int .i64 (r.length : Int) := hv 44 _ 165 rfl rfl
        have e45 : v 45 = .int .i64 ((min 1 r.length : Nat) : Int) := hv 45 _ 166 rfl rfl
        have e46 : v 46 = .slice aR (min 1 r.length) cR := hv 46 _ 167 rfl rfl
        have e47 : v 47 = .bool true := hv 47 _ 168 rfl rfl
        have e48 : v 48 = .bool true := hv 48 _ 169 rfl rfl
        have e49 : v 49 = .bool true := hv 49 _ 170 rfl rfl
        have e50 : v 50 = .bool true := hv 50 _ 171 rfl rfl
        have e51 : v 51 = .bool true := hv 51 _ 172 rfl rfl
        have e52 : v 52 = .bool true := hv 52 _ 12 rfl rfl
        simp only [Pred.putsF_cons, Pred.putsF_nil, Nat.zero_add, Nat.reduceAdd, e0, e1, e2, e3, e4, e5, e6, e7, e8, e9, e10, e11, e12, e13, e14, e15, e16, e17, e18, e19, e20, e21, e22, e23, e24, e25, e26, e27, e28, e29, e30, e31, e32, e33, e34, e35, e36, e37, e38, e39, e40, e41, e42, e43, e44, e45, e46, e47, e48, e49, e50, e51, e52, Act.put, List.setIfInBounds_toArray, List.set_cons_zero, List.set_cons_succ]
        clear e0 e1 e2 e3 e4 e5 e6 e7 e8 e9 e10 e11 e12 e13 e14 e15 e16 e17 e18 e19 e20 e21 e22 e23 e24 e25 e26 e27 e28 e29 e30 e31 e32 e33 e34 e35 e36 e37 e38 e39 e40 e41 e42 e43 e44 e45 e46 e47 e48 e49 e50 e51 e52 hv
        have LX := L12.trans (hE.mono L12.size)
        clear hE
        go_wp2
        go_ret
        exact ⟨rfl, LX⟩
end Go.Proofs.Ytpjbacpchmemeaa.DiRk

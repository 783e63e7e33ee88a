/-
  DirOrder.
-/
import Derived.Test.YtpjbacpchmemeaaDiZ
namespace Go.Proofs.Ytpjbacpchmemeaa.DiOr
open Go.RowKit Go.Shelf Rd Go.Proofs.Ytpjbacpchmemeaa.Row Mid PgM PgA PgB PgC DiM DiA DiC DiD DiE DiF DiJ DiK DiL DiN DiO DiQ DiU DiV DiW DiX DiY DiZ0 DiZ OctA OctB
open Go.Proofs.Ytpjbacpchmemeaa.DiM (at_ at_get ce ce_len ce_app ce_one ce_ones ce_at)
open Go.Proofs.Ytpjbacpchmemeaa.DiI (cutV cut_all cut_take)
open Go.Proofs.Ytpjbacpchmemeaa.Rds (Rds rds_stab reads_ext)
open Go.Proofs.Ytpjbacpchmemeaa.Pred (Is is_stab Stab)
set_option linter.unusedVariables false
set_option linter.unusedSimpArgs false
set_option maxRecDepth 10000
/-- the entries in another order: the first so many -/
def od (l : List En) (k j : Nat) : List En := (List.range j).map fun t => at_ l ((l.length - 1 - t + k) % l.length)
theorem od_succ (l : List En) (k j : Nat) : od l k (j + 1) = od l k j ++ [at_ l ((l.length - 1 - j + k) % l.length)] := by simp [od, List.range_succ]
theorem od_len (l : List En) (k j : Nat) : (od l k j).length = j := by simp [od]
theorem od_B {l : List En} (h : RB l) (k j : Nat) : RB (od l k j) := fun p hp => by
  obtain ⟨t, _, rfl⟩ := List.mem_map.1 hp
  exact h.at _
theorem od_all (l : List En) {k : Nat} (hk : k ≤ l.length) : od l k l.length = (l.drop k ++ l.take k).reverse := by
  refine List.ext_getElem (by rw [od_len]; simp; omega) fun i h1 h2 => ?_
  rw [od_len] at h1
  rw [List.getElem_reverse]
  simp only [od, List.getElem_map, List.getElem_range]
  have hl : (l.drop k ++ l.take k).length = l.length := by simp; omega
  have hm : (l.length - 1 - i + k) % l.length < l.length := Nat.mod_lt _ (by omega)
  rw [DiM.at_get hm, List.getElem_append]
  by_cases h3 : l.length - 1 - i + k < l.length
  · have e : (l.length - 1 - i + k) % l.length = l.length - 1 - i + k := Nat.mod_eq_of_lt h3
    rw [dif_pos (by rw [hl, List.length_drop]; omega), List.getElem_drop]
    congr 1
    rw [e, hl]
    omega
  · have e : (l.length - 1 - i + k) % l.length = l.length - 1 - i + k - l.length := by rw [Nat.mod_eq_sub_mod (by omega), Nat.mod_eq_of_lt (by omega)]
    rw [dif_neg (by rw [hl, List.length_drop]; omega), List.getElem_take]
    congr 1
    rw [e, hl, List.length_drop]
    omega
theorem od_perm (l : List En) {k : Nat} (hk : k ≤ l.length) : (od l k l.length).Perm l := by
  rw [od_all l hk]
  refine (List.reverse_perm _).trans (List.perm_append_comm.trans ?_)
  rw [List.take_append_drop]
/-- its own entries in their places -/
theorem keep_own {l r : List En} (hp : r.Perm l) (ha : l.Pairwise apart) (k : Nat) : (l.take k ++ keepP (l.take k) r).Perm l := by
  have e : keepP (l.take k) l = l.drop k := by
    have h1 : keepP (l.take k) l = keepP (l.take k) (l.take k) ++ keepP (l.take k) (l.drop k) := by
      unfold keepP
      rw [← List.filter_append, List.take_append_drop]
    have h2 : keepP (l.take k) (l.take k) = [] := by
      unfold keepP
      refine List.filter_eq_nil_iff.2 fun p hp => ?_
      have : hasP (l.take k) p.P = true := List.any_eq_true.2 ⟨p, hp, by simp⟩
      simp [this]
    have h3 : keepP (l.take k) (l.drop k) = l.drop k := by
      unfold keepP
      refine List.filter_eq_self.2 fun p hp => ?_
      have ha' : (l.take k ++ l.drop k).Pairwise apart := by rw [List.take_append_drop]; exact ha
      have : hasP (l.take k) p.P = false := List.any_eq_false.2 fun q hq => by
        have := (List.pairwise_append.1 ha').2.2 q hq p hp
        simpa using this.1
      simp [this]
    rw [h1, h2, h3, List.nil_append]
  have h4 : (keepP (l.take k) r).Perm (l.drop k) := by
    rw [← e]
    exact hp.filter _
  refine (List.Perm.append_left _ h4).trans ?_
  rw [List.take_append_drop]
theorem keep_nil (l : List En) : l ++ keepP l [] = l := by simp [keepP]
theorem new_nil {d : Int} (h : depthB d = true) : newV d [] = some [] := by
  unfold newV
  rw [if_pos ⟨depth_yes h, by simp, List.Pairwise.nil⟩]
  rfl
attribute [local go_sem ↓] load_pg store_pg load_en store_en alloc_en
attribute [local go_sem] one_int pc3 piece_en DiI.fold_en run_load_pg run_store_pg run_alloc_en run_load_en run_store_en midLoad_eq rowLoad_eq rowStore_eq blk_alloc_at blk_alloc_old blk_drew blk_drewN blk_set_far blk_set_far' blk_grow setRow_alloc_at setRow_alloc_old setRow_drew setRow_drewN En.c_size En.c_all all6
set_option maxHeartbeats 4000000 in
theorem order_gen (a0 : Int) (ai : Option Addr) (len cap : Nat) (l : List En) (turn : Int) (w : World) (hl : l.length = len) (hcap : len ≤ cap) (hR : RdE w ai l) (hB : RB l) (hc1 : -9223372036854775808 ≤ turn) (hc2 : turn ≤ 9223372036854775807) :
    Calls Try.prog 6 #[.int .i64 a0, .slice ai len cap, .int .i64 turn] w fun e w' => e = .returned (.bool true) ∧ Below w.heap.size w w' := by
  by_cases hgood : (len : Int) ≤ 40
  case neg =>
    have hg : (40 : Int) < (len : Int) := by omega
    clear hR hB hl
    go_enter Try.func6, Try.ntmps6
    go_wp2_with fail
    refine (awake_any _).mono ?_
    rintro e w9 ⟨rfl, hb⟩
    go_wp2
    go_ret
    exact ⟨rfl, hb⟩
  have hg : ¬ (40 : Int) < (len : Int) := by omega
  have hn40 : len ≤ 40 := by omega
  have HR := Lib.hid hR
  have HB := Lib.hid hB
  have HL := Lib.hid hl
  clear hR hB hl hgood
  obtain ⟨o, eo⟩ : ∃ o, newV a0 l = o := ⟨_, rfl⟩
  have CN := Lib.hid (fun (h : newV a0 l = none) => new_not h ai cap w HR.out HB.out (by rw [HL.out]; omega))
  rw [HL.out] at CN
  cases o with
  | none =>
    go_enter Try.func6, Try.ntmps6
    go_wp2_with fail
    refine (CN.out eo).mono ?_
    rintro e w2 ⟨rfl, hb⟩
    go_wp2_with fail
    refine (awake_any _).mono ?_
    rintro e w9 ⟨rfl, hb9⟩
    go_wp2
    go_ret
    exact ⟨rfl, Rd.below_step hb hb9⟩
  | some r =>
    have CO := Lib.hid (new_ok eo ai cap w HR.out HB.out (by rw [HL.out]; omega))
    rw [HL.out] at CO
    have hrn : Hid (r.length = len) := Lib.hid ((new_len eo).trans HL.out)
    have EO := Lib.hid eo
    clear eo CN
    go_enter Try.func6, Try.ntmps6
    go_wp2_with fail
    refine CO.out.mono ?_
    rintro e X1 ⟨⟨b1, rfl, hD⟩, hb⟩
    have HD := Lib.hid hD
    have L1 := hb
    have HR1 := Lib.hid (HR.out.bel hb)
    clear hD hb CO HR
    go_wp2_with fail
    refine (Alk.round_any turn ((len : Int) + 1) _ hc1 hc2 (by omega) (by omega)).mono ?_
    rintro e w0 ⟨rfl, rfl⟩
    obtain ⟨k, hk⟩ : ∃ k : Nat, turn % ((len : Int) + 1) = (k : Int) := ⟨(turn % ((len : Int) + 1)).toNat, by have := Int.emod_nonneg turn (show (len : Int) + 1 ≠ 0 by omega); omega⟩
    have hkn : k ≤ len := by have := Int.emod_lt_of_pos turn (show (0 : Int) < (len : Int) + 1 by omega); omega
    rw [hk]
    clear hk hc1 hc2
    go_wp2_with fail
    go_loopw [10, 11] (fun v i W => ∃ j q : Nat, j + q = len ∧ i = .int .i64 ((q : Int) - 1) ∧ Hid (Rown W X1.heap.size v j (od l k j)) ∧ Below X1.heap.size X1 W) (fun _ i _ => (1 + intOf i).toNat)
    case atStart => exact ⟨0, len, by omega, by rfl, Lib.hid (World.ownsRow_nil _ _ _ _), by repeat' (first | (with_reducible exact Below.refl _ _) | (with_reducible refine Rd.below_step ?_ (by assumption)) | (with_reducible refine Rd.below_alloc ?_ _) | (with_reducible refine Rd.below_drewN ?_ _) | (with_reducible refine Below.drew ?_) | (with_reducible refine Below.setCell ?_ ?_ _) | (with_reducible refine Rd.below_setRow ?_ ?_ _) | go_size | (simp only [World.size_alloc]; omega) | omega)⟩
    case round =>
      obtain ⟨j, q, hj, hi, HW, hb⟩ := hrel
      rename World => W
      obtain ⟨av, cv, rfl, hcv⟩ := Rd.owns_val HW.out
      have sW := hb.size
      cases q with
      | succ i =>
        rw [show ((i + 1 : Nat) : Int) - 1 = (i : Int) by omega] at hi
        subst hi
        have hge : (0 : Int) ≤ (i : Int) := by omega
        obtain ⟨g, o, rfl⟩ : ∃ g o, ai = some ⟨g, o, none⟩ := HR1.out.2 (fun e => by have := HL.out; rw [e] at this; simp at this; omega)
        obtain ⟨x, hx⟩ : ∃ x, (i + k) % len = x := ⟨_, rfl⟩
        have hxl : x < len := by rw [← hx]; exact Nat.mod_lt _ (by omega)
        have hrem : ((i : Int) + (k : Int)).tmod (len : Int) = (x : Int) := by
          rw [Int.tmod_eq_emod_of_nonneg (by omega), ← hx]
          simp
        have hld := ld_en (HR1.out.bel hb).1 (i := x) (by rw [HL.out]; exact hxl)
        obtain ⟨p, ep⟩ : ∃ p, at_ l x = p := ⟨_, rfl⟩
        rw [ep] at hld
        have EP : Hid (at_ l ((l.length - 1 - j + k) % l.length) = p) := Lib.hid (by rw [HL.out, show len - 1 - j = i by omega, hx, ep])
        clear ep hx hcv
        go_wp2_with (at_builtin; refine app_en rfl (.tmp 53) (.tmp 63) rfl X1.heap.size _ _ _ rfl (HW.out.alloc _) W.heap.size 1 p rfl (blk_alloc_at _ _ _ rfl) (by omega) (by simp; omega) ?_; intro v4 w4 ho4 hg4)
        go_roundw
        case rel => exact ⟨j + 1, i, by omega, by rfl, Lib.hid (by rw [od_succ, EP.out]; exact ho4), DiI.below_grown (B := 0) (Below.alloc hb (by omega) _) hg4 (Nat.le_refl _) (fun r e => by have := (HW.out.lt r e).1; omega)⟩
        case measure => simp [intOf]; omega
      | zero =>
        subst hi
        obtain rfl : len = j := by omega
        have hge : ¬ (0 : Int) ≤ ((0 : Nat) : Int) - 1 := by omega
        have hjl : Hid (len = len) := Lib.hid rfl
        have hp1 : Hid (newV a0 (od l k len) = some r) := Lib.hid (by
          have := od_perm l (k := k) (by rw [HL.out]; exact hkn)
          rw [HL.out] at this
          rw [newV_perm this, EO.out])
        have hp2 : Hid (newV a0 (l.take k ++ keepP (l.take k) r) = some r) := Lib.hid (by
          have h2 := new_some EO.out
          rw [newV_perm (keep_own (h2.2 ▸ srt_perm a0 l) h2.1.2.2 k), EO.out])
        have hkl : Hid ((l.take k).length = k) := Lib.hid (by rw [List.length_take, HL.out]; omega)
        have hfr := fun y => front_en ai len cap k y (by omega)
        obtain ⟨a', c', e', hRd⟩ := DiJ.Rown.rd HW.out
        injection e' with e1 e2 e3
        subst e1 e3
        have HRo := Lib.hid hRd
        have HDW := Lib.hid (HD.out.below hb)
        have HRW := Lib.hid (HR1.out.bel hb)
        have LW := L1.trans (hb.mono L1.size)
        have hol : Hid ((od l k len).length = len) := Lib.hid (od_len _ _ _)
        have HBo := Lib.hid (od_B HB.out k len)
        obtain ⟨O, eO⟩ : ∃ O, od l k len = O := ⟨_, rfl⟩
        rw [eO] at hp1 HRo hol HBo
        have CO2 := Lib.hid (new_ok hp1.out av cv W HRo.out HBo.out (by rw [hol.out]; omega))
        rw [hol.out] at CO2
        clear hRd e2 eO HW hb HR1 HD L1 hcv
        go_wp2_with fail
        refine CO2.out.mono ?_
        rintro e X2 ⟨⟨b2, rfl, hD⟩, hb⟩
        have HE2 := Lib.hid hD
        have HD2 := Lib.hid (HDW.out.below hb)
        have HR2 := Lib.hid (HRW.out.bel hb)
        have HO2 := Lib.hid (HRo.out.bel hb)
        have L2 := Rd.below_step LW hb
        have CW := Lib.hid (with_ok hp2.out HD2.out ai cap (HR2.out.take k) (fun p hp => HB.out p (List.mem_of_mem_take hp)) (by rw [hkl.out, hrn.out]; omega))
        rw [hkl.out] at CW
        clear hD hb LW CO2 HDW HRW HRo
        go_wp2_with fail
        refine CW.out.mono ?_
        rintro e X3 ⟨⟨b3, rfl, hD⟩, hb⟩
        have HF3 := Lib.hid hD
        have HE3 := Lib.hid (HE2.out.below hb)
        have HD3 := Lib.hid (HD2.out.below hb)
        have HO3 := Lib.hid (HO2.out.bel hb)
        have L3 := Rd.below_step L2 hb
        clear hD hb L2 CW HR2 HE2 HD2 HO2 hfr
        go_wp2_with fail
        refine (new_ok (new_nil (db_depth HD3.out)) none 0 X3 ⟨⟨rfl, .inl rfl⟩, fun e => absurd rfl e⟩ (by simp [RB]) (by simp)).mono ?_
        rintro e X4 ⟨⟨b4, rfl, hD⟩, hb⟩
        have HG4 := Lib.hid hD
        have HF4 := Lib.hid (HF3.out.below hb)
        have HE4 := Lib.hid (HE3.out.below hb)
        have HD4 := Lib.hid (HD3.out.below hb)
        have HO4 := Lib.hid (HO3.out.bel hb)
        have L4 := Rd.below_step L3 hb
        have CW := Lib.hid (with_ok (l := O) (r := []) (s := r) (by rw [keep_nil, hp1.out]) HG4.out av cv HO4.out HBo.out (by rw [hol.out]; simp; omega))
        rw [hol.out] at CW
        clear hD hb L3 HF3 HE3 HD3 HO3 HG4 HO4
        go_wp2_with fail
        refine CW.out.mono ?_
        rintro e Z ⟨⟨b5, rfl, hD⟩, hb⟩
        have HG := Lib.hid hD
        have HF := Lib.hid (HF4.out.below hb)
        have HE := Lib.hid (HE4.out.below hb)
        have HD := Lib.hid (HD4.out.below hb)
        have L5 := Rd.below_step L4 hb
        have HZ := Lib.hid (dirB_bd a0 r)
        obtain ⟨N, eN⟩ : ∃ N, 10 * r.length = N := ⟨_, rfl⟩
        have EN := Lib.hid eN
        clear hD hb L4 HF4 HE4 HD4 CW eN hp1 hp2 hkl HBo hol
        go_upto_region 18 with (fail)
        refine Pred.region_vals (Pred.Of [
            Is (.int .i64 0),
            Is (.bool true),
            Is (.bool true),
            Is (.pointer (some ⟨b5, 0, none⟩)),
            Is (.bool true),
            Is (.bool true),
            Is (.bool true),
            Is (.pointer (some ⟨b1, 0, none⟩)),
            Rds (dirB a0 r),
            Is (.string (bytesOf (dirB a0 r))),
            Is (.pointer (some ⟨b2, 0, none⟩)),
            Rds (dirB a0 r),
            Is (.string (bytesOf (dirB a0 r))),
            Is (.bool true),
            Is (.bool true),
            Is (.bool true),
            Is (.pointer (some ⟨b1, 0, none⟩)),
            Rds (dirB a0 r),
            Is (.string (bytesOf (dirB a0 r))),
            Is (.pointer (some ⟨b3, 0, none⟩)),
            Rds (dirB a0 r),
            Is (.string (bytesOf (dirB a0 r))),
            Is (.bool true),
            Is (.bool true),
            Is (.bool true),
            Is (.pointer (some ⟨b1, 0, none⟩)),
            Rds (dirB a0 r),
            Is (.string (bytesOf (dirB a0 r))),
            Is (.pointer (some ⟨b5, 0, none⟩)),
            Rds (dirB a0 r),
            Is (.string (bytesOf (dirB a0 r))),
            Is (.bool true),
            Is (.bool true),
            Is (.bool true),
            Is (.pointer (some ⟨b1, 0, none⟩)),
            SE r,
            Is (.pointer (some ⟨b2, 0, none⟩)),
            SE r,
            Is (.bool true),
            Is (.bool true),
            Is (.bool true),
            Is (.bool true),
            Is (.bool true),
            Is (.bool true)]) (by kernel_rfl) (by kernel_rfl) (by kernel_rfl) (Pred.of_stab ?_) ?_ ?_
        · exact ⟨is_stab _, is_stab _, is_stab _, is_stab _, is_stab _, is_stab _, is_stab _, is_stab _, rds_stab _, is_stab _, is_stab _, rds_stab _, is_stab _, is_stab _, is_stab _, is_stab _, is_stab _, rds_stab _, is_stab _, is_stab _, rds_stab _, is_stab _, is_stab _, is_stab _, is_stab _, is_stab _, rds_stab _, is_stab _, is_stab _, rds_stab _, is_stab _, is_stab _, is_stab _, is_stab _, is_stab _, se_stab _, is_stab _, se_stab _, is_stab _, is_stab _, is_stab _, is_stab _, is_stab _, is_stab _, trivial⟩
        · refine ⟨?_, ?_, ?_, ?_, ?_, ?_, ?_, ?_, ?_, ?_, ?_, ?_, ?_, ?_, ?_, ?_, ?_, ?_, ?_, ?_, ?_, ?_, ?_, ?_, ?_, ?_, ?_, ?_, ?_, ?_, ?_, ?_, ?_, ?_, ?_, ?_, ?_, ?_, ?_, ?_, ?_, ?_, ?_, ?_, trivial⟩
          · intro b X hE hd hn hV
            have r19 : b.tmps[19]?.getD undef = .int .i64 0 := (hn 19 (by kernel_rfl)).trans rfl
            exact Pred.yields_run (v := .int .i64 0) (Pred.wanted_none rfl) (by go_simp) ⟨Pred.ext_refl _ _, rfl⟩
          · intro b X hE hd hn hV
            have r112 : b.tmps[112]?.getD undef = .int .i64 0 := hV 0 _ 112 rfl rfl (Pred.waits_near (by kernel_rfl) (by kernel_rfl))
            exact Pred.yields_run (v := .bool true) (Pred.wanted_none rfl) (by go_simp) ⟨Pred.ext_refl _ _, rfl⟩
          · intro b X hE hd hn hV
            have r113 : b.tmps[113]?.getD undef = .bool true := hV 1 _ 113 rfl rfl (Pred.waits_near (by kernel_rfl) (by kernel_rfl))
            exact Pred.yields_run (v := .bool true) (Pred.wanted_none rfl) (by go_simp) ⟨Pred.ext_refl _ _, rfl⟩
          · intro b X hE hd hn hV
            have r18 : b.tmps[18]?.getD undef = .pointer (some ⟨b5, 0, none⟩) := (hn 18 (by kernel_rfl)).trans rfl
            have r114 : b.tmps[114]?.getD undef = .bool true := hV 2 _ 114 rfl rfl (Pred.waits_near (by kernel_rfl) (by kernel_rfl))
            exact Pred.yields_run (v := .pointer (some ⟨b5, 0, none⟩)) ((Pred.wanted_at (g := 2) (d := 114) (f := true) rfl rfl r114).trans rfl) (by go_simp) ⟨Pred.ext_refl _ _, rfl⟩
          · intro b X hE hd hn hV
            have r115 : b.tmps[115]?.getD undef = .pointer (some ⟨b5, 0, none⟩) := hV 3 _ 115 rfl rfl (Pred.waits_near (by kernel_rfl) (by kernel_rfl))
            have r114 : b.tmps[114]?.getD undef = .bool true := hV 2 _ 114 rfl rfl (Pred.waits_near (by kernel_rfl) (by kernel_rfl))
            exact Pred.yields_run (v := .bool true) ((Pred.wanted_at (g := 2) (d := 114) (f := true) rfl rfl r114).trans rfl) (by go_simp) ⟨Pred.ext_refl _ _, rfl⟩
          · intro b X hE hd hn hV
            have r114 : b.tmps[114]?.getD undef = .bool true := hV 2 _ 114 rfl rfl (Pred.waits_near (by kernel_rfl) (by kernel_rfl))
            have r116 : b.tmps[116]?.getD undef = .bool true := hV 4 _ 116 rfl rfl (Pred.waits_near (by kernel_rfl) (by kernel_rfl))
            exact Pred.yields_run (v := .bool true) (Pred.wanted_none rfl) (by go_simp) ⟨Pred.ext_refl _ _, rfl⟩
          · intro b X hE hd hn hV
            have r117 : b.tmps[117]?.getD undef = .bool true := hV 5 _ 117 rfl rfl (Pred.waits_near (by kernel_rfl) (by kernel_rfl))
            exact Pred.yields_run (v := .bool true) (Pred.wanted_none rfl) (by go_simp) ⟨Pred.ext_refl _ _, rfl⟩
          · intro b X hE hd hn hV
            have r7 : b.tmps[7]?.getD undef = .pointer (some ⟨b1, 0, none⟩) := (hn 7 (by kernel_rfl)).trans rfl
            have r118 : b.tmps[118]?.getD undef = .bool true := hV 6 _ 118 rfl rfl (Pred.waits_near (by kernel_rfl) (by kernel_rfl))
            exact Pred.yields_run (v := .pointer (some ⟨b1, 0, none⟩)) ((Pred.wanted_at (g := 6) (d := 118) (f := true) rfl rfl r118).trans rfl) (by go_simp) ⟨Pred.ext_refl _ _, rfl⟩
          · intro b X hE hd hn hV
            have r119 : b.tmps[119]?.getD undef = .pointer (some ⟨b1, 0, none⟩) := hV 7 _ 119 rfl rfl (Pred.waits_near (by kernel_rfl) (by kernel_rfl))
            have r118 : b.tmps[118]?.getD undef = .bool true := hV 6 _ 118 rfl rfl (Pred.waits_near (by kernel_rfl) (by kernel_rfl))
            refine Pred.yields_call (f := 21) (args := #[.pointer (some ⟨b1, 0, none⟩)]) ((Pred.wanted_at (g := 6) (d := 118) (f := true) rfl rfl r118).trans rfl) (by go_simp) ?_
            have C := bytes_db (HD.out.below hE)
            exact C.mono fun e w2 ⟨⟨a, c, he, _, hr⟩, hb⟩ => ⟨_, he, Pred.ext_below hb hE.size, _, _, _, rfl, hr⟩
          · intro b X hE hd hn hV
            obtain ⟨ga120, na120, ca120, r120, hr120⟩ : Rds (dirB a0 r) (b.tmps[120]?.getD undef) X := hV 8 _ 120 rfl rfl (Pred.waits_near (by kernel_rfl) (by kernel_rfl))
            have r118 : b.tmps[118]?.getD undef = .bool true := hV 6 _ 118 rfl rfl (Pred.waits_near (by kernel_rfl) (by kernel_rfl))
            have hc := conv_reads (P := Try.prog) (src := 23) (dst := 9) (cap := ca120) Try.underlying23 Try.underlying5 Try.underlying9 hr120 HZ.out
            exact Pred.yields_run (v := .string (bytesOf (dirB a0 r))) ((Pred.wanted_at (g := 6) (d := 118) (f := true) rfl rfl r118).trans rfl) (by go_simp) ⟨Pred.ext_refl _ _, rfl⟩
          · intro b X hE hd hn hV
            have r12 : b.tmps[12]?.getD undef = .pointer (some ⟨b2, 0, none⟩) := (hn 12 (by kernel_rfl)).trans rfl
            have r118 : b.tmps[118]?.getD undef = .bool true := hV 6 _ 118 rfl rfl (Pred.waits_near (by kernel_rfl) (by kernel_rfl))
            exact Pred.yields_run (v := .pointer (some ⟨b2, 0, none⟩)) ((Pred.wanted_at (g := 6) (d := 118) (f := true) rfl rfl r118).trans rfl) (by go_simp) ⟨Pred.ext_refl _ _, rfl⟩
          · intro b X hE hd hn hV
            have r122 : b.tmps[122]?.getD undef = .pointer (some ⟨b2, 0, none⟩) := hV 10 _ 122 rfl rfl (Pred.waits_near (by kernel_rfl) (by kernel_rfl))
            have r118 : b.tmps[118]?.getD undef = .bool true := hV 6 _ 118 rfl rfl (Pred.waits_near (by kernel_rfl) (by kernel_rfl))
            refine Pred.yields_call (f := 21) (args := #[.pointer (some ⟨b2, 0, none⟩)]) ((Pred.wanted_at (g := 6) (d := 118) (f := true) rfl rfl r118).trans rfl) (by go_simp) ?_
            have C := bytes_db (HE.out.below hE)
            exact C.mono fun e w2 ⟨⟨a, c, he, _, hr⟩, hb⟩ => ⟨_, he, Pred.ext_below hb hE.size, _, _, _, rfl, hr⟩
          · intro b X hE hd hn hV
            obtain ⟨ga123, na123, ca123, r123, hr123⟩ : Rds (dirB a0 r) (b.tmps[123]?.getD undef) X := hV 11 _ 123 rfl rfl (Pred.waits_near (by kernel_rfl) (by kernel_rfl))
            have r118 : b.tmps[118]?.getD undef = .bool true := hV 6 _ 118 rfl rfl (Pred.waits_near (by kernel_rfl) (by kernel_rfl))
            have hc := conv_reads (P := Try.prog) (src := 23) (dst := 9) (cap := ca123) Try.underlying23 Try.underlying5 Try.underlying9 hr123 HZ.out
            exact Pred.yields_run (v := .string (bytesOf (dirB a0 r))) ((Pred.wanted_at (g := 6) (d := 118) (f := true) rfl rfl r118).trans rfl) (by go_simp) ⟨Pred.ext_refl _ _, rfl⟩
          · intro b X hE hd hn hV
            have r121 : b.tmps[121]?.getD undef = .string (bytesOf (dirB a0 r)) := hV 9 _ 121 rfl rfl (Pred.waits_near (by kernel_rfl) (by kernel_rfl))
            have r124 : b.tmps[124]?.getD undef = .string (bytesOf (dirB a0 r)) := hV 12 _ 124 rfl rfl (Pred.waits_near (by kernel_rfl) (by kernel_rfl))
            have r118 : b.tmps[118]?.getD undef = .bool true := hV 6 _ 118 rfl rfl (Pred.waits_near (by kernel_rfl) (by kernel_rfl))
            exact Pred.yields_run (v := .bool true) ((Pred.wanted_at (g := 6) (d := 118) (f := true) rfl rfl r118).trans rfl) (by go_simp) ⟨Pred.ext_refl _ _, rfl⟩
          · intro b X hE hd hn hV
            have r118 : b.tmps[118]?.getD undef = .bool true := hV 6 _ 118 rfl rfl (Pred.waits_near (by kernel_rfl) (by kernel_rfl))
            have r125 : b.tmps[125]?.getD undef = .bool true := hV 13 _ 125 rfl rfl (Pred.waits_near (by kernel_rfl) (by kernel_rfl))
            exact Pred.yields_run (v := .bool true) (Pred.wanted_none rfl) (by go_simp) ⟨Pred.ext_refl _ _, rfl⟩
          · intro b X hE hd hn hV
            have r126 : b.tmps[126]?.getD undef = .bool true := hV 14 _ 126 rfl rfl (Pred.waits_near (by kernel_rfl) (by kernel_rfl))
            exact Pred.yields_run (v := .bool true) (Pred.wanted_none rfl) (by go_simp) ⟨Pred.ext_refl _ _, rfl⟩
          · intro b X hE hd hn hV
            have r7 : b.tmps[7]?.getD undef = .pointer (some ⟨b1, 0, none⟩) := (hn 7 (by kernel_rfl)).trans rfl
            have r127 : b.tmps[127]?.getD undef = .bool true := hV 15 _ 127 rfl rfl (Pred.waits_near (by kernel_rfl) (by kernel_rfl))
            exact Pred.yields_run (v := .pointer (some ⟨b1, 0, none⟩)) ((Pred.wanted_at (g := 15) (d := 127) (f := true) rfl rfl r127).trans rfl) (by go_simp) ⟨Pred.ext_refl _ _, rfl⟩
          · intro b X hE hd hn hV
            have r128 : b.tmps[128]?.getD undef = .pointer (some ⟨b1, 0, none⟩) := hV 16 _ 128 rfl rfl (Pred.waits_near (by kernel_rfl) (by kernel_rfl))
            have r127 : b.tmps[127]?.getD undef = .bool true := hV 15 _ 127 rfl rfl (Pred.waits_near (by kernel_rfl) (by kernel_rfl))
            refine Pred.yields_call (f := 21) (args := #[.pointer (some ⟨b1, 0, none⟩)]) ((Pred.wanted_at (g := 15) (d := 127) (f := true) rfl rfl r127).trans rfl) (by go_simp) ?_
            have C := bytes_db (HD.out.below hE)
            exact C.mono fun e w2 ⟨⟨a, c, he, _, hr⟩, hb⟩ => ⟨_, he, Pred.ext_below hb hE.size, _, _, _, rfl, hr⟩
          · intro b X hE hd hn hV
            obtain ⟨ga129, na129, ca129, r129, hr129⟩ : Rds (dirB a0 r) (b.tmps[129]?.getD undef) X := hV 17 _ 129 rfl rfl (Pred.waits_near (by kernel_rfl) (by kernel_rfl))
            have r127 : b.tmps[127]?.getD undef = .bool true := hV 15 _ 127 rfl rfl (Pred.waits_near (by kernel_rfl) (by kernel_rfl))
            have hc := conv_reads (P := Try.prog) (src := 23) (dst := 9) (cap := ca129) Try.underlying23 Try.underlying5 Try.underlying9 hr129 HZ.out
            exact Pred.yields_run (v := .string (bytesOf (dirB a0 r))) ((Pred.wanted_at (g := 15) (d := 127) (f := true) rfl rfl r127).trans rfl) (by go_simp) ⟨Pred.ext_refl _ _, rfl⟩
          · intro b X hE hd hn hV
            have r14 : b.tmps[14]?.getD undef = .pointer (some ⟨b3, 0, none⟩) := (hn 14 (by kernel_rfl)).trans rfl
            have r127 : b.tmps[127]?.getD undef = .bool true := hV 15 _ 127 rfl rfl (Pred.waits_near (by kernel_rfl) (by kernel_rfl))
            exact Pred.yields_run (v := .pointer (some ⟨b3, 0, none⟩)) ((Pred.wanted_at (g := 15) (d := 127) (f := true) rfl rfl r127).trans rfl) (by go_simp) ⟨Pred.ext_refl _ _, rfl⟩
          · intro b X hE hd hn hV
            have r131 : b.tmps[131]?.getD undef = .pointer (some ⟨b3, 0, none⟩) := hV 19 _ 131 rfl rfl (Pred.waits_near (by kernel_rfl) (by kernel_rfl))
            have r127 : b.tmps[127]?.getD undef = .bool true := hV 15 _ 127 rfl rfl (Pred.waits_near (by kernel_rfl) (by kernel_rfl))
            refine Pred.yields_call (f := 21) (args := #[.pointer (some ⟨b3, 0, none⟩)]) ((Pred.wanted_at (g := 15) (d := 127) (f := true) rfl rfl r127).trans rfl) (by go_simp) ?_
            have C := bytes_db (HF.out.below hE)
            exact C.mono fun e w2 ⟨⟨a, c, he, _, hr⟩, hb⟩ => ⟨_, he, Pred.ext_below hb hE.size, _, _, _, rfl, hr⟩
          · intro b X hE hd hn hV
            obtain ⟨ga132, na132, ca132, r132, hr132⟩ : Rds (dirB a0 r) (b.tmps[132]?.getD undef) X := hV 20 _ 132 rfl rfl (Pred.waits_near (by kernel_rfl) (by kernel_rfl))
            have r127 : b.tmps[127]?.getD undef = .bool true := hV 15 _ 127 rfl rfl (Pred.waits_near (by kernel_rfl) (by kernel_rfl))
            have hc := conv_reads (P := Try.prog) (src := 23) (dst := 9) (cap := ca132) Try.underlying23 Try.underlying5 Try.underlying9 hr132 HZ.out
            exact Pred.yields_run (v := .string (bytesOf (dirB a0 r))) ((Pred.wanted_at (g := 15) (d := 127) (f := true) rfl rfl r127).trans rfl) (by go_simp) ⟨Pred.ext_refl _ _, rfl⟩
          · intro b X hE hd hn hV
            have r130 : b.tmps[130]?.getD undef = .string (bytesOf (dirB a0 r)) := hV 18 _ 130 rfl rfl (Pred.waits_near (by kernel_rfl) (by kernel_rfl))
            have r133 : b.tmps[133]?.getD undef = .string (bytesOf (dirB a0 r)) := hV 21 _ 133 rfl rfl (Pred.waits_near (by kernel_rfl) (by kernel_rfl))
            have r127 : b.tmps[127]?.getD undef = .bool true := hV 15 _ 127 rfl rfl (Pred.waits_near (by kernel_rfl) (by kernel_rfl))
            exact Pred.yields_run (v := .bool true) ((Pred.wanted_at (g := 15) (d := 127) (f := true) rfl rfl r127).trans rfl) (by go_simp) ⟨Pred.ext_refl _ _, rfl⟩
          · intro b X hE hd hn hV
            have r127 : b.tmps[127]?.getD undef = .bool true := hV 15 _ 127 rfl rfl (Pred.waits_near (by kernel_rfl) (by kernel_rfl))
            have r134 : b.tmps[134]?.getD undef = .bool true := hV 22 _ 134 rfl rfl (Pred.waits_near (by kernel_rfl) (by kernel_rfl))
            exact Pred.yields_run (v := .bool true) (Pred.wanted_none rfl) (by go_simp) ⟨Pred.ext_refl _ _, rfl⟩
          · intro b X hE hd hn hV
            have r135 : b.tmps[135]?.getD undef = .bool true := hV 23 _ 135 rfl rfl (Pred.waits_near (by kernel_rfl) (by kernel_rfl))
            exact Pred.yields_run (v := .bool true) (Pred.wanted_none rfl) (by go_simp) ⟨Pred.ext_refl _ _, rfl⟩
          · intro b X hE hd hn hV
            have r7 : b.tmps[7]?.getD undef = .pointer (some ⟨b1, 0, none⟩) := (hn 7 (by kernel_rfl)).trans rfl
            have r136 : b.tmps[136]?.getD undef = .bool true := hV 24 _ 136 rfl rfl (Pred.waits_near (by kernel_rfl) (by kernel_rfl))
            exact Pred.yields_run (v := .pointer (some ⟨b1, 0, none⟩)) ((Pred.wanted_at (g := 24) (d := 136) (f := true) rfl rfl r136).trans rfl) (by go_simp) ⟨Pred.ext_refl _ _, rfl⟩
          · intro b X hE hd hn hV
            have r137 : b.tmps[137]?.getD undef = .pointer (some ⟨b1, 0, none⟩) := hV 25 _ 137 rfl rfl (Pred.waits_near (by kernel_rfl) (by kernel_rfl))
            have r136 : b.tmps[136]?.getD undef = .bool true := hV 24 _ 136 rfl rfl (Pred.waits_near (by kernel_rfl) (by kernel_rfl))
            refine Pred.yields_call (f := 21) (args := #[.pointer (some ⟨b1, 0, none⟩)]) ((Pred.wanted_at (g := 24) (d := 136) (f := true) rfl rfl r136).trans rfl) (by go_simp) ?_
            have C := bytes_db (HD.out.below hE)
            exact C.mono fun e w2 ⟨⟨a, c, he, _, hr⟩, hb⟩ => ⟨_, he, Pred.ext_below hb hE.size, _, _, _, rfl, hr⟩
          · intro b X hE hd hn hV
            obtain ⟨ga138, na138, ca138, r138, hr138⟩ : Rds (dirB a0 r) (b.tmps[138]?.getD undef) X := hV 26 _ 138 rfl rfl (Pred.waits_near (by kernel_rfl) (by kernel_rfl))
            have r136 : b.tmps[136]?.getD undef = .bool true := hV 24 _ 136 rfl rfl (Pred.waits_near (by kernel_rfl) (by kernel_rfl))
            have hc := conv_reads (P := Try.prog) (src := 23) (dst := 9) (cap := ca138) Try.underlying23 Try.underlying5 Try.underlying9 hr138 HZ.out
            exact Pred.yields_run (v := .string (bytesOf (dirB a0 r))) ((Pred.wanted_at (g := 24) (d := 136) (f := true) rfl rfl r136).trans rfl) (by go_simp) ⟨Pred.ext_refl _ _, rfl⟩
          · intro b X hE hd hn hV
            have r18 : b.tmps[18]?.getD undef = .pointer (some ⟨b5, 0, none⟩) := (hn 18 (by kernel_rfl)).trans rfl
            have r136 : b.tmps[136]?.getD undef = .bool true := hV 24 _ 136 rfl rfl (Pred.waits_near (by kernel_rfl) (by kernel_rfl))
            exact Pred.yields_run (v := .pointer (some ⟨b5, 0, none⟩)) ((Pred.wanted_at (g := 24) (d := 136) (f := true) rfl rfl r136).trans rfl) (by go_simp) ⟨Pred.ext_refl _ _, rfl⟩
          · intro b X hE hd hn hV
            have r140 : b.tmps[140]?.getD undef = .pointer (some ⟨b5, 0, none⟩) := hV 28 _ 140 rfl rfl (Pred.waits_near (by kernel_rfl) (by kernel_rfl))
            have r136 : b.tmps[136]?.getD undef = .bool true := hV 24 _ 136 rfl rfl (Pred.waits_near (by kernel_rfl) (by kernel_rfl))
            refine Pred.yields_call (f := 21) (args := #[.pointer (some ⟨b5, 0, none⟩)]) ((Pred.wanted_at (g := 24) (d := 136) (f := true) rfl rfl r136).trans rfl) (by go_simp) ?_
            have C := bytes_db (HG.out.below hE)
            exact C.mono fun e w2 ⟨⟨a, c, he, _, hr⟩, hb⟩ => ⟨_, he, Pred.ext_below hb hE.size, _, _, _, rfl, hr⟩
          · intro b X hE hd hn hV
            obtain ⟨ga141, na141, ca141, r141, hr141⟩ : Rds (dirB a0 r) (b.tmps[141]?.getD undef) X := hV 29 _ 141 rfl rfl (Pred.waits_near (by kernel_rfl) (by kernel_rfl))
            have r136 : b.tmps[136]?.getD undef = .bool true := hV 24 _ 136 rfl rfl (Pred.waits_near (by kernel_rfl) (by kernel_rfl))
            have hc := conv_reads (P := Try.prog) (src := 23) (dst := 9) (cap := ca141) Try.underlying23 Try.underlying5 Try.underlying9 hr141 HZ.out
            exact Pred.yields_run (v := .string (bytesOf (dirB a0 r))) ((Pred.wanted_at (g := 24) (d := 136) (f := true) rfl rfl r136).trans rfl) (by go_simp) ⟨Pred.ext_refl _ _, rfl⟩
          · intro b X hE hd hn hV
            have r139 : b.tmps[139]?.getD undef = .string (bytesOf (dirB a0 r)) := hV 27 _ 139 rfl rfl (Pred.waits_near (by kernel_rfl) (by kernel_rfl))
            have r142 : b.tmps[142]?.getD undef = .string (bytesOf (dirB a0 r)) := hV 30 _ 142 rfl rfl (Pred.waits_near (by kernel_rfl) (by kernel_rfl))
            have r136 : b.tmps[136]?.getD undef = .bool true := hV 24 _ 136 rfl rfl (Pred.waits_near (by kernel_rfl) (by kernel_rfl))
            exact Pred.yields_run (v := .bool true) ((Pred.wanted_at (g := 24) (d := 136) (f := true) rfl rfl r136).trans rfl) (by go_simp) ⟨Pred.ext_refl _ _, rfl⟩
          · intro b X hE hd hn hV
            have r136 : b.tmps[136]?.getD undef = .bool true := hV 24 _ 136 rfl rfl (Pred.waits_near (by kernel_rfl) (by kernel_rfl))
            have r143 : b.tmps[143]?.getD undef = .bool true := hV 31 _ 143 rfl rfl (Pred.waits_near (by kernel_rfl) (by kernel_rfl))
            exact Pred.yields_run (v := .bool true) (Pred.wanted_none rfl) (by go_simp) ⟨Pred.ext_refl _ _, rfl⟩
          · intro b X hE hd hn hV
            have r144 : b.tmps[144]?.getD undef = .bool true := hV 32 _ 144 rfl rfl (Pred.waits_near (by kernel_rfl) (by kernel_rfl))
            exact Pred.yields_run (v := .bool true) (Pred.wanted_none rfl) (by go_simp) ⟨Pred.ext_refl _ _, rfl⟩
          · intro b X hE hd hn hV
            have r7 : b.tmps[7]?.getD undef = .pointer (some ⟨b1, 0, none⟩) := (hn 7 (by kernel_rfl)).trans rfl
            have r145 : b.tmps[145]?.getD undef = .bool true := hV 33 _ 145 rfl rfl (Pred.waits_near (by kernel_rfl) (by kernel_rfl))
            exact Pred.yields_run (v := .pointer (some ⟨b1, 0, none⟩)) ((Pred.wanted_at (g := 33) (d := 145) (f := true) rfl rfl r145).trans rfl) (by go_simp) ⟨Pred.ext_refl _ _, rfl⟩
          · intro b X hE hd hn hV
            have r146 : b.tmps[146]?.getD undef = .pointer (some ⟨b1, 0, none⟩) := hV 34 _ 146 rfl rfl (Pred.waits_near (by kernel_rfl) (by kernel_rfl))
            have r145 : b.tmps[145]?.getD undef = .bool true := hV 33 _ 145 rfl rfl (Pred.waits_near (by kernel_rfl) (by kernel_rfl))
            refine Pred.yields_call (f := 20) (args := #[.pointer (some ⟨b1, 0, none⟩), .int .i64 (-1)]) ((Pred.wanted_at (g := 33) (d := 145) (f := true) rfl rfl r145).trans rfl) (by go_simp) ?_
            have C := all_db (HD.out.below hE) (-1)
            rw [cut_all] at C
            exact C.mono fun e w2 ⟨⟨u, he, hu⟩, hb⟩ => ⟨_, he, Pred.ext_below hb hE.size, hu⟩
          · intro b X hE hd hn hV
            have r12 : b.tmps[12]?.getD undef = .pointer (some ⟨b2, 0, none⟩) := (hn 12 (by kernel_rfl)).trans rfl
            have r145 : b.tmps[145]?.getD undef = .bool true := hV 33 _ 145 rfl rfl (Pred.waits_near (by kernel_rfl) (by kernel_rfl))
            exact Pred.yields_run (v := .pointer (some ⟨b2, 0, none⟩)) ((Pred.wanted_at (g := 33) (d := 145) (f := true) rfl rfl r145).trans rfl) (by go_simp) ⟨Pred.ext_refl _ _, rfl⟩
          · intro b X hE hd hn hV
            have r148 : b.tmps[148]?.getD undef = .pointer (some ⟨b2, 0, none⟩) := hV 36 _ 148 rfl rfl (Pred.waits_near (by kernel_rfl) (by kernel_rfl))
            have r145 : b.tmps[145]?.getD undef = .bool true := hV 33 _ 145 rfl rfl (Pred.waits_near (by kernel_rfl) (by kernel_rfl))
            refine Pred.yields_call (f := 20) (args := #[.pointer (some ⟨b2, 0, none⟩), .int .i64 (-1)]) ((Pred.wanted_at (g := 33) (d := 145) (f := true) rfl rfl r145).trans rfl) (by go_simp) ?_
            have C := all_db (HE.out.below hE) (-1)
            rw [cut_all] at C
            exact C.mono fun e w2 ⟨⟨u, he, hu⟩, hb⟩ => ⟨_, he, Pred.ext_below hb hE.size, hu⟩
          · intro b X hE hd hn hV
            obtain ⟨ga147, ca147, r147, hr147, hc147⟩ : SE r (b.tmps[147]?.getD undef) X := hV 35 _ 147 rfl rfl (Pred.waits_near (by kernel_rfl) (by kernel_rfl))
            obtain ⟨ga149, ca149, r149, hr149, hc149⟩ : SE r (b.tmps[149]?.getD undef) X := hV 37 _ 149 rfl rfl (Pred.waits_near (by kernel_rfl) (by kernel_rfl))
            have r145 : b.tmps[145]?.getD undef = .bool true := hV 33 _ 145 rfl rfl (Pred.waits_near (by kernel_rfl) (by kernel_rfl))
            refine Pred.yields_call (f := 19) (args := #[.slice ga147 r.length ca147, .slice ga149 r.length ca149]) ((Pred.wanted_at (g := 33) (d := 145) (f := true) rfl rfl r145).trans rfl) (by go_simp) ?_
            have C := same_n r r r.length r.length ga147 ga149 ca147 ca149 X hr147 hr149 rfl rfl (by have := hrn.out; omega) (by have := hrn.out; omega) (q := true) (by simp)
            exact C.mono fun e w2 ⟨he, hb⟩ => ⟨_, he, Pred.ext_below hb hE.size, rfl⟩
          · intro b X hE hd hn hV
            have r145 : b.tmps[145]?.getD undef = .bool true := hV 33 _ 145 rfl rfl (Pred.waits_near (by kernel_rfl) (by kernel_rfl))
            have r150 : b.tmps[150]?.getD undef = .bool true := hV 38 _ 150 rfl rfl (Pred.waits_near (by kernel_rfl) (by kernel_rfl))
            exact Pred.yields_run (v := .bool true) (Pred.wanted_none rfl) (by go_simp) ⟨Pred.ext_refl _ _, rfl⟩
          · intro b X hE hd hn hV
            have r151 : b.tmps[151]?.getD undef = .bool true := hV 39 _ 151 rfl rfl (Pred.waits_near (by kernel_rfl) (by kernel_rfl))
            exact Pred.yields_run (v := .bool true) (Pred.wanted_none rfl) (by go_simp) ⟨Pred.ext_refl _ _, rfl⟩
          · intro b X hE hd hn hV
            have r152 : b.tmps[152]?.getD undef = .bool true := hV 40 _ 152 rfl rfl (Pred.waits_near (by kernel_rfl) (by kernel_rfl))
            refine Pred.yields_call (f := 7) (args := #[]) ((Pred.wanted_at (g := 40) (d := 152) (f := true) rfl rfl r152).trans rfl) (by go_simp) ?_
            have C := awake_any X
            exact C.mono fun e w2 ⟨he, hb⟩ => ⟨_, he, Pred.ext_below hb hE.size, rfl⟩
          · intro b X hE hd hn hV
            have r152 : b.tmps[152]?.getD undef = .bool true := hV 40 _ 152 rfl rfl (Pred.waits_near (by kernel_rfl) (by kernel_rfl))
            have r153 : b.tmps[153]?.getD undef = .bool true := hV 41 _ 153 rfl rfl (Pred.waits_near (by kernel_rfl) (by kernel_rfl))
            exact Pred.yields_run (v := .bool true) (Pred.wanted_none rfl) (by go_simp) ⟨Pred.ext_refl _ _, rfl⟩
          · intro b X hE hd hn hV
            have r154 : b.tmps[154]?.getD undef = .bool true := hV 42 _ 154 rfl rfl (Pred.waits_near (by kernel_rfl) (by kernel_rfl))
            exact Pred.yields_run (v := .bool true) (Pred.wanted_none rfl) (by go_simp) ⟨Pred.ext_refl _ _, rfl⟩
        intro v X hE hv
        have e0 : v 0 = .int .i64 0 := hv 0 _ 112 rfl rfl
        have e1 : v 1 = .bool true := hv 1 _ 113 rfl rfl
        have e2 : v 2 = .bool true := hv 2 _ 114 rfl rfl
        have e3 : v 3 = .pointer (some ⟨b5, 0, none⟩) := hv 3 _ 115 rfl rfl
        have e4 : v 4 = .bool true := hv 4 _ 116 rfl rfl
        have e5 : v 5 = .bool true := hv 5 _ 117 rfl rfl
        have e6 : v 6 = .bool true := hv 6 _ 118 rfl rfl
        have e7 : v 7 = .pointer (some ⟨b1, 0, none⟩) := hv 7 _ 119 rfl rfl
        obtain ⟨ga8, na8, ca8, e8, hr8⟩ : Rds (dirB a0 r) (v 8) X := hv 8 _ 120 rfl rfl
        have e9 : v 9 = .string (bytesOf (dirB a0 r)) := hv 9 _ 121 rfl rfl
        have e10 : v 10 = .pointer (some ⟨b2, 0, none⟩) := hv 10 _ 122 rfl rfl
        obtain ⟨ga11, na11, ca11, e11, hr11⟩ : Rds (dirB a0 r) (v 11) X := hv 11 _ 123 rfl rfl
        have e12 : v 12 = .string (bytesOf (dirB a0 r)) := hv 12 _ 124 rfl rfl
        have e13 : v 13 = .bool true := hv 13 _ 125 rfl rfl
        have e14 : v 14 = .bool true := hv 14 _ 126 rfl rfl
        have e15 : v 15 = .bool true := hv 15 _ 127 rfl rfl
        have e16 : v 16 = .pointer (some ⟨b1, 0, none⟩) := hv 16 _ 128 rfl rfl
        obtain ⟨ga17, na17, ca17, e17, hr17⟩ : Rds (dirB a0 r) (v 17) X := hv 17 _ 129 rfl rfl
        have e18 : v 18 = .string (bytesOf (dirB a0 r)) := hv 18 _ 130 rfl rfl
        have e19 : v 19 = .pointer (some ⟨b3, 0, none⟩) := hv 19 _ 131 rfl rfl
        obtain ⟨ga20, na20, ca20, e20, hr20⟩ : Rds (dirB a0 r) (v 20) X := hv 20 _ 132 rfl rfl
        have e21 : v 21 = .string (bytesOf (dirB a0 r)) := hv 21 _ 133 rfl rfl
        have e22 : v 22 = .bool true := hv 22 _ 134 rfl rfl
        have e23 : v 23 = .bool true := hv 23 _ 135 rfl rfl
        have e24 : v 24 = .bool true := hv 24 _ 136 rfl rfl
        have e25 : v 25 = .pointer (some ⟨b1, 0, none⟩) := hv 25 _ 137 rfl rfl
        obtain ⟨ga26, na26, ca26, e26, hr26⟩ : Rds (dirB a0 r) (v 26) X := hv 26 _ 138 rfl rfl
        have e27 : v 27 = .string (bytesOf (dirB a0 r)) := hv 27 _ 139 rfl rfl
        have e28 : v 28 = .pointer (some ⟨b5, 0, none⟩) := hv 28 _ 140 rfl rfl
        obtain ⟨ga29, na29, ca29, e29, hr29⟩ : Rds (dirB a0 r) (v 29) X := hv 29 _ 141 rfl rfl
        have e30 : v 30 = .string (bytesOf (dirB a0 r)) := hv 30 _ 142 rfl rfl
        have e31 : v 31 = .bool true := hv 31 _ 143 rfl rfl
        have e32 : v 32 = .bool true := hv 32 _ 144 rfl rfl
        have e33 : v 33 = .bool true := hv 33 _ 145 rfl rfl
        have e34 : v 34 = .pointer (some ⟨b1, 0, none⟩) := hv 34 _ 146 rfl rfl
        obtain ⟨ga35, ca35, e35, hr35, hc35⟩ : SE r (v 35) X := hv 35 _ 147 rfl rfl
        have e36 : v 36 = .pointer (some ⟨b2, 0, none⟩) := hv 36 _ 148 rfl rfl
        obtain ⟨ga37, ca37, e37, hr37, hc37⟩ : SE r (v 37) X := hv 37 _ 149 rfl rfl
        have e38 : v 38 = .bool true := hv 38 _ 150 rfl rfl
        have e39 : v 39 = .bool true := hv 39 _ 151 rfl rfl
        have e40 : v 40 = .bool true := hv 40 _ 152 rfl rfl
        have e41 : v 41 = .bool true := hv 41 _ 153 rfl rfl
        have e42 : v 42 = .bool true := hv 42 _ 154 rfl rfl
        have e43 : v 43 = .bool true := hv 43 _ 6 rfl rfl
        simp only [Pred.putsF_cons, Pred.putsF_nil, Nat.zero_add, Nat.reduceAdd, e0, e1, e2, e3, e4, e5, e6, e7, e8, e9, e10, e11, e12, e13, e14, e15, e16, e17, e18, e19, e20, e21, e22, e23, e24, e25, e26, e27, e28, e29, e30, e31, e32, e33, e34, e35, e36, e37, e38, e39, e40, e41, e42, e43, Act.put, List.setIfInBounds_toArray, List.set_cons_zero, List.set_cons_succ]
        clear e0 e1 e2 e3 e4 e5 e6 e7 e8 e9 e10 e11 e12 e13 e14 e15 e16 e17 e18 e19 e20 e21 e22 e23 e24 e25 e26 e27 e28 e29 e30 e31 e32 e33 e34 e35 e36 e37 e38 e39 e40 e41 e42 e43 hv
        have L6 : Below w.heap.size w X := L5.trans (hE.mono L5.size)
        clear hE
        go_wp2
        go_ret
        exact ⟨rfl, L6⟩
end Go.Proofs.Ytpjbacpchmemeaa.DiOr

/-
  How the document itself reads a head; and its newer one of two.
-/
import Derived.Test.YtbicgcnlijgjmaaRefB
import Derived.Test.YtbicgcnlijgjmaaSupD
namespace Go.Proofs.Ytbicgcnlijgjmaa.RefC
open Go.RowKit Rd Go.Proofs.Ytbicgcnlijgjmaa.Row OctA OctB SupA SupB SupC SupD RefB
open CrcB (onV onF onF_lt)
open Go.Proofs.Ytbicgcnlijgjmaa.PredS (Is is_stab Stab Sl sl_stab)
set_option linter.unusedVariables false
set_option linter.unusedSimpArgs false
set_option maxRecDepth 100000
attribute [local go_sem ↓] load_rb store_rb alloc_rb load_sup store_sup alloc_sup
attribute [local go_sem] run_alloc_rb run_load_rb run_store_rb run_alloc_sup run_load_sup run_store_sup rowLoad_eq rowStore_eq blk_alloc_at blk_alloc_old blk_drew blk_drewN blk_set_far blk_set_far' blk_grow setRow_alloc_at setRow_alloc_old setRow_drew setRow_drewN all_map one_int blkV_size blkV_all blkV_all6 zeroB_size zeroB_all6 one_bool

theorem info_rb : (Try.prog.info? 37).map (·.size) = some 6 := by kernel_rfl
theorem ret_rb2 {fn : Func} {R : Ending → World → Prop} {a : Act} {W : World} {p q : Tmp} (h : fn.results = #[.cell p 37, .tmp q]) (g : Nat) (c : Array Value) (fr : Nat × Nat) (hp : a.tmps.getD p undef = .pointer (some ⟨g, 0, none⟩)) (hl : c.size = 6)
    (hg : blk W g = some (.cells c 37 fr)) (hd : a.defers = []) (hR : R (.returned (.tuple #[.agg c, a.tmps.getD q undef])) W) : bodyPost Try.prog fn R .ret a W :=
  bodyPost_ret (results_row2 h _ _ g _ _ _ _ hp hg Try.underlying37 rfl (by rw [info_rb]; simp [hl])) hd hR
theorem ret_rb1 {fn : Func} {R : Ending → World → Prop} {a : Act} {W : World} {p : Tmp} (h : fn.results = #[.cell p 37]) (g : Nat) (c : Array Value) (fr : Nat × Nat) (hp : a.tmps.getD p undef = .pointer (some ⟨g, 0, none⟩)) (hl : c.size = 6)
    (hg : blk W g = some (.cells c 37 fr)) (hd : a.defers = []) (hR : R (.returned (.agg c)) W) : bodyPost Try.prog fn R .ret a W :=
  bodyPost_ret (results_row1 h _ _ g _ _ _ _ hp hg Try.underlying37 rfl (by rw [info_rb]; simp [hl])) hd hR

theorem flat_any (g d : Int) (r : Bool) (s l m : Int) (w : World) :
    Calls Try.prog 11 #[.agg (blkV g d r s l m)] w fun e w' => e = .returned (.agg (blkV g d r s l m)) ∧ Below w.heap.size w w' := by
  unfold blkV
  go_enter Try.func11, Try.ntmps11
  go_wp2
  exact ret_rb1 rfl (w.heap.size + 1) _ (0, 0) rfl rfl (blk_alloc_at _ _ _ (by simp)) rfl ⟨rfl, by repeat' (first | (with_reducible exact Below.refl _ _) | (with_reducible refine Rd.below_step ?_ (by assumption)) | (with_reducible refine Rd.below_alloc ?_ _) | (with_reducible refine Rd.below_drewN ?_ _) | (with_reducible refine Below.drew ?_) | (with_reducible refine Below.setCell ?_ ?_ _) | (with_reducible refine Rd.below_setRow ?_ ?_ _) | go_size | (simp only [World.size_alloc]; omega) | omega)⟩
theorem same_any (g d : Int) (r : Bool) (s l m : Int) (w : World) :
    Calls Try.prog 14 #[.agg (blkV g d r s l m), .agg (blkV g d r s l m)] w fun e w' => e = .returned (.bool true) ∧ Below w.heap.size w w' := by
  unfold blkV
  go_enter Try.func14, Try.ntmps14
  go_wp2
  go_ret
  exact ⟨rfl, by repeat' (first | (with_reducible exact Below.refl _ _) | (with_reducible refine Rd.below_step ?_ (by assumption)) | (with_reducible refine Rd.below_alloc ?_ _) | (with_reducible refine Rd.below_drewN ?_ _) | (with_reducible refine Below.drew ?_) | (with_reducible refine Below.setCell ?_ ?_ _) | (with_reducible refine Rd.below_setRow ?_ ?_ _) | go_size | (simp only [World.size_alloc]; omega) | omega)⟩
theorem rnewer_any (g d : Int) (r : Bool) (s l m : Int) (g' d' : Int) (r' : Bool) (s' l' m' : Int) (p q : Bool) (w : World) :
    Calls Try.prog 16 #[.agg (blkV g d r s l m), .agg (blkV g' d' r' s' l' m'), .bool p, .bool q] w fun e w' => e = .returned (.int .i64 (newV g g' p q)) ∧ Below w.heap.size w w' := by
  unfold blkV
  cases p <;> cases q
  case true.true =>
    by_cases h : g' ≤ g
    · have hv : newV g g' true true = 0 := by unfold newV; rw [if_pos ⟨rfl, .inr h⟩]
      go_enter Try.func16, Try.ntmps16
      go_wp2
      go_ret
      exact ⟨by first | rfl | (rw [hv]; rfl), by repeat' (first | (with_reducible exact Below.refl _ _) | (with_reducible refine Rd.below_step ?_ (by assumption)) | (with_reducible refine Rd.below_alloc ?_ _) | (with_reducible refine Rd.below_drewN ?_ _) | (with_reducible refine Below.drew ?_) | (with_reducible refine Below.setCell ?_ ?_ _) | (with_reducible refine Rd.below_setRow ?_ ?_ _) | go_size | (simp only [World.size_alloc]; omega) | omega)⟩
    · have hv : newV g g' true true = 1 := by unfold newV; rw [if_neg (by simp [h]), if_pos rfl]
      go_enter Try.func16, Try.ntmps16
      go_wp2
      go_ret
      exact ⟨by first | rfl | (rw [hv]; rfl), by repeat' (first | (with_reducible exact Below.refl _ _) | (with_reducible refine Rd.below_step ?_ (by assumption)) | (with_reducible refine Rd.below_alloc ?_ _) | (with_reducible refine Rd.below_drewN ?_ _) | (with_reducible refine Below.drew ?_) | (with_reducible refine Below.setCell ?_ ?_ _) | (with_reducible refine Rd.below_setRow ?_ ?_ _) | go_size | (simp only [World.size_alloc]; omega) | omega)⟩
  all_goals
    go_enter Try.func16, Try.ntmps16
    go_wp2
    go_ret
    exact ⟨rfl, by repeat' (first | (with_reducible exact Below.refl _ _) | (with_reducible refine Rd.below_step ?_ (by assumption)) | (with_reducible refine Rd.below_alloc ?_ _) | (with_reducible refine Rd.below_drewN ?_ _) | (with_reducible refine Below.drew ?_) | (with_reducible refine Below.setCell ?_ ?_ _) | (with_reducible refine Rd.below_setRow ?_ ?_ _) | go_size | (simp only [World.size_alloc]; omega) | omega)⟩

theorem decE_len (zs : List Int) : (decE zs).length = 32 := encL_len _ _ _ _ _ _
theorem ok_len {zs : List Int} (h : zs.length ≠ 32) : decOK zs = false := by
  unfold decOK
  have : decE zs ≠ zs := fun e => h (by rw [← e]; exact decE_len zs)
  simp [this]
/-- of bytes of any number -/
theorem decode_all (a : Option Addr) (len cap : Nat) (zs : List Int) (w : World) (hr : Reads w 1 a len (u8s zs)) (hz : B8s zs) (hcap : len ≤ cap) (hcm : cap ≤ maxLen) (hlen : len ≤ 1000) :
    Calls Try.prog 12 #[.agg (cs .u32 CrcA.tblL), .slice a len cap] w fun e w' => e = .returned (.tuple (decRes zs)) ∧ Below w.heap.size w w' := by
  by_cases h : len = 32
  · subst h
    exact decode_any a cap zs w hr hz hcap hcm
  · have hl : zs.length = len := by simpa using hr.1
    rw [decRes_no (ok_len (by omega))]
    exact decode_short a len cap w h (by omega)
def rdRes (zs : List Int) : Array Value := if decOK zs = true then #[.agg (decV zs), .bool true] else #[.agg zeroB, .bool false]
theorem rdRes_yes {zs : List Int} (h : decOK zs = true) : rdRes zs = #[.agg (decV zs), .bool true] := by unfold rdRes; rw [if_pos h]
theorem rdRes_no {zs : List Int} (h : decOK zs = false) : rdRes zs = #[.agg zeroB, .bool false] := by unfold rdRes; rw [if_neg (by rw [h]; decide)]
theorem fld_one {zs : List Int} (hl : zs.length = 32) (hz : B8s zs) : ((fld zs 8 1 : Nat) : Int) = zs.getD 8 0 := by
  have h := hz _ (List.getElem_mem (show 8 < zs.length by omega))
  have e : (zs.drop 8).take 1 = [zs[8]] := by
    rw [List.drop_eq_getElem_cons (by omega)]; rfl
  unfold fld
  rw [e]
  simp only [getN, List.foldl_cons, List.foldl_nil, Nat.zero_mul, Nat.zero_add]
  rw [List.getD_eq_getElem?_getD, List.getElem?_eq_getElem (by omega)]
  simp only [Option.getD_some]
  omega
theorem readHead_short (a : Option Addr) (len cap : Nat) (w : World) (hl : len ≠ 32) (hm : len ≤ 1000000) :
    Calls Try.prog 13 #[.slice a len cap] w fun e w' => e = .returned (.tuple #[.agg zeroB, .bool false]) ∧ Below w.heap.size w w' := by
  have hl' : ¬ (len : Int) = 32 := by omega
  go_enter Try.func13, Try.ntmps13
  go_wp2_with fail
  refine ret_rb2 rfl w.heap.size zeroB (0, 0) rfl rfl (blk_alloc_at _ _ _ rfl) rfl ⟨rfl, by repeat' (first | (with_reducible exact Below.refl _ _) | (with_reducible refine Rd.below_step ?_ (by assumption)) | (with_reducible refine Rd.below_alloc ?_ _) | (with_reducible refine Rd.below_drewN ?_ _) | (with_reducible refine Below.drew ?_) | (with_reducible refine Below.setCell ?_ ?_ _) | (with_reducible refine Rd.below_setRow ?_ ?_ _) | go_size | (simp only [World.size_alloc]; omega) | omega)⟩

set_option maxHeartbeats 4000000 in
theorem readHead_any (a : Option Addr) (cap : Nat) (zs : List Int) (w : World) (hr : Reads w 1 a 32 (u8s zs)) (hz : B8s zs) (hcap : 32 ≤ cap) (hcm : cap ≤ maxLen) :
    Calls Try.prog 13 #[.slice a 32 cap] w fun e w' => e = .returned (.tuple (rdRes zs)) ∧ Below w.heap.size w w' := by
  have hlen : zs.length = 32 := by simpa using hr.1
  obtain ⟨ab, ao, rfl, hab⟩ : ∃ ab ao, a = some ⟨ab, ao, none⟩ ∧ ab < w.heap.size := by
    rcases hr.2 with h | ⟨ab, ao, h, hab, -⟩
    · omega
    · exact ⟨ab, ao, h, hab⟩
  have hm14 : fld zs 14 4 < 4294967296 := fld_lt hz 14 4 (by omega)
  have f4 : fld zs 4 4 < 4294967296 := fld_lt hz 4 4 (by omega)
  have f8 : fld zs 8 1 < 256 := fld_lt hz 8 1 (by omega)
  have f10 : fld zs 10 2 < 65536 := fld_lt hz 10 2 (by omega)
  have f12 : fld zs 12 2 < 65536 := fld_lt hz 12 2 (by omega)
  have H8 := fld_one hlen hz
  have hsub : ∀ i n, B8s ((zs.drop i).take n) := fun i n z h => hz z (List.mem_of_mem_drop (List.mem_of_mem_take h))
  have h9 := getD_b8 hz 9
  have h8 := getD_b8 hz 8
  have HR := Lib.hid hr
  have HZ := Lib.hid hz
  have HL := Lib.hid hlen
  have HS := Lib.hid hsub
  clear hr hz hlen hsub
  go_enter Try.func13, Try.ntmps13
  go_upto_region 3 with (fail)
  refine Rd.name_world ?_
  intro W hW
  have R0 : blk W w.heap.size = some (.cells zeroB 37 (0, 0)) := by rw [hW]; exact blk_alloc_at _ _ _ rfl
  have lR := blk_lt R0
  have L1 : Below w.heap.size w W := by rw [hW]; repeat' (first | (with_reducible exact Below.refl _ _) | (with_reducible refine Rd.below_step ?_ (by assumption)) | (with_reducible refine Rd.below_alloc ?_ _) | (with_reducible refine Rd.below_drewN ?_ _) | (with_reducible refine Below.drew ?_) | (with_reducible refine Below.setCell ?_ ?_ _) | (with_reducible refine Rd.below_setRow ?_ ?_ _) | go_size | (simp only [World.size_alloc]; omega) | omega)
  have HRW := Lib.hid (HR.out.below L1 (Nat.le_refl _))
  have hc : ∀ i, i < 32 → W.cell? ⟨ab, ao + i, none⟩ = some (.int .u8 (zs.getD i 0)) := fun i hi => by
    rcases HRW.out.2 with h | ⟨ab', ao', h, hab', hac⟩
    · omega
    · cases h; rw [hac i (by have := HL.out; simp; omega), u8s_at _ _ (by have := HL.out; omega)]
  have hc9 := hc 9 (by omega)
  have hc8 := hc 8 (by omega)
  rw [← H8] at hc8
  clear H8 h8
  have sW := L1.size
  have hab2 : ab < W.heap.size := by omega
  clear hW hc
  refine PredS.region_vals (W := W) [⟨22, 23, 37, zeroB, (decV zs)⟩] (PredS.Of [
      Is (.slice (some ⟨ab, ao, none⟩) 32 cap),
      Is (.slice (some ⟨ab, ao + 4, none⟩) 4 (cap - 4)),
      Is (.int .i64 (fld zs 4 4 : Nat)),
      Is (.slice (some ⟨ab, ao, none⟩) 32 cap),
      Is (.pointer (some ⟨ab, ao + 8, none⟩)),
      Is (.int .u8 (fld zs 8 1 : Nat)),
      Is (.int .i64 (fld zs 8 1 : Nat)),
      Is (.slice (some ⟨ab, ao, none⟩) 32 cap),
      Is (.pointer (some ⟨ab, ao + 9, none⟩)),
      Is (.int .u8 (zs.getD 9 0)),
      Is (.bool (decR zs)),
      Is (.slice (some ⟨ab, ao, none⟩) 32 cap),
      Is (.slice (some ⟨ab, ao + 10, none⟩) 2 (cap - 10)),
      Is (.int .i64 (fld zs 10 2 : Nat)),
      Is (.slice (some ⟨ab, ao, none⟩) 32 cap),
      Is (.slice (some ⟨ab, ao + 12, none⟩) 2 (cap - 12)),
      Is (.int .i64 (fld zs 12 2 : Nat)),
      Is (.slice (some ⟨ab, ao, none⟩) 32 cap),
      Is (.slice (some ⟨ab, ao + 14, none⟩) 4 (cap - 14)),
      Is (.int .i64 (fld zs 14 4 : Nat)),
      Is (.int .u32 (fld zs 14 4 : Nat)),
      Is (.agg (decV zs)),
      Is undef,
      Is undef]) (by kernel_rfl) (by kernel_rfl) (by kernel_rfl) (by kernel_rfl) (PredS.of_stab ?_) ?_ ?_ ?_
  · exact ⟨is_stab _, is_stab _, is_stab _, is_stab _, is_stab _, is_stab _, is_stab _, is_stab _, is_stab _, is_stab _, is_stab _, is_stab _, is_stab _, is_stab _, is_stab _, is_stab _, is_stab _, is_stab _, is_stab _, is_stab _, is_stab _, is_stab _, is_stab _, is_stab _, trivial⟩
  · refine ⟨.inr ?_, .inr ?_, .inr ?_, .inr ?_, .inr ?_, .inr ?_, .inr ?_, .inr ?_, .inr ?_, .inr ?_, .inr ?_, .inr ?_, .inr ?_, .inr ?_, .inr ?_, .inr ?_, .inr ?_, .inr ?_, .inr ?_, .inr ?_, .inr ?_, .inr ?_, .inl rfl, .inl rfl, trivial⟩
    · intro b X hE hd hn hV
      have r0 : b.tmps[0]?.getD undef = .slice (some ⟨ab, ao, none⟩) 32 cap := (hn 0 (by kernel_rfl)).trans rfl
      exact Pred.yields_run (v := .slice (some ⟨ab, ao, none⟩) 32 cap) (Pred.wanted_none rfl) (by go_simp) ⟨PredS.ext_refl _ _ _, rfl⟩
    · intro b X hE hd hn hV
      have r11 : b.tmps[11]?.getD undef = .slice (some ⟨ab, ao, none⟩) 32 cap := hV 0 _ 11 rfl rfl rfl (Pred.waits_near (by kernel_rfl) (by kernel_rfl))
      have q1 : (8 : Int) ≤ (cap : Int) := by omega
      have q2 : ¬ cap = 4 := by omega
      exact Pred.yields_run (v := .slice (some ⟨ab, ao + 4, none⟩) 4 (cap - 4)) (Pred.wanted_none rfl) (by go_simp) ⟨PredS.ext_refl _ _ _, rfl⟩
    · intro b X hE hd hn hV
      have r12 : b.tmps[12]?.getD undef = .slice (some ⟨ab, ao + 4, none⟩) 4 (cap - 4) := hV 1 _ 12 rfl rfl rfl (Pred.waits_near (by kernel_rfl) (by kernel_rfl))
      refine Pred.yields_call (f := 27) (args := #[.slice (some ⟨ab, ao + 4, none⟩) 4 (cap - 4)]) (Pred.wanted_none rfl) (by go_simp) ?_
      exact (RefA.num_any _ _ _ _ _ (sub_reads (HRW.out.below hE (Nat.le_refl _)) 4 4 (by omega)) (HS.out 4 4) (by omega)).mono fun e w2 ⟨he, hb⟩ => ⟨_, he, PredS.ext_below hb hE.size, rfl⟩
    · intro b X hE hd hn hV
      have r0 : b.tmps[0]?.getD undef = .slice (some ⟨ab, ao, none⟩) 32 cap := (hn 0 (by kernel_rfl)).trans rfl
      exact Pred.yields_run (v := .slice (some ⟨ab, ao, none⟩) 32 cap) (Pred.wanted_none rfl) (by go_simp) ⟨PredS.ext_refl _ _ _, rfl⟩
    · intro b X hE hd hn hV
      have r14 : b.tmps[14]?.getD undef = .slice (some ⟨ab, ao, none⟩) 32 cap := hV 3 _ 14 rfl rfl rfl (Pred.waits_near (by kernel_rfl) (by kernel_rfl))
      exact Pred.yields_run (v := .pointer (some ⟨ab, ao + 8, none⟩)) (Pred.wanted_none rfl) (by go_simp) ⟨PredS.ext_refl _ _ _, rfl⟩
    · intro b X hE hd hn hV
      have r15 : b.tmps[15]?.getD undef = .pointer (some ⟨ab, ao + 8, none⟩) := hV 4 _ 15 rfl rfl rfl (Pred.waits_near (by kernel_rfl) (by kernel_rfl))
      have hc := (hE.cell (p := ⟨ab, ao + 8, none⟩) hab2).trans hc8
      exact Pred.yields_run (v := .int .u8 (fld zs 8 1 : Nat)) (Pred.wanted_none rfl) (by go_simp) ⟨PredS.ext_refl _ _ _, rfl⟩
    · intro b X hE hd hn hV
      have r16 : b.tmps[16]?.getD undef = .int .u8 (fld zs 8 1 : Nat) := hV 5 _ 16 rfl rfl rfl (Pred.waits_near (by kernel_rfl) (by kernel_rfl))
      exact Pred.yields_run (v := .int .i64 (fld zs 8 1 : Nat)) (Pred.wanted_none rfl) (by go_simp; exact wrap_i64 ⟨by omega, by omega⟩) ⟨PredS.ext_refl _ _ _, rfl⟩
    · intro b X hE hd hn hV
      have r0 : b.tmps[0]?.getD undef = .slice (some ⟨ab, ao, none⟩) 32 cap := (hn 0 (by kernel_rfl)).trans rfl
      exact Pred.yields_run (v := .slice (some ⟨ab, ao, none⟩) 32 cap) (Pred.wanted_none rfl) (by go_simp) ⟨PredS.ext_refl _ _ _, rfl⟩
    · intro b X hE hd hn hV
      have r18 : b.tmps[18]?.getD undef = .slice (some ⟨ab, ao, none⟩) 32 cap := hV 7 _ 18 rfl rfl rfl (Pred.waits_near (by kernel_rfl) (by kernel_rfl))
      exact Pred.yields_run (v := .pointer (some ⟨ab, ao + 9, none⟩)) (Pred.wanted_none rfl) (by go_simp) ⟨PredS.ext_refl _ _ _, rfl⟩
    · intro b X hE hd hn hV
      have r19 : b.tmps[19]?.getD undef = .pointer (some ⟨ab, ao + 9, none⟩) := hV 8 _ 19 rfl rfl rfl (Pred.waits_near (by kernel_rfl) (by kernel_rfl))
      have hc := (hE.cell (p := ⟨ab, ao + 9, none⟩) hab2).trans hc9
      exact Pred.yields_run (v := .int .u8 (zs.getD 9 0)) (Pred.wanted_none rfl) (by go_simp) ⟨PredS.ext_refl _ _ _, rfl⟩
    · intro b X hE hd hn hV
      have r20 : b.tmps[20]?.getD undef = .int .u8 (zs.getD 9 0) := hV 9 _ 20 rfl rfl rfl (Pred.waits_near (by kernel_rfl) (by kernel_rfl))
      exact Pred.yields_run (v := .bool (decR zs)) (Pred.wanted_none rfl) (by go_simp; rfl) ⟨PredS.ext_refl _ _ _, rfl⟩
    · intro b X hE hd hn hV
      have r0 : b.tmps[0]?.getD undef = .slice (some ⟨ab, ao, none⟩) 32 cap := (hn 0 (by kernel_rfl)).trans rfl
      exact Pred.yields_run (v := .slice (some ⟨ab, ao, none⟩) 32 cap) (Pred.wanted_none rfl) (by go_simp) ⟨PredS.ext_refl _ _ _, rfl⟩
    · intro b X hE hd hn hV
      have r22 : b.tmps[22]?.getD undef = .slice (some ⟨ab, ao, none⟩) 32 cap := hV 11 _ 22 rfl rfl rfl (Pred.waits_near (by kernel_rfl) (by kernel_rfl))
      have q1 : (12 : Int) ≤ (cap : Int) := by omega
      have q2 : ¬ cap = 10 := by omega
      exact Pred.yields_run (v := .slice (some ⟨ab, ao + 10, none⟩) 2 (cap - 10)) (Pred.wanted_none rfl) (by go_simp) ⟨PredS.ext_refl _ _ _, rfl⟩
    · intro b X hE hd hn hV
      have r23 : b.tmps[23]?.getD undef = .slice (some ⟨ab, ao + 10, none⟩) 2 (cap - 10) := hV 12 _ 23 rfl rfl rfl (Pred.waits_near (by kernel_rfl) (by kernel_rfl))
      refine Pred.yields_call (f := 27) (args := #[.slice (some ⟨ab, ao + 10, none⟩) 2 (cap - 10)]) (Pred.wanted_none rfl) (by go_simp) ?_
      exact (RefA.num_any _ _ _ _ _ (sub_reads (HRW.out.below hE (Nat.le_refl _)) 10 2 (by omega)) (HS.out 10 2) (by omega)).mono fun e w2 ⟨he, hb⟩ => ⟨_, he, PredS.ext_below hb hE.size, rfl⟩
    · intro b X hE hd hn hV
      have r0 : b.tmps[0]?.getD undef = .slice (some ⟨ab, ao, none⟩) 32 cap := (hn 0 (by kernel_rfl)).trans rfl
      exact Pred.yields_run (v := .slice (some ⟨ab, ao, none⟩) 32 cap) (Pred.wanted_none rfl) (by go_simp) ⟨PredS.ext_refl _ _ _, rfl⟩
    · intro b X hE hd hn hV
      have r25 : b.tmps[25]?.getD undef = .slice (some ⟨ab, ao, none⟩) 32 cap := hV 14 _ 25 rfl rfl rfl (Pred.waits_near (by kernel_rfl) (by kernel_rfl))
      have q1 : (14 : Int) ≤ (cap : Int) := by omega
      have q2 : ¬ cap = 12 := by omega
      exact Pred.yields_run (v := .slice (some ⟨ab, ao + 12, none⟩) 2 (cap - 12)) (Pred.wanted_none rfl) (by go_simp) ⟨PredS.ext_refl _ _ _, rfl⟩
    · intro b X hE hd hn hV
      have r26 : b.tmps[26]?.getD undef = .slice (some ⟨ab, ao + 12, none⟩) 2 (cap - 12) := hV 15 _ 26 rfl rfl rfl (Pred.waits_near (by kernel_rfl) (by kernel_rfl))
      refine Pred.yields_call (f := 27) (args := #[.slice (some ⟨ab, ao + 12, none⟩) 2 (cap - 12)]) (Pred.wanted_none rfl) (by go_simp) ?_
      exact (RefA.num_any _ _ _ _ _ (sub_reads (HRW.out.below hE (Nat.le_refl _)) 12 2 (by omega)) (HS.out 12 2) (by omega)).mono fun e w2 ⟨he, hb⟩ => ⟨_, he, PredS.ext_below hb hE.size, rfl⟩
    · intro b X hE hd hn hV
      have r0 : b.tmps[0]?.getD undef = .slice (some ⟨ab, ao, none⟩) 32 cap := (hn 0 (by kernel_rfl)).trans rfl
      exact Pred.yields_run (v := .slice (some ⟨ab, ao, none⟩) 32 cap) (Pred.wanted_none rfl) (by go_simp) ⟨PredS.ext_refl _ _ _, rfl⟩
    · intro b X hE hd hn hV
      have r28 : b.tmps[28]?.getD undef = .slice (some ⟨ab, ao, none⟩) 32 cap := hV 17 _ 28 rfl rfl rfl (Pred.waits_near (by kernel_rfl) (by kernel_rfl))
      have q1 : (18 : Int) ≤ (cap : Int) := by omega
      have q2 : ¬ cap = 14 := by omega
      exact Pred.yields_run (v := .slice (some ⟨ab, ao + 14, none⟩) 4 (cap - 14)) (Pred.wanted_none rfl) (by go_simp) ⟨PredS.ext_refl _ _ _, rfl⟩
    · intro b X hE hd hn hV
      have r29 : b.tmps[29]?.getD undef = .slice (some ⟨ab, ao + 14, none⟩) 4 (cap - 14) := hV 18 _ 29 rfl rfl rfl (Pred.waits_near (by kernel_rfl) (by kernel_rfl))
      refine Pred.yields_call (f := 27) (args := #[.slice (some ⟨ab, ao + 14, none⟩) 4 (cap - 14)]) (Pred.wanted_none rfl) (by go_simp) ?_
      exact (RefA.num_any _ _ _ _ _ (sub_reads (HRW.out.below hE (Nat.le_refl _)) 14 4 (by omega)) (HS.out 14 4) (by omega)).mono fun e w2 ⟨he, hb⟩ => ⟨_, he, PredS.ext_below hb hE.size, rfl⟩
    · intro b X hE hd hn hV
      have r30 : b.tmps[30]?.getD undef = .int .i64 (fld zs 14 4 : Nat) := hV 19 _ 30 rfl rfl rfl (Pred.waits_near (by kernel_rfl) (by kernel_rfl))
      exact Pred.yields_run (v := .int .u32 (fld zs 14 4 : Nat)) (Pred.wanted_none rfl) (by go_simp; exact wrap_u32_nat _ hm14) ⟨PredS.ext_refl _ _ _, rfl⟩
    · intro b X hE hd hn hV
      have r13 : b.tmps[13]?.getD undef = .int .i64 (fld zs 4 4 : Nat) := hV 2 _ 13 rfl rfl rfl (Pred.waits_near (by kernel_rfl) (by kernel_rfl))
      have r17 : b.tmps[17]?.getD undef = .int .i64 (fld zs 8 1 : Nat) := hV 6 _ 17 rfl rfl rfl (Pred.waits_near (by kernel_rfl) (by kernel_rfl))
      have r21 : b.tmps[21]?.getD undef = .bool (decR zs) := hV 10 _ 21 rfl rfl rfl (Pred.waits_near (by kernel_rfl) (by kernel_rfl))
      have r24 : b.tmps[24]?.getD undef = .int .i64 (fld zs 10 2 : Nat) := hV 13 _ 24 rfl rfl rfl (Pred.waits_near (by kernel_rfl) (by kernel_rfl))
      have r27 : b.tmps[27]?.getD undef = .int .i64 (fld zs 12 2 : Nat) := hV 16 _ 27 rfl rfl rfl (Pred.waits_near (by kernel_rfl) (by kernel_rfl))
      have r31 : b.tmps[31]?.getD undef = .int .u32 (fld zs 14 4 : Nat) := hV 20 _ 31 rfl rfl rfl (Pred.waits_near (by kernel_rfl) (by kernel_rfl))
      exact Pred.yields_run (v := .agg (decV zs)) (Pred.wanted_none rfl) (by go_simp; rfl) ⟨PredS.ext_refl _ _ _, rfl⟩
  · refine ⟨?_, trivial⟩
    · refine ⟨_, 4, _, rfl, rfl, by simp, rfl, fun ρ w => by first | (go_simp; done) | (go_simp; rfl), rfl, rfl, Pred.waits_near (by kernel_rfl) (by kernel_rfl), fun b X g hE hn hV hp hg hb => ?_⟩
      have r32 : b.tmps[32]?.getD undef = .agg (decV zs) := hV 21 _ 32 rfl rfl rfl (Pred.waits_near (by kernel_rfl) (by kernel_rfl))
      have hv6 : (decV zs).size = 6 := rfl
      have hva : (decV zs).all (fun a => a.oneCell') 0 6 = true := blkV_all _ _ _ _ _ _
      simp only at hb
      exact PredS.yields_skip (Pred.wanted_none rfl) (by go_simp) rfl
  intro v X hE hv hL
  have e0 : v 0 = .slice (some ⟨ab, ao, none⟩) 32 cap := hv 0 _ 11 rfl rfl rfl
  have e1 : v 1 = .slice (some ⟨ab, ao + 4, none⟩) 4 (cap - 4) := hv 1 _ 12 rfl rfl rfl
  have e2 : v 2 = .int .i64 (fld zs 4 4 : Nat) := hv 2 _ 13 rfl rfl rfl
  have e3 : v 3 = .slice (some ⟨ab, ao, none⟩) 32 cap := hv 3 _ 14 rfl rfl rfl
  have e4 : v 4 = .pointer (some ⟨ab, ao + 8, none⟩) := hv 4 _ 15 rfl rfl rfl
  have e5 : v 5 = .int .u8 (fld zs 8 1 : Nat) := hv 5 _ 16 rfl rfl rfl
  have e6 : v 6 = .int .i64 (fld zs 8 1 : Nat) := hv 6 _ 17 rfl rfl rfl
  have e7 : v 7 = .slice (some ⟨ab, ao, none⟩) 32 cap := hv 7 _ 18 rfl rfl rfl
  have e8 : v 8 = .pointer (some ⟨ab, ao + 9, none⟩) := hv 8 _ 19 rfl rfl rfl
  have e9 : v 9 = .int .u8 (zs.getD 9 0) := hv 9 _ 20 rfl rfl rfl
  have e10 : v 10 = .bool (decR zs) := hv 10 _ 21 rfl rfl rfl
  have e11 : v 11 = .slice (some ⟨ab, ao, none⟩) 32 cap := hv 11 _ 22 rfl rfl rfl
  have e12 : v 12 = .slice (some ⟨ab, ao + 10, none⟩) 2 (cap - 10) := hv 12 _ 23 rfl rfl rfl
  have e13 : v 13 = .int .i64 (fld zs 10 2 : Nat) := hv 13 _ 24 rfl rfl rfl
  have e14 : v 14 = .slice (some ⟨ab, ao, none⟩) 32 cap := hv 14 _ 25 rfl rfl rfl
  have e15 : v 15 = .slice (some ⟨ab, ao + 12, none⟩) 2 (cap - 12) := hv 15 _ 26 rfl rfl rfl
  have e16 : v 16 = .int .i64 (fld zs 12 2 : Nat) := hv 16 _ 27 rfl rfl rfl
  have e17 : v 17 = .slice (some ⟨ab, ao, none⟩) 32 cap := hv 17 _ 28 rfl rfl rfl
  have e18 : v 18 = .slice (some ⟨ab, ao + 14, none⟩) 4 (cap - 14) := hv 18 _ 29 rfl rfl rfl
  have e19 : v 19 = .int .i64 (fld zs 14 4 : Nat) := hv 19 _ 30 rfl rfl rfl
  have e20 : v 20 = .int .u32 (fld zs 14 4 : Nat) := hv 20 _ 31 rfl rfl rfl
  have e21 : v 21 = .agg (decV zs) := hv 21 _ 32 rfl rfl rfl
  obtain ⟨⟨g22, e22, o22, q22, n22⟩, -⟩ := hL
  replace q22 : blk X g22 = some (.cells (decV zs) 37 (0, 0)) := q22
  clear n22
  simp only [Pred.putsF_cons, Pred.putsF_nil, Nat.zero_add, Nat.reduceAdd, e0, e1, e2, e3, e4, e5, e6, e7, e8, e9, e10, e11, e12, e13, e14, e15, e16, e17, e18, e19, e20, e21, e22, Act.put, List.setIfInBounds_toArray, List.set_cons_zero, List.set_cons_succ]
  clear e0 e1 e2 e3 e4 e5 e6 e7 e8 e9 e10 e11 e12 e13 e14 e15 e16 e17 e18 e19 e20 e21 e22 hv
  have R1 := (blk_below hE _ lR).trans R0
  have sX := hE.size
  have L2 : Below w.heap.size w X := L1.trans (hE.mono sW)
  have HRX := Lib.hid (HRW.out.below hE (Nat.le_refl _))
  clear hE R0 lR L1 HRW hc9 h9 hc8
  have l2 := blk_lt R1
  have l3 := blk_lt q22
  have hv6 : (decV zs).size = 6 := rfl
  have hva : (decV zs).all (fun a => a.oneCell') 0 6 = true := blkV_all _ _ _ _ _ _
  cases hM : decM zs
  · have hok : decOK zs = false := by unfold decOK; rw [hM]; rfl
    go_wp2_with fail
    refine (head_no (fld zs 4 4) (fld zs 8 1) (decR zs) (fld zs 10 2) (fld zs 12 2) (fld zs 14 4) _ hM).mono ?_
    rintro e Y ⟨rfl, hb⟩
    have R2 := (blk_below hb _ l2).trans R1
    go_wp2_with fail
    refine ret_rb2 rfl w.heap.size zeroB (0, 0) rfl rfl (blk_setRow_of R2 _) rfl ⟨by rw [rdRes_no hok]; rfl, by repeat' (first | (with_reducible exact Below.refl _ _) | (with_reducible refine Rd.below_step ?_ (by assumption)) | (with_reducible refine Rd.below_alloc ?_ _) | (with_reducible refine Rd.below_drewN ?_ _) | (with_reducible refine Below.drew ?_) | (with_reducible refine Below.setCell ?_ ?_ _) | (with_reducible refine Rd.below_setRow ?_ ?_ _) | go_size | (simp only [World.size_alloc]; omega) | omega)⟩
  · go_wp2_with fail
    refine (head_yes (fld zs 4 4) (fld zs 8 1) (decR zs) (fld zs 10 2) (fld zs 12 2) (fld zs 14 4) _ hM (by omega) (by omega) (by omega) (by omega) (by omega)).mono ?_
    rintro e Y ⟨a2, cap2, rfl, hc1, hc2, hRY, hb⟩
    have R2 := (blk_below hb _ l2).trans R1
    have B2 := (blk_below hb _ l3).trans q22
    have sY := hb.size
    have v1 := conv_reads (P := Try.prog) (cap := cap2) Try.underlying25 Try.underlying5 Try.underlying9 hRY (encL_bd _ _ _ _ _ _)
    have v2 := conv_reads (P := Try.prog) (cap := cap) Try.underlying25 Try.underlying5 Try.underlying9 (HRX.out.below hb (Nat.le_refl _)) HZ.out
    have hi := bytesOf_inj (zs := decE zs) (ys := zs) (encL_bd _ _ _ _ _ _) HZ.out
    have hst : ((bytesOf (decE zs)).toList == (bytesOf zs).toList) = decide (decE zs = zs) := by
      rw [Bool.eq_iff_iff, beq_iff_eq, decide_eq_true_iff, ← hi, ByteArray.toList_eq, ByteArray.toList_eq]
      exact ⟨fun h => ByteArray.ext (Array.toList_inj.mp h), fun h => by rw [h]⟩
    change Sem.run _ _ _ = Result.ok (Value.string (bytesOf (decE zs))) _ at v1
    by_cases hEq : decE zs = zs
    · have hok : decOK zs = true := by unfold decOK; rw [hM]; simp [hEq]
      rw [show decide (decE zs = zs) = true by simp [hEq]] at hst
      clear hEq hi hRY
      generalize bytesOf (decE zs) = sa at v1 hst
      generalize bytesOf zs = sb at v2 hst
      go_wp2_with fail
      refine ret_rb2 rfl w.heap.size (decV zs) (0, 0) rfl rfl (blk_setRow_of R2 _) rfl ⟨by rw [rdRes_yes hok]; rfl, by repeat' (first | (with_reducible exact Below.refl _ _) | (with_reducible refine Rd.below_step ?_ (by assumption)) | (with_reducible refine Rd.below_alloc ?_ _) | (with_reducible refine Rd.below_drewN ?_ _) | (with_reducible refine Below.drew ?_) | (with_reducible refine Below.setCell ?_ ?_ _) | (with_reducible refine Rd.below_setRow ?_ ?_ _) | go_size | (simp only [World.size_alloc]; omega) | omega)⟩
    · have hok : decOK zs = false := by unfold decOK; rw [hM]; simp [hEq]
      rw [show decide (decE zs = zs) = false by simp [hEq]] at hst
      clear hEq hi hRY
      generalize bytesOf (decE zs) = sa at v1 hst
      generalize bytesOf zs = sb at v2 hst
      go_wp2_with fail
      refine ret_rb2 rfl w.heap.size zeroB (0, 0) rfl rfl (blk_setRow_of R2 _) rfl ⟨by rw [rdRes_no hok]; rfl, by repeat' (first | (with_reducible exact Below.refl _ _) | (with_reducible refine Rd.below_step ?_ (by assumption)) | (with_reducible refine Rd.below_alloc ?_ _) | (with_reducible refine Rd.below_drewN ?_ _) | (with_reducible refine Below.drew ?_) | (with_reducible refine Below.setCell ?_ ?_ _) | (with_reducible refine Rd.below_setRow ?_ ?_ _) | go_size | (simp only [World.size_alloc]; omega) | omega)⟩
theorem readHead_all (a : Option Addr) (len cap : Nat) (zs : List Int) (w : World) (hr : Reads w 1 a len (u8s zs)) (hz : B8s zs) (hcap : len ≤ cap) (hcm : cap ≤ maxLen) (hlen : len ≤ 1000) :
    Calls Try.prog 13 #[.slice a len cap] w fun e w' => e = .returned (.tuple (rdRes zs)) ∧ Below w.heap.size w w' := by
  by_cases h : len = 32
  · subst h
    exact readHead_any a cap zs w hr hz hcap hcm
  · have hl : zs.length = len := by simpa using hr.1
    rw [rdRes_no (ok_len (by omega))]
    exact readHead_short a len cap w h (by omega)
end Go.Proofs.Ytbicgcnlijgjmaa.RefC

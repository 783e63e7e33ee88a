/-
  What super.Decode and super.Newer do.
-/
import Derived.Test.YtbicgcnlijgjmaaSupB
import Derived.Test.YtbicgcnlijgjmaaPredS
import Derived.Test.YtbicgcnlijgjmaaBytes
namespace Go.Proofs.Ytbicgcnlijgjmaa.SupC
open Go.RowKit Rd Go.Proofs.Ytbicgcnlijgjmaa.Row OctA OctB SupA SupB
open CrcA (tblL tblL_len tblL_at tblF byteN)
open CrcB (onV onF onF_lt)
open Go.Proofs.Ytbicgcnlijgjmaa.PredS (Is is_stab Stab Sl sl_stab)
set_option linter.unusedVariables false
set_option linter.unusedSimpArgs false
set_option maxRecDepth 100000
attribute [local go_sem ↓] CrcA.load_tbl CrcA.store_tbl load_sup store_sup alloc_sup eq_sup
attribute [local go_sem] CrcA.run_load_tbl CrcA.run_store_tbl run_alloc_sup run_load_sup run_store_sup rowLoad_eq rowStore_eq blk_alloc_at blk_alloc_old blk_drew blk_drewN blk_set_far blk_set_far' blk_grow setRow_alloc_at setRow_alloc_old setRow_drew setRow_drewN all_map one_int blkV_size blkV_all blkV_all6 zeroB_size zeroB_all6 one_bool
theorem info_sup : (Try.prog.info? 24).map (·.size) = some 6 := by kernel_rfl
theorem ret_sup2 {fn : Func} {R : Ending → World → Prop} {a : Act} {W : World} {p q : Tmp} (h : fn.results = #[.cell p 24, .tmp q]) (g : Nat) (c : Array Value) (fr : Nat × Nat) (hp : a.tmps.getD p undef = .pointer (some ⟨g, 0, none⟩)) (hl : c.size = 6)
    (hg : blk W g = some (.cells c 24 fr)) (hd : a.defers = []) (hR : R (.returned (.tuple #[.agg c, a.tmps.getD q undef])) W) : bodyPost Try.prog fn R .ret a W :=
  bodyPost_ret (results_row2 h _ _ g _ _ _ _ hp hg Try.underlying24 rfl (by rw [info_sup]; simp [hl])) hd hR

/-- strings of bytes -/
theorem bytesOf_inj {zs ys : List Int} (hz : B8s zs) (hy : B8s ys) : bytesOf zs = bytesOf ys ↔ zs = ys := by
  refine ⟨fun h => ?_, fun h => by rw [h]⟩
  have h1 : (zs.map fun z => UInt8.ofNat z.toNat).toArray = (ys.map fun z => UInt8.ofNat z.toNat).toArray := congrArg ByteArray.data h
  have h2 : (zs.map fun z => UInt8.ofNat z.toNat) = (ys.map fun z => UInt8.ofNat z.toNat) := by simpa using h1
  clear h h1
  induction zs generalizing ys with
  | nil => cases ys with
    | nil => rfl
    | cons y ys => simp at h2
  | cons z zs ih => cases ys with
    | nil => simp at h2
    | cons y ys =>
      simp only [List.map_cons, List.cons.injEq] at h2
      have b1 := hz z (by simp)
      have b2 := hy y (by simp)
      have e1 : (UInt8.ofNat z.toNat).toNat = (UInt8.ofNat y.toNat).toNat := by rw [h2.1]
      rw [UInt8.toNat_ofNat', UInt8.toNat_ofNat'] at e1
      have : z = y := by omega
      rw [this, ih (fun x hx => hz x (by simp [hx])) (fun x hx => hy x (by simp [hx])) h2.2]
theorem equal_any (a1 : Option Addr) (n1 c1 : Nat) (a2 : Option Addr) (n2 c2 : Nat) (zs ys : List Int) (w : World) (h1 : Reads w 1 a1 n1 (u8s zs)) (h2 : Reads w 1 a2 n2 (u8s ys)) (hz : B8s zs) (hy : B8s ys) :
    Calls Try.prog 26 #[.slice a1 n1 c1, .slice a2 n2 c2] w fun e w' => e = .returned (.bool (decide (zs = ys))) ∧ w = w' := by
  have v1 := conv_reads (P := Try.prog) (cap := c1) Try.underlying25 Try.underlying5 Try.underlying9 h1 hz
  have v2 := conv_reads (P := Try.prog) (cap := c2) Try.underlying25 Try.underlying5 Try.underlying9 h2 hy
  have hi := bytesOf_inj hz hy
  clear h1 h2
  go_enter Try.func26, Try.ntmps26
  go_wp2
  go_ret
  refine ⟨?_, by trivial⟩
  show Ending.returned (Value.bool ((bytesOf zs).toList == (bytesOf ys).toList)) = _
  rw [show ((bytesOf zs).toList == (bytesOf ys).toList) = decide (zs = ys) from by
    rw [Bool.eq_iff_iff, beq_iff_eq, decide_eq_true_iff, ← hi, ByteArray.toList_eq, ByteArray.toList_eq]
    exact ⟨fun h => ByteArray.ext (Array.toList_inj.mp h), fun h => by rw [h]⟩]

theorem getN_lt' {zs : List Int} (hz : B8s zs) : getN zs < 256 ^ zs.length := by
  have := getN_lt zs.length hz (Nat.le_refl _)
  rwa [List.take_length] at this
theorem wrap_u32_nat (n : Nat) (h : n < 4294967296) : IntKind.u32.wrap (n : Int) = n := by
  rw [IntKind.wrap_u32']; omega
def fld (zs : List Int) (i n : Nat) : Nat := getN ((zs.drop i).take n)
theorem fld_lt {zs : List Int} (hz : B8s zs) (i n : Nat) (h : i + n ≤ zs.length) : fld zs i n < 256 ^ n := by
  have h1 : B8s ((zs.drop i).take n) := fun z h => hz z (List.mem_of_mem_drop (List.mem_of_mem_take h))
  have := getN_lt' h1
  rw [List.length_take, List.length_drop, Nat.min_eq_left (by omega)] at this
  exact this
theorem sub_reads {w : World} {b off : Nat} {zs : List Int} (h : Reads w 1 (some ⟨b, off, none⟩) 32 (u8s zs)) (i n : Nat) (hi : i + n ≤ 32) : Reads w 1 (some ⟨b, off + i, none⟩) n (u8s ((zs.drop i).take n)) :=
  Bytes.Reads.take (Bytes.Reads.drop h (by omega)) (by omega)
def decR (zs : List Int) : Bool := decide (zs.getD 9 0 = 1)
def decV (zs : List Int) : Array Value := blkV (fld zs 4 4) (fld zs 8 1) (decR zs) (fld zs 10 2) (fld zs 12 2) (fld zs 14 4)
def decE (zs : List Int) : List Int := encL (fld zs 4 4) (fld zs 8 1) (decR zs) (fld zs 10 2) (fld zs 12 2) (fld zs 14 4)
def decM (zs : List Int) : Bool := mayB (fld zs 4 4) (fld zs 8 1) (fld zs 10 2) (fld zs 12 2)
def decOK (zs : List Int) : Bool := decM zs && decide (decE zs = zs)
def decRes (zs : List Int) : Array Value := if decOK zs = true then #[.agg (decV zs), .int .i64 0] else #[.agg zeroB, .int .i64 3]
theorem decRes_yes {zs : List Int} (h : decOK zs = true) : decRes zs = #[.agg (decV zs), .int .i64 0] := by unfold decRes; rw [if_pos h]
theorem decRes_no {zs : List Int} (h : decOK zs = false) : decRes zs = #[.agg zeroB, .int .i64 3] := by unfold decRes; rw [if_neg (by rw [h]; decide)]
theorem decode_short (a : Option Addr) (len cap : Nat) (w : World) (hl : len ≠ 32) (hm : len ≤ 1000000) :
    Calls Try.prog 12 #[.agg (cs .u32 tblL), .slice a len cap] w fun e w' => e = .returned (.tuple #[.agg zeroB, .int .i64 3]) ∧ Below w.heap.size w w' := by
  have hl2 := tblL_len
  have hl' : ¬ (len : Int) = 32 := by omega
  go_enter Try.func12, Try.ntmps12
  go_wp2_with fail
  refine ret_sup2 rfl (w.heap.size + 1) zeroB (0, 0) rfl rfl (blk_alloc_at _ _ _ (by simp)) rfl ⟨rfl, by repeat' (first | (with_reducible exact Below.refl _ _) | (with_reducible refine Rd.below_step ?_ (by assumption)) | (with_reducible refine Rd.below_alloc ?_ _) | (with_reducible refine Rd.below_drewN ?_ _) | (with_reducible refine Below.drew ?_) | (with_reducible refine Below.setCell ?_ ?_ _) | (with_reducible refine Rd.below_setRow ?_ ?_ _) | go_size | (simp only [World.size_alloc]; omega) | omega)⟩

set_option maxHeartbeats 4000000 in
theorem decode_any (a : Option Addr) (cap : Nat) (zs : List Int) (w : World) (hr : Reads w 1 a 32 (u8s zs)) (hz : B8s zs) (hcap : 32 ≤ cap) (hcm : cap ≤ maxLen) :
    Calls Try.prog 12 #[.agg (cs .u32 tblL), .slice a 32 cap] w fun e w' => e = .returned (.tuple (decRes zs)) ∧ Below w.heap.size w w' := by
  have hl2 := tblL_len
  have hlen : zs.length = 32 := by simpa using hr.1
  obtain ⟨ab, ao, rfl, hab⟩ : ∃ ab ao, a = some ⟨ab, ao, none⟩ ∧ ab < w.heap.size := by
    rcases hr.2 with h | ⟨ab, ao, h, hab, -⟩
    · omega
    · exact ⟨ab, ao, h, hab⟩
  have hm14 : fld zs 14 4 < 4294967296 := fld_lt hz 14 4 (by omega)
  have f4 : fld zs 4 4 < 4294967296 := fld_lt hz 4 4 (by omega)
  have f8 : fld zs 8 1 < 256 := fld_lt hz 8 1 (by omega)
  have f10 : fld zs 10 2 < 65536 := fld_lt hz 10 2 (by omega)
  have f12 : fld zs 12 2 < 65536 := fld_lt hz 12 2 (by omega)
  have hsub : ∀ i n, B8s ((zs.drop i).take n) := fun i n z h => hz z (List.mem_of_mem_drop (List.mem_of_mem_take h))
  have h9 := getD_b8 hz 9
  have HR := Lib.hid hr
  have HZ := Lib.hid hz
  have HL := Lib.hid hlen
  have HS := Lib.hid hsub
  clear hr hz hlen hsub
  go_enter Try.func12, Try.ntmps12
  go_upto_region 3 with (fail)
  refine Rd.name_world ?_
  intro W hW
  have T0 : blk W w.heap.size = some (.cells (cs .u32 tblL) 28 (0, 0)) := by rw [hW]; exact blk2_0 w _ _
  have R0 : blk W (w.heap.size + 1) = some (.cells zeroB 24 (0, 0)) := by rw [hW]; exact blk2_1 w _ _
  have lT := blk_lt T0
  have lR := blk_lt R0
  have L1 : Below w.heap.size w W := by rw [hW]; repeat' (first | (with_reducible exact Below.refl _ _) | (with_reducible refine Rd.below_step ?_ (by assumption)) | (with_reducible refine Rd.below_alloc ?_ _) | (with_reducible refine Rd.below_drewN ?_ _) | (with_reducible refine Below.drew ?_) | (with_reducible refine Below.setCell ?_ ?_ _) | (with_reducible refine Rd.below_setRow ?_ ?_ _) | go_size | (simp only [World.size_alloc]; omega) | omega)
  have HRW := Lib.hid (HR.out.below L1 (Nat.le_refl _))
  have hc9 : W.cell? ⟨ab, ao + 9, none⟩ = some (.int .u8 (zs.getD 9 0)) := by
    rcases HRW.out.2 with h | ⟨ab', ao', h, hab', hac⟩
    · omega
    · cases h; rw [hac 9 (by have := HL.out; simp; omega), u8s_at _ _ (by have := HL.out; omega)]
  have sW := L1.size
  have hab2 : ab < W.heap.size := by omega
  clear hW
  refine PredS.region_vals (W := W) [⟨21, 22, 24, zeroB, (decV zs)⟩] (PredS.Of [
      Is (.slice (some ⟨ab, ao, none⟩) 32 cap),
      Is (.slice (some ⟨ab, ao + 4, none⟩) 4 (cap - 4)),
      Is (.int .i64 (fld zs 4 4 : Nat)),
      Is (.slice (some ⟨ab, ao, none⟩) 32 cap),
      Is (.slice (some ⟨ab, ao + 8, none⟩) 1 (cap - 8)),
      Is (.int .i64 (fld zs 8 1 : Nat)),
      Is (.slice (some ⟨ab, ao, none⟩) 32 cap),
      Is (.pointer (some ⟨ab, ao + 9, none⟩)),
      Is (.int .u8 (zs.getD 9 0)),
      Is (.bool (decR zs)),
      Is (.slice (some ⟨ab, ao, none⟩) 32 cap),
      Is (.slice (some ⟨ab, ao + 10, none⟩) 2 (cap - 10)),
      Is (.int .i64 (fld zs 10 2 : Nat)),
      Is (.slice (some ⟨ab, ao, none⟩) 32 cap),
      Is (.slice (some ⟨ab, ao + 12, none⟩) 2 (cap - 12)),
      Is (.int .i64 (fld zs 12 2 : Nat)),
      Is (.slice (some ⟨ab, ao, none⟩) 32 cap),
      Is (.slice (some ⟨ab, ao + 14, none⟩) 4 (cap - 14)),
      Is (.int .i64 (fld zs 14 4 : Nat)),
      Is (.int .u32 (fld zs 14 4 : Nat)),
      Is (.agg (decV zs)),
      Is undef,
      Is undef]) (by kernel_rfl) (by kernel_rfl) (by kernel_rfl) (by kernel_rfl) (PredS.of_stab ?_) ?_ ?_ ?_
  · exact ⟨is_stab _, is_stab _, is_stab _, is_stab _, is_stab _, is_stab _, is_stab _, is_stab _, is_stab _, is_stab _, is_stab _, is_stab _, is_stab _, is_stab _, is_stab _, is_stab _, is_stab _, is_stab _, is_stab _, is_stab _, is_stab _, is_stab _, is_stab _, trivial⟩
  · refine ⟨.inr ?_, .inr ?_, .inr ?_, .inr ?_, .inr ?_, .inr ?_, .inr ?_, .inr ?_, .inr ?_, .inr ?_, .inr ?_, .inr ?_, .inr ?_, .inr ?_, .inr ?_, .inr ?_, .inr ?_, .inr ?_, .inr ?_, .inr ?_, .inr ?_, .inl rfl, .inl rfl, trivial⟩
    · intro b X hE hd hn hV
      have r1 : b.tmps[1]?.getD undef = .slice (some ⟨ab, ao, none⟩) 32 cap := (hn 1 (by kernel_rfl)).trans rfl
      exact Pred.yields_run (v := .slice (some ⟨ab, ao, none⟩) 32 cap) (Pred.wanted_none rfl) (by go_simp) ⟨PredS.ext_refl _ _ _, rfl⟩
    · intro b X hE hd hn hV
      have r13 : b.tmps[13]?.getD undef = .slice (some ⟨ab, ao, none⟩) 32 cap := hV 0 _ 13 rfl rfl rfl (Pred.waits_near (by kernel_rfl) (by kernel_rfl))
      have q1 : (8 : Int) ≤ (cap : Int) := by omega
      have q2 : ¬ cap = 4 := by omega
      exact Pred.yields_run (v := .slice (some ⟨ab, ao + 4, none⟩) 4 (cap - 4)) (Pred.wanted_none rfl) (by go_simp) ⟨PredS.ext_refl _ _ _, rfl⟩
    · intro b X hE hd hn hV
      have r14 : b.tmps[14]?.getD undef = .slice (some ⟨ab, ao + 4, none⟩) 4 (cap - 4) := hV 1 _ 14 rfl rfl rfl (Pred.waits_near (by kernel_rfl) (by kernel_rfl))
      refine Pred.yields_call (f := 25) (args := #[.slice (some ⟨ab, ao + 4, none⟩) 4 (cap - 4)]) (Pred.wanted_none rfl) (by go_simp) ?_
      exact (get_any _ _ _ _ _ (sub_reads (HRW.out.below hE (Nat.le_refl _)) 4 4 (by omega)) (HS.out 4 4) (by omega)).mono fun e w2 ⟨he, hb⟩ => ⟨_, he, PredS.ext_below hb hE.size, rfl⟩
    · intro b X hE hd hn hV
      have r1 : b.tmps[1]?.getD undef = .slice (some ⟨ab, ao, none⟩) 32 cap := (hn 1 (by kernel_rfl)).trans rfl
      exact Pred.yields_run (v := .slice (some ⟨ab, ao, none⟩) 32 cap) (Pred.wanted_none rfl) (by go_simp) ⟨PredS.ext_refl _ _ _, rfl⟩
    · intro b X hE hd hn hV
      have r16 : b.tmps[16]?.getD undef = .slice (some ⟨ab, ao, none⟩) 32 cap := hV 3 _ 16 rfl rfl rfl (Pred.waits_near (by kernel_rfl) (by kernel_rfl))
      have q1 : (9 : Int) ≤ (cap : Int) := by omega
      have q2 : ¬ cap = 8 := by omega
      exact Pred.yields_run (v := .slice (some ⟨ab, ao + 8, none⟩) 1 (cap - 8)) (Pred.wanted_none rfl) (by go_simp) ⟨PredS.ext_refl _ _ _, rfl⟩
    · intro b X hE hd hn hV
      have r17 : b.tmps[17]?.getD undef = .slice (some ⟨ab, ao + 8, none⟩) 1 (cap - 8) := hV 4 _ 17 rfl rfl rfl (Pred.waits_near (by kernel_rfl) (by kernel_rfl))
      refine Pred.yields_call (f := 25) (args := #[.slice (some ⟨ab, ao + 8, none⟩) 1 (cap - 8)]) (Pred.wanted_none rfl) (by go_simp) ?_
      exact (get_any _ _ _ _ _ (sub_reads (HRW.out.below hE (Nat.le_refl _)) 8 1 (by omega)) (HS.out 8 1) (by omega)).mono fun e w2 ⟨he, hb⟩ => ⟨_, he, PredS.ext_below hb hE.size, rfl⟩
    · intro b X hE hd hn hV
      have r1 : b.tmps[1]?.getD undef = .slice (some ⟨ab, ao, none⟩) 32 cap := (hn 1 (by kernel_rfl)).trans rfl
      exact Pred.yields_run (v := .slice (some ⟨ab, ao, none⟩) 32 cap) (Pred.wanted_none rfl) (by go_simp) ⟨PredS.ext_refl _ _ _, rfl⟩
    · intro b X hE hd hn hV
      have r19 : b.tmps[19]?.getD undef = .slice (some ⟨ab, ao, none⟩) 32 cap := hV 6 _ 19 rfl rfl rfl (Pred.waits_near (by kernel_rfl) (by kernel_rfl))
      exact Pred.yields_run (v := .pointer (some ⟨ab, ao + 9, none⟩)) (Pred.wanted_none rfl) (by go_simp) ⟨PredS.ext_refl _ _ _, rfl⟩
    · intro b X hE hd hn hV
      have r20 : b.tmps[20]?.getD undef = .pointer (some ⟨ab, ao + 9, none⟩) := hV 7 _ 20 rfl rfl rfl (Pred.waits_near (by kernel_rfl) (by kernel_rfl))
      have hc := (hE.cell (p := ⟨ab, ao + 9, none⟩) hab2).trans hc9
      exact Pred.yields_run (v := .int .u8 (zs.getD 9 0)) (Pred.wanted_none rfl) (by go_simp) ⟨PredS.ext_refl _ _ _, rfl⟩
    · intro b X hE hd hn hV
      have r21 : b.tmps[21]?.getD undef = .int .u8 (zs.getD 9 0) := hV 8 _ 21 rfl rfl rfl (Pred.waits_near (by kernel_rfl) (by kernel_rfl))
      exact Pred.yields_run (v := .bool (decR zs)) (Pred.wanted_none rfl) (by go_simp; rfl) ⟨PredS.ext_refl _ _ _, rfl⟩
    · intro b X hE hd hn hV
      have r1 : b.tmps[1]?.getD undef = .slice (some ⟨ab, ao, none⟩) 32 cap := (hn 1 (by kernel_rfl)).trans rfl
      exact Pred.yields_run (v := .slice (some ⟨ab, ao, none⟩) 32 cap) (Pred.wanted_none rfl) (by go_simp) ⟨PredS.ext_refl _ _ _, rfl⟩
    · intro b X hE hd hn hV
      have r23 : b.tmps[23]?.getD undef = .slice (some ⟨ab, ao, none⟩) 32 cap := hV 10 _ 23 rfl rfl rfl (Pred.waits_near (by kernel_rfl) (by kernel_rfl))
      have q1 : (12 : Int) ≤ (cap : Int) := by omega
      have q2 : ¬ cap = 10 := by omega
      exact Pred.yields_run (v := .slice (some ⟨ab, ao + 10, none⟩) 2 (cap - 10)) (Pred.wanted_none rfl) (by go_simp) ⟨PredS.ext_refl _ _ _, rfl⟩
    · intro b X hE hd hn hV
      have r24 : b.tmps[24]?.getD undef = .slice (some ⟨ab, ao + 10, none⟩) 2 (cap - 10) := hV 11 _ 24 rfl rfl rfl (Pred.waits_near (by kernel_rfl) (by kernel_rfl))
      refine Pred.yields_call (f := 25) (args := #[.slice (some ⟨ab, ao + 10, none⟩) 2 (cap - 10)]) (Pred.wanted_none rfl) (by go_simp) ?_
      exact (get_any _ _ _ _ _ (sub_reads (HRW.out.below hE (Nat.le_refl _)) 10 2 (by omega)) (HS.out 10 2) (by omega)).mono fun e w2 ⟨he, hb⟩ => ⟨_, he, PredS.ext_below hb hE.size, rfl⟩
    · intro b X hE hd hn hV
      have r1 : b.tmps[1]?.getD undef = .slice (some ⟨ab, ao, none⟩) 32 cap := (hn 1 (by kernel_rfl)).trans rfl
      exact Pred.yields_run (v := .slice (some ⟨ab, ao, none⟩) 32 cap) (Pred.wanted_none rfl) (by go_simp) ⟨PredS.ext_refl _ _ _, rfl⟩
    · intro b X hE hd hn hV
      have r26 : b.tmps[26]?.getD undef = .slice (some ⟨ab, ao, none⟩) 32 cap := hV 13 _ 26 rfl rfl rfl (Pred.waits_near (by kernel_rfl) (by kernel_rfl))
      have q1 : (14 : Int) ≤ (cap : Int) := by omega
      have q2 : ¬ cap = 12 := by omega
      exact Pred.yields_run (v := .slice (some ⟨ab, ao + 12, none⟩) 2 (cap - 12)) (Pred.wanted_none rfl) (by go_simp) ⟨PredS.ext_refl _ _ _, rfl⟩
    · intro b X hE hd hn hV
      have r27 : b.tmps[27]?.getD undef = .slice (some ⟨ab, ao + 12, none⟩) 2 (cap - 12) := hV 14 _ 27 rfl rfl rfl (Pred.waits_near (by kernel_rfl) (by kernel_rfl))
      refine Pred.yields_call (f := 25) (args := #[.slice (some ⟨ab, ao + 12, none⟩) 2 (cap - 12)]) (Pred.wanted_none rfl) (by go_simp) ?_
      exact (get_any _ _ _ _ _ (sub_reads (HRW.out.below hE (Nat.le_refl _)) 12 2 (by omega)) (HS.out 12 2) (by omega)).mono fun e w2 ⟨he, hb⟩ => ⟨_, he, PredS.ext_below hb hE.size, rfl⟩
    · intro b X hE hd hn hV
      have r1 : b.tmps[1]?.getD undef = .slice (some ⟨ab, ao, none⟩) 32 cap := (hn 1 (by kernel_rfl)).trans rfl
      exact Pred.yields_run (v := .slice (some ⟨ab, ao, none⟩) 32 cap) (Pred.wanted_none rfl) (by go_simp) ⟨PredS.ext_refl _ _ _, rfl⟩
    · intro b X hE hd hn hV
      have r29 : b.tmps[29]?.getD undef = .slice (some ⟨ab, ao, none⟩) 32 cap := hV 16 _ 29 rfl rfl rfl (Pred.waits_near (by kernel_rfl) (by kernel_rfl))
      have q1 : (18 : Int) ≤ (cap : Int) := by omega
      have q2 : ¬ cap = 14 := by omega
      exact Pred.yields_run (v := .slice (some ⟨ab, ao + 14, none⟩) 4 (cap - 14)) (Pred.wanted_none rfl) (by go_simp) ⟨PredS.ext_refl _ _ _, rfl⟩
    · intro b X hE hd hn hV
      have r30 : b.tmps[30]?.getD undef = .slice (some ⟨ab, ao + 14, none⟩) 4 (cap - 14) := hV 17 _ 30 rfl rfl rfl (Pred.waits_near (by kernel_rfl) (by kernel_rfl))
      refine Pred.yields_call (f := 25) (args := #[.slice (some ⟨ab, ao + 14, none⟩) 4 (cap - 14)]) (Pred.wanted_none rfl) (by go_simp) ?_
      exact (get_any _ _ _ _ _ (sub_reads (HRW.out.below hE (Nat.le_refl _)) 14 4 (by omega)) (HS.out 14 4) (by omega)).mono fun e w2 ⟨he, hb⟩ => ⟨_, he, PredS.ext_below hb hE.size, rfl⟩
    · intro b X hE hd hn hV
      have r31 : b.tmps[31]?.getD undef = .int .i64 (fld zs 14 4 : Nat) := hV 18 _ 31 rfl rfl rfl (Pred.waits_near (by kernel_rfl) (by kernel_rfl))
      exact Pred.yields_run (v := .int .u32 (fld zs 14 4 : Nat)) (Pred.wanted_none rfl) (by go_simp; exact wrap_u32_nat _ hm14) ⟨PredS.ext_refl _ _ _, rfl⟩
    · intro b X hE hd hn hV
      have r15 : b.tmps[15]?.getD undef = .int .i64 (fld zs 4 4 : Nat) := hV 2 _ 15 rfl rfl rfl (Pred.waits_near (by kernel_rfl) (by kernel_rfl))
      have r18 : b.tmps[18]?.getD undef = .int .i64 (fld zs 8 1 : Nat) := hV 5 _ 18 rfl rfl rfl (Pred.waits_near (by kernel_rfl) (by kernel_rfl))
      have r22 : b.tmps[22]?.getD undef = .bool (decR zs) := hV 9 _ 22 rfl rfl rfl (Pred.waits_near (by kernel_rfl) (by kernel_rfl))
      have r25 : b.tmps[25]?.getD undef = .int .i64 (fld zs 10 2 : Nat) := hV 12 _ 25 rfl rfl rfl (Pred.waits_near (by kernel_rfl) (by kernel_rfl))
      have r28 : b.tmps[28]?.getD undef = .int .i64 (fld zs 12 2 : Nat) := hV 15 _ 28 rfl rfl rfl (Pred.waits_near (by kernel_rfl) (by kernel_rfl))
      have r32 : b.tmps[32]?.getD undef = .int .u32 (fld zs 14 4 : Nat) := hV 19 _ 32 rfl rfl rfl (Pred.waits_near (by kernel_rfl) (by kernel_rfl))
      exact Pred.yields_run (v := .agg (decV zs)) (Pred.wanted_none rfl) (by go_simp; rfl) ⟨PredS.ext_refl _ _ _, rfl⟩
  · refine ⟨?_, trivial⟩
    · refine ⟨_, 6, _, rfl, rfl, by simp, rfl, fun ρ w => by go_simp; rfl, rfl, rfl, Pred.waits_near (by kernel_rfl) (by kernel_rfl), fun b X g hE hn hV hp hg hb => ?_⟩
      have r33 : b.tmps[33]?.getD undef = .agg (decV zs) := hV 20 _ 33 rfl rfl rfl (Pred.waits_near (by kernel_rfl) (by kernel_rfl))
      have hz6 : zeroB.size = 6 := rfl
      have hv6 : (decV zs).size = 6 := rfl
      have hva : (decV zs).all (fun a => a.oneCell') 0 6 = true := blkV_all _ _ _ _ _ _
      simp only at hb
      exact PredS.yields_skip (Pred.wanted_none rfl) (by go_simp) rfl
  intro v X hE hv hL
  have e0 : v 0 = .slice (some ⟨ab, ao, none⟩) 32 cap := hv 0 _ 13 rfl rfl rfl
  have e1 : v 1 = .slice (some ⟨ab, ao + 4, none⟩) 4 (cap - 4) := hv 1 _ 14 rfl rfl rfl
  have e2 : v 2 = .int .i64 (fld zs 4 4 : Nat) := hv 2 _ 15 rfl rfl rfl
  have e3 : v 3 = .slice (some ⟨ab, ao, none⟩) 32 cap := hv 3 _ 16 rfl rfl rfl
  have e4 : v 4 = .slice (some ⟨ab, ao + 8, none⟩) 1 (cap - 8) := hv 4 _ 17 rfl rfl rfl
  have e5 : v 5 = .int .i64 (fld zs 8 1 : Nat) := hv 5 _ 18 rfl rfl rfl
  have e6 : v 6 = .slice (some ⟨ab, ao, none⟩) 32 cap := hv 6 _ 19 rfl rfl rfl
  have e7 : v 7 = .pointer (some ⟨ab, ao + 9, none⟩) := hv 7 _ 20 rfl rfl rfl
  have e8 : v 8 = .int .u8 (zs.getD 9 0) := hv 8 _ 21 rfl rfl rfl
  have e9 : v 9 = .bool (decR zs) := hv 9 _ 22 rfl rfl rfl
  have e10 : v 10 = .slice (some ⟨ab, ao, none⟩) 32 cap := hv 10 _ 23 rfl rfl rfl
  have e11 : v 11 = .slice (some ⟨ab, ao + 10, none⟩) 2 (cap - 10) := hv 11 _ 24 rfl rfl rfl
  have e12 : v 12 = .int .i64 (fld zs 10 2 : Nat) := hv 12 _ 25 rfl rfl rfl
  have e13 : v 13 = .slice (some ⟨ab, ao, none⟩) 32 cap := hv 13 _ 26 rfl rfl rfl
  have e14 : v 14 = .slice (some ⟨ab, ao + 12, none⟩) 2 (cap - 12) := hv 14 _ 27 rfl rfl rfl
  have e15 : v 15 = .int .i64 (fld zs 12 2 : Nat) := hv 15 _ 28 rfl rfl rfl
  have e16 : v 16 = .slice (some ⟨ab, ao, none⟩) 32 cap := hv 16 _ 29 rfl rfl rfl
  have e17 : v 17 = .slice (some ⟨ab, ao + 14, none⟩) 4 (cap - 14) := hv 17 _ 30 rfl rfl rfl
  have e18 : v 18 = .int .i64 (fld zs 14 4 : Nat) := hv 18 _ 31 rfl rfl rfl
  have e19 : v 19 = .int .u32 (fld zs 14 4 : Nat) := hv 19 _ 32 rfl rfl rfl
  have e20 : v 20 = .agg (decV zs) := hv 20 _ 33 rfl rfl rfl
  obtain ⟨⟨g21, e21, o21, q21, n21⟩, -⟩ := hL
  replace q21 : blk X g21 = some (.cells (decV zs) 24 (0, 0)) := q21
  clear n21
  simp only [Pred.putsF_cons, Pred.putsF_nil, Nat.zero_add, Nat.reduceAdd, e0, e1, e2, e3, e4, e5, e6, e7, e8, e9, e10, e11, e12, e13, e14, e15, e16, e17, e18, e19, e20, e21, Act.put, List.setIfInBounds_toArray, List.set_cons_zero, List.set_cons_succ]
  clear e0 e1 e2 e3 e4 e5 e6 e7 e8 e9 e10 e11 e12 e13 e14 e15 e16 e17 e18 e19 e20 e21 hv
  have T1 := (blk_below hE _ lT).trans T0
  have R1 := (blk_below hE _ lR).trans R0
  have sX := hE.size
  have L2 : Below w.heap.size w X := L1.trans (hE.mono sW)
  have HRX := Lib.hid (HRW.out.below hE (Nat.le_refl _))
  clear hE T0 R0 lT lR L1 HRW hc9 h9
  have l1 := blk_lt T1
  have l2 := blk_lt R1
  have l3 := blk_lt q21
  have hz6 : zeroB.size = 6 := rfl
  have hv6 : (decV zs).size = 6 := rfl
  have hva : (decV zs).all (fun a => a.oneCell') 0 6 = true := blkV_all _ _ _ _ _ _
  cases hM : decM zs
  · have hok : decOK zs = false := by unfold decOK; rw [hM]; rfl
    go_wp2_with fail
    refine (encode_no (fld zs 4 4) (fld zs 8 1) (decR zs) (fld zs 10 2) (fld zs 12 2) (fld zs 14 4) _ hM).mono ?_
    rintro e Y ⟨rfl, hb⟩
    have T2 := (blk_below hb _ l1).trans T1
    have R2 := (blk_below hb _ l2).trans R1
    go_wp2_with fail
    refine ret_sup2 rfl (w.heap.size + 1) zeroB (0, 0) rfl rfl (blk_setRow_of R2 _) rfl ⟨by rw [decRes_no hok]; rfl, by repeat' (first | (with_reducible exact Below.refl _ _) | (with_reducible refine Rd.below_step ?_ (by assumption)) | (with_reducible refine Rd.below_alloc ?_ _) | (with_reducible refine Rd.below_drewN ?_ _) | (with_reducible refine Below.drew ?_) | (with_reducible refine Below.setCell ?_ ?_ _) | (with_reducible refine Rd.below_setRow ?_ ?_ _) | go_size | (simp only [World.size_alloc]; omega) | omega)⟩
  · go_wp2_with fail
    refine (encode_yes (fld zs 4 4) (fld zs 8 1) (decR zs) (fld zs 10 2) (fld zs 12 2) (fld zs 14 4) _ hM (by omega) (by omega) (by omega) (by omega) (by omega)).mono ?_
    rintro e Y ⟨a2, cap2, rfl, hc1, hc2, hRY, hb⟩
    have R2 := (blk_below hb _ l2).trans R1
    have B2 := (blk_below hb _ l3).trans q21
    have sY := hb.size
    have HRY := Lib.hid hRY
    have HRZ := Lib.hid (HRX.out.below hb (Nat.le_refl _))
    clear hRY
    by_cases hEq : decE zs = zs
    · have hok : decOK zs = true := by unfold decOK; rw [hM]; simp [hEq]
      go_wp2_with (go_at_call 26; refine (equal_any _ _ _ _ _ _ (decE zs) zs _ HRY.out HRZ.out (encL_bd _ _ _ _ _ _) HZ.out).mono ?_; rintro e Z ⟨rfl, rfl⟩; try simp only [hEq, decide_true])
      refine ret_sup2 rfl (w.heap.size + 1) (decV zs) (0, 0) rfl rfl (blk_setRow_of R2 _) rfl ⟨by rw [decRes_yes hok]; rfl, by repeat' (first | (with_reducible exact Below.refl _ _) | (with_reducible refine Rd.below_step ?_ (by assumption)) | (with_reducible refine Rd.below_alloc ?_ _) | (with_reducible refine Rd.below_drewN ?_ _) | (with_reducible refine Below.drew ?_) | (with_reducible refine Below.setCell ?_ ?_ _) | (with_reducible refine Rd.below_setRow ?_ ?_ _) | go_size | (simp only [World.size_alloc]; omega) | omega)⟩
    · have hok : decOK zs = false := by unfold decOK; rw [hM]; simp [hEq]
      go_wp2_with (go_at_call 26; refine (equal_any _ _ _ _ _ _ (decE zs) zs _ HRY.out HRZ.out (encL_bd _ _ _ _ _ _) HZ.out).mono ?_; rintro e Z ⟨rfl, rfl⟩; try simp only [hEq, decide_false])
      refine ret_sup2 rfl (w.heap.size + 1) zeroB (0, 0) rfl rfl (blk_setRow_of R2 _) rfl ⟨by rw [decRes_no hok]; rfl, by repeat' (first | (with_reducible exact Below.refl _ _) | (with_reducible refine Rd.below_step ?_ (by assumption)) | (with_reducible refine Rd.below_alloc ?_ _) | (with_reducible refine Rd.below_drewN ?_ _) | (with_reducible refine Below.drew ?_) | (with_reducible refine Below.setCell ?_ ?_ _) | (with_reducible refine Rd.below_setRow ?_ ?_ _) | go_size | (simp only [World.size_alloc]; omega) | omega)⟩
end Go.Proofs.Ytbicgcnlijgjmaa.SupC

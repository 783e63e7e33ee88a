/-
  Decode.
  Decode: the walk.
-/
import Derived.Test.YtpjbacpchmemeaaDiU
import Derived.BigGuard
import Derived.Lib.SliceRun
namespace Go.Proofs.Ytpjbacpchmemeaa.DiV
open Go.RowKit Go.Shelf Rd Go.Proofs.Ytpjbacpchmemeaa.Row Mid PgM PgA PgB PgC DiM DiA DiC DiD DiE DiF DiK DiN DiQ DiU OctA OctB
open Go.Proofs.Ytpjbacpchmemeaa.DiM (at_ at_get ce ce_len ce_app ce_one ce_ones ce_at)
set_option linter.unusedVariables false
set_option linter.unusedSimpArgs false
set_option maxRecDepth 10000
/-- piece number i -/
def pc (zs : List Int) (i : Nat) : List Int := (zs.drop (10 * i)).take 10
theorem pcs_eq : ∀ (n : Nat) (zs : List Int), pcs zs n = (List.range n).map (pc zs)
  | 0, _ => rfl
  | n + 1, zs => by
    rw [pcs, pcs_eq n, List.range_succ_eq_map, List.map_cons, List.map_map]
    congr 1
    · refine List.map_congr_left fun i _ => ?_
      unfold pc
      simp only [Function.comp, List.drop_drop]
      congr 2
      omega
/-- the entries of the first so many -/
def rdL (d : Int) (zs : List Int) (k : Nat) : List En := (List.range k).map fun i => enV d (pc zs i)
theorem rdL_succ (d : Int) (zs : List Int) (k : Nat) : rdL d zs (k + 1) = rdL d zs k ++ [enV d (pc zs k)] := by simp [rdL, List.range_succ]
theorem rdL_len (d : Int) (zs : List Int) (k : Nat) : (rdL d zs k).length = k := by simp [rdL]
theorem pc_bd {zs : List Int} (h : B8s zs) (k : Nat) : B8s (pc zs k) := fun z hz => h z (List.mem_of_mem_drop (List.mem_of_mem_take hz))
theorem rdL_B {d : Int} {zs : List Int} (h : B8s zs) (k : Nat) : RB (rdL d zs k) := fun p hp => by
  obtain ⟨i, _, rfl⟩ := List.mem_map.1 hp
  have := nm_lt (pc_bd h i) 6 4
  show 0 ≤ ((nm (pc zs i) 6 4 : Nat) : Int) ∧ ((nm (pc zs i) 6 4 : Nat) : Int) ≤ 4294967295
  simp only [Nat.reducePow] at this
  omega
theorem rd_no {d : Int} {zs : List Int} {k : Nat} (hk : k < zs.length / 10) (h : enB d (pc zs k) = false) : rdO d zs = none := by
  unfold rdO
  rw [if_neg]
  intro e
  have := List.all_eq_true.1 e (pc zs k) (by rw [pcs_eq]; exact List.mem_map.2 ⟨k, by simpa using hk, rfl⟩)
  rw [h] at this
  cases this
theorem rd_yes {d : Int} {zs : List Int} (h : ∀ k, k < zs.length / 10 → enB d (pc zs k) = true) : rdO d zs = some (rdL d zs (zs.length / 10)) := by
  unfold rdO
  rw [if_pos, pcs_eq, List.map_map]
  · rfl
  · refine List.all_eq_true.2 fun x hx => ?_
    rw [pcs_eq] at hx
    obtain ⟨i, hi, rfl⟩ := List.mem_map.1 hx
    exact h i (by simpa using hi)
/-- what Decode says -/
def decV (d : Int) (zs : List Int) : Option (List En) :=
  if depthB d = true ∧ zs.length % 10 = 0 then
    match rdO d zs with
    | none => none
    | some l => match newV d l with
      | none => none
      | some s => if dirB d s = zs then some s else none
  else none
theorem dec_depth {d : Int} (zs : List Int) (h : depthB d = false) : decV d zs = none := by unfold decV; rw [if_neg (by rw [h]; simp)]
theorem dec_mod (d : Int) {zs : List Int} (h : zs.length % 10 ≠ 0) : decV d zs = none := by unfold decV; rw [if_neg (fun e => h e.2)]
theorem dec_rd {d : Int} {zs : List Int} (h : rdO d zs = none) : decV d zs = none := by unfold decV; rw [h]; split <;> rfl
theorem dec_new {d : Int} {zs : List Int} {l : List En} (h : rdO d zs = some l) (h2 : newV d l = none) : decV d zs = none := by unfold decV; rw [h]; dsimp only; rw [h2]; split <;> rfl
theorem dec_ne {d : Int} {zs : List Int} {l s : List En} (h : rdO d zs = some l) (h2 : newV d l = some s) (h3 : dirB d s ≠ zs) : decV d zs = none := by unfold decV; rw [h]; dsimp only; rw [h2]; dsimp only; rw [if_neg h3]; split <;> rfl
theorem dec_yes {d : Int} {zs : List Int} {l s : List En} (hd : depthB d = true) (hm : zs.length % 10 = 0) (h : rdO d zs = some l) (h2 : newV d l = some s) (h3 : dirB d s = zs) : decV d zs = some s := by unfold decV; rw [if_pos ⟨hd, hm⟩, h]; dsimp only; rw [h2]; dsimp only; rw [if_pos h3]
/-- bytes as strings are alike when they are the same -/
theorem num_inj : ∀ {a b : List Int}, B8s a → B8s b → (a.map fun z => UInt8.ofNat z.toNat) = (b.map fun z => UInt8.ofNat z.toNat) → a = b
  | [], [], _, _, _ => rfl
  | [], _ :: _, _, _, h => by simp at h
  | _ :: _, [], _, _, h => by simp at h
  | x :: a, y :: b, ha, hb, h => by
    simp only [List.map_cons, List.cons.injEq] at h
    have hx := ha x (by simp)
    have hy := hb y (by simp)
    have e : x.toNat = y.toNat := by
      have := congrArg UInt8.toNat h.1
      simp at this
      omega
    rw [num_inj (fun z hz => ha z (by simp [hz])) (fun z hz => hb z (by simp [hz])) h.2, show x = y by omega]
def eqB (xs ys : List Int) : Bool := (bytesOf xs).toList == (bytesOf ys).toList
theorem eqB_is {a b : List Int} (ha : B8s a) (hb : B8s b) : eqB a b = decide (a = b) := by
  by_cases h : a = b
  · subst h
    unfold eqB
    simp
  · rw [decide_eq_false h]
    unfold eqB
    rw [beq_eq_false_iff_ne, Go.ByteArray.toList_eq, Go.ByteArray.toList_eq]
    intro e
    exact h (num_inj ha hb (by simpa [bytesOf] using e))
theorem equal_any (a b : Option Addr) (n n' c c' : Nat) (xs ys : List Int) (w : World) (ha : Reads w 1 a n (u8s xs)) (hb : Reads w 1 b n' (u8s ys)) (hx : B8s xs) (hy : B8s ys) :
    Calls Try.prog 37 #[.slice a n c, .slice b n' c'] w fun e w' => e = .returned (.bool (decide (xs = ys))) ∧ w = w' := by
  have c1 := conv_reads (cap := c) Try.underlying23 Try.underlying5 Try.underlying9 ha hx
  have c2 := conv_reads (cap := c') Try.underlying23 Try.underlying5 Try.underlying9 hb hy
  have E := Lib.hid (eqB_is hx hy)
  clear ha hb hx hy
  go_enter Try.func37, Try.ntmps37
  go_wp2
  go_ret
  exact ⟨by rw [← E.out]; rfl, rfl⟩
end Go.Proofs.Ytpjbacpchmemeaa.DiV

namespace Go.Proofs.Ytpjbacpchmemeaa.DiW
open Go.RowKit Go.Shelf Rd Go.Proofs.Ytpjbacpchmemeaa.Row Mid PgM PgA PgB PgC DiM DiA DiC DiD DiE DiF DiK DiN DiQ DiU DiV OctA OctB
open Go.Proofs.Ytpjbacpchmemeaa.DiM (at_ at_get ce ce_len ce_app ce_one ce_ones ce_at)
set_option linter.unusedVariables false
set_option linter.unusedSimpArgs false
set_option maxRecDepth 10000
attribute [local go_sem ↓] load_pg store_pg load_en store_en alloc_en
attribute [local go_sem] one_int pc3 piece_en DiI.fold_en run_load_pg run_store_pg run_alloc_en run_load_en run_store_en midLoad_eq rowLoad_eq rowStore_eq blk_alloc_at blk_alloc_old blk_drew blk_drewN blk_set_far blk_set_far' blk_grow setRow_alloc_at setRow_alloc_old setRow_drew setRow_drewN En.c_size En.c_all all6
theorem new_some {d : Int} {l s : List En} (h : newV d l = some s) : good d l ∧ s = srt d l := by
  unfold newV at h
  split at h
  · rename_i hg
    exact ⟨hg, by injection h with h; exact h.symm⟩
  · cases h
theorem new_len {d : Int} {l s : List En} (h : newV d l = some s) : s.length = l.length := by
  rw [(new_some h).2, srt_len]
theorem new_B {d : Int} {l s : List En} (h : newV d l = some s) (hb : RB l) : RB s := by
  rw [(new_some h).2]
  exact srt_B hb
theorem entry_yes (d : Int) (g o cap : Nat) (zs : List Int) (w : World) (hr : Reads w 1 (some ⟨g, o, none⟩) 10 (u8s zs)) (hz : B8s zs) (hb : enB d zs = true) (hc : 10 ≤ cap) :
    Calls Try.prog 36 #[.int .i64 d, .slice (some ⟨g, o, none⟩) 10 cap] w fun e w' => e = .returned (.tuple #[(enV d zs).v, .bool true]) ∧ Below w.heap.size w w' :=
  (entry_any d g o cap zs w hr hz hc).mono fun e w' h => ⟨h.1 hb, h.2.2⟩
theorem entry_no (d : Int) (g o cap : Nat) (zs : List Int) (w : World) (hr : Reads w 1 (some ⟨g, o, none⟩) 10 (u8s zs)) (hz : B8s zs) (hb : enB d zs = false) (hc : 10 ≤ cap) :
    Calls Try.prog 36 #[.int .i64 d, .slice (some ⟨g, o, none⟩) 10 cap] w fun e w' => e = .returned (.tuple #[En.z.v, .bool false]) ∧ Below w.heap.size w w' :=
  (entry_any d g o cap zs w hr hz hc).mono fun e w' h => ⟨h.2.1 hb, h.2.2⟩
set_option maxHeartbeats 2000000 in
theorem dec_any (d : Int) (ad : Option Addr) (zs : List Int) (cap : Nat) (w : World) (hR : Reads w 1 ad zs.length (u8s zs)) (hz : B8s zs) (hn : zs.length ≤ 100000) (hc : zs.length ≤ cap) :
    Calls Try.prog 10 #[.int .i64 d, .slice ad zs.length cap] w fun e w' => NewR d (decV d zs) (if depthB d = true then 3 else 1) e w' ∧ Below w.heap.size w w' := by
  have HR := Lib.hid hR
  have HZ := Lib.hid hz
  have CC := Lib.hid (fun X => count_any d X)
  have HC0 := Lib.hid (count_no (d := d))
  have HC1 := Lib.hid (count_yes (d := d))
  obtain ⟨c, ec⟩ : ∃ c, countV d = c := ⟨_, rfl⟩
  rw [ec] at CC HC0 HC1
  obtain ⟨res, er⟩ : ∃ o, decV d zs = o := ⟨_, rfl⟩
  rw [er]
  have ER := Lib.hid er
  obtain ⟨n, en⟩ : ∃ n, zs.length = n := ⟨_, rfl⟩
  rw [en] at hn hc HR ⊢
  have EN := Lib.hid en
  obtain ⟨cd, ecd⟩ : ∃ c : Int, (if depthB d = true then 3 else 1) = c := ⟨_, rfl⟩
  rw [ecd]
  have ECD := Lib.hid ecd
  obtain ⟨qd, ed⟩ : ∃ q, depthB d = q := ⟨_, rfl⟩
  have ED := Lib.hid ed
  clear hR hz ec er en ecd ed
  cases qd
  case false =>
    have hc := HC0.out ED.out
    subst hc
    have E := Lib.hid (ER.out.symm.trans (dec_depth zs ED.out))
    have E2 : Hid (cd = 1) := Lib.hid (by rw [← ECD.out, ED.out]; rfl)
    go_enter Try.func10, Try.ntmps10
    go_wp2_with (go_at_call 25; refine (CC.out _).mono ?_; rintro e w2 ⟨rfl, hb2⟩)
    go_ret2
    exact ⟨⟨_, by rw [E.out, E2.out]; rfl, by rw [E.out]; rfl⟩, by repeat' (first | (with_reducible exact Below.refl _ _) | (with_reducible refine Rd.below_step ?_ (by assumption)) | (with_reducible refine Rd.below_alloc ?_ _) | (with_reducible refine Rd.below_drewN ?_ _) | (with_reducible refine Below.drew ?_) | (with_reducible refine Below.setCell ?_ ?_ _) | (with_reducible refine Rd.below_setRow ?_ ?_ _) | go_size | (simp only [World.size_alloc]; omega) | omega)⟩
  have hc := HC1.out ED.out
  have hc0 : (c == 0) = false := by rw [beq_eq_false_iff_ne]; omega
  have E3 : Hid (cd = 3) := Lib.hid (by rw [← ECD.out, ED.out]; rfl)
  clear hc HC0 HC1 ECD
  have hrem : (n : Int).tmod 10 = ((n % 10 : Nat) : Int) := by rw [Int.tmod_eq_emod_of_nonneg (by omega)]; omega
  obtain ⟨q, hq⟩ : ∃ q, n % 10 = q := ⟨_, rfl⟩
  rw [hq] at hrem
  by_cases h0 : q = 0
  case neg =>
    have hq0 : ((q : Int) == 0) = false := by rw [beq_eq_false_iff_ne]; omega
    have E := Lib.hid (ER.out.symm.trans (dec_mod d (zs := zs) (by rw [EN.out, hq]; exact h0)))
    clear hq
    go_enter Try.func10, Try.ntmps10
    go_wp2_with (go_at_call 25; refine (CC.out _).mono ?_; rintro e w2 ⟨rfl, hb2⟩)
    go_ret2
    exact ⟨⟨_, by rw [E.out, E3.out]; rfl, by rw [E.out]; rfl⟩, by repeat' (first | (with_reducible exact Below.refl _ _) | (with_reducible refine Rd.below_step ?_ (by assumption)) | (with_reducible refine Rd.below_alloc ?_ _) | (with_reducible refine Rd.below_drewN ?_ _) | (with_reducible refine Below.drew ?_) | (with_reducible refine Below.setCell ?_ ?_ _) | (with_reducible refine Rd.below_setRow ?_ ?_ _) | go_size | (simp only [World.size_alloc]; omega) | omega)⟩
  subst h0
  obtain ⟨m, hm⟩ : ∃ m, n = 10 * m := ⟨n / 10, by omega⟩
  have HM : Hid (n = 10 * m ∧ n / 10 = m ∧ m ≤ 10000) := Lib.hid ⟨hm, by omega, by omega⟩
  clear hm hq
  go_enter Try.func10, Try.ntmps10
  go_wp2_with (go_at_call 25; refine (CC.out _).mono ?_; rintro e w2 ⟨rfl, hb2⟩)
  have s2 := hb2.size
  have L2 : Below w.heap.size w w2 := by repeat' (first | (with_reducible exact Below.refl _ _) | (with_reducible refine Rd.below_step ?_ (by assumption)) | (with_reducible refine Rd.below_alloc ?_ _) | (with_reducible refine Rd.below_drewN ?_ _) | (with_reducible refine Below.drew ?_) | (with_reducible refine Below.setCell ?_ ?_ _) | (with_reducible refine Rd.below_setRow ?_ ?_ _) | go_size | (simp only [World.size_alloc]; omega) | omega)
  clear hb2
  go_loopw [6, 7] (fun v i W => ∃ k : Nat, k ≤ m ∧ i = .int .i64 (10 * (k : Int)) ∧ Hid (∀ j, j < k → enB d (pc zs j) = true) ∧ Hid (Rown W w2.heap.size v k (rdL d zs k)) ∧ Below w2.heap.size w2 W) (fun _ i _ => n - (intOf i).toNat)
  case atStart => exact ⟨0, Nat.zero_le _, rfl, Lib.hid (fun j hj => absurd hj (Nat.not_lt_zero _)), Lib.hid (World.ownsRow_nil _ _ _ _), by repeat' (first | (with_reducible exact Below.refl _ _) | (with_reducible refine Rd.below_step ?_ (by assumption)) | (with_reducible refine Rd.below_alloc ?_ _) | (with_reducible refine Rd.below_drewN ?_ _) | (with_reducible refine Below.drew ?_) | (with_reducible refine Below.setCell ?_ ?_ _) | (with_reducible refine Rd.below_setRow ?_ ?_ _) | go_size | (simp only [World.size_alloc]; omega) | omega)⟩
  case round =>
    obtain ⟨k, hk, rfl, HK, HW, hb⟩ := hrel
    rename World => W
    rename Value => v
    have LW : Below w.heap.size w W := L2.trans (by exact ⟨hb.os, hb.tape, hb.output, hb.size, fun k hk => hb.block k (by omega)⟩)
    have sW := hb.size
    by_cases hlt : k < m
    · have hlt' : 10 * (k : Int) < (n : Int) := by have := HM.out.1; omega
      have hcap : 10 * k + 10 ≤ n := by have := HM.out.1; omega
      obtain ⟨g, o, rfl⟩ : ∃ g o, ad = some ⟨g, o, none⟩ := by
        rcases HR.out.2 with h | ⟨g, o, h, _⟩
        · have := HM.out.1
          omega
        · exact ⟨g, o, h⟩
      have RP : Reads W 1 (some ⟨g, o + 10 * k, none⟩) 10 (u8s (pc zs k)) := reads_sub (HR.out.below LW (Nat.le_refl _)) (i := 10 * k) (m := 10) (by rw [EN.out]; omega)
      have RP := Lib.hid RP
      obtain ⟨av, cv, rfl, hcv⟩ := Rd.owns_val HW.out
      obtain ⟨b, eb⟩ : ∃ b, enB d (pc zs k) = b := ⟨_, rfl⟩
      have EB := Lib.hid eb
      clear eb hcv
      cases b
      case false =>
        have E := Lib.hid (ER.out.symm.trans (dec_rd (d := d) (rd_no (k := k) (by rw [EN.out, HM.out.2.1]; exact hlt) EB.out)))
        have CE := Lib.hid (fun c => entry_no d g (o + 10 * k) c (pc zs k) W RP.out (pc_bd HZ.out k) EB.out)
        clear HK HW RP
        go_wp2_with (go_at_call 36; refine (CE.out _ (by omega)).mono ?_; rintro e w3 ⟨rfl, hb3⟩; have L3 := Rd.below_step LW hb3; clear hb3 LW hb)
        go_ret2
        exact ⟨⟨_, by rw [E.out, E3.out]; rfl, by rw [E.out]; rfl⟩, by repeat' (first | (with_reducible exact Below.refl _ _) | (with_reducible refine Rd.below_step ?_ (by assumption)) | (with_reducible refine Rd.below_alloc ?_ _) | (with_reducible refine Rd.below_drewN ?_ _) | (with_reducible refine Below.drew ?_) | (with_reducible refine Below.setCell ?_ ?_ _) | (with_reducible refine Rd.below_setRow ?_ ?_ _) | go_size | (simp only [World.size_alloc]; omega) | omega)⟩
      case true =>
        have CE := Lib.hid (fun c => entry_yes d g (o + 10 * k) c (pc zs k) W RP.out (pc_bd HZ.out k) EB.out)
        obtain ⟨p, ep⟩ : ∃ p, enV d (pc zs k) = p := ⟨_, rfl⟩
        rw [ep] at CE
        have EP := Lib.hid ep
        clear ep RP
        go_upto_region 9 with (fail)
        go_upto_region 10 with (go_at_call 36; refine (CE.out _ (by omega)).mono ?_; rintro e w3 ⟨rfl, hb3⟩; have L3 := Lib.hid hb3; clear hb3 LW)
        refine Rd.name_world ?_
        intro X hX
        have b4 : blk X w3.heap.size = some (.cells p.c 39 (0, 0)) := by rw [hX]; exact blk_alloc_at _ _ _ rfl
        have L4 : Below W.heap.size W X := by
          have L3 := L3.out
          rw [hX]
          repeat' (first | (with_reducible exact Below.refl _ _) | (with_reducible refine Rd.below_step ?_ (by assumption)) | (with_reducible refine Rd.below_alloc ?_ _) | (with_reducible refine Rd.below_drewN ?_ _) | (with_reducible refine Below.drew ?_) | (with_reducible refine Below.setCell ?_ ?_ _) | (with_reducible refine Rd.below_setRow ?_ ?_ _) | go_size | (simp only [World.size_alloc]; omega) | omega)
        clear hX
        have hld := ld_box b4
        have HW3 := Lib.hid (DiC.Rown.below HW.out L4)
        have s4 := L4.size
        have HL4 := Lib.hid L4
        clear L4 HW b4
        go_wp2_with (at_builtin; refine app_en rfl (.tmp 37) (.tmp 39) rfl w2.heap.size _ _ _ rfl (HW3.out.alloc _) X.heap.size 1 p rfl (blk_alloc_at _ _ _ rfl) (by omega) (by simp; omega) ?_; intro v4 w4 ho4 hg4)
        go_roundw
        case rel => exact ⟨k + 1, by omega, by go_num, Lib.hid (fun j hj => by
            rcases Nat.lt_or_ge j k with h | h
            · exact HK.out j h
            · rw [show j = k by omega]; exact EB.out), Lib.hid (by rw [rdL_succ, EP.out]; exact ho4), DiI.below_grown (B := 0) ((Below.trans hb (by exact ⟨HL4.out.os, HL4.out.tape, HL4.out.output, HL4.out.size, fun k hk => HL4.out.block k (by omega)⟩)).alloc (by omega) _) hg4 (Nat.le_refl _) (fun r e => by have := (HW3.out.lt r e).1; omega)⟩
        case measure => simp [intOf]; omega
    · obtain rfl : k = m := by omega
      have hlt' : ¬ 10 * (k : Int) < (n : Int) := by have := HM.out.1; omega
      have hk4 := HM.out.2.2
      have HRD := Lib.hid (rd_yes (d := d) (zs := zs) (fun j hj => HK.out j (by rw [EN.out, HM.out.2.1] at hj; exact hj)))
      rw [EN.out, HM.out.2.1] at HRD
      have HBl := Lib.hid (rdL_B (d := d) HZ.out k)
      have hrl := rdL_len d zs k
      obtain ⟨l, el⟩ : ∃ l, rdL d zs k = l := ⟨_, rfl⟩
      rw [el] at HRD HW HBl hrl
      clear HK el
      obtain ⟨av, cv, rfl, hcv⟩ := Rd.owns_val HW.out
      have HNW := Lib.hid (new_any d av k cv l W (Reads.of_owns HW.out) (by omega) (fun h => by
        rcases HW.out.2 with ⟨_, h2⟩ | ⟨g, c, cur, h2, _⟩
        · exact h2
        · injection h2 with h2
          rw [h] at h2
          cases h2))
      obtain ⟨o, eo⟩ : ∃ o, newV d l = o := ⟨_, rfl⟩
      rw [eo] at HNW
      have EO := Lib.hid eo
      clear eo hcv HW hb
      cases o with
      | none =>
        have E := Lib.hid (ER.out.symm.trans (dec_new HRD.out EO.out))
        go_wp2_with (go_at_call 8; refine HNW.out.mono ?_; rintro e w3 ⟨⟨u, rfl, hu⟩, hb3⟩; have hu : u = .pointer none := hu; subst hu; have L3 := Rd.below_step LW hb3; clear hb3 LW)
        go_ret2
        exact ⟨⟨_, by rw [E.out, E3.out]; rfl, by rw [E.out]; rfl⟩, by repeat' (first | (with_reducible exact Below.refl _ _) | (with_reducible refine Rd.below_step ?_ (by assumption)) | (with_reducible refine Rd.below_alloc ?_ _) | (with_reducible refine Rd.below_drewN ?_ _) | (with_reducible refine Below.drew ?_) | (with_reducible refine Below.setCell ?_ ?_ _) | (with_reducible refine Rd.below_setRow ?_ ?_ _) | go_size | (simp only [World.size_alloc]; omega) | omega)⟩
      | some s =>
        go_upto_region 14 with (go_at_call 8; refine HNW.out.mono ?_; rintro e w3 ⟨⟨u, rfl, b, hu, hD⟩, hb3⟩; subst hu; have L3 := Rd.below_step LW hb3; have HD := Lib.hid hD; clear hb3 LW hD)
        obtain ⟨vd, hv⟩ := DiF.Dr.v HD.out
        have hsl := new_len EO.out
        have HB3 := Lib.hid (bytes_any b d vd s _ hv HD.out.good.2.1 (new_B EO.out HBl.out) (by omega))
        obtain ⟨N, hN⟩ : ∃ N, 10 * s.length = N := ⟨_, rfl⟩
        rw [hN] at HB3
        clear hN hsl
        have R3 := Lib.hid (HR.out.below L3 (Nat.le_refl _))
        obtain ⟨q, eq⟩ : ∃ q, decide (dirB d s = zs) = q := ⟨_, rfl⟩
        have EQ := Lib.hid eq
        clear eq hv
        cases q with
        | false =>
          have E := Lib.hid (ER.out.symm.trans (dec_ne HRD.out EO.out (of_decide_eq_false EQ.out)))
          go_wp2_with (first | (go_at_call 21; refine HB3.out.mono ?_; rintro e w4 ⟨⟨v4, rfl, ho⟩, hb4⟩; obtain ⟨a4, c4, rfl, _⟩ := Rd.owns_val ho; have R4 := Lib.hid (Reads.of_owns ho); have RZ := Lib.hid (R3.out.below hb4 (Nat.le_refl _)); have L4 := Rd.below_step L3 hb4; clear ho hb4 L3) | (go_at_call 37; refine (equal_any _ _ _ _ _ _ (dirB d s) zs _ R4.out RZ.out (dirB_bd d s) HZ.out).mono ?_; rintro e w5 ⟨rfl, rfl⟩; rw [EQ.out]))
          go_ret2
          exact ⟨⟨_, by rw [E.out, E3.out]; rfl, by rw [E.out]; rfl⟩, by repeat' (first | (with_reducible exact Below.refl _ _) | (with_reducible refine Rd.below_step ?_ (by assumption)) | (with_reducible refine Rd.below_alloc ?_ _) | (with_reducible refine Rd.below_drewN ?_ _) | (with_reducible refine Below.drew ?_) | (with_reducible refine Below.setCell ?_ ?_ _) | (with_reducible refine Rd.below_setRow ?_ ?_ _) | go_size | (simp only [World.size_alloc]; omega) | omega)⟩
        | true =>
          have E := Lib.hid (ER.out.symm.trans (dec_yes ED.out (by rw [EN.out]; have := HM.out.1; omega) HRD.out EO.out (of_decide_eq_true EQ.out)))
          go_wp2_with (first | (go_at_call 21; refine HB3.out.mono ?_; rintro e w4 ⟨⟨v4, rfl, ho⟩, hb4⟩; obtain ⟨a4, c4, rfl, _⟩ := Rd.owns_val ho; have R4 := Lib.hid (Reads.of_owns ho); have RZ := Lib.hid (R3.out.below hb4 (Nat.le_refl _)); have L4 := Rd.below_step L3 hb4; have HD4 := Lib.hid (HD.out.below hb4); clear ho hb4 L3) | (go_at_call 37; refine (equal_any _ _ _ _ _ _ (dirB d s) zs _ R4.out RZ.out (dirB_bd d s) HZ.out).mono ?_; rintro e w5 ⟨rfl, rfl⟩; rw [EQ.out]))
          go_ret2
          exact ⟨⟨_, by rw [E.out]; rfl, by rw [E.out]; exact ⟨b, rfl, HD4.out⟩⟩, by repeat' (first | (with_reducible exact Below.refl _ _) | (with_reducible refine Rd.below_step ?_ (by assumption)) | (with_reducible refine Rd.below_alloc ?_ _) | (with_reducible refine Rd.below_drewN ?_ _) | (with_reducible refine Below.drew ?_) | (with_reducible refine Below.setCell ?_ ?_ _) | (with_reducible refine Rd.below_setRow ?_ ?_ _) | go_size | (simp only [World.size_alloc]; omega) | omega)⟩
end Go.Proofs.Ytpjbacpchmemeaa.DiW

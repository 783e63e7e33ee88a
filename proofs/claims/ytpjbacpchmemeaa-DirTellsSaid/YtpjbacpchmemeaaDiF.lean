/-
  New.
  A directory: how many entries; the iterator over them.
-/
import Derived.Test.YtpjbacpchmemeaaDiD
import Derived.Test.YtpjbacpchmemeaaIt
import Derived.OwnWalkIn
import Derived.Sort.BigQuietIn
import Derived.Lib.QuietBelowIn
namespace Go.Proofs.Ytpjbacpchmemeaa.DiE
open Go.RowKit Rd Go.Proofs.Ytpjbacpchmemeaa.Row Mid PgM PgA PgB PgC DiM DiA DiB DiC DiD
open Go.Proofs.Ytpjbacpchmemeaa.Num (ret_int ret_bool)
open Go.Proofs.Ytpjbacpchmemeaa.DiM (at_ at_get ce ce_len ce_app ce_one ce_ones)
set_option linter.unusedVariables false
set_option linter.unusedSimpArgs false
set_option maxRecDepth 10000
/-! when entries are a directory -/
theorem new_depth {d : Int} (l : List En) (h : depthB d = false) : newV d l = none := by
  unfold newV
  rw [if_neg]
  intro hg
  have := depth_mk hg.1.1 hg.1.2
  rw [h] at this
  cases this
theorem new_may {d : Int} {l : List En} {p : En} (hp : p ∈ l) (h : ¬ mayP d p) : newV d l = none := by
  unfold newV
  rw [if_neg]
  exact fun hg => h (hg.2.1 p hp)
theorem new_over {d : Int} {l r : List En} (hp : r.Perm l) (h : overB r = true) : newV d l = none := by
  unfold newV
  rw [if_neg]
  intro hg
  have h2 := (good_perm hp.symm hg).2.2
  unfold overB at h
  rw [decide_eq_true (show r.Pairwise far from h2.imp fun {a b} h => h.2)] at h
  cases h
theorem new_twice {d : Int} {l r : List En} (hp : r.Perm l) (h : twiceB r = true) : newV d l = none := by
  unfold newV
  rw [if_neg]
  intro hg
  have h2 := (good_perm hp.symm hg).2.2
  obtain ⟨i, hi, h3⟩ := List.any_eq_true.1 h
  have hi' : i + 1 < r.length := by
    have := List.mem_range.1 hi
    omega
  have h4 := of_decide_eq_true h3
  rw [at_get hi', at_get (by omega)] at h4
  exact (List.pairwise_iff_getElem.1 h2 i (i + 1) (by omega) hi' (by omega)).1 h4.symm
theorem new_yes {d : Int} {l r : List En} (hd : depthB d = true) (hm : ∀ p ∈ r, mayP d p) (hp : r.Perm l) (hk : inK d r) (ht : twiceB r = false) (ho : overB r = false) : newV d l = some r ∧ good d r ∧ byK d r := by
  have hd' := depth_yes hd
  have adj : ∀ i, (h : i + 1 < r.length) → r[i].K d < r[i + 1].K d := fun i h => by
    have h1 := List.pairwise_iff_getElem.1 hk i (i + 1) (by omega) h (by omega)
    have h2 : ¬ (at_ r (i + 1)).P = (at_ r i).P := fun e => by
      have := twice_yes h e
      rw [ht] at this
      cases this
    rw [at_get h, at_get (by omega)] at h2
    have h3 := key_ne hd' (hm _ (List.getElem_mem h)) (hm _ (List.getElem_mem (show i < r.length by omega))) h2
    omega
  have hb : byK d r := List.pairwise_iff_getElem.2 fun i j hi hj hij => by
    have h1 := adj i (by omega)
    rcases (show i + 1 = j ∨ i + 1 < j by omega) with h | h
    · subst h
      exact h1
    · have h2 := List.pairwise_iff_getElem.1 hk (i + 1) j (by omega) hj h
      omega
  have hf : r.Pairwise far := by
    unfold overB at ho
    by_cases h : r.Pairwise far
    · exact h
    · rw [decide_eq_false h] at ho
      cases ho
  have hg : good d r := ⟨hd', hm, (hb.and hf).imp fun {a b} h => ⟨fun e => by
    have h1 : a.K d = b.K d := by
      unfold En.P at e
      simp only [List.cons.injEq, and_true] at e
      unfold En.K
      rw [e.1, e.2.1, e.2.2]
    omega, h.2⟩⟩
  refine ⟨?_, hg, hb⟩
  unfold newV
  rw [if_pos (good_perm hp hg), srt_uniq (good_perm hp hg) hp hb]
theorem count_no {d : Int} (h : depthB d = false) : countV d = 0 := by unfold countV; rw [h]; rfl
theorem count_yes {d : Int} (h : depthB d = true) : 1 ≤ countV d := by
  have hd := depth_yes h
  unfold countV
  rw [if_pos h]
  have h1 := sd_bd (d := d) (l := 0) (by omega) hd.1 hd.2
  have h2 := front_bd (d := d) (l := 0) (by omega) hd.1 hd.2
  have : 1 * 1 ≤ sd d 0 * sd d 0 := Int.mul_le_mul h1.1 h1.1 (by omega) (by omega)
  omega
/-- a directory -/
structure Dr (X : World) (b : Nat) (d : Int) (r : List En) : Prop where
  head : ∃ v, blk X b = some (.cells #[.int .i64 d, v] 63 (0, 0)) ∧ Rown X 0 v r.length r
  good : good d r
  by_ : byK d r
  small : r.length ≤ 1000000
theorem Rown.base {W : World} {base b2 n : Nat} {v : Value} {r : List En} (h : Rown W base v n r) (hb : b2 ≤ base) : Rown W b2 v n r := by
  refine ⟨h.1, ?_⟩
  rcases h.2 with hn | ⟨g, cap, cur, rfl, h2, rest⟩
  · exact .inl hn
  · exact .inr ⟨g, cap, cur, rfl, by omega, rest⟩
theorem Dr.below {X Y : World} {b : Nat} {d : Int} {r : List En} (h : Dr X b d r) (hb : Below X.heap.size X Y) : Dr Y b d r := by
  obtain ⟨v, h1, h2⟩ := h.head
  exact ⟨⟨v, (blk_below hb b (blk_lt h1)).trans h1, DiC.Rown.below h2 hb⟩, h.good, h.by_, h.small⟩
theorem Dr.lt {X : World} {b : Nat} {d : Int} {r : List En} (h : Dr X b d r) : b < X.heap.size := by
  obtain ⟨v, h1, h2⟩ := h.head
  exact blk_lt h1
/-- a pointer to one, or none -/
def DrO (X : World) (v : Value) (d : Int) (o : Option (List En)) : Prop := match o with
  | none => v = .pointer none
  | some r => ∃ b, v = .pointer (some ⟨b, 0, none⟩) ∧ Dr X b d r
def NewR (d : Int) (o : Option (List En)) (code : Int) (e : Ending) (w' : World) : Prop := ∃ v, e = .returned (.tuple #[v, .int .i64 (if o.isSome then 0 else code)]) ∧ DrO w' v d o
attribute [local go_sem ↓] load_en store_en alloc_en
attribute [local go_sem] run_alloc_en run_store_en rowStore_eq blk_alloc_at blk_alloc_old blk_drew blk_drewN setRow_alloc_at setRow_alloc_old setRow_drew setRow_drewN En.c_size En.c_all all6
theorem may_yes {d : Int} {p : En} (h : mayB d p = true) : mayP d p := of_decide_eq_true h
theorem may_no {d : Int} {p : En} (h : mayB d p = false) : ¬ mayP d p := of_decide_eq_false h
theorem ld_box {W : World} {b : Nat} {p : En} (h : blk W b = some (.cells p.c 39 (0, 0))) : (loadRow 39 (.pointer (some ⟨b, 0, none⟩))).run Try.prog W = .ok p.v W := by
  rw [run_load_en, midLoad_eq, h]
  rfl
set_option maxHeartbeats 4000000 in
theorem new_any (d : Int) (ad : Option Addr) (n cap : Nat) (l : List En) (w : World) (hR : Reads w 6 ad n (ce l)) (hn : n ≤ 1000000) (h0 : ad = none → n = 0) :
    Calls Try.prog 8 #[.int .i64 d, .slice ad n cap] w fun e w' => NewR d (newV d l) 1 e w' ∧ Below w.heap.size w w' := by
  have hl : l.length = n := by
    have := hR.1
    rw [ce_len] at this
    omega
  have HL := Lib.hid hl
  have HR := Lib.hid hR
  have H0 := Lib.hid h0
  have CC := Lib.hid (fun X => count_any d X)
  have HC0 := Lib.hid (count_no (d := d))
  have HC1 := Lib.hid (count_yes (d := d))
  obtain ⟨c, ec⟩ : ∃ c, countV d = c := ⟨_, rfl⟩
  rw [ec] at CC HC0 HC1
  clear hl hR h0 ec
  obtain ⟨res, er⟩ : ∃ o, newV d l = o := ⟨_, rfl⟩
  rw [er]
  have ER := Lib.hid er
  clear er
  go_enter Try.func8, Try.ntmps8
  go_upto_region 1 with (fail)
  refine Rd.name_world ?_
  intro w1 hw
  have b1 : blk w1 w.heap.size = some (.cells #[.int .i64 d] 3 (0, 0)) := by rw [hw]; exact blk_alloc_at _ _ _ rfl
  have L1 : Below w.heap.size w w1 := by
    rw [hw]
    repeat' (first | (with_reducible exact Below.refl _ _) | (with_reducible refine Rd.below_step ?_ (by assumption)) | (with_reducible refine Rd.below_alloc ?_ _) | (with_reducible refine Rd.below_drewN ?_ _) | (with_reducible refine Below.drew ?_) | (with_reducible refine Below.setCell ?_ ?_ _) | (with_reducible refine Rd.below_setRow ?_ ?_ _) | go_size | (simp only [World.size_alloc]; omega) | omega)
  clear hw
  have cd : w1.cell? ⟨w.heap.size, 0, none⟩ = some (.int .i64 d) := by rw [blk_cell b1]; rfl
  have l1 := blk_lt b1
  clear b1
  obtain ⟨qd, ed⟩ : ∃ q, depthB d = q := ⟨_, rfl⟩
  have ED := Lib.hid ed
  clear ed
  cases qd
  case false =>
    have hc := HC0.out ED.out
    subst hc
    have E := Lib.hid (ER.out.symm.trans (new_depth l ED.out))
    go_wp2_with (go_at_call 25; refine (CC.out _).mono ?_; rintro e w2 ⟨rfl, hb2⟩)
    go_ret2
    exact ⟨⟨_, by rw [E.out]; rfl, by rw [E.out]; rfl⟩, by repeat' (first | (with_reducible exact Below.refl _ _) | (with_reducible refine Rd.below_step ?_ (by assumption)) | (with_reducible refine Rd.below_alloc ?_ _) | (with_reducible refine Rd.below_drewN ?_ _) | (with_reducible refine Below.drew ?_) | (with_reducible refine Below.setCell ?_ ?_ _) | (with_reducible refine Rd.below_setRow ?_ ?_ _) | go_size | (simp only [World.size_alloc]; omega) | omega)⟩
  have hc := HC1.out ED.out
  have hc0 : (c == 0) = false := by rw [beq_eq_false_iff_ne]; omega
  clear hc HC0 HC1
  have CD := Lib.hid cd
  go_wp2_with (go_at_call 25; refine (CC.out _).mono ?_; rintro e w2 ⟨rfl, hb2⟩)
  have C2 : Hid (w2.cell? ⟨w.heap.size, 0, none⟩ = some (.int .i64 d)) := Lib.hid ((hb2.cell (p := ⟨w.heap.size, 0, none⟩) l1).trans CD.out)
  have L2 : Below w.heap.size w w2 := by repeat' (first | (with_reducible exact Below.refl _ _) | (with_reducible refine Rd.below_step ?_ (by assumption)) | (with_reducible refine Rd.below_alloc ?_ _) | (with_reducible refine Rd.below_drewN ?_ _) | (with_reducible refine Below.drew ?_) | (with_reducible refine Below.setCell ?_ ?_ _) | (with_reducible refine Rd.below_setRow ?_ ?_ _) | go_size | (simp only [World.size_alloc]; omega) | omega)
  have s2 : w.heap.size < w2.heap.size := Nat.lt_of_lt_of_le l1 hb2.size
  have RR2 := Lib.hid (HR.out.below (by exact L2) (Nat.le_refl _))
  clear hb2 cd CD L1 CC
  go_loopw [14] (fun i W => ∃ k : Nat, k ≤ n ∧ i = .int .i64 (k : Int) ∧ Hid (∀ j, j < k → mayP d (at_ l j)) ∧ Below w2.heap.size w2 W) (fun i _ => n - (intOf i).toNat)
  case atStart => exact ⟨0, by omega, rfl, Lib.hid (fun j hj => absurd hj (Nat.not_lt_zero _)), by repeat' (first | (with_reducible exact Below.refl _ _) | (with_reducible refine Rd.below_step ?_ (by assumption)) | (with_reducible refine Rd.below_alloc ?_ _) | (with_reducible refine Rd.below_drewN ?_ _) | (with_reducible refine Below.drew ?_) | (with_reducible refine Below.setCell ?_ ?_ _) | (with_reducible refine Rd.below_setRow ?_ ?_ _) | go_size | (simp only [World.size_alloc]; omega) | omega)⟩
  case round =>
    obtain ⟨k, hk, rfl, HK, hb⟩ := hrel
    rename World => W
    have cdW : W.cell? ⟨w.heap.size, 0, none⟩ = some (.int .i64 d) := (hb.cell (p := ⟨w.heap.size, 0, none⟩) s2).trans C2.out
    have RW := RR2.out.below (by exact hb) (Nat.le_refl _)
    have LW : Below w.heap.size w W := L2.trans (by exact ⟨hb.os, hb.tape, hb.output, hb.size, fun k hk => hb.block k (by omega)⟩)
    by_cases hlt : k < n
    · have hlt' : (k : Int) < (n : Int) := by omega
      have hkl : k < l.length := by rw [HL.out]; exact hlt
      obtain ⟨g, o, rfl⟩ : ∃ g o, ad = some ⟨g, o, none⟩ := by
        rcases RW.2 with h | ⟨g, o, h, _⟩
        · have := HL.out
          omega
        · exact ⟨g, o, h⟩
      have hld := ld_en RW hkl
      have HME := Lib.hid (show at_ l k ∈ l by rw [at_get hkl]; exact List.getElem_mem hkl)
      have CM := Lib.hid (fun X => may_any d (at_ l k) X)
      obtain ⟨p, ep⟩ : ∃ p, at_ l k = p := ⟨_, rfl⟩
      rw [ep] at hld CM HME
      have EP := Lib.hid ep
      obtain ⟨q, eq⟩ : ∃ q, mayB d p = q := ⟨_, rfl⟩
      rw [eq] at CM
      have EQ := Lib.hid eq
      clear ep eq RW hkl
      go_upto_region 6 with (fail)
      refine Rd.name_world ?_
      intro w3 hw
      have b3 : blk w3 W.heap.size = some (.cells p.c 39 (0, 0)) := by rw [hw]; exact blk_alloc_at _ _ _ rfl
      have LWw : Below W.heap.size W w3 := by
        rw [hw]
        repeat' (first | (with_reducible exact Below.refl _ _) | (with_reducible refine Rd.below_step ?_ (by assumption)) | (with_reducible refine Rd.below_alloc ?_ _) | (with_reducible refine Rd.below_drewN ?_ _) | (with_reducible refine Below.drew ?_) | (with_reducible refine Below.setCell ?_ ?_ _) | (with_reducible refine Rd.below_setRow ?_ ?_ _) | go_size | (simp only [World.size_alloc]; omega) | omega)
      clear hw hld
      have cd3 : w3.cell? ⟨w.heap.size, 0, none⟩ = some (.int .i64 d) := (LWw.cell (p := ⟨w.heap.size, 0, none⟩) (block_lt_of_cell cdW)).trans cdW
      have hld3 := ld_box b3
      have sW := hb.size
      have L3 : Below w2.heap.size w2 w3 := hb.trans ⟨LWw.os, LWw.tape, LWw.output, LWw.size, fun k hk => LWw.block k (by omega)⟩
      have L30 : Below w.heap.size w w3 := L2.trans ⟨L3.os, L3.tape, L3.output, L3.size, fun k hk => L3.block k (by omega)⟩
      clear LWw cdW b3 LW hb
      cases q
      case false =>
        have E := Lib.hid (ER.out.symm.trans (new_may (d := d) HME.out (may_no EQ.out)))
        go_wp2_with (go_at_call 26; refine (CM.out _).mono ?_; rintro e w4 ⟨rfl, hb4⟩)
        go_ret2
        exact ⟨⟨_, by rw [E.out]; rfl, by rw [E.out]; rfl⟩, Rd.below_step L30 hb4⟩
      case true =>
        go_wp2_with (go_at_call 26; refine (CM.out _).mono ?_; rintro e w4 ⟨rfl, hb4⟩)
        have L4 : Below w2.heap.size w2 w4 := Rd.below_step L3 hb4
        go_roundw
        case rel => exact ⟨k + 1, by omega, by go_num, Lib.hid (fun j hj => by
          rcases Nat.lt_or_ge j k with h | h
          · exact HK.out j h
          · rw [show j = k by omega, EP.out]; exact may_yes EQ.out), L4⟩
        case measure => simp [intOf]; omega
    · obtain rfl : k = n := by omega
      have sW := hb.size
      have HMl : Hid (∀ p ∈ l, mayP d p) := Lib.hid (fun p hp => by
        obtain ⟨j, hj, rfl⟩ := List.mem_iff_getElem.1 hp
        have := HK.out j (by rw [← HL.out]; exact hj)
        rwa [at_get hj] at this)
      have RWh := Lib.hid RW
      have CDW := Lib.hid cdW
      clear RW cdW HK RR2 C2 HR
      go_upto_region 10 with (go_at_call 27; refine (clone_en ad k cap l W RWh.out hn H0.out).mono ?_; rintro e w5 ⟨v, rfl, hO, hb5⟩)
      obtain ⟨av, cv', rfl⟩ : ∃ a c, v = .slice a k c := by
        rcases hO.is with ⟨rfl, _, rfl⟩ | ⟨g, c, rfl, _⟩
        · exact ⟨_, _, rfl⟩
        · exact ⟨_, _, rfl⟩
      have C5 : Hid (w5.cell? ⟨w.heap.size, 0, none⟩ = some (.int .i64 d)) := Lib.hid ((hb5.cell (p := ⟨w.heap.size, 0, none⟩) (block_lt_of_cell CDW.out)).trans CDW.out)
      have L5 : Below w.heap.size w w5 := Rd.below_step LW hb5
      have HO := Lib.hid hO
      have s5 := hb5.size
      clear hO hb hb5 LW RWh CDW
      go_upto_region 11 with (go_at_call 28; refine (sort_own d w.heap.size W.heap.size k _ l w5 HO.out C5.out (by omega) hn).mono ?_; rintro e w6 ⟨rfl, r, hp, hik, hO6, hg6⟩)
      have L6 : Below w.heap.size w w6 := L5.grown hg6 (by omega) (fun j hj => by have := (HO.out.lt j hj).1; omega)
      have C6 : Hid (w6.cell? ⟨w.heap.size, 0, none⟩ = some (.int .i64 d)) := by
        have h1 := hg6.block w.heap.size (block_lt_of_cell C5.out) (fun e => by have := (HO.out.lt _ e.symm).1; omega)
        have h2 := C5.out
        refine Lib.hid ?_
        unfold World.cell? at h2 ⊢
        rw [h1]
        exact h2
      have HP := Lib.hid hp
      have HIK := Lib.hid hik
      have HO6 : Hid (Rown w6 W.heap.size (.slice av k cv') k r) := Lib.hid hO6
      have HMr : Hid (∀ p ∈ r, mayP d p) := Lib.hid (fun p hpr => HMl.out p (HP.out.mem_iff.1 hpr))
      have s6 : w5.heap.size ≤ w6.heap.size := hg6.size
      clear hp hik hO6 hg6 L5 C5 HO
      have CT := Lib.hid (fun X (h : Below w6.heap.size w6 X) => twice_any W.heap.size k _ r X (DiC.Rown.below HO6.out h) hn)
      have CO := Lib.hid (fun X (h : Below w6.heap.size w6 X) => overlap_any W.heap.size k _ d r X (DiC.Rown.below HO6.out h) hn HMr.out)
      have NT := Lib.hid (fun h => new_twice (d := d) HP.out h)
      have NO := Lib.hid (fun h => new_over (d := d) HP.out h)
      have NY := Lib.hid (fun h1 h2 => new_yes ED.out HMr.out HP.out HIK.out h1 h2)
      obtain ⟨tb, etb⟩ : ∃ q, twiceB r = q := ⟨_, rfl⟩
      obtain ⟨ob, eob⟩ : ∃ q, overB r = q := ⟨_, rfl⟩
      rw [etb] at CT NT NY
      rw [eob] at CO NO NY
      clear etb eob
      have c6 := C6.out
      cases tb
      case true =>
        have E := Lib.hid (ER.out.symm.trans (NT.out rfl))
        go_wp2_with (go_at_call 31; refine (CT.out _ (Below.refl _ _)).mono ?_; rintro e w7 ⟨rfl, hb7⟩)
        go_ret2
        exact ⟨⟨_, by rw [E.out]; rfl, by rw [E.out]; rfl⟩, Rd.below_step L6 hb7⟩
      case false =>
        cases ob
        case true =>
          have E := Lib.hid (ER.out.symm.trans (NO.out rfl))
          go_wp2_with (first | (go_at_call 31; refine (CT.out _ (Below.refl _ _)).mono ?_; rintro e w7 ⟨rfl, hb7⟩) | (go_at_call 32; refine (CO.out _ hb7).mono ?_; rintro e w8 ⟨rfl, hb8⟩))
          go_ret2
          exact ⟨⟨_, by rw [E.out]; rfl, by rw [E.out]; rfl⟩, Rd.below_step (Rd.below_step L6 hb7) hb8⟩
        case false =>
          have E := Lib.hid (NY.out rfl rfl)
          go_upto_region 13 with (first | (go_at_call 31; refine (CT.out _ (Below.refl _ _)).mono ?_; rintro e w7 ⟨rfl, hb7⟩) | (go_at_call 32; refine (CO.out _ hb7).mono ?_; rintro e w8 ⟨rfl, hb8⟩))
          have L68 : Below w6.heap.size w6 w8 := Rd.below_step hb7 hb8
          have L8 : Below w.heap.size w w8 := Rd.below_step L6 L68
          have c8 : w8.cell? ⟨w.heap.size, 0, none⟩ = some (.int .i64 d) := (L68.cell (p := ⟨w.heap.size, 0, none⟩) (block_lt_of_cell c6)).trans c6
          have H8 : Hid (Rown w8 W.heap.size (.slice av k cv') k r) := Lib.hid (DiC.Rown.below HO6.out L68)
          clear c6 hb7 hb8 L68
          go_wp2
          go_ret2
          refine ⟨⟨_, by rw [ER.out.symm.trans E.out.1]; rfl, ?_⟩, by repeat' (first | (with_reducible exact Below.refl _ _) | (with_reducible refine Rd.below_step ?_ (by assumption)) | (with_reducible refine Rd.below_alloc ?_ _) | (with_reducible refine Rd.below_drewN ?_ _) | (with_reducible refine Below.drew ?_) | (with_reducible refine Below.setCell ?_ ?_ _) | (with_reducible refine Rd.below_setRow ?_ ?_ _) | go_size | (simp only [World.size_alloc]; omega) | omega)⟩
          rw [ER.out.symm.trans E.out.1]
          have hlr := H8.out.len
          refine ⟨_, rfl, ⟨⟨_, blk_alloc_at _ _ _ rfl, ?_⟩, E.out.2.1, E.out.2.2, by omega⟩⟩
          rw [hlr]
          exact DiE.Rown.base (DiC.Rown.below H8.out ((Below.refl _ _).alloc (Nat.le_refl _) _)) (Nat.zero_le _)
end Go.Proofs.Ytpjbacpchmemeaa.DiE

namespace Go.Proofs.Ytpjbacpchmemeaa.DiF
open Go.RowKit Go.Shelf Rd Go.Proofs.Ytpjbacpchmemeaa.Row Mid PgM PgA PgB PgC DiM DiA DiC DiD DiE It
open Go.Proofs.Ytpjbacpchmemeaa.Num (ret_int ret_bool)
open Go.Proofs.Ytpjbacpchmemeaa.DiM (at_ at_get ce ce_len ce_app ce_one ce_ones ce_at)
set_option linter.unusedVariables false
set_option linter.unusedSimpArgs false
set_option maxRecDepth 10000
/-- a directory, and where its entries lie -/
def Dv (X : World) (b : Nat) (d : Int) (v : Value) (r : List En) : Prop := blk X b = some (.cells #[.int .i64 d, v] 63 (0, 0)) ∧ Rown X 0 v r.length r ∧ r.length ≤ 1000000
theorem Dr.v {X : World} {b : Nat} {d : Int} {r : List En} (h : Dr X b d r) : ∃ v, Dv X b d v r := by
  obtain ⟨v, h1, h2⟩ := h.head
  exact ⟨v, h1, h2, h.small⟩
theorem Dv.is {X : World} {b : Nat} {d : Int} {v : Value} {r : List En} (h : Dv X b d v r) : ∃ a c, v = .slice a r.length c ∧ (r ≠ [] → ∃ g, a = some ⟨g, 0, none⟩) := by
  rcases h.2.1.is with ⟨rfl, rfl, _⟩ | ⟨g, c, rfl, _⟩
  · exact ⟨none, 0, rfl, fun h => absurd rfl h⟩
  · exact ⟨_, c, rfl, fun _ => ⟨g, rfl⟩⟩
theorem Dv.c0 {X : World} {b : Nat} {d : Int} {v : Value} {r : List En} (h : Dv X b d v r) : X.cell? ⟨b, 0, none⟩ = some (.int .i64 d) := by rw [blk_cell h.1]; rfl
theorem Dv.c1 {X : World} {b : Nat} {d : Int} {v : Value} {r : List En} (h : Dv X b d v r) : X.cell? ⟨b, 1, none⟩ = some v := by rw [blk_cell h.1]; rfl
theorem Dv.below {X Y : World} {b : Nat} {d : Int} {v : Value} {r : List En} (h : Dv X b d v r) (hb : Below X.heap.size X Y) : Dv Y b d v r := ⟨(blk_below hb b (blk_lt h.1)).trans h.1, DiC.Rown.below h.2.1 hb, h.2.2⟩
theorem Dv.row {X : World} {b n c g : Nat} {d : Int} {v : Value} {r : List En} (h : Dv X b d v r) (hv : v = .slice (some ⟨g, 0, none⟩) n c) {i : Nat} (hi : i < r.length) :
    ∃ c, blk X g = some (.cells c 39 (0, 0)) ∧ i * 6 + 6 ≤ c.size ∧ Mid.piece c (i * 6) 6 = (at_ r i).c ∧ Mid.piece c (i * 6) 3 = #[.int .i64 (at_ r i).L, .int .i64 (at_ r i).X, .int .i64 (at_ r i).Y] := by
  rcases h.2.1.2 with ⟨rfl, h0⟩ | ⟨g', cap, cur, e, hb, hg, hnc, hcm, hs, ht⟩
  · cases hv
  · rw [hv] at e
    cases e
    have hc : ∀ j, j < 6 → cur[i * 6 + j]? = (at_ r i).l[j]? := fun j hj => by
      have h1 := ce_at (ps := r) hi hj
      rw [← ht, List.getElem?_take_of_lt (by omega), Array.getElem?_toList] at h1
      exact h1
    have e6 : Mid.piece cur (i * 6) 6 = (at_ r i).c := by
      apply Array.ext_getElem?
      intro j
      unfold Mid.piece
      rw [Array.getElem?_extract]
      by_cases hj : j < 6
      · rw [if_pos (by omega), hc j hj, ← En.l_c, List.getElem?_toArray]
      · rw [if_neg (by omega), Array.getElem?_eq_none (by rw [En.c_size]; omega)]
    refine ⟨cur, hg, by omega, e6, ?_⟩
    apply Array.ext_getElem?
    intro j
    unfold Mid.piece
    rw [Array.getElem?_extract]
    by_cases hj : j < 3
    · rw [if_pos (by omega), hc j (by omega)]
      rcases (show j = 0 ∨ j = 1 ∨ j = 2 by omega) with rfl | rfl | rfl <;> rfl
    · rw [if_neg (by omega), Array.getElem?_eq_none (by simp; omega)]
attribute [local go_sem] Oper.semAt_some
attribute [local go_sem ↓] load_pg store_pg load_en store_en alloc_en eq_pg3
theorem piece_en (p : En) : Mid.piece p.c 0 6 = p.c := rfl
attribute [local go_sem] one_int pc3 piece_en run_load_pg run_store_pg run_alloc_en run_load_en run_store_en midLoad_eq rowLoad_eq rowStore_eq blk_alloc_at blk_alloc_old blk_drew blk_drewN blk_set_far blk_set_far' blk_grow setRow_alloc_at setRow_alloc_old setRow_drew setRow_drewN En.c_size En.c_all all6
theorem len_any (b : Nat) (d : Int) (v : Value) (r : List En) (w : World) (h : Dv w b d v r) :
    Calls Try.prog 22 #[.pointer (some ⟨b, 0, none⟩)] w fun e w' => e = .returned (.int .i64 r.length) ∧ w = w' := by
  obtain ⟨a, c, rfl, _⟩ := h.is
  have c1 := h.c1
  clear h
  go_enter Try.func22, Try.ntmps22
  go_wp2
  go_ret
  exact ⟨rfl, rfl⟩
theorem len_nil (w : World) : Calls Try.prog 22 #[.pointer none] w fun e w' => e = .returned (.int .i64 0) ∧ w = w' := by
  go_enter Try.func22, Try.ntmps22
  go_wp2
  go_ret
  exact ⟨rfl, rfl⟩
theorem enters_all : ∀ args w, (callFunc 56 args).run Try.prog w = .ok (.enter 56 args) w := enters_of Try.func56 (by kernel_rfl) rfl
theorem all_any (p : Option Addr) (w : World) :
    Calls Try.prog 40 #[.pointer p] w fun e w' => e = .returned (.func (.func 56) #[] #[.pointer (some ⟨w.heap.size, 0, none⟩)]) ∧ w' = w.alloc (.cells #[.pointer p] 27) := by
  go_enter Try.func40, Try.ntmps40
  go_wp2
  go_ret
  exact ⟨rfl, rfl⟩
def encE (x : En) : Array Value := #[x.v]
def BoxD (bx : Nat) (p : Option Addr) (X : World) : Prop := blk X bx = some (.cells #[.pointer p] 27 (0, 0))
theorem BoxD.cell {bx : Nat} {p : Option Addr} {X : World} (h : BoxD bx p X) : X.cell? ⟨bx, 0, none⟩ = some (.pointer p) := by rw [blk_cell h]; rfl
theorem asked_wide (P : Program) (o : Oper) (a : Act) (C : World → Prop) : Oper.askedIn Fence.wide P o a C = True := eq_true fun _ _ _ _ => trivial
attribute [local go_sem ↓] asked_wide
theorem own_step {β : Type} {B : Nat} {J : β → World → Prop} (h : OwnFrom B J) {s : β} {X Y : World} (hs : J s X) (hb : Below X.heap.size X Y) : J s Y := h s X Y none hs ⟨hb.os, hb.tape, hb.output, hb.size, fun k hk _ => hb.block k hk⟩ (fun r e => by cases e)
theorem pre_at {r : List En} {k : Nat} (hk : k < r.length) : r.take k ++ [at_ r k] <+: r := by
  rw [← take_snoc hk]
  exact List.take_prefix _ _
theorem all_seq_nil (bx : Nat) :
    Seq Try.prog 56 #[.pointer (some ⟨bx, 0, none⟩)] encE [] (fun X => BoxD bx none X ∧ True) := by
  intro lo J Jx Own W hJ hJx hM hK hY h0
  have cb := (hK [] W h0).1.cell
  refine callsIn_wide.1 (callsIn_of_wp (F := Fence.wide) (n := 0) Try.func56 rfl trivial ?_ rfl)
  simp only [Try.ntmps56, List.size_toArray, List.length_cons, List.length_nil, Nat.reduceAdd, Nat.reduceSub, Array.replicate_succ, Array.replicate_zero, List.push_toArray, List.append_toArray, List.nil_append, List.cons_append]
  gi_wp2
  refine bodyPost_ret (results_none rfl _ _ _) rfl ?_
  exact ⟨⟨_, rfl⟩, .inl h0⟩
set_option maxHeartbeats 4000000 in
theorem all_seq (bx t : Nat) (d : Int) (v : Value) (r : List En) :
    Seq Try.prog 56 #[.pointer (some ⟨bx, 0, none⟩)] encE r (fun X => BoxD bx (some ⟨t, 0, none⟩) X ∧ Dv X t d v r) := by
  intro lo J Jx Own W hJ hJx hM hK hY h0
  have HY := Lib.hid hY
  have HJ := Lib.hid hJ
  have HK := Lib.hid hK
  have k0 := hK [] W h0
  have cb := k0.1.cell
  have c1 := k0.2.c1
  obtain ⟨ad, cap, ev, hrow⟩ := k0.2.is
  rw [ev] at c1
  have HV : Hid (v = .slice ad r.length cap ∧ (r ≠ [] → ∃ g, ad = some ⟨g, 0, none⟩)) := Lib.hid ⟨ev, hrow⟩
  have hsm := k0.2.2.2
  have H0 := Lib.hid h0
  clear hY hJ hK k0 h0 ev hrow
  refine callsIn_wide.1 (callsIn_of_wp (F := Fence.wide) (n := 0) Try.func56 rfl trivial ?_ rfl)
  simp only [Try.ntmps56, List.size_toArray, List.length_cons, List.length_nil, Nat.reduceAdd, Nat.reduceSub, Array.replicate_succ, Array.replicate_zero, List.push_toArray, List.append_toArray, List.nil_append, List.cons_append]
  gi_wp2_with fail
  clear cb c1
  gi_loopw [12] (fun i X => ∃ k : Nat, k ≤ r.length ∧ i = .int .i64 (k : Int) ∧ Hid (J (r.take k) X) ∧ W.heap.size ≤ X.heap.size) (fun i _ => r.length - (intOf i).toNat)
  case atStart => exact ⟨0, by omega, rfl, H0, Nat.le_refl _⟩
  case round =>
    obtain ⟨k, hk, rfl, HJk, hsz⟩ := hrel
    rename World => X
    by_cases hlt : k < r.length
    · obtain ⟨g, rfl⟩ := HV.out.2 (fun e => by rw [e] at hlt; exact absurd hlt (by simp))
      obtain ⟨c, bG, hc, pw, -⟩ := Dv.row (HK.out _ _ HJk.out).2 HV.out.1 hlt
      have HP := Lib.hid (pre_at hlt)
      have HT := Lib.hid (take_snoc hlt)
      obtain ⟨p, ep⟩ : ∃ p, at_ r k = p := ⟨_, rfl⟩
      rw [ep] at pw HP HT
      have hki : (k : Int) < (r.length : Int) := by omega
      have hwr : wrap64 ((k : Int) + 1) = ((k + 1 : Nat) : Int) := by unfold wrap64; omega
      clear ep
      have hJ2 : ∀ o : Obj, J (r.take k) (X.alloc o) := fun o => own_step HJ.out HJk.out (Below.alloc (Below.refl _ _) (Nat.le_refl _) _)
      obtain ⟨Z, hZ⟩ : ∃ Z, X.alloc (.cells p.c 39) = Z := ⟨_, rfl⟩
      have HJ2 : Hid (J (r.take k) Z) := Lib.hid (hZ ▸ hJ2 _)
      have hzs : W.heap.size ≤ Z.heap.size := by rw [← hZ]; simp; omega
      obtain ⟨fn, tmps, assign, body, hy, hR⟩ := HY.out _ _ Z HJ2.out HP.out hzs
      have hy' : (Instr.yield lo #[.agg p.c]).run Try.prog Z = .ok (.round lo fn tmps assign body) Z := hy
      have hsz2 := hzs
      rw [← hZ] at hy'
      have HZ := Lib.hid hZ
      clear hy hJ2 hZ
      gi_wp2
      rw [HZ.out]
      refine ⟨rfl, hR.mono ?_⟩
      rintro e Z2 ⟨hkf, (⟨rfl, hJ2, ho2⟩ | ⟨rfl, hJ2⟩)⟩
      · have H3 := Lib.hid hJ2
        have S3 : W.heap.size ≤ Z2.heap.size := Nat.le_trans hzs hkf.1
        clear hJ2 hkf ho2 hy' bG
        rw [← HT.out] at H3
        gi_wp2
        go_roundw
        case rel => exact ⟨k + 1, by omega, rfl, H3, S3⟩
        case measure => simp [intOf]; omega
      · have H3 := Lib.hid hJ2
        clear hJ2 hkf hy'
        gi_wp2
        refine bodyPost_ret (results_none rfl _ _ _) rfl ?_
        exact ⟨⟨_, rfl⟩, .inr ⟨_, HP.out, H3.out⟩⟩
    · obtain rfl : k = r.length := by omega
      gi_wp2
      go_end0
      exact ⟨⟨_, rfl⟩, .inl (by have := HJk.out; rw [List.take_length] at this; exact this)⟩
end Go.Proofs.Ytpjbacpchmemeaa.DiF

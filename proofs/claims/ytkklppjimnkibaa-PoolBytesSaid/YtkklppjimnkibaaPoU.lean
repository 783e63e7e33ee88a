/-
  The document's own pool: Put refused; Touch.
-/
import Derived.Test.YtkklppjimnkibaaPoT
namespace Go.Proofs.Ytkklppjimnkibaa.PoU
open Go.RowKit Go.Shelf Rd Go.Proofs.Ytkklppjimnkibaa.Row Mid LrM PgM PgA PgB PgC PgN PoM PoA PoB PoH PoI PoL PoS PoT
open Go.Proofs.Ytkklppjimnkibaa.PoD (us us_len By dataL data_len data_B data_any)
open Go.Proofs.Ytkklppjimnkibaa.PoE (BIn yields_skip below_zero one_slice)
open Go.Proofs.Ytkklppjimnkibaa.Num (ret_int ret_bool)
open Go.Proofs.Ytkklppjimnkibaa.MpE (owns_mono)
open Go.Proofs.Ytkklppjimnkibaa.Pred (Is is_stab Stab)
open It (get_lt)
set_option linter.unusedVariables false
set_option linter.unusedSimpArgs false
set_option maxRecDepth 10000
variable {X Y : World} {base qb n d : Nat} {v : Value} {rs : List (List Value)} {R : List Ent}
attribute [local go_sem ↓] load_pg store_pg eq_pg3 load_rs store_rs
attribute [local go_sem] one_slice one_int pc3 pc4 run_load_pg run_store_pg run_load_rs run_store_rs midStore_eq midLoad_eq rowLoad_eq rowStore_eq blk_alloc_at blk_alloc_old blk_drew blk_drewN blk_set_far blk_set_far' blk_grow setRow_alloc_at setRow_alloc_old setRow_drew setRow_drewN
theorem ones_stab0 (B m : Nat) (ex : Option Nat) (C : Array Value) : PredV.Stab (fun p9 y9 z9 => p9 < 0 → ∀ g9, blk y9 g9 = some (.cells C 77 (0, 0)) → blk z9 g9 = some (.cells C 77 (0, 0))) B m ex (PredV.Til 0 (OneS C)) :=
  PredV.til_stab (fun v w w' ⟨g, h1, h2⟩ hb => ⟨g, h1, (blk_below hb _ (blk_lt h2)).trans h2⟩) (fun p v w w' hp ⟨g, h1, h2⟩ hb => absurd hp (by omega))
theorem piece4 {c : Array Value} {o : Nat} {a b e u : Value} (h3 : Mid.piece c o 3 = #[a, b, e]) (hu : c[o + 3]? = some u) : Mid.piece c o 4 = #[a, b, e, u] := by
  have hs : o + 3 < c.size := by
    rcases Nat.lt_or_ge (o + 3) c.size with h | h
    · exact h
    · rw [Array.getElem?_eq_none h] at hu
      cases hu
  have hat : ∀ j, j < 3 → c[o + j]? = (#[a, b, e] : Array Value)[j]? := by
    intro j hj
    rw [← h3]
    unfold Mid.piece
    rw [Array.getElem?_extract, if_pos (by omega)]
  apply Array.ext_getElem?
  intro j
  unfold Mid.piece
  rw [Array.getElem?_extract]
  by_cases hj : j < 4
  · rw [if_pos (by omega)]
    by_cases h : j < 3
    · rw [hat j h]
      rcases (show j = 0 ∨ j = 1 ∨ j = 2 by omega) with rfl | rfl | rfl <;> rfl
    · obtain rfl : j = 3 := by omega
      exact hu
  · rw [if_neg (by omega)]
    simp
    omega
theorem ix_ent {R : List Ent} {x : List Int} {i : Nat} (h : ixR R x = some i) : i < R.length ∧ (ent R i).1 = x := by
  unfold ixR at h
  obtain ⟨h1, h2, -⟩ := List.findIdx?_eq_some_iff_getElem.1 h
  refine ⟨h1, ?_⟩
  unfold ent
  rw [List.getD_eq_getElem?_getD, List.getElem?_eq_getElem h1]
  exact by simpa using h2
set_option maxHeartbeats 2000000 in
theorem rtouch_any (L X0 Y0 : Int) (w : World) (h : Rp w base qb n d v rs R) (hn : R.length ≤ 1000) :
    Calls Try.prog 16 #[.pointer (some ⟨qb, 0, none⟩), pg L X0 Y0] w fun e w' => e = .returned (.bool (hasR R [L, X0, Y0])) ∧ ∃ v' rs', Rp w' base qb n d v' rs' (touchR R [L, X0, Y0]) ∧ w.grownBy w' (some qb) := by
  have H := Lib.hid h
  have CF := Lib.hid (fun (X : World) (hX : Rp X base qb n d v rs R) => find_any L X0 Y0 X hX hn)
  have hbase := h.lo
  have hql := h.lt
  have c2 := h.c2
  go_enter Try.func16, Try.ntmps16
  cases hx : ixR R [L, X0, Y0] with
  | none =>
    have ez : fndI R [L, X0, Y0] = -1 := by unfold fndI; rw [hx]
    have eh : hasR R [L, X0, Y0] = false := by unfold hasR; rw [hx]; rfl
    have et : touchR R [L, X0, Y0] = R := by unfold touchR; rw [hx]
    have EH := Lib.hid eh
    have ET := Lib.hid et
    rw [ez] at CF
    clear h ez eh et hx
    go_wp2_with fail
    refine (CF.out _ (H.out.bel (by repeat' (first | (with_reducible exact Below.refl _ _) | (with_reducible refine Rd.below_step ?_ (by assumption)) | (with_reducible refine Rd.below_alloc ?_ _) | (with_reducible refine Rd.below_drewN ?_ _) | (with_reducible refine Below.drew ?_) | (with_reducible refine Below.setCell ?_ ?_ _) | (with_reducible refine Rd.below_setRow ?_ ?_ _) | go_size | (simp only [World.size_alloc]; omega) | omega)))).mono ?_
    rintro e w1 ⟨rfl, hb1⟩
    have L1 : Below w.heap.size w w1 := by repeat' (first | (with_reducible exact Below.refl _ _) | (with_reducible refine Rd.below_step ?_ (by assumption)) | (with_reducible refine Rd.below_alloc ?_ _) | (with_reducible refine Rd.below_drewN ?_ _) | (with_reducible refine Below.drew ?_) | (with_reducible refine Below.setCell ?_ ?_ _) | (with_reducible refine Rd.below_setRow ?_ ?_ _) | go_size | (simp only [World.size_alloc]; omega) | omega)
    clear hb1 CF c2
    go_wp2
    go_ret
    exact ⟨by rw [EH.out]; rfl, _, _, by rw [ET.out]; exact H.out.bel L1, gq_of L1⟩
  | some i =>
    have ez : fndI R [L, X0, Y0] = (i : Int) := by unfold fndI; rw [hx]
    have eh : hasR R [L, X0, Y0] = true := by unfold hasR; rw [hx]; rfl
    obtain ⟨hi, hiv⟩ := ix_ent hx
    have EH := Lib.hid eh
    rw [ez] at CF
    have hnn : (0 : Int) ≤ (i : Int) := by omega
    by_cases h0 : i = 0
    · subst h0
      have et : touchR R [L, X0, Y0] = R := by unfold touchR; rw [hx]
      have ET := Lib.hid et
      clear h ez eh et hx hiv
      go_wp2_with fail
      refine (CF.out _ (H.out.bel (by repeat' (first | (with_reducible exact Below.refl _ _) | (with_reducible refine Rd.below_step ?_ (by assumption)) | (with_reducible refine Rd.below_alloc ?_ _) | (with_reducible refine Rd.below_drewN ?_ _) | (with_reducible refine Below.drew ?_) | (with_reducible refine Below.setCell ?_ ?_ _) | (with_reducible refine Rd.below_setRow ?_ ?_ _) | go_size | (simp only [World.size_alloc]; omega) | omega)))).mono ?_
      rintro e w1 ⟨rfl, hb1⟩
      have L1 : Below w.heap.size w w1 := by repeat' (first | (with_reducible exact Below.refl _ _) | (with_reducible refine Rd.below_step ?_ (by assumption)) | (with_reducible refine Rd.below_alloc ?_ _) | (with_reducible refine Rd.below_drewN ?_ _) | (with_reducible refine Below.drew ?_) | (with_reducible refine Below.setCell ?_ ?_ _) | (with_reducible refine Rd.below_setRow ?_ ?_ _) | go_size | (simp only [World.size_alloc]; omega) | omega)
      clear hb1 CF c2
      go_wp2
      go_ret
      exact ⟨by rw [EH.out]; rfl, _, _, by rw [ET.out]; exact H.out.bel L1, gq_of L1⟩
    · have hpos : (0 : Int) < (i : Int) := by omega
      have et : touchR R [L, X0, Y0] = R.eraseIdx i ++ [ent R i] := by
        unfold touchR
        rw [hx]
        obtain ⟨j, rfl⟩ := Nat.exists_eq_succ_of_ne_zero h0
        rfl
      obtain ⟨u, hu1, hu2, hu3⟩ := h.sl i hi
      have hir : i < rs.length := by rw [h.len]; exact hi
      obtain ⟨g, cv, cur, rfl, -, hgb, hgs, hpc, hcu⟩ := sl_at h.r h.r4 hir hu1
      obtain ⟨au, cu, rfl, -⟩ := Rd.owns_val hu2
      have e2 : ent R i = ([L, X0, Y0], (ent R i).2) := by rw [← hiv]
      obtain ⟨b, eb⟩ : ∃ b, (ent R i).2 = b := ⟨_, rfl⟩
      rw [eb] at hu2 e2
      rw [e2] at et
      rw [hiv] at hpc
      have hcu' : cur[i * 4 + 3]? = some (.slice au 144 cu) := by rw [← hcu, blk_cell hgb]
      have hp4 : Mid.piece cur (i * 4) 4 = #[.int .i64 L, .int .i64 X0, .int .i64 Y0, .slice au 144 cu] := piece4 hpc hcu'
      have HU := Lib.hid hu2
      have HB3 := Lib.hid hu3
      have ET := Lib.hid et
      have hir' : (i : Int) < (rs.length : Int) := by omega
      have HLR := Lib.hid h.len
      have hrs : rs.length ≤ 1000 := by rw [HLR.out]; exact hn
      have hgl := blk_lt hgb
      clear h ez eh et hx hiv hpc hcu hcu' hu1 hu2 hu3 e2 eb
      go_wp2_with fail
      refine (CF.out _ (H.out.bel (by repeat' (first | (with_reducible exact Below.refl _ _) | (with_reducible refine Rd.below_step ?_ (by assumption)) | (with_reducible refine Rd.below_alloc ?_ _) | (with_reducible refine Rd.below_drewN ?_ _) | (with_reducible refine Below.drew ?_) | (with_reducible refine Below.setCell ?_ ?_ _) | (with_reducible refine Rd.below_setRow ?_ ?_ _) | go_size | (simp only [World.size_alloc]; omega) | omega)))).mono ?_
      rintro e w1 ⟨rfl, hb1⟩
      have L1 : Below w.heap.size w w1 := by repeat' (first | (with_reducible exact Below.refl _ _) | (with_reducible refine Rd.below_step ?_ (by assumption)) | (with_reducible refine Rd.below_alloc ?_ _) | (with_reducible refine Rd.below_drewN ?_ _) | (with_reducible refine Below.drew ?_) | (with_reducible refine Below.setCell ?_ ?_ _) | (with_reducible refine Rd.below_setRow ?_ ?_ _) | go_size | (simp only [World.size_alloc]; omega) | omega)
      have d2 := (L1.cell (p := ⟨qb, 2, none⟩) hql).trans c2
      have d3 := (blk_below L1 _ hgl).trans hgb
      clear hb1 CF c2 hgb
      go_upto_region 4 with (fail)
      refine Rd.name_world ?_
      intro W9 hW9
      obtain ⟨tb, etb⟩ : ∃ t, w1.heap.size = t := ⟨_, rfl⟩
      have hs1 := L1.size
      have K9 : Below w1.heap.size w1 W9 := by rw [hW9]; repeat' (first | (with_reducible exact Below.refl _ _) | (with_reducible refine Rd.below_step ?_ (by assumption)) | (with_reducible refine Rd.below_alloc ?_ _) | (with_reducible refine Rd.below_drewN ?_ _) | (with_reducible refine Below.drew ?_) | (with_reducible refine Below.setCell ?_ ?_ _) | (with_reducible refine Rd.below_setRow ?_ ?_ _) | go_size | (simp only [World.size_alloc]; omega) | omega)
      have bT9 : blk W9 w1.heap.size = some (.cells #[.int .i64 L, .int .i64 X0, .int .i64 Y0, .slice au 144 cu] 77 (0, 0)) := by rw [hW9]; exact blk_alloc_at _ _ _ rfl
      have L9 := Rd.below_step L1 K9
      have HR9 := Lib.hid (H.out.bel L9)
      have HU9 := Lib.hid (PoE.owns_below HU.out L9)
      have hbase9 : base ≤ W9.heap.size := by have := HR9.out.lo; have := HR9.out.lt; omega
      have hub9 : ∀ k, (Value.slice au 144 cu).ownBlock = some k → base ≤ k := HB3.out
      rw [etb] at bT9 ⊢
      obtain ⟨rs1, ers1⟩ : ∃ x, rs.eraseIdx i = x := ⟨_, rfl⟩
      obtain ⟨R1, eR1⟩ : ∃ x, R.eraseIdx i = x := ⟨_, rfl⟩
      have hrs1 : rs1.length ≤ 1000 := by rw [← ers1, List.length_eraseIdx]; split <;> omega
      have HQ9 : Hid ((∀ l ∈ rs1, l.length = 4) ∧ rs1.length = R1.length ∧ Sl W9 (fun k => base ≤ k) R1 rs1 ∧ ∀ i, i < R1.length → (ent R1 i).1.length = 3) := Lib.hid ⟨fun l hl => HR9.out.r4 l (by rw [← ers1] at hl; exact List.mem_of_mem_eraseIdx hl), by rw [← ers1, ← eR1, List.length_eraseIdx, List.length_eraseIdx, if_pos hir, if_pos hi, HLR.out], by rw [← ers1, ← eR1]; exact sl_erase HR9.out.sl hi, by rw [← eR1]; exact p3_erase HR9.out.p3 hi⟩
      have CW : Hid (∀ X, Below W9.heap.size W9 X → Calls Try.prog 42 #[.slice (some ⟨g, 0, none⟩) rs.length cv, .int .i64 i] X fun e w' => (∃ v', e = .returned v' ∧ w'.ownsRow X.heap.size 77 4 v' rs1.length (DkM.fl rs1)) ∧ Below X.heap.size X w') := Lib.hid fun X hX => by
        rw [← ers1]
        exact without_any i g cv X (HR9.out.bel hX) hir hrs
      rw [eR1] at ET
      clear hW9 K9 d2 d3 L1 etb ers1 eR1 hs1 HB3 HU H hp4 hgs
      refine PredV.region_of (W := W9) (fun p9 y9 z9 => p9 < 0 → ∀ g9, blk y9 g9 = some (.cells #[.int .i64 L, .int .i64 X0, .int .i64 Y0, .slice au 144 cu] 77 (0, 0)) → blk z9 g9 = some (.cells #[.int .i64 L, .int .i64 X0, .int .i64 Y0, .slice au 144 cu] 77 (0, 0))) 9999 9999 (0) (Nat.zero_le _) [9, 12] [
          fun y9 => Below W9.heap.size W9 y9,
          fun y9 => Below W9.heap.size W9 y9,
          fun y9 => ∃ v', Rp y9 base qb n d v' (rs1 ++ [slotV [L, X0, Y0] (.slice au 144 cu)]) (R1 ++ [([L, X0, Y0], b)]) ∧ W9.grownBy y9 (some qb)] [
          PredV.At 0 (.pointer (some ⟨qb, 0, none⟩)),
          PredV.At 0 (.pointer (some ⟨qb, 0, none⟩)),
          PredV.At 0 (.pointer (some ⟨qb, 0, none⟩)),
          PredV.At 0 (.pointer (some ⟨qb, 2, none⟩)),
          PredV.At 0 (.slice (some ⟨g, 0, none⟩) rs.length cv),
          PredV.At 0 (.int .i64 (i : Int)),
          PredV.When 0 (fun u y9 => y9.ownsRow W9.heap.size 77 4 u rs1.length (DkM.fl rs1)),
          PredV.At 0 (.agg #[.int .i64 L, .int .i64 X0, .int .i64 Y0, .slice au 144 cu]),
          PredV.Til 0 (OneS #[.int .i64 L, .int .i64 X0, .int .i64 Y0, .slice au 144 cu]),
          PredV.When 1 (fun u y9 => y9.ownsRow W9.heap.size 77 4 u (rs1.length + 1) (DkM.fl (rs1 ++ [slotV [L, X0, Y0] (.slice au 144 cu)]))),
          PredV.At 0 (.pointer (some ⟨qb, 0, none⟩)),
          PredV.At 0 (.pointer (some ⟨qb, 2, none⟩)),
          PredV.At 0 undef] (by kernel_rfl) (by kernel_rfl) (by kernel_rfl) (by decide) (by decide) ?_ ?_ ?_ ?_ ?_ ?_
      · exact ⟨PredV.at_stab _ _ _ _ _ _, PredV.at_stab _ _ _ _ _ _, PredV.at_stab _ _ _ _ _ _, PredV.at_stab _ _ _ _ _ _, PredV.at_stab _ _ _ _ _ _, PredV.at_stab _ _ _ _ _ _, PredV.when_stab _ _ _ _ _ (fun u y y' h hb => PoE.owns_below h hb), PredV.at_stab _ _ _ _ _ _, ones_stab0 _ _ _ _, PredV.when_stab _ _ _ _ _ (fun u y y' h hb => PoE.owns_below h hb), PredV.at_stab _ _ _ _ _ _, PredV.at_stab _ _ _ _ _ _, PredV.at_stab _ _ _ _ _ _, trivial⟩
      · intro q hq
        rcases List.mem_cons.1 hq with rfl | hq
        · exact fun y y' h hb => h.trans (hb.mono h.size)
        rcases List.mem_cons.1 hq with rfl | hq
        · exact fun y y' h hb => h.trans (hb.mono h.size)
        rcases List.mem_cons.1 hq with rfl | hq
        · exact fun y y' ⟨v9, h1, h2⟩ hb => ⟨v9, h1.bel hb, gq_below h2 hb⟩
        cases hq
      · exact Below.refl _ _
      · refine ⟨.inr ?_, .inr ?_, .inr ?_, .inr ?_, .inr ?_, .inr ?_, .inr ?_, .inr ?_, .inr ?_, .inl rfl, .inr ?_, .inr ?_, .inl rfl, trivial⟩
        · intro b9 X ph hE hd hn hS hV hI hF
          have r0 : b9.tmps[0]?.getD undef = .pointer (some ⟨qb, 0, none⟩) := (hn 0 (by kernel_rfl)).trans rfl
          exact Pred.yields_run (v := .pointer (some ⟨qb, 0, none⟩)) (Pred.wanted_none rfl) (by go_simp) ⟨Below.refl _ _, rfl, Nat.zero_le _⟩
        · intro b9 X ph hE hd hn hS hV hI hF
          have r0 : b9.tmps[0]?.getD undef = .pointer (some ⟨qb, 0, none⟩) := (hn 0 (by kernel_rfl)).trans rfl
          exact Pred.yields_run (v := .pointer (some ⟨qb, 0, none⟩)) (Pred.wanted_none rfl) (by go_simp) ⟨Below.refl _ _, rfl, Nat.zero_le _⟩
        · intro b9 X ph hE hd hn hS hV hI hF
          obtain ⟨r20, j20⟩ : PredV.At 0 (.pointer (some ⟨qb, 0, none⟩)) (b9.tmps[20]?.getD undef) X ph := hV 1 _ 20 rfl rfl (Pred.waits_near (by kernel_rfl) (by kernel_rfl))
          exact Pred.yields_run (v := .pointer (some ⟨qb, 0, none⟩)) (Pred.wanted_none rfl) (by go_simp) ⟨Below.refl _ _, rfl, Nat.zero_le _⟩
        · intro b9 X ph hE hd hn hS hV hI hF
          obtain ⟨r21, j21⟩ : PredV.At 0 (.pointer (some ⟨qb, 0, none⟩)) (b9.tmps[21]?.getD undef) X ph := hV 2 _ 21 rfl rfl (Pred.waits_near (by kernel_rfl) (by kernel_rfl))
          exact Pred.yields_run (v := .pointer (some ⟨qb, 2, none⟩)) (Pred.wanted_none rfl) (by go_simp) ⟨Below.refl _ _, rfl, Nat.zero_le _⟩
        · intro b9 X ph hE hd hn hS hV hI hF
          obtain ⟨r22, j22⟩ : PredV.At 0 (.pointer (some ⟨qb, 2, none⟩)) (b9.tmps[22]?.getD undef) X ph := hV 3 _ 22 rfl rfl (Pred.waits_near (by kernel_rfl) (by kernel_rfl))
          have hp0 : ph = 0 := Nat.le_zero.1 (hF 0 9 rfl (Pred.waits_more 5 _ _ (Nat.le_of_ble_eq_true (by kernel_rfl)) (by kernel_rfl)))
          subst hp0
          have hb0 : Below W9.heap.size W9 X := hS
          have z := (HR9.out.bel hb0).c2
          exact Pred.yields_run (v := .slice (some ⟨g, 0, none⟩) rs.length cv) (Pred.wanted_none rfl) (by go_simp) ⟨Below.refl _ _, rfl, Nat.zero_le _⟩
        · intro b9 X ph hE hd hn hS hV hI hF
          have r5 : b9.tmps[5]?.getD undef = .int .i64 (i : Int) := (hn 5 (by kernel_rfl)).trans rfl
          exact Pred.yields_run (v := .int .i64 (i : Int)) (Pred.wanted_none rfl) (by go_simp) ⟨Below.refl _ _, rfl, Nat.zero_le _⟩
        · intro b9 X ph hE hd hn hS hV hI hF
          obtain ⟨r23, j23⟩ : PredV.At 0 (.slice (some ⟨g, 0, none⟩) rs.length cv) (b9.tmps[23]?.getD undef) X ph := hV 4 _ 23 rfl rfl (Pred.waits_near (by kernel_rfl) (by kernel_rfl))
          obtain ⟨r24, j24⟩ : PredV.At 0 (.int .i64 (i : Int)) (b9.tmps[24]?.getD undef) X ph := hV 5 _ 24 rfl rfl (Pred.waits_near (by kernel_rfl) (by kernel_rfl))
          have hp0 : ph = 0 := Nat.le_zero.1 (hF 0 9 rfl (Pred.waits_more 5 _ _ (Nat.le_of_ble_eq_true (by kernel_rfl)) (by kernel_rfl)))
          subst hp0
          have hb0 : Below W9.heap.size W9 X := hS
          have hXs : W9.heap.size ≤ X.heap.size := hb0.size
          refine Pred.yields_call (f := 42) (args := #[.slice (some ⟨g, 0, none⟩) rs.length cv, .int .i64 (i : Int)]) (Pred.wanted_none rfl) (by go_simp) ?_
          exact (CW.out X hb0).mono fun e w2 ⟨⟨v2, he, ho⟩, hb⟩ => ⟨_, he, hb, Nat.zero_le _, fun _ => owns_mono ho hXs⟩
        · intro b9 X ph hE hd hn hS hV hI hF
          have r6 : b9.tmps[6]?.getD undef = .pointer (some ⟨tb, 0, none⟩) := (hn 6 (by kernel_rfl)).trans rfl
          have hp0 : ph = 0 := Nat.le_zero.1 (hF 0 9 rfl (Pred.waits_more 5 _ _ (Nat.le_of_ble_eq_true (by kernel_rfl)) (by kernel_rfl)))
          subst hp0
          have hb0 : Below W9.heap.size W9 X := hS
          have z := (blk_below hb0 _ (blk_lt bT9)).trans bT9
          exact Pred.yields_run (v := .agg #[.int .i64 L, .int .i64 X0, .int .i64 Y0, .slice au 144 cu]) (Pred.wanted_none rfl) (by go_simp) ⟨Below.refl _ _, rfl, Nat.zero_le _⟩
        · intro b9 X ph hE hd hn hS hV hI hF
          obtain ⟨r26, j26⟩ : PredV.At 0 (.agg #[.int .i64 L, .int .i64 X0, .int .i64 Y0, .slice au 144 cu]) (b9.tmps[26]?.getD undef) X ph := hV 7 _ 26 rfl rfl (Pred.waits_near (by kernel_rfl) (by kernel_rfl))
          exact Pred.yields_run (v := .slice (some ⟨X.heap.size, 0, none⟩) 1 1) (w' := X.alloc (.cells #[.int .i64 L, .int .i64 X0, .int .i64 Y0, .slice au 144 cu] 77)) (Pred.wanted_none rfl) (by go_simp) ⟨(Below.refl _ _).alloc (Nat.le_refl _) _, fun _ => ⟨X.heap.size, rfl, blk_alloc_at _ _ _ rfl⟩⟩
        · intro b9 X ph hE hd hn hS hV hI hF
          obtain ⟨r19, j19⟩ : PredV.At 0 (.pointer (some ⟨qb, 0, none⟩)) (b9.tmps[19]?.getD undef) X ph := hV 0 _ 19 rfl rfl (Pred.waits_near (by kernel_rfl) (by kernel_rfl))
          exact Pred.yields_run (v := .pointer (some ⟨qb, 0, none⟩)) (Pred.wanted_none rfl) (by go_simp) ⟨Below.refl _ _, rfl, Nat.zero_le _⟩
        · intro b9 X ph hE hd hn hS hV hI hF
          obtain ⟨r29, j29⟩ : PredV.At 0 (.pointer (some ⟨qb, 0, none⟩)) (b9.tmps[29]?.getD undef) X ph := hV 10 _ 29 rfl rfl (Pred.waits_near (by kernel_rfl) (by kernel_rfl))
          exact Pred.yields_run (v := .pointer (some ⟨qb, 2, none⟩)) (Pred.wanted_none rfl) (by go_simp) ⟨Below.refl _ _, rfl, Nat.zero_le _⟩
      · refine ⟨?_, ?_, trivial⟩
        · refine ⟨_, rfl, fun k hk => (by cases hk), fun b9 X hE hd hn hS hV hI => ?_⟩
          obtain ⟨j25, r25⟩ : PredV.When 0 (fun u y9 => y9.ownsRow W9.heap.size 77 4 u rs1.length (DkM.fl rs1)) (b9.tmps[25]?.getD undef) X 0 := hV 6 _ 25 rfl rfl (Pred.waits_near (by kernel_rfl) (by kernel_rfl))
          have r27 : (OneS #[.int .i64 L, .int .i64 X0, .int .i64 Y0, .slice au 144 cu]) (b9.tmps[27]?.getD undef) X := (show PredV.Til 0 (OneS #[.int .i64 L, .int .i64 X0, .int .i64 Y0, .slice au 144 cu]) (b9.tmps[27]?.getD undef) X 0 from hV 8 _ 27 rfl rfl (Pred.waits_near (by kernel_rfl) (by kernel_rfl))) (by omega)
          replace hS : (fun y9 => Below W9.heap.size W9 y9) X := hS
          replace hS : Below W9.heap.size W9 X := hS
          have ho9 := r25 rfl
          obtain ⟨g9, hg9, hb9⟩ := r27
          have hXs := hS.size
          refine yields_app_v rfl (.tmp 25) (.tmp 27) 78 77 (.agg #[.int .i64 0, .int .i64 0, .int .i64 0, .slice none 0 0]) 4 48 rfl Try.underlying78 info_rs rfl (by decide) (by decide) W9.heap.size _ rs1.length _ rfl (by simpa [Act.eval] using ho9) (some ⟨g9, 0, none⟩) 1 1 [.int .i64 L, .int .i64 X0, .int .i64 Y0, .slice au 144 cu] (by simpa [Act.eval] using hg9) (reads_oneS hb9) (by intro u hu; simp at hu; rcases hu with rfl | rfl | rfl | rfl <;> rfl) (by omega) (by omega) ?_
          intro u y hown hgr
          have hbw := OctA.below_grownBy (B := W9.heap.size) hgr (by omega) (fun k hk => (ho9.lt k (by simpa [Act.eval] using hk)).1)
          refine ⟨⟨hbw.mono (Nat.zero_le _), fun e => absurd e (by omega)⟩, hS.trans hbw, ⟨Nat.le_refl _, fun _ => ?_⟩, fun e => absurd e (by decide)⟩
          rw [DkM.fl_app]
          have e7 : DkM.fl [slotV [L, X0, Y0] (.slice au 144 cu)] = [.int .i64 L, .int .i64 X0, .int .i64 Y0, .slice au 144 cu] := by simp [DkM.fl, slotV, PgM.g]
          rw [e7]
          exact hown
        · refine ⟨_, rfl, fun k hk => (by cases hk; exact Pred.waits_near (by kernel_rfl) (by kernel_rfl)), fun b9 X hE hd hn hS hV hI => ?_⟩
          obtain ⟨r30, j30⟩ : PredV.At 0 (.pointer (some ⟨qb, 2, none⟩)) (b9.tmps[30]?.getD undef) X 1 := hV 11 _ 30 rfl rfl (Pred.waits_near (by kernel_rfl) (by kernel_rfl))
          obtain ⟨j28, r28⟩ : PredV.When 1 (fun u y9 => y9.ownsRow W9.heap.size 77 4 u (rs1.length + 1) (DkM.fl (rs1 ++ [slotV [L, X0, Y0] (.slice au 144 cu)]))) (b9.tmps[28]?.getD undef) X 1 := hV 9 _ 28 rfl rfl (Pred.waits_near (by kernel_rfl) (by kernel_rfl))
          replace hS : (fun y9 => Below W9.heap.size W9 y9) X := hS
          replace hS : Below W9.heap.size W9 X := hS
          have ho9 := r28 rfl
          clear r28
          obtain ⟨u, hu⟩ : ∃ u, b9.tmps[28]?.getD undef = u := ⟨_, rfl⟩
          rw [hu] at ho9
          obtain ⟨a8, c8, rfl, -⟩ := Rd.owns_val ho9
          have hR9 := HR9.out.bel hS
          have z := hR9.c2
          have zf := blk_frozen hR9.p 2
          obtain ⟨q1, q2⟩ := Rp.row (v' := .slice a8 (rs1.length + 1) c8) (rs' := rs1 ++ [slotV [L, X0, Y0] (.slice au 144 cu)]) (R' := R1 ++ [([L, X0, Y0], b)]) HR9.out hS (by rw [List.length_append, List.length_singleton]; exact owns_mono ho9 hbase9) (fun x hx => (List.mem_append.1 hx).elim (HQ9.out.1 x) (fun hx => by rw [List.mem_singleton.1 hx]; rfl)) (by rw [List.length_append, List.length_append, HQ9.out.2.1]; rfl) (sl_app (HQ9.out.2.2.1.bel hS) HQ9.out.2.1 (PoE.owns_below HU9.out hS) hub9) (p3_app HQ9.out.2.2.2 rfl)
          refine yields_skip (w' := X.setCell ⟨qb, 2, none⟩ (.slice a8 (rs1.length + 1) c8)) (Pred.wanted_none rfl) (by clear hS hI hV hn ho9 hR9 q1 q2; go_simp) ⟨⟨below_zero q2, fun e => absurd e (by omega)⟩, ⟨_, q1, gq_below2 hS q2⟩, ⟨rfl, Nat.zero_le _⟩, fun e => absurd e (by decide)⟩
      intro v X hE hS hv
      replace hS : (fun y9 => ∃ v', Rp y9 base qb n d v' (rs1 ++ [slotV [L, X0, Y0] (.slice au 144 cu)]) (R1 ++ [([L, X0, Y0], b)]) ∧ W9.grownBy y9 (some qb)) X := hS
      have e0 : v 0 = .pointer (some ⟨qb, 0, none⟩) := (hv 0 _ 19 rfl rfl).1
      have e1 : v 1 = .pointer (some ⟨qb, 0, none⟩) := (hv 1 _ 20 rfl rfl).1
      have e2 : v 2 = .pointer (some ⟨qb, 0, none⟩) := (hv 2 _ 21 rfl rfl).1
      have e3 : v 3 = .pointer (some ⟨qb, 2, none⟩) := (hv 3 _ 22 rfl rfl).1
      have e4 : v 4 = .slice (some ⟨g, 0, none⟩) rs.length cv := (hv 4 _ 23 rfl rfl).1
      have e5 : v 5 = .int .i64 (i : Int) := (hv 5 _ 24 rfl rfl).1
      generalize hg6 : v 6 = vv6
      have e7 : v 7 = .agg #[.int .i64 L, .int .i64 X0, .int .i64 Y0, .slice au 144 cu] := (hv 7 _ 26 rfl rfl).1
      generalize hg8 : v 8 = vv8
      generalize hg9 : v 9 = vv9
      have e10 : v 10 = .pointer (some ⟨qb, 0, none⟩) := (hv 10 _ 29 rfl rfl).1
      have e11 : v 11 = .pointer (some ⟨qb, 2, none⟩) := (hv 11 _ 30 rfl rfl).1
      simp only [Pred.putsF_cons, Pred.putsF_nil, Nat.zero_add, Nat.reduceAdd, e0, e1, e2, e3, e4, e5, hg6, e7, hg8, hg9, e10, e11, Act.put, List.setIfInBounds_toArray, List.set_cons_zero, List.set_cons_succ]
      clear e0 e1 e2 e3 e4 e5 hg6 e7 hg8 hg9 e10 e11 hv
      obtain ⟨v9, h9, g9⟩ := hS
      have HV9 := Lib.hid h9
      have HG9 := Lib.hid g9
      clear h9 g9 hE
      go_wp2_with fail
      go_ret
      exact ⟨by rw [EH.out]; rfl, _, _, by rw [ET.out]; exact HV9.out, gq_set (gq_of L9) HG9.out⟩
end Go.Proofs.Ytkklppjimnkibaa.PoU

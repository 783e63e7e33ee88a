/-
  The document's list of what is there: whether a page is in it, the finest that is; how the list goes with the table.
-/
import Derived.Test.YtikoajlncdcbcaaTbG
import Derived.Deep.CutRange
import Derived.Deep.QuietTactic
import Derived.Lib.QuietBelow
import Derived.BigQuiet
import Derived.BigGuard
namespace Go.Proofs.Ytikoajlncdcbcaa.TbI
open Go.RowKit Rd Go.Proofs.Ytikoajlncdcbcaa.Row Mid PgM PgA PgB PgC TbA TbB TbC TbD TbE TbF TbG
set_option linter.unusedVariables false
set_option linter.unusedSimpArgs false
set_option maxRecDepth 10000
/-! mathematics -/
def Rel (n : Nat) (bs : List Bool) (R : PgM.Row) : Prop := ∀ L X Y : Int, validB n L X Y = true → thereV n bs L X Y = decide ([L, X, Y] ∈ R)
theorem there_put {n : Nat} {bs : List Bool} {L X Y P0 P1 P2 : Int} {kq : Nat} {yes : Bool} (hn : n ≤ 3) (hl : kq < bs.length) (hv : validB n L X Y = true) (hp : validB n P0 P1 P2 = true) (hk : keyV n P0 P1 P2 = (kq : Int)) :
    thereV n (bs.set kq yes) L X Y = if [L, X, Y] = [P0, P1, P2] then yes else thereV n bs L X Y := by
  unfold thereV
  rw [hv, Bool.true_and, Bool.true_and]
  obtain ⟨i, ei, -⟩ := key_in hn hv
  rw [ei]
  show (bs.set kq yes).getD i false = if _ then yes else bs.getD i false
  by_cases hik : i = kq
  · subst hik
    obtain ⟨e1, e2, e3⟩ := key_inj hn hv hp (ei.trans hk.symm)
    subst e1 e2 e3
    rw [if_pos rfl, List.getD_eq_getElem?_getD, List.getElem?_set_self hl]; rfl
  · have hne : ¬ [L, X, Y] = [P0, P1, P2] := fun e => by
      injection e with e1 e; injection e with e2 e; injection e with e3 e
      subst e1 e2 e3
      rw [ei] at hk
      exact hik (by omega)
    rw [if_neg hne, List.getD_eq_getElem?_getD, List.getElem?_set_ne (Ne.symm hik), ← List.getD_eq_getElem?_getD]
def restL (R : PgM.Row) (G : List Int) : PgM.Row := R.filter fun u => !eqL u G
def nextL (R : PgM.Row) (G : List Int) (yes : Bool) : PgM.Row := restL R G ++ if yes = true then [G] else []
theorem rest_step {R : PgM.Row} {G : List Int} {k : Nat} (hk : k < R.length) : restL (R.take (k + 1)) G = restL (R.take k) G ++ if eqL (at_ R k) G = true then [] else [at_ R k] := by
  unfold restL
  rw [List.take_add_one, List.filter_append, List.getElem?_eq_getElem hk, at_eq hk]
  cases h : eqL R[k] G <;> simp [h]
theorem rest_len (R : PgM.Row) (G : List Int) : (restL R G).length ≤ R.length := List.length_filter_le _ _
theorem rest_three {R : PgM.Row} {G : List Int} (h : ∀ v ∈ R, v.length = 3) : ∀ v ∈ restL R G, v.length = 3 := fun v hv => h v (List.mem_filter.1 hv).1
theorem next_len (R : PgM.Row) (G : List Int) (yes : Bool) : (nextL R G yes).length ≤ R.length + 1 := by
  have := rest_len R G
  unfold nextL
  rw [List.length_append]
  split <;> simp <;> omega
theorem next_three {R : PgM.Row} {G : List Int} {yes : Bool} (h : ∀ v ∈ R, v.length = 3) (hg : G.length = 3) : ∀ v ∈ nextL R G yes, v.length = 3 := by
  intro v hv
  rcases List.mem_append.1 hv with h1 | h1
  · exact rest_three h v h1
  · split at h1
    · rw [List.mem_singleton.1 h1]; exact hg
    · cases h1
theorem rel_next {n : Nat} {bs : List Bool} {R : PgM.Row} {P0 P1 P2 : Int} {yes : Bool} (h : Rel n bs R) (hn : n ≤ 3) (hl : bs.length = (allV n).length) (hp : validB n P0 P1 P2 = true) :
    Rel n (bs.set (keyV n P0 P1 P2).toNat yes) (nextL R [P0, P1, P2] yes) := by
  intro L X Y hv
  obtain ⟨kq, ek, hkq⟩ := key_in hn hp
  have e : (keyV n P0 P1 P2).toNat = kq := by rw [ek]; rfl
  rw [e, there_put hn (by rw [hl]; exact hkq) hv hp ek]
  by_cases he : [L, X, Y] = [P0, P1, P2]
  · rw [if_pos he, he]
    unfold nextL restL
    cases yes <;> simp [eqL]
  · rw [if_neg he, h L X Y hv]
    unfold nextL restL
    cases yes <;> simp [eqL, he]
theorem root_next {n : Nat} {bs : List Bool} {P0 P1 P2 : Int} {yes : Bool} (hr : bs.getD 0 false = true) (hn : n ≤ 3) (hs : setB n P0 P1 P2 yes = true) : (bs.set (keyV n P0 P1 P2).toNat yes).getD 0 false = true := by
  unfold setB at hs
  rw [Bool.and_eq_true] at hs
  obtain ⟨hp, hs⟩ := hs
  obtain ⟨kq, ek, -⟩ := key_in hn hp
  have e : (keyV n P0 P1 P2).toNat = kq := by rw [ek]; rfl
  rw [e]
  cases yes
  · have hne : ¬ [P0, P1, P2] = [(n : Int), 0, 0] := by
      intro e2
      rw [decide_eq_true e2] at hs
      cases hs
    have h0 : kq ≠ 0 := fun e0 => by
      subst e0
      obtain ⟨hv, hk⟩ := root_key hn
      obtain ⟨a, b, c⟩ := key_inj hn hp hv (ek.trans hk.symm)
      exact hne (by rw [a, b, c])
    rw [List.getD_eq_getElem?_getD, List.getElem?_set_ne h0, ← List.getD_eq_getElem?_getD]
    exact hr
  · exact root_kept hr kq
theorem rel_start {n : Nat} (hn : n ≤ 3) : Rel n (startL n) [[(n : Int), 0, 0]] := by
  intro L X Y hv
  obtain ⟨h1, h2⟩ := root_key hn
  obtain ⟨i, ei, hi⟩ := key_in hn hv
  have hp : 0 < (allV (n : Int)).length := by omega
  unfold startL
  rw [there_put (kq := 0) hn (by simpa using hp) hv h1 h2]
  by_cases he : [L, X, Y] = [(n : Int), 0, 0]
  · rw [if_pos he, he]; simp
  · rw [if_neg he]
    have h3 : thereV n (List.replicate (allV (n : Int)).length false) L X Y = false := by
      unfold thereV
      rw [hv, ei]
      simp [List.getD, hi]
    rw [h3]
    simp [he]
/-! is a page in a list? -/
attribute [local go_sem ↓] store_pg eq_pg3
attribute [local go_sem] one_int pc3 run_store_pg rowStore_eq blk_alloc_at blk_alloc_old blk_drew blk_drewN blk_set_far blk_set_far' blk_grow setRow_alloc_at setRow_alloc_old setRow_drew setRow_drewN
set_option maxHeartbeats 2000000 in
theorem rhas_any (R : PgM.Row) (ad : Option Addr) (c : Nat) (G0 G1 G2 : Int) (w : World) (h : PgAt w ad R) (hm : R.length ≤ 1000000) :
    Calls Try.prog 15 #[.slice ad R.length c, .agg #[.int .i64 G0, .int .i64 G1, .int .i64 G2]] w fun e w' => e = .returned (.bool (decide ([G0, G1, G2] ∈ R))) ∧ Below w.heap.size w w' := by
  obtain ⟨n, hn⟩ : ∃ n, R.length = n := ⟨_, rfl⟩
  rw [hn] at hm ⊢
  have HN := Lib.hid hn
  have H := Lib.hid h
  clear hn h
  go_enter Try.func15, Try.ntmps15
  go_upto_region 1 with (fail)
  refine Rd.name_world ?_
  intro w1 hw
  have bP : blk w1 w.heap.size = some (.cells #[.int .i64 G0, .int .i64 G1, .int .i64 G2] 24 (0, 0)) := by rw [hw]; exact blk_alloc_at _ _ _ rfl
  have L1 : Below w.heap.size w w1 := by
    rw [hw]
    repeat' (first | (with_reducible exact Below.refl _ _) | (with_reducible refine Rd.below_step ?_ (by assumption)) | (with_reducible refine Rd.below_alloc ?_ _) | (with_reducible refine Rd.below_drewN ?_ _) | (with_reducible refine Below.drew ?_) | (with_reducible refine Below.setCell ?_ ?_ _) | (with_reducible refine Rd.below_setRow ?_ ?_ _) | go_size | (simp only [World.size_alloc]; omega) | omega)
  clear hw
  go_wp2_with fail
  go_loopw [5] (fun i wr => ∃ k : Nat, k ≤ n ∧ i = .int .i64 k ∧ Hid ([G0, G1, G2] ∉ R.take k) ∧ Below w1.heap.size w1 wr) (fun i _ => n - (intOf i).toNat)
  case atStart => exact ⟨0, by omega, rfl, Lib.hid (by simp), Below.refl _ _⟩
  case round =>
    obtain ⟨k, hk, rfl, HF, hb⟩ := hrel
    rename World => wr
    have LW : Below w.heap.size w wr := L1.trans (hb.mono L1.size)
    by_cases hlt : k < n
    · have hlt' : (k : Int) < n := by omega
      obtain ⟨b, o, ea, hb0, hc⟩ : ∃ b o, ad = some ⟨b, o, none⟩ ∧ b < w.heap.size ∧ ∀ i, i < R.length → ∀ j, j < 3 → w.cell? ⟨b, o + i * 3 + j, none⟩ = some (.int .i64 (PgM.g (at_ R i) j)) := by
        rcases H.out.2 with h | h
        · have := HN.out; rw [h] at this; simp at this; omega
        · exact h
      subst ea
      have hkR : k < R.length := by rw [HN.out]; exact hlt
      obtain ⟨x0, x1, x2, eX⟩ := len3 (H.out.1 (at_ R k) (by rw [at_eq hkR]; exact List.getElem_mem _))
      have CX := fun j hj => (LW.cell (p := ⟨b, o + k * 3 + j, none⟩) hb0).trans (hc k hkR j hj)
      rw [eX] at CX
      have cx0 : wr.cell? ⟨b, o + k * 3, none⟩ = some (.int .i64 x0) := CX 0 (by omega)
      have cx1 : wr.cell? ⟨b, o + k * 3 + 1, none⟩ = some (.int .i64 x1) := CX 1 (by omega)
      have cx2 : wr.cell? ⟨b, o + k * 3 + 2, none⟩ = some (.int .i64 x2) := CX 2 (by omega)
      have bX := (blk_below hb _ (blk_lt bP)).trans bP
      have cy0 : wr.cell? ⟨w.heap.size, 0, none⟩ = some (.int .i64 G0) := by rw [blk_cell bX]; rfl
      have cy1 : wr.cell? ⟨w.heap.size, 1, none⟩ = some (.int .i64 G1) := by rw [blk_cell bX]; rfl
      have cy2 : wr.cell? ⟨w.heap.size, 2, none⟩ = some (.int .i64 G2) := by rw [blk_cell bX]; rfl
      have EX := Lib.hid eX
      have HK := Lib.hid hkR
      clear hc CX eX bX hkR
      by_cases he : [x0, x1, x2] = [G0, G1, G2]
      · have HE : Hid ([G0, G1, G2] ∈ R) := Lib.hid (by rw [← he, ← EX.out, at_eq HK.out]; exact List.getElem_mem _)
        have d0 : eqL [x0, x1, x2] [G0, G1, G2] = true := decide_eq_true he
        clear he
        go_wp2
        go_quiet (fail)
        go_wp2
        go_ret
        exact ⟨by rw [decide_eq_true HE.out]; first | done | rfl, by repeat' (first | (with_reducible exact Below.refl _ _) | (with_reducible refine Rd.below_step ?_ (by assumption)) | (with_reducible refine Rd.below_alloc ?_ _) | (with_reducible refine Rd.below_drewN ?_ _) | (with_reducible refine Below.drew ?_) | (with_reducible refine Below.setCell ?_ ?_ _) | (with_reducible refine Rd.below_setRow ?_ ?_ _) | go_size | (simp only [World.size_alloc]; omega) | omega)⟩
      · have HE : Hid ([G0, G1, G2] ∉ R.take (k + 1)) := Lib.hid (by
          rw [List.take_add_one, List.getElem?_eq_getElem HK.out, ← at_eq HK.out, EX.out, Option.toList_some, List.mem_append, List.mem_singleton]
          rintro (a | a)
          · exact HF.out a
          · exact he a.symm)
        have d0 : eqL [x0, x1, x2] [G0, G1, G2] = false := decide_eq_false he
        clear he LW L1
        go_wp2
        go_quiet (fail)
        go_wp2
        exact ⟨⟨k + 1, by omega, by go_num, HE, by repeat' (first | (with_reducible exact Below.refl _ _) | (with_reducible refine Rd.below_step ?_ (by assumption)) | (with_reducible refine Rd.below_alloc ?_ _) | (with_reducible refine Rd.below_drewN ?_ _) | (with_reducible refine Below.drew ?_) | (with_reducible refine Below.setCell ?_ ?_ _) | (with_reducible refine Rd.below_setRow ?_ ?_ _) | go_size | (simp only [World.size_alloc]; omega) | omega)⟩, by simp [intOf]; omega⟩
    · obtain rfl : k = n := by omega
      have HE : Hid ([G0, G1, G2] ∉ R) := Lib.hid (by
        have := HF.out
        rw [← HN.out, List.take_length] at this
        exact this)
      go_wp2
      go_ret
      exact ⟨by rw [decide_eq_false HE.out]; first | done | rfl, by repeat' (first | (with_reducible exact Below.refl _ _) | (with_reducible refine Rd.below_step ?_ (by assumption)) | (with_reducible refine Rd.below_alloc ?_ _) | (with_reducible refine Rd.below_drewN ?_ _) | (with_reducible refine Below.drew ?_) | (with_reducible refine Below.setCell ?_ ?_ _) | (with_reducible refine Rd.below_setRow ?_ ?_ _) | go_size | (simp only [World.size_alloc]; omega) | omega)⟩
/-- the document's finest -/
theorem rlook_any (n m s : Nat) (R : PgM.Row) (ad : Option Addr) (c : Nat) (X0 Y0 : Int) (w : World) (hn : n ≤ 3) (hv : validB n m X0 Y0 = true) (h1 : m ≤ s) (h2 : s ≤ n) (hyes : s < n → upV n m X0 Y0 s ∈ R) (hno : ∀ k : Nat, m ≤ k → k < s → upV n m X0 Y0 k ∉ R) (h : PgAt w ad R) (hm : R.length ≤ 1000000) :
    Calls Try.prog 13 #[.int .i64 n, .slice ad R.length c, .agg #[.int .i64 m, .int .i64 X0, .int .i64 Y0]] w fun e w' => e = .returned (.tuple #[.agg (cs .i64 (upV n m X0 Y0 s)), .bool true]) ∧ Below w.heap.size w w' := by
  have CV : Hid (∀ X : World, Calls Try.prog 10 #[.int .i64 n, .agg #[.int .i64 m, .int .i64 X0, .int .i64 Y0]] X fun e w' => e = .returned (.bool true) ∧ Below X.heap.size X w') := Lib.hid fun X => by
    have := rvalid_any n m X0 Y0 X
    rw [hv] at this
    exact this
  have CR : Hid (∀ X : World, Calls Try.prog 24 #[.int .i64 n] X fun e w' => e = .returned (.agg #[.int .i64 n, .int .i64 0, .int .i64 0]) ∧ Below X.heap.size X w') := Lib.hid fun X => by
    have := rroot_any n X
    unfold rootV at this
    rw [if_pos (depth_mk (by omega) (by omega))] at this
    exact this
  obtain ⟨N, hN⟩ : ∃ n, R.length = n := ⟨_, rfl⟩
  have CH : Hid (∀ (X : World) (a b d : Int), PgAt X ad R → Calls Try.prog 15 #[.slice ad N c, .agg #[.int .i64 a, .int .i64 b, .int .i64 d]] X fun e w' => e = .returned (.bool (decide ([a, b, d] ∈ R))) ∧ Below X.heap.size X w') := Lib.hid fun X a b d hX => by
    have := rhas_any R ad c a b d X hX hm
    rw [hN] at this
    exact this
  rw [hN]
  have HV := Lib.hid hv
  have HY := Lib.hid hyes
  have HX := Lib.hid hno
  have H := Lib.hid h
  clear hv hyes hno h hN hm
  go_enter Try.func13, Try.ntmps13
  go_upto_region 1 with (fail)
  refine Rd.name_world ?_
  intro w1 hw
  have bP : blk w1 w.heap.size = some (.cells #[.int .i64 m, .int .i64 X0, .int .i64 Y0] 24 (0, 0)) := by rw [hw]; exact blk2_0 _ _ _
  have bR : blk w1 (w.heap.size + 1) = some (.cells #[.int .i64 0, .int .i64 0, .int .i64 0] 24 (0, 0)) := by rw [hw]; exact blk2_1 _ _ _
  have L1 : Below w.heap.size w w1 := by
    rw [hw]
    repeat' (first | (with_reducible exact Below.refl _ _) | (with_reducible refine Rd.below_step ?_ (by assumption)) | (with_reducible refine Rd.below_alloc ?_ _) | (with_reducible refine Rd.below_drewN ?_ _) | (with_reducible refine Below.drew ?_) | (with_reducible refine Below.setCell ?_ ?_ _) | (with_reducible refine Rd.below_setRow ?_ ?_ _) | go_size | (simp only [World.size_alloc]; omega) | omega)
  have k0 : w1.cell? ⟨w.heap.size, 0, none⟩ = some (.int .i64 m) := by rw [blk_cell bP]; rfl
  have k1 : w1.cell? ⟨w.heap.size, 1, none⟩ = some (.int .i64 X0) := by rw [blk_cell bP]; rfl
  have k2 : w1.cell? ⟨w.heap.size, 2, none⟩ = some (.int .i64 Y0) := by rw [blk_cell bP]; rfl
  clear hw
  go_wp2_with fail
  refine (CV.out _).mono ?_
  rintro e w2 ⟨rfl, hb2⟩
  replace bP := (blk_below hb2 _ (blk_lt bP)).trans bP
  replace bR := (blk_below hb2 _ (blk_lt bR)).trans bR
  have L2 : Below w.heap.size w w2 := by repeat' (first | (with_reducible exact Below.refl _ _) | (with_reducible refine Rd.below_step ?_ (by assumption)) | (with_reducible refine Rd.below_alloc ?_ _) | (with_reducible refine Rd.below_drewN ?_ _) | (with_reducible refine Below.drew ?_) | (with_reducible refine Below.setCell ?_ ?_ _) | (with_reducible refine Rd.below_setRow ?_ ?_ _) | go_size | (simp only [World.size_alloc]; omega) | omega)
  clear hb2 L1 k0 k1 k2 CV
  have k0 : w2.cell? ⟨w.heap.size, 0, none⟩ = some (.int .i64 m) := by rw [blk_cell bP]; rfl
  go_wp2_with fail
  go_loopw [8] (fun l X => ∃ lv : Nat, m ≤ lv ∧ lv ≤ s ∧ l = .int .i64 lv ∧ Below w2.heap.size w2 X) (fun l _ => n - (intOf l).toNat)
  case atStart => exact ⟨m, Nat.le_refl _, h1, rfl, Below.refl _ _⟩
  case round =>
    obtain ⟨lv, hl0, hl1, rfl, hbt⟩ := hrel
    rename World => Y
    clear k0
    have bPY := (blk_below hbt _ (blk_lt bP)).trans bP
    have bRY := (blk_below hbt _ (blk_lt bR)).trans bR
    have LY : Below w.heap.size w Y := L2.trans (hbt.mono L2.size)
    by_cases hlv : lv < n
    · have hlv' : (lv : Int) < n := by omega
      obtain ⟨u0, u1, u2, eU⟩ := len3 (upV_len n m X0 Y0 lv)
      have CU : Hid (∀ X : World, Calls Try.prog 16 #[.int .i64 n, .agg #[.int .i64 m, .int .i64 X0, .int .i64 Y0], .int .i64 lv] X fun e w' => e = .returned (.tuple #[.agg #[.int .i64 u0, .int .i64 u1, .int .i64 u2], .bool true]) ∧ Below X.heap.size X w') := Lib.hid fun X => by
        have := rup_any n m X0 Y0 lv X
        rw [eU, show upB (n : Int) m X0 Y0 lv = true by unfold upB; rw [HV.out, Bool.true_and]; exact decide_eq_true ⟨by omega, by omega⟩] at this
        exact this
      have EU := Lib.hid eU
      clear eU
      have k0 : Y.cell? ⟨w.heap.size, 0, none⟩ = some (.int .i64 m) := by rw [blk_cell bPY]; rfl
      have k1 : Y.cell? ⟨w.heap.size, 1, none⟩ = some (.int .i64 X0) := by rw [blk_cell bPY]; rfl
      have k2 : Y.cell? ⟨w.heap.size, 2, none⟩ = some (.int .i64 Y0) := by rw [blk_cell bPY]; rfl
      go_wp2_with fail
      refine (CU.out _).mono ?_
      rintro e w3 ⟨rfl, hb3⟩
      replace bPY := (blk_below hb3 _ (blk_lt bPY)).trans bPY
      replace bRY := (blk_below hb3 _ (blk_lt bRY)).trans bRY
      have L3 : Below w.heap.size w w3 := LY.trans (hb3.mono LY.size)
      have T3 : Below w2.heap.size w2 w3 := hbt.trans (hb3.mono hbt.size)
      clear hb3 k0 k1 k2 CU
      go_upto_region 7 with (fail)
      refine Rd.name_world ?_
      intro w4 hw
      have bU : blk w4 w3.heap.size = some (.cells #[.int .i64 u0, .int .i64 u1, .int .i64 u2] 24 (0, 0)) := by rw [hw]; exact blk_alloc_at _ _ _ rfl
      have hb : Below w3.heap.size w3 w4 := by
        rw [hw]
        repeat' (first | (with_reducible exact Below.refl _ _) | (with_reducible refine Rd.below_step ?_ (by assumption)) | (with_reducible refine Rd.below_alloc ?_ _) | (with_reducible refine Rd.below_drewN ?_ _) | (with_reducible refine Below.drew ?_) | (with_reducible refine Below.setCell ?_ ?_ _) | (with_reducible refine Rd.below_setRow ?_ ?_ _) | go_size | (simp only [World.size_alloc]; omega) | omega)
      replace bRY := (blk_below hb _ (blk_lt bRY)).trans bRY
      have L4 : Below w.heap.size w w4 := L3.trans (hb.mono L3.size)
      have T4 : Below w2.heap.size w2 w4 := T3.trans (hb.mono T3.size)
      obtain ⟨pu, hpu⟩ : ∃ p, w3.heap.size = p := ⟨_, rfl⟩
      rw [hpu] at bU ⊢
      clear hw hb hpu L3 T3 bPY
      have j0 : w4.cell? ⟨pu, 0, none⟩ = some (.int .i64 u0) := by rw [blk_cell bU]; rfl
      have j1 : w4.cell? ⟨pu, 1, none⟩ = some (.int .i64 u1) := by rw [blk_cell bU]; rfl
      have j2 : w4.cell? ⟨pu, 2, none⟩ = some (.int .i64 u2) := by rw [blk_cell bU]; rfl
      by_cases hs : lv = s
      · have CQ : Hid (∀ X : World, PgAt X ad R → Calls Try.prog 15 #[.slice ad N c, .agg #[.int .i64 u0, .int .i64 u1, .int .i64 u2]] X fun e w' => e = .returned (.bool true) ∧ Below X.heap.size X w') := Lib.hid fun X hX => by
          have := CH.out X u0 u1 u2 hX
          rw [decide_eq_true (by rw [← EU.out, hs]; exact HY.out (by omega))] at this
          exact this
        have HS := Lib.hid hs
        clear hs
        go_wp2_with fail
        refine (CQ.out _ (PgAt.below (B := 0) H.out L4)).mono ?_
        rintro e w5 ⟨rfl, hb5⟩
        replace bU := (blk_below hb5 _ (blk_lt bU)).trans bU
        replace bRY := (blk_below hb5 _ (blk_lt bRY)).trans bRY
        have L5 : Below w.heap.size w w5 := L4.trans (hb5.mono L4.size)
        clear hb5 j0 j1 j2 L4 T4 CQ
        have j0 : w5.cell? ⟨pu, 0, none⟩ = some (.int .i64 u0) := by rw [blk_cell bU]; rfl
        have j1 : w5.cell? ⟨pu, 1, none⟩ = some (.int .i64 u1) := by rw [blk_cell bU]; rfl
        have j2 : w5.cell? ⟨pu, 2, none⟩ = some (.int .i64 u2) := by rw [blk_cell bU]; rfl
        go_wp2
        refine ret_pg2 rfl (w.heap.size + 1) [u0, u1, u2] rfl rfl (blk_setRow_of bRY _) rfl ⟨by rw [← HS.out, EU.out]; rfl, ?_⟩
        refine Rd.below_setRow ?_ ?_ _
        · exact L5
        · omega
      · have CQ : Hid (∀ X : World, PgAt X ad R → Calls Try.prog 15 #[.slice ad N c, .agg #[.int .i64 u0, .int .i64 u1, .int .i64 u2]] X fun e w' => e = .returned (.bool false) ∧ Below X.heap.size X w') := Lib.hid fun X hX => by
          have := CH.out X u0 u1 u2 hX
          rw [decide_eq_false (by rw [← EU.out]; exact HX.out lv hl0 (by omega))] at this
          exact this
        have hs' : lv + 1 ≤ s := by omega
        clear hs
        go_wp2_with fail
        refine (CQ.out _ (PgAt.below (B := 0) H.out L4)).mono ?_
        rintro e w5 ⟨rfl, hb5⟩
        have T5 : Below w2.heap.size w2 w5 := T4.trans (hb5.mono T4.size)
        clear hb5 j0 j1 j2 L4 T4 CQ
        go_wp2
        exact ⟨⟨lv + 1, by omega, hs', by go_num, T5⟩, by simp [intOf]; omega⟩
    · obtain rfl : lv = n := by omega
      obtain rfl : s = lv := by omega
      have ER := Lib.hid (up_root HV.out)
      go_wp2_with fail
      refine (CR.out _).mono ?_
      rintro e w5 ⟨rfl, hb5⟩
      replace bRY := (blk_below hb5 _ (blk_lt bRY)).trans bRY
      have L5 : Below w.heap.size w w5 := LY.trans (hb5.mono LY.size)
      clear hb5
      go_wp2
      refine ret_pg2 rfl (w.heap.size + 1) [(s : Int), 0, 0] rfl rfl (blk_setRow_of bRY _) rfl ⟨by rw [ER.out]; rfl, ?_⟩
      refine Rd.below_setRow ?_ ?_ _
      · exact L5
      · omega
end Go.Proofs.Ytikoajlncdcbcaa.TbI

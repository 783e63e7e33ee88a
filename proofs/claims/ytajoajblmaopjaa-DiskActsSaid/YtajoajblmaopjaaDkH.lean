/-
  Corrupt.
-/
import Derived.Test.YtajoajblmaopjaaDkF
import Derived.Laws.BitsAllLaws
namespace Go.Proofs.Ytajoajblmaopjaa.DkH
open Go.RowKit Rd
open Go.Proofs.Ytajoajblmaopjaa.Row hiding cs blk3_0 blk3_1 blk3_2
open Mid DkM DkA DkB DkC DkD DkE DkF
set_option linter.unusedVariables false
set_option linter.unusedSimpArgs false
set_option maxRecDepth 10000
variable {X Y : World} {b kg hg n : Nat} {s : DS}
/-! one byte of a sector -/
theorem us_at {l : List Int} {j : Nat} (h : j < l.length) : (us l)[j]? = some (.int .u8 (l.getD j 0)) := by simp [us, List.getD, h]
theorem us_set (l : List Int) (j : Nat) (v : Int) : (us l).set j (.int .u8 v) = us (l.set j v) := by simp [us, List.map_set]
theorem one_pst {c : List Value} {o : Nat} {x : Value} (h : o < c.length) : pst c o [x] = c.set o x := (one_set h).symm
theorem ldKc (h : Dk X b kg hg n s) {i j : Nat} {l : List Int} (hi : i < n) (hj : j < 32) (e : s.K.getD i [] = l) : X.cell? ⟨kg, i * 32 + j, none⟩ = some (.int .u8 (l.getD j 0)) ∧ X.frozen? ⟨kg, i * 32 + j, none⟩ = false := by
  have hiK : i < s.K.length := by rw [h.kl.1]; exact hi
  have hE : s.K[i] = l := by rw [← e]; simp [List.getD, hiK]
  have h32 := h.kl.2 _ (List.getElem_mem hiK)
  rw [hE] at h32
  have hp := fl_at h.ku (i := i) (j := j) (by simpa using hiK) hj
  refine ⟨?_, blk_frozen h.kept _⟩
  rw [blk_cell h.kept, List.getElem?_toArray, hp, List.getElem_map, hE, us_at (by omega)]
theorem ldHc (h : Dk X b kg hg n s) {i j : Nat} {q : Bool} {l : List Int} (hi : i < n) (hj : j < 32) (e : s.H.getD i (false, []) = (q, l)) : X.cell? ⟨hg, i * 33 + 1 + j, none⟩ = some (.int .u8 (l.getD j 0)) ∧ X.frozen? ⟨hg, i * 33 + 1 + j, none⟩ = false := by
  have hiH : i < s.H.length := by rw [h.hl.1]; exact hi
  have hE : s.H[i] = (q, l) := by rw [← e]; simp [List.getD, hiH]
  have h32 : l.length = 32 := by have := h.hl.2 _ (List.getElem_mem hiH); rw [hE] at this; exact this
  have hp := fl_at h.hu (i := i) (j := j + 1) (by simpa using hiH) (by omega)
  refine ⟨?_, blk_frozen h.held _⟩
  rw [blk_cell h.held, List.getElem?_toArray, show i * 33 + 1 + j = i * 33 + (j + 1) by omega, hp, List.getElem_map, hE]
  show (us l)[j]? = _
  exact us_at (by omega)
theorem stKc (h : Dk X b kg hg n s) {i j : Nat} {l : List Int} (v : Int) (hi : i < n) (hj : j < 32) (e : s.K.getD i [] = l) : Dk (X.setCell ⟨kg, i * 32 + j, none⟩ (.int .u8 v)) b kg hg n (s.setK i (l.set j v)) := by
  have hiK : i < s.K.length := by rw [h.kl.1]; exact hi
  have hE : s.K[i] = l := by rw [← e]; simp [List.getD, hiK]
  have h32 := h.kl.2 _ (List.getElem_mem hiK)
  rw [hE] at h32
  have hp := fl_pst h.ku (i := i) (o := j) (v := [Value.int .u8 v]) (by simpa using hiK) (by simp; omega)
  have hm : (s.K.map us)[i]'(by simpa using hiK) = us l := by rw [List.getElem_map, hE]
  rw [hm, one_pst (c := us l) (by rw [us_len]; omega), us_set, ← List.map_set] at hp
  have hL := fl_len h.ku
  have hlt : i * 32 + j < (fl (s.K.map us)).length := by rw [hL, List.length_map, h.kl.1]; omega
  rw [setCell_setRow h.kept]
  have e2 : ((fl (s.K.map us)).toArray.setIfInBounds (i * 32 + j) (.int .u8 v)) = (fl ((s.K.set i (l.set j v)).map us)).toArray := by
    rw [List.setIfInBounds_toArray, one_set hlt, hp]
  rw [e2]
  exact (h.stK hi (by rw [List.length_set]; exact h32)).2
theorem stHc (h : Dk X b kg hg n s) {i j : Nat} {q : Bool} {l : List Int} (v : Int) (hi : i < n) (hj : j < 32) (e : s.H.getD i (false, []) = (q, l)) : Dk (X.setCell ⟨hg, i * 33 + 1 + j, none⟩ (.int .u8 v)) b kg hg n (s.setH i q (l.set j v)) := by
  have hiH : i < s.H.length := by rw [h.hl.1]; exact hi
  have hE : s.H[i] = (q, l) := by rw [← e]; simp [List.getD, hiH]
  have h32 : l.length = 32 := by have := h.hl.2 _ (List.getElem_mem hiH); rw [hE] at this; exact this
  have hp := fl_pst h.hu (i := i) (o := j + 1) (v := [Value.int .u8 v]) (by simpa using hiH) (by simp; omega)
  have hm : (s.H.map hv)[i]'(by simpa using hiH) = hv (q, l) := by rw [List.getElem_map, hE]
  have hx : (hv (q, l)).set (j + 1) (.int .u8 v) = hv (q, l.set j v) := by
    show Value.bool q :: (us l).set j (.int .u8 v) = Value.bool q :: us (l.set j v)
    rw [us_set]
  rw [hm, one_pst (c := hv (q, l)) (by rw [hv_len]; show j + 1 < l.length + 1; omega), hx, ← List.map_set] at hp
  have hL := fl_len h.hu
  have hlt : i * 33 + (j + 1) < (fl (s.H.map hv)).length := by rw [hL, List.length_map, h.hl.1]; omega
  rw [setCell_setRow h.held]
  have e2 : ((fl (s.H.map hv)).toArray.setIfInBounds (i * 33 + 1 + j) (.int .u8 v)) = (fl ((s.H.set i (q, l.set j v)).map hv)).toArray := by
    rw [show i * 33 + 1 + j = i * 33 + (j + 1) by omega, List.setIfInBounds_toArray, one_set hlt, hp]
  rw [e2]
  exact h.setHrow hi (by rw [List.length_set]; exact h32)
/-! a bit that is turned -/
def tb (k : Nat) : Nat := 2 ^ (k % 8)
theorem tb_cases (k : Nat) : tb k = 1 ∨ tb k = 2 ∨ tb k = 4 ∨ tb k = 8 ∨ tb k = 16 ∨ tb k = 32 ∨ tb k = 64 ∨ tb k = 128 := by
  have h := Nat.mod_lt k (show 0 < 8 by omega)
  unfold tb
  generalize k % 8 = m at h
  have : m = 0 ∨ m = 1 ∨ m = 2 ∨ m = 3 ∨ m = 4 ∨ m = 5 ∨ m = 6 ∨ m = 7 := by omega
  rcases this with rfl | rfl | rfl | rfl | rfl | rfl | rfl | rfl <;> simp
theorem tb_lt (k : Nat) : tb k < 256 := by have := tb_cases k; omega
theorem tb_pow (k : Nat) : (2 : Int) ^ (k % 8) % 256 = (tb k : Int) := by
  have h := Nat.mod_lt k (show 0 < 8 by omega)
  unfold tb
  generalize k % 8 = m at h
  have : m = 0 ∨ m = 1 ∨ m = 2 ∨ m = 3 ∨ m = 4 ∨ m = 5 ∨ m = 6 ∨ m = 7 := by omega
  rcases this with rfl | rfl | rfl | rfl | rfl | rfl | rfl | rfl <;> rfl
theorem tb_shl (k : Nat) : Op.shift .shl .u8 1 .i64 (((k % 8 : Nat) : Int)) = pure (.int .u8 (tb k)) := by
  rw [shift_shl_any _ _ _ _ (by omega)]
  have h := Nat.mod_lt k (show 0 < 8 by omega)
  unfold tb
  generalize k % 8 = m at h
  have : m = 0 ∨ m = 1 ∨ m = 2 ∨ m = 3 ∨ m = 4 ∨ m = 5 ∨ m = 6 ∨ m = 7 := by omega
  rcases this with rfl | rfl | rfl | rfl | rfl | rfl | rfl | rfl <;> rfl
def flip (l : List Int) (k : Nat) : List Int := l.set (k / 8) ((((l.getD (k / 8) 0).toNat ^^^ tb k : Nat) : Int))
def Bd (l : List Int) : Prop := l.length = 32 ∧ ∀ z ∈ l, 0 ≤ z ∧ z ≤ 255
theorem Bd.at {l : List Int} (h : Bd l) (j : Nat) : 0 ≤ l.getD j 0 ∧ l.getD j 0 ≤ 255 := by
  by_cases hj : j < l.length
  · rw [show l.getD j 0 = l[j] by simp [List.getD, hj]]
    exact h.2 _ (List.getElem_mem hj)
  · rw [show l.getD j 0 = 0 by simp [List.getD, hj]]; omega
theorem flip_bd {l : List Int} (h : Bd l) (k : Nat) : Bd (flip l k) := by
  refine ⟨by unfold flip; rw [List.length_set]; exact h.1, fun z hz => ?_⟩
  rcases List.mem_or_eq_of_mem_set hz with hz | hz
  · exact h.2 z hz
  · have h1 := h.at (k / 8)
    have := Nat.xor_lt_two_pow (n := 8) (x := (l.getD (k / 8) 0).toNat) (y := tb k) (by omega) (tb_lt k)
    rw [hz]
    omega
theorem flip_twice {l : List Int} (h : Bd l) {k : Nat} (hk : k < 256) : flip (flip l k) k = l := by
  have h1 := h.at (k / 8)
  have hl : k / 8 < l.length := by rw [h.1]; omega
  have e : (flip l k).getD (k / 8) 0 = (((l.getD (k / 8) 0).toNat ^^^ tb k : Nat) : Int) := by
    unfold flip
    rw [List.getD_eq_getElem?_getD, List.getElem?_set_self hl]; rfl
  show (flip l k).set (k / 8) _ = l
  rw [e, Int.toNat_natCast, Nat.xor_assoc, Nat.xor_self, Nat.xor_zero, Int.toNat_of_nonneg h1.1]
  unfold flip
  rw [List.set_set]
  have : l.getD (k / 8) 0 = l[k / 8] := by simp [List.getD, hl]
  rw [this]
  exact List.set_getElem_self hl
def corS (s : DS) (i k : Nat) : DS :=
  if (s.H.getD i (false, [])).1 = true then (s.setK i (flip (s.K.getD i []) k)).setH i true (flip (s.H.getD i (false, [])).2 k) else s.setK i (flip (s.K.getD i []) k)
set_option maxHeartbeats 8000000 in
theorem corrupt_any (i k : Nat) (w : World) (h : Dk w b kg hg n s) (hd : s.dn = false) (hi : i < n) (hk : k < 256) (hKb : Bd (s.K.getD i [])) (hHb : Bd (s.H.getD i (false, [])).2) :
    Calls Try.prog 17 #[.pointer (some ⟨b, 0, none⟩), .int .i64 i, .int .i64 k] w fun e w' => e = .returned (.int .i64 0) ∧ Dk w' b kg hg n (corS s i k) ∧ Tn [b, kg, hg] w w' := by
  have C := may_any (i : Int) w h
  rw [show mayE n s.dn (i : Int) = 0 by unfold mayE; rw [hd, if_neg (by decide), if_pos (by omega)]] at C
  have CC := Lib.hid C
  have hn2 := h.small.2
  obtain ⟨l, hl⟩ : ∃ l, s.K.getD i [] = l := ⟨_, rfl⟩
  obtain ⟨⟨q, lh⟩, hh⟩ : ∃ p, s.H.getD i (false, []) = p := ⟨_, rfl⟩
  obtain ⟨r, hr⟩ : ∃ r, k / 8 = r := ⟨_, rfl⟩
  obtain ⟨r2, hr2⟩ : ∃ r, k % 8 = r := ⟨_, rfl⟩
  obtain ⟨t, ht⟩ : ∃ t, tb k = t := ⟨_, rfl⟩
  have hr8 : r < 32 := by omega
  rw [hl] at hKb
  rw [hh] at hHb
  have hz := hKb.at r
  have hy := Bd.at (l := lh) hHb r
  have cz := ldKc (h.kept' (Y := w.drew) rfl rfl rfl) hi hr8 hl
  obtain ⟨z, ez⟩ := Int.eq_ofNat_of_zero_le hz.1
  obtain ⟨y, ey⟩ := Int.eq_ofNat_of_zero_le hy.1
  rw [ez] at cz hz
  rw [ey] at hy
  obtain ⟨cz1, cz2⟩ := cz
  have ht8 : t < 256 := by rw [← ht]; exact tb_lt k
  have hxr : bits .xor .u8 (z : Int) (t : Int) = ((z ^^^ t : Nat) : Int) := u8_xor_nat z t (by omega) ht8
  have hyr : bits .xor .u8 (y : Int) (t : Int) = ((y ^^^ t : Nat) : Int) := u8_xor_nat y t (by omega) ht8
  have hsl := tb_shl k
  have hpw := tb_pow k
  rw [hr2, ht] at hsl hpw
  have hq' : (k : Int) / 8 = (r : Int) := by omega
  have hr' : (k : Int) % 8 = (r2 : Int) := by omega
  have hr8' : (r : Int) < 32 := by omega
  have hk' : (k : Int) < 256 := by omega
  have hi' : (i : Int) < n := by omega
  have HD : Hid (Dk w.drew b kg hg n s) := Lib.hid (h.kept' rfl rfl rfl)
  have T0 : Hid (Tn [b, kg, hg] w w.drew) := Lib.hid (Tn.of_below (X := w) (Y := w.drew) ⟨rfl, rfl, rfl, Nat.le_refl _, fun _ _ => rfl⟩)
  have c0 := HD.out.c0
  have HST : Hid (∀ X : World, X = w.drew.setCell ⟨kg, i * 32 + r, none⟩ (.int .u8 ((z ^^^ t : Nat) : Int)) → Dk X b kg hg n (s.setK i (flip l k)) ∧ Tn [b, kg, hg] w X) := Lib.hid (by
    rintro X rfl
    have := stKc HD.out (i := i) (j := r) (l := l) (((z ^^^ t : Nat) : Int)) hi hr8 hl
    refine ⟨?_, T0.out.trans (Tn.set w.drew _ _ (by simp))⟩
    unfold flip
    rw [hr, ht, ez, Int.toNat_natCast]
    exact this)
  have HF : Hid (corS s i k = if q = true then (s.setK i (flip l k)).setH i true (flip lh k) else s.setK i (flip l k)) := Lib.hid (by unfold corS; rw [hh, hl])
  have HLH := Lib.hid hh
  have HY : Hid (flip lh k = lh.set r ((y ^^^ t : Nat) : Int)) := Lib.hid (by unfold flip; rw [hr, ht, ey, Int.toNat_natCast])
  have HEY := Lib.hid ey
  have hlt := h.lt
  clear h hd C hl hh hr hr2 ht hKb hHb ez ey
  go_enter Try.func17, Try.ntmps17
  go_wp2_with fail
  refine CC.out.mono ?_
  rintro e _ ⟨rfl, rfl⟩
  clear CC
  go_upto_region 7 with (fail)
  (refine Reg.quiet_tail 14 (by kernel_rfl) (by kernel_rfl) ?_; simp only [List.take_succ_cons, List.take_zero, List.drop_succ_cons, List.drop_zero]; (repeat go_big_quiet_step (fail)); refine wpQuiet_nil ?_)
  go_upto_region 8 with (fail)
  refine Rd.name_world ?_
  intro X hw
  obtain ⟨d1, t1⟩ := HST.out X hw
  clear HST hw cz1 cz2 c0
  have c1 := d1.c1
  have hH := HLH.out
  have hg0 := (d1.ldH (q := q) (l := lh) hi (by exact hH)).2.2
  obtain ⟨hf1, hf2⟩ := hg0
  have hb1 := d1.lt
  have cy := ldHc (d1.kept' (Y := X.drew) rfl rfl rfl) (q := q) (l := lh) hi hr8 (by exact hH)
  rw [HEY.out] at cy
  obtain ⟨cy1, cy2⟩ := cy
  cases q with
  | false =>
    have hF := HF.out
    rw [if_neg (by decide)] at hF
    rw [← hF] at d1
    clear hH cy1 cy2 hF
    have D := Lib.hid d1
    have T := Lib.hid t1
    clear d1 t1
    go_wp2
    go_ret
    exact ⟨rfl, D.out, T.out⟩
  | true =>
    have HS2 : Hid (∀ Z : World, Z = X.drew.setCell ⟨hg, i * 33 + 1 + r, none⟩ (.int .u8 ((y ^^^ t : Nat) : Int)) → Dk Z b kg hg n ((s.setK i (flip l k)).setH i true (flip lh k)) ∧ Tn [b, kg, hg] w Z) := Lib.hid (by
      rintro Z rfl
      refine ⟨?_, (t1.trans (Tn.of_below (X := X) (Y := X.drew) ⟨rfl, rfl, rfl, Nat.le_refl _, fun _ _ => rfl⟩)).trans (Tn.set X.drew _ _ (by simp))⟩
      rw [HY.out]
      exact stHc (d1.kept' (Y := X.drew) rfl rfl rfl) (((y ^^^ t : Nat) : Int)) hi hr8 hH)
    have hF := HF.out
    rw [if_pos rfl] at hF
    rw [← hF] at HS2
    clear hH d1 t1 hF
    have c1d : X.drew.cell? ⟨b, 1, none⟩ = some (.slice (some ⟨hg, 0, none⟩) n n) := c1
    go_upto_region 9 with (fail)
    (refine Reg.quiet_tail 16 (by kernel_rfl) (by kernel_rfl) ?_; simp only [List.take_succ_cons, List.take_zero, List.drop_succ_cons, List.drop_zero]; (repeat go_big_quiet_step (fail)); refine wpQuiet_nil ?_)
    go_upto_region 10 with (fail)
    refine Rd.name_world ?_
    intro Z hw
    obtain ⟨d2, t2⟩ := HS2.out Z hw
    have D := Lib.hid d2
    have T := Lib.hid t2
    clear HS2 hw cy1 cy2 d2 t2
    go_wp2
    go_ret
    exact ⟨rfl, D.out, T.out⟩
end Go.Proofs.Ytajoajblmaopjaa.DkH

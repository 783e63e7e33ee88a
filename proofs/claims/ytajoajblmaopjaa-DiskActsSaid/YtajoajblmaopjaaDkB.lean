/-
  New, Read, keep, Write, Fuse, Flush.
-/
import Derived.Test.YtajoajblmaopjaaDkA
import Derived.Laws.CopyRow
import Derived.Deep.CutRange
namespace Go.Proofs.Ytajoajblmaopjaa.DkB
open Go.RowKit Rd Go.Proofs.Ytajoajblmaopjaa.Row Mid DkM DkA
set_option linter.unusedVariables false
set_option linter.unusedSimpArgs false
set_option maxRecDepth 10000
variable {X Y : World} {b kg hg n : Nat} {s : DS}
attribute [local go_sem ↓] load_sec store_sec load_held store_held
theorem z32_len : z32.length = 32 := rfl
theorem store_new (W : World) (c : Array Value) (l : List Int) (hc : c.size = 32) (hl : l.length = 32) :
    (storeRow 66 (.pointer (some ⟨W.heap.size, 0, none⟩)) (secV l)).run Try.prog (W.alloc (.cells c 66)) = .ok () (W.alloc (.cells (us l).toArray 66)) := by
  have hb : blk (W.alloc (.cells c 66)) W.heap.size = some (.cells c.toList.toArray 66 (0, 0)) := by rw [Array.toArray_toList]; exact blk_alloc_at _ _ _ rfl
  have := st_mid (t := 66) (m := 32) (by kernel_rfl) (by omega) hb (o := 0) (v := us l) (by rw [Array.length_toList]; omega) (by rw [us_len]; exact hl) (us_one l)
  rw [pst_whole (by rw [us_len, hl, Array.length_toList, hc])] at this
  refine this.trans ?_
  rw [setRow_alloc_at]
  rfl
theorem held_new (W : World) (c : Array Value) (q : Bool) (l : List Int) (hc : c.size = 33) (hl : l.length = 32) :
    (storeRow 68 (.pointer (some ⟨W.heap.size, 0, none⟩)) (heldV (q, l))).run Try.prog (W.alloc (.cells c 68)) = .ok () (W.alloc (.cells (hv (q, l)).toArray 68)) := by
  have hb : blk (W.alloc (.cells c 68)) W.heap.size = some (.cells c.toList.toArray 68 (0, 0)) := by rw [Array.toArray_toList]; exact blk_alloc_at _ _ _ rfl
  have := st_mid (t := 68) (m := 33) (by kernel_rfl) (by omega) hb (o := 0) (v := hv (q, l)) (by rw [Array.length_toList]; omega) (by show (us l).length + 1 = 33; rw [us_len]; omega) (hv_one _)
  rw [pst_whole (by show (us l).length + 1 = _; rw [us_len, hl, Array.length_toList, hc])] at this
  refine this.trans ?_
  rw [setRow_alloc_at]
  rfl
theorem us_size (l : List Int) : (us l).toArray.size = l.length := by simp [us]
/-! Read -/
def rd (s : DS) (i : Nat) : List Int := if (s.H.getD i (false, [])).1 = true then (s.H.getD i (false, [])).2 else s.K.getD i []
theorem read_no (i : Int) (w : World) (h : Dk w b kg hg n s) (hno : mayE n s.dn i ≠ 0) :
    Calls Try.prog 22 #[.pointer (some ⟨b, 0, none⟩), .int .i64 i] w fun e w' => e = .returned (.tuple #[.slice none 0 0, .int .i64 (mayE n s.dn i)]) ∧ w = w' := by
  have C := Lib.hid (may_any i w h)
  obtain ⟨m, hm⟩ : ∃ m, mayE n s.dn i = m := ⟨_, rfl⟩
  rw [hm] at C hno ⊢
  have d0 : (m != 0) = true := by simpa using hno
  have d1 : (m == 0) = false := by simpa using hno
  clear h hm hno
  go_enter Try.func22, Try.ntmps22
  go_wp2_with fail
  refine C.out.mono ?_
  rintro e _ ⟨rfl, rfl⟩
  go_wp2
  go_ret2
  exact ⟨rfl, rfl⟩
theorem read_nil (i : Int) (w : World) :
    Calls Try.prog 22 #[.pointer none, .int .i64 i] w fun e w' => e = .returned (.tuple #[.slice none 0 0, .int .i64 7]) ∧ w = w' := by
  go_enter Try.func22, Try.ntmps22
  go_wp2_with fail
  refine (may_nil _ _).mono ?_
  rintro e _ ⟨rfl, rfl⟩
  go_wp2
  go_ret2
  exact ⟨rfl, rfl⟩
attribute [local go_sem] store_new us_size us_len z32_len
set_option maxHeartbeats 1000000 in
theorem read_any (i : Nat) (w : World) (h : Dk w b kg hg n s) (hd : s.dn = false) (hi : i < n) :
    Calls Try.prog 22 #[.pointer (some ⟨b, 0, none⟩), .int .i64 i] w fun e w' => e = .returned (.tuple #[.slice (some ⟨w.heap.size, 0, none⟩) 32 32, .int .i64 0]) ∧ blk w' w.heap.size = some (.cells (us (rd s i)).toArray 66 (0, 0)) ∧ Below w.heap.size w w' := by
  have C := may_any (i : Int) w h
  rw [show mayE n s.dn (i : Int) = 0 by unfold mayE; rw [hd, if_neg (by decide), if_pos (by omega)]] at C
  have CC := Lib.hid C
  have c0 := h.c0
  have c1 := h.c1
  have hn := h.small.2
  have hi' : (i : Int) < n := by omega
  obtain ⟨l, el⟩ : ∃ l, s.K.getD i [] = l := ⟨_, rfl⟩
  obtain ⟨q, l2, eh⟩ : ∃ q l2, s.H.getD i (false, []) = (q, l2) := ⟨_, _, rfl⟩
  have hK := h.ldK hi el
  have hH := h.ldH hi eh
  have l32 : l.length = 32 := by
    have hiK : i < s.K.length := by rw [h.kl.1]; exact hi
    have : s.K[i] = l := by rw [← el]; simp [List.getD, hiK]
    rw [← this]; exact h.kl.2 _ (List.getElem_mem _)
  have m32 : l2.length = 32 := by
    have hiK : i < s.H.length := by rw [h.hl.1]; exact hi
    have : s.H[i] = (q, l2) := by rw [← eh]; simp [List.getD, hiK]
    have h9 := h.hl.2 _ (List.getElem_mem hiK)
    rw [this] at h9; exact h9
  have hA := fun o : Obj => (h.bel ((Below.refl _ _).alloc (Nat.le_refl _) o)).ldH hi eh
  have hA1 := fun o : Obj => (hA o).1
  have hq := hH.2.2.1
  have hR : Hid (rd s i = if q = true then l2 else l) := Lib.hid (by unfold rd; rw [eh, el])
  have hbl := h.lt
  clear h C el eh hH hA
  go_enter Try.func22, Try.ntmps22
  go_wp2_with fail
  refine CC.out.mono ?_
  rintro e _ ⟨rfl, rfl⟩
  cases q with
  | true =>
    go_wp2
    go_ret2
    refine ⟨rfl, ?_, by repeat' (first | (with_reducible exact Below.refl _ _) | (with_reducible refine Rd.below_step ?_ (by assumption)) | (with_reducible refine Rd.below_alloc ?_ _) | (with_reducible refine Rd.below_drewN ?_ _) | (with_reducible refine Below.drew ?_) | (with_reducible refine Below.setCell ?_ ?_ _) | (with_reducible refine Rd.below_setRow ?_ ?_ _) | go_size | (simp only [World.size_alloc]; omega) | omega)⟩
    rw [hR.out]
    exact blk_alloc_at _ _ _ rfl
  | false =>
    go_wp2
    go_ret2
    refine ⟨rfl, ?_, by repeat' (first | (with_reducible exact Below.refl _ _) | (with_reducible refine Rd.below_step ?_ (by assumption)) | (with_reducible refine Rd.below_alloc ?_ _) | (with_reducible refine Rd.below_drewN ?_ _) | (with_reducible refine Below.drew ?_) | (with_reducible refine Below.setCell ?_ ?_ _) | (with_reducible refine Rd.below_setRow ?_ ?_ _) | go_size | (simp only [World.size_alloc]; omega) | omega)⟩
    rw [hR.out]
    exact blk_alloc_at _ _ _ rfl
theorem rd_len (h : Dk X b kg hg n s) {i : Nat} (hi : i < n) : (rd s i).length = 32 := by
  have hiK : i < s.K.length := by rw [h.kl.1]; exact hi
  have hiH : i < s.H.length := by rw [h.hl.1]; exact hi
  unfold rd
  have e1 : s.K.getD i [] = s.K[i] := by simp [List.getD, hiK]
  have e2 : s.H.getD i (false, []) = s.H[i] := by simp [List.getD, hiH]
  rw [e1, e2]
  split
  · exact h.hl.2 _ (List.getElem_mem _)
  · exact h.kl.2 _ (List.getElem_mem _)
/-! keep -/
def kpS (s : DS) (i : Nat) : DS := { s with K := s.K.set i (s.H.getD i (false, [])).2, H := s.H.set i (false, z32) }
theorem info_held : (Try.prog.info? 68).map (fun i => (i.zero, i.size)) = some (some (heldV (false, z32)), 33) := by kernel_rfl
set_option maxHeartbeats 1000000 in
theorem keep_any (i : Nat) (w : World) (h : Dk w b kg hg n s) (hi : i < n) :
    Calls Try.prog 30 #[.pointer (some ⟨b, 0, none⟩), .int .i64 i] w fun e w' => (∃ v, e = .returned v) ∧ Dk w' b kg hg n (kpS s i) ∧ Tn [b, kg, hg] w w' := by
  have c0 := h.c0
  have c1 := h.c1
  have hn := h.small.2
  have hi' : (i : Int) < n := by omega
  obtain ⟨q, l2, eh⟩ : ∃ q l2, s.H.getD i (false, []) = (q, l2) := ⟨_, _, rfl⟩
  have hH := (h.ldH hi eh).1
  have m32 : l2.length = 32 := by
    have hiK : i < s.H.length := by rw [h.hl.1]; exact hi
    have : s.H[i] = (q, l2) := by rw [← eh]; simp [List.getD, hiK]
    have h9 := h.hl.2 _ (List.getElem_mem hiK)
    rw [this] at h9; exact h9
  have H := Lib.hid h
  have EH := Lib.hid eh
  clear h eh
  have HD : Hid (Dk w.drew b kg hg n s) := Lib.hid (H.out.kept' rfl rfl rfl)
  have hHd := (HD.out.ldH hi EH.out).1
  obtain ⟨st1, st2⟩ := HD.out.stK (l := l2) hi m32
  have T1 : Tn [b, kg, hg] w (w.drew.setRow kg (fl ((s.K.set i l2).map us)).toArray) := (Tn.of_below (X := w) (Y := w.drew) ⟨rfl, rfl, rfl, Nat.le_refl _, fun _ _ => rfl⟩).trans (Tn.row _ _ (by simp))
  go_enter Try.func30, Try.ntmps30
  go_upto_region 0 with (fail)
  (refine Reg.quiet_tail 14 (by kernel_rfl) (by kernel_rfl) ?_; simp only [List.take_succ_cons, List.take_zero, List.drop_succ_cons, List.drop_zero]; (repeat go_big_quiet_step (fail)); refine wpQuiet_nil ?_)
  obtain ⟨X1, hX1⟩ : ∃ x, w.drew = x := ⟨_, rfl⟩
  rw [hX1] at st1 st2 T1 ⊢
  obtain ⟨X2, hX2⟩ : ∃ x, X1.setRow kg (fl ((s.K.set i l2).map us)).toArray = x := ⟨_, rfl⟩
  rw [hX2] at st1 st2 T1
  have H2 := Lib.hid st2
  have T2 := Lib.hid T1
  have cc1 : X2.cell? ⟨b, 1, none⟩ = some (.slice (some ⟨hg, 0, none⟩) n n) := H2.out.c1
  have sth := H2.out.stH (q := false) (l := z32) hi rfl
  have sth' : (storeRow 68 (.pointer (some ⟨hg, i * 33, none⟩)) (.agg #[.bool false, .int .u8 0, .int .u8 0, .int .u8 0, .int .u8 0, .int .u8 0, .int .u8 0, .int .u8 0, .int .u8 0, .int .u8 0, .int .u8 0, .int .u8 0, .int .u8 0, .int .u8 0, .int .u8 0, .int .u8 0, .int .u8 0, .int .u8 0, .int .u8 0, .int .u8 0, .int .u8 0, .int .u8 0, .int .u8 0, .int .u8 0, .int .u8 0, .int .u8 0, .int .u8 0, .int .u8 0, .int .u8 0, .int .u8 0, .int .u8 0, .int .u8 0, .int .u8 0])).run Try.prog X2 = .ok () (X2.setRow hg (fl (((s.setK i l2).H.set i (false, z32)).map hv)).toArray) := sth
  clear hX1 hX2 st2 T1 hH hHd c0 c1
  clear sth
  go_wp2
  go_end0
  refine ⟨⟨_, rfl⟩, ?_, T2.out.trans (Tn.row _ _ (by simp))⟩
  have h5 := H2.out.setHrow (q := false) (l := z32) hi rfl
  have e5 : (s.setK i l2).setH i false z32 = kpS s i := by unfold kpS DS.setH DS.setK; rw [EH.out]
  rw [← e5]
  first | exact h5 | (rw [List.map_set] at h5; exact h5)
/-! Write -/
theorem copy_op {P : Program} {ops : Array Oper} {rest : List Oper} {o : Oper} {a : Act} {w : World} {Q : Exit → Act → World → Prop} (hgd : o.guard = none) (d x : Operand) (t t' : TypeId)
    (ho : o.op = .call { callee := .builtin .copy, args := #[d, x], argTypes := #[t, t'] }) (v u : Value) (hd : a.eval d = v) (hs : a.eval x = u) {v' : Value} {w' : World}
    (hr : (Builtin.copy_ #[t, t'] o.type #[v, u]).run P w = .ok v' w') (h : wpList P ops Q rest (a.put o.dst v') w') : wpList P ops Q (o :: rest) a w := by
  refine wpList_plain hgd fun _ hK => ?_
  unfold Oper.wp execOp
  simp only [ho, resolve, invoke, builtin, Sem.run_bind, Sem.run_pure, Result.andThen_ok, List.map_toArray, List.map_cons, List.map_nil, hd, hs, hr]
  exact hK _ _ h
theorem Tn.cell {ks : List Nat} {X Y : World} (h : Tn ks X Y) {g k : Nat} {v : Value} (hg : g < X.heap.size) (hn : g ∉ ks) (hc : X.cell? ⟨g, k, none⟩ = some v) : Y.cell? ⟨g, k, none⟩ = some v := by
  have := h.2.2 g hg hn
  rw [← hc]
  unfold World.cell?
  simp only [this]
theorem cp_held (h : Dk X b kg hg n s) {i : Nat} {q : Bool} {l0 l : List Int} (hi : i < n) (e : s.H.getD i (false, []) = (q, l0)) (hl : l.length = 32) {sb so c : Nat} (hsrc : ∀ j u, (us l)[j]? = some u → X.cell? ⟨sb, so + j, none⟩ = some u) (ty : TypeId) :
    (Builtin.copy_ #[32, 32] ty #[.slice (some ⟨hg, i * 33 + 1, none⟩) 32 32, .slice (some ⟨sb, so, none⟩) 32 c]).run Try.prog X = .ok (goInt 32) (X.setRow hg (fl ((s.H.set i (q, l)).map hv)).toArray) := by
  have hiH : i < s.H.length := by rw [h.hl.1]; exact hi
  have hE : s.H[i] = (q, l0) := by rw [← e]; simp [List.getD, hiH]
  have h32 := h.hl.2 _ (List.getElem_mem hiH)
  rw [hE] at h32
  have hL := fl_len h.hu
  have hm : (s.H.map hv)[i]'(by simpa using hiH) = hv (q, l0) := by rw [List.getElem_map, hE]
  have hp := fl_pst h.hu (i := i) (o := 1) (v := us l) (by simpa using hiH) (by rw [us_len]; omega)
  have hx : pst (hv (q, l0)) 1 (us l) = hv (q, l) := by
    unfold pst hv
    rw [List.take_succ_cons, List.take_zero, show 1 + (us l).length = (us l).length + 1 by omega, List.drop_succ_cons, List.drop_of_length_le (by rw [us_len, us_len, hl]; exact Nat.le_of_eq h32)]
    simp
  rw [hm, hx, ← List.map_set] at hp
  have hr := run_copy_row (P := Try.prog) X 32 32 ty 5 hg (i * 33 + 1) 32 32 ⟨sb, so, none⟩ 32 c (fl (s.H.map hv)).toArray 68 (us l) Try.underlying32 (by kernel_rfl) h.held (by rw [us_len, hl]; rfl) (fun j v hj => by rw [Addr.add_mid]; exact hsrc j v hj) (by rw [us_len, hl]; simp [hL, h.hl.1]; omega) (fun u hu => by obtain ⟨z, -, rfl⟩ := List.mem_map.1 hu; rfl)
  rw [us_len, hl] at hr
  refine hr.trans ?_
  have e2 : (fl (s.H.map hv)).toArray.toList.take (i * 33 + 1) ++ us l ++ (fl (s.H.map hv)).toArray.toList.drop (i * 33 + 1 + 32) = fl ((s.H.set i (q, l)).map hv) := by
    rw [← hp, List.toList_toArray]
    unfold pst
    rw [us_len, hl]
  rw [e2]
  rfl
def wrS (s : DS) (i : Nat) (l : List Int) : DS := { s with lf := if s.lf = -1 then s.lf else s.lf - 1, H := s.H.set i (true, l), wr := s.wr + 1 }
set_option maxHeartbeats 2000000 in
theorem write_any (i : Nat) (l : List Int) (sb so c : Nat) (w : World) (h : Dk w b kg hg n s) (hd : s.dn = false) (hi : i < n) (hl : l.length = 32) (hlf : s.lf ≠ 0) (hlf2 : -1 ≤ s.lf ∧ s.lf ≤ 1048576) (hwr : 0 ≤ s.wr ∧ s.wr ≤ 1000000)
    (hsb : sb < w.heap.size) (hnb : sb ∉ [b, kg, hg]) (hs : ∀ j u, (us l)[j]? = some u → w.cell? ⟨sb, so + j, none⟩ = some u) :
    Calls Try.prog 11 #[.pointer (some ⟨b, 0, none⟩), .int .i64 i, .slice (some ⟨sb, so, none⟩) 32 c] w fun e w' => e = .returned (.int .i64 0) ∧ Dk w' b kg hg n (wrS s i l) ∧ Tn [b, kg, hg] w w' := by
  have C := may_any (i : Int) w h
  rw [show mayE n s.dn (i : Int) = 0 by unfold mayE; rw [hd, if_neg (by decide), if_pos (by omega)]] at C
  have CC := Lib.hid C
  have hsrc := Lib.hid hs
  have H0 := Lib.hid h
  have c2 := h.c2
  have f2 := h.fb 2
  have hn := h.small.2
  have hi' : (i : Int) < n := by omega
  have hlf3 := hlf2.1
  have hlf4 := hlf2.2
  have hwr1 := hwr.1
  have hwr2 := hwr.2
  have dlf0 : (s.lf == 0) = false := by simpa using hlf
  clear h C hs
  go_enter Try.func11, Try.ntmps11
  go_wp2_with fail
  refine CC.out.mono ?_
  rintro e _ ⟨rfl, rfl⟩
  by_cases hm : s.lf = -1
  · have dm : (s.lf == -1) = true := by simpa using hm
    have dm2 : (s.lf != -1) = false := by simpa using hm
    go_upto_region 11 with (fail)
    have H1 : Hid (Dk w b kg hg n s) := H0
    have T1 : Hid (Tn [b, kg, hg] w w) := Lib.hid (Tn.refl _ _)
    have c1 := H1.out.c1
    obtain ⟨q, l0, eh⟩ : ∃ q l2, s.H.getD i (false, []) = (q, l2) := ⟨_, _, rfl⟩
    have hF := (H1.out.ldH hi eh).2.2
    have hf1 := hF.1
    have hf2 := hF.2
    have EH := Lib.hid eh
    clear eh hF
    go_upto_region 12 with (fail)
    refine Rd.name_world ?_
    intro X2 hw2
    have H2 : Hid (Dk X2 b kg hg n ((s).setH i true l0)) := Lib.hid (by rw [hw2]; exact H1.out.stI hi EH.out)
    have T2 : Hid (Tn [b, kg, hg] w X2) := Lib.hid (by rw [hw2]; exact T1.out.trans (Tn.set _ _ _ (by simp)))
    have hgl : (((s).setH i true l0).H.getD i (false, [])) = (true, l0) := by
      have hiH : i < s.H.length := by rw [H0.out.hl.1]; exact hi
      show ((s.H.set i (true, l0)).getD i (false, [])) = _
      rw [List.getD_eq_getElem?_getD, List.getElem?_set_self hiH]; rfl
    have hcp := fun ty => cp_held H2.out hi hgl hl (c := c) (fun j u hj => (Tn.cell T2.out hsb hnb (hsrc.out j u hj))) ty
    have hnew := H2.out.setHrow (q := true) (l := l) hi hl
    have c1' := H2.out.c1
    clear hw2 c1 hf1 hf2 H1 T1 hgl
    obtain ⟨X3, hX3⟩ : ∃ x, X2.setRow hg (fl ((((s).setH i true l0).H.set i (true, l)).map hv)).toArray = x := ⟨_, rfl⟩
    have T3 : Hid (Tn [b, kg, hg] w X3) := Lib.hid (by rw [← hX3]; exact T2.out.trans (Tn.row _ _ (by simp)))
    rw [hX3] at hcp hnew
    have H3 := Lib.hid hnew
    have c5 : X3.cell? ⟨b, 5, none⟩ = some (.int .i64 s.wr) := H3.out.c5
    have f5 := H3.out.fb 5
    clear hX3 hnew
    go_wp2_with (at_builtin; refine copy_op rfl (.tmp 51) (.tmp 52) _ _ rfl _ _ rfl rfl (hcp _) ?_)
    go_ret
    refine ⟨rfl, ?_, T3.out.trans (Tn.set _ _ _ (by simp))⟩
    refine H3.out.stHead (s' := wrS s i l) rfl ?_ ?_
    · show s.H.set i (true, l) = (s.H.set i (true, l0)).set i (true, l)
      rw [List.set_set]
    · show _ = #[Value.slice (some ⟨kg, 0, none⟩) n n, .slice (some ⟨hg, 0, none⟩) n n, .int .i64 (if s.lf = -1 then s.lf else s.lf - 1), .int .i64 s.ms, .bool s.dn, .int .i64 (s.wr + 1)]
      rw [if_pos hm]
      rfl
  · have dm : (s.lf == -1) = false := by simpa using hm
    have dm2 : (s.lf != -1) = true := by simpa using hm
    go_upto_region 11 with (fail)
    refine Rd.name_world ?_
    intro X1 hw1
    have H1 : Hid (Dk X1 b kg hg n { s with lf := s.lf - 1 }) := Lib.hid (by rw [hw1]; exact H0.out.stHead rfl rfl rfl)
    have T1 : Hid (Tn [b, kg, hg] w X1) := Lib.hid (by rw [hw1]; exact Tn.set _ _ _ (by simp))
    clear hw1 c2 f2
    have c1 := H1.out.c1
    obtain ⟨q, l0, eh⟩ : ∃ q l2, s.H.getD i (false, []) = (q, l2) := ⟨_, _, rfl⟩
    have hF := (H1.out.ldH hi eh).2.2
    have hf1 := hF.1
    have hf2 := hF.2
    have EH := Lib.hid eh
    clear eh hF
    go_upto_region 12 with (fail)
    refine Rd.name_world ?_
    intro X2 hw2
    have H2 : Hid (Dk X2 b kg hg n ((({ s with lf := s.lf - 1 } : DS)).setH i true l0)) := Lib.hid (by rw [hw2]; exact H1.out.stI hi EH.out)
    have T2 : Hid (Tn [b, kg, hg] w X2) := Lib.hid (by rw [hw2]; exact T1.out.trans (Tn.set _ _ _ (by simp)))
    have hgl : (((({ s with lf := s.lf - 1 } : DS)).setH i true l0).H.getD i (false, [])) = (true, l0) := by
      have hiH : i < s.H.length := by rw [H0.out.hl.1]; exact hi
      show ((s.H.set i (true, l0)).getD i (false, [])) = _
      rw [List.getD_eq_getElem?_getD, List.getElem?_set_self hiH]; rfl
    have hcp := fun ty => cp_held H2.out hi hgl hl (c := c) (fun j u hj => (Tn.cell T2.out hsb hnb (hsrc.out j u hj))) ty
    have hnew := H2.out.setHrow (q := true) (l := l) hi hl
    have c1' := H2.out.c1
    clear hw2 c1 hf1 hf2 H1 T1 hgl
    obtain ⟨X3, hX3⟩ : ∃ x, X2.setRow hg (fl ((((({ s with lf := s.lf - 1 } : DS)).setH i true l0).H.set i (true, l)).map hv)).toArray = x := ⟨_, rfl⟩
    have T3 : Hid (Tn [b, kg, hg] w X3) := Lib.hid (by rw [← hX3]; exact T2.out.trans (Tn.row _ _ (by simp)))
    rw [hX3] at hcp hnew
    have H3 := Lib.hid hnew
    have c5 : X3.cell? ⟨b, 5, none⟩ = some (.int .i64 s.wr) := H3.out.c5
    have f5 := H3.out.fb 5
    clear hX3 hnew
    go_wp2_with (at_builtin; refine copy_op rfl (.tmp 51) (.tmp 52) _ _ rfl _ _ rfl rfl (hcp _) ?_)
    go_ret
    refine ⟨rfl, ?_, T3.out.trans (Tn.set _ _ _ (by simp))⟩
    refine H3.out.stHead (s' := wrS s i l) rfl ?_ ?_
    · show s.H.set i (true, l) = (s.H.set i (true, l0)).set i (true, l)
      rw [List.set_set]
    · show _ = #[Value.slice (some ⟨kg, 0, none⟩) n n, .slice (some ⟨hg, 0, none⟩) n n, .int .i64 (if s.lf = -1 then s.lf else s.lf - 1), .int .i64 s.ms, .bool s.dn, .int .i64 (s.wr + 1)]
      rw [if_neg hm]
      rfl
theorem write_down (i : Nat) (l : List Int) (sb : Option Addr) (c : Nat) (w : World) (h : Dk w b kg hg n s) (hd : s.dn = false) (hi : i < n) (hlf : s.lf = 0) :
    Calls Try.prog 11 #[.pointer (some ⟨b, 0, none⟩), .int .i64 i, .slice sb 32 c] w fun e w' => e = .returned (.int .i64 7) ∧ Dk w' b kg hg n { s with dn := true } ∧ Tn [b, kg, hg] w w' := by
  have C := may_any (i : Int) w h
  rw [show mayE n s.dn (i : Int) = 0 by unfold mayE; rw [hd, if_neg (by decide), if_pos (by omega)]] at C
  have CC := Lib.hid C
  have H0 := Lib.hid h
  have c2 := h.c2
  have c4 := h.c4
  have f4 := h.fb 4
  rw [hlf] at c2
  rw [hd] at c4
  clear h C
  go_enter Try.func11, Try.ntmps11
  go_wp2_with fail
  refine CC.out.mono ?_
  rintro e _ ⟨rfl, rfl⟩
  go_wp2
  go_ret
  exact ⟨rfl, H0.out.stHead rfl rfl rfl, Tn.set _ _ _ (by simp)⟩
end Go.Proofs.Ytajoajblmaopjaa.DkB

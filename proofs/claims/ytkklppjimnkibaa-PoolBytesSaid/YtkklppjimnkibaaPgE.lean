/-
  The iterator over all pages.
-/
import Derived.Test.YtkklppjimnkibaaPgD
namespace Go.Proofs.Ytkklppjimnkibaa.PgE
open Go.RowKit Go.Shelf Rd Go.Proofs.Ytkklppjimnkibaa.Row Mid PgM PgA PgB PgC It PgD
open Go.Proofs.Ytkklppjimnkibaa.Num (ret_int ret_bool)
set_option linter.unusedVariables false
set_option linter.unusedSimpArgs false
set_option maxRecDepth 10000
attribute [local go_sem] Oper.semAt_some
theorem pre_all {n k : Nat} (hk : k ≤ n) {pre : PgM.Row} {x : List Int} (h : pre ++ [x] <+: levelL (2 ^ k) (n - k)) : doneL n k ++ pre ++ [x] <+: doneL n (n + 1) := by
  have h1 : doneL n k ++ (pre ++ [x]) <+: doneL n (k + 1) := by
    rw [doneL_succ]
    exact (List.prefix_append_right_inj _).2 h
  have h2 : ∀ m, k + 1 ≤ m → doneL n (k + 1) <+: doneL n m := by
    intro m hm
    induction m with
    | zero => omega
    | succ m ih =>
      by_cases e : k + 1 = m + 1
      · rw [e]; exact List.prefix_refl _
      · rw [doneL_succ n m]
        exact (ih (by omega)).trans (List.prefix_append _ _)
  rw [List.append_assoc]
  exact h1.trans (h2 (n + 1) (by omega))
theorem pre_done {n k : Nat} (hk : k ≤ n) {pre : PgM.Row} (h : pre <+: levelL (2 ^ k) (n - k)) : doneL n k ++ pre <+: doneL n (n + 1) := by
  have h1 : doneL n k ++ pre <+: doneL n (k + 1) := by
    rw [doneL_succ]
    exact (List.prefix_append_right_inj _).2 h
  have h2 : ∀ m, k + 1 ≤ m → doneL n (k + 1) <+: doneL n m := by
    intro m hm
    induction m with
    | zero => omega
    | succ m ih =>
      by_cases e : k + 1 = m + 1
      · rw [e]; exact List.prefix_refl _
      · rw [doneL_succ n m]
        exact (ih (by omega)).trans (List.prefix_append _ _)
  exact h1.trans (h2 (n + 1) (by omega))
theorem pre_mem {xs pre : PgM.Row} {x : List Int} (h : pre ++ [x] <+: xs) : x ∈ xs := h.subset (by simp)
theorem all_none (d : Int) (b : Nat) (h : depthB d = false) : Seq Try.prog 66 #[.pointer (some ⟨b, 0, none⟩)] encP [] (Box1 b (.int .i64 d)) := by
  intro lo J Jx Own W hJ hJx hM hK hY h0
  refine callsIn_wide.1 (callsIn_of_wp_marks (F := Fence.wide) (n := 0) Try.func66 rfl trivial ?_ rfl)
  simp only [Try.ntmps66, List.size_toArray, List.length_cons, List.length_nil, Nat.reduceAdd, Nat.reduceSub, Array.replicate_succ, Array.replicate_zero, List.push_toArray, List.append_toArray, List.nil_append, List.cons_append]
  have A0 : Has W.heap.size J Own [] [] [] W := ⟨h0, fun p hp => (by cases hp), fun p hp => (by cases hp), Nat.le_refl _⟩
  have A1 := A0.lay hJ hM (.cells #[.func (.yield lo) #[] #[]] 44)
  have c0 := (hK _ _ A1.j).cell
  gi_wp2_with fail
  refine ⟨trivial, rfl, (callsIn_wide.2 (isDepth_any d _)).mono ?_⟩
  rintro e W1 ⟨rfl, hb1⟩
  have A2 := Lib.hid (A1.step hJ hM (grown_of hb1))
  clear A0 A1 hb1 c0 h0
  gi_wp2
  exact ⟨_, results_none rfl _ _ _, ⟨_, rfl⟩, .inl A2.out.j⟩
set_option maxHeartbeats 4000000 in
theorem all_some (n : Nat) (hn : n ≤ 3) (b : Nat) : Seq Try.prog 66 #[.pointer (some ⟨b, 0, none⟩)] encP (doneL n (n + 1)) (Box1 b (.int .i64 n)) := by
  have hd : depthB (n : Int) = true := depth_mk (by omega) (by omega)
  intro lo J Jx Own W hJ hJx hM hK hY h0
  refine callsIn_wide.1 (callsIn_of_wp_marks (F := Fence.wide) (n := 0) Try.func66 rfl trivial ?_ rfl)
  simp only [Try.ntmps66, List.size_toArray, List.length_cons, List.length_nil, Nat.reduceAdd, Nat.reduceSub, Array.replicate_succ, Array.replicate_zero, List.push_toArray, List.append_toArray, List.nil_append, List.cons_append]
  have A0 : Has W.heap.size J Own [] [] [] W := ⟨h0, fun p hp => (by cases hp), fun p hp => (by cases hp), Nat.le_refl _⟩
  have A1 := A0.lay hJ hM (.cells #[.func (.yield lo) #[] #[]] 44)
  have c0 := (hK _ _ A1.j).cell
  gi_wp2_with fail
  refine ⟨trivial, rfl, (callsIn_wide.2 (isDepth_any n _)).mono ?_⟩
  rintro e W1 ⟨rfl, hb1⟩
  have A2 := Lib.hid (A1.step hJ hM (grown_of hb1))
  clear A0 A1 hb1 c0 h0
  have HY := Lib.hid hY
  have HJ := Lib.hid hJ
  have HJx := Lib.hid hJx
  have HM := Lib.hid hM
  have HK := Lib.hid hK
  clear hY hJ hJx hM hK
  have c1 := (HK.out _ _ A2.out.j).cell
  gi_wp2_with fail
  clear c1
  refine wpIn_loop (fun a' X => ∃ (k : Nat) (Ds : List Nat) (u9 u10 u11 u12 u13 u14 u15 : Value), k ≤ n + 1 ∧ Ds.Nodup ∧ Hid (Has W.heap.size J Own [(W.heap.size, .cells #[.func (.yield lo) #[] #[]] 44)] Ds (doneL n k) X) ∧
    a' = { tmps := #[.func (.yield lo) #[] #[], .pointer (some ⟨b, 0, none⟩), .pointer (some ⟨W.heap.size, 0, none⟩), .int .i64 ((n : Int) - k), undef, .int .i64 n, .bool true, .bool false, .int .i64 n, u9, u10, u11, u12, u13, u14, u15, undef, undef, undef, undef, undef], defers := Ds.map mk })
    (fun a' _ => (intOf (a'.tmps.getD 3 undef) + 1).toNat) ?_ ?_
  · exact ⟨0, [], undef, undef, undef, undef, undef, undef, undef, by omega, List.nodup_nil, A2, by simp⟩
  rintro a' X ⟨k, Ds, u9, u10, u11, u12, u13, u14, u15, hk, hnd, HA, rfl⟩
  by_cases hkn : k ≤ n
  · have hl : (n : Int) - k = ((n - k : Nat) : Int) := by omega
    have hge : (0 : Int) ≤ ((n - k : Nat) : Int) := by omega
    rw [hl]
    obtain ⟨l, el⟩ : ∃ l : Nat, n - k = l := ⟨_, rfl⟩
    rw [el] at hge ⊢
    have EL := Lib.hid el
    have HKN := Lib.hid hkn
    have HHL := Lib.hid hl
    have hl3 : l ≤ 3 := by omega
    clear el hkn hl
    have c1 := (HK.out _ _ HA.out.j).cell
    gi_wp2_with fail
    refine ⟨trivial, rfl, (callsIn_wide.2 (level_any n l _)).mono ?_⟩
    rintro e X0 ⟨rfl, hX0⟩
    have B1 := HA.out.lay HJ.out HM.out (.cells #[.int .i64 n] 3)
    have B2 := B1.lay HJ.out HM.out (.cells #[.int .i64 l] 3)
    rw [← hX0, World.size_alloc] at B2
    have hs0 : X0.heap.size = X.heap.size + 2 := by rw [hX0]; simp
    have HB := Lib.hid B2
    have hWX := HA.out.size
    have hbs : ∀ p ∈ [(X.heap.size + 1, Obj.cells #[.int .i64 l] 3), (X.heap.size, Obj.cells #[.int .i64 n] 3), (W.heap.size, Obj.cells #[.func (.yield lo) #[] #[]] 44)], p.1 < X0.heap.size := fun p hp => get_lt (HB.out.box p hp).2.1
    have hDs : ∀ D ∈ Ds, D < X0.heap.size := fun D hp => get_lt (HB.out.mark D hp).2
    have HBS := Lib.hid hbs
    have HDS := Lib.hid hDs
    clear B1 B2 hX0 hbs hDs c1
    gi_wp2_with fail
    refine range_seq (gf := 68) (lb := #[.pointer (some ⟨X.heap.size, 0, none⟩), .pointer (some ⟨X.heap.size + 1, 0, none⟩)]) rfl enters_level (level_seq n k X.heap.size (X.heap.size + 1) HKN.out hn) (fun _ => rfl)
      (fun pre Z => Has W.heap.size J Own [(X.heap.size + 1, .cells #[.int .i64 l] 3), (X.heap.size, .cells #[.int .i64 n] 3), (W.heap.size, .cells #[.func (.yield lo) #[] #[]] 44)] Ds (doneL n k ++ pre) Z)
      (fun c pre Z => c = .ret ∧ Jx (doneL n k ++ pre) Z ∧ ∀ D ∈ Ds, W.heap.size ≤ D ∧ Z.heap[D]? = some (.deferred (some [])))
      (fun pre => Own (doneL n k ++ pre)) ?hI ?hIx ?hM ?hK ?h0 ?round ?done ?stop
    case hI => exact Has.own HJ.out HM.out (by omega) _ HBS.out HDS.out
    case hIx =>
      rintro c s Z Y row ⟨h1, h2, h3⟩ hg hr
      refine ⟨h1, HJx.out _ _ _ _ h2 hg (fun r e => ⟨by have := (hr r e).1; omega, (hr r e).2⟩), fun D hp => ⟨(h3 D hp).1, (hg.block _ (get_lt (h3 D hp).2) fun e => ?_).trans (h3 D hp).2⟩⟩
      have := (hr _ e.symm).1
      have := HDS.out D hp
      omega
    case hM => exact ⟨fun s Z q h ho => HM.out.cells _ _ q h.j ho, fun s Z Y row h hg hr => HM.out.back _ _ _ _ h.j hg fun r e => ⟨by have := (hr r e).1; omega, (hr r e).2⟩⟩
    case hK => exact fun s Z h => ⟨(h.box _ (List.mem_cons_of_mem _ (List.mem_cons_self ..))).2.1, by rw [EL.out]; exact (h.box _ (List.mem_cons_self ..)).2.1⟩
    case h0 => rw [List.append_nil]; exact HB.out
    case round =>
      intro l' pre x Z hl' hrec hI hpre
      obtain ⟨x0, x1, x2, rfl⟩ := len3 (three_rows _ _ _ x (pre_mem hpre))
      have HI := Lib.hid hI
      have HPR := Lib.hid (pre_all HKN.out hpre)
      obtain ⟨rr, hrr⟩ := hrec
      have hlz := get_lt hrr
      have HRR := Lib.hid hrr
      clear hI hpre hrr
      simp only [encP, cs, List.map_cons, List.map_nil]
      gi_wp2_with fail
      refine ⟨World.grownBy_alloc _ _ none, fun X2 hg hI2 hl2 => ?_⟩
      have c2 : X2.heap[Z.heap.size]? = some (.cells #[.int .i64 x0, .int .i64 x1, .int .i64 x2] 35) := (hg.block _ (by simp) (fun e => by injection e with e; omega)).trans (World.alloc_heap_new _ _)
      have HI2 := Lib.hid hI2
      have c3 : X2.heap[W.heap.size]? = some (.cells #[.func (.yield lo) #[] #[]] 44) := (hI2.box _ (List.mem_cons_of_mem _ (List.mem_cons_of_mem _ (List.mem_cons_self ..)))).2.1
      obtain ⟨fn, tmps, assign, body, hy, hR⟩ := HY.out (doneL n k ++ pre) [x0, x1, x2] X2 hI2.j HPR.out hI2.size
      simp only [encP, cs, List.map_cons, List.map_nil] at hy
      have d0 : X2.cell? ⟨Z.heap.size, 0, none⟩ = some (.int .i64 x0) := by rw [blk_cell c2]; rfl
      have d1 : X2.cell? ⟨Z.heap.size, 1, none⟩ = some (.int .i64 x1) := by rw [blk_cell c2]; rfl
      have d2 : X2.cell? ⟨Z.heap.size, 2, none⟩ = some (.int .i64 x2) := by rw [blk_cell c2]; rfl
      have c4 : X2.cell? ⟨W.heap.size, 0, none⟩ = some (.func (.yield lo) #[] #[]) := by rw [blk_cell c3]; rfl
      clear hg hI2 hl2 c2 c3
      gi_wp2
      refine ⟨rfl, hR.mono ?_⟩
      rintro e Z2 ⟨hh, (⟨rfl, hj, ho⟩ | ⟨rfl, hj⟩)⟩
      · have A3 := Lib.hid (HI2.out.round HM.out hh hj ho)
        have HH := Lib.hid hh
        have HO := Lib.hid ho
        clear d0 d1 d2 c4 hy hR hh hj ho
        gi_wp2
        refine ⟨HH.out.mono (by rw [hs0]; omega) fun k h => h, ?_, fun q hq hB => ?_⟩
        · show Has _ _ _ _ _ (doneL n k ++ (pre ++ [[x0, x1, x2]])) _
          rw [← List.append_assoc]
          exact A3.out
        exact HO.out q (by rw [List.append_assoc]; exact hq) (by rw [hs0] at hB; omega)
      · have A3 := Lib.hid (HI2.out.marks HM.out hh)
        have HH := Lib.hid hh
        have HX := Lib.hid hj
        clear d0 d1 d2 c4 hy hR hh hj
        gi_wp2
        refine ⟨HH.out.mono (by rw [hs0]; omega) fun k h => h, rfl, ?_, A3.out⟩
        show Jx (doneL n k ++ (pre ++ [[x0, x1, x2]])) _
        rw [← List.append_assoc]
        exact HX.out
    case done =>
      intro D Z hD hI hdef
      have hnd' : (D :: Ds).Nodup := List.nodup_cons.2 ⟨fun h => by have := HDS.out D h; omega, hnd⟩
      have A4 : Has W.heap.size J Own [(W.heap.size, .cells #[.func (.yield lo) #[] #[]] 44)] (D :: Ds) (doneL n (k + 1)) Z := by
        refine ⟨by rw [doneL_succ]; exact hI.j, fun p hp => by rw [doneL_succ]; exact hI.box p (List.mem_cons_of_mem _ (List.mem_cons_of_mem _ hp)), fun D' hp => ?_, hI.size⟩
        rcases List.mem_cons.1 hp with rfl | hp
        · exact ⟨by rw [hs0] at hD; omega, hdef⟩
        · exact hI.mark D' hp
      have HA4 := Lib.hid A4
      clear A4 hI hdef
      gi_wp2_with fail
      have e : (l : Int) - 1 = (n : Int) - ((k + 1 : Nat) : Int) := by have := EL.out; have := HKN.out; omega
      refine ⟨⟨k + 1, D :: Ds, ?u9, ?u10, ?u11, ?u12, ?u13, ?u14, ?u15, Nat.succ_le_succ HKN.out, hnd', HA4, ?eq⟩, ?m⟩
      case eq =>
        rw [← e]
        rfl
      case m =>
        show ((l : Int) - 1 + 1).toNat < ((l : Int) + 1).toNat
        omega
    case stop =>
      intro D c pre Z hD hpre hx hdef
      obtain ⟨rfl, hjx, hm⟩ := hx
      have hnd' : (D :: Ds).Nodup := List.nodup_cons.2 ⟨fun h => by have := HDS.out D h; omega, hnd⟩
      have HP := Lib.hid (pre_done HKN.out hpre)
      clear hpre
      gi_wp2_with fail
      refine leaves_marks (B := W.heap.size) (fun Y => Jx (doneL n k ++ pre) Y) (fun E Y hE hY he => HJx.out.putObj _ hY hE he rfl) (fun Y hY => ⟨_, results_none rfl _ _ _, ⟨_, rfl⟩, .inr ⟨_, HP.out, hY⟩⟩) (D :: Ds) hnd' Z hjx fun E hp => ?_
      rcases List.mem_cons.1 hp with rfl | hp
      · exact ⟨by rw [hs0] at hD; omega, hdef⟩
      · exact hm E hp
  · obtain rfl : k = n + 1 := by omega
    have hneg : ¬ (0 : Int) ≤ (n : Int) - ((n + 1 : Nat) : Int) := by omega
    gi_wp2_with fail
    exact leaves_marks (B := W.heap.size) (fun Y => J (doneL n (n + 1)) Y) (fun E Y hE hY he => HJ.out.putObj _ hY hE he rfl) (fun Y hY => ⟨_, results_none rfl _ _ _, ⟨_, rfl⟩, .inl hY⟩) Ds hnd X HA.out.j HA.out.mark
theorem all_seq (d : Int) (b : Nat) : Seq Try.prog 66 #[.pointer (some ⟨b, 0, none⟩)] encP (allV d) (Box1 b (.int .i64 d)) := by
  by_cases h : depthB d = true
  · have hd := depth_yes h
    obtain ⟨n, rfl⟩ : ∃ n : Nat, d = n := ⟨d.toNat, by omega⟩
    rw [show allV (n : Int) = doneL n (n + 1) by unfold allV; rw [h]; rfl]
    exact all_some n (by omega) b
  · have h' : depthB d = false := by simpa using h
    rw [show allV d = [] by unfold allV; rw [h']; rfl]
    exact all_none d b h'
end Go.Proofs.Ytkklppjimnkibaa.PgE

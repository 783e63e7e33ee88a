/-
  slices.Insert of one want, in a row of one's own.
-/
import Derived.Test.YtpbdgkjlmijipaaQuB
import Derived.Maps.AppendAt
namespace Go.Proofs.Ytpbdgkjlmijipaa.QuC
open Go.RowKit Rd Go.Proofs.Ytpbdgkjlmijipaa.Row PgM PgC QuA QuB
set_option linter.unusedVariables false
set_option linter.unusedSimpArgs false
set_option maxRecDepth 10000
theorem zeros4 (k : Nat) : (Builtin.zeroCells (Value.agg #[.int .i64 0, .int .i64 0, .int .i64 0, .int .i64 0]).cells k).size = k * 4 := by
  rw [size_zeroCells]
  rfl
theorem ov_two (a b x s r : List Value) (c : Array Value) (o q : Nat) (hc : c.toList = a ++ b ++ r) (ho : a.length = o) (hq : o + x.length = q) (hb : b.length = x.length + s.length) :
    ov (ov c q s) o x = (a ++ (x ++ s) ++ r).toArray := by
  unfold ov
  rw [hc]
  have e1 : (a ++ b ++ r).take q = a ++ b.take x.length := by
    rw [List.append_assoc, ← hq, ← ho, List.take_length_add_append, List.take_append_of_le_length (by omega)]
  have e2 : (a ++ b ++ r).drop (q + s.length) = r := by
    rw [show q + s.length = (a ++ b).length by rw [List.length_append]; omega, List.drop_left]
  rw [e1, e2]
  congr 1
  have e3 : (a ++ b.take x.length ++ s ++ r).take o = a := by rw [List.append_assoc, List.append_assoc, ← ho, List.take_left]
  have e4 : (a ++ b.take x.length ++ s ++ r).drop (o + x.length) = s ++ r := by
    have : (a ++ b.take x.length).length = o + x.length := by rw [List.length_append, List.length_take]; omega
    rw [← this, List.append_assoc, List.drop_left]
  show (a ++ b.take x.length ++ s ++ r).take o ++ x ++ (a ++ b.take x.length ++ s ++ r).drop (o + x.length) = _
  rw [e3, e4]
  simp [List.append_assoc]
theorem ov_two' (a b x s r : List Value) (c : Array Value) (o q : Nat) (hc : c.toList = a ++ b ++ r) (ho : a.length = o) (hq : o + x.length = q) (hb : b.length = x.length + s.length) :
    ov (ov c o x) q s = (a ++ (x ++ s) ++ r).toArray := by
  unfold ov
  rw [hc]
  have e1 : (a ++ b ++ r).take o = a := by rw [List.append_assoc, ← ho, List.take_left]
  have e2 : (a ++ b ++ r).drop (o + x.length) = b.drop x.length ++ r := by
    rw [List.append_assoc, ← ho, List.drop_length_add_append, List.drop_append_of_le_length (by omega)]
  rw [e1, e2]
  congr 1
  have ax : (a ++ x).length = q := by rw [List.length_append]; omega
  have e3 : (a ++ x ++ (b.drop x.length ++ r)).take q = a ++ x := by rw [← ax, List.take_left]
  have e4 : (a ++ x ++ (b.drop x.length ++ r)).drop (q + s.length) = r := by
    rw [← ax, List.drop_length_add_append, show s.length = (b.drop x.length).length by rw [List.length_drop]; omega, List.drop_left]
  show (a ++ x ++ (b.drop x.length ++ r)).take q ++ s ++ (a ++ x ++ (b.drop x.length ++ r)).drop (q + s.length) = _
  rw [e3, e4]
  simp [List.append_assoc]
theorem info_size : (Try.prog.info? 36).map (·.size) = some 4 := by kernel_rfl
theorem size_want (w : World) : (Go.sizeOf 36).run Try.prog w = .ok 4 w := by
  obtain ⟨i0, hi0, hz0, hz1, hz2⟩ := info_parts info_want
  simp [sizeOf, typeInfo, hi0, hz1]
set_option maxHeartbeats 4000000 in
/-- at the end -/
theorem insert_end (base i vb : Nat) (v : Value) (p : PgM.Row) (x : List Int) (w : World) (hi : p.length = i) (hx : x.length = 4) (hp : W4 p) (hn : i ≤ 100000)
    (h : w.ownsRow base 36 4 v i (fl p)) (hv : blk w vb = some (.cells (fl [x]).toArray 36 (0, 0))) (hbase : base ≤ w.heap.size) :
    Calls Try.prog 26 #[v, .int .i64 (i : Int), .slice (some ⟨vb, 0, none⟩) 1 1] w fun e w' =>
      ∃ v', e = .returned v' ∧ w'.ownsRow base 36 4 v' (i + 1) (fl (p ++ [x])) ∧ w.grownBy w' v.ownBlock ∧ (v'.ownBlock = v.ownBlock ∨ v'.ownBlock = some w.heap.size) := by
  obtain ⟨i0, hi0, hz0, hz1, hz2⟩ := info_parts info_want
  have lx : (fl [x]).length = 4 := by rw [fl_one, List.length_map, hx]
  have H := Lib.hid h
  have hc : ∀ j u, (fl [x])[j]? = some u → w.cell? ((⟨vb, 0, none⟩ : Addr).add j) = some u := fun j u hj => by
    rw [Addr.add_mid, Nat.zero_add, blk_cell hv]
    simpa using hj
  have HC := Lib.hid hc
  have hlen : ∃ a c, v = .slice a i c ∧ (i : Int) ≤ (c : Int) ∧ (a = none → i = 0 ∧ c = 0) := by
    rcases h.2 with ⟨rfl, rfl⟩ | ⟨g, c, cur, rfl, h3, h4, h5, h6, h7, h8⟩
    · exact ⟨none, 0, rfl, by omega, fun _ => ⟨rfl, rfl⟩⟩
    · exact ⟨_, c, rfl, by omega, fun e => by cases e⟩
  obtain ⟨a, c, rfl, hic, hnil⟩ := hlen
  clear h hc hi hp hx hv
  go_enter Try.func26, Try.ntmps26
  cases a with
  | none =>
    obtain ⟨rfl, rfl⟩ := hnil rfl
    go_wp2_with (at_builtin; refine wpList_append_own_at _ rfl _ _ 39 rfl base 36 i0 _ 4 32 Try.underlying39 hi0 hz0 hz1 hz2 rfl (by decide) _ _ _ rfl H.out _ 1 1 (fl [x]) rfl lx HC.out (fl_one_cell [x]) (by unfold maxLen; omega) (by omega) hbase ?_)
    intro v' w' h1 h2 h3 h4
    go_wp2
    go_ret
    exact ⟨v', rfl, by rw [fl_app]; exact h1, h2, h4⟩
  | some a =>
    clear hnil
    go_wp2_with (at_builtin; refine wpList_append_own_at _ rfl _ _ 39 rfl base 36 i0 _ 4 32 Try.underlying39 hi0 hz0 hz1 hz2 rfl (by decide) _ _ _ rfl H.out _ 1 1 (fl [x]) rfl lx HC.out (fl_one_cell [x]) (by unfold maxLen; omega) (by omega) hbase ?_)
    all_goals
      intro v' w' h1 h2 h3 h4
      go_wp2
      go_ret
      exact ⟨v', rfl, by rw [fl_app]; exact h1, h2, h4⟩
theorem fl1_len {x : List Int} (hx : x.length = 4) : (fl [x]).length = 4 := by rw [fl_one, List.length_map, hx]
set_option maxHeartbeats 4000000 in
/-- there is room -/
theorem insert_room (base g c i m n vb : Nat) (p s : PgM.Row) (x : List Int) (w : World) (hi : p.length = i) (hm : s.length = m) (hm0 : 0 < m) (hx : x.length = 4) (hp : W4 p) (hs : W4 s) (hn : i + m = n) (hroom : n + 1 ≤ c)
    (h : w.ownsRow base 36 4 (.slice (some ⟨g, 0, none⟩) n c) n (fl (p ++ s))) (hv : blk w vb = some (.cells (fl [x]).toArray 36 (0, 0))) (hne : vb ≠ g) :
    Calls Try.prog 26 #[.slice (some ⟨g, 0, none⟩) n c, .int .i64 (i : Int), .slice (some ⟨vb, 0, none⟩) 1 1] w fun e w' =>
      e = .returned (.slice (some ⟨g, 0, none⟩) (n + 1) c) ∧ w'.ownsRow base 36 4 (.slice (some ⟨g, 0, none⟩) (n + 1) c) (n + 1) (fl (p ++ x :: s)) ∧ w.grownBy w' (some g) := by
  obtain ⟨R, hg, hl, hb, hnc, hc, hR⟩ := own_w h
  obtain ⟨i0, hi0, hz0, hz1, hz2⟩ := info_parts info_want
  unfold maxLen at hc
  have lp : (fl p).length = i * 4 := by rw [fw_len hp, hi]
  have ls : (fl s).length = m * 4 := by rw [fw_len hs, hm]
  have lx := fl1_len hx
  have lR : 4 ≤ R.length := by rw [hR]; omega
  obtain ⟨cur, hcur⟩ : ∃ cur, cur = (fl (p ++ s) ++ R).toArray := ⟨_, rfl⟩
  have hcs : cur.size = c * 4 := by rw [hcur]; simp [fl_app, lp, ls, hR]; omega
  have hcl : cur.toList = fl p ++ (fl s ++ R.take 4) ++ R.drop 4 := by
    rw [hcur]
    simp [fl_app, List.append_assoc]
  have hgd : w.drew.heap[g]? = some (.cells cur 36 (0, 0)) := by rw [hcur]; exact hg
  obtain ⟨W1, hW1⟩ : ∃ W1, W1 = w.drew.setRow g (ov cur ((i + 1) * 4) (fl s)) := ⟨_, rfl⟩
  have hg1 : W1.heap[g]? = some (.cells (ov cur ((i + 1) * 4) (fl s)) 36 (0, 0)) := by rw [hW1]; exact setRow_heap _ g _ _ _ _ hgd
  have hD : (ov cur ((i + 1) * 4) (fl s)).size = c * 4 := by rw [ov_size _ _ _ (by rw [hcs, ls]; omega), hcs]
  have hcp1 : ∀ ty dc sc, (Builtin.copy_ #[39, 39] ty #[.slice (some ⟨g, (i + 1) * 4, none⟩) (n - i) dc, .slice (some ⟨g, i * 4, none⟩) (n + 1 - i) sc]).run Try.prog w.drew = .ok (goInt (Nat.min (n + 1 - i) (n - i))) W1 := fun ty dc sc => by
    rw [hW1]
    exact run_copy_wide (P := Try.prog) w.drew _ _ ty _ i0 g ((i + 1) * 4) _ dc ⟨g, i * 4, none⟩ _ sc cur _ (fl s) Try.underlying39 hi0 hgd (by rw [hz1, ls]; simp only [Nat.min_def]; split <;> omega)
      (fun j v hj => by
        have ht := (List.getElem?_eq_some_iff.1 hj).1
        rw [Addr.add_lit, blk_cell (w := w.drew) hgd, hcur, List.getElem?_toArray, fl_app, List.append_assoc, List.getElem?_append_right (by omega), List.getElem?_append_left (by omega), ← hj]
        congr 1; omega) (by rw [ls, hcs]; omega) (fl_one_cell s)
  obtain ⟨W2, hW2⟩ : ∃ W2, W2 = W1.setRow g (ov (ov cur ((i + 1) * 4) (fl s)) (i * 4) (fl [x])) := ⟨_, rfl⟩
  have hg2 : W2.heap[g]? = some (.cells (ov (ov cur ((i + 1) * 4) (fl s)) (i * 4) (fl [x])) 36 (0, 0)) := by rw [hW2]; exact setRow_heap _ g _ _ _ _ hg1
  have hv1 : W1.heap[vb]? = some (.cells (fl [x]).toArray 36 (0, 0)) := by rw [hW1, setRow_other _ _ _ _ hne]; exact hv
  have hcp2 : ∀ ty dc, (Builtin.copy_ #[39, 39] ty #[.slice (some ⟨g, i * 4, none⟩) (n + 1 - i) dc, .slice (some ⟨vb, 0, none⟩) 1 1]).run Try.prog W1 = .ok (goInt (Nat.min 1 (n + 1 - i))) W2 := fun ty dc => by
    rw [hW2]
    exact run_copy_wide (P := Try.prog) W1 _ _ ty _ i0 g (i * 4) _ dc ⟨vb, 0, none⟩ 1 1 _ _ (fl [x]) Try.underlying39 hi0 hg1 (by rw [hz1, lx]; simp only [Nat.min_def]; split <;> omega)
      (fun j v hj => by rw [Addr.add_lit, blk_cell (w := W1) hv1, Nat.zero_add]; simpa using hj) (by rw [lx, hD]; omega) (fl_one_cell [x])
  have hfin : W2.ownsRow base 36 4 (.slice (some ⟨g, 0, none⟩) (n + 1) c) (n + 1) (fl (p ++ x :: s)) := by
    have e := ov_two (fl p) (fl s ++ R.take 4) (fl [x]) (fl s) (R.drop 4) cur (i * 4) ((i + 1) * 4) hcl lp (by rw [lx]; omega) (by rw [List.length_append, List.length_take, lx]; omega)
    rw [e, ← fl_app, ← fl_app] at hg2
    refine own_mk hg2 ?_ hb (by omega) (by unfold maxLen; omega) (by rw [List.length_drop, hR]; omega)
    show (fl (p ++ ([x] ++ s))).length = _
    rw [fw_len (w4_app hp (w4_app (s := s) (r := [x]) (fun v hv => by rw [List.mem_singleton.1 hv]; exact hx) hs)), List.length_append, List.length_append, List.length_singleton]; omega
  have hgr : w.grownBy W2 (some g) := ⟨by rw [hW2, hW1]; rfl, by rw [hW2, hW1]; rfl, by rw [hW2, hW1]; rfl, by rw [hW2, hW1]; simp [World.setRow], fun k _ hk => by
    rw [hW2, setRow_other _ _ _ _ (fun e => hk (by rw [e])), hW1, setRow_other _ _ _ _ (fun e => hk (by rw [e]))]; rfl⟩
  have hov : ∀ lb cb, (callFunc 34 #[.slice (some ⟨vb, 0, none⟩) 1 1, .slice (some ⟨g, (i + 1) * 4, none⟩) lb cb]).run Try.prog w = .ok (.value (.bool false)) w := fun lb cb => by
    have hsb : w.shape? g = some (36, c * 4) := by
      rw [← hcs]
      have : w.heap[g]? = some (.cells cur 36 (0, 0)) := by rw [hcur]; exact hg
      simp [World.shape?, this]
    have hsa : w.shape? vb = some (36, (fl [x]).toArray.size) := by
      have : w.heap[vb]? = some (.cells (fl [x]).toArray 36 (0, 0)) := hv
      simp [World.shape?, this]
    rw [run_callFunc_extern Try.func34 (by kernel_rfl) (by kernel_rfl) (by kernel_rfl) (e := Extern.SlicesOverlaps.overlaps #[39, 39] #[4]) (by kernel_rfl),
      Lib.run_overlaps_apart w 39 4 36 Try.underlying39 4 size_want ⟨vb, 0, none⟩ ⟨g, (i + 1) * 4, none⟩ 1 1 lb cb hne _ _ _ _ hsa hsb (by omega) (blk_frozen hv _) (blk_frozen hv _)]
    rfl
  have HOV := Lib.hid hov
  have HC1 := Lib.hid hcp1
  have HC2 := Lib.hid hcp2
  have HF := Lib.hid (And.intro hfin hgr)
  clear hov hcp1 hcp2 hfin hgr hW1 hW2 hg1 hg2 hv1 hgd hcs hcl hD hcur hg h hl hR lp ls lx lR hi hm hx hp hs hv hz0 hz1 hz2 hi0
  have hz1 : ¬ ((i : Int) = (n : Int)) := by omega
  have hw1 : IntKind.i64.wrap ((i : Int) + 1) = (i : Int) + 1 := by rw [IntKind.wrap_i64]; omega
  have hw2 : IntKind.i64.wrap ((n : Int) + 1) = (n : Int) + 1 := by rw [IntKind.wrap_i64]; omega
  have hb1 : (0 : Int) ≤ (i : Int) + 1 := by omega
  have hb0 : (0 : Int) ≤ (n : Int) + 1 := by omega
  have hin : i ≤ n := by omega
  have hni : i ≤ n + 1 := by omega
  have htn : ((i : Int) + 1).toNat = i + 1 := by omega
  have htn2 : ((n : Int) + 1).toNat = n + 1 := by omega
  have hb2 : ¬ (c = i + 1) := by omega
  have hb3 : (i : Int) ≤ (n : Int) + 1 := by omega
  have hb4 : ¬ (c = i) := by omega
  have hb5 : ¬ ((c : Int) < (n : Int) + 1) := by omega
  have hb6 : (n : Int) + 1 ≤ (c : Int) := by omega
  have hb7 : (n : Int) ≤ (c : Int) := by omega
  go_enter Try.func26, Try.ntmps26
  have hov := HOV.out
  go_wp2_with (simp only [hov])
  clear hov
  go_region_law (refine step_copy_run rfl _ _ 39 39 rfl (.slice (some ⟨g, (i + 1) * 4, none⟩) (n - i) (c - (i + 1))) (.slice (some ⟨g, i * 4, none⟩) (n + 1 - i) (c - i)) (by simp [Act.eval, Act.put]) (by simp [Act.eval, Act.put]) (HC1.out _ _ _) ?_)
  have hc2 := HC2.out
  go_wp2
  go_ret
  exact ⟨rfl, HF.out⟩
set_option maxHeartbeats 4000000 in
/-- there is no room -/
theorem insert_grow (base g c i m n vb : Nat) (p s : PgM.Row) (x : List Int) (w : World) (hi : p.length = i) (hm : s.length = m) (hm0 : 0 < m) (hx : x.length = 4) (hp : W4 p) (hs : W4 s) (hn : i + m = n) (hsm : n ≤ 100000) (hroom : c < n + 1)
    (h : w.ownsRow base 36 4 (.slice (some ⟨g, 0, none⟩) n c) n (fl (p ++ s))) (hv : blk w vb = some (.cells (fl [x]).toArray 36 (0, 0))) (hne : vb ≠ g) (hbase : base ≤ w.heap.size) :
    Calls Try.prog 26 #[.slice (some ⟨g, 0, none⟩) n c, .int .i64 (i : Int), .slice (some ⟨vb, 0, none⟩) 1 1] w fun e w' =>
      ∃ G, e = .returned (.slice (some ⟨w.heap.size, 0, none⟩) (n + 1) G) ∧ w'.ownsRow base 36 4 (.slice (some ⟨w.heap.size, 0, none⟩) (n + 1) G) (n + 1) (fl (p ++ x :: s)) ∧ w.grownBy w' none := by
  obtain ⟨R, hg, hl, hb, hnc, hc, hR⟩ := own_w h
  obtain ⟨i0, hi0, hz0, hz1, hz2⟩ := info_parts info_want
  have lp : (fl p).length = i * 4 := by rw [fw_len hp, hi]
  have ls : (fl s).length = m * 4 := by rw [fw_len hs, hm]
  have lx := fl1_len hx
  obtain rfl : c = n := by omega
  have hR0 : R = [] := List.eq_nil_of_length_eq_zero (by rw [hR]; omega)
  subst hR0
  rw [List.append_nil] at hg
  have hgl := blk_lt hg
  have hvl := blk_lt hv
  have hcell : ∀ (j : Nat) v, (fl (p ++ s))[j]? = some v → w.cell? ⟨g, j, none⟩ = some v := fun j v hj => by rw [blk_cell hg]; simpa using hj
  have hold : (Builtin.firstCells i0.size i (.slice (some ⟨g, 0, none⟩) i c)).run Try.prog w.drew = .ok (fl p).toArray w.drew := by
    rw [hz1]
    exact run_firstCells_some w.drew 4 i ⟨g, 0, none⟩ i c (fl p) (by rw [lp]) (fun j v hj => by
      rw [Addr.add_lit, Nat.zero_add]
      exact hcell j v (by rw [fl_app, List.getElem?_append_left (List.getElem?_eq_some_iff.1 hj).1]; exact hj))
  have hrz : ∀ ty, (Builtin.append_ #[39, 3] ty #[.slice (some ⟨g, 0, none⟩) i c, .int .i64 ((c : Int) + 1 - (i : Int))]).run Try.prog w =
      .ok (.slice (some ⟨w.heap.size, 0, none⟩) (c + 1) (grownCap w (c + 1) c 36)) (w.drew.alloc (.cells ((fl p).toArray ++ Builtin.zeroCells (Value.agg #[.int .i64 0, .int .i64 0, .int .i64 0, .int .i64 0]).cells (m + 1) ++ Builtin.zeroCells (Value.agg #[.int .i64 0, .int .i64 0, .int .i64 0, .int .i64 0]).cells (grownCap w (c + 1) c 36 - (c + 1))) 36)) := fun ty => by
    have h := Lib.run_append_grow_zeros (P := Try.prog) w 39 3 ty 36 i0 _ .i64 .i64 Try.underlying39 Try.underlying3 hi0 hz0 (some ⟨g, 0, none⟩) i c (fl p) hold (m + 1) (by omega) (by omega) (by omega) (by omega) (by rw [hz2]; omega) (by rw [hz2]; exact growslice_fits (by omega) (by omega))
    rw [show i + (m + 1) = c + 1 by omega, show ((m + 1 : Nat) : Int) = (c : Int) + 1 - (i : Int) by omega] at h
    exact h
  have hGn : c + 1 ≤ grownCap w (c + 1) c 36 := grownCap_ge w _ _ _
  have hG63 := grownCap_le_maxLen w (c + 1) c 36 (by unfold maxLen; omega)
  obtain ⟨G, hG⟩ : ∃ G, G = grownCap w (c + 1) c 36 := ⟨_, rfl⟩
  rw [← hG] at hrz hGn hG63
  clear hG
  unfold maxLen at hG63
  obtain ⟨Z1, hZ1⟩ : ∃ Z1 : List Value, Z1 = (Builtin.zeroCells (Value.agg #[.int .i64 0, .int .i64 0, .int .i64 0, .int .i64 0]).cells (m + 1)).toList := ⟨_, rfl⟩
  obtain ⟨Z2, hZ2⟩ : ∃ Z2 : List Value, Z2 = (Builtin.zeroCells (Value.agg #[.int .i64 0, .int .i64 0, .int .i64 0, .int .i64 0]).cells (G - (c + 1))).toList := ⟨_, rfl⟩
  have lZ1 : Z1.length = (m + 1) * 4 := by rw [hZ1, Array.length_toList, zeros4]
  have lZ2 : Z2.length = (G - (c + 1)) * 4 := by rw [hZ2, Array.length_toList, zeros4]
  obtain ⟨ROW, hROW⟩ : ∃ ROW : Array Value, ROW = (fl p).toArray ++ Builtin.zeroCells (Value.agg #[.int .i64 0, .int .i64 0, .int .i64 0, .int .i64 0]).cells (m + 1) ++ Builtin.zeroCells (Value.agg #[.int .i64 0, .int .i64 0, .int .i64 0, .int .i64 0]).cells (G - (c + 1)) := ⟨_, rfl⟩
  rw [← hROW] at hrz
  have hcl : ROW.toList = fl p ++ Z1 ++ Z2 := by rw [hROW, hZ1, hZ2]; simp
  have hcs : ROW.size = G * 4 := by rw [← Array.length_toList, hcl, List.length_append, List.length_append, lp, lZ1, lZ2]; omega
  clear hROW hZ1 hZ2
  obtain ⟨N, hN⟩ : ∃ N, N = w.heap.size := ⟨_, rfl⟩
  rw [← hN] at hrz
  obtain ⟨W1, hW1⟩ : ∃ W1, W1 = w.drew.alloc (.cells ROW 36) := ⟨_, rfl⟩
  rw [← hW1] at hrz
  have hg1 : W1.heap[N]? = some (.cells ROW 36 (0, 0)) := by rw [hW1, hN]; exact heap_alloc_new w.drew _
  have hkeep : ∀ k, k < w.heap.size → W1.heap[k]? = w.heap[k]? := fun k hk => by rw [hW1]; exact heap_alloc_old w.drew _ hk
  obtain ⟨W2, hW2⟩ : ∃ W2, W2 = W1.setRow N (ov ROW (i * 4) (fl [x])) := ⟨_, rfl⟩
  have hg2 : W2.heap[N]? = some (.cells (ov ROW (i * 4) (fl [x])) 36 (0, 0)) := by rw [hW2]; exact setRow_heap _ N _ _ _ _ hg1
  have hD : (ov ROW (i * 4) (fl [x])).size = G * 4 := by rw [ov_size _ _ _ (by rw [hcs, lx]; omega), hcs]
  have hcp1 : ∀ ty dc, (Builtin.copy_ #[39, 39] ty #[.slice (some ⟨N, i * 4, none⟩) (c + 1 - i) dc, .slice (some ⟨vb, 0, none⟩) 1 1]).run Try.prog W1 = .ok (goInt (Nat.min 1 (c + 1 - i))) W2 := fun ty dc => by
    rw [hW2]
    have hv1 : W1.heap[vb]? = some (.cells (fl [x]).toArray 36 (0, 0)) := (hkeep _ hvl).trans hv
    exact run_copy_wide (P := Try.prog) W1 _ _ ty _ i0 N (i * 4) _ dc ⟨vb, 0, none⟩ 1 1 _ _ (fl [x]) Try.underlying39 hi0 hg1 (by rw [hz1, lx]; simp only [Nat.min_def]; split <;> omega)
      (fun j v hj => by rw [Addr.add_lit, blk_cell (w := W1) hv1, Nat.zero_add]; simpa using hj) (by rw [lx, hcs]; omega) (fl_one_cell [x])
  obtain ⟨W3, hW3⟩ : ∃ W3, W3 = W2.drew.setRow N (ov (ov ROW (i * 4) (fl [x])) ((i + 1) * 4) (fl s)) := ⟨_, rfl⟩
  have hg3 : W3.heap[N]? = some (.cells (ov (ov ROW (i * 4) (fl [x])) ((i + 1) * 4) (fl s)) 36 (0, 0)) := by rw [hW3]; exact setRow_heap W2.drew N _ _ _ _ hg2
  have hcp2 : ∀ ty dc sc, (Builtin.copy_ #[39, 39] ty #[.slice (some ⟨N, (i + 1) * 4, none⟩) (c - i) dc, .slice (some ⟨g, i * 4, none⟩) (c - i) sc]).run Try.prog W2.drew = .ok (goInt (Nat.min (c - i) (c - i))) W3 := fun ty dc sc => by
    rw [hW3]
    have hgg : W2.drew.heap[g]? = some (.cells (fl (p ++ s)).toArray 36 (0, 0)) := by
      show W2.heap[g]? = _
      rw [hW2, setRow_other _ _ _ _ (by omega)]
      exact (hkeep _ hgl).trans hg
    exact run_copy_wide (P := Try.prog) W2.drew _ _ ty _ i0 N ((i + 1) * 4) _ dc ⟨g, i * 4, none⟩ _ sc _ _ (fl s) Try.underlying39 hi0 hg2 (by rw [hz1, ls]; simp only [Nat.min_def]; split <;> omega)
      (fun j v hj => by
        have ht := (List.getElem?_eq_some_iff.1 hj).1
        rw [Addr.add_lit, blk_cell (w := W2.drew) hgg, List.getElem?_toArray, fl_app, List.getElem?_append_right (by omega), ← hj]
        congr 1; omega) (by rw [ls, hD]; omega) (fl_one_cell s)
  have hfin : W3.ownsRow base 36 4 (.slice (some ⟨N, 0, none⟩) (c + 1) G) (c + 1) (fl (p ++ x :: s)) := by
    have e := ov_two' (fl p) Z1 (fl [x]) (fl s) Z2 ROW (i * 4) ((i + 1) * 4) hcl lp (by rw [lx]; omega) (by rw [lZ1, lx, ls]; omega)
    rw [e, ← fl_app, ← fl_app] at hg3
    refine own_mk hg3 ?_ (by omega) hGn (by unfold maxLen; omega) lZ2
    show (fl (p ++ ([x] ++ s))).length = _
    rw [fw_len (w4_app hp (w4_app (s := s) (r := [x]) (fun v hv => by rw [List.mem_singleton.1 hv]; exact hx) hs)), List.length_append, List.length_append, List.length_singleton]; omega
  have hgr : w.grownBy W3 none := ⟨by rw [hW3, hW2, hW1]; rfl, by rw [hW3, hW2, hW1]; rfl, by rw [hW3, hW2, hW1]; rfl, by rw [hW3, hW2, hW1]; simp [World.setRow], fun k hk _ => by
    rw [hW3, setRow_other _ _ _ _ (by omega)]
    show W2.heap[k]? = _
    rw [hW2, setRow_other _ _ _ _ (by omega)]
    exact hkeep k hk⟩
  have HRZ := Lib.hid hrz
  have HC1 := Lib.hid hcp1
  have HC2 := Lib.hid hcp2
  have HF := Lib.hid (And.intro hfin hgr)
  rw [← hN]
  clear hrz hold hcell hcp1 hcp2 hfin hgr hW1 hW2 hW3 hg1 hg2 hg3 hkeep hcs hcl hD hg h hl hR lp ls lx hi hm hx hp hs hv hz0 hz1 hz2 hi0 hb hbase hgl hvl lZ1 lZ2 hN hne
  have hz1 : ¬ ((i : Int) = (c : Int)) := by omega
  have hw1 : IntKind.i64.wrap ((i : Int) + 1) = (i : Int) + 1 := by rw [IntKind.wrap_i64]; omega
  have hw2 : IntKind.i64.wrap ((c : Int) + 1) = (c : Int) + 1 := by rw [IntKind.wrap_i64]; omega
  have hw3 : IntKind.i64.wrap ((c : Int) + 1 - (i : Int)) = (c : Int) + 1 - (i : Int) := by rw [IntKind.wrap_i64]; omega
  have hb1 : (0 : Int) ≤ (i : Int) + 1 := by omega
  have hin : i ≤ c := by omega
  have hni : i ≤ c + 1 := by omega
  have htn : ((i : Int) + 1).toNat = i + 1 := by omega
  have hb2 : ¬ (G = i + 1) := by omega
  have hb3 : (i : Int) ≤ (c : Int) + 1 := by omega
  have hb4 : ¬ (c = i) := by omega
  have hb5 : ¬ (G = i) := by omega
  have hb7 : (c : Int) ≤ (G : Int) := by omega
  have hb8 : (c : Int) + 1 ≤ (G : Int) := by omega
  have hb9 : (i : Int) ≤ (c : Int) := by omega
  go_enter Try.func26, Try.ntmps26
  have hr := HRZ.out
  have hc1 := HC1.out
  go_wp2_with (at_builtin; refine Lib.wpList_append_run _ rfl _ _ _ _ rfl _ _ rfl rfl _ _ (hr _) ?_)
  clear hr
  go_region_law (refine step_copy_run rfl _ _ 39 39 rfl (.slice (some ⟨N, (i + 1) * 4, none⟩) (c - i) (G - (i + 1))) (.slice (some ⟨g, i * 4, none⟩) (c - i) (c - i)) (by simp [Act.eval, Act.put]) (by simp [Act.eval, Act.put]) (HC2.out _ _ _) ?_)
  go_wp2
  go_ret
  exact ⟨G, rfl, HF.out⟩
end Go.Proofs.Ytpbdgkjlmijipaa.QuC

/-
  slices.Delete of one want.
-/
import Derived.Test.YtpbdgkjlmijipaaQuA
import Derived.BigGuard
namespace Go.Proofs.Ytpbdgkjlmijipaa.QuB
open Go.RowKit Rd Go.Proofs.Ytpbdgkjlmijipaa.Row PgM PgC QuA
set_option linter.unusedVariables false
set_option linter.unusedSimpArgs false
set_option maxRecDepth 10000
def z4 : List Value := [.int .i64 0, .int .i64 0, .int .i64 0, .int .i64 0]
theorem zero4 : (Builtin.zeroCells (Value.cells (.agg #[.int .i64 0, .int .i64 0, .int .i64 0, .int .i64 0])) 1).toList = z4 := by kernel_rfl
set_option maxHeartbeats 4000000 in
theorem delete_any (base g c i m n j : Nat) (p s : PgM.Row) (x : List Int) (w : World) (hi : p.length = i) (hm : s.length = m) (hx : x.length = 4) (hp : W4 p) (hs : W4 s) (hn : i + 1 + m = n) (hj : i + 1 = j)
    (h : w.ownsRow base 36 4 (.slice (some ⟨g, 0, none⟩) n c) n (fl (p ++ x :: s))) :
    Calls Try.prog 23 #[.slice (some ⟨g, 0, none⟩) n c, .int .i64 (i : Int), .int .i64 (j : Int)] w fun e w' =>
      e = .returned (.slice (some ⟨g, 0, none⟩) (i + m) c) ∧ w'.ownsRow base 36 4 (.slice (some ⟨g, 0, none⟩) (i + m) c) (i + m) (fl (p ++ s)) ∧ w.grownBy w' (some g) := by
  obtain ⟨R, hg, hl, hb, hnc, hc, hR⟩ := own_w h
  obtain ⟨i0, hi0, hz0, hz1, hz2⟩ := info_parts info_want
  unfold maxLen at hc
  have lp : (fl p).length = i * 4 := by rw [fw_len hp, hi]
  have ls : (fl s).length = m * 4 := by rw [fw_len hs, hm]
  have e1 : fl (p ++ x :: s) = fl p ++ (fl [x] ++ fl s) := by rw [fl_app, show x :: s = [x] ++ s from rfl, fl_app]
  have lx : (fl [x]).length = 4 := by rw [fl_one, List.length_map, hx]
  rw [e1] at hg
  obtain ⟨cur, hcur⟩ : ∃ cur, cur = (fl p ++ (fl [x] ++ fl s) ++ R).toArray := ⟨_, rfl⟩
  have hcs : cur.size = c * 4 := by rw [hcur]; simp [lp, lx, ls, hR]; omega
  -- the row behind the append
  obtain ⟨W1, hW1⟩ : ∃ W1, W1 = w.drew.setRow g (ov cur (i * 4) (fl s)) := ⟨_, rfl⟩
  have hgd : w.drew.heap[g]? = some (.cells cur 36 (0, 0)) := by rw [hcur]; exact hg
  have hg1 : W1.heap[g]? = some (.cells (ov cur (i * 4) (fl s)) 36 (0, 0)) := by rw [hW1]; exact setRow_heap _ g _ _ _ _ hgd
  have hA : ∀ (A : Addr), (c ≠ j → A = ⟨g, j * 4, none⟩) → ∀ ty k, (Builtin.append_ #[39, 39] ty #[.slice (some ⟨g, 0, none⟩) i c, .slice (some A) m k]).run Try.prog w.drew = .ok (.slice (some ⟨g, 0, none⟩) (i + m) c) W1 := fun A hA ty k => by
    have hr := run_append_room (P := Try.prog) w.drew 39 ty 36 i0 Try.underlying39 hi0 g i c cur hgd A m k (fl s) (by rw [hz1]; exact ls) (fun t u hu => by
      have ht := (List.getElem?_eq_some_iff.1 hu).1
      rw [hA (by omega), Addr.add_lit]
      show World.cell? _ _ = _
      have : w.drew.cell? ⟨g, j * 4 + t, none⟩ = cur[j * 4 + t]? := by
        have := blk_cell (w := w.drew) hgd (i := j * 4 + t)
        exact this
      rw [this, hcur, List.getElem?_toArray, List.append_assoc, List.getElem?_append_right (by omega), List.append_assoc, List.getElem?_append_right (by omega), List.getElem?_append_left (by omega)]
      rw [← hu]; congr 1; omega) (fl_one_cell s) (by omega) (by rw [hz1, ls, hcs]; omega)
    rw [hr, hz1, hW1]
    rfl
  have hD : (ov cur (i * 4) (fl s)).size = c * 4 := by rw [ov_size _ _ _ (by rw [hcs, ls]; omega), hcs]
  obtain ⟨W2, hW2⟩ : ∃ W2, W2 = W1.setRow g (ov (ov cur (i * 4) (fl s)) ((i + m) * 4) z4) := ⟨_, rfl⟩
  have hg2 : W2.heap[g]? = some (.cells (ov (ov cur (i * 4) (fl s)) ((i + m) * 4) z4) 36 (0, 0)) := by rw [hW2]; exact setRow_heap _ g _ _ _ _ hg1
  have hcl : ∀ ty k, (Builtin.clear_ #[39] ty #[.slice (some ⟨g, (i + m) * 4, none⟩) 1 k]).run Try.prog W1 = .ok (.tuple #[]) W2 := fun ty k => by
    have hr := run_clear_wide (P := Try.prog) W1 39 36 ty _ Try.underlying39 zero_want g ((i + m) * 4) 1 k _ _ hg1 (by omega) (by rw [hD]; show (i + m) * 4 + 1 * 4 ≤ c * 4; omega) (fun v hv => by
      rw [zero4] at hv
      simp [z4] at hv
      subst hv; rfl)
    rw [hr, zero4, hW2]
  have hfin : W2.ownsRow base 36 4 (.slice (some ⟨g, 0, none⟩) (i + m) c) (i + m) (fl (p ++ s)) := by
    obtain ⟨D, hD2, hDl⟩ : ∃ D, (ov (ov cur (i * 4) (fl s)) ((i + m) * 4) z4) = (fl (p ++ s) ++ D).toArray ∧ D.length = (c - (i + m)) * 4 := by
      refine ⟨z4 ++ (fl p ++ (fl [x] ++ fl s) ++ R).drop ((i + m) * 4 + 4), ?_, ?_⟩
      · have q1 : (ov cur (i * 4) (fl s)).toList = fl p ++ fl s ++ (fl p ++ (fl [x] ++ fl s) ++ R).drop ((i + m) * 4) := by
          unfold ov
          rw [hcur]
          simp only [List.toList_toArray]
          rw [show (fl p ++ (fl [x] ++ fl s) ++ R).take (i * 4) = fl p by rw [← lp, List.append_assoc]; exact List.take_left, ls, show i * 4 + m * 4 = (i + m) * 4 by omega]
        have lps : (fl p ++ fl s).length = (i + m) * 4 := by rw [List.length_append, lp, ls]; omega
        unfold ov
        rw [show ((cur.toList.take (i * 4) ++ fl s ++ cur.toList.drop (i * 4 + (fl s).length)).toArray).toList = (ov cur (i * 4) (fl s)).toList from rfl, q1, fl_app]
        congr 1
        rw [← lps, List.take_left, show z4.length = 4 from rfl, ← List.drop_drop, List.drop_left, List.drop_drop, List.append_assoc]
      · simp [z4, lp, lx, ls, hR]; omega
    rw [hD2] at hg2
    exact own_mk hg2 (by rw [fl_app, List.length_append, lp, ls]; omega) hb (by omega) (by unfold maxLen; omega) hDl
  have hgr : w.grownBy W2 (some g) := ⟨by rw [hW2, hW1]; rfl, by rw [hW2, hW1]; rfl, by rw [hW2, hW1]; rfl, by rw [hW2, hW1]; simp [World.setRow], fun k _ hk => by
    rw [hW2, setRow_other _ _ _ _ (fun e => hk (by rw [e])), hW1, setRow_other _ _ _ _ (fun e => hk (by rw [e]))]; rfl⟩
  have HA := Lib.hid hA
  have HCL := Lib.hid hcl
  have HF := Lib.hid (And.intro hfin hgr)
  clear hA hcl hfin hgr hW1 hW2 hg1 hg2 hgd hcs hD hcur hg h hl hR lp ls lx e1 hb hi hm hx hp hs
  have k1 : (i : Int) ≤ (j : Int) := by omega
  have k2 : (j : Int) ≤ (n : Int) := by omega
  have k3 : ¬ (i : Int) = (j : Int) := by omega
  go_enter Try.func23, Try.ntmps23
  obtain rfl : m = n - j := by omega
  have hle : i ≤ c := by omega
  have hle2 : j ≤ c := by omega
  have hnc' : (n : Int) ≤ (c : Int) := by omega
  have hone : n - (i + (n - j)) = 1 := by omega
  have hne : ¬ c = i + (n - j) := by omega
  have hlt1 : ((i + (n - j) : Nat) : Int) ≤ (n : Int) := by omega
  have hlt2 : ((i : Int) + ((n - j : Nat) : Int)) ≤ (n : Int) := by omega
  go_upto_region 5 with (fail)
  by_cases hcj : c = j
  · subst hcj
    obtain rfl : n = c := by omega
    have hap := fun ty => HA.out ⟨g, 0, none⟩ (fun h => absurd rfl h) ty 0
    rw [Nat.sub_self, Nat.add_zero] at *
    go_region_law (refine step_append_run rfl _ _ 39 39 rfl _ _ (by simp [Act.eval, Act.put]) (by simp [Act.eval, Act.put]) (hap _) ?_)
    have hcl := HCL.out
    go_wp2
    go_ret
    rw [Nat.sub_self, Nat.add_zero]
    exact ⟨rfl, HF.out⟩
  · have hap := fun ty => HA.out ⟨g, j * 4, none⟩ (fun _ => rfl) ty (c - j)
    go_region_law (refine step_append_run rfl _ _ 39 39 rfl _ _ (by simp [Act.eval, Act.put]) (by simp [Act.eval, Act.put]) (hap _) ?_)
    have hcl := HCL.out
    go_wp2
    go_ret
    exact ⟨rfl, HF.out⟩
end Go.Proofs.Ytpbdgkjlmijipaa.QuB

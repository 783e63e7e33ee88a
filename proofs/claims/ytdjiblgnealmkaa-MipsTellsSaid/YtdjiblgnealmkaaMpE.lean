/-
  Build.
-/
import Derived.Test.YtdjiblgnealmkaaMpD
namespace Go.Proofs.Ytdjiblgnealmkaa.MpE
open Go.RowKit Rd Go.Proofs.Ytdjiblgnealmkaa.Row Mid DkM HueA MpM MpA MpB MpC MpD
set_option linter.unusedVariables false
set_option linter.unusedSimpArgs false
set_option maxRecDepth 10000
theorem info_sl : (Try.prog.info? 22).map (fun i => (i.zero, i.size, i.bytes)) = some (some (.slice none 0 0), 1, 24) := by kernel_rfl
theorem own_keep {w w' : World} {base s : Nat} {e : TypeId} {v : Value} {n : Nat} {xs : List Value} (h : w.ownsRow base e s v n xs) (hk : ∀ k, v.ownBlock = some k → w'.heap[k]? = w.heap[k]?) : w'.ownsRow base e s v n xs := by
  refine ⟨h.1, ?_⟩
  rcases h.2 with hn | ⟨g, cap, cur, rfl, hb, hg, rest⟩
  · exact .inl hn
  · exact .inr ⟨g, cap, cur, rfl, hb, by rw [hk g rfl]; exact hg, rest⟩
theorem owns_mono {w : World} {base base' : Nat} {e : TypeId} {size : Nat} {v : Value} {n : Nat} {xs : List Value} (h : w.ownsRow base e size v n xs) (hb : base' ≤ base) : w.ownsRow base' e size v n xs := by
  refine ⟨h.1, ?_⟩
  rcases h.2 with hn | ⟨g, cap, cur, rfl, h2, rest⟩
  · exact .inl hn
  · exact .inr ⟨g, cap, cur, rfl, Nat.le_trans hb h2, rest⟩
theorem own_new (w : World) (u : Value) {base : Nat} {e : TypeId} (hb : base ≤ w.heap.size) : (w.alloc (.cells #[u] e)).ownsRow base e 1 (.slice (some ⟨w.heap.size, 0, none⟩) 1 1) 1 [u] :=
  ⟨rfl, .inr ⟨_, 1, _, rfl, hb, blk_alloc_at _ _ _ rfl, Nat.le_refl _, by decide, rfl, rfl⟩⟩
theorem own_type {w : World} {base s : Nat} {e : TypeId} {v : Value} {n : Nat} {xs : List Value} (h : w.ownsRow base e s v n xs) {k : Nat} (hk : v.ownBlock = some k) : ∃ cur : Array Value, w.heap[k]? = some (Obj.cells cur e (0, 0)) := by
  rcases h.2 with ⟨rfl, _⟩ | ⟨g, cap, cur, rfl, hb, hg, rest⟩
  · cases hk
  · cases hk; exact ⟨cur, hg⟩
/-- the first K levels, each in a row of one's own -/
def LvO (X : World) (B D K : Nat) (ps : List Px) (hs : List Value) : Prop := hs.length = K ∧ ∀ l, l < K → ∃ u, hs[l]? = some u ∧ X.ownsRow B 39 4 u (sd (D - l) * sd (D - l)) (cp (lev ps D l))
/-- a pyramid that is being built -/
structure Bd (X : World) (B b D : Nat) (wr : Bool) (ps : List Px) (K : Nat) (v : Value) : Prop where
  lo : B ≤ b
  head : blk X b = some (.cells #[.int .i64 D, .bool wr, v] 86 (0, 0))
  row : ∃ hs, X.ownsRow B 22 1 v K hs ∧ LvO X B D K ps hs
variable {X Y : World} {B b D K : Nat} {wr : Bool} {ps : List Px} {v : Value}
theorem LvO.keep {hs : List Value} (h : LvO X B D K ps hs) (hk : ∀ (k : Nat) (cur : Array Value), X.heap[k]? = some (Obj.cells cur 39 (0, 0)) → Y.heap[k]? = X.heap[k]?) : LvO Y B D K ps hs :=
  ⟨h.1, fun l hl => by
    obtain ⟨u, h1, h2⟩ := h.2 l hl
    refine ⟨u, h1, own_keep h2 fun k hu => ?_⟩
    obtain ⟨cur, hc⟩ := own_type h2 hu
    exact hk k cur hc⟩
theorem LvO.below {hs : List Value} (h : LvO X B D K ps hs) (hb : Below X.heap.size X Y) : LvO Y B D K ps hs := LvO.keep h fun k cur hk => hb.block k (blk_lt (show blk X k = _ from hk))
theorem Bd.below (h : Bd X B b D wr ps K v) (hb : Below X.heap.size X Y) : Bd Y B b D wr ps K v := by
  obtain ⟨hs, h1, h2⟩ := h.row
  exact ⟨h.lo, (blk_below hb b (blk_lt h.head)).trans h.head, hs, owns_below' h1 hb, LvO.below h2 hb⟩
theorem Bd.cells (h : Bd X B b D wr ps K v) : X.cell? ⟨b, 0, none⟩ = some (.int .i64 D) ∧ X.cell? ⟨b, 1, none⟩ = some (.bool wr) ∧ X.cell? ⟨b, 2, none⟩ = some v ∧ X.frozen? ⟨b, 2, none⟩ = false := by
  refine ⟨?_, ?_, ?_, blk_frozen h.head _⟩ <;> (rw [blk_cell h.head]; rfl)
theorem Bd.lev (h : Bd X B b D wr ps K v) (hK : 0 < K) : ∃ g cap, v = .slice (some ⟨g, 0, none⟩) K cap ∧ g < X.heap.size ∧ K ≤ cap ∧ cap ≤ maxLen ∧ ∀ l, l < K → ∃ c cap', X.cell? ⟨g, l, none⟩ = some (.slice (some ⟨c, 0, none⟩) (sd (D - l) * sd (D - l)) cap') ∧ c < X.heap.size ∧ sd (D - l) * sd (D - l) ≤ cap' ∧ cap' ≤ maxLen ∧ Reads X 4 (some ⟨c, 0, none⟩) (sd (D - l) * sd (D - l)) (cp (lev ps D l)) := by
  obtain ⟨hs, h1, h2⟩ := h.row
  obtain ⟨g, cap, e, _, hg, hc1, hc2, hc⟩ := owns_pos h1 hK
  refine ⟨g, cap, e, hg, hc1, hc2, fun l hl => ?_⟩
  obtain ⟨u, h3, h4⟩ := h2.2 l hl
  have hp : 0 < sd (D - l) * sd (D - l) := Nat.mul_pos (by have := sd_pos (D - l); omega) (by have := sd_pos (D - l); omega)
  obtain ⟨c, cap', e', _, hcl, hq1, hq2, _⟩ := owns_pos h4 hp
  subst e'
  exact ⟨c, cap', by rw [hc l (by omega), h3], hcl, hq1, hq2, Reads.of_owns h4⟩
theorem Bd.pyr (h : Bd X B b D wr ps (D + 1) v) (hd : D ≤ 3) (hl : ps.length = sd D * sd D) (hB : RB ps) : Pyr X b D wr ps := by
  obtain ⟨g, cap, e, hg, h1, h2, h3⟩ := h.lev (by omega)
  obtain ⟨c0, c1, c2, _⟩ := h.cells
  subst e
  exact ⟨hd, hl, hB, blk_lt h.head, c0, c1, g, cap, c2, hg, h1, h2, fun l hl => by
    obtain ⟨c, cap', r1, r2, r3, r4, r5⟩ := h3 l hl
    exact ⟨c, cap', by rw [Int.toNat_natCast]; exact r1, r2, r3, r4, r5⟩⟩
theorem Size_k {g cap : Nat} (l : Nat) (w : World) (c0 : w.cell? ⟨b, 0, none⟩ = some (.int .i64 D)) (c2 : w.cell? ⟨b, 2, none⟩ = some (.slice (some ⟨g, 0, none⟩) K cap)) (hl : l < K) (hD : l ≤ D) (h3 : D ≤ 3) (hK : K ≤ 4) :
    Calls Try.prog 19 #[.pointer (some ⟨b, 0, none⟩), .int .i64 l] w fun e w' => e = .returned (.int .i64 (sd (D - l))) ∧ w = w' := by
  have C : Calls Try.prog 46 #[.pointer (some ⟨b, 0, none⟩), .int .i64 l] w fun e w' => e = .returned (.bool true) ∧ w = w' := by
    have d0 : (0 : Int) ≤ (l : Int) := by omega
    have d1 : (l : Int) < (K : Int) := by omega
    clear c0
    go_enter Try.func46, Try.ntmps46
    go_wp2
    go_ret
    exact ⟨rfl, rfl⟩
  have CC := Lib.hid C
  have C2 := size_any (D - l) w (by omega)
  rw [show ((D - l : Nat) : Int) = (D : Int) - l by omega] at C2
  have CC2 := Lib.hid C2
  clear C C2 c2
  go_enter Try.func19, Try.ntmps19
  go_wp2_with fail
  refine CC.out.mono ?_
  rintro e _ ⟨rfl, rfl⟩
  go_wp2_with fail
  refine CC2.out.mono ?_
  rintro e _ ⟨rfl, rfl⟩
  go_wp2
  go_ret
  exact ⟨rfl, rfl⟩
theorem yields_app_sl {ops : Array Oper} {o : Oper} {b : Act} {w : World} {R : Value → World → Prop} (hgd : o.guard = none) (s x : Operand)
    (ho : o.op = .call { callee := .builtin .append, args := #[s, x], argTypes := #[46, 46] })
    (base : Nat) (v : Value) (n : Nat) (r : List Value) (hs : b.eval s = v) (hown : w.ownsRow base 22 1 v n r)
    (g c : Nat) (y : Value) (hx : b.eval x = .slice (some ⟨g, 0, none⟩) 1 c) (hg : blk w g = some (.cells #[y] 22 (0, 0))) (hy : y.oneCell' = true)
    (h63 : n ≤ 1000000) (hbase : base ≤ w.heap.size)
    (h : ∀ v' w', w'.ownsRow base 22 1 v' (n + 1) (r ++ [y]) → w.grownBy w' v.ownBlock → R v' w') : Pred.yields Try.prog ops o b w R := by
  obtain ⟨i0, hi, hz0, hz1, hz2⟩ := info_parts info_sl
  obtain ⟨v', w', hrun, h2, h3⟩ := App.run_append_reads (P := Try.prog) w base 46 o.type 22 i0 _ 1 24 Try.underlying46 hi hz0 hz1 hz2 rfl (by decide) v n r hown (some ⟨g, 0, none⟩) 1 c [y]
    ⟨rfl, Or.inr ⟨g, 0, rfl, blk_lt hg, fun j hj => by rw [Nat.zero_add, blk_cell hg, List.getElem?_toArray]⟩⟩ (by intro u hu; simp at hu; subst hu; exact hy) (by unfold maxLen; omega) (by omega) hbase
  refine Pred.yields_run (v := v') (w' := w') (Pred.wanted_none hgd) ?_ (h v' w' h2 h3)
  unfold execOp
  simp only [ho, resolve, invoke, builtin, Sem.run_bind, Sem.run_pure, Result.andThen_ok, List.map_toArray, List.map_cons, List.map_nil, hs, hx, hrun]
theorem yields_skip {ops : Array Oper} {o : Oper} {b : Act} {w w' : World} {R : Value → World → Prop} (hw : Region.wanted o (yielded ops b.tmps) = true) (hr : (execOp b.eval o).run Try.prog w = .ok .skip w') (h : R undef w') : Pred.yields Try.prog ops o b w R := by
  unfold Pred.yields; rw [if_pos hw, hr]; exact h
def OneSl (u : Value) (w : World) (y : Value) : Prop := ∃ g, u = .slice (some ⟨g, 0, none⟩) 1 1 ∧ blk w g = some (.cells #[y] 22 (0, 0))
theorem OneSl.below {u y : Value} (h : OneSl u X y) (hb : Below X.heap.size X Y) : OneSl u Y y := by
  obtain ⟨g, h1, h2⟩ := h
  exact ⟨g, h1, (blk_below hb g (blk_lt h2)).trans h2⟩
theorem own_one {u : Value} {B : Nat} {e : TypeId} {s n : Nat} {xs : List Value} (h : X.ownsRow B e s u n xs) : u.oneCell' = true := by
  obtain ⟨a, c, rfl, _⟩ := owns_val h
  rfl
set_option maxHeartbeats 8000000 in
theorem Build_any (wr : Bool) (ad : Addr) (n c : Nat) (w : World) (hr : Reads w 4 (some ad) n (cp ps)) (hd : D ≤ 3) (hn : n = sd D * sd D) (hB : RB ps) :
    Calls Try.prog 12 #[.agg #[.int .i64 D, .bool wr, .slice (some ad) n c]] w fun e w' => (∃ b, e = .returned (.tuple #[.pointer (some ⟨b, 0, none⟩), .int .i64 0]) ∧ w.heap.size ≤ b ∧ Pyr w' b D wr ps) ∧ Below w.heap.size w w' := by
  have hlen : ps.length = sd D * sd D := by
    have := hr.1
    rw [cp_len] at this
    omega
  have hM : mayT (D : Int) n = true := decide_eq_true (by rw [Int.toNat_natCast]; omega)
  have CM := Lib.hid (fun X => May_any (D : Int) wr (some ad) n c X)
  rw [hM] at CM
  have hn9 : n ≤ 1024 := by rw [hn]; exact sq_le (sd_le hd)
  have HN := Lib.hid hn
  clear hM hn
  go_enter Try.func12, Try.ntmps12
  go_wp2_with fail
  refine (CM.out _).mono ?_
  rintro e w1 ⟨rfl, hb1⟩
  have hs1 := hb1.size
  simp only [World.size_alloc] at hs1
  go_upto_region 3 with (fail)
  refine Rd.name_world ?_
  intro W hW
  have L1 : Below w.heap.size w W := by rw [hW]; repeat' (first | (with_reducible exact Below.refl _ _) | (with_reducible refine Rd.below_step ?_ (by assumption)) | (with_reducible refine Rd.below_alloc ?_ _) | (with_reducible refine Rd.below_drewN ?_ _) | (with_reducible refine Below.drew ?_) | (with_reducible refine Below.setCell ?_ ?_ _) | (with_reducible refine Rd.below_setRow ?_ ?_ _) | go_size | (simp only [World.size_alloc]; omega) | omega)
  have cz : blk W w.heap.size = some (.cells #[.int .i64 D, .bool wr, .slice (some ad) n c] 24 (0, 0)) := by rw [hW]; exact (blk_below hb1 _ (by simp)).trans (blk_alloc_at _ _ _ rfl)
  have hRW := hr.below L1 (Nat.le_refl _)
  have hWs : w.heap.size < W.heap.size := blk_lt cz
  clear hW hb1 hs1
  refine PredT.region_of (W := W) (W.heap.size) (Nat.le_refl _) [] [
      fun _ => True] [
      PredT.At 0 (.pointer (some ⟨w.heap.size, 0, none⟩)),
      PredT.At 0 (.int .i64 D),
      PredT.At 0 (.pointer (some ⟨w.heap.size, 1, none⟩)),
      PredT.At 0 (.bool wr),
      PredT.At 0 (.pointer (some ⟨w.heap.size, 2, none⟩)),
      PredT.At 0 (.slice (some ad) n c),
      PredT.When 0 (fun u y => y.ownsRow W.heap.size 39 4 u n (cp ps)),
      PredT.When 0 (fun u y => ∃ hs, y.ownsRow W.heap.size 22 1 u 1 hs ∧ LvO y W.heap.size D 1 ps hs),
      PredT.When 0 (fun u y => ∃ v, u = .agg #[.int .i64 D, .bool wr, v] ∧ ∃ hs, y.ownsRow W.heap.size 22 1 v 1 hs ∧ LvO y W.heap.size D 1 ps hs),
      PredT.When 0 (fun u y => ∃ b v, u = .pointer (some ⟨b, 0, none⟩) ∧ Bd y W.heap.size b D wr ps 1 v),
      PredT.When 0 (fun u y => ∃ b v, u = .pointer (some ⟨b, 0, none⟩) ∧ Bd y W.heap.size b D wr ps 1 v)] (by kernel_rfl) (by kernel_rfl) (by kernel_rfl) (by decide) (by decide) ?_ ?_ ?_ ?_ ?_ ?_
  · exact ⟨PredT.at_stab _ _ _ _, PredT.at_stab _ _ _ _, PredT.at_stab _ _ _ _, PredT.at_stab _ _ _ _, PredT.at_stab _ _ _ _, PredT.at_stab _ _ _ _, PredT.when_stab _ _ _ (fun u y y' h hb => owns_below' h hb), PredT.when_stab _ _ _ (fun u y y' ⟨hs, h1, h2⟩ hb => ⟨hs, owns_below' h1 hb, LvO.below h2 hb⟩), PredT.when_stab _ _ _ (fun u y y' ⟨v, h0, hs, h1, h2⟩ hb => ⟨v, h0, hs, owns_below' h1 hb, LvO.below h2 hb⟩), PredT.when_stab _ _ _ (fun u y y' ⟨b, v, h0, h1⟩ hb => ⟨b, v, h0, h1.below hb⟩), PredT.when_stab _ _ _ (fun u y y' ⟨b, v, h0, h1⟩ hb => ⟨b, v, h0, h1.below hb⟩), trivial⟩
  · intro q hq
    rcases List.mem_cons.1 hq with rfl | hq
    · exact fun _ _ h _ => trivial
    cases hq
  · exact trivial
  · refine ⟨.inr ?_, .inr ?_, .inr ?_, .inr ?_, .inr ?_, .inr ?_, .inr ?_, .inr ?_, .inr ?_, .inr ?_, .inr ?_, trivial⟩
    · intro b9 X ph hE hd hn hS hV hI hF
      have r1 : b9.tmps[1]?.getD undef = .pointer (some ⟨w.heap.size, 0, none⟩) := (hn 1 (by kernel_rfl)).trans rfl
      exact Pred.yields_run (v := .pointer (some ⟨w.heap.size, 0, none⟩)) (Pred.wanted_none rfl) (by go_simp) ⟨Below.refl _ _, rfl, Nat.zero_le _⟩
    · intro b9 X ph hE hd hn hS hV hI hF
      obtain ⟨r9, j9⟩ : PredT.At 0 (.pointer (some ⟨w.heap.size, 0, none⟩)) (b9.tmps[9]?.getD undef) X ph := hV 0 _ 9 rfl rfl (Pred.waits_near (by kernel_rfl) (by kernel_rfl))
      have z := (hE.cell (p := ⟨w.heap.size, 0, none⟩) hWs).trans (show W.cell? ⟨w.heap.size, 0, none⟩ = _ from by rw [blk_cell cz]; first | done | rfl)
      exact Pred.yields_run (v := .int .i64 D) (Pred.wanted_none rfl) (by go_simp) ⟨Below.refl _ _, rfl, Nat.zero_le _⟩
    · intro b9 X ph hE hd hn hS hV hI hF
      have r1 : b9.tmps[1]?.getD undef = .pointer (some ⟨w.heap.size, 0, none⟩) := (hn 1 (by kernel_rfl)).trans rfl
      exact Pred.yields_run (v := .pointer (some ⟨w.heap.size, 1, none⟩)) (Pred.wanted_none rfl) (by go_simp) ⟨Below.refl _ _, rfl, Nat.zero_le _⟩
    · intro b9 X ph hE hd hn hS hV hI hF
      obtain ⟨r11, j11⟩ : PredT.At 0 (.pointer (some ⟨w.heap.size, 1, none⟩)) (b9.tmps[11]?.getD undef) X ph := hV 2 _ 11 rfl rfl (Pred.waits_near (by kernel_rfl) (by kernel_rfl))
      have z := (hE.cell (p := ⟨w.heap.size, 1, none⟩) hWs).trans (show W.cell? ⟨w.heap.size, 1, none⟩ = _ from by rw [blk_cell cz]; first | done | rfl)
      exact Pred.yields_run (v := .bool wr) (Pred.wanted_none rfl) (by go_simp) ⟨Below.refl _ _, rfl, Nat.zero_le _⟩
    · intro b9 X ph hE hd hn hS hV hI hF
      have r1 : b9.tmps[1]?.getD undef = .pointer (some ⟨w.heap.size, 0, none⟩) := (hn 1 (by kernel_rfl)).trans rfl
      exact Pred.yields_run (v := .pointer (some ⟨w.heap.size, 2, none⟩)) (Pred.wanted_none rfl) (by go_simp) ⟨Below.refl _ _, rfl, Nat.zero_le _⟩
    · intro b9 X ph hE hd hn hS hV hI hF
      obtain ⟨r13, j13⟩ : PredT.At 0 (.pointer (some ⟨w.heap.size, 2, none⟩)) (b9.tmps[13]?.getD undef) X ph := hV 4 _ 13 rfl rfl (Pred.waits_near (by kernel_rfl) (by kernel_rfl))
      have z := (hE.cell (p := ⟨w.heap.size, 2, none⟩) hWs).trans (show W.cell? ⟨w.heap.size, 2, none⟩ = _ from by rw [blk_cell cz]; first | done | rfl)
      exact Pred.yields_run (v := .slice (some ad) n c) (Pred.wanted_none rfl) (by go_simp) ⟨Below.refl _ _, rfl, Nat.zero_le _⟩
    · intro b9 X ph hE hd hn hS hV hI hF
      obtain ⟨r14, j14⟩ : PredT.At 0 (.slice (some ad) n c) (b9.tmps[14]?.getD undef) X ph := hV 5 _ 14 rfl rfl (Pred.waits_near (by kernel_rfl) (by kernel_rfl))
      refine Pred.yields_call (f := 41) (args := #[.slice (some ad) n c]) (Pred.wanted_none rfl) (by go_simp) ?_
      refine (clone_px ad n c ps X (hRW.below hE (Nat.le_refl _)) (by omega)).mono ?_
      rintro e w9 ⟨v9, rfl, ho, hb⟩
      exact ⟨_, rfl, hb, Nat.zero_le _, fun _ => owns_mono ho hE.size⟩
    · intro b9 X ph hE hd hn hS hV hI hF
      obtain ⟨j15, r15⟩ : PredT.When 0 (fun u y => y.ownsRow W.heap.size 39 4 u n (cp ps)) (b9.tmps[15]?.getD undef) X ph := hV 6 _ 15 rfl rfl (Pred.waits_near (by kernel_rfl) (by kernel_rfl))
      have ho := r15 (by have := PredT.sel_le hS; simp at this; omega)
      have hsz := hE.size
      obtain ⟨a9, c9, hv, _⟩ := owns_val ho
      have r15e : b9.tmps[15]?.getD undef = .slice a9 n c9 := hv
      rw [r15e] at ho
      exact Pred.yields_run (v := .slice (some ⟨X.heap.size, 0, none⟩) 1 1) (w' := X.alloc (.cells #[.slice a9 n c9] 22)) (Pred.wanted_none rfl) (by go_simp) ⟨(Below.refl _ _).alloc (Nat.le_refl _) _, Nat.zero_le _, fun _ => ⟨[.slice a9 n c9], own_new _ _ hsz, rfl, fun l hl => ⟨_, by (obtain rfl : l = 0 := by omega); rfl, by (obtain rfl : l = 0 := by omega); exact (by rw [Nat.sub_zero, ← HN.out]; exact owns_below' ho ((Below.refl _ _).alloc (Nat.le_refl _) _))⟩⟩⟩
    · intro b9 X ph hE hd hn hS hV hI hF
      obtain ⟨r10, j10⟩ : PredT.At 0 (.int .i64 D) (b9.tmps[10]?.getD undef) X ph := hV 1 _ 10 rfl rfl (Pred.waits_near (by kernel_rfl) (by kernel_rfl))
      obtain ⟨r12, j12⟩ : PredT.At 0 (.bool wr) (b9.tmps[12]?.getD undef) X ph := hV 3 _ 12 rfl rfl (Pred.waits_near (by kernel_rfl) (by kernel_rfl))
      obtain ⟨j16, r16⟩ : PredT.When 0 (fun u y => ∃ hs, y.ownsRow W.heap.size 22 1 u 1 hs ∧ LvO y W.heap.size D 1 ps hs) (b9.tmps[16]?.getD undef) X ph := hV 7 _ 16 rfl rfl (Pred.waits_near (by kernel_rfl) (by kernel_rfl))
      obtain ⟨hs, ho, hL⟩ := r16 (by have := PredT.sel_le hS; simp at this; omega)
      obtain ⟨a9, c9, hv, _⟩ := owns_val ho
      have r16e : b9.tmps[16]?.getD undef = .slice a9 1 c9 := hv
      rw [r16e] at ho
      exact Pred.yields_run (v := .agg #[.int .i64 D, .bool wr, .slice a9 1 c9]) (Pred.wanted_none rfl) (by go_simp) ⟨Below.refl _ _, Nat.zero_le _, fun _ => ⟨_, rfl, hs, ho, hL⟩⟩
    · intro b9 X ph hE hd hn hS hV hI hF
      obtain ⟨j17, r17⟩ : PredT.When 0 (fun u y => ∃ v, u = .agg #[.int .i64 D, .bool wr, v] ∧ ∃ hs, y.ownsRow W.heap.size 22 1 v 1 hs ∧ LvO y W.heap.size D 1 ps hs) (b9.tmps[17]?.getD undef) X ph := hV 8 _ 17 rfl rfl (Pred.waits_near (by kernel_rfl) (by kernel_rfl))
      obtain ⟨v, hv, hs, ho, hL⟩ := r17 (by have := PredT.sel_le hS; simp at this; omega)
      have r17e : b9.tmps[17]?.getD undef = .agg #[.int .i64 D, .bool wr, v] := hv
      have hone := own_one ho
      have hsz := hE.size
      have hB9 := (Below.refl X.heap.size X).alloc (Nat.le_refl _) (.cells #[.int .i64 D, .bool wr, v] 86)
      obtain ⟨a9, c9, rfl, _⟩ := owns_val ho
      exact Pred.yields_run (v := .pointer (some ⟨X.heap.size, 0, none⟩)) (w' := X.alloc (.cells #[.int .i64 D, .bool wr, .slice a9 1 c9] 86)) (Pred.wanted_none rfl) (by go_simp) ⟨hB9, Nat.zero_le _, fun _ => ⟨_, _, rfl, hsz, blk_alloc_at _ _ _ rfl, hs, owns_below' ho hB9, LvO.below hL hB9⟩⟩
    · intro b9 X ph hE hd hn hS hV hI hF
      obtain ⟨j18, r18⟩ : PredT.When 0 (fun u y => ∃ b v, u = .pointer (some ⟨b, 0, none⟩) ∧ Bd y W.heap.size b D wr ps 1 v) (b9.tmps[18]?.getD undef) X ph := hV 9 _ 18 rfl rfl (Pred.waits_near (by kernel_rfl) (by kernel_rfl))
      exact Pred.yields_run (v := b9.tmps[18]?.getD undef) (Pred.wanted_none rfl) (by go_simp) ⟨Below.refl _ _, Nat.zero_le _, r18⟩
  · trivial
  intro v X hE hS hv
  replace hS : (fun _ => True) X := hS
  have e0 : v 0 = .pointer (some ⟨w.heap.size, 0, none⟩) := (hv 0 _ 9 rfl rfl).1
  have e1 : v 1 = .int .i64 D := (hv 1 _ 10 rfl rfl).1
  have e2 : v 2 = .pointer (some ⟨w.heap.size, 1, none⟩) := (hv 2 _ 11 rfl rfl).1
  have e3 : v 3 = .bool wr := (hv 3 _ 12 rfl rfl).1
  have e4 : v 4 = .pointer (some ⟨w.heap.size, 2, none⟩) := (hv 4 _ 13 rfl rfl).1
  have e5 : v 5 = .slice (some ad) n c := (hv 5 _ 14 rfl rfl).1
  generalize hg6 : v 6 = vv6
  generalize hg7 : v 7 = vv7
  generalize hg8 : v 8 = vv8
  generalize hg9 : v 9 = vv9
  have HQ : ∃ b u, v 10 = .pointer (some ⟨b, 0, none⟩) ∧ Bd X W.heap.size b D wr ps 1 u := (hv 10 _ 4 rfl rfl).2 rfl
  generalize hg10 : v 10 = vv10 at HQ
  simp only [Pred.putsF_cons, Pred.putsF_nil, Nat.zero_add, Nat.reduceAdd, e0, e1, e2, e3, e4, e5, hg6, hg7, hg8, hg9, hg10, Act.put, List.setIfInBounds_toArray, List.set_cons_zero, List.set_cons_succ]
  clear e0 e1 e2 e3 e4 e5 hg6 hg7 hg8 hg9 hg10 hv
  obtain ⟨b, v, rfl, hbd⟩ := HQ
  clear hS
  have L2 : Below W.heap.size W X := hE
  have c0X := (hE.cell (p := ⟨w.heap.size, 0, none⟩) hWs).trans (show W.cell? ⟨w.heap.size, 0, none⟩ = some (.int .i64 D) from by rw [blk_cell cz]; first | done | rfl)
  clear hE hr hRW cz CM
  go_wp2_with fail
  go_loopw [21] (fun i Y => ∃ k : Nat, k ≤ D ∧ i = .int .i64 k ∧ Hid (∃ u, Bd Y W.heap.size b D wr ps (k + 1) u) ∧ Hid (Below W.heap.size W Y)) (fun i _ => D - (intOf i).toNat)
  case atStart => exact ⟨0, by omega, rfl, Lib.hid ⟨_, hbd⟩, Lib.hid L2⟩
  case round =>
    obtain ⟨k, hk, rfl, HB, HL⟩ := hrel
    rename World => Y
    clear hbd c0X L2
    by_cases hlt : k < D
    · have hlt' : (k : Int) < (D : Int) := by omega
      have hd3 := hd
      obtain ⟨u, hbk⟩ := HB.out
      obtain ⟨g, cap, hu, hg, hc1, hc2, -⟩ := hbk.lev (by omega)
      subst hu
      obtain ⟨m, hm⟩ : ∃ m, m = sd (D - (k + 1)) := ⟨_, rfl⟩
      have hm2 : sd (D - k) = 2 * m := by rw [hm, ← sd_succ]; congr 1; omega
      have hm3 : m ≤ 16 := by have := sd_le (show D - k ≤ 3 by omega); omega
      have hm4 : 1 ≤ m := by have := sd_pos (D - (k + 1)); omega
      have hlk : (lev ps D k).length = 2 * m * (2 * m) := by rw [lev_len hlen, hm2]
      have hlb := lev_B hB (D := D) k
      have hnx : lev ps D (k + 1) = half (lev ps D k) m := by rw [hm]; rfl
      obtain ⟨s, hs⟩ : ∃ s, s = 2 * m := ⟨_, rfl⟩
      have CHf := fun c9 cap9 X h1 h2 h3 => half_any c9 (2 * m * (2 * m)) cap9 m (lev ps D k) X h1 hlk hm3 hm4 hlb h2 h3
      rw [← hs] at hlk CHf hm2
      obtain ⟨q, hq⟩ : ∃ q, q = s * s := ⟨_, rfl⟩
      rw [← hq] at CHf hlk
      have hq1 : q ≤ 1024 := by rw [hq]; exact sq_le (by omega)
      have HM := Lib.hid hm
      have HM2 := Lib.hid hm2
      have HS2 := Lib.hid hs
      have HQ2 := Lib.hid hq
      have HNX := Lib.hid hnx
      have hYs := HL.out.size
      have hkk : (k : Int) < (k : Int) + 1 := by omega
      clear hm hm2 hs hq hnx HB
      go_wp2_with fail
      go_upto_region 7 with (fail)
      refine PredT.region_of (W := Y) (W.heap.size) hYs [17, 20] [
          fun y => Bd y W.heap.size b D wr ps (k + 1) (.slice (some ⟨g, 0, none⟩) (k + 1) cap),
          fun y => blk y b = some (.cells #[.int .i64 D, .bool wr, .slice (some ⟨g, 0, none⟩) (k + 1) cap] 86 (0, 0)),
          fun y => ∃ u, Bd y W.heap.size b D wr ps (k + 2) u] [
          PredT.At 0 (.pointer (some ⟨b, 0, none⟩)),
          PredT.At 0 (.pointer (some ⟨b, 0, none⟩)),
          PredT.At 0 (.pointer (some ⟨b, 0, none⟩)),
          PredT.At 0 (.pointer (some ⟨b, 2, none⟩)),
          PredT.At 0 (.slice (some ⟨g, 0, none⟩) (k + 1) cap),
          PredT.At 0 (.pointer (some ⟨b, 0, none⟩)),
          PredT.At 0 (.pointer (some ⟨b, 0, none⟩)),
          PredT.At 0 (.pointer (some ⟨b, 2, none⟩)),
          PredT.At 0 (.slice (some ⟨g, 0, none⟩) (k + 1) cap),
          PredT.At 0 (.int .i64 k),
          PredT.At 0 (.pointer (some ⟨g, k, none⟩)),
          PredT.When 0 (fun u y => ∃ c9 cap9, u = .slice (some ⟨c9, 0, none⟩) q cap9 ∧ q ≤ cap9 ∧ cap9 ≤ maxLen ∧ Reads y 4 (some ⟨c9, 0, none⟩) q (cp (lev ps D k))),
          PredT.At 0 (.pointer (some ⟨b, 0, none⟩)),
          PredT.At 0 (.int .i64 k),
          PredT.At 0 (.int .i64 s),
          PredT.When 0 (fun u y => y.ownsRow W.heap.size 39 4 u (m * m) (cp (half (lev ps D k) m))),
          PredT.When 0 (fun u y => ∃ z, OneSl u y z ∧ y.ownsRow W.heap.size 39 4 z (m * m) (cp (half (lev ps D k) m))),
          PredT.When 1 (fun u y => blk y b = some (.cells #[.int .i64 D, .bool wr, .slice (some ⟨g, 0, none⟩) (k + 1) cap] 86 (0, 0)) ∧ ∃ hs, y.ownsRow W.heap.size 22 1 u (k + 2) hs ∧ LvO y W.heap.size D (k + 2) ps hs),
          PredT.At 0 (.pointer (some ⟨b, 0, none⟩)),
          PredT.At 0 (.pointer (some ⟨b, 2, none⟩)),
          PredT.At 0 (undef)] (by kernel_rfl) (by kernel_rfl) (by kernel_rfl) (by decide) (by decide) ?_ ?_ ?_ ?_ ?_ ?_
      · exact ⟨PredT.at_stab _ _ _ _, PredT.at_stab _ _ _ _, PredT.at_stab _ _ _ _, PredT.at_stab _ _ _ _, PredT.at_stab _ _ _ _, PredT.at_stab _ _ _ _, PredT.at_stab _ _ _ _, PredT.at_stab _ _ _ _, PredT.at_stab _ _ _ _, PredT.at_stab _ _ _ _, PredT.at_stab _ _ _ _, PredT.when_stab _ _ _ (fun u y y' ⟨c9, cap9, h1, h2, h3, h4⟩ hb => ⟨c9, cap9, h1, h2, h3, h4.below hb (Nat.le_refl _)⟩), PredT.at_stab _ _ _ _, PredT.at_stab _ _ _ _, PredT.at_stab _ _ _ _, PredT.when_stab _ _ _ (fun u y y' h hb => owns_below' h hb), PredT.when_stab _ _ _ (fun u y y' ⟨z, h1, h2⟩ hb => ⟨z, h1.below hb, owns_below' h2 hb⟩), PredT.when_stab _ _ _ (fun u y y' ⟨h0, hs, h1, h2⟩ hb => ⟨(blk_below hb b (blk_lt h0)).trans h0, hs, owns_below' h1 hb, LvO.below h2 hb⟩), PredT.at_stab _ _ _ _, PredT.at_stab _ _ _ _, PredT.at_stab _ _ _ _, trivial⟩
      · intro q hq
        rcases List.mem_cons.1 hq with rfl | hq
        · exact fun y y' h hb => h.below hb
        rcases List.mem_cons.1 hq with rfl | hq
        · exact fun y y' h hb => (blk_below hb b (blk_lt h)).trans h
        rcases List.mem_cons.1 hq with rfl | hq
        · exact fun y y' ⟨u, h⟩ hb => ⟨u, h.below hb⟩
        cases hq
      · exact hbk
      · refine ⟨.inr ?_, .inr ?_, .inr ?_, .inr ?_, .inr ?_, .inr ?_, .inr ?_, .inr ?_, .inr ?_, .inr ?_, .inr ?_, .inr ?_, .inr ?_, .inr ?_, .inr ?_, .inr ?_, .inr ?_, .inl rfl, .inr ?_, .inr ?_, .inl rfl, trivial⟩
        · intro b9 X ph hE hd hn hS hV hI hF
          have r4 : b9.tmps[4]?.getD undef = .pointer (some ⟨b, 0, none⟩) := (hn 4 (by kernel_rfl)).trans rfl
          exact Pred.yields_run (v := .pointer (some ⟨b, 0, none⟩)) (Pred.wanted_none rfl) (by go_simp) ⟨Below.refl _ _, rfl, Nat.zero_le _⟩
        · intro b9 X ph hE hd hn hS hV hI hF
          have r4 : b9.tmps[4]?.getD undef = .pointer (some ⟨b, 0, none⟩) := (hn 4 (by kernel_rfl)).trans rfl
          exact Pred.yields_run (v := .pointer (some ⟨b, 0, none⟩)) (Pred.wanted_none rfl) (by go_simp) ⟨Below.refl _ _, rfl, Nat.zero_le _⟩
        · intro b9 X ph hE hd hn hS hV hI hF
          obtain ⟨r25, j25⟩ : PredT.At 0 (.pointer (some ⟨b, 0, none⟩)) (b9.tmps[25]?.getD undef) X ph := hV 1 _ 25 rfl rfl (Pred.waits_near (by kernel_rfl) (by kernel_rfl))
          exact Pred.yields_run (v := .pointer (some ⟨b, 0, none⟩)) (Pred.wanted_none rfl) (by go_simp) ⟨Below.refl _ _, rfl, Nat.zero_le _⟩
        · intro b9 X ph hE hd hn hS hV hI hF
          obtain ⟨r26, j26⟩ : PredT.At 0 (.pointer (some ⟨b, 0, none⟩)) (b9.tmps[26]?.getD undef) X ph := hV 2 _ 26 rfl rfl (Pred.waits_near (by kernel_rfl) (by kernel_rfl))
          exact Pred.yields_run (v := .pointer (some ⟨b, 2, none⟩)) (Pred.wanted_none rfl) (by go_simp) ⟨Below.refl _ _, rfl, Nat.zero_le _⟩
        · intro b9 X ph hE hd hn hS hV hI hF
          obtain ⟨r27, j27⟩ : PredT.At 0 (.pointer (some ⟨b, 2, none⟩)) (b9.tmps[27]?.getD undef) X ph := hV 3 _ 27 rfl rfl (Pred.waits_near (by kernel_rfl) (by kernel_rfl))
          have hp0 : ph = 0 := Nat.le_zero.1 (hF 0 17 rfl (Pred.waits_more 8 _ _ (Nat.le_of_ble_eq_true (by kernel_rfl)) (by kernel_rfl)))
          subst hp0
          have hb0 : Bd X W.heap.size b D wr ps (k + 1) (.slice (some ⟨g, 0, none⟩) (k + 1) cap) := hS
          have z := hb0.cells.2.2.1
          exact Pred.yields_run (v := .slice (some ⟨g, 0, none⟩) (k + 1) cap) (Pred.wanted_none rfl) (by go_simp) ⟨Below.refl _ _, rfl, Nat.zero_le _⟩
        · intro b9 X ph hE hd hn hS hV hI hF
          have r4 : b9.tmps[4]?.getD undef = .pointer (some ⟨b, 0, none⟩) := (hn 4 (by kernel_rfl)).trans rfl
          exact Pred.yields_run (v := .pointer (some ⟨b, 0, none⟩)) (Pred.wanted_none rfl) (by go_simp) ⟨Below.refl _ _, rfl, Nat.zero_le _⟩
        · intro b9 X ph hE hd hn hS hV hI hF
          obtain ⟨r29, j29⟩ : PredT.At 0 (.pointer (some ⟨b, 0, none⟩)) (b9.tmps[29]?.getD undef) X ph := hV 5 _ 29 rfl rfl (Pred.waits_near (by kernel_rfl) (by kernel_rfl))
          exact Pred.yields_run (v := .pointer (some ⟨b, 0, none⟩)) (Pred.wanted_none rfl) (by go_simp) ⟨Below.refl _ _, rfl, Nat.zero_le _⟩
        · intro b9 X ph hE hd hn hS hV hI hF
          obtain ⟨r30, j30⟩ : PredT.At 0 (.pointer (some ⟨b, 0, none⟩)) (b9.tmps[30]?.getD undef) X ph := hV 6 _ 30 rfl rfl (Pred.waits_near (by kernel_rfl) (by kernel_rfl))
          exact Pred.yields_run (v := .pointer (some ⟨b, 2, none⟩)) (Pred.wanted_none rfl) (by go_simp) ⟨Below.refl _ _, rfl, Nat.zero_le _⟩
        · intro b9 X ph hE hd hn hS hV hI hF
          obtain ⟨r31, j31⟩ : PredT.At 0 (.pointer (some ⟨b, 2, none⟩)) (b9.tmps[31]?.getD undef) X ph := hV 7 _ 31 rfl rfl (Pred.waits_near (by kernel_rfl) (by kernel_rfl))
          have hp0 : ph = 0 := Nat.le_zero.1 (hF 0 17 rfl (Pred.waits_more 8 _ _ (Nat.le_of_ble_eq_true (by kernel_rfl)) (by kernel_rfl)))
          subst hp0
          have hb0 : Bd X W.heap.size b D wr ps (k + 1) (.slice (some ⟨g, 0, none⟩) (k + 1) cap) := hS
          have z := hb0.cells.2.2.1
          exact Pred.yields_run (v := .slice (some ⟨g, 0, none⟩) (k + 1) cap) (Pred.wanted_none rfl) (by go_simp) ⟨Below.refl _ _, rfl, Nat.zero_le _⟩
        · intro b9 X ph hE hd hn hS hV hI hF
          have r5 : b9.tmps[5]?.getD undef = .int .i64 k := (hn 5 (by kernel_rfl)).trans rfl
          exact Pred.yields_run (v := .int .i64 k) (Pred.wanted_none rfl) (by go_simp) ⟨Below.refl _ _, rfl, Nat.zero_le _⟩
        · intro b9 X ph hE hd hn hS hV hI hF
          obtain ⟨r32, j32⟩ : PredT.At 0 (.slice (some ⟨g, 0, none⟩) (k + 1) cap) (b9.tmps[32]?.getD undef) X ph := hV 8 _ 32 rfl rfl (Pred.waits_near (by kernel_rfl) (by kernel_rfl))
          obtain ⟨r33, j33⟩ : PredT.At 0 (.int .i64 k) (b9.tmps[33]?.getD undef) X ph := hV 9 _ 33 rfl rfl (Pred.waits_near (by kernel_rfl) (by kernel_rfl))
          exact Pred.yields_run (v := .pointer (some ⟨g, k, none⟩)) (Pred.wanted_none rfl) (by go_simp) ⟨Below.refl _ _, rfl, Nat.zero_le _⟩
        · intro b9 X ph hE hd hn hS hV hI hF
          obtain ⟨r34, j34⟩ : PredT.At 0 (.pointer (some ⟨g, k, none⟩)) (b9.tmps[34]?.getD undef) X ph := hV 10 _ 34 rfl rfl (Pred.waits_near (by kernel_rfl) (by kernel_rfl))
          have hp0 : ph = 0 := Nat.le_zero.1 (hF 0 17 rfl (Pred.waits_more 8 _ _ (Nat.le_of_ble_eq_true (by kernel_rfl)) (by kernel_rfl)))
          subst hp0
          have hb0 : Bd X W.heap.size b D wr ps (k + 1) (.slice (some ⟨g, 0, none⟩) (k + 1) cap) := hS
          obtain ⟨g9, cap8, e9, _, _, _, hlv⟩ := hb0.lev (by omega)
          cases e9
          obtain ⟨c9, cap9, z, _, z2, z3, z4⟩ := hlv k (by omega)
          rw [HM2.out, ← HQ2.out] at z z2 z4
          exact Pred.yields_run (v := .slice (some ⟨c9, 0, none⟩) q cap9) (Pred.wanted_none rfl) (by go_simp) ⟨Below.refl _ _, Nat.zero_le _, fun _ => ⟨c9, cap9, rfl, z2, z3, z4⟩⟩
        · intro b9 X ph hE hd hn hS hV hI hF
          have r4 : b9.tmps[4]?.getD undef = .pointer (some ⟨b, 0, none⟩) := (hn 4 (by kernel_rfl)).trans rfl
          exact Pred.yields_run (v := .pointer (some ⟨b, 0, none⟩)) (Pred.wanted_none rfl) (by go_simp) ⟨Below.refl _ _, rfl, Nat.zero_le _⟩
        · intro b9 X ph hE hd hn hS hV hI hF
          have r5 : b9.tmps[5]?.getD undef = .int .i64 k := (hn 5 (by kernel_rfl)).trans rfl
          exact Pred.yields_run (v := .int .i64 k) (Pred.wanted_none rfl) (by go_simp) ⟨Below.refl _ _, rfl, Nat.zero_le _⟩
        · intro b9 X ph hE hd hn hS hV hI hF
          obtain ⟨r36, j36⟩ : PredT.At 0 (.pointer (some ⟨b, 0, none⟩)) (b9.tmps[36]?.getD undef) X ph := hV 12 _ 36 rfl rfl (Pred.waits_near (by kernel_rfl) (by kernel_rfl))
          obtain ⟨r37, j37⟩ : PredT.At 0 (.int .i64 k) (b9.tmps[37]?.getD undef) X ph := hV 13 _ 37 rfl rfl (Pred.waits_near (by kernel_rfl) (by kernel_rfl))
          have hp0 : ph = 0 := Nat.le_zero.1 (hF 0 17 rfl (Pred.waits_more 8 _ _ (Nat.le_of_ble_eq_true (by kernel_rfl)) (by kernel_rfl)))
          subst hp0
          have hb0 : Bd X W.heap.size b D wr ps (k + 1) (.slice (some ⟨g, 0, none⟩) (k + 1) cap) := hS
          obtain ⟨z0, _, z2, _⟩ := hb0.cells
          refine Pred.yields_call (f := 19) (args := #[.pointer (some ⟨b, 0, none⟩), .int .i64 k]) (Pred.wanted_none rfl) (by go_simp) ?_
          refine (Size_k k X z0 z2 (by omega) (by omega) hd3 (by omega)).mono ?_
          rintro e w9 ⟨rfl, rfl⟩
          exact ⟨_, rfl, Below.refl _ _, by rw [HM2.out], Nat.zero_le _⟩
        · intro b9 X ph hE hd hn hS hV hI hF
          obtain ⟨j35, r35⟩ : PredT.When 0 (fun u y => ∃ c9 cap9, u = .slice (some ⟨c9, 0, none⟩) q cap9 ∧ q ≤ cap9 ∧ cap9 ≤ maxLen ∧ Reads y 4 (some ⟨c9, 0, none⟩) q (cp (lev ps D k))) (b9.tmps[35]?.getD undef) X ph := hV 11 _ 35 rfl rfl (Pred.waits_near (by kernel_rfl) (by kernel_rfl))
          obtain ⟨r38, j38⟩ : PredT.At 0 (.int .i64 s) (b9.tmps[38]?.getD undef) X ph := hV 14 _ 38 rfl rfl (Pred.waits_near (by kernel_rfl) (by kernel_rfl))
          have hp0 : ph = 0 := Nat.le_zero.1 (hF 0 17 rfl (Pred.waits_more 8 _ _ (Nat.le_of_ble_eq_true (by kernel_rfl)) (by kernel_rfl)))
          subst hp0
          have hb0 : Bd X W.heap.size b D wr ps (k + 1) (.slice (some ⟨g, 0, none⟩) (k + 1) cap) := hS
          obtain ⟨c9, cap9, hv, z2, z3, z4⟩ := r35 rfl
          have r35e : b9.tmps[35]?.getD undef = .slice (some ⟨c9, 0, none⟩) q cap9 := hv
          have hXs := hE.size
          refine Pred.yields_call (f := 42) (args := #[.slice (some ⟨c9, 0, none⟩) q cap9, .int .i64 s]) (Pred.wanted_none rfl) (by go_simp) ?_
          refine (CHf c9 cap9 X z4 z2 z3).mono ?_
          rintro e w9 ⟨v9, rfl, ho, hb⟩
          exact ⟨_, rfl, hb, Nat.zero_le _, fun _ => owns_mono ho (by omega)⟩
        · intro b9 X ph hE hd hn hS hV hI hF
          obtain ⟨j39, r39⟩ : PredT.When 0 (fun u y => y.ownsRow W.heap.size 39 4 u (m * m) (cp (half (lev ps D k) m))) (b9.tmps[39]?.getD undef) X ph := hV 15 _ 39 rfl rfl (Pred.waits_near (by kernel_rfl) (by kernel_rfl))
          have hp0 : ph = 0 := Nat.le_zero.1 (hF 0 17 rfl (Pred.waits_more 8 _ _ (Nat.le_of_ble_eq_true (by kernel_rfl)) (by kernel_rfl)))
          subst hp0
          have hb0 : Bd X W.heap.size b D wr ps (k + 1) (.slice (some ⟨g, 0, none⟩) (k + 1) cap) := hS
          have ho := r39 rfl
          obtain ⟨a9, c9, hv, _⟩ := owns_val ho
          have r39e : b9.tmps[39]?.getD undef = .slice a9 (m * m) c9 := hv
          rw [r39e] at ho
          have hB9 := (Below.refl X.heap.size X).alloc (Nat.le_refl _) (.cells #[.slice a9 (m * m) c9] 22)
          exact Pred.yields_run (v := .slice (some ⟨X.heap.size, 0, none⟩) 1 1) (w' := X.alloc (.cells #[.slice a9 (m * m) c9] 22)) (Pred.wanted_none rfl) (by go_simp) ⟨hB9, Nat.zero_le _, fun _ => ⟨_, ⟨X.heap.size, rfl, blk_alloc_at _ _ _ rfl⟩, owns_below' ho hB9⟩⟩
        · intro b9 X ph hE hd hn hS hV hI hF
          obtain ⟨r24, j24⟩ : PredT.At 0 (.pointer (some ⟨b, 0, none⟩)) (b9.tmps[24]?.getD undef) X ph := hV 0 _ 24 rfl rfl (Pred.waits_near (by kernel_rfl) (by kernel_rfl))
          exact Pred.yields_run (v := .pointer (some ⟨b, 0, none⟩)) (Pred.wanted_none rfl) (by go_simp) ⟨Below.refl _ _, rfl, Nat.zero_le _⟩
        · intro b9 X ph hE hd hn hS hV hI hF
          obtain ⟨r42, j42⟩ : PredT.At 0 (.pointer (some ⟨b, 0, none⟩)) (b9.tmps[42]?.getD undef) X ph := hV 18 _ 42 rfl rfl (Pred.waits_near (by kernel_rfl) (by kernel_rfl))
          exact Pred.yields_run (v := .pointer (some ⟨b, 2, none⟩)) (Pred.wanted_none rfl) (by go_simp) ⟨Below.refl _ _, rfl, Nat.zero_le _⟩
      · refine ⟨?_, ?_, trivial⟩
        · refine ⟨_, rfl, fun k hk => (by cases hk), fun b9 X hE hd hn hS hV hI => ?_⟩
          obtain ⟨r28, j28⟩ : PredT.At 0 (.slice (some ⟨g, 0, none⟩) (k + 1) cap) (b9.tmps[28]?.getD undef) X 0 := hV 4 _ 28 rfl rfl (Pred.waits_near (by kernel_rfl) (by kernel_rfl))
          obtain ⟨j40, r40⟩ : PredT.When 0 (fun u y => ∃ z, OneSl u y z ∧ y.ownsRow W.heap.size 39 4 z (m * m) (cp (half (lev ps D k) m))) (b9.tmps[40]?.getD undef) X 0 := hV 16 _ 40 rfl rfl (Pred.waits_near (by kernel_rfl) (by kernel_rfl))
          replace hS : (fun y => Bd y W.heap.size b D wr ps (k + 1) (.slice (some ⟨g, 0, none⟩) (k + 1) cap)) X := hS
          obtain ⟨z, ⟨g9, hg9, hgc⟩, hz⟩ := r40 rfl
          have hXs := hE.size
          have hb0 : Bd X W.heap.size b D wr ps (k + 1) (.slice (some ⟨g, 0, none⟩) (k + 1) cap) := hS
          obtain ⟨hs, hr1, hr2⟩ := hb0.row
          refine yields_app_sl rfl (.tmp 28) (.tmp 40) rfl W.heap.size (.slice (some ⟨g, 0, none⟩) (k + 1) cap) (k + 1) hs (by simpa [Act.eval] using r28) hr1 g9 1 z (by simpa [Act.eval] using hg9) hgc (own_one hz) (by omega) (by omega) ?_
          intro u y hown hgr
          have hne : ∀ (k : Nat) (cur : Array Value) (T : TypeId), X.heap[k]? = some (.cells cur T (0, 0)) → T ≠ 22 → y.heap[k]? = X.heap[k]? := fun k cur T hk hT => hgr.block k (blk_lt (show blk X k = _ from hk)) (fun e => by obtain ⟨cur2, h9⟩ := own_type hr1 e.symm; rw [hk] at h9; cases h9; exact hT rfl)
          have hbl : blk y b = some (.cells #[.int .i64 D, .bool wr, .slice (some ⟨g, 0, none⟩) (k + 1) cap] 86 (0, 0)) := (hne b _ _ hb0.head (by decide)).trans hb0.head
          refine ⟨OctA.below_grownBy hgr (by omega) (fun k hk => (hr1.lt k hk).1), hbl, by omega, fun _ => ⟨hbl, hs ++ [z], hown, ?_⟩⟩
          refine ⟨by rw [List.length_append, hr2.1]; rfl, fun l hl => ?_⟩
          by_cases hlk9 : l < k + 1
          · obtain ⟨u9, h1, h2⟩ := hr2.2 l hlk9
            refine ⟨u9, by rw [List.getElem?_append_left (by rw [hr2.1]; exact hlk9)]; exact h1, own_keep h2 fun k9 hk9 => ?_⟩
            obtain ⟨cur, hc⟩ := own_type h2 hk9
            exact hne k9 cur _ hc (by decide)
          · obtain rfl : l = k + 1 := by omega
            refine ⟨z, by rw [List.getElem?_append_right (by rw [hr2.1]; exact Nat.le_refl _), hr2.1, Nat.sub_self]; rfl, ?_⟩
            rw [← HM.out, HNX.out]
            refine own_keep hz fun k9 hk9 => ?_
            obtain ⟨cur, hc⟩ := own_type hz hk9
            exact hne k9 cur _ hc (by decide)
        · refine ⟨_, rfl, fun k hk => (by cases hk; exact Pred.waits_near (by kernel_rfl) (by kernel_rfl)), fun b9 X hE hd hn hS hV hI => ?_⟩
          obtain ⟨r43, j43⟩ : PredT.At 0 (.pointer (some ⟨b, 2, none⟩)) (b9.tmps[43]?.getD undef) X 1 := hV 19 _ 43 rfl rfl (Pred.waits_near (by kernel_rfl) (by kernel_rfl))
          obtain ⟨j41, r41⟩ : PredT.When 1 (fun u y => blk y b = some (.cells #[.int .i64 D, .bool wr, .slice (some ⟨g, 0, none⟩) (k + 1) cap] 86 (0, 0)) ∧ ∃ hs, y.ownsRow W.heap.size 22 1 u (k + 2) hs ∧ LvO y W.heap.size D (k + 2) ps hs) (b9.tmps[41]?.getD undef) X 1 := hV 17 _ 41 rfl rfl (Pred.waits_near (by kernel_rfl) (by kernel_rfl))
          replace hS : (fun y => blk y b = some (.cells #[.int .i64 D, .bool wr, .slice (some ⟨g, 0, none⟩) (k + 1) cap] 86 (0, 0))) X := hS
          obtain ⟨hbl, hs, hr1, hr2⟩ := r41 rfl
          clear r41
          obtain ⟨u, hu⟩ : ∃ u, b9.tmps[41]?.getD undef = u := ⟨_, rfl⟩
          rw [hu] at hr1
          obtain ⟨au, cu, rfl, hu1, hu2⟩ := owns_val hr1
          have f0 := blk_frozen hbl 2
          have cz : X.cell? ⟨b, 2, none⟩ = some (.slice (some ⟨g, 0, none⟩) (k + 1) cap) := by rw [blk_cell hbl]; first | done | rfl
          have hbl9 := hbk.lo
          have hk9 : ∀ (k1 : Nat) (cur : Array Value) (T : TypeId), X.heap[k1]? = some (.cells cur T (0, 0)) → T ≠ 86 → (X.setCell ⟨b, 2, none⟩ (.slice au (k + 2) cu)).heap[k1]? = X.heap[k1]? := fun k1 cur T hk hT => heap_setCell_other _ _ _ _ (fun e => by have e9 : k1 = b := e; rw [e9] at hk; have := hk.symm.trans hbl; cases this; exact hT rfl)
          refine yields_skip (w' := X.setCell ⟨b, 2, none⟩ (.slice au (k + 2) cu)) (Pred.wanted_none rfl) (by go_simp) ⟨?_, ⟨_, hbl9, blk_set X b 2 _ _ _ hbl, hs, own_keep hr1 fun k1 h1 => ?_, LvO.keep hr2 fun k1 cur h1 => hk9 k1 cur _ h1 (by decide)⟩, rfl, Nat.zero_le _⟩
          · exact ⟨rfl, rfl, rfl, by simp, fun k1 h1 => heap_setCell_other _ _ _ _ (by show k1 ≠ b; omega)⟩
          · obtain ⟨cur, hc⟩ := own_type hr1 h1
            exact hk9 k1 cur _ hc (by decide)
      intro v X hE hS hv
      replace hS : (fun y => ∃ u, Bd y W.heap.size b D wr ps (k + 2) u) X := hS
      have e0 : v 0 = .pointer (some ⟨b, 0, none⟩) := (hv 0 _ 24 rfl rfl).1
      have e1 : v 1 = .pointer (some ⟨b, 0, none⟩) := (hv 1 _ 25 rfl rfl).1
      have e2 : v 2 = .pointer (some ⟨b, 0, none⟩) := (hv 2 _ 26 rfl rfl).1
      have e3 : v 3 = .pointer (some ⟨b, 2, none⟩) := (hv 3 _ 27 rfl rfl).1
      have e4 : v 4 = .slice (some ⟨g, 0, none⟩) (k + 1) cap := (hv 4 _ 28 rfl rfl).1
      have e5 : v 5 = .pointer (some ⟨b, 0, none⟩) := (hv 5 _ 29 rfl rfl).1
      have e6 : v 6 = .pointer (some ⟨b, 0, none⟩) := (hv 6 _ 30 rfl rfl).1
      have e7 : v 7 = .pointer (some ⟨b, 2, none⟩) := (hv 7 _ 31 rfl rfl).1
      have e8 : v 8 = .slice (some ⟨g, 0, none⟩) (k + 1) cap := (hv 8 _ 32 rfl rfl).1
      have e9 : v 9 = .int .i64 k := (hv 9 _ 33 rfl rfl).1
      have e10 : v 10 = .pointer (some ⟨g, k, none⟩) := (hv 10 _ 34 rfl rfl).1
      generalize hg11 : v 11 = vv11
      have e12 : v 12 = .pointer (some ⟨b, 0, none⟩) := (hv 12 _ 36 rfl rfl).1
      have e13 : v 13 = .int .i64 k := (hv 13 _ 37 rfl rfl).1
      have e14 : v 14 = .int .i64 s := (hv 14 _ 38 rfl rfl).1
      generalize hg15 : v 15 = vv15
      generalize hg16 : v 16 = vv16
      generalize hg17 : v 17 = vv17
      have e18 : v 18 = .pointer (some ⟨b, 0, none⟩) := (hv 18 _ 42 rfl rfl).1
      have e19 : v 19 = .pointer (some ⟨b, 2, none⟩) := (hv 19 _ 43 rfl rfl).1
      simp only [Pred.putsF_cons, Pred.putsF_nil, Nat.zero_add, Nat.reduceAdd, e0, e1, e2, e3, e4, e5, e6, e7, e8, e9, e10, hg11, e12, e13, e14, hg15, hg16, hg17, e18, e19, Act.put, List.setIfInBounds_toArray, List.set_cons_zero, List.set_cons_succ]
      clear e0 e1 e2 e3 e4 e5 e6 e7 e8 e9 e10 hg11 e12 e13 e14 hg15 hg16 hg17 e18 e19 hv
      obtain ⟨u, hu⟩ := hS
      have L3 : Below W.heap.size W X := HL.out.trans hE
      go_wp2_with fail
      go_roundw
      case rel => exact ⟨k + 1, by omega, by go_num, Lib.hid ⟨u, hu⟩, Lib.hid L3⟩
      case measure => simp [intOf]; omega
    · obtain rfl : k = D := by omega
      obtain ⟨u, hbk⟩ := HB.out
      have hp := hbk.pyr hd hlen hB
      have hlo := hbk.lo
      have hL3 := HL.out
      clear HB hbk
      go_wp2_with fail
      go_ret2
      exact ⟨⟨b, rfl, by omega, hp⟩, L1.trans (hL3.mono (by omega))⟩
theorem Build_no (D : Int) (wr : Bool) (ad : Option Addr) (n c : Nat) (w : World) (hM : mayT D n = false) :
    Calls Try.prog 12 #[.agg #[.int .i64 D, .bool wr, .slice ad n c]] w fun e w' => e = .returned (.tuple #[.pointer none, .int .i64 1]) ∧ Below w.heap.size w w' := by
  have CM := Lib.hid (fun X => May_any D wr ad n c X)
  rw [hM] at CM
  clear hM
  go_enter Try.func12, Try.ntmps12
  go_wp2_with fail
  refine (CM.out _).mono ?_
  rintro e w1 ⟨rfl, hb1⟩
  go_wp2_with fail
  go_ret2
  exact ⟨rfl, by repeat' (first | (with_reducible exact Below.refl _ _) | (with_reducible refine Rd.below_step ?_ (by assumption)) | (with_reducible refine Rd.below_alloc ?_ _) | (with_reducible refine Rd.below_drewN ?_ _) | (with_reducible refine Below.drew ?_) | (with_reducible refine Below.setCell ?_ ?_ _) | (with_reducible refine Rd.below_setRow ?_ ?_ _) | go_size | (simp only [World.size_alloc]; omega) | omega)⟩
end Go.Proofs.Ytdjiblgnealmkaa.MpE

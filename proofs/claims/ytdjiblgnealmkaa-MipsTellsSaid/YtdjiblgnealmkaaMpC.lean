/-
  A row of texels that grows; Clone; half.
-/
import Derived.Test.YtdjiblgnealmkaaMpB
import Derived.Test.YtdjiblgnealmkaaApp
import Derived.Test.YtdjiblgnealmkaaPredT
import Derived.Test.YtdjiblgnealmkaaHueB
import Derived.Lib.SliceRun
import Derived.LoopTactic
namespace Go.Proofs.Ytdjiblgnealmkaa.MpC
open Go.RowKit Rd Go.Proofs.Ytdjiblgnealmkaa.Row Mid DkM HueA MpM MpA MpB
set_option linter.unusedVariables false
set_option linter.unusedSimpArgs false
set_option maxRecDepth 10000
variable {X Y : World} {b D : Nat} {wr : Bool} {ps : List Px}
theorem info_colz : (Try.prog.info? 39).map (fun i => (i.zero, i.size, i.bytes)) = some (some Px.z.v, 4, 4) := by kernel_rfl
theorem app_px {ops : Array Oper} {rest : List Oper} {o : Oper} {a : Act} {w : World} {Q : Exit → Act → World → Prop} (hgd : o.guard = none) (s x : Operand)
    (ho : o.op = .call { callee := .builtin .append, args := #[s, x], argTypes := #[22, 22] })
    (base : Nat) (v : Value) (m : Nat) (r : List Px) (hs : a.eval s = v) (hown : w.ownsRow base 39 4 v m (cp r))
    (gx : Nat) (cx : Nat) (y : Px) (hx : a.eval x = .slice (some ⟨gx, 0, none⟩) 1 cx) (hg : blk w gx = some (.cells y.c 39 (0, 0))) (hm : m ≤ 1000000) (hbase : base ≤ w.heap.size)
    (h : ∀ v' w', w'.ownsRow base 39 4 v' (m + 1) (cp (r ++ [y])) → w.grownBy w' v.ownBlock → wpList Try.prog ops Q rest (a.put o.dst v') w') : wpList Try.prog ops Q (o :: rest) a w := by
  obtain ⟨i0, hi, hz0, hz1, hz2⟩ := info_parts info_colz
  refine App.wpList_append_reads w hgd s x 22 ho base 39 i0 _ 4 4 Try.underlying22 hi hz0 hz1 hz2 rfl (by decide) v m (cp r) hs hown (some ⟨gx, 0, none⟩) 1 cx (cp [y]) hx ?_ ?_ (by unfold maxLen; omega) (by omega) hbase ?_
  · refine ⟨by rw [cp_one]; rfl, Or.inr ⟨gx, 0, rfl, blk_lt hg, fun j hj => ?_⟩⟩
    rw [Nat.zero_add, blk_cell hg, cp_one]
    rw [← Px.l_c, List.getElem?_toArray]
  · exact cp_ones _
  · intro v' w' h1 h2
    rw [← cp_app] at h1
    exact h v' w' h1 h2
theorem mean_px {p q r s : Px} (w : World) (hp : p.B) (hq : q.B) (hr : r.B) (hs : s.B) :
    Calls Try.prog 62 #[p.v, q.v, r.v, s.v] w fun e w' => e = .returned (mean p q r s).v ∧ Below w.heap.size w w' :=
  mean_any _ _ _ _ _ _ _ _ _ _ _ _ _ _ _ _ w hp.1 hp.2.1 hp.2.2.1 hp.2.2.2 hq.1 hq.2.1 hq.2.2.1 hq.2.2.2 hr.1 hr.2.1 hr.2.2.1 hr.2.2.2 hs.1 hs.2.1 hs.2.2.1 hs.2.2.2
theorem rmean_px {p q r s : Px} (w : World) (hp : p.B) (hq : q.B) (hr : r.B) (hs : s.B) :
    Calls Try.prog 38 #[p.v, q.v, r.v, s.v] w fun e w' => e = .returned (mean p q r s).v ∧ Below w.heap.size w w' :=
  rmean_any _ _ _ _ _ _ _ _ _ _ _ _ _ _ _ _ w hp.1 hp.2.1 hp.2.2.1 hp.2.2.2 hq.1 hq.2.1 hq.2.2.1 hq.2.2.2 hr.1 hr.2.1 hr.2.2.1 hr.2.2.2 hs.1 hs.2.1 hs.2.2.1 hs.2.2.2
set_option maxHeartbeats 2000000 in
theorem clone_px (ad : Addr) (n c : Nat) (r : List Px) (w : World) (hr : Reads w 4 (some ad) n (cp r)) (hn : n ≤ 1000000) :
    Calls Try.prog 41 #[.slice (some ad) n c] w fun e w' => ∃ v', e = .returned v' ∧ w'.ownsRow w.heap.size 39 4 v' n (cp r) ∧ Below w.heap.size w w' := by
  obtain ⟨i0, hi, hz0, hz1, hz2⟩ := info_parts info_colz
  have q22 : ∀ (w : World) (a : Option Addr) (n c n' c' : Nat), (binOp .eql 22 (.slice a n c) (.slice none n' c')).run Try.prog w = .ok (.bool a.isNone) w := fun w a n c n' c' => Lib.run_eql_slice_nil w _ _ a n c n' c' Try.underlying22
  have hmade := World.ownsRow_made w (e := 39) (size := 4) (base := w.heap.size) #[] 0 (Nat.le_refl _) (by decide) rfl
  have hB : Below w.heap.size w (w.alloc (.cells #[] 39)) := (Below.refl _ _).alloc (Nat.le_refl _) _
  have RA := hr.below hB (Nat.le_refl _)
  clear hr
  go_enter Try.func41, Try.ntmps41
  go_wp2_with (at_builtin; refine App.wpList_append_reads _ rfl (.tmp 5) (.tmp 6) 22 rfl w.heap.size 39 i0 _ 4 4 Try.underlying22 hi hz0 hz1 hz2 rfl (by decide) _ _ _ rfl hmade (some ad) n c (cp r) rfl RA (cp_ones _) (by unfold maxLen; omega) (by omega) (by simp) ?_; intro v3 w3 hown3 hgrow3)
  go_ret
  have L3 := hB.grown hgrow3 (by simp) (fun j hj => (hmade.lt j hj).1)
  exact ⟨_, rfl, by simpa using hown3, L3⟩
attribute [local go_sem ↓] load_col store_col alloc_col
attribute [local go_sem] run_alloc_col run_store_col rowStore_eq blk_alloc_at blk_alloc_old blk_drew blk_drewN blk_grow Px.c_size Px.c_all c_all4
theorem owns_below' {w w' : World} {base : Nat} {e : TypeId} {size : Nat} {v : Value} {n : Nat} {xs : List Value} (h : w.ownsRow base e size v n xs) (hb : Below w.heap.size w w') : w'.ownsRow base e size v n xs := by
  refine ⟨h.1, ?_⟩
  rcases h.2 with hn | ⟨g, cap, cur, rfl, h2, hg, rest⟩
  · exact .inl hn
  · refine .inr ⟨g, cap, cur, rfl, h2, ?_, rest⟩
    rw [hb.block g (Array.getElem?_eq_some_iff.1 hg).1]
    exact hg
theorem fold_px (p : Px) : Array.foldl (fun (cs : Array Value) (x : Value × Nat) => cs.setIfInBounds x.snd x.fst) #[.int .u8 0, .int .u8 0, .int .u8 0, .int .u8 0] p.c.zipIdx 0 4 = p.c := rfl
attribute [local go_sem] fold_px
theorem ld_px0 {X : World} {b n : Nat} {ps : List Px} (h : Reads X 4 (some ⟨b, 0, none⟩) n (cp ps)) {i : Nat} (hi : i < ps.length) :
    (loadRow 39 (.pointer (some ⟨b, i * 4, none⟩))).run Try.prog X = .ok (at_ ps i).v X := by
  have := ld_px h hi
  rwa [Nat.zero_add] at this
def OnePx (y : Px) : Value → World → Prop := fun v w => ∃ g, v = .slice (some ⟨g, 0, none⟩) 1 1 ∧ blk w g = some (.cells y.c 39 (0, 0))
theorem onepx_stab (y : Px) : ∀ v w w', OnePx y v w → Below w.heap.size w w' → OnePx y v w' := fun v w w' ⟨g, h1, h2⟩ hb => ⟨g, h1, (blk_below hb g (blk_lt h2)).trans h2⟩
theorem yields_app_px {ops : Array Oper} {o : Oper} {b : Act} {w : World} {R : Value → World → Prop} (hgd : o.guard = none) (s x : Operand)
    (ho : o.op = .call { callee := .builtin .append, args := #[s, x], argTypes := #[22, 22] })
    (base : Nat) (v : Value) (n : Nat) (r : List Px) (hs : b.eval s = v) (hown : w.ownsRow base 39 4 v n (cp r))
    (g c : Nat) (y : Px) (hx : b.eval x = .slice (some ⟨g, 0, none⟩) 1 c) (hg : blk w g = some (.cells y.c 39 (0, 0)))
    (h63 : n ≤ 1000000) (hbase : base ≤ w.heap.size)
    (h : ∀ v' w', w'.ownsRow base 39 4 v' (n + 1) (cp (r ++ [y])) → w.grownBy w' v.ownBlock → R v' w') : Pred.yields Try.prog ops o b w R := by
  obtain ⟨i0, hi, hz0, hz1, hz2⟩ := info_parts info_colz
  obtain ⟨v', w', hrun, h2, h3⟩ := App.run_append_reads (P := Try.prog) w base 22 o.type 39 i0 _ 4 4 Try.underlying22 hi hz0 hz1 hz2 rfl (by decide) v n (cp r) hown (some ⟨g, 0, none⟩) 1 c (cp [y])
    ⟨by rw [cp_one]; rfl, Or.inr ⟨g, 0, rfl, blk_lt hg, fun j hj => by rw [Nat.zero_add, blk_cell hg, cp_one, ← Px.l_c, List.getElem?_toArray]⟩⟩ (cp_ones _) (by unfold maxLen; omega) (by omega) hbase
  rw [← cp_app] at h2
  refine Pred.yields_run (v := v') (w' := w') (Pred.wanted_none hgd) ?_ (h v' w' h2 h3)
  unfold execOp
  simp only [ho, resolve, invoke, builtin, Sem.run_bind, Sem.run_pure, Result.andThen_ok, List.map_toArray, List.map_cons, List.map_nil, hs, hx, hrun]
set_option maxHeartbeats 8000000 in
theorem half_any (c n cap m : Nat) (r : List Px) (w : World) (hr : Reads w 4 (some ⟨c, 0, none⟩) n (cp r)) (hl : r.length = 2 * m * (2 * m)) (hm : m ≤ 16) (hm0 : 1 ≤ m) (hB : RB r) (hcap : n ≤ cap) (hcm : cap ≤ maxLen) :
    Calls Try.prog 42 #[.slice (some ⟨c, 0, none⟩) n cap, .int .i64 ((2 * m : Nat) : Int)] w fun e w' => ∃ v', e = .returned v' ∧ w'.ownsRow w.heap.size 39 4 v' (m * m) (cp (half r m)) ∧ Below w.heap.size w w' := by
  have hn : n = r.length := by
    have := hr.1
    rw [cp_len] at this
    omega
  have hclt : c < w.heap.size := by
    rcases hr.2 with h | ⟨b, off, h, h2, _⟩
    · exfalso
      have : 1 * 1 ≤ m * m := Nat.mul_le_mul hm0 hm0
      have e4 : 2 * m * (2 * m) = 4 * (m * m) := by rw [Nat.mul_mul_mul_comm]
      omega
    · cases h; exact h2
  have hsq : m * m ≤ 16 * 16 := Nat.mul_le_mul hm hm
  obtain ⟨s, hs⟩ : ∃ s, s = 2 * m := ⟨_, rfl⟩
  rw [← hs]
  have hsm : s ≤ 32 := by omega
  have HS := Lib.hid hs
  have HN := Lib.hid hn
  have HR := Lib.hid hr
  have HL := Lib.hid hl
  clear hn hs hr hl
  go_enter Try.func42, Try.ntmps42
  go_wp2_with fail
  go_loopw [5, 6] (fun v i W => ∃ j y : Nat, j ≤ m ∧ Hid (y = 2 * j) ∧ i = .int .i64 y ∧ Hid (W.ownsRow w.heap.size 39 4 v (m * j) (cp ((half r m).take (m * j)))) ∧ Below w.heap.size w W) (fun _ i _ => (2 * m - (intOf i)).toNat)
  case atStart => exact ⟨0, 0, by omega, Lib.hid rfl, rfl, Lib.hid (by simpa [cp, fl] using World.ownsRow_nil _ _ _ _), by repeat' (first | (with_reducible exact Below.refl _ _) | (with_reducible refine Rd.below_step ?_ (by assumption)) | (with_reducible refine Rd.below_alloc ?_ _) | (with_reducible refine Rd.below_drewN ?_ _) | (with_reducible refine Below.drew ?_) | (with_reducible refine Below.setCell ?_ ?_ _) | (with_reducible refine Rd.below_setRow ?_ ?_ _) | go_size | (simp only [World.size_alloc]; omega) | omega)⟩
  case round =>
    obtain ⟨j, y, hj, HY, rfl, HO, hb⟩ := hrel
    rename World => W
    by_cases hlt : j < m
    · have hlt' : (y : Int) < (s : Int) := by have := HY.out; have := HS.out; omega
      have hyb : y ≤ 32 := by have := HY.out; omega
      obtain ⟨p, hp⟩ : ∃ p, s * y = p := ⟨_, rfl⟩
      have hp' : (s : Int) * (y : Int) = (p : Int) := by exact_mod_cast hp
      have hpb : p ≤ 1024 := by rw [← hp]; exact Nat.mul_le_mul hsm hyb
      have HP := Lib.hid hp
      have hmj : m * j ≤ 16 * 16 := Nat.mul_le_mul hm (by omega)
      clear hp
      go_wp2_with fail
      go_loopw [5, 7] (fun v i Z => ∃ k x : Nat, k ≤ m ∧ Hid (x = 2 * k) ∧ i = .int .i64 x ∧ Hid (Z.ownsRow w.heap.size 39 4 v (m * j + k) (cp ((half r m).take (m * j + k)))) ∧ Below w.heap.size w Z) (fun _ i _ => (2 * m - (intOf i)).toNat)
      case atStart => exact ⟨0, 0, by omega, Lib.hid rfl, rfl, HO, hb⟩
      case round =>
        obtain ⟨k, x, hk, HX, rfl, HZ, hbz⟩ := hrel
        rename World => Z
        by_cases hltx : k < m
        · have hltx' : (x : Int) < (s : Int) := by have := HX.out; have := HS.out; omega
          have hxb : x ≤ 32 := by have := HX.out; omega
          have hfit : p + x + s + 1 < n := by
            have h1 := HP.out
            have h2 := HS.out
            have h3 := HX.out
            have h4 := HY.out
            have h5 := HN.out
            have h6 := HL.out
            have h7 : s * (y + 2) ≤ s * s := Nat.mul_le_mul_left s (by omega)
            rw [Nat.mul_add] at h7
            rw [h5, h6, ← h2]
            omega
          have HRz := HR.out.below (by exact hbz) (Nat.le_refl _)
          have hlen : r.length = n := HN.out.symm
          have g1 := ld_regrown0 HRz (i := p + x) (by omega)
          have g2 := ld_regrown0 HRz (i := p + x + 1) (by omega)
          have g3 := ld_regrown0 HRz (i := p + x + s) (by omega)
          have g4 := ld_regrown0 HRz (i := p + x + s + 1) (by omega)
          have GL := Lib.hid hlen
          have hzs := hbz.size
          clear hlen HRz
          have hf' : (p : Int) + x + s + 1 < n := by omega
          have hRX : ∀ X, Below w.heap.size Z X → Reads X 4 (some ⟨c, 0, none⟩) n (cp r) := fun X hE => HR.out.below (hbz.trans hE) (Nat.le_refl _)
          have hzs := hbz.size
          have hf' : (p : Int) + x + s + 1 < n := by omega
          have hn9 : n ≤ 5000 := by have h1 := HN.out; have h2 := HL.out; have h3 : 2 * m * (2 * m) ≤ 32 * 32 := Nat.mul_le_mul (by omega) (by omega); omega
          have hp0 : (0 : Int) ≤ (p : Int) + x := by omega
          go_upto_region 9 with (fail)
          clear hlt' hltx'
          refine PredT.region_of (W := Z) (w.heap.size) hzs [25] [
              fun y => y.ownsRow (w.heap.size) 39 4 (u5) (m * j + k) (cp ((half r m).take (m * j + k))),
              fun _ => True] [
              PredT.At 0 (u5),
              PredT.At 0 (.slice (some ⟨c, 0, none⟩) n cap),
              PredT.At 0 (.int .i64 ((p : Int) + x)),
              PredT.At 0 (.pointer (some ⟨c, (p + x) * 4, none⟩)),
              PredT.At 0 ((at_ r (p + x)).v),
              PredT.At 0 (.slice (some ⟨c, 0, none⟩) n cap),
              PredT.At 0 (.int .i64 ((p : Int) + x)),
              PredT.At 0 (.int .i64 ((p : Int) + x + 1)),
              PredT.At 0 (.pointer (some ⟨c, (p + x + 1) * 4, none⟩)),
              PredT.At 0 ((at_ r (p + x + 1)).v),
              PredT.At 0 (.slice (some ⟨c, 0, none⟩) n cap),
              PredT.At 0 (.int .i64 ((p : Int) + x)),
              PredT.At 0 (.int .i64 s),
              PredT.At 0 (.int .i64 ((p : Int) + x + s)),
              PredT.At 0 (.pointer (some ⟨c, (p + x + s) * 4, none⟩)),
              PredT.At 0 ((at_ r (p + x + s)).v),
              PredT.At 0 (.slice (some ⟨c, 0, none⟩) n cap),
              PredT.At 0 (.int .i64 ((p : Int) + x)),
              PredT.At 0 (.int .i64 s),
              PredT.At 0 (.int .i64 ((p : Int) + x + s)),
              PredT.At 0 (.int .i64 ((p : Int) + x + s + 1)),
              PredT.At 0 (.pointer (some ⟨c, (p + x + s + 1) * 4, none⟩)),
              PredT.At 0 ((at_ r (p + x + s + 1)).v),
              PredT.At 0 ((mean (at_ r (p + x)) (at_ r (p + x + 1)) (at_ r (p + x + s)) (at_ r (p + x + s + 1))).v),
              PredT.When 0 (OnePx (mean (at_ r (p + x)) (at_ r (p + x + 1)) (at_ r (p + x + s)) (at_ r (p + x + s + 1)))),
              PredT.When 1 (fun u y => y.ownsRow (w.heap.size) 39 4 u (m * j + k + 1) (cp ((half r m).take (m * j + k) ++ [mean (at_ r (p + x)) (at_ r (p + x + 1)) (at_ r (p + x + s)) (at_ r (p + x + s + 1))]))),
              PredT.When 1 (fun u y => y.ownsRow (w.heap.size) 39 4 u (m * j + k + 1) (cp ((half r m).take (m * j + k) ++ [mean (at_ r (p + x)) (at_ r (p + x + 1)) (at_ r (p + x + s)) (at_ r (p + x + s + 1))])))] (by kernel_rfl) (by kernel_rfl) (by kernel_rfl) (by decide) (by decide) ?_ ?_ ?_ ?_ ?_ ?_
          · exact ⟨PredT.at_stab _ _ _ _, PredT.at_stab _ _ _ _, PredT.at_stab _ _ _ _, PredT.at_stab _ _ _ _, PredT.at_stab _ _ _ _, PredT.at_stab _ _ _ _, PredT.at_stab _ _ _ _, PredT.at_stab _ _ _ _, PredT.at_stab _ _ _ _, PredT.at_stab _ _ _ _, PredT.at_stab _ _ _ _, PredT.at_stab _ _ _ _, PredT.at_stab _ _ _ _, PredT.at_stab _ _ _ _, PredT.at_stab _ _ _ _, PredT.at_stab _ _ _ _, PredT.at_stab _ _ _ _, PredT.at_stab _ _ _ _, PredT.at_stab _ _ _ _, PredT.at_stab _ _ _ _, PredT.at_stab _ _ _ _, PredT.at_stab _ _ _ _, PredT.at_stab _ _ _ _, PredT.at_stab _ _ _ _, PredT.when_stab _ _ _ (onepx_stab _), PredT.when_stab _ _ _ (fun u y y' h hb => owns_below' h hb), PredT.when_stab _ _ _ (fun u y y' h hb => owns_below' h hb), trivial⟩
          · intro q hq
            rcases List.mem_cons.1 hq with rfl | hq
            · exact fun y y' h hb => owns_below' h hb
            rcases List.mem_cons.1 hq with rfl | hq
            · exact fun _ _ h _ => trivial
            cases hq
          · exact HZ.out
          · refine ⟨.inr ?_, .inr ?_, .inr ?_, .inr ?_, .inr ?_, .inr ?_, .inr ?_, .inr ?_, .inr ?_, .inr ?_, .inr ?_, .inr ?_, .inr ?_, .inr ?_, .inr ?_, .inr ?_, .inr ?_, .inr ?_, .inr ?_, .inr ?_, .inr ?_, .inr ?_, .inr ?_, .inr ?_, .inr ?_, .inl rfl, .inr ?_, trivial⟩
            · intro b X ph hE hd hn hS hV hI hF
              have r5 : b.tmps[5]?.getD undef = u5 := (hI 26 _ 5 rfl rfl (by kernel_rfl)).trans rfl
              exact Pred.yields_run (v := u5) (Pred.wanted_none rfl) (by go_simp) ⟨Below.refl _ _, rfl, Nat.zero_le _⟩
            · intro b X ph hE hd hn hS hV hI hF
              have r0 : b.tmps[0]?.getD undef = .slice (some ⟨c, 0, none⟩) n cap := (hn 0 (by kernel_rfl)).trans rfl
              exact Pred.yields_run (v := .slice (some ⟨c, 0, none⟩) n cap) (Pred.wanted_none rfl) (by go_simp) ⟨Below.refl _ _, rfl, Nat.zero_le _⟩
            · intro b X ph hE hd hn hS hV hI hF
              have r8 : b.tmps[8]?.getD undef = .int .i64 ((p : Int) + x) := (hn 8 (by kernel_rfl)).trans rfl
              exact Pred.yields_run (v := .int .i64 ((p : Int) + x)) (Pred.wanted_none rfl) (by go_simp) ⟨Below.refl _ _, rfl, Nat.zero_le _⟩
            · intro b X ph hE hd hn hS hV hI hF
              obtain ⟨r25, j25⟩ : PredT.At 0 (.slice (some ⟨c, 0, none⟩) n cap) (b.tmps[25]?.getD undef) X ph := hV 1 _ 25 rfl rfl (Pred.waits_near (by kernel_rfl) (by kernel_rfl))
              obtain ⟨r26, j26⟩ : PredT.At 0 (.int .i64 ((p : Int) + x)) (b.tmps[26]?.getD undef) X ph := hV 2 _ 26 rfl rfl (Pred.waits_near (by kernel_rfl) (by kernel_rfl))
              have h8 : (0 : Int) ≤ (p : Int) + x := by omega
              have h9 : ((p : Int) + x : Int) < (n : Int) := by omega
              exact Pred.yields_run (v := .pointer (some ⟨c, (p + x) * 4, none⟩)) (Pred.wanted_none rfl) (by go_simp) ⟨Below.refl _ _, rfl, Nat.zero_le _⟩
            · intro b X ph hE hd hn hS hV hI hF
              obtain ⟨r27, j27⟩ : PredT.At 0 (.pointer (some ⟨c, (p + x) * 4, none⟩)) (b.tmps[27]?.getD undef) X ph := hV 3 _ 27 rfl rfl (Pred.waits_near (by kernel_rfl) (by kernel_rfl))
              have z := ld_px0 (hRX X hE) (i := p + x) (by have := HN.out; omega)
              exact Pred.yields_run (v := (at_ r (p + x)).v) (Pred.wanted_none rfl) (by go_simp) ⟨Below.refl _ _, rfl, Nat.zero_le _⟩
            · intro b X ph hE hd hn hS hV hI hF
              have r0 : b.tmps[0]?.getD undef = .slice (some ⟨c, 0, none⟩) n cap := (hn 0 (by kernel_rfl)).trans rfl
              exact Pred.yields_run (v := .slice (some ⟨c, 0, none⟩) n cap) (Pred.wanted_none rfl) (by go_simp) ⟨Below.refl _ _, rfl, Nat.zero_le _⟩
            · intro b X ph hE hd hn hS hV hI hF
              have r8 : b.tmps[8]?.getD undef = .int .i64 ((p : Int) + x) := (hn 8 (by kernel_rfl)).trans rfl
              exact Pred.yields_run (v := .int .i64 ((p : Int) + x)) (Pred.wanted_none rfl) (by go_simp) ⟨Below.refl _ _, rfl, Nat.zero_le _⟩
            · intro b X ph hE hd hn hS hV hI hF
              obtain ⟨r30, j30⟩ : PredT.At 0 (.int .i64 ((p : Int) + x)) (b.tmps[30]?.getD undef) X ph := hV 6 _ 30 rfl rfl (Pred.waits_near (by kernel_rfl) (by kernel_rfl))
              have h9 := IntWalk.i64_in ((p : Int) + x + 1) (by omega)
              exact Pred.yields_run (v := .int .i64 ((p : Int) + x + 1)) (Pred.wanted_none rfl) (by go_simp) ⟨Below.refl _ _, rfl, Nat.zero_le _⟩
            · intro b X ph hE hd hn hS hV hI hF
              obtain ⟨r29, j29⟩ : PredT.At 0 (.slice (some ⟨c, 0, none⟩) n cap) (b.tmps[29]?.getD undef) X ph := hV 5 _ 29 rfl rfl (Pred.waits_near (by kernel_rfl) (by kernel_rfl))
              obtain ⟨r31, j31⟩ : PredT.At 0 (.int .i64 ((p : Int) + x + 1)) (b.tmps[31]?.getD undef) X ph := hV 7 _ 31 rfl rfl (Pred.waits_near (by kernel_rfl) (by kernel_rfl))
              have h8 : (0 : Int) ≤ (p : Int) + x + 1 := by omega
              have h9 : ((p : Int) + x + 1 : Int) < (n : Int) := by omega
              exact Pred.yields_run (v := .pointer (some ⟨c, (p + x + 1) * 4, none⟩)) (Pred.wanted_none rfl) (by go_simp) ⟨Below.refl _ _, rfl, Nat.zero_le _⟩
            · intro b X ph hE hd hn hS hV hI hF
              obtain ⟨r32, j32⟩ : PredT.At 0 (.pointer (some ⟨c, (p + x + 1) * 4, none⟩)) (b.tmps[32]?.getD undef) X ph := hV 8 _ 32 rfl rfl (Pred.waits_near (by kernel_rfl) (by kernel_rfl))
              have z := ld_px0 (hRX X hE) (i := p + x + 1) (by have := HN.out; omega)
              exact Pred.yields_run (v := (at_ r (p + x + 1)).v) (Pred.wanted_none rfl) (by go_simp) ⟨Below.refl _ _, rfl, Nat.zero_le _⟩
            · intro b X ph hE hd hn hS hV hI hF
              have r0 : b.tmps[0]?.getD undef = .slice (some ⟨c, 0, none⟩) n cap := (hn 0 (by kernel_rfl)).trans rfl
              exact Pred.yields_run (v := .slice (some ⟨c, 0, none⟩) n cap) (Pred.wanted_none rfl) (by go_simp) ⟨Below.refl _ _, rfl, Nat.zero_le _⟩
            · intro b X ph hE hd hn hS hV hI hF
              have r8 : b.tmps[8]?.getD undef = .int .i64 ((p : Int) + x) := (hn 8 (by kernel_rfl)).trans rfl
              exact Pred.yields_run (v := .int .i64 ((p : Int) + x)) (Pred.wanted_none rfl) (by go_simp) ⟨Below.refl _ _, rfl, Nat.zero_le _⟩
            · intro b X ph hE hd hn hS hV hI hF
              have r1 : b.tmps[1]?.getD undef = .int .i64 s := (hn 1 (by kernel_rfl)).trans rfl
              exact Pred.yields_run (v := .int .i64 s) (Pred.wanted_none rfl) (by go_simp) ⟨Below.refl _ _, rfl, Nat.zero_le _⟩
            · intro b X ph hE hd hn hS hV hI hF
              obtain ⟨r35, j35⟩ : PredT.At 0 (.int .i64 ((p : Int) + x)) (b.tmps[35]?.getD undef) X ph := hV 11 _ 35 rfl rfl (Pred.waits_near (by kernel_rfl) (by kernel_rfl))
              obtain ⟨r36, j36⟩ : PredT.At 0 (.int .i64 s) (b.tmps[36]?.getD undef) X ph := hV 12 _ 36 rfl rfl (Pred.waits_near (by kernel_rfl) (by kernel_rfl))
              have h9 := IntWalk.i64_in ((p : Int) + x + s) (by omega)
              exact Pred.yields_run (v := .int .i64 ((p : Int) + x + s)) (Pred.wanted_none rfl) (by go_simp) ⟨Below.refl _ _, rfl, Nat.zero_le _⟩
            · intro b X ph hE hd hn hS hV hI hF
              obtain ⟨r34, j34⟩ : PredT.At 0 (.slice (some ⟨c, 0, none⟩) n cap) (b.tmps[34]?.getD undef) X ph := hV 10 _ 34 rfl rfl (Pred.waits_near (by kernel_rfl) (by kernel_rfl))
              obtain ⟨r37, j37⟩ : PredT.At 0 (.int .i64 ((p : Int) + x + s)) (b.tmps[37]?.getD undef) X ph := hV 13 _ 37 rfl rfl (Pred.waits_near (by kernel_rfl) (by kernel_rfl))
              have h8 : (0 : Int) ≤ (p : Int) + x + s := by omega
              have h9 : ((p : Int) + x + s : Int) < (n : Int) := by omega
              exact Pred.yields_run (v := .pointer (some ⟨c, (p + x + s) * 4, none⟩)) (Pred.wanted_none rfl) (by go_simp) ⟨Below.refl _ _, rfl, Nat.zero_le _⟩
            · intro b X ph hE hd hn hS hV hI hF
              obtain ⟨r38, j38⟩ : PredT.At 0 (.pointer (some ⟨c, (p + x + s) * 4, none⟩)) (b.tmps[38]?.getD undef) X ph := hV 14 _ 38 rfl rfl (Pred.waits_near (by kernel_rfl) (by kernel_rfl))
              have z := ld_px0 (hRX X hE) (i := p + x + s) (by have := HN.out; omega)
              exact Pred.yields_run (v := (at_ r (p + x + s)).v) (Pred.wanted_none rfl) (by go_simp) ⟨Below.refl _ _, rfl, Nat.zero_le _⟩
            · intro b X ph hE hd hn hS hV hI hF
              have r0 : b.tmps[0]?.getD undef = .slice (some ⟨c, 0, none⟩) n cap := (hn 0 (by kernel_rfl)).trans rfl
              exact Pred.yields_run (v := .slice (some ⟨c, 0, none⟩) n cap) (Pred.wanted_none rfl) (by go_simp) ⟨Below.refl _ _, rfl, Nat.zero_le _⟩
            · intro b X ph hE hd hn hS hV hI hF
              have r8 : b.tmps[8]?.getD undef = .int .i64 ((p : Int) + x) := (hn 8 (by kernel_rfl)).trans rfl
              exact Pred.yields_run (v := .int .i64 ((p : Int) + x)) (Pred.wanted_none rfl) (by go_simp) ⟨Below.refl _ _, rfl, Nat.zero_le _⟩
            · intro b X ph hE hd hn hS hV hI hF
              have r1 : b.tmps[1]?.getD undef = .int .i64 s := (hn 1 (by kernel_rfl)).trans rfl
              exact Pred.yields_run (v := .int .i64 s) (Pred.wanted_none rfl) (by go_simp) ⟨Below.refl _ _, rfl, Nat.zero_le _⟩
            · intro b X ph hE hd hn hS hV hI hF
              obtain ⟨r41, j41⟩ : PredT.At 0 (.int .i64 ((p : Int) + x)) (b.tmps[41]?.getD undef) X ph := hV 17 _ 41 rfl rfl (Pred.waits_near (by kernel_rfl) (by kernel_rfl))
              obtain ⟨r42, j42⟩ : PredT.At 0 (.int .i64 s) (b.tmps[42]?.getD undef) X ph := hV 18 _ 42 rfl rfl (Pred.waits_near (by kernel_rfl) (by kernel_rfl))
              have h9 := IntWalk.i64_in ((p : Int) + x + s) (by omega)
              exact Pred.yields_run (v := .int .i64 ((p : Int) + x + s)) (Pred.wanted_none rfl) (by go_simp) ⟨Below.refl _ _, rfl, Nat.zero_le _⟩
            · intro b X ph hE hd hn hS hV hI hF
              obtain ⟨r43, j43⟩ : PredT.At 0 (.int .i64 ((p : Int) + x + s)) (b.tmps[43]?.getD undef) X ph := hV 19 _ 43 rfl rfl (Pred.waits_near (by kernel_rfl) (by kernel_rfl))
              have h9 := IntWalk.i64_in ((p : Int) + x + s + 1) (by omega)
              exact Pred.yields_run (v := .int .i64 ((p : Int) + x + s + 1)) (Pred.wanted_none rfl) (by go_simp) ⟨Below.refl _ _, rfl, Nat.zero_le _⟩
            · intro b X ph hE hd hn hS hV hI hF
              obtain ⟨r40, j40⟩ : PredT.At 0 (.slice (some ⟨c, 0, none⟩) n cap) (b.tmps[40]?.getD undef) X ph := hV 16 _ 40 rfl rfl (Pred.waits_near (by kernel_rfl) (by kernel_rfl))
              obtain ⟨r44, j44⟩ : PredT.At 0 (.int .i64 ((p : Int) + x + s + 1)) (b.tmps[44]?.getD undef) X ph := hV 20 _ 44 rfl rfl (Pred.waits_near (by kernel_rfl) (by kernel_rfl))
              have h8 : (0 : Int) ≤ (p : Int) + x + s + 1 := by omega
              have h9 : ((p : Int) + x + s + 1 : Int) < (n : Int) := by omega
              exact Pred.yields_run (v := .pointer (some ⟨c, (p + x + s + 1) * 4, none⟩)) (Pred.wanted_none rfl) (by go_simp) ⟨Below.refl _ _, rfl, Nat.zero_le _⟩
            · intro b X ph hE hd hn hS hV hI hF
              obtain ⟨r45, j45⟩ : PredT.At 0 (.pointer (some ⟨c, (p + x + s + 1) * 4, none⟩)) (b.tmps[45]?.getD undef) X ph := hV 21 _ 45 rfl rfl (Pred.waits_near (by kernel_rfl) (by kernel_rfl))
              have z := ld_px0 (hRX X hE) (i := p + x + s + 1) (by have := HN.out; omega)
              exact Pred.yields_run (v := (at_ r (p + x + s + 1)).v) (Pred.wanted_none rfl) (by go_simp) ⟨Below.refl _ _, rfl, Nat.zero_le _⟩
            · intro b X ph hE hd hn hS hV hI hF
              obtain ⟨r28, j28⟩ : PredT.At 0 ((at_ r (p + x)).v) (b.tmps[28]?.getD undef) X ph := hV 4 _ 28 rfl rfl (Pred.waits_near (by kernel_rfl) (by kernel_rfl))
              obtain ⟨r33, j33⟩ : PredT.At 0 ((at_ r (p + x + 1)).v) (b.tmps[33]?.getD undef) X ph := hV 9 _ 33 rfl rfl (Pred.waits_near (by kernel_rfl) (by kernel_rfl))
              obtain ⟨r39, j39⟩ : PredT.At 0 ((at_ r (p + x + s)).v) (b.tmps[39]?.getD undef) X ph := hV 15 _ 39 rfl rfl (Pred.waits_near (by kernel_rfl) (by kernel_rfl))
              obtain ⟨r46, j46⟩ : PredT.At 0 ((at_ r (p + x + s + 1)).v) (b.tmps[46]?.getD undef) X ph := hV 22 _ 46 rfl rfl (Pred.waits_near (by kernel_rfl) (by kernel_rfl))
              refine Pred.yields_call (f := 62) (args := #[(at_ r (p + x)).v, (at_ r (p + x + 1)).v, (at_ r (p + x + s)).v, (at_ r (p + x + s + 1)).v]) (Pred.wanted_none rfl) (by go_simp) ?_
              refine (mean_px X (hB.at _) (hB.at _) (hB.at _) (hB.at _)).mono ?_
              rintro e w9 ⟨rfl, hb⟩
              exact ⟨_, rfl, hb, rfl, Nat.zero_le _⟩
            · intro b X ph hE hd hn hS hV hI hF
              obtain ⟨r47, j47⟩ : PredT.At 0 ((mean (at_ r (p + x)) (at_ r (p + x + 1)) (at_ r (p + x + s)) (at_ r (p + x + s + 1))).v) (b.tmps[47]?.getD undef) X ph := hV 23 _ 47 rfl rfl (Pred.waits_near (by kernel_rfl) (by kernel_rfl))
              exact Pred.yields_run (v := .slice (some ⟨X.heap.size, 0, none⟩) 1 1) (w' := X.alloc (.cells (mean (at_ r (p + x)) (at_ r (p + x + 1)) (at_ r (p + x + s)) (at_ r (p + x + s + 1))).c 39)) (Pred.wanted_none rfl) (by go_simp) ⟨(Below.refl _ _).alloc (Nat.le_refl _) _, Nat.zero_le _, fun _ => ⟨X.heap.size, rfl, blk_alloc_at _ _ _ rfl⟩⟩
            · intro b X ph hE hd hn hS hV hI hF
              obtain ⟨j49, r49⟩ : PredT.When 1 (fun u y => y.ownsRow (w.heap.size) 39 4 u (m * j + k + 1) (cp ((half r m).take (m * j + k) ++ [mean (at_ r (p + x)) (at_ r (p + x + 1)) (at_ r (p + x + s)) (at_ r (p + x + s + 1))]))) (b.tmps[49]?.getD undef) X ph := hV 25 _ 49 rfl rfl (Pred.waits_near (by kernel_rfl) (by kernel_rfl))
              have hown := r49
              exact Pred.yields_run (v := b.tmps[49]?.getD undef) (Pred.wanted_none rfl) (by go_simp) ⟨Below.refl _ _, j49, hown⟩
          · refine ⟨?_, trivial⟩
            · refine ⟨_, rfl, fun k hk => (by cases hk), fun b X hE hd hn hS hV hI => ?_⟩
              obtain ⟨r24, j24⟩ : PredT.At 0 (u5) (b.tmps[24]?.getD undef) X 0 := hV 0 _ 24 rfl rfl (Pred.waits_near (by kernel_rfl) (by kernel_rfl))
              obtain ⟨j48, r48⟩ : PredT.When 0 (OnePx (mean (at_ r (p + x)) (at_ r (p + x + 1)) (at_ r (p + x + s)) (at_ r (p + x + s + 1)))) (b.tmps[48]?.getD undef) X 0 := hV 24 _ 48 rfl rfl (Pred.waits_near (by kernel_rfl) (by kernel_rfl))
              replace hS : (fun y => y.ownsRow (w.heap.size) 39 4 (u5) (m * j + k) (cp ((half r m).take (m * j + k)))) X := hS
              obtain ⟨g, hg, hgc⟩ := r48 rfl
              have hsz := hE.size
              refine yields_app_px rfl (.tmp 24) (.tmp 48) rfl (w.heap.size) (u5) (m * j + k) ((half r m).take (m * j + k)) (by simpa [Act.eval] using r24) hS g 1 (mean (at_ r (p + x)) (at_ r (p + x + 1)) (at_ r (p + x + s)) (at_ r (p + x + s + 1))) (by simpa [Act.eval] using hg) hgc (by omega) (by omega) ?_
              intro u y hown hgr
              exact ⟨OctA.below_grownBy hgr (by omega) (fun k hk => (hS.lt k hk).1), trivial, by omega, fun _ => hown⟩
          intro v X hE hS hv
          replace hS : (fun _ => True) X := hS
          have e0 : v 0 = u5 := (hv 0 _ 24 rfl rfl).1
          have e1 : v 1 = .slice (some ⟨c, 0, none⟩) n cap := (hv 1 _ 25 rfl rfl).1
          have e2 : v 2 = .int .i64 ((p : Int) + x) := (hv 2 _ 26 rfl rfl).1
          have e3 : v 3 = .pointer (some ⟨c, (p + x) * 4, none⟩) := (hv 3 _ 27 rfl rfl).1
          have e4 : v 4 = (at_ r (p + x)).v := (hv 4 _ 28 rfl rfl).1
          have e5 : v 5 = .slice (some ⟨c, 0, none⟩) n cap := (hv 5 _ 29 rfl rfl).1
          have e6 : v 6 = .int .i64 ((p : Int) + x) := (hv 6 _ 30 rfl rfl).1
          have e7 : v 7 = .int .i64 ((p : Int) + x + 1) := (hv 7 _ 31 rfl rfl).1
          have e8 : v 8 = .pointer (some ⟨c, (p + x + 1) * 4, none⟩) := (hv 8 _ 32 rfl rfl).1
          have e9 : v 9 = (at_ r (p + x + 1)).v := (hv 9 _ 33 rfl rfl).1
          have e10 : v 10 = .slice (some ⟨c, 0, none⟩) n cap := (hv 10 _ 34 rfl rfl).1
          have e11 : v 11 = .int .i64 ((p : Int) + x) := (hv 11 _ 35 rfl rfl).1
          have e12 : v 12 = .int .i64 s := (hv 12 _ 36 rfl rfl).1
          have e13 : v 13 = .int .i64 ((p : Int) + x + s) := (hv 13 _ 37 rfl rfl).1
          have e14 : v 14 = .pointer (some ⟨c, (p + x + s) * 4, none⟩) := (hv 14 _ 38 rfl rfl).1
          have e15 : v 15 = (at_ r (p + x + s)).v := (hv 15 _ 39 rfl rfl).1
          have e16 : v 16 = .slice (some ⟨c, 0, none⟩) n cap := (hv 16 _ 40 rfl rfl).1
          have e17 : v 17 = .int .i64 ((p : Int) + x) := (hv 17 _ 41 rfl rfl).1
          have e18 : v 18 = .int .i64 s := (hv 18 _ 42 rfl rfl).1
          have e19 : v 19 = .int .i64 ((p : Int) + x + s) := (hv 19 _ 43 rfl rfl).1
          have e20 : v 20 = .int .i64 ((p : Int) + x + s + 1) := (hv 20 _ 44 rfl rfl).1
          have e21 : v 21 = .pointer (some ⟨c, (p + x + s + 1) * 4, none⟩) := (hv 21 _ 45 rfl rfl).1
          have e22 : v 22 = (at_ r (p + x + s + 1)).v := (hv 22 _ 46 rfl rfl).1
          have e23 : v 23 = (mean (at_ r (p + x)) (at_ r (p + x + 1)) (at_ r (p + x + s)) (at_ r (p + x + s + 1))).v := (hv 23 _ 47 rfl rfl).1
          generalize hg24 : v 24 = vv24
          generalize hg25 : v 25 = vv25
          have HQ : X.ownsRow (w.heap.size) 39 4 (v 26) (m * j + k + 1) (cp ((half r m).take (m * j + k) ++ [mean (at_ r (p + x)) (at_ r (p + x + 1)) (at_ r (p + x + s)) (at_ r (p + x + s + 1))])) := (hv 26 _ 5 rfl rfl).2 rfl
          generalize hg26 : v 26 = vv26 at HQ
          simp only [Pred.putsF_cons, Pred.putsF_nil, Nat.zero_add, Nat.reduceAdd, e0, e1, e2, e3, e4, e5, e6, e7, e8, e9, e10, e11, e12, e13, e14, e15, e16, e17, e18, e19, e20, e21, e22, e23, hg24, hg25, hg26, Act.put, List.setIfInBounds_toArray, List.set_cons_zero, List.set_cons_succ]
          clear e0 e1 e2 e3 e4 e5 e6 e7 e8 e9 e10 e11 e12 e13 e14 e15 e16 e17 e18 e19 e20 e21 e22 e23 hg24 hg25 hg26 hv
          have L4 : Below w.heap.size w X := hbz.trans hE
          go_wp2_with fail
          have HT := half_take r (m := m) (x := k) (y := j) (by omega) (by omega)
          have hx2 := HX.out
          have e9 : 2 * m * (2 * j) = p := by rw [← HS.out, ← HY.out]; exact HP.out
          rw [e9, ← hx2, ← HS.out] at HT
          exact ⟨⟨k + 1, x + 2, by omega, Lib.hid (by omega), by go_num, Lib.hid (by rw [show m * j + (k + 1) = m * j + k + 1 by omega, HT]; exact HQ), L4⟩, by simp [intOf]; omega⟩
        · obtain rfl : k = m := by omega
          have hxs : ¬ (x : Int) < (s : Int) := by have := HX.out; have := HS.out; omega
          go_wp2_with fail
          exact ⟨⟨j + 1, y + 2, by omega, Lib.hid (by have := HY.out; omega), by go_num, Lib.hid (by rw [Nat.mul_add, Nat.mul_one]; exact HZ.out), hbz⟩, by have := HS.out; have := HY.out; simp [intOf]; omega⟩
    · obtain rfl : j = m := by omega
      have hys : ¬ (y : Int) < (s : Int) := by have := HY.out; have := HS.out; omega
      go_wp2_with fail
      go_ret
      exact ⟨_, rfl, by have := HO.out; rwa [List.take_of_length_le (by rw [half_len]; exact Nat.le_refl _)] at this, hb⟩
end Go.Proofs.Ytdjiblgnealmkaa.MpC

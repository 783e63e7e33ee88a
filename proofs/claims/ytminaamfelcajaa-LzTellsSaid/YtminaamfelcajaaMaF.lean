/-
  All places that match: the iterator.
-/
import Derived.Test.YtminaamfelcajaaMaE
import Derived.Test.YtminaamfelcajaaIt
import Derived.Sort.BigQuietIn
import Derived.Lib.QuietBelowIn
namespace Go.Proofs.Ytminaamfelcajaa.MaF
open Go.RowKit Go.Shelf Rd Go.Proofs.Ytminaamfelcajaa.Row MaM MaA MaB MaC MaD MaE It
set_option linter.unusedVariables false
set_option linter.unusedSimpArgs false
set_option maxRecDepth 10000
attribute [local go_sem] Oper.semAt_some
/-! the walk down a chain, as numbers -/
section
variable {l : List Int} {k : Nat}
theorem hs_al (l : List Int) : ∀ i j, (∀ t, t < 3 → l.getD (i + t) 0 = l.getD (j + t) 0) → hs l i = hs l j := fun i j h => hs_alike l i j h
theorem no_end (hk : k + 3 ≤ l.length) {m : Nat} (hm : m ≤ k) (hi : lastOf l.length (hs l) (hs l k) m = -1) : ∀ d, k - m < d → d ≤ k → mat l k d = false := fun d h5 h6 => by
  rw [Bool.eq_false_iff]
  intro hd
  obtain ⟨-, e0, e1, e2⟩ := mat_iff.1 hd
  refine last_none _ hi (k - d) (by omega) ⟨by omega, hs_al l _ _ fun t ht => ?_⟩
  have : t = 0 ∨ t = 1 ∨ t = 2 := by omega
  rcases this with rfl | rfl | rfl
  · exact e0.symm
  · exact e1.symm
  · exact e2.symm
theorem no_far (hk : k + 3 ≤ l.length) {m i : Nat} (hm : m ≤ k) (hi : lastOf l.length (hs l) (hs l k) m = (i : Int)) : ∀ d, k - m < d → d ≤ k - i - 1 → mat l k d = false := fun d h5 h6 => by
  obtain ⟨h1, h2, h3, h4⟩ := last_some _ _ hi
  rw [Bool.eq_false_iff]
  intro hd
  obtain ⟨-, e0, e1, e2⟩ := mat_iff.1 hd
  refine h4 (k - d) (by omega) (by omega) ⟨by omega, hs_al l _ _ fun t ht => ?_⟩
  have : t = 0 ∨ t = 1 ∨ t = 2 := by omega
  rcases this with rfl | rfl | rfl
  · exact e0.symm
  · exact e1.symm
  · exact e2.symm
/-- where the walk is, and what it has yielded -/
def Rel (l : List Int) (k : Nat) (z : Int) (pre : List Nat) : Prop :=
  (z = -1 ∧ pre = all l k) ∨ ∃ i : Nat, z = i ∧ i < k ∧ k + 3 ≤ l.length ∧ hs l i = hs l k ∧ pre = ds (mat l k) (min 4096 (k - i - 1))
theorem rel_next (hk : k + 3 ≤ l.length) {m : Nat} (hm : m ≤ k) (hh : hs l m = hs l k) (h4 : k - m ≤ 4096) : Rel l k (bef l.length (hs l) m) (ds (mat l k) (k - m)) := by
  have e : bef l.length (hs l) m = lastOf l.length (hs l) (hs l k) m := by unfold bef; rw [if_pos (by omega), hh]
  rw [e]
  have hb := last_bd (N := l.length) (H := hs l) (h := hs l k) m
  by_cases h0 : lastOf l.length (hs l) (hs l k) m = -1
  · left
    refine ⟨h0, ?_⟩
    exact (ds_none (by omega) fun d h5 h6 => no_end hk hm h0 d h5 (by omega)).symm
  · right
    obtain ⟨i, hi⟩ : ∃ i : Nat, lastOf l.length (hs l) (hs l k) m = i := ⟨(lastOf l.length (hs l) (hs l k) m).toNat, by omega⟩
    obtain ⟨h1, h2, h3, h5⟩ := last_some _ _ hi
    exact ⟨i, hi, by omega, hk, h3, (ds_none (by omega) fun d h6 h7 => no_far hk hm hi d h6 (by omega)).symm⟩
theorem rel_start : Rel l k (bef l.length (hs l) k) [] := by
  by_cases hk : k + 3 ≤ l.length
  · have := rel_next hk (Nat.le_refl k) rfl (by omega)
    rw [Nat.sub_self] at this
    exact this
  · exact .inl ⟨if_neg hk, (all_short hk).symm⟩
theorem rel_far {i : Nat} {pre : List Nat} (h : Rel l k (i : Int) pre) (hf : 4096 < k - i) : pre = all l k := by
  rcases h with ⟨h1, -⟩ | ⟨j, h1, h2, h3, h4, h5⟩
  · omega
  · obtain rfl : j = i := by omega
    rw [h5]
    unfold all
    congr 1
    omega
theorem rel_yield {i : Nat} {pre : List Nat} (h : Rel l k (i : Int) pre) (hf : k - i ≤ 4096) (hb : b3 l i k = true) : pre ++ [k - i] = ds (mat l k) (k - i) ∧ pre ++ [k - i] <+: all l k := by
  rcases h with ⟨h1, -⟩ | ⟨j, h1, h2, h3, h4, h5⟩
  · omega
  · obtain rfl : j = i := by omega
    have e : pre ++ [k - j] = ds (mat l k) (k - j) := by
      rw [h5, show min 4096 (k - j - 1) = k - j - 1 by omega]
      have h6 := ds_succ (M := mat l k) (k - j - 1)
      rw [show k - j - 1 + 1 = k - j by omega, b3_mat (by omega) h3, if_pos hb] at h6
      exact h6.symm
    exact ⟨e, by rw [e]; exact ds_pre (by omega)⟩
theorem rel_skip {i : Nat} {pre : List Nat} (h : Rel l k (i : Int) pre) (hf : k - i ≤ 4096) (hb : b3 l i k = false) : pre = ds (mat l k) (k - i) := by
  rcases h with ⟨h1, -⟩ | ⟨j, h1, h2, h3, h4, h5⟩
  · omega
  · obtain rfl : j = i := by omega
    rw [h5, show min 4096 (k - j - 1) = k - j - 1 by omega]
    have h6 := ds_succ (M := mat l k) (k - j - 1)
    rw [show k - j - 1 + 1 = k - j by omega, b3_mat (by omega) h3, if_neg (by rw [hb]; decide), List.append_nil] at h6
    exact h6.symm
theorem rel_on {i : Nat} {pre : List Nat} (h : Rel l k (i : Int) pre) : i < k ∧ k + 3 ≤ l.length ∧ hs l i = hs l k := by
  rcases h with ⟨h1, -⟩ | ⟨j, h1, h2, h3, h4, h5⟩
  · omega
  · obtain rfl : j = i := by omega
    exact ⟨h2, h3, h4⟩
end
/-! a finder that stands -/
structure Fx (X : World) (f : Nat) (ba : Option Addr) (cb g : Nat) (l : List Int) : Prop where
  hd : Hd X f ba (some ⟨g, 0, none⟩) l.length cb l.length
  own : ∃ lo, X.ownsRow lo 5 1 (.slice ba l.length cb) l.length (us l)
  bfr : blk X g = some (.cells (iv (befL l)).toArray 3 (0, 0))
theorem St.fx {w Y : World} {f : Nat} {ba : Option Addr} {cb g : Nat} {l : List Int} (h : St w Y f ba cb g l (befL l)) : Fx Y f ba cb g l := ⟨h.hd, ⟨_, h.own⟩, h.bef⟩
theorem Fx.bel {Y Z : World} {f : Nat} {ba : Option Addr} {cb g : Nat} {l : List Int} (h : Fx Y f ba cb g l) (hb : Below Y.heap.size Y Z) : Fx Z f ba cb g l := by
  obtain ⟨lo, ho⟩ := h.own
  exact ⟨h.hd.bel hb, ⟨lo, own_bel ho hb⟩, (blk_below hb g (blk_lt h.bfr)).trans h.bfr⟩
theorem Fx.reads {Y : World} {f : Nat} {ba : Option Addr} {cb g : Nat} {l : List Int} (h : Fx Y f ba cb g l) : Reads Y 1 ba l.length (us l) := by
  obtain ⟨lo, ho⟩ := h.own
  exact Reads.of_owns ho
theorem blk_kept {X Y : World} {row : Option Nat} {k : Nat} {c : Array Value} {T : TypeId} {fr : Nat × Nat} (h : blk X k = some (.cells c T fr)) (hg : X.grownBy Y row) (hr : ∀ r, row = some r → ∃ o : Obj, X.heap[r]? = some o ∧ o.isCells = false) : blk Y k = some (.cells c T fr) :=
  (hg.block k (get_lt h) fun e => by
    obtain ⟨o, ho, hc⟩ := hr k e.symm
    rw [show X.heap[k]? = _ from h] at ho
    cases ho
    cases hc).trans h
theorem Fx.grown {X Y : World} {row : Option Nat} {f : Nat} {ba : Option Addr} {cb g : Nat} {l : List Int} (h : Fx X f ba cb g l) (hg : X.grownBy Y row) (hr : ∀ r, row = some r → ∃ o : Obj, X.heap[r]? = some o ∧ o.isCells = false) : Fx Y f ba cb g l := by
  obtain ⟨lo, ho⟩ := h.own
  refine ⟨⟨blk_kept h.hd.head hg hr, h.hd.cap, h.hd.big⟩, ⟨lo, own_keep ho fun k cur hk => ?_⟩, blk_kept h.bfr hg hr⟩
  exact (blk_kept (show blk X k = _ from hk) hg hr).trans hk.symm
theorem befL_at {l : List Int} {i : Nat} (hi : i < l.length) : (befL l).getD i 0 = bef l.length (hs l) i := by
  simp [befL, List.getD, hi]
theorem befL_len (l : List Int) : (befL l).length = l.length := by simp [befL]
theorem Fx.at_ {X : World} {f : Nat} {ba : Option Addr} {cb g : Nat} {l : List Int} (h : Fx X f ba cb g l) {i : Nat} (hi : i < l.length) : X.cell? ⟨g, i, none⟩ = some (.int .i64 (bef l.length (hs l) i)) := by
  rw [← befL_at hi]
  exact iv_cell h.bfr (by rw [befL_len]; exact hi)
/-! the iterator -/
def Bx (b : Nat) (v : Value) (T : TypeId) (X : World) : Prop := blk X b = some (.cells #[v] T (0, 0))
theorem Bx.cell {b : Nat} {v : Value} {T : TypeId} {X : World} (h : Bx b v T X) : X.cell? ⟨b, 0, none⟩ = some v := by rw [blk_cell h]; rfl
def encN (d : Nat) : Array Value := #[.int .i64 (d : Int)]
theorem grown_of {X Y : World} (h : Below X.heap.size X Y) : X.grownBy Y none := ⟨h.os, h.tape, h.output, h.size, fun k hk _ => h.block k hk⟩
theorem own_step {β : Type} {B : Nat} {J : β → World → Prop} (h : OwnFrom B J) {s : β} {X Y : World} (hs : J s X) (hb : Below X.heap.size X Y) : J s Y := h s X Y none hs (grown_of hb) (fun r e => by cases e)
theorem enters_places : ∀ args w, (callFunc 41 args).run Try.prog w = .ok (.enter 41 args) w := enters_of Try.func41 (by kernel_rfl) rfl
theorem places_any (v : Value) (k : Int) (w : World) (hv : v.oneCell' = true) :
    Calls Try.prog 33 #[v, .int .i64 k] w fun e w' => e = .returned (.func (.func 41) #[] #[.pointer (some ⟨w.heap.size, 0, none⟩), .pointer (some ⟨w.heap.size + 1, 0, none⟩)]) ∧ w' = (w.alloc (.cells #[v] 41)).alloc (.cells #[.int .i64 k] 3) := by
  have hmf : ∀ (fn : Fn) (first cap : Array Value) (w : World), (Instr.makeFunc fn first cap).run Try.prog w = .ok (.func fn first cap) w := fun _ _ _ _ => rfl
  go_enter Try.func33, Try.ntmps33
  go_wp2
  go_ret
  exact ⟨rfl, rfl⟩
/-- what an iterator's caller keeps: a finder, a place -/
def Kf (f : Nat) (ba : Option Addr) (cb g : Nat) (l : List Int) (k b1 b2 : Nat) (X : World) : Prop :=
  Bx b1 (.pointer (some ⟨f, 0, none⟩)) 41 X ∧ Bx b2 (.int .i64 (k : Int)) 3 X ∧ Fx X f ba cb g l
theorem begins_fx {X : World} {f : Nat} {ba : Option Addr} {cb g : Nat} {l : List Int} (h : Fx X f ba cb g l) (i k : Nat) (hi : i + 3 ≤ l.length) (hk : k + 3 ≤ l.length) (hl : l.length ≤ 1000000) :
    Calls Try.prog 42 #[.pointer (some ⟨f, 0, none⟩), .int .i64 i, .int .i64 k] X fun e w' => e = .returned (.bool (b3 l i k)) ∧ Below X.heap.size X w' := by
  obtain ⟨p, o, rfl, -, -⟩ := cell_u8 h.reads rfl (by omega)
  exact begins_any f p o _ l cb _ i k X h.hd h.reads hi hk hl
theorem length_fx {X : World} {f : Nat} {ba : Option Addr} {cb g : Nat} {l : List Int} (h : Fx X f ba cb g l) (i k : Nat) (hi : i ≤ k) (hk : k < l.length) (hl : l.length ≤ 1000000) :
    Calls Try.prog 34 #[.pointer (some ⟨f, 0, none⟩), .int .i64 i, .int .i64 k] X fun e w' => e = .returned (.int .i64 (runL l k (k - i))) ∧ Below X.heap.size X w' := by
  obtain ⟨p, o, rfl, -, -⟩ := cell_u8 h.reads rfl (by omega)
  exact length_any f p o _ l cb _ i k X h.hd h.reads hi hk hl
set_option maxHeartbeats 4000000 in
theorem places_seq (f : Nat) (ba : Option Addr) (cb g : Nat) (l : List Int) (k b1 b2 : Nat) (hk : k < l.length) (hl : l.length ≤ 1000000) :
    Seq Try.prog 41 #[.pointer (some ⟨b1, 0, none⟩), .pointer (some ⟨b2, 0, none⟩)] encN (all l k) (Kf f ba cb g l k b1 b2) := by
  intro lo J Jx Own W hJ hJx hM hK hY h0
  obtain ⟨n, hn⟩ : ∃ n, l.length = n := ⟨_, rfl⟩
  have HN := Lib.hid hn
  have HY := Lib.hid hY
  have HJ := Lib.hid hJ
  have HK := Lib.hid hK
  clear hY hJ
  have HR0 := Lib.hid (rel_start (l := l) (k := k))
  obtain ⟨z0, hz0⟩ : ∃ z, bef l.length (hs l) k = z := ⟨_, rfl⟩
  rw [hz0] at HR0
  have HZ0 := Lib.hid hz0
  have hk' : (k : Int) < (n : Int) := by omega
  have d0 : decide ((k : Int) < 0) = false := decide_eq_false (by omega)
  have d1 : decide ((n : Int) ≤ (k : Int)) = false := decide_eq_false (by omega)
  have d2 : decide (n ≤ k) = false := decide_eq_false (by omega)
  have HKL := Lib.hid hk
  rw [hn] at hl
  have H0 := Lib.hid h0
  clear h0 hK hn hz0 hk
  have LAY : Hid (∀ pre X, J pre X → X.cell? ⟨b1, 0, none⟩ = some (.pointer (some ⟨f, 0, none⟩)) ∧ X.cell? ⟨b2, 0, none⟩ = some (.int .i64 k) ∧ X.cell? ⟨f, 0, none⟩ = some (.slice ba n cb) ∧ X.cell? ⟨f, 1, none⟩ = some (.slice (some ⟨g, 0, none⟩) n n) ∧ ∀ i, i < n → X.cell? ⟨g, i, none⟩ = some (.int .i64 (bef l.length (hs l) i))) := Lib.hid (fun pre X h => by
    have k0 := HK.out _ _ h
    have c3 := k0.2.2.hd.c0
    have c4 := k0.2.2.hd.c1
    rw [HN.out] at c3 c4
    exact ⟨k0.1.cell, k0.2.1.cell, c3, c4, fun i hi => k0.2.2.at_ (by rw [HN.out]; exact hi)⟩)
  obtain ⟨c1, c2, c3, -, -⟩ := LAY.out _ _ H0.out
  have g1 := Go.cell_regrown c1
  have g2 := Go.cell_regrown c2
  have g3 := Go.cell_regrown c3
  refine callsIn_wide.1 (callsIn_of_wp (F := Fence.wide) (n := 0) Try.func41 rfl trivial ?_ rfl)
  simp only [Try.ntmps41, List.size_toArray, List.length_cons, List.length_nil, Nat.reduceAdd, Nat.reduceSub, Array.replicate_succ, Array.replicate_zero, List.push_toArray, List.append_toArray, List.nil_append, List.cons_append]
  gi_wp2_with fail
  refine wpIn_region_quiet_below rfl (by kernel_rfl) (by kernel_rfl) ?_
  iterate 15 gi_big_quiet_step (fail)
  refine wpQuietIn_nil ?_
  intro U hU
  have KU := Rd.below_of_regrown hU
  have H1 := Lib.hid (own_step HJ.out H0.out KU)
  have S1 := KU.size
  clear hU KU g1 g2 g3 c1 c2 c3 H0
  obtain ⟨c1, c2, c3, c4, c5⟩ := LAY.out _ _ H1.out
  replace c5 := c5 k (by rw [← HN.out]; exact HKL.out)
  rw [HZ0.out] at c5
  have g1 := Go.cell_regrown c1
  have g2 := Go.cell_regrown c2
  have g4 := Go.cell_regrown c4
  have g5 := Go.cell_regrown c5
  gi_wp2_with fail
  refine wpIn_region_quiet_below rfl (by kernel_rfl) (by kernel_rfl) ?_
  iterate 8 gi_big_quiet_step (fail)
  refine wpQuietIn_nil ?_
  intro V hV
  have KV := Rd.below_of_regrown hV
  have H2 := Lib.hid (own_step HJ.out H1.out KV)
  have S2 := Nat.le_trans S1 KV.size
  clear hV KV g1 g2 g4 g5 c1 c2 c3 c4 c5 H1 S1
  gi_wp2_with fail
  gi_loopw [4] (fun v X => ∃ (z : Int) (pre : List Nat), v = .int .i64 z ∧ Hid (Rel l k z pre) ∧ Hid (J pre X) ∧ W.heap.size ≤ X.heap.size) (fun v _ => (intOf v + 1).toNat)
  case atStart => exact ⟨z0, [], rfl, HR0, H2, S2⟩
  case round =>
    clear HR0 HZ0 H2 S2
    obtain ⟨z, pre, rfl, HRel, HJx, hsx⟩ := hrel
    rename World => Z
    by_cases hz : z = -1
    · subst hz
      have HE : Hid (J (all l k) Z) := Lib.hid (by
        rcases HRel.out with ⟨-, e⟩ | ⟨i, e, -⟩
        · rw [← e]; exact HJx.out
        · omega)
      clear HRel
      gi_wp2
      go_end0
      exact ⟨⟨_, rfl⟩, .inl HE.out⟩
    · obtain ⟨i, hi⟩ : ∃ i : Nat, z = i := by
        rcases HRel.out with ⟨e, -⟩ | ⟨i, e, -⟩
        · exact absurd e hz
        · exact ⟨i, e⟩
      subst hi
      have HON := Lib.hid (rel_on HRel.out)
      have e1 : ((i : Int) == -1) = false := by simp
      obtain ⟨c1, c2, -, c4, c5⟩ := LAY.out _ _ HJx.out
      obtain ⟨d, hd⟩ : ∃ d : Nat, (k : Int) - (i : Int) = d := ⟨k - i, by have := HON.out.1; omega⟩
      have hik := HON.out.1
      by_cases hf : d ≤ 4096
      · have hf' : (d : Int) ≤ 4096 := by omega
        have hdk : k - i = d := by omega
        have hkl : k + 3 ≤ l.length := HON.out.2.1
        have CB := begins_fx (HK.out _ _ HJx.out).2.2 i k (by omega) hkl (by rw [HN.out]; exact hl)
        have HCB := Lib.hid CB
        have hbf := bef_bd (N := l.length) (H := hs l) i
        have HBF := Lib.hid hbf
        have hin : i < n := by rw [← HN.out]; omega
        clear CB hkl hbf c4 c5
        cases hb : b3 l i k with
        | true =>
          rw [hb] at HCB
          have HP := Lib.hid (rel_yield HRel.out (by omega) hb)
          rw [hdk] at HP
          gi_wp2_with fail
          refine ⟨trivial, rfl, (callsIn_wide.2 HCB.out).mono ?_⟩
          rintro e Z1 ⟨rfl, hb1⟩
          have HJ1 := Lib.hid (own_step HJ.out HJx.out hb1)
          have hs1 := Nat.le_trans hsx hb1.size
          clear hb1 c1 c2 HJx hsx HCB
          obtain ⟨-, c2, -, -, -⟩ := LAY.out _ _ HJ1.out
          obtain ⟨fn, tmps, assign, body, hy, hR⟩ := HY.out _ _ Z1 HJ1.out HP.out.2 hs1
          have hy' : (Instr.yield lo #[.int .i64 (d : Int)]).run Try.prog Z1 = .ok (.round lo fn tmps assign body) Z1 := hy
          clear hy
          gi_wp2
          refine ⟨rfl, hR.mono ?_⟩
          rintro e Z2 ⟨hkf, (⟨rfl, hJ2, ho2⟩ | ⟨rfl, hJ2⟩)⟩
          · have H3 := Lib.hid hJ2
            have S3 : W.heap.size ≤ Z2.heap.size := Nat.le_trans hs1 hkf.1
            clear hJ2 hkf ho2 c2 hy' HJ1 hs1
            obtain ⟨c1, -, -, c4, c5⟩ := LAY.out _ _ H3.out
            replace c5 := c5 i hin
            obtain ⟨z2, hz2⟩ : ∃ z, bef l.length (hs l) i = z := ⟨_, rfl⟩
            rw [hz2] at c5 HBF
            have HR2 := Lib.hid (rel_next HON.out.2.1 (Nat.le_of_lt hik) HON.out.2.2 (by omega))
            rw [hz2, hdk, ← HP.out.1] at HR2
            have hin' : (i : Int) < (n : Int) := by omega
            clear hz2
            gi_wp2
            go_roundw
            case rel => exact ⟨z2, _, rfl, HR2, H3, S3⟩
            case measure => have := HBF.out; simp [intOf]; omega
          · have H3 := Lib.hid hJ2
            clear hJ2 hkf c2 hy'
            gi_wp2
            refine bodyPost_ret (results_none rfl _ _ _) rfl ?_
            exact ⟨⟨_, rfl⟩, .inr ⟨_, HP.out.2, H3.out⟩⟩
        | false =>
          rw [hb] at HCB
          have HP := Lib.hid (rel_skip HRel.out (by omega) hb)
          gi_wp2_with fail
          refine ⟨trivial, rfl, (callsIn_wide.2 HCB.out).mono ?_⟩
          rintro e Z1 ⟨rfl, hb1⟩
          have H3 := Lib.hid (own_step HJ.out HJx.out hb1)
          have S3 := Nat.le_trans hsx hb1.size
          clear hb1 c1 c2 HJx hsx HCB
          obtain ⟨c1, -, -, c4, c5⟩ := LAY.out _ _ H3.out
          replace c5 := c5 i hin
          obtain ⟨z2, hz2⟩ : ∃ z, bef l.length (hs l) i = z := ⟨_, rfl⟩
          rw [hz2] at c5 HBF
          have HR2 := Lib.hid (rel_next HON.out.2.1 (Nat.le_of_lt hik) HON.out.2.2 (by omega))
          rw [hz2, ← HP.out] at HR2
          have hin' : (i : Int) < (n : Int) := by omega
          clear hz2
          gi_wp2
          refine ⟨fun f e => (by cases e), ?_⟩
          gi_wp2
          go_roundw
          case rel => exact ⟨z2, _, rfl, HR2, H3, S3⟩
          case measure => have := HBF.out; simp [intOf]; omega
      · have hf' : ¬ (d : Int) ≤ 4096 := by omega
        have HE : Hid (J (all l k) Z) := Lib.hid (by rw [← rel_far HRel.out (by omega)]; exact HJx.out)
        clear HRel
        gi_wp2
        go_end0
        exact ⟨⟨_, rfl⟩, .inl HE.out⟩
end Go.Proofs.Ytminaamfelcajaa.MaF

/-
  The bits of the reference, one by one.
-/
import Derived.Test.YtminaamfelcajaaBitE
import Derived.Test.YtminaamfelcajaaPredT
namespace Go.Proofs.Ytminaamfelcajaa.BitH
open Go.RowKit Rd Go.Proofs.Ytminaamfelcajaa.Row OctA BitA BitB BitC BitD BitE
set_option linter.unusedVariables false
set_option linter.unusedSimpArgs false
set_option maxRecDepth 100000
abbrev bl (l : List Nat) : List Int := l.map (fun b : Nat => (b : Int))
def RSt0 (w : World) (p : Nat) (v : Value) (l : List Nat) : Prop :=
  blk w p = some (.cells #[v] 48 (0, 0)) ∧ w.ownsRow (p + 1) 5 1 v l.length (u8s (bl l))
/-- the reference's writer has bits -/
def RB (w : World) (p : Nat) (v : Value) (l : List Nat) : Prop := RSt0 w p v l ∧ Bits l
theorem RB.lt {w : World} {p : Nat} {v : Value} {l : List Nat} (h : RB w p v l) : p < w.heap.size := blk_lt h.1.1
theorem RB.own {w : World} {p : Nat} {v : Value} {l : List Nat} (h : RB w p v l) (k : Nat) (hk : v.ownBlock = some k) : p < k ∧ k < w.heap.size := by
  have := h.1.2.lt k hk
  omega
theorem RB.keep {w w' : World} {p : Nat} {v : Value} {l : List Nat} (h : RB w p v l) (hp : w'.heap[p]? = w.heap[p]?) (hv : ∀ k, v.ownBlock = some k → w'.heap[k]? = w.heap[k]?) : RB w' p v l :=
  ⟨⟨hp.trans h.1.1, keep_own h.1.2 hv⟩, h.2⟩
theorem RB.below {w w' : World} {p : Nat} {v : Value} {l : List Nat} (h : RB w p v l) (hb : Below w.heap.size w w') : RB w' p v l :=
  RB.keep h (hb.block _ (blk_lt h.1.1)) (fun k hk => hb.block k (h.1.2.lt k hk).2)
theorem Fr.of_below {w w' : World} {p : Nat} {v : Value} (h : Below w.heap.size w w') : Fr w w' p v v := ⟨h.os, h.tape, h.output, h.size, fun k hk _ _ => h.block k hk, .inl rfl⟩
theorem FrB.below {a b : World} {p : Nat} {v v' : Value} {l : List Nat} (h : Fr a b p v v') (hW : RB a p v l) {B : Nat} (hB : B ≤ p) : Below B a b :=
  (h.below (Nat.le_of_lt (RB.lt hW)) (fun k hk => Nat.le_of_lt (RB.own hW k hk).1)).mono hB
theorem rb_new (w : World) : RB (w.alloc (.cells #[.slice none 0 0] 48)) w.heap.size (.slice none 0 0) [] :=
  ⟨⟨blk_alloc_at _ _ _ rfl, by unfold World.ownsRow; exact ⟨rfl, .inl ⟨rfl, rfl⟩⟩⟩, fun b hb => by cases hb⟩
section
variable {P : Program}
theorem yields_skip {ops : Array Oper} {o : Oper} {b : Act} {w w' : World} {R : Value → World → Prop} (hw : Region.wanted o (yielded ops b.tmps) = true) (hr : (execOp b.eval o).run P w = .ok .skip w') (h : R undef w') : Pred.yields P ops o b w R := by
  unfold Pred.yields; rw [if_pos hw, hr]; exact h
theorem yields_append2 {ops : Array Oper} {o : Oper} {b : Act} {w : World} {R : Value → World → Prop} (hgd : o.guard = none) (s x : Operand) (t : TypeId)
    (ho : o.op = .call { callee := .builtin .append, args := #[s, x], argTypes := #[t, t] })
    (base : Nat) (e : TypeId) (ht : P.underlying t = some (.slice e)) (hinfo : (P.info? e).map (fun i => (i.zero, i.size, i.bytes)) = some (some (.int .u8 0), 1, 1))
    (v : Value) (n : Nat) (xs : List Value) (hs : b.eval s = v) (hown : w.ownsRow base e 1 v n xs)
    (ad : Addr) (m c : Nat) (news : List Value) (hx : b.eval x = .slice (some ad) m c) (hl : news.length = m) (hm : 0 < m) (hnews : ∀ j u, news[j]? = some u → w.cell? (ad.add j) = some u) (h1 : ∀ u ∈ news, u.oneCell' = true)
    (h63 : n + m ≤ 1000000) (hbase : base ≤ w.heap.size)
    (h : ∀ v' w', w'.ownsRow base e 1 v' (n + m) (xs ++ news) → w.grownBy w' v.ownBlock → (v'.ownBlock = v.ownBlock ∨ v'.ownBlock = some w.heap.size) → R v' w') : Pred.yields P ops o b w R := by
  obtain ⟨i, hi, hz0, hz1, hz2⟩ := info_parts hinfo
  obtain ⟨v', w', hrun, h2, h3, h4⟩ := PredC.run_append_own2 (P := P) w base t o.type e i (.int .u8 0) 1 1 ht hi hz0 hz1 hz2 rfl (by decide) v n xs hown ad m c news (by omega) hm hnews h1 (by unfold maxLen; omega) (by omega) hbase
  refine Pred.yields_run (v := v') (w' := w') (Pred.wanted_none hgd) ?_ (h v' w' h2 h3 h4)
  unfold execOp
  simp only [ho, resolve, invoke, builtin, Sem.run_bind, Sem.run_pure, Result.andThen_ok, List.map_toArray, List.map_cons, List.map_nil, hs, hx, hrun]
end
/-- a slice of one number -/
def One (b : Nat) : Value → World → Prop := fun v w => ∃ g, v = .slice (some ⟨g, 0, none⟩) 1 1 ∧ g < w.heap.size ∧ w.cell? ⟨g, 0, none⟩ = some (.int .u8 b)
theorem one_stab (b : Nat) : ∀ v w w', One b v w → Below w.heap.size w w' → One b v w' := fun v w w' ⟨g, h1, h2, h3⟩ hb => ⟨g, h1, Nat.lt_of_lt_of_le h2 hb.size, (hb.cell (p := ⟨g, 0, none⟩) h2).trans h3⟩
theorem Fr.keep_below {W w w' : World} {p : Nat} {v v' : Value} (h : Fr W w p v v') (hb : Below w.heap.size w w') : Fr W w' p v v' := h.trans (Fr.of_below hb)
set_option maxHeartbeats 2000000 in
theorem rput_ok (p : Nat) (v : Value) (l : List Nat) (x n : Nat) (w : World) (hW : RB w p v l) (hn : n ≤ 32) (hx : x < 2 ^ n) (hl : l.length ≤ 90000) :
    Calls Try.prog 20 #[.pointer (some ⟨p, 0, none⟩), .int .i64 x, .int .i64 n] w fun e w' => ∃ v', e = .returned (.int .i64 0) ∧ RB w' p v' (l ++ putL x n) ∧ Fr w w' p v v' := by
  have hx' : (x : Int) / 2 ^ n = 0 := by
    have h1 : x / 2 ^ n = 0 := Nat.div_eq_of_lt hx
    have h2 : ((x / 2 ^ n : Nat) : Int) = 0 := by rw [h1]; rfl
    simpa using h2
  have H0 := Lib.hid hW
  clear hW
  go_enter Try.func20, Try.ntmps20
  go_wp2_with fail
  clear hx'
  go_loopw [7] (fun i wr => ∃ k : Nat, k ≤ n ∧ i = .int .i64 ((n : Int) - 1 - k) ∧ ∃ v', Hid (RB wr p v' (l ++ (putL x n).take k)) ∧ Hid (Fr w wr p v v')) (fun i _ => (intOf i + 1).toNat)
  case atStart => exact ⟨0, Nat.zero_le _, by simp, v, by simpa [Hid] using H0.out, Fr.refl _ _ _⟩
  case round =>
    obtain ⟨k, hk, rfl, v', H1, H2⟩ := hrel
    by_cases hlt : k < n
    · obtain ⟨j, hj⟩ : ∃ j, j = n - 1 - k := ⟨_, rfl⟩
      have hj' : (n : Int) - 1 - k = (j : Int) := by omega
      have hj0 : (0 : Int) ≤ j := by omega
      rw [hj']
      have harg : bits .and .i64 ((x : Int) / 2 ^ j) 1 % 256 = ((x / 2 ^ j % 2 : Nat) : Int) := by
        rw [show (x : Int) / 2 ^ j = ((x / 2 ^ j : Nat) : Int) by simp, and_one]
        omega
      have hand : bits .and .i64 ((x : Int) / 2 ^ j) 1 = ((x / 2 ^ j % 2 : Nat) : Int) := by
        rw [show (x : Int) / 2 ^ j = ((x / 2 ^ j : Nat) : Int) by simp, and_one]
      have HT := putL_take (x := x) hlt
      rw [← hj] at HT
      have hb1 : x / 2 ^ j % 2 ≤ 1 := by omega
      obtain ⟨bt, hbt⟩ : ∃ bt, bt = x / 2 ^ j % 2 := ⟨_, rfl⟩
      rw [← hbt] at harg hand hb1 HT
      have HT' := Lib.hid HT
      have HJ := Lib.hid hj
      have hlen : (l ++ (putL x n).take k).length ≤ 90100 := by simp [putL_length]; omega
      obtain ⟨ll, hll⟩ : ∃ ll, ll = l ++ (putL x n).take k := ⟨_, rfl⟩
      rw [← hll] at H1 hlen
      have HLL := Lib.hid hll
      clear HT hj hbt hll
      go_upto_region 6 with (fail)
      refine Rd.name_world ?_
      intro W hW
      rw [← hW] at H1 H2
      have hpW := RB.lt H1.out
      clear hW
      refine PredT.region_of (W := W) (p) (Nat.le_of_lt hpW) [11, 14] [
          fun y => RB y p v' ll ∧ Fr W y p v' v',
          fun y => p < y.heap.size,
          fun y => ∃ u, RB y p u (ll ++ [bt]) ∧ Fr W y p v' u] [
          PredT.At 0 (.pointer (some ⟨p, 0, none⟩)),
          PredT.At 0 (.pointer (some ⟨p, 0, none⟩)),
          PredT.At 0 (.pointer (some ⟨p, 0, none⟩)),
          PredT.At 0 (.pointer (some ⟨p, 0, none⟩)),
          PredT.At 0 (v'),
          PredT.At 0 (.int .i64 x),
          PredT.At 0 (.int .i64 j),
          PredT.At 0 (.int .i64 ((x : Int) / 2 ^ j)),
          PredT.At 0 (.int .i64 bt),
          PredT.At 0 (.int .u8 bt),
          PredT.When 0 (One bt),
          PredT.When 1 (fun u y => blk y p = some (.cells #[v'] 48 (0, 0)) ∧ y.ownsRow (p + 1) 5 1 u (ll ++ [bt]).length (u8s (bl (ll ++ [bt]))) ∧ Fr W y p v' u),
          PredT.At 0 (.pointer (some ⟨p, 0, none⟩)),
          PredT.At 0 (.pointer (some ⟨p, 0, none⟩)),
          PredT.At 0 (undef)] (by kernel_rfl) (by kernel_rfl) (by kernel_rfl) (by decide) (by decide) ?_ ?_ ?_ ?_ ?_ ?_
      · exact ⟨PredT.at_stab _ _ _ _, PredT.at_stab _ _ _ _, PredT.at_stab _ _ _ _, PredT.at_stab _ _ _ _, PredT.at_stab _ _ _ _, PredT.at_stab _ _ _ _, PredT.at_stab _ _ _ _, PredT.at_stab _ _ _ _, PredT.at_stab _ _ _ _, PredT.at_stab _ _ _ _, PredT.when_stab _ _ _ (one_stab bt), PredT.when_stab _ _ _ (fun u y y' h hb => ⟨(hb.block _ (blk_lt h.1)).trans h.1, keep_own h.2.1 fun k hk => hb.block k (h.2.1.lt k hk).2, Fr.keep_below h.2.2 hb⟩), PredT.at_stab _ _ _ _, PredT.at_stab _ _ _ _, PredT.at_stab _ _ _ _, trivial⟩
      · intro q hq
        rcases List.mem_cons.1 hq with rfl | hq
        · exact fun y y' h hb => ⟨RB.below h.1 hb, Fr.keep_below h.2 hb⟩
        rcases List.mem_cons.1 hq with rfl | hq
        · exact fun y y' h hb => Nat.lt_of_lt_of_le h hb.size
        rcases List.mem_cons.1 hq with rfl | hq
        · exact fun y y' ⟨u, h1, h2⟩ hb => ⟨u, RB.below h1 hb, Fr.keep_below h2 hb⟩
        cases hq
      · exact ⟨H1.out, Fr.refl _ _ _⟩
      · refine ⟨.inr ?_, .inr ?_, .inr ?_, .inr ?_, .inr ?_, .inr ?_, .inr ?_, .inr ?_, .inr ?_, .inr ?_, .inr ?_, .inl rfl, .inr ?_, .inr ?_, .inl rfl, trivial⟩
        · intro b X p1 hE hd hn hS hV hI hF
          have r0 : b.tmps[0]?.getD undef = .pointer (some ⟨p, 0, none⟩) := (hn 0 (by kernel_rfl)).trans rfl
          exact Pred.yields_run (v := .pointer (some ⟨p, 0, none⟩)) (Pred.wanted_none rfl) (by go_simp) ⟨Below.refl _ _, rfl, Nat.zero_le _⟩
        · intro b X p1 hE hd hn hS hV hI hF
          have r0 : b.tmps[0]?.getD undef = .pointer (some ⟨p, 0, none⟩) := (hn 0 (by kernel_rfl)).trans rfl
          exact Pred.yields_run (v := .pointer (some ⟨p, 0, none⟩)) (Pred.wanted_none rfl) (by go_simp) ⟨Below.refl _ _, rfl, Nat.zero_le _⟩
        · intro b X p1 hE hd hn hS hV hI hF
          obtain ⟨r31, j31⟩ : PredT.At 0 (.pointer (some ⟨p, 0, none⟩)) (b.tmps[31]?.getD undef) X p1 := hV 1 _ 31 rfl rfl (Pred.waits_near (by kernel_rfl) (by kernel_rfl))
          have hpx : p < X.heap.size := Nat.lt_of_lt_of_le hpW hE.size
          exact Pred.yields_run (v := .pointer (some ⟨p, 0, none⟩)) (Pred.wanted_none rfl) (by go_simp) ⟨Below.refl _ _, rfl, Nat.zero_le _⟩
        · intro b X p1 hE hd hn hS hV hI hF
          obtain ⟨r32, j32⟩ : PredT.At 0 (.pointer (some ⟨p, 0, none⟩)) (b.tmps[32]?.getD undef) X p1 := hV 2 _ 32 rfl rfl (Pred.waits_near (by kernel_rfl) (by kernel_rfl))
          have hpx : p < X.heap.size := Nat.lt_of_lt_of_le hpW hE.size
          exact Pred.yields_run (v := .pointer (some ⟨p, 0, none⟩)) (Pred.wanted_none rfl) (by go_simp) ⟨Below.refl _ _, rfl, Nat.zero_le _⟩
        · intro b X p1 hE hd hn hS hV hI hF
          obtain ⟨r33, j33⟩ : PredT.At 0 (.pointer (some ⟨p, 0, none⟩)) (b.tmps[33]?.getD undef) X p1 := hV 3 _ 33 rfl rfl (Pred.waits_near (by kernel_rfl) (by kernel_rfl))
          have rb : RB X p v' ll ∧ Fr W X p v' v' := by
            have hp0 : p1 = 0 := Nat.le_zero.1 (hF 0 11 rfl (Pred.waits_near (by kernel_rfl) (by kernel_rfl)))
            subst hp0
            exact hS
          have cz := blk_cell rb.1.1.1 0
          simp only [List.getElem?_toArray, List.getElem?_cons_zero] at cz
          exact Pred.yields_run (v := v') (Pred.wanted_none rfl) (by go_simp) ⟨Below.refl _ _, rfl, Nat.zero_le _⟩
        · intro b X p1 hE hd hn hS hV hI hF
          have r1 : b.tmps[1]?.getD undef = .int .i64 x := (hn 1 (by kernel_rfl)).trans rfl
          exact Pred.yields_run (v := .int .i64 x) (Pred.wanted_none rfl) (by go_simp) ⟨Below.refl _ _, rfl, Nat.zero_le _⟩
        · intro b X p1 hE hd hn hS hV hI hF
          have r7 : b.tmps[7]?.getD undef = .int .i64 j := (hn 7 (by kernel_rfl)).trans rfl
          exact Pred.yields_run (v := .int .i64 j) (Pred.wanted_none rfl) (by go_simp) ⟨Below.refl _ _, rfl, Nat.zero_le _⟩
        · intro b X p1 hE hd hn hS hV hI hF
          obtain ⟨r35, j35⟩ : PredT.At 0 (.int .i64 x) (b.tmps[35]?.getD undef) X p1 := hV 5 _ 35 rfl rfl (Pred.waits_near (by kernel_rfl) (by kernel_rfl))
          obtain ⟨r36, j36⟩ : PredT.At 0 (.int .i64 j) (b.tmps[36]?.getD undef) X p1 := hV 6 _ 36 rfl rfl (Pred.waits_near (by kernel_rfl) (by kernel_rfl))
          exact Pred.yields_run (v := .int .i64 ((x : Int) / 2 ^ j)) (Pred.wanted_none rfl) (by go_simp) ⟨Below.refl _ _, rfl, Nat.zero_le _⟩
        · intro b X p1 hE hd hn hS hV hI hF
          obtain ⟨r37, j37⟩ : PredT.At 0 (.int .i64 ((x : Int) / 2 ^ j)) (b.tmps[37]?.getD undef) X p1 := hV 7 _ 37 rfl rfl (Pred.waits_near (by kernel_rfl) (by kernel_rfl))
          exact Pred.yields_run (v := .int .i64 bt) (Pred.wanted_none rfl) (by go_simp) ⟨Below.refl _ _, rfl, Nat.zero_le _⟩
        · intro b X p1 hE hd hn hS hV hI hF
          obtain ⟨r38, j38⟩ : PredT.At 0 (.int .i64 bt) (b.tmps[38]?.getD undef) X p1 := hV 8 _ 38 rfl rfl (Pred.waits_near (by kernel_rfl) (by kernel_rfl))
          have hw8 : IntKind.u8.wrap (bt : Int) = bt := IntWalk.u8_in _ (by omega)
          exact Pred.yields_run (v := .int .u8 bt) (Pred.wanted_none rfl) (by go_simp) ⟨Below.refl _ _, rfl, Nat.zero_le _⟩
        · intro b X p1 hE hd hn hS hV hI hF
          obtain ⟨r39, j39⟩ : PredT.At 0 (.int .u8 bt) (b.tmps[39]?.getD undef) X p1 := hV 9 _ 39 rfl rfl (Pred.waits_near (by kernel_rfl) (by kernel_rfl))
          exact Pred.yields_run (v := .slice (some ⟨X.heap.size, 0, none⟩) 1 1) (w' := X.alloc (.cells #[.int .u8 bt] 5)) (Pred.wanted_none rfl) (by go_simp) ⟨(Below.refl _ _).alloc (Nat.le_refl _) _, Nat.zero_le _, fun _ => ⟨X.heap.size, rfl, by simp, by rw [blk_cell (blk_alloc_at _ _ _ rfl)]; rfl⟩⟩
        · intro b X p1 hE hd hn hS hV hI hF
          obtain ⟨r30, j30⟩ : PredT.At 0 (.pointer (some ⟨p, 0, none⟩)) (b.tmps[30]?.getD undef) X p1 := hV 0 _ 30 rfl rfl (Pred.waits_near (by kernel_rfl) (by kernel_rfl))
          have hpx : p < X.heap.size := Nat.lt_of_lt_of_le hpW hE.size
          exact Pred.yields_run (v := .pointer (some ⟨p, 0, none⟩)) (Pred.wanted_none rfl) (by go_simp) ⟨Below.refl _ _, rfl, Nat.zero_le _⟩
        · intro b X p1 hE hd hn hS hV hI hF
          obtain ⟨r42, j42⟩ : PredT.At 0 (.pointer (some ⟨p, 0, none⟩)) (b.tmps[42]?.getD undef) X p1 := hV 12 _ 42 rfl rfl (Pred.waits_near (by kernel_rfl) (by kernel_rfl))
          have hpx : p < X.heap.size := Nat.lt_of_lt_of_le hpW hE.size
          exact Pred.yields_run (v := .pointer (some ⟨p, 0, none⟩)) (Pred.wanted_none rfl) (by go_simp) ⟨Below.refl _ _, rfl, Nat.zero_le _⟩
      · refine ⟨?_, ?_, trivial⟩
        · refine ⟨_, rfl, fun k hk => (by cases hk), fun b X hE hd hn hS hV hI => ?_⟩
          obtain ⟨r34, j34⟩ : PredT.At 0 (v') (b.tmps[34]?.getD undef) X 0 := hV 4 _ 34 rfl rfl (Pred.waits_near (by kernel_rfl) (by kernel_rfl))
          obtain ⟨j40, r40⟩ : PredT.When 0 (One bt) (b.tmps[40]?.getD undef) X 0 := hV 10 _ 40 rfl rfl (Pred.waits_near (by kernel_rfl) (by kernel_rfl))
          replace hS : (fun y => RB y p v' ll ∧ Fr W y p v' v') X := hS
          obtain ⟨g, hg, hgl, hgc⟩ := r40 rfl
          have ho := hS.1.1.2
          have hpx := RB.lt hS.1
          refine yields_append2 rfl (.tmp 34) (.tmp 40) 22 rfl (p + 1) 5 Try.underlying22 info_u8 v' ll.length (u8s (bl ll)) (by simpa [Act.eval] using r34) ho ⟨g, 0, none⟩ 1 1 [.int .u8 bt] (by simpa [Act.eval] using hg) rfl (by decide) ?_ (by intro u hu; simp at hu; subst hu; rfl) (by omega) (by omega) ?_
          · intro i u hu
            cases i with
            | zero => simp at hu; subst hu; exact hgc
            | succ i => simp at hu
          · intro u y hown hgr hrow
            have hk : ∀ k, v'.ownBlock = some k → p < k := fun k hk => (RB.own hS.1 k hk).1
            have hbl : blk y p = some (.cells #[v'] 48 (0, 0)) := (hgr.block p hpx (fun e => absurd (hk p e.symm) (by omega))).trans hS.1.1.1
            have hfr : Fr W y p v' u := by
              refine hS.2.trans ⟨hgr.os, hgr.tape, hgr.output, hgr.size, fun k hk1 _ hk3 => hgr.block k hk1 hk3, ?_⟩
              rcases hrow with e | e
              · exact .inl e
              · exact .inr ⟨_, e, Nat.le_refl _⟩
            refine ⟨⟨hgr.os, hgr.tape, hgr.output, hgr.size, fun k hk1 => hgr.block k (by omega) (fun e => absurd (hk k e.symm) (by omega))⟩, blk_lt hbl, by omega, fun _ => ⟨hbl, ?_, hfr⟩⟩
            simpa [u8s, bl] using hown
        · refine ⟨_, rfl, fun k hk => (by cases hk; exact Pred.waits_near (by kernel_rfl) (by kernel_rfl)), fun b X hE hd hn hS hV hI => ?_⟩
          obtain ⟨r43, j43⟩ : PredT.At 0 (.pointer (some ⟨p, 0, none⟩)) (b.tmps[43]?.getD undef) X 1 := hV 13 _ 43 rfl rfl (Pred.waits_near (by kernel_rfl) (by kernel_rfl))
          obtain ⟨j41, r41⟩ : PredT.When 1 (fun u y => blk y p = some (.cells #[v'] 48 (0, 0)) ∧ y.ownsRow (p + 1) 5 1 u (ll ++ [bt]).length (u8s (bl (ll ++ [bt]))) ∧ Fr W y p v' u) (b.tmps[41]?.getD undef) X 1 := hV 11 _ 41 rfl rfl (Pred.waits_near (by kernel_rfl) (by kernel_rfl))
          replace hS : (fun y => p < y.heap.size) X := hS
          obtain ⟨hbl, hown, hfr⟩ := r41 rfl
          clear r41
          obtain ⟨u, hu⟩ : ∃ u, b.tmps[41]?.getD undef = u := ⟨_, rfl⟩
          rw [hu] at hown hfr
          obtain ⟨au, cu, rfl, hu1, hu2⟩ := owns_val hown
          have hpx := blk_lt hbl
          have f0 := blk_frozen hbl 0
          have cz := blk_cell hbl 0
          simp only [List.getElem?_toArray, List.getElem?_cons_zero] at cz
          refine yields_skip (w' := X.setCell ⟨p, 0, none⟩ (.slice au (ll ++ [bt]).length cu)) (Pred.wanted_none rfl) (by go_simp) ⟨?_, ⟨_, ⟨⟨blk_set X p 0 _ _ _ hbl, keep_own hown fun k hk => ?_⟩, ?_⟩, ?_⟩, rfl, Nat.zero_le _⟩
          · exact ⟨rfl, rfl, rfl, by simp, fun k hk => heap_setCell_other _ _ _ _ (by show k ≠ p; omega)⟩
          · exact heap_setCell_other _ _ _ _ (by show k ≠ p; have := (hown.lt k hk).1; omega)
          · exact H1.out.2.append (fun y hy => by simp at hy; omega)
          · exact hfr.trans ⟨rfl, rfl, rfl, by simp, fun k _ hkp _ => heap_setCell_other _ _ _ _ hkp, .inl rfl⟩
      intro v X hE hS hv
      replace hS : (fun y => ∃ u, RB y p u (ll ++ [bt]) ∧ Fr W y p v' u) X := hS
      have e0 : v 0 = .pointer (some ⟨p, 0, none⟩) := (hv 0 _ 30 rfl rfl).1
      have e1 : v 1 = .pointer (some ⟨p, 0, none⟩) := (hv 1 _ 31 rfl rfl).1
      have e2 : v 2 = .pointer (some ⟨p, 0, none⟩) := (hv 2 _ 32 rfl rfl).1
      have e3 : v 3 = .pointer (some ⟨p, 0, none⟩) := (hv 3 _ 33 rfl rfl).1
      have e4 : v 4 = v' := (hv 4 _ 34 rfl rfl).1
      have e5 : v 5 = .int .i64 x := (hv 5 _ 35 rfl rfl).1
      have e6 : v 6 = .int .i64 j := (hv 6 _ 36 rfl rfl).1
      have e7 : v 7 = .int .i64 ((x : Int) / 2 ^ j) := (hv 7 _ 37 rfl rfl).1
      have e8 : v 8 = .int .i64 bt := (hv 8 _ 38 rfl rfl).1
      have e9 : v 9 = .int .u8 bt := (hv 9 _ 39 rfl rfl).1
      generalize hg10 : v 10 = vv10
      generalize hg11 : v 11 = vv11
      have e12 : v 12 = .pointer (some ⟨p, 0, none⟩) := (hv 12 _ 42 rfl rfl).1
      have e13 : v 13 = .pointer (some ⟨p, 0, none⟩) := (hv 13 _ 43 rfl rfl).1
      simp only [Pred.putsF_cons, Pred.putsF_nil, Nat.zero_add, Nat.reduceAdd, e0, e1, e2, e3, e4, e5, e6, e7, e8, e9, hg10, hg11, e12, e13, Act.put, List.setIfInBounds_toArray, List.set_cons_zero, List.set_cons_succ]
      clear e0 e1 e2 e3 e4 e5 e6 e7 e8 e9 hg10 hg11 e12 e13 hv
      obtain ⟨u, hu, hfu⟩ := hS
      go_wp2
      go_roundw
      case rel => exact ⟨k + 1, by omega, by have := HJ.out; go_num, u, by rw [HT'.out, ← List.append_assoc, ← HLL.out]; exact hu, H2.out.trans hfu⟩
      case measure => have := HJ.out; simp [intOf]
    · obtain rfl : k = n := by omega
      have H3 := H1.out
      rw [List.take_of_length_le (by rw [putL_length]; omega)] at H3
      go_wp2
      go_ret
      exact ⟨v', rfl, H3, H2.out⟩
end Go.Proofs.Ytminaamfelcajaa.BitH

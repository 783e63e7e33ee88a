/-
  What a writer of bits does, a bit at a time.
-/
import Derived.Test.YtminaamfelcajaaPredC
import Derived.Laws.BitsAllLaws
namespace Go.Proofs.Ytminaamfelcajaa.BitA
open Go.RowKit Rd Go.Proofs.Ytminaamfelcajaa.Row OctA
set_option linter.unusedVariables false
set_option linter.unusedSimpArgs false
set_option maxRecDepth 100000
theorem info_u8 : (Try.prog.info? 5).map (fun i => (i.zero, i.size, i.bytes)) = some (some (.int .u8 0), 1, 1) := by kernel_rfl
/-- a writer's block: its row, and how many bits there are -/
def WSt (w : World) (p : Nat) (v : Value) (zs : List Int) (n : Nat) : Prop :=
  blk w p = some (.cells #[v, .int .i64 n] 39 (0, 0)) ∧ w.ownsRow (p + 1) 5 1 v zs.length (u8s zs)
/-- nothing turns but the writer's own blocks -/
structure Fr (w w' : World) (p : Nat) (v v' : Value) : Prop where
  os : w'.os = w.os
  tape : w'.tape = w.tape
  output : w'.output = w.output
  size : w.heap.size ≤ w'.heap.size
  block : ∀ k, k < w.heap.size → k ≠ p → some k ≠ v.ownBlock → w'.heap[k]? = w.heap[k]?
  row : v'.ownBlock = v.ownBlock ∨ ∃ g, v'.ownBlock = some g ∧ w.heap.size ≤ g
theorem Fr.refl (w : World) (p : Nat) (v : Value) : Fr w w p v v := ⟨rfl, rfl, rfl, Nat.le_refl _, fun _ _ _ _ => rfl, .inl rfl⟩
theorem Fr.trans {a b c : World} {p : Nat} {u v x : Value} (h : Fr a b p u v) (k : Fr b c p v x) : Fr a c p u x := by
  refine ⟨k.os.trans h.os, k.tape.trans h.tape, k.output.trans h.output, Nat.le_trans h.size k.size, fun j hj hp hu => ?_, ?_⟩
  · rw [k.block j (Nat.lt_of_lt_of_le hj h.size) hp ?_, h.block j hj hp hu]
    rcases h.row with e | ⟨g, e, hg⟩
    · rw [e]; exact hu
    · rw [e]; intro e2; cases e2; omega
  · rcases k.row with e | ⟨g, e, hg⟩
    · rcases h.row with e2 | ⟨g, e2, hg⟩
      · exact .inl (e.trans e2)
      · exact .inr ⟨g, e.trans e2, hg⟩
    · exact .inr ⟨g, e, Nat.le_trans h.size hg⟩
theorem Fr.below {w w' : World} {p : Nat} {v v' : Value} (h : Fr w w' p v v') (hp : p ≤ w.heap.size) (hv : ∀ k, v.ownBlock = some k → p ≤ k) : Below p w w' :=
  ⟨h.os, h.tape, h.output, h.size, fun k hk => h.block k (by omega) (by omega) (fun e => by have := hv k e.symm; omega)⟩
section
variable {P : Program} (w : World)
theorem wpList_append_own2 {ops : Array Oper} {rest : List Oper} {o : Oper} {a : Act} {Q : Exit → Act → World → Prop} (hgd : o.guard = none) (s x : Operand) (t : TypeId)
    (ho : o.op = .call { callee := .builtin .append, args := #[s, x], argTypes := #[t, t] })
    (base : Nat) (e : TypeId) (ht : P.underlying t = some (.slice e)) (hinfo : (P.info? e).map (fun i => (i.zero, i.size, i.bytes)) = some (some (.int .u8 0), 1, 1))
    (v : Value) (n : Nat) (xs : List Value) (hs : a.eval s = v) (hown : w.ownsRow base e 1 v n xs)
    (ad : Addr) (m c : Nat) (news : List Value) (hx : a.eval x = .slice (some ad) m c) (hl : news.length = m) (hm : 0 < m) (hnews : ∀ j u, news[j]? = some u → w.cell? (ad.add j) = some u) (h1 : ∀ u ∈ news, u.oneCell' = true)
    (h63 : n + m ≤ 1000000) (hbase : base ≤ w.heap.size)
    (h : ∀ v' w', w'.ownsRow base e 1 v' (n + m) (xs ++ news) → w.grownBy w' v.ownBlock → (v'.ownBlock = v.ownBlock ∨ v'.ownBlock = some w.heap.size) → wpList P ops Q rest (a.put o.dst v') w') : wpList P ops Q (o :: rest) a w :=
  wpList_plain hgd fun K hK => by
    obtain ⟨i, hi, hz0, hz1, hz2⟩ := info_parts hinfo
    obtain ⟨v', w', hrun, h2, h3, h4⟩ := PredC.run_append_own2 (P := P) w base t o.type e i (.int .u8 0) 1 1 ht hi hz0 hz1 hz2 rfl (by decide) v n xs hown ad m c news (by omega) hm hnews h1 (by unfold maxLen; omega) (by omega) hbase
    unfold Oper.wp execOp
    simp only [ho, resolve, invoke, builtin, Sem.run_bind, Sem.run_pure, Result.andThen_ok, List.map_toArray, List.map_cons, List.map_nil, hs, hx, hrun]
    exact hK _ _ (h v' w' h2 h3 h4)
end
/-- one bit more -/
def widen (zs : List Int) (n : Nat) : List Int := if n % 8 = 0 then zs ++ [0] else zs
def orB (z b n : Nat) : Nat := z ||| b * 2 ^ (7 - n % 8)
def stepZ (zs : List Int) (n b : Nat) : List Int := (widen zs n).set (n / 8) (orB ((widen zs n).getD (n / 8) 0).toNat b n : Nat)
theorem set_own {w : World} {base : Nat} {e : TypeId} {g cap n i : Nat} {xs : List Int} {x : Int} (h : w.ownsRow base e 1 (.slice (some ⟨g, 0, none⟩) n cap) n (u8s xs)) (hi : i < n) :
    (w.setCell ⟨g, i, none⟩ (.int .u8 x)).ownsRow base e 1 (.slice (some ⟨g, 0, none⟩) n cap) n (u8s (xs.set i x)) := by
  refine ⟨by have := h.1; simpa using this, ?_⟩
  rcases h.2 with ⟨h2, h3⟩ | ⟨g', cap', cur, h2, hb, hg, h3, h4, h5, h6⟩
  · omega
  · cases h2
    refine .inr ⟨g, cap, cur.setIfInBounds i (.int .u8 x), rfl, hb, blk_set w g i _ _ _ hg, h3, h4, by simpa using h5, ?_⟩
    rw [Array.toList_setIfInBounds, List.take_set, h6]
    simp [u8s, List.map_set]
theorem keep_own {w w' : World} {base : Nat} {e : TypeId} {v : Value} {n : Nat} {xs : List Value} (h : w.ownsRow base e 1 v n xs) (hk : ∀ k, v.ownBlock = some k → w'.heap[k]? = w.heap[k]?) : w'.ownsRow base e 1 v n xs := by
  refine ⟨h.1, ?_⟩
  rcases h.2 with hn | ⟨g, cap, cur, rfl, hb, hg, rest⟩
  · exact .inl hn
  · exact .inr ⟨g, cap, cur, rfl, hb, by rw [hk g rfl]; exact hg, rest⟩
theorem put_fin {w W : World} {p g c3 n b q L : Nat} {v : Value} {zs : List Int} {x : Int} (HP : blk W p = some (.cells #[.slice (some ⟨g, 0, none⟩) L c3, .int .i64 n] 39 (0, 0)))
    (HW : W.ownsRow (p + 1) 5 1 (.slice (some ⟨g, 0, none⟩) L c3) L (u8s (widen zs n))) (hL : (widen zs n).length = L) (HF : Fr w W p v (.slice (some ⟨g, 0, none⟩) L c3)) (hg : p + 1 ≤ g)
    (hx : x = (orB ((widen zs n).getD (n / 8) 0).toNat b n : Nat)) (hq : q = n / 8) (hql : q < L) :
    WSt ((W.setCell ⟨g, q, none⟩ (.int .u8 x)).setCell ⟨p, 1, none⟩ (.int .i64 (n + 1))).drew p (.slice (some ⟨g, 0, none⟩) L c3) (stepZ zs n b) (n + 1) ∧
      Fr w ((W.setCell ⟨g, q, none⟩ (.int .u8 x)).setCell ⟨p, 1, none⟩ (.int .i64 (n + 1))).drew p v (.slice (some ⟨g, 0, none⟩) L c3) := by
  subst hq
  have hsl : (stepZ zs n b).length = L := by unfold stepZ; simp [hL]
  have hs : stepZ zs n b = (widen zs n).set (n / 8) x := by rw [hx]; rfl
  have hS := set_own (x := x) HW hql
  have hP : blk (W.setCell ⟨g, n / 8, none⟩ (.int .u8 x)) p = some (.cells #[.slice (some ⟨g, 0, none⟩) L c3, .int .i64 n] 39 (0, 0)) := by
    rw [← HP]
    exact heap_setCell_other W _ _ _ (by show p ≠ g; omega)
  refine ⟨⟨?_, ?_⟩, ?_⟩
  · exact blk_set _ p 1 _ _ _ hP
  · rw [hsl, hs]
    exact keep_own hS fun k hk => by
      have hgk : g = k := by simpa [Value.ownBlock] using hk
      subst hgk
      exact heap_setCell_other _ _ _ _ (by show g ≠ p; omega)
  · refine HF.trans ⟨rfl, rfl, rfl, by simp, fun k hk hkp hkv => ?_, .inl rfl⟩
    have hkg : k ≠ g := fun e => hkv (by subst e; rfl)
    refine (heap_setCell_other _ _ _ _ (by show k ≠ p; exact hkp)).trans (heap_setCell_other _ _ _ _ (by show k ≠ g; exact hkg))
set_option maxHeartbeats 2000000 in
theorem put_bit (p n b : Nat) (v : Value) (zs : List Int) (w : World) (hW : WSt w p v zs n) (hl : zs.length = (n + 7) / 8) (hz : ∀ z ∈ zs, 0 ≤ z ∧ z ≤ 255) (hb : b ≤ 1) (hn : n ≤ 100000) :
    Calls Try.prog 30 #[.pointer (some ⟨p, 0, none⟩), .int .u8 b] w fun e w' => ∃ v', e = .returned (.tuple #[]) ∧ WSt w' p v' (stepZ zs n b) (n + 1) ∧ Fr w w' p v v' := by
  obtain ⟨hp, hown⟩ := hW
  have lp := blk_lt hp
  have c0 := blk_cell hp 0
  have c1 := blk_cell hp 1
  have f0 := blk_frozen hp 0
  have f1 := blk_frozen hp 1
  simp only [List.getElem?_toArray, List.getElem?_cons_zero, List.getElem?_cons_succ] at c0 c1
  by_cases h8 : n % 8 = 0
  · have h8' : (n : Int) % 8 = 0 := by omega
    have HL := Lib.hid hl
    clear hl
    go_enter Try.func30, Try.ntmps30
    have hwid : widen zs n = zs ++ [0] := by unfold widen; rw [if_pos h8]
    have hzl : (widen zs n).length = zs.length + 1 := by rw [hwid]; simp
    go_upto_region 2 with (at_builtin; refine wpList_append_own2 _ rfl (.tmp 14) (.tmp 15) 22 rfl (p + 1) 5 Try.underlying22 info_u8 _ _ _ rfl (hown.alloc _) ⟨w.heap.size, 0, none⟩ 1 1 [.int .u8 0] rfl rfl (by decide) (news_of _ _ _) (by simp [Value.oneCell']) (by have := HL.out; omega) (by simp; omega) ?_; intro v3 w3 hown3 hgrow3 hrow3; obtain ⟨g, c3, rfl, hg1, hg2, hg3, hg4, hg5⟩ := owns_pos hown3 (by omega); have hp3 : blk w3 p = some (.cells #[v, .int .i64 n] 39 (0, 0)) := by { refine (hgrow3.block p (by simp; omega) (fun e => ?_)).trans ((blk_alloc_old _ _ _ lp).trans hp); have := (hown.lt p e.symm).1; omega }; have d0 := blk_cell hp3 0; have d1 := blk_cell hp3 1; have e0 := blk_frozen hp3 0; simp only [List.getElem?_toArray, List.getElem?_cons_zero, List.getElem?_cons_succ] at d0 d1)
    refine Rd.name_world ?_
    intro W hW
    have hpW : blk W p = some (.cells #[.slice (some ⟨g, 0, none⟩) (zs.length + 1) c3, .int .i64 n] 39 (0, 0)) := by rw [hW]; exact blk_set w3 p 0 _ _ _ hp3
    have hoW : W.ownsRow (p + 1) 5 1 (.slice (some ⟨g, 0, none⟩) (zs.length + 1) c3) (zs.length + 1) (u8s (widen zs n)) := by
      rw [hwid]
      have h9 : w3.ownsRow (p + 1) 5 1 (.slice (some ⟨g, 0, none⟩) (zs.length + 1) c3) (zs.length + 1) (u8s (zs ++ [0])) := by simpa [u8s] using hown3
      refine keep_own h9 fun k hk => ?_
      have hgk : g = k := by simpa [Value.ownBlock] using hk
      subst hgk
      rw [hW]
      exact heap_setCell_other w3 _ _ _ (by show g ≠ p; omega)
    have FW : Fr w W p v (.slice (some ⟨g, 0, none⟩) (zs.length + 1) c3) := by
      refine ⟨by rw [hW]; exact hgrow3.os, by rw [hW]; exact hgrow3.tape, by rw [hW]; exact hgrow3.output, by rw [hW]; have := hgrow3.size; simp at this ⊢; omega, fun k hk hkp hkv => ?_, ?_⟩
      · rw [hW]
        refine (heap_setCell_other w3 _ _ _ (by show k ≠ p; exact hkp)).trans ?_
        rw [hgrow3.block k (by simp; omega) hkv]
        exact Below.heap_alloc w _ k hk
      · rcases hrow3 with e | e
        · exact .inl e
        · exact .inr ⟨_, e, by simp⟩
    have hm : n / 8 < (widen zs n).length := by have := HL.out; omega
    have hB8 : ∀ z ∈ widen zs n, 0 ≤ z ∧ z ≤ 255 := by
      intro z h
      rw [hwid] at h
      rcases List.mem_append.1 h with h | h
      · exact hz z h
      · simp at h; omega
    have hz8 : 0 ≤ (widen zs n).getD (n / 8) 0 ∧ (widen zs n).getD (n / 8) 0 ≤ 255 := by
      have h1 := hB8 _ (List.getElem_mem hm)
      rw [List.getD_eq_getElem?_getD, List.getElem?_eq_getElem hm, Option.getD_some]
      exact h1
    have hcz : W.cell? ⟨g, n / 8, none⟩ = some (.int .u8 ((widen zs n).getD (n / 8) 0)) := by
      obtain ⟨g', cap', e, h1, h2, h3, h4, h5⟩ := owns_pos hoW (by omega)
      cases e
      rw [h5 _ (by omega)]
      simp [u8s, List.getD, hm]
    have hfr : W.frozen? ⟨g, n / 8, none⟩ = false := by
      rcases hoW.2 with ⟨h1, h2⟩ | ⟨g', cap', cur, e, h1, h2, -⟩
      · cases h1
      · cases e; exact blk_frozen h2 _
    have d0 := blk_cell hpW 0
    have d1 := blk_cell hpW 1
    have e1 := blk_frozen hpW 1
    simp only [List.getElem?_toArray, List.getElem?_cons_zero, List.getElem?_cons_succ] at d0 d1
    have hset : stepZ zs n b = (widen zs n).set (n / 8) (orB ((widen zs n).getD (n / 8) 0).toNat b n : Nat) := rfl
    have hlt8 : n / 8 < (zs.length + 1) := by omega
    have HS := Lib.hid hset
    have HM := Lib.hid hm
    have HW2 := Lib.hid hoW
    have HP := Lib.hid hpW
    have HF := Lib.hid FW
    obtain ⟨q, hq⟩ : ∃ q, q = n / 8 := ⟨_, rfl⟩
    obtain ⟨r, hr⟩ : ∃ r, r = 7 - n % 8 := ⟨_, rfl⟩
    rw [← hq] at hcz hfr hz8 hlt8
    have hq' : (n : Int) / 8 = (q : Int) := by omega
    have hr' : (7 : Int) - (n : Int) % 8 = (r : Int) := by omega
    obtain ⟨z, hzz⟩ : ∃ z, z = (widen zs n).getD q 0 := ⟨_, rfl⟩
    rw [← hzz] at hcz hz8
    obtain ⟨zn, rfl⟩ := Int.eq_ofNat_of_zero_le hz8.1
    have hql : (q : Int) < ((zs.length + 1) : Int) := by omega
    have HQ := Lib.hid hq
    have HR := Lib.hid hr
    have HZ := Lib.hid hzz
    clear hset hm hB8 hoW hpW FW hq hr hzz hW hp3 hown3 hgrow3 hrow3 hp hown c0 c1 f0 f1 hg5
    go_wp2
    (refine Reg.quiet_tail 21 (by kernel_rfl) (by kernel_rfl) ?_; simp only [List.take_succ_cons, List.take_zero, List.drop_succ_cons, List.drop_zero]; (repeat go_big_quiet_step (fail)); refine wpQuiet_nil ?_)
    go_wp2
    have hr7 : r = 7 := by have := HR.out; omega
    go_end0
    have hx : bits .or .u8 (zn : Int) ((b : Int) * 128) = (orB ((widen zs n).getD (n / 8) 0).toNat b n : Nat) := by
      have h0 := u8_or_nat zn (b * 128) (by omega) (by omega)
      rw [← HQ.out, ← HZ.out]
      unfold orB
      rw [← HR.out, hr7]
      simpa using h0
    obtain ⟨h1, h2⟩ := put_fin (b := b) HP.out HW2.out hzl HF.out hg1 hx HQ.out hlt8
    exact ⟨_, rfl, h1, h2⟩
  · have h8' : ¬ (n : Int) % 8 = 0 := by omega
    have h8b : ((n : Int) % 8 == 0) = false := by simp; omega
    have HL := Lib.hid hl
    clear hl
    have hwid : widen zs n = zs := by unfold widen; rw [if_neg h8]
    have hzl : (widen zs n).length = zs.length := by rw [hwid]
    obtain ⟨g, c3, rfl, hg1, hg2, hg3, hg4, hg5⟩ := owns_pos hown (by have := HL.out; omega)
    go_enter Try.func30, Try.ntmps30
    go_upto_region 2 with (fail)
    refine Rd.name_world ?_
    intro W hW
    have hpW : blk W p = some (.cells #[.slice (some ⟨g, 0, none⟩) zs.length c3, .int .i64 n] 39 (0, 0)) := by rw [hW]; exact hp
    have hoW : W.ownsRow (p + 1) 5 1 (.slice (some ⟨g, 0, none⟩) zs.length c3) zs.length (u8s (widen zs n)) := by rw [hW, hwid]; exact hown
    have FW : Fr w W p (.slice (some ⟨g, 0, none⟩) zs.length c3) (.slice (some ⟨g, 0, none⟩) zs.length c3) := by rw [hW]; exact Fr.refl _ _ _
    have hm : n / 8 < (widen zs n).length := by have := HL.out; omega
    have hB8 : ∀ z ∈ widen zs n, 0 ≤ z ∧ z ≤ 255 := by
      intro z h
      rw [hwid] at h
      exact hz z h
    have hz8 : 0 ≤ (widen zs n).getD (n / 8) 0 ∧ (widen zs n).getD (n / 8) 0 ≤ 255 := by
      have h1 := hB8 _ (List.getElem_mem hm)
      rw [List.getD_eq_getElem?_getD, List.getElem?_eq_getElem hm, Option.getD_some]
      exact h1
    have hcz : W.cell? ⟨g, n / 8, none⟩ = some (.int .u8 ((widen zs n).getD (n / 8) 0)) := by
      obtain ⟨g', cap', e, h1, h2, h3, h4, h5⟩ := owns_pos hoW (by omega)
      cases e
      rw [h5 _ (by omega)]
      simp [u8s, List.getD, hm]
    have hfr : W.frozen? ⟨g, n / 8, none⟩ = false := by
      rcases hoW.2 with ⟨h1, h2⟩ | ⟨g', cap', cur, e, h1, h2, -⟩
      · cases h1
      · cases e; exact blk_frozen h2 _
    have d0 := blk_cell hpW 0
    have d1 := blk_cell hpW 1
    have e1 := blk_frozen hpW 1
    simp only [List.getElem?_toArray, List.getElem?_cons_zero, List.getElem?_cons_succ] at d0 d1
    have hset : stepZ zs n b = (widen zs n).set (n / 8) (orB ((widen zs n).getD (n / 8) 0).toNat b n : Nat) := rfl
    have hlt8 : n / 8 < zs.length := by omega
    have HS := Lib.hid hset
    have HM := Lib.hid hm
    have HW2 := Lib.hid hoW
    have HP := Lib.hid hpW
    have HF := Lib.hid FW
    obtain ⟨q, hq⟩ : ∃ q, q = n / 8 := ⟨_, rfl⟩
    obtain ⟨r, hr⟩ : ∃ r, r = 7 - n % 8 := ⟨_, rfl⟩
    rw [← hq] at hcz hfr hz8 hlt8
    have hq' : (n : Int) / 8 = (q : Int) := by omega
    have hr' : (7 : Int) - (n : Int) % 8 = (r : Int) := by omega
    obtain ⟨z, hzz⟩ : ∃ z, z = (widen zs n).getD q 0 := ⟨_, rfl⟩
    rw [← hzz] at hcz hz8
    obtain ⟨zn, rfl⟩ := Int.eq_ofNat_of_zero_le hz8.1
    have hql : (q : Int) < (zs.length : Int) := by omega
    have HQ := Lib.hid hq
    have HR := Lib.hid hr
    have HZ := Lib.hid hzz
    clear hset hm hB8 hoW hpW FW hq hr hzz hW hp hown c0 c1 f0 f1 hg5
    go_wp2
    (refine Reg.quiet_tail 21 (by kernel_rfl) (by kernel_rfl) ?_; simp only [List.take_succ_cons, List.take_zero, List.drop_succ_cons, List.drop_zero]; (repeat go_big_quiet_step (fail)); refine wpQuiet_nil ?_)
    go_wp2
    have hr7 : r ≤ 6 := by have := HR.out; omega
    have hpw : b * 2 ^ r < 256 := by
      have : 2 ^ r ≤ 2 ^ 6 := Nat.pow_le_pow_right (by decide) hr7
      have h3 : b * 2 ^ r ≤ 1 * 2 ^ 6 := Nat.mul_le_mul hb this
      omega
    go_end0
    have hx : bits .or .u8 (zn : Int) ((b : Int) * 2 ^ r % 256) = (orB ((widen zs n).getD (n / 8) 0).toNat b n : Nat) := by
      have h0 := u8_or_nat zn (b * 2 ^ r) (by omega) hpw
      have h4 : (b : Int) * 2 ^ r % 256 = ((b * 2 ^ r : Nat) : Int) := by
        rw [Int.emod_eq_of_lt (by rw [show (b : Int) * 2 ^ r = ((b * 2 ^ r : Nat) : Int) by simp]; omega) (by rw [show (b : Int) * 2 ^ r = ((b * 2 ^ r : Nat) : Int) by simp]; omega)]
        simp
      rw [← HQ.out, ← HZ.out, h4]
      unfold orB
      rw [← HR.out]
      simpa using h0
    obtain ⟨h1, h2⟩ := put_fin (b := b) HP.out HW2.out hzl HF.out hg1 hx HQ.out hlt8
    exact ⟨_, rfl, h1, h2⟩
end Go.Proofs.Ytminaamfelcajaa.BitA

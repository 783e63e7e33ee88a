/-
  The document's own list of who was used last.
-/
import Derived.Test.YtabedlahdkkihaaLrH
import Derived.Test.YtabedlahdkkihaaApp
namespace Go.Proofs.Ytabedlahdkkihaa.LrI
open Go.RowKit Rd Go.Proofs.Ytabedlahdkkihaa.Row It LrM LrA LrB LrC LrD LrE LrF LrG LrH
set_option linter.unusedVariables false
set_option linter.unusedSimpArgs false
set_option maxRecDepth 10000
theorem rwithin_any (a b c : Int) (w : World) :
    Calls Try.prog 20 #[.int .i64 a, .int .i64 b, .int .i64 c] w fun e w' => e = .returned (.bool (decide (b ≤ a ∧ a ≤ c))) ∧ w = w' := by
  by_cases h0 : b ≤ a
  · have d0 : decide (b ≤ a) = true := decide_eq_true h0
    go_enter Try.func20, Try.ntmps20
    go_wp2
    go_ret
    refine ⟨?_, rfl⟩
    rw [show decide (b ≤ a ∧ a ≤ c) = decide (a ≤ c) by simp [h0]]
    first | done | rfl
  · have d0 : decide (b ≤ a) = false := decide_eq_false h0
    go_enter Try.func20, Try.ntmps20
    go_wp2
    go_ret
    refine ⟨?_, rfl⟩
    first | rfl | (rw [show decide (b ≤ a ∧ a ≤ c) = false from decide_eq_false (by omega)]; rfl)
/-! the state -/
structure Rf (X : World) (rb gp B n : Nat) (o : List Nat) (pin : Nat → Bool) (v : Value) (ps : List Bool) : Prop where
  st : blk X rb = some (.cells #[v, .slice (some ⟨gp, 0, none⟩) n n] 42 (0, 0))
  own : X.ownsRow B 3 1 v o.length (iv o)
  pins : blk X gp = some (.cells (bb ps) 4 (0, 0))
  len : ps.length = n
  at_ : ∀ x, x < n → ps.getD x false = pin x
  lo : rb < B ∧ gp < B ∧ B ≤ X.heap.size ∧ rb ≠ gp
def RS (X : World) (rb gp B n : Nat) (o : List Nat) (pin : Nat → Bool) : Prop := ∃ v ps, Rf X rb gp B n o pin v ps
variable {b g n rb gp B : Nat} {o : List Nat} {pin : Nat → Bool}
theorem owns_below {W W2 : World} {base : Nat} {e : TypeId} {size : Nat} {v : Value} {n : Nat} {xs : List Value} (h : W.ownsRow base e size v n xs) (hb : Below W.heap.size W W2) : W2.ownsRow base e size v n xs := by
  obtain ⟨h1, h2⟩ := h
  refine ⟨h1, ?_⟩
  rcases h2 with h2 | ⟨g, cap, cur, e1, e2, e3, e4⟩
  · exact Or.inl h2
  · refine Or.inr ⟨g, cap, cur, e1, e2, ?_, e4⟩
    have hg : g < W.heap.size := blk_lt (w := W) (g := g) e3
    exact (hb.block g hg).trans e3
theorem owns_turn {X Y : World} {B g e s n : Nat} {v : Value} {xs : List Value} (h : X.ownsRow B e s v n xs) (hg : X.grownBy Y (some g)) (hB : g < B) : Y.ownsRow B e s v n xs := by
  obtain ⟨h1, h2⟩ := h
  refine ⟨h1, ?_⟩
  rcases h2 with h2 | ⟨b, cap, cur, e1, e2, e3, e4⟩
  · exact Or.inl h2
  · refine Or.inr ⟨b, cap, cur, e1, e2, ?_, e4⟩
    have hl : b < X.heap.size := (Array.getElem?_eq_some_iff.1 e3).1
    exact (hg.block b hl fun e => by injection e with e; omega).trans e3
theorem Rf.bel {X Y : World} {v : Value} {ps : List Bool} (h : Rf X rb gp B n o pin v ps) (hb : Below X.heap.size X Y) : Rf Y rb gp B n o pin v ps :=
  ⟨(blk_below hb _ (blk_lt h.st)).trans h.st, owns_below h.own hb, (blk_below hb _ (blk_lt h.pins)).trans h.pins, h.len, h.at_, h.lo.1, h.lo.2.1, Nat.le_trans h.lo.2.2.1 hb.size, h.lo.2.2.2⟩
theorem Rf.turn {X Y : World} {v : Value} {ps : List Bool} {q : Nat} (h : Rf X rb gp B n o pin v ps) (hg : X.grownBy Y (some q)) (h1 : q ≠ rb) (h2 : q ≠ gp) (h3 : q < B) : Rf Y rb gp B n o pin v ps :=
  ⟨blk_turn h.st hg (Ne.symm h1), owns_turn h.own hg h3, blk_turn h.pins hg (Ne.symm h2), h.len, h.at_, h.lo.1, h.lo.2.1, Nat.le_trans h.lo.2.2.1 hg.size, h.lo.2.2.2⟩
theorem RS.bel {X Y : World} (h : RS X rb gp B n o pin) (hb : Below X.heap.size X Y) : RS Y rb gp B n o pin := by
  obtain ⟨v, ps, h⟩ := h
  exact ⟨v, ps, h.bel hb⟩
theorem RS.turn {X Y : World} {q : Nat} (h : RS X rb gp B n o pin) (hg : X.grownBy Y (some q)) (h1 : q ≠ rb) (h2 : q ≠ gp) (h3 : q < B) : RS Y rb gp B n o pin := by
  obtain ⟨v, ps, h⟩ := h
  exact ⟨v, ps, h.turn hg h1 h2 h3⟩
theorem Rf.c0 {X : World} {v : Value} {ps : List Bool} (h : Rf X rb gp B n o pin v ps) : X.cell? ⟨rb, 0, none⟩ = some v := by rw [blk_cell h.st]; rfl
theorem Rf.c1 {X : World} {v : Value} {ps : List Bool} (h : Rf X rb gp B n o pin v ps) : X.cell? ⟨rb, 1, none⟩ = some (.slice (some ⟨gp, 0, none⟩) n n) := by rw [blk_cell h.st]; rfl
theorem Rf.cp {X : World} {v : Value} {ps : List Bool} (h : Rf X rb gp B n o pin v ps) {i : Nat} (hi : i < n) : X.cell? ⟨gp, i, none⟩ = some (.bool (pin i)) := by
  rw [blk_cell h.pins, bb_at (by rw [h.len]; exact hi), h.at_ i hi]
theorem iv_getD {r : List Nat} {k : Nat} (h : k < r.length) : (iv r)[k]? = some (.int .i64 ((r.getD k 0 : Nat) : Int)) := by simp [iv, List.getD, h]
/-- where its numbers lie -/
theorem own_cells {X : World} {v : Value} {r : List Nat} {m B : Nat} (h : X.ownsRow B 3 1 v m (iv r)) (hm : 0 < r.length) :
    m = r.length ∧ ∃ gl cap, v = .slice (some ⟨gl, 0, none⟩) r.length cap ∧ r.length ≤ cap ∧ B ≤ gl ∧ gl < X.heap.size ∧ ∀ i, i < r.length → X.cell? ⟨gl, i, none⟩ = some (.int .i64 ((r.getD i 0 : Nat) : Int)) := by
  obtain ⟨ad, cap, e, hc, hl⟩ := owns_val h
  have hml : m = r.length := by
    have := h.1
    rw [iv_len] at this
    omega
  subst hml
  refine ⟨rfl, ?_⟩
  have hR := Reads.of_owns (by rw [e] at h; exact h)
  rcases h.2 with ⟨h2, -⟩ | ⟨gl, c2, cur, e1, e2, e3, e4⟩
  · exfalso
    rw [h2] at e
    injection e with _ e5 _
    omega
  · refine ⟨gl, c2, e1, ?_, e2, (Array.getElem?_eq_some_iff.1 e3).1, fun i hi => ?_⟩
    · rw [e1] at e
      injection e with _ _ e7
      omega
    · rcases hR.2 with h0 | ⟨b2, off, e5, hb, hcell⟩
      · omega
      · rw [e1, e5] at e
        injection e with e6
        injection e6 with e6
        injection e6 with e7 e8
        subst e7 e8
        have := hcell i (by rw [iv_len]; exact hi)
        rw [Nat.zero_add] at this
        rw [this, iv_getD hi]
theorem app_int {ops : Array Oper} {rest : List Oper} {o : Oper} {a : Act} {w : World} {Q : Exit → Act → World → Prop} (hgd : o.guard = none) (s x : Operand)
    (ho : o.op = .call { callee := .builtin .append, args := #[s, x], argTypes := #[38, 38] })
    (base : Nat) (v : Value) (m : Nat) (r : List Nat) (hs : a.eval s = v) (hown : w.ownsRow base 3 1 v m (iv r))
    (gx : Nat) (cx : Nat) (y : Nat) (hx : a.eval x = .slice (some ⟨gx, 0, none⟩) 1 cx) (hg : blk w gx = some (.cells #[.int .i64 (y : Int)] 3 (0, 0))) (hm : m ≤ 1000000) (hbase : base ≤ w.heap.size)
    (h : ∀ v' w', w'.ownsRow base 3 1 v' (m + 1) (iv (r ++ [y])) → w.grownBy w' v.ownBlock → wpList Try.prog ops Q rest (a.put o.dst v') w') : wpList Try.prog ops Q (o :: rest) a w := by
  obtain ⟨i0, hi, hz0, hz1, hz2⟩ := info_parts info_int
  refine App.wpList_append_reads w hgd s x 38 ho base 3 i0 _ 1 8 Try.underlying38 hi hz0 hz1 hz2 rfl (by decide) v m (iv r) hs hown (some ⟨gx, 0, none⟩) 1 cx (iv [y]) hx ?_ ?_ (by unfold maxLen; omega) (by omega) hbase ?_
  · refine ⟨by simp [iv], Or.inr ⟨gx, 0, rfl, blk_lt hg, fun j hj => ?_⟩⟩
    rw [Nat.zero_add, blk_cell hg]
    simp [iv]
  · intro u hu
    simp only [iv, List.map_cons, List.map_nil, List.mem_singleton] at hu
    subst hu
    rfl
  · intro v' w' h1 h2
    rw [← iv_app] at h1
    exact h v' w' h1 h2
theorem grown_some {X Y : World} (h : Below X.heap.size X Y) (r : Nat) : X.grownBy Y (some r) := ⟨h.os, h.tape, h.output, h.size, fun k hk _ => h.block k hk⟩
theorem own_set {X : World} {B g e s m k : Nat} {v u : Value} {xs : List Value} (h : X.ownsRow B e s v m xs) (hg : g < B) : (X.setCell ⟨g, k, none⟩ u).ownsRow B e s v m xs := owns_turn h (set_grown _ _ _ _) hg
/-! Touch -/
set_option maxHeartbeats 2000000 in
theorem rtouch_yes (i : Nat) (w : World) (h : RS w rb gp B n o pin) (hi : i < n) (hn : n ≤ 128) (hol : o.length = n) :
    Calls Try.prog 11 #[.pointer (some ⟨rb, 0, none⟩), .int .i64 i] w fun e w' => e = .returned (.int .i64 0) ∧ RS w' rb gp B n (touchL o i) pin ∧ w.grownBy w' (some rb) := by
  obtain ⟨v, ps, h⟩ := h
  obtain ⟨-, gl, vc, rfl, hcap, hgl, hgw, hcel⟩ := own_cells h.own (by omega)
  rw [hol] at hcap hcel h
  have c0 := h.c0
  have c1 := h.c1
  have H := Lib.hid h
  have HC := Lib.hid hcel
  have HOL := Lib.hid hol
  have hlo := h.lo
  have hrw := blk_lt h.st
  have d0 : decide ((0 : Int) ≤ (i : Int) ∧ (i : Int) ≤ (n : Int) - 1) = true := decide_eq_true ⟨by omega, by omega⟩
  clear h hcel hol
  go_enter Try.func11, Try.ntmps11
  go_wp2_with fail
  refine (rwithin_any _ _ _ _).mono ?_
  rintro e _ ⟨rfl, rfl⟩
  rw [d0]
  clear d0
  go_wp2_with fail
  clear c0 c1
  go_loopw [5, 6] (fun out k X => ∃ (k' : Nat) (r : List Nat), k' ≤ n ∧ k = .int .i64 k' ∧ Hid (r = (o.take k').filter fun x => decide (x ≠ i)) ∧ Hid (X.ownsRow w.heap.size 3 1 out r.length (iv r)) ∧ Hid (Below w.heap.size w X)) (fun _ k _ => n - (intOf k).toNat)
  case atStart => exact ⟨0, [], by omega, rfl, Lib.hid (by simp), Lib.hid (World.ownsRow_nil _ _ _ _), Lib.hid (Below.refl _ _)⟩
  case round =>
    obtain ⟨k, r, hk, rfl, HE, HO, HB⟩ := hrel
    rename World => X
    rename Value => out
    obtain ⟨ra, rc, rfl, -, -⟩ := owns_val HO.out
    have hrl : r.length ≤ 128 := by
      rw [HE.out]
      have h1 := List.length_filter_le (fun x => decide (x ≠ i)) (o.take k)
      rw [List.length_take, HOL.out] at h1
      omega
    have c0 := (HB.out.cell (p := ⟨rb, 0, none⟩) hrw).trans H.out.c0
    by_cases hlt : k < n
    · have hlt' : (k : Int) < n := by omega
      have cx := (HB.out.cell (p := ⟨gl, k, none⟩) hgw).trans (HC.out k hlt)
      have hko : k < o.length := by rw [HOL.out]; exact hlt
      obtain ⟨x, ex⟩ : ∃ x, o.getD k 0 = x := ⟨_, rfl⟩
      rw [ex] at cx
      have ex2 : o[k] = x := by rw [← ex]; simp [List.getD, hko]
      have HT : Hid ((o.take (k + 1)).filter (fun x => decide (x ≠ i)) = r ++ if x ≠ i then [x] else []) := Lib.hid (by
        rw [List.take_add_one, List.getElem?_eq_getElem hko, ex2, List.filter_append, ← HE.out]
        by_cases e : x = i <;> simp [e])
      obtain ⟨m, hm⟩ : ∃ m, r.length = m := ⟨_, rfl⟩
      rw [hm] at HO hrl ⊢
      have HM := Lib.hid hm
      clear ex ex2 hko hm
      by_cases hxi : x = i
      · have hxz : (x : Int) = (i : Int) := by omega
        have q1 : ((x : Int) == (i : Int)) = true := by simpa using hxz
        have q2 : ((x : Int) != (i : Int)) = false := by simpa using hxz
        clear hxz
        subst hxi
        go_wp2
        exact ⟨⟨k + 1, r, by omega, by go_num, Lib.hid (by rw [HT.out]; simp), by rw [HM.out]; exact HO, HB⟩, by simp [intOf]; omega⟩
      · have hxz : ¬ (x : Int) = (i : Int) := by omega
        have q1 : ((x : Int) == (i : Int)) = false := by simpa using hxz
        have q2 : ((x : Int) != (i : Int)) = true := by simpa using hxz
        have q3 : (x == i) = false := by simpa using hxi
        have hsz := HB.out.size
        have HXI := Lib.hid hxi
        clear hxi
        go_wp2_with (at_builtin; refine app_int rfl (.tmp 34) (.tmp 42) rfl w.heap.size _ _ _ rfl (HO.out.alloc _) X.heap.size 1 x rfl (blk_alloc_at _ _ _ rfl) (by omega) (by simp; omega) ?_; intro v4 w4 ho4 hg4)
        have L4 : Below w.heap.size w w4 := (HB.out.alloc (by omega) _).grown hg4 (by simp; omega) (fun j hj => (HO.out.lt j hj).1)
        exact ⟨⟨k + 1, r ++ [x], by omega, by go_num, Lib.hid (by rw [HT.out, if_pos HXI.out]), Lib.hid (by rw [List.length_append, List.length_singleton, HM.out]; exact ho4), Lib.hid L4⟩, by simp [intOf]; omega⟩
    · obtain rfl : k = n := by omega
      have HT : Hid (touchL o i = r ++ [i]) := Lib.hid (by
        unfold touchL
        rw [HE.out, ← HOL.out, List.take_length])
      obtain ⟨m, hm⟩ : ∃ m, r.length = m := ⟨_, rfl⟩
      rw [hm] at HO hrl ⊢
      have HM := Lib.hid hm
      have hsz := HB.out.size
      clear hm
      go_wp2_with (at_builtin; refine app_int rfl (.tmp 45) (.tmp 47) rfl w.heap.size _ _ _ rfl (HO.out.alloc _) X.heap.size 1 i rfl (blk_alloc_at _ _ _ rfl) (by omega) (by simp; omega) ?_; intro v4 w4 ho4 hg4; have L4 : Hid (Below w.heap.size w w4) := Lib.hid ((HB.out.alloc (by omega) _).grown hg4 (by simp; omega) (fun j hj => (HO.out.lt j hj).1)); have H4 := Lib.hid (H.out.bel L4.out); have HO4 := Lib.hid ho4; have z0 := H4.out.c0; have z1 := blk_frozen H4.out.st 0; obtain ⟨a4, k4, e4, -, -⟩ := owns_val ho4; subst e4; clear hg4 ho4)
      go_ret
      refine ⟨rfl, ⟨.slice a4 (m + 1) k4, ps, ?_, ?_, ?_, H.out.len, H.out.at_, ?_⟩, (grown_some L4.out rb).trans (set_grown _ _ _ _)⟩
      · exact blk_set w4 rb 0 _ _ _ H4.out.st
      · refine own_lo (own_set ?_ hrw) (b := B) hlo.2.2.1
        rw [HT.out, List.length_append, List.length_singleton, HM.out]
        exact HO4.out
      · exact (heap_setCell_other _ _ _ _ (fun e => hlo.2.2.2 (by have := e; simp at this; omega))).trans H4.out.pins
      · have := H4.out.lo
        exact ⟨this.1, this.2.1, by simpa using this.2.2.1, this.2.2.2⟩
theorem rtouch_no (i : Int) (w : World) (h : RS w rb gp B n o pin) (hi : ¬ (0 ≤ i ∧ i < n)) (hn : n ≤ 128) :
    Calls Try.prog 11 #[.pointer (some ⟨rb, 0, none⟩), .int .i64 i] w fun e w' => e = .returned (.int .i64 1) ∧ w = w' := by
  obtain ⟨v, ps, h⟩ := h
  have c1 := h.c1
  have d0 : decide ((0 : Int) ≤ i ∧ i ≤ (n : Int) - 1) = false := decide_eq_false (by omega)
  clear h hi
  go_enter Try.func11, Try.ntmps11
  go_wp2_with fail
  refine (rwithin_any _ _ _ _).mono ?_
  rintro e _ ⟨rfl, rfl⟩
  rw [d0]
  clear d0
  go_wp2
  go_ret
  exact ⟨rfl, rfl⟩
/-! Pin -/
theorem rpin_yes (i : Nat) (w : World) (h : RS w rb gp B n o pin) (hi : i < n) (hn : n ≤ 128) :
    Calls Try.prog 13 #[.pointer (some ⟨rb, 0, none⟩), .int .i64 i] w fun e w' => e = .returned (.int .i64 0) ∧ RS w' rb gp B n o (put pin i true) ∧ w.grownBy w' (some gp) := by
  obtain ⟨v, ps, h⟩ := h
  have c1 := h.c1
  have H := Lib.hid h
  have cp := h.cp hi
  have fp := blk_frozen h.pins i
  have hpl := h.len
  have d0 : decide ((0 : Int) ≤ (i : Int) ∧ (i : Int) ≤ (n : Int) - 1) = true := decide_eq_true ⟨by omega, by omega⟩
  clear h
  go_enter Try.func13, Try.ntmps13
  go_wp2_with fail
  refine (rwithin_any _ _ _ _).mono ?_
  rintro e _ ⟨rfl, rfl⟩
  rw [d0]
  clear d0
  go_wp2
  go_ret
  refine ⟨rfl, ⟨v, ps.set i true, ?_, own_set H.out.own H.out.lo.2.1, ?_, by rw [List.length_set]; exact hpl, fun x hx => ?_, ?_⟩, set_grown _ _ _ _⟩
  · exact (heap_setCell_other _ _ _ _ (fun e => H.out.lo.2.2.2 (by have := e; simp at this; omega))).trans H.out.st
  · have := blk_set w gp i (.bool true) _ _ H.out.pins
    rw [bb_set] at this
    exact this
  · by_cases e : x = i
    · subst e
      rw [put_same, List.getD_eq_getElem?_getD, List.getElem?_set_self (by omega)]; rfl
    · rw [put_ne _ _ e, List.getD_eq_getElem?_getD, List.getElem?_set_ne (Ne.symm e), ← List.getD_eq_getElem?_getD]
      exact H.out.at_ x hx
  · have := H.out.lo
    exact ⟨this.1, this.2.1, by simpa using this.2.2.1, this.2.2.2⟩
theorem rpin_no (i : Int) (w : World) (h : RS w rb gp B n o pin) (hi : ¬ (0 ≤ i ∧ i < n)) (hn : n ≤ 128) :
    Calls Try.prog 13 #[.pointer (some ⟨rb, 0, none⟩), .int .i64 i] w fun e w' => e = .returned (.int .i64 1) ∧ w = w' := by
  obtain ⟨v, ps, h⟩ := h
  have c1 := h.c1
  have d0 : decide ((0 : Int) ≤ i ∧ i ≤ (n : Int) - 1) = false := decide_eq_false (by omega)
  clear h hi
  go_enter Try.func13, Try.ntmps13
  go_wp2_with fail
  refine (rwithin_any _ _ _ _).mono ?_
  rintro e _ ⟨rfl, rfl⟩
  rw [d0]
  clear d0
  go_wp2
  go_ret
  exact ⟨rfl, rfl⟩
/-! Oldest -/
def oldR (o : List Nat) (pin : Nat → Bool) : Int := ((oldO o pin).map fun x => (x : Int)).getD (-1)
set_option maxHeartbeats 2000000 in
theorem roldest_any (w : World) (h : RS w rb gp B n o pin) (hn : 1 ≤ n ∧ n ≤ 128) (hol : o.length = n) (hin : ∀ x ∈ o, x < n) :
    Calls Try.prog 15 #[.pointer (some ⟨rb, 0, none⟩)] w fun e w' => e = .returned (.int .i64 (oldR o pin)) ∧ Below w.heap.size w w' := by
  obtain ⟨v, ps, h⟩ := h
  have hn1 := hn.1
  have hn2 := hn.2
  obtain ⟨-, gl, vc, rfl, hcap, hgl, hgw, hcel⟩ := own_cells h.own (by omega)
  rw [hol] at hcap hcel h
  have H := Lib.hid h
  have HC := Lib.hid hcel
  have HOL := Lib.hid hol
  have HIN := Lib.hid hin
  have hrw := blk_lt h.st
  have hgw2 := blk_lt h.pins
  clear h hcel hol hin hn
  go_enter Try.func15, Try.ntmps15
  go_wp2_with fail
  go_loopw [3] (fun i X => ∃ k : Nat, k ≤ n ∧ i = .int .i64 k ∧ Hid (∀ y ∈ o.take k, pin y = true) ∧ Hid (Below w.heap.size w X)) (fun i _ => n - (intOf i).toNat)
  case atStart => exact ⟨0, by omega, rfl, Lib.hid (by simp), Lib.hid (Below.refl _ _)⟩
  case round =>
    obtain ⟨k, hk, rfl, HF, HB⟩ := hrel
    rename World => X
    have c0 := (HB.out.cell (p := ⟨rb, 0, none⟩) hrw).trans H.out.c0
    have c1 := (HB.out.cell (p := ⟨rb, 1, none⟩) hrw).trans H.out.c1
    by_cases hlt : k < n
    · have hlt' : (k : Int) < n := by omega
      have cx := (HB.out.cell (p := ⟨gl, k, none⟩) hgw).trans (HC.out k hlt)
      have hko : k < o.length := by rw [HOL.out]; exact hlt
      obtain ⟨x, ex⟩ : ∃ x, o.getD k 0 = x := ⟨_, rfl⟩
      rw [ex] at cx
      have ex2 : o[k] = x := by rw [← ex]; simp [List.getD, hko]
      have hxn : x < n := ex2 ▸ HIN.out _ (List.getElem_mem _)
      have cp := (HB.out.cell (p := ⟨gp, x, none⟩) hgw2).trans (H.out.cp hxn)
      have q1 : decide ((n : Int) ≤ (x : Int)) = false := decide_eq_false (by omega)
      have q2 : decide ((x : Int) < 0) = false := decide_eq_false (by omega)
      have q3 : decide (n ≤ x) = false := decide_eq_false (by omega)
      have HT : Hid (o.take (k + 1) = o.take k ++ [x]) := Lib.hid (by rw [List.take_add_one, List.getElem?_eq_getElem hko, ex2]; rfl)
      have HD : Hid (o = o.take k ++ x :: o.drop (k + 1)) := Lib.hid (by rw [← ex2, ← List.drop_eq_getElem_cons hko, List.take_append_drop])
      obtain ⟨px, epx⟩ : ∃ p, pin x = p := ⟨_, rfl⟩
      rw [epx] at cp
      have EPX := Lib.hid epx
      clear ex ex2 hko epx
      cases px
      · have HR : Hid (oldR o pin = (x : Int)) := Lib.hid (by
          unfold oldR oldO
          rw [HD.out, List.find?_append, List.find?_eq_none.2 (fun y hy => by simp [HF.out y hy])]
          simp [EPX.out])
        go_wp2
        go_quiet (fail)
        go_wp2
        go_ret
        exact ⟨by rw [HR.out]; first | done | rfl, by have LX := HB.out; repeat' (first | (with_reducible exact Below.refl _ _) | (with_reducible refine Rd.below_step ?_ (by assumption)) | (with_reducible refine Rd.below_alloc ?_ _) | (with_reducible refine Rd.below_drewN ?_ _) | (with_reducible refine Below.drew ?_) | (with_reducible refine Below.setCell ?_ ?_ _) | (with_reducible refine Rd.below_setRow ?_ ?_ _) | go_size | (simp only [World.size_alloc]; omega) | omega)⟩
      · go_wp2
        go_quiet (fail)
        go_wp2
        exact ⟨⟨k + 1, by omega, by go_num, Lib.hid (fun y hy => by
          rw [HT.out] at hy
          rcases List.mem_append.1 hy with h1 | h1
          · exact HF.out y h1
          · rw [List.mem_singleton.1 h1]; exact EPX.out), Lib.hid (by have LX := HB.out; repeat' (first | (with_reducible exact Below.refl _ _) | (with_reducible refine Rd.below_step ?_ (by assumption)) | (with_reducible refine Rd.below_alloc ?_ _) | (with_reducible refine Rd.below_drewN ?_ _) | (with_reducible refine Below.drew ?_) | (with_reducible refine Below.setCell ?_ ?_ _) | (with_reducible refine Rd.below_setRow ?_ ?_ _) | go_size | (simp only [World.size_alloc]; omega) | omega))⟩, by simp [intOf]; omega⟩
    · obtain rfl : k = n := by omega
      have HR : Hid (oldR o pin = -1) := Lib.hid (by
        unfold oldR oldO
        rw [List.find?_eq_none.2 (fun y hy => by simp [HF.out y (by rw [← HOL.out, List.take_length]; exact hy)])]
        rfl)
      go_wp2
      go_ret
      exact ⟨by rw [HR.out]; first | done | rfl, HB.out⟩
/-! New -/
theorem rnew_no (m : Int) (hm : ¬ (1 ≤ m ∧ m ≤ 128)) (w : World) :
    Calls Try.prog 9 #[.int .i64 m] w fun e w' => e = .returned (.pointer none) ∧ w = w' := by
  have d0 : decide ((1 : Int) ≤ m ∧ m ≤ 128) = false := decide_eq_false hm
  clear hm
  go_enter Try.func9, Try.ntmps9
  go_wp2_with fail
  refine (rwithin_any _ _ _ _).mono ?_
  rintro e _ ⟨rfl, rfl⟩
  rw [d0]
  clear d0
  go_wp2
  go_ret
  exact ⟨rfl, rfl⟩
attribute [local go_sem ↓] run_make_bool
set_option maxHeartbeats 2000000 in
theorem rnew_any (n : Nat) (hn : 1 ≤ n ∧ n ≤ 128) (w : World) :
    Calls Try.prog 9 #[.int .i64 n] w fun e w' => (∃ rb gp B, e = .returned (.pointer (some ⟨rb, 0, none⟩)) ∧ w.heap.size ≤ rb ∧ w.heap.size ≤ gp ∧ w.heap.size ≤ B ∧ RS w' rb gp B n (List.range n) (fun _ => false)) ∧ Below w.heap.size w w' := by
  have d0 : decide ((1 : Int) ≤ (n : Int) ∧ (n : Int) ≤ 128) = true := decide_eq_true ⟨by omega, by omega⟩
  have hn1 := hn.1
  have hn2 := hn.2
  have hn3 : n ≤ 100000 := by omega
  clear hn
  go_enter Try.func9, Try.ntmps9
  go_wp2_with fail
  refine (rwithin_any _ _ _ _).mono ?_
  rintro e _ ⟨rfl, rfl⟩
  rw [d0]
  clear d0
  go_upto_region 4 with (fail)
  refine Rd.name_world ?_
  intro w1 hw
  have bP : blk w1 w.heap.size = some (.cells (bb (List.replicate n false)) 4 (0, 0)) := by rw [hw]; exact blk2_0 _ _ _
  have bR : blk w1 (w.heap.size + 1) = some (.cells #[.slice none 0 0, .slice (some ⟨w.heap.size, 0, none⟩) n n] 42 (0, 0)) := by rw [hw]; exact blk2_1 _ _ _
  have L1 : Below w.heap.size w w1 := by
    rw [hw]
    repeat' (first | (with_reducible exact Below.refl _ _) | (with_reducible refine Rd.below_step ?_ (by assumption)) | (with_reducible refine Rd.below_alloc ?_ _) | (with_reducible refine Rd.below_drewN ?_ _) | (with_reducible refine Below.drew ?_) | (with_reducible refine Below.setCell ?_ ?_ _) | (with_reducible refine Rd.below_setRow ?_ ?_ _) | go_size | (simp only [World.size_alloc]; omega) | omega)
  have hs1 : w1.heap.size = w.heap.size + 2 := by rw [hw]; simp
  obtain ⟨gp, hgp⟩ : ∃ p, w.heap.size = p := ⟨_, rfl⟩
  obtain ⟨rb, hrb⟩ : ∃ p, w.heap.size + 1 = p := ⟨_, rfl⟩
  have HS : Hid (Rf w1 rb gp w1.heap.size n (List.range 0) (fun _ => false) (.slice none 0 0) (List.replicate n false)) := Lib.hid ⟨by rw [← hrb, ← hgp]; exact bR, World.ownsRow_nil _ _ _ _, by rw [← hgp]; exact bP, by simp, fun x hx => by simp [List.getD, hx], by omega, by omega, by omega, by omega⟩
  have hB1 : w.heap.size ≤ rb := by omega
  have hB2 : w.heap.size ≤ gp := by omega
  have HL := Lib.hid L1
  rw [hrb]
  clear hw bP bR L1 hs1 hgp hrb
  go_wp2_with fail
  go_loopw [4] (fun i X => ∃ (k : Nat) (v : Value), k ≤ n ∧ i = .int .i64 k ∧ Hid (Rf X rb gp w1.heap.size n (List.range k) (fun _ => false) v (List.replicate n false)) ∧ Hid (Below w.heap.size w X)) (fun i _ => n - (intOf i).toNat)
  case atStart => exact ⟨0, _, by omega, rfl, HS, HL⟩
  case round =>
    clear HS
    obtain ⟨k, v, hk, rfl, HS, HB⟩ := hrel
    rename World => X
    by_cases hlt : k < n
    · have hlt' : (k : Int) < n := by omega
      have hown := HS.out.own
      rw [List.length_range] at hown
      obtain ⟨va, vc, rfl, -, -⟩ := owns_val hown
      have HO := Lib.hid hown
      have c0 := HS.out.c0
      have hlo := HS.out.lo
      have hszl := HL.out.size
      clear hown
      go_wp2_with (at_builtin; refine app_int rfl (.tmp 21) (.tmp 23) rfl w1.heap.size _ _ _ rfl (HO.out.alloc _) X.heap.size 1 k rfl (blk_alloc_at _ _ _ rfl) (by omega) (by simp; omega) ?_; intro v4 w4 ho4 hg4; have HG4 := Lib.hid hg4; have hne : ∀ q, q < w1.heap.size → (Value.slice va k vc).ownBlock ≠ some q := fun q hq e => by { have := (HO.out.lt q e).1; omega }; have keep : ∀ q, q < w1.heap.size → blk w4 q = blk X q := fun q hq => (hg4.block q (by simp; omega) (fun e => hne q hq e.symm)).trans (blk_alloc_old _ _ _ (by omega)); have b4 := (keep rb hlo.1).trans HS.out.st; have p4 := (keep gp hlo.2.1).trans HS.out.pins; have B4 := Lib.hid b4; have P4 := Lib.hid p4; have HO4 := Lib.hid ho4; have z0 : w4.cell? ⟨rb, 0, none⟩ = some (.slice va k vc) := (by rw [blk_cell b4]; rfl); have z1 := blk_frozen b4 0; obtain ⟨a4, k4, e4, -, -⟩ := owns_val ho4; subst e4; clear ho4 hg4 hne keep b4 p4)
      have L4 : Below w.heap.size w w4 := (HB.out.alloc (by have := HB.out.size; omega) _).grown HG4.out (by have := HB.out.size; simp; omega) (fun j hj => by have := (HO.out.lt j hj).1; omega)
      refine ⟨⟨k + 1, .slice a4 (k + 1) k4, by omega, by go_num, Lib.hid ⟨?_, ?_, ?_, HS.out.len, HS.out.at_, ?_⟩, Lib.hid (Below.setCell L4 (by show w.heap.size ≤ rb; omega) _)⟩, by simp [intOf]; omega⟩
      · exact blk_set w4 rb 0 _ _ _ B4.out
      · rw [List.length_range, List.range_succ]
        exact own_set HO4.out hlo.1
      · exact (heap_setCell_other _ _ _ _ (fun e => hlo.2.2.2 (by have := e; simp at this; omega))).trans P4.out
      · have := HG4.out.size
        simp at this
        exact ⟨hlo.1, hlo.2.1, by simp; omega, hlo.2.2.2⟩
    · obtain rfl : k = n := by omega
      go_wp2
      go_ret
      exact ⟨⟨rb, gp, w1.heap.size, rfl, hB1, hB2, HL.out.size, v, _, HS.out⟩, HB.out⟩
end Go.Proofs.Ytabedlahdkkihaa.LrI

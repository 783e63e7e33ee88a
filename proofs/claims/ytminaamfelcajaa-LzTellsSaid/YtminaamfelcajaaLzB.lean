/-
  Get, a pair, bytes copied again.
-/
import Derived.Test.YtminaamfelcajaaLzA
import Derived.Test.YtminaamfelcajaaLzR
namespace Go.Proofs.Ytminaamfelcajaa.LzB
open Go.RowKit Rd Go.Proofs.Ytminaamfelcajaa.Row OctA MaA MaB BitA BitB BitC BitD LzM LzA
set_option linter.unusedVariables false
set_option linter.unusedSimpArgs false
set_option maxRecDepth 10000
/-- nothing turns but a row of one's own -/
structure Gr (X Y : World) (v v' : Value) : Prop where
  os : Y.os = X.os
  tape : Y.tape = X.tape
  output : Y.output = X.output
  size : X.heap.size ≤ Y.heap.size
  block : ∀ k, k < X.heap.size → some k ≠ v.ownBlock → Y.heap[k]? = X.heap[k]?
  row : v'.ownBlock = v.ownBlock ∨ ∃ g, v'.ownBlock = some g ∧ X.heap.size ≤ g
theorem Gr.refl (X : World) (v : Value) : Gr X X v v := ⟨rfl, rfl, rfl, Nat.le_refl _, fun _ _ _ => rfl, .inl rfl⟩
theorem Gr.trans {X Y Z : World} {u v x : Value} (h : Gr X Y u v) (k : Gr Y Z v x) : Gr X Z u x := by
  refine ⟨k.os.trans h.os, k.tape.trans h.tape, k.output.trans h.output, Nat.le_trans h.size k.size, fun j hj hu => ?_, ?_⟩
  · rw [k.block j (Nat.lt_of_lt_of_le hj h.size) ?_, h.block j hj hu]
    rcases h.row with e | ⟨g, e, hg⟩
    · rw [e]; exact hu
    · rw [e]; intro e2; cases e2; omega
  · rcases k.row with e | ⟨g, e, hg⟩
    · rcases h.row with e2 | ⟨g, e2, hg⟩
      · exact .inl (e.trans e2)
      · exact .inr ⟨g, e.trans e2, hg⟩
    · exact .inr ⟨g, e, Nat.le_trans h.size hg⟩
theorem Gr.of_below {X Y : World} {v : Value} (h : Below X.heap.size X Y) : Gr X Y v v := ⟨h.os, h.tape, h.output, h.size, fun k hk _ => h.block k hk, .inl rfl⟩
theorem Gr.of_app {X Y : World} {v v' : Value} {o : Obj} (hg : (X.alloc o).grownBy Y v.ownBlock) (hr : v'.ownBlock = v.ownBlock ∨ v'.ownBlock = some (X.alloc o).heap.size) : Gr X Y v v' := by
  have hs := hg.size
  rw [World.size_alloc] at hs
  refine ⟨hg.os, hg.tape, hg.output, by omega, fun k hk hv => (hg.block k (by rw [World.size_alloc]; omega) hv).trans (blk_alloc_old _ _ _ hk), ?_⟩
  rcases hr with h | h
  · exact .inl h
  · exact .inr ⟨_, h, by rw [World.size_alloc]; omega⟩
theorem Gr.below {X Y : World} {v v' : Value} {B : Nat} (h : Gr X Y v v') (hv : ∀ k, v.ownBlock = some k → B ≤ k) (hB : B ≤ X.heap.size) : Below B X Y :=
  ⟨h.os, h.tape, h.output, h.size, fun k hk => h.block k (by omega) (fun e => by have := hv k e.symm; omega)⟩
theorem app_u8o {ops : Array Oper} {rest : List Oper} {o : Oper} {a : Act} {w : World} {Q : Exit → Act → World → Prop} (hgd : o.guard = none) (s x : Operand)
    (ho : o.op = .call { callee := .builtin .append, args := #[s, x], argTypes := #[22, 22] })
    (base : Nat) (v : Value) (m : Nat) (r : List Int) (hs : a.eval s = v) (hown : w.ownsRow base 5 1 v m (us r))
    (gx : Nat) (cx : Nat) (y : Int) (hx : a.eval x = .slice (some ⟨gx, 0, none⟩) 1 cx) (hg : blk w gx = some (.cells #[.int .u8 y] 5 (0, 0))) (hm : m ≤ 100000) (hbase : base ≤ w.heap.size)
    (h : ∀ v' w', w'.ownsRow base 5 1 v' (m + 1) (us (r ++ [y])) → w.grownBy w' v.ownBlock → (v'.ownBlock = v.ownBlock ∨ v'.ownBlock = some w.heap.size) → wpList Try.prog ops Q rest (a.put o.dst v') w') : wpList Try.prog ops Q (o :: rest) a w := by
  refine wpList_append_own2 w hgd s x 22 ho base 5 Try.underlying22 BitA.info_u8 v m (us r) hs hown ⟨gx, 0, none⟩ 1 cx (us [y]) hx rfl (by decide) ?_ ?_ (by omega) hbase ?_
  · intro j u hj
    rw [Addr.add_mid, Nat.zero_add, blk_cell hg]
    simpa [us] using hj
  · intro u hu
    simp only [us, List.map_cons, List.map_nil, List.mem_singleton] at hu
    subst hu
    rfl
  · intro v' w' h1 h2 h3
    exact h v' w' (by rw [us, List.map_append]; exact h1) h2 h3
set_option maxHeartbeats 2000000 in
theorem again_any (B : Nat) (v : Value) (b : List Int) (d n : Nat) (w : World) (hO : w.ownsRow B 5 1 v b.length (us b)) (hB : B ≤ w.heap.size) (hd : 1 ≤ d) (hdb : d ≤ b.length) (hl : b.length + n ≤ 70000) :
    Calls Try.prog 26 #[v, .int .i64 d, .int .i64 n] w fun e w' => ∃ v', e = .returned v' ∧ w'.ownsRow B 5 1 v' (again b d n).length (us (again b d n)) ∧ Gr w w' v v' := by
  have HO := Lib.hid hO
  have HV : Hid (∃ a c, v = .slice a b.length c) := Lib.hid (by obtain ⟨a, c, e, -, -⟩ := owns_val hO; exact ⟨a, c, e⟩)
  clear hO
  obtain ⟨a0, c0, rfl⟩ := HV.out
  go_enter Try.func26, Try.ntmps26
  go_wp2_with fail
  go_loopw [0, 8] (fun v' i X => ∃ k : Nat, k ≤ n ∧ i = .int .i64 k ∧ Hid (X.ownsRow B 5 1 v' (again b d k).length (us (again b d k))) ∧ Hid (Gr w X (.slice a0 b.length c0) v')) (fun _ i _ => n - (intOf i).toNat)
  case atStart => exact ⟨0, by omega, rfl, HO, Lib.hid (Gr.refl _ _)⟩
  case round =>
    obtain ⟨k, hk, rfl, HK, HG⟩ := hrel
    rename World => X
    rename Value => v'
    have hlen := again_len b d k
    obtain ⟨ra, rc, rfl, -, -⟩ := owns_val HK.out
    by_cases hlt : k < n
    · have hlt' : (k : Int) < (n : Int) := by omega
      have HS := Lib.hid (show again b d (k + 1) = again b d k ++ [(again b d k).getD ((again b d k).length - d) 0] from rfl)
      obtain ⟨r, hr⟩ : ∃ r, again b d k = r := ⟨_, rfl⟩
      rw [hr] at HK HS HG hlen ⊢
      obtain ⟨L, hL⟩ : ∃ L, r.length = L := ⟨_, rfl⟩
      have HL := Lib.hid hL
      rw [hL] at HK HS HG hlen ⊢
      have hLL : L ≤ 70000 := by omega
      obtain ⟨u, hu⟩ : ∃ u : Nat, (L : Int) - (d : Int) = u := ⟨L - d, by omega⟩
      have huL : u < L := by omega
      have huL' : (u : Int) < (L : Int) := by omega
      obtain ⟨pb, po, rfl, hpb, hcc⟩ := cell_u8 (Reads.of_owns HK.out) HL.out (by omega)
      have k1 := hcc u huL
      rw [show L - d = u by omega] at HS
      obtain ⟨x, hx⟩ : ∃ x, r.getD u 0 = x := ⟨_, rfl⟩
      rw [hx] at k1 HS
      have hszB : B ≤ X.heap.size := Nat.le_trans hB HG.out.size
      clear hr hL hcc hx hlen
      go_wp2_with (at_builtin; refine app_u8o rfl (.tmp 10) (.tmp 18) rfl B (.slice (some ⟨pb, po, none⟩) L rc) L r rfl (HK.out.alloc _) X.heap.size 1 x rfl (blk_alloc_at _ _ _ rfl) (by omega) (by simp; omega) ?_; intro v4 w4 ho4 hg4 hr4)
      have HG4 := Lib.hid (HG.out.trans (Gr.of_app hg4 hr4))
      exact ⟨⟨k + 1, by omega, by go_num, Lib.hid (by rw [HS.out, List.length_append, HL.out]; exact ho4), HG4⟩, by simp [intOf]; omega⟩
    · obtain rfl : k = n := by omega
      go_wp2
      go_ret
      exact ⟨_, rfl, HK.out, HG.out⟩
/-! reading -/
theorem get_some {w : World} {q : Nat} {v : Value} {zs : List Int} {a n x a' : Nat} (hR : RSt w q v zs a) (hz : ∀ z ∈ zs, 0 ≤ z ∧ z ≤ 255) (hn : n ≤ 32) (hl : zs.length ≤ 1000000) (h : getN zs a n = some (x, a')) :
    Calls Try.prog 24 #[.pointer (some ⟨q, 0, none⟩), .int .i64 n] w fun e w' => e = .returned (.tuple #[.int .i64 (x : Nat), .int .i64 0]) ∧ RSt w' q v zs a' ∧ FrQ w w' q := by
  obtain ⟨h1, h2, h3, h4⟩ := getN_le h
  subst h3 h1
  exact get_ok q v zs a n w hR hz hn h2 hl
theorem get_none {w : World} {q : Nat} {v : Value} {zs : List Int} {a n : Nat} (hR : RSt w q v zs a) (ha : a ≤ 8 * zs.length) (hn : n ≤ 32) (hl : zs.length ≤ 1000000) (h : getN zs a n = none) :
    Calls Try.prog 24 #[.pointer (some ⟨q, 0, none⟩), .int .i64 n] w fun e w' => e = .returned (.tuple #[.int .i64 0, .int .i64 3]) ∧ Below w.heap.size w w' := by
  refine get_short q v zs a n w hR (by omega) (by omega) ha ?_ hl
  unfold getN at h
  split at h
  · cases h
  · omega
def pairN (zs : List Int) (a : Nat) : Option (Nat × Nat × Nat) :=
  match getN zs a 12 with
  | none => none
  | some (d, a2) => match getN zs a2 8 with
    | none => none
    | some (n, a3) => some (d, n, a3)
theorem pair_some {w : World} {q : Nat} {v : Value} {zs : List Int} {a d n a' : Nat} (hR : RSt w q v zs a) (hz : ∀ z ∈ zs, 0 ≤ z ∧ z ≤ 255) (hl : zs.length ≤ 1000000) (h : pairN zs a = some (d, n, a')) :
    Calls Try.prog 25 #[.pointer (some ⟨q, 0, none⟩)] w fun e w' => e = .returned (.tuple #[.int .i64 ((d + 1 : Nat) : Int), .int .i64 ((n + 3 : Nat) : Int), .int .i64 0]) ∧ RSt w' q v zs a' ∧ FrQ w w' q := by
  unfold pairN at h
  cases h1 : getN zs a 12 with
  | none => rw [h1] at h; cases h
  | some r =>
    obtain ⟨d', a2⟩ := r
    rw [h1] at h
    simp only at h
    cases h2 : getN zs a2 8 with
    | none => rw [h2] at h; cases h
    | some r =>
      obtain ⟨n', a3⟩ := r
      rw [h2] at h
      cases h
      have g1 := getN_le h1
      have g2 := getN_le h2
      have hd : d < 4096 := g1.2.2.2
      have hn : n < 256 := g2.2.2.2
      obtain ⟨dd, hdd⟩ : ∃ dd : Nat, (d : Int) + 1 = dd := ⟨d + 1, by omega⟩
      obtain ⟨nn, hnn⟩ : ∃ nn : Nat, (n : Int) + 3 = nn := ⟨n + 3, by omega⟩
      have H1 := Lib.hid (get_some hR hz (by decide) hl h1)
      have H2 := Lib.hid (fun (X : World) (hX : RSt X q v zs a2) => get_some hX hz (by decide) hl h2)
      have HD := Lib.hid (And.intro hdd hnn)
      clear hR hz h1 h2 g1 g2
      go_enter Try.func25, Try.ntmps25
      go_wp2_with fail
      refine H1.out.mono ?_
      rintro e w1 ⟨rfl, r1, f1⟩
      have HF := Lib.hid f1
      have H3 := Lib.hid (H2.out w1 r1)
      clear r1 f1 H1
      go_wp2_with fail
      refine H3.out.mono ?_
      rintro e w2 ⟨rfl, r2, f2⟩
      have HF2 := Lib.hid (And.intro r2 (HF.out.trans f2))
      clear r2 f2 H3
      go_wp2_with fail
      refine bodyPost_ret (results_tmp3 rfl _ _ _) rfl ?_
      exact ⟨by rw [show ((d + 1 : Nat) : Int) = dd by omega, show ((n + 3 : Nat) : Int) = nn by omega]; rfl, HF2.out.1, HF2.out.2⟩
theorem pair_none {w : World} {q : Nat} {v : Value} {zs : List Int} {a : Nat} (hR : RSt w q v zs a) (ha : a ≤ 8 * zs.length) (hz : ∀ z ∈ zs, 0 ≤ z ∧ z ≤ 255) (hl : zs.length ≤ 1000000) (h : pairN zs a = none) (hq : q ≤ w.heap.size) :
    Calls Try.prog 25 #[.pointer (some ⟨q, 0, none⟩)] w fun e w' => e = .returned (.tuple #[.int .i64 0, .int .i64 0, .int .i64 3]) ∧ Below q w w' := by
  unfold pairN at h
  cases h1 : getN zs a 12 with
  | none =>
    have H1 := Lib.hid (get_none hR ha (by decide) hl h1)
    clear hR
    go_enter Try.func25, Try.ntmps25
    go_wp2_with fail
    refine H1.out.mono ?_
    rintro e w1 ⟨rfl, hb⟩
    have HB := Lib.hid (hb.mono hq)
    clear hb H1
    go_wp2_with fail
    refine bodyPost_ret (results_tmp3 rfl _ _ _) rfl ?_
    exact ⟨rfl, HB.out⟩
  | some r =>
    obtain ⟨d', a2⟩ := r
    rw [h1] at h
    simp only at h
    cases h2 : getN zs a2 8 with
    | some r => rw [h2] at h; cases h
    | none =>
      have g1 := getN_le h1
      have hd : d' < 4096 := g1.2.2.2
      have ha2 := g1.2.1
      have H1 := Lib.hid (get_some hR hz (by decide) hl h1)
      have H2 := Lib.hid (fun (X : World) (hX : RSt X q v zs a2) => get_none hX ha2 (by decide) hl h2)
      clear hR hz h1 h2 g1 h
      go_enter Try.func25, Try.ntmps25
      go_wp2_with fail
      refine H1.out.mono ?_
      rintro e w1 ⟨rfl, r1, f1⟩
      have HF := Lib.hid (f1.below hq (fun k hk => by cases hk))
      have H3 := Lib.hid (H2.out w1 r1)
      clear r1 f1 H1
      go_wp2_with fail
      refine H3.out.mono ?_
      rintro e w2 ⟨rfl, hb⟩
      have HB := Lib.hid (HF.out.trans (hb.mono (Nat.le_trans hq HF.out.size)))
      clear hb H3 HF
      go_wp2_with fail
      refine bodyPost_ret (results_tmp3 rfl _ _ _) rfl ?_
      exact ⟨rfl, HB.out⟩
end Go.Proofs.Ytminaamfelcajaa.LzB

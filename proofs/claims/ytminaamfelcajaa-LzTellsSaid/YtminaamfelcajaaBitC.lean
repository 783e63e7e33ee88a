/-
  The rest of a writer: Len, Bytes; and Read.
-/
import Derived.Test.YtminaamfelcajaaBitB
import Derived.Test.YtminaamfelcajaaApp
import Derived.Test.YtminaamfelcajaaBytes
import Derived.Lib.SliceRun
namespace Go.Proofs.Ytminaamfelcajaa.BitC
open Go.RowKit Rd Go.Proofs.Ytminaamfelcajaa.Row OctA BitA BitB
set_option linter.unusedVariables false
set_option linter.unusedSimpArgs false
set_option maxRecDepth 100000
theorem one_u8 (l : List Int) : ∀ u ∈ u8s l, u.oneCell' = true := by
  intro u hu
  obtain ⟨z, -, rfl⟩ := List.mem_map.1 hu
  rfl
set_option maxHeartbeats 2000000 in
theorem clone_any (a : Option Addr) (n c : Nat) (zs : List Int) (w : World) (hr : Reads w 1 a n (u8s zs)) (hn : n ≤ 1000000) :
    Calls Try.prog 31 #[.slice a n c] w fun e w' => ∃ v', e = .returned v' ∧ w'.ownsRow w.heap.size 5 1 v' n (u8s zs) ∧ Below w.heap.size w w' := by
  obtain ⟨i0, hi, hz0, hz1, hz2⟩ := info_parts info_u8
  have q22 : ∀ (w : World) (a : Option Addr) (n c n' c' : Nat), (binOp .eql 22 (.slice a n c) (.slice none n' c')).run Try.prog w = .ok (.bool a.isNone) w := fun w a n c n' c' => Lib.run_eql_slice_nil w _ _ a n c n' c' Try.underlying22
  cases a with
  | none =>
    have h0 : n = 0 := by
      rcases hr.2 with h | ⟨b, off, h, -⟩
      · exact h
      · cases h
    subst h0
    have hz : zs = [] := by
      have := hr.1
      simpa [u8s] using this
    subst hz
    go_enter Try.func31, Try.ntmps31
    go_wp2
    go_ret
    exact ⟨_, rfl, ⟨rfl, .inl ⟨rfl, rfl⟩⟩, Below.refl _ _⟩
  | some ad =>
    have hl : zs.length = n := by have := hr.1; simpa [u8s] using this
    have hmade := World.ownsRow_made w (e := 5) (size := 1) (base := w.heap.size) #[] 0 (Nat.le_refl _) (by decide) rfl
    have hB : Below w.heap.size w (w.alloc (.cells #[] 5)) := (Below.refl _ _).alloc (Nat.le_refl _) _
    have RA := hr.below hB (Nat.le_refl _)
    have ones := one_u8 zs
    clear hr
    go_enter Try.func31, Try.ntmps31
    go_wp2_with (at_builtin; refine App.wpList_append_reads _ rfl (.tmp 5) (.tmp 6) 22 rfl w.heap.size 5 i0 (.int .u8 0) 1 1 Try.underlying22 hi hz0 hz1 hz2 rfl (by decide) _ _ _ rfl hmade (some ad) n c (u8s zs) rfl RA ones (by unfold maxLen; omega) (by omega) (by simp) ?_; intro v3 w3 hown3 hgrow3)
    go_ret
    have L3 := hB.grown hgrow3 (by simp) (fun j hj => (hmade.lt j hj).1)
    exact ⟨_, rfl, by simpa using hown3, L3⟩
theorem u8s_length (zs : List Int) : (u8s zs).length = zs.length := by simp [u8s]
theorem put_nil (x n : Int) (w : World) :
    Calls Try.prog 16 #[.pointer none, .int .i64 x, .int .i64 n] w fun e w' => e = .returned (.int .i64 1) ∧ Below w.heap.size w w' := by
  go_enter Try.func16, Try.ntmps16
  go_wp2
  go_ret
  exact ⟨rfl, Below.refl _ _⟩
set_option maxHeartbeats 2000000 in
theorem put_bad (ad : Addr) (x n : Int) (w : World) (hb : n < 0 ∨ 32 < n ∨ x < 0 ∨ (2 : Int) ^ n.toNat ≤ x) :
    Calls Try.prog 16 #[.pointer (some ad), .int .i64 x, .int .i64 n] w fun e w' => e = .returned (.int .i64 1) ∧ Below w.heap.size w w' := by
  by_cases h1 : n < 0
  · go_enter Try.func16, Try.ntmps16
    go_wp2
    go_ret
    exact ⟨rfl, Below.refl _ _⟩
  by_cases h2 : 32 < n
  · go_enter Try.func16, Try.ntmps16
    go_wp2
    go_ret
    exact ⟨rfl, Below.refl _ _⟩
  by_cases h3 : x < 0
  · go_enter Try.func16, Try.ntmps16
    go_wp2
    go_ret
    exact ⟨rfl, Below.refl _ _⟩
  obtain ⟨m, rfl⟩ := Int.eq_ofNat_of_zero_le (show 0 ≤ n by omega)
  have hx : (2 : Int) ^ m ≤ x := by rcases hb with h | h | h | h <;> first | omega | simpa using h
  have hp32 : (2 : Int) ^ m ≤ 4294967296 := by
    have : 2 ^ m ≤ 4294967296 := Nat.le_trans (Nat.pow_le_pow_right (by decide) (show m ≤ 32 by omega)) (by decide)
    have h := Int.ofNat_le.2 this
    rw [Int.natCast_pow] at h
    exact h
  have hp0 : (0 : Int) < 2 ^ m := by
    have h := Int.ofNat_lt.2 (Nat.two_pow_pos m)
    rw [Int.natCast_pow] at h
    exact h
  clear hb
  go_enter Try.func16, Try.ntmps16
  go_wp2
  go_ret
  exact ⟨rfl, Below.refl _ _⟩
set_option maxHeartbeats 2000000 in
theorem bytes_any (p : Nat) (v : Value) (l : List Nat) (w : World) (hW : Wr w p v l) (hl : l.length ≤ 100000) :
    Calls Try.prog 19 #[.pointer (some ⟨p, 0, none⟩)] w fun e w' => ∃ v', e = .returned v' ∧ w'.ownsRow w.heap.size 5 1 v' (pack l).length (u8s (pack l)) ∧ Below w.heap.size w w' := by
  have lp := blk_lt hW.1.1
  have c0 := blk_cell hW.1.1 0
  simp only [List.getElem?_toArray, List.getElem?_cons_zero, List.getElem?_cons_succ] at c0
  have ho := hW.1.2
  obtain ⟨a, cap, rfl, h1, h2⟩ := owns_val ho
  have hR := Reads.of_owns ho
  have hpl := pack_length l
  have hc := clone_any a (pack l).length cap (pack l) w hR (by omega)
  clear ho hW hR hpl
  generalize pack l = zs at *
  go_enter Try.func19, Try.ntmps19
  go_wp2_with (go_at_call 31; refine hc.mono ?_; rintro e w2 ⟨v2, rfl, H3, H4⟩)
  go_ret
  exact ⟨_, rfl, H3, H4⟩
/-- a reader's block and row -/
structure RSt (w : World) (q : Nat) (v : Value) (zs : List Int) (at_ : Nat) : Prop where
  blk : blk w q = some (.cells #[v, .int .i64 at_] 74 (0, 0))
  row : w.ownsRow 0 5 1 v zs.length (u8s zs)
  far : v.ownBlock ≠ some q
theorem owns_down {w : World} {B : Nat} {e : TypeId} {s : Nat} {v : Value} {n : Nat} {xs : List Value} (h : w.ownsRow B e s v n xs) : w.ownsRow 0 e s v n xs := by
  refine ⟨h.1, ?_⟩
  rcases h.2 with hn | ⟨g, cap, cur, rfl, hb, rest⟩
  · exact .inl hn
  · exact .inr ⟨g, cap, cur, rfl, Nat.zero_le _, rest⟩
set_option maxHeartbeats 2000000 in
theorem read_any (a : Option Addr) (n c : Nat) (zs : List Int) (w : World) (hr : Reads w 1 a n (u8s zs)) (hn : n ≤ 1000000) :
    Calls Try.prog 23 #[.slice a n c] w fun e w' => ∃ q v', e = .returned (.pointer (some ⟨q, 0, none⟩)) ∧ w.heap.size ≤ q ∧ RSt w' q v' zs 0 ∧ (∀ k, v'.ownBlock = some k → w.heap.size ≤ k) ∧ Below w.heap.size w w' := by
  have hl : zs.length = n := by have := hr.1; simpa [u8s] using this
  have hc := clone_any a n c zs w hr hn
  clear hr
  go_enter Try.func23, Try.ntmps23
  go_wp2_with (go_at_call 31; refine hc.mono ?_; rintro e w2 ⟨v2, rfl, H3, H4⟩; obtain ⟨a2, c2, rfl, h21, h22⟩ := owns_val H3)
  go_ret
  refine ⟨w2.heap.size, .slice a2 n c2, rfl, H4.size, ⟨blk_alloc_at _ _ _ rfl, ?_, ?_⟩, ?_, H4.alloc H4.size _⟩
  · rw [hl]; exact owns_down (H3.alloc _)
  · intro e
    have := (H3.lt _ e).2
    omega
  · exact fun k hk => (H3.lt _ hk).1
end Go.Proofs.Ytminaamfelcajaa.BitC

/-
  The verifier's own row of bytes, at the seat of stage 7.
-/
import Derived.Test.YtminaamfelcajaaMaA
import Derived.Test.YtminaamfelcajaaAlike
namespace Go.Proofs.Ytminaamfelcajaa.LzR
open Go.RowKit Rd Go.Proofs.Ytminaamfelcajaa.Row MaA
set_option linter.unusedVariables false
set_option linter.unusedSimpArgs false
set_option maxRecDepth 10000
abbrev i64s (zs : List Int) : List Value := zs.map (Value.int .i64)
theorem app_u8 {ops : Array Oper} {rest : List Oper} {o : Oper} {a : Act} {w : World} {Q : Exit → Act → World → Prop} (hgd : o.guard = none) (s x : Operand)
    (ho : o.op = .call { callee := .builtin .append, args := #[s, x], argTypes := #[22, 22] })
    (base : Nat) (v : Value) (m : Nat) (r : List Int) (hs : a.eval s = v) (hown : w.ownsRow base 5 1 v m (us r))
    (gx : Nat) (cx : Nat) (y : Int) (hx : a.eval x = .slice (some ⟨gx, 0, none⟩) 1 cx) (hg : blk w gx = some (.cells #[.int .u8 y] 5 (0, 0))) (hm : m ≤ 1000000) (hbase : base ≤ w.heap.size)
    (h : ∀ v' w', w'.ownsRow base 5 1 v' (m + 1) (us (r ++ [y])) → w.grownBy w' v.ownBlock → wpList Try.prog ops Q rest (a.put o.dst v') w') : wpList Try.prog ops Q (o :: rest) a w := by
  obtain ⟨i0, hi, hz0, hz1, hz2⟩ := info_parts info_u8
  refine App.wpList_append_reads w hgd s x 22 ho base 5 i0 _ 1 1 Try.underlying22 hi hz0 hz1 hz2 rfl (by decide) v m (us r) hs hown (some ⟨gx, 0, none⟩) 1 cx (us [y]) hx ?_ ?_ (by unfold maxLen; omega) (by omega) hbase ?_
  · refine ⟨by simp [us], Or.inr ⟨gx, 0, rfl, blk_lt hg, fun j hj => ?_⟩⟩
    rw [Nat.zero_add, blk_cell hg]
    simp [us]
  · intro u hu
    simp only [us, List.map_cons, List.map_nil, List.mem_singleton] at hu
    subst hu
    rfl
  · intro v' w' h1 h2
    rw [← List.map_append] at h1
    exact h v' w' h1 h2
theorem cell_i64 {X : World} {a : Option Addr} {n : Nat} {l : List Int} (h : Reads X 1 a n (i64s l)) (hn : l.length = n) (h0 : n ≠ 0) : ∃ p o, a = some ⟨p, o, none⟩ ∧ p < X.heap.size ∧ ∀ i, i < n → X.cell? ⟨p, o + i, none⟩ = some (.int .i64 (l.getD i 0)) := by
  rcases h.2 with h1 | ⟨p, o, h1, h2, h3⟩
  · exact absurd h1 h0
  · refine ⟨p, o, h1, h2, fun i hi => ?_⟩
    rw [h3 i (by simp [i64s]; omega)]
    simp [i64s, List.getD, show i < l.length by omega]
set_option maxHeartbeats 4000000 in
theorem row_any (ai : Option Addr) (len cap : Nat) (zs : List Int) (N : Nat) (w : World) (hzl : zs.length = len) (hR : Reads w 1 ai len (i64s zs)) (hN : N ≤ 100000) (hl : len ≤ 100) :
    Calls Try.prog 14 #[.slice ai len cap, .int .i64 N] w fun e w' => (∃ l v, e = .returned v ∧ By l ∧ l.length ≤ N ∧ w'.ownsRow w.heap.size 5 1 v l.length (us l)) ∧ Below w.heap.size w w' := by
  by_cases h0 : len = 0
  · subst h0
    have H9 : Hid (∃ l v, (Value.slice none 0 0) = v ∧ By l ∧ l.length ≤ N ∧ w.ownsRow w.heap.size 5 1 v l.length (us l)) := Lib.hid ⟨[], _, rfl, (fun z hz => by cases hz), by simp, World.ownsRow_nil _ _ _ _⟩
    by_cases hn : 0 < N
    · have hn' : (0 : Int) < (N : Int) := by omega
      go_enter Try.func14, Try.ntmps14
      go_wp2_with fail
      go_loopw [5, 6] (fun v i X => v = .slice none 0 0 ∧ i = .int .i64 0 ∧ X = w) (fun _ i _ => 0)
      case atStart => exact ⟨rfl, rfl, rfl⟩
      case round =>
        obtain ⟨rfl, rfl, rfl⟩ := hrel
        go_wp2
        go_ret
        obtain ⟨l, v, h1, h2⟩ := H9.out
        exact ⟨⟨l, v, by rw [← h1]; rfl, h2⟩, Below.refl _ _⟩
    · have hn' : ¬ (0 : Int) < (N : Int) := by omega
      go_enter Try.func14, Try.ntmps14
      go_wp2_with fail
      go_loopw [5, 6] (fun v i X => v = .slice none 0 0 ∧ i = .int .i64 0 ∧ X = w) (fun _ i _ => 0)
      case atStart => exact ⟨rfl, rfl, rfl⟩
      case round =>
        obtain ⟨rfl, rfl, rfl⟩ := hrel
        go_wp2
        go_ret
        obtain ⟨l, v, h1, h2⟩ := H9.out
        exact ⟨⟨l, v, by rw [← h1]; rfl, h2⟩, Below.refl _ _⟩
  obtain ⟨p, o, rfl, hp, hc⟩ := cell_i64 hR hzl h0
  have HC := Lib.hid hc
  have hl0 : (0 : Int) < (len : Int) := by omega
  clear hR hc
  go_enter Try.func14, Try.ntmps14
  go_wp2_with fail
  go_loopw [5, 6] (fun v i X => ∃ (m : Nat) (l : List Int), m ≤ N ∧ i = .int .i64 m ∧ Hid (By l ∧ l.length = m) ∧ Hid (X.ownsRow w.heap.size 5 1 v m (us l)) ∧ Hid (Below w.heap.size w X)) (fun _ i _ => N - (intOf i).toNat)
  case atStart => exact ⟨0, [], by omega, rfl, Lib.hid ⟨fun z hz => (by cases hz), rfl⟩, Lib.hid (World.ownsRow_nil _ _ _ _), Lib.hid (Below.refl _ _)⟩
  case round =>
    obtain ⟨m, l, hm, rfl, HL, HO, HB⟩ := hrel
    rename World => X
    rename Value => v
    obtain ⟨ra, rc, rfl, -, -⟩ := owns_val HO.out
    by_cases hlt : m < N
    · have hlt' : (m : Int) < N := by omega
      obtain ⟨c, hcm⟩ : ∃ c, m % len = c := ⟨_, rfl⟩
      have hcl : c < len := by rw [← hcm]; exact Nat.mod_lt _ (by omega)
      have hct : (m : Int).tmod (len : Int) = (c : Int) := by rw [← hcm]; rfl
      have hcl' : (c : Int) < (len : Int) := by omega
      obtain ⟨q, hq⟩ : ∃ q : Nat, (m : Int).tdiv 97 = q := ⟨m / 97, rfl⟩
      have hq2 : (m : Int) / 97 = (q : Int) := hq
      have kc : X.cell? ⟨p, o + c, none⟩ = some (.int .i64 (zs.getD c 0)) := (HB.out.cell (p := ⟨p, _, none⟩) hp).trans (HC.out c hcl)
      obtain ⟨z, hz⟩ : ∃ z, zs.getD c 0 = z := ⟨_, rfl⟩
      rw [hz] at kc
      have hsz := HB.out.size
      have hk0 : ¬ (len : Int) = 0 := by omega
      clear hcm hz
      go_wp2_with (at_builtin; refine app_u8 rfl (.tmp 17) (.tmp 29) rfl w.heap.size _ _ _ rfl (HO.out.alloc _) X.heap.size 1 _ rfl (blk_alloc_at _ _ _ rfl) (by omega) (by simp; omega) ?_; intro v4 w4 ho4 hg4)
      have L4 : Below w.heap.size w w4 := (HB.out.alloc (by omega) _).grown hg4 (by simp; omega) (fun j hj => (HO.out.lt j hj).1)
      exact ⟨⟨m + 1, _, by omega, by go_num, Lib.hid ⟨fun x hx => by
        rcases List.mem_append.1 hx with h | h
        · exact HL.out.1 x h
        · rw [List.mem_singleton] at h; subst h; first | omega | (simp only [IntKind.wrap_u8]; omega), by rw [List.length_append, HL.out.2]; rfl⟩, Lib.hid ho4, Lib.hid L4⟩, by simp [intOf]; omega⟩
    · obtain rfl : m = N := by omega
      go_wp2
      go_ret
      exact ⟨⟨l, _, rfl, HL.out.1, by rw [HL.out.2]; exact Nat.le_refl _, by rw [HL.out.2]; exact HO.out⟩, HB.out⟩
end Go.Proofs.Ytminaamfelcajaa.LzR

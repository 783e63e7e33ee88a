/-
  The verifier's own row of bytes.
-/
import Derived.Test.YtfoghbbidmjopaaMaK
namespace Go.Proofs.Ytfoghbbidmjopaa.MaM2
open Go.RowKit Go.Shelf Rd Go.Proofs.Ytfoghbbidmjopaa.Row MaA MaK
set_option linter.unusedVariables false
set_option linter.unusedSimpArgs false
set_option maxRecDepth 10000
theorem cell_i64 {X : World} {a : Option Addr} {n : Nat} {l : List Int} (h : Reads X 1 a n (Alk.i64s l)) (hn : l.length = n) (h0 : n ≠ 0) : ∃ p o, a = some ⟨p, o, none⟩ ∧ p < X.heap.size ∧ ∀ i, i < n → X.cell? ⟨p, o + i, none⟩ = some (.int .i64 (l.getD i 0)) := by
  rcases h.2 with h1 | ⟨p, o, h1, h2, h3⟩
  · exact absurd h1 h0
  · refine ⟨p, o, h1, h2, fun i hi => ?_⟩
    rw [h3 i (by simp [Alk.i64s]; omega)]
    simp [Alk.i64s, List.getD, show i < l.length by omega]
set_option maxHeartbeats 4000000 in
theorem row_any (ai : Option Addr) (len cap : Nat) (zs : List Int) (N : Nat) (w : World) (hzl : zs.length = len) (hR : Reads w 1 ai len (Alk.i64s zs)) (hN : N ≤ 100000) (hl : len ≤ 100) :
    Calls Try.prog 6 #[.slice ai len cap, .int .i64 N] w fun e w' => (∃ l v, e = .returned v ∧ By l ∧ l.length ≤ N ∧ w'.ownsRow w.heap.size 5 1 v l.length (us l)) ∧ Below w.heap.size w w' := by
  by_cases h0 : len = 0
  · subst h0
    have H9 : Hid (∃ l v, (Value.slice none 0 0) = v ∧ By l ∧ l.length ≤ N ∧ w.ownsRow w.heap.size 5 1 v l.length (us l)) := Lib.hid ⟨[], _, rfl, (fun z hz => by cases hz), by simp, World.ownsRow_nil _ _ _ _⟩
    by_cases hn : 0 < N
    · have hn' : (0 : Int) < (N : Int) := by omega
      go_enter Try.func6, Try.ntmps6
      go_wp2_with fail
      go_loopw [5, 6] (fun v i X => v = .slice none 0 0 ∧ i = .int .i64 0 ∧ X = w) (fun _ i _ => 0)
      case atStart => exact ⟨rfl, rfl, rfl⟩
      case round =>
        obtain ⟨rfl, rfl, rfl⟩ := hrel
        go_wp2
        go_ret
        obtain ⟨l, v, h1, h2⟩ := H9.out
        exact ⟨⟨l, v, by rw [← h1]; rfl, h2⟩, Below.refl _ _⟩
    · have hn' : ¬ (0 : Int) < (N : Int) := by omega
      go_enter Try.func6, Try.ntmps6
      go_wp2_with fail
      go_loopw [5, 6] (fun v i X => v = .slice none 0 0 ∧ i = .int .i64 0 ∧ X = w) (fun _ i _ => 0)
      case atStart => exact ⟨rfl, rfl, rfl⟩
      case round =>
        obtain ⟨rfl, rfl, rfl⟩ := hrel
        go_wp2
        go_ret
        obtain ⟨l, v, h1, h2⟩ := H9.out
        exact ⟨⟨l, v, by rw [← h1]; rfl, h2⟩, Below.refl _ _⟩
  obtain ⟨p, o, rfl, hp, hc⟩ := cell_i64 hR hzl h0
  have HC := Lib.hid hc
  have hl0 : (0 : Int) < (len : Int) := by omega
  clear hR hc
  go_enter Try.func6, Try.ntmps6
  go_wp2_with fail
  go_loopw [5, 6] (fun v i X => ∃ (m : Nat) (l : List Int), m ≤ N ∧ i = .int .i64 m ∧ Hid (By l ∧ l.length = m) ∧ Hid (X.ownsRow w.heap.size 5 1 v m (us l)) ∧ Hid (Below w.heap.size w X)) (fun _ i _ => N - (intOf i).toNat)
  case atStart => exact ⟨0, [], by omega, rfl, Lib.hid ⟨fun z hz => (by cases hz), rfl⟩, Lib.hid (World.ownsRow_nil _ _ _ _), Lib.hid (Below.refl _ _)⟩
  case round =>
    obtain ⟨m, l, hm, rfl, HL, HO, HB⟩ := hrel
    rename World => X
    rename Value => v
    obtain ⟨ra, rc, rfl, -, -⟩ := owns_val HO.out
    by_cases hlt : m < N
    · have hlt' : (m : Int) < N := by omega
      obtain ⟨c, hcm⟩ : ∃ c, m % len = c := ⟨_, rfl⟩
      have hcl : c < len := by rw [← hcm]; exact Nat.mod_lt _ (by omega)
      have hct : (m : Int).tmod (len : Int) = (c : Int) := by rw [← hcm]; rfl
      have hcl' : (c : Int) < (len : Int) := by omega
      obtain ⟨q, hq⟩ : ∃ q : Nat, (m : Int).tdiv 97 = q := ⟨m / 97, rfl⟩
      have hq2 : (m : Int) / 97 = (q : Int) := hq
      have kc : X.cell? ⟨p, o + c, none⟩ = some (.int .i64 (zs.getD c 0)) := (HB.out.cell (p := ⟨p, _, none⟩) hp).trans (HC.out c hcl)
      obtain ⟨z, hz⟩ : ∃ z, zs.getD c 0 = z := ⟨_, rfl⟩
      rw [hz] at kc
      have hsz := HB.out.size
      have hk0 : ¬ (len : Int) = 0 := by omega
      clear hcm hz
      go_wp2_with (at_builtin; refine app_u8 rfl (.tmp 17) (.tmp 29) rfl w.heap.size _ _ _ rfl (HO.out.alloc _) X.heap.size 1 _ rfl (blk_alloc_at _ _ _ rfl) (by omega) (by simp; omega) ?_; intro v4 w4 ho4 hg4)
      have L4 : Below w.heap.size w w4 := (HB.out.alloc (by omega) _).grown hg4 (by simp; omega) (fun j hj => (HO.out.lt j hj).1)
      exact ⟨⟨m + 1, _, by omega, by go_num, Lib.hid ⟨fun x hx => by
        rcases List.mem_append.1 hx with h | h
        · exact HL.out.1 x h
        · rw [List.mem_singleton] at h; subst h; first | omega | (simp only [IntKind.wrap_u8]; omega), by rw [List.length_append, HL.out.2]; rfl⟩, Lib.hid ho4, Lib.hid L4⟩, by simp [intOf]; omega⟩
    · obtain rfl : m = N := by omega
      go_wp2
      go_ret
      exact ⟨⟨l, _, rfl, HL.out.1, by rw [HL.out.2]; exact Nat.le_refl _, by rw [HL.out.2]; exact HO.out⟩, HB.out⟩
end Go.Proofs.Ytfoghbbidmjopaa.MaM2

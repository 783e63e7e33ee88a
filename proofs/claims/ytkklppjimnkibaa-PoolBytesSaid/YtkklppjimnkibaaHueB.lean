/-
  What the byte rows of package hue are.
-/
import Derived.Test.YtkklppjimnkibaaHueA
import Derived.Test.YtkklppjimnkibaaRd
namespace Go.Proofs.Ytkklppjimnkibaa.HueB
open Go.RowKit HueA Rd
set_option linter.unusedVariables false
set_option linter.unusedSimpArgs false
set_option maxRecDepth 4000

theorem info_u8 : (Try.prog.info? 5).map (fun i => (i.zero, i.size, i.bytes)) = some (some (.int .u8 0), 1, 1) := by kernel_rfl

abbrev u8s (zs : List Int) : List Value := zs.map (Value.int .u8)

theorem u8s_at (zs : List Int) (j : Nat) (h : j < zs.length) : (u8s zs)[j]? = some (.int .u8 (zs.getD j 0)) := by
  simp [u8s, List.getD, h]

theorem take_four (zs : List Int) (k : Nat) (h : 4 * k + 4 ≤ zs.length) : (u8s zs).take (4 * (k + 1)) = (u8s zs).take (4 * k) ++ [.int .u8 (zs.getD (k * 4) 0), .int .u8 (zs.getD (k * 4 + 1) 0), .int .u8 (zs.getD (k * 4 + 2) 0), .int .u8 (zs.getD (k * 4 + 3) 0)] := by
  have e : ∀ j, j < zs.length → (u8s zs).take (j + 1) = (u8s zs).take j ++ [.int .u8 (zs.getD j 0)] := fun j hj => by
    rw [List.take_add_one, u8s_at zs j hj]; rfl
  rw [show 4 * (k + 1) = k * 4 + 3 + 1 by omega, e _ (by omega), e _ (by omega), e _ (by omega), e _ (by omega), show 4 * k = k * 4 by omega]
  simp

theorem rbytes_any (a : Option Addr) (len cap : Nat) (zs : List Int) (w : World) (hr : Reads w 4 a len (u8s zs)) (hlen : len ≤ 1000) :
    Calls Try.prog 53 #[.slice a len cap] w fun e w' => ∃ v, e = .returned v ∧ w'.ownsRow w.heap.size 5 1 v (4 * len) (u8s zs) ∧ Below w.heap.size w w' := by
  obtain ⟨i0, hi, hz0, hz1, hz2⟩ := info_parts info_u8
  obtain ⟨hcl, hrd⟩ := hr
  simp only [u8s, List.length_map] at hcl
  have HCL := Lib.hid hcl
  have HRD := Lib.hid hrd
  clear hcl hrd
  go_enter Try.func53, Try.ntmps53
  go_wp2
  go_loopw [3, 4] (fun v i wr => ∃ k : Nat, k ≤ len ∧ i = .int .i64 k ∧ wr.ownsRow w.heap.size 5 1 v (4 * k) ((u8s zs).take (4 * k)) ∧ Below w.heap.size w wr) (fun _ i _ => len - (intOf i).toNat)
  case atStart => exact ⟨0, Nat.zero_le _, rfl, World.ownsRow_nil _ _ _ _, Below.refl _ _⟩
  case round =>
    obtain ⟨k, hk, rfl, hown, hbel⟩ := hrel
    by_cases hlt : k < len
    · rcases HRD.out with h0 | ⟨b, off, rfl, hb, hc⟩
      · omega
      · have hwr := hbel.size
        have hlz := HCL.out
        have f : ∀ j, j < 4 → wr.cell? ⟨b, off + (k * 4 + j), none⟩ = some (.int .u8 (zs.getD (k * 4 + j) 0)) := fun j hj => by
          rw [hbel.cell (p := ⟨b, off + (k * 4 + j), none⟩) (by exact hb), hc _ (by simp; omega), u8s_at _ _ (by omega)]
        obtain ⟨x0, x1, x2, x3, f0, f1, f2, f3, ht⟩ : ∃ x0 x1 x2 x3, wr.cell? ⟨b, off + k * 4, none⟩ = some (.int .u8 x0) ∧ wr.cell? ⟨b, off + k * 4 + 1, none⟩ = some (.int .u8 x1) ∧
            wr.cell? ⟨b, off + k * 4 + 2, none⟩ = some (.int .u8 x2) ∧ wr.cell? ⟨b, off + k * 4 + 3, none⟩ = some (.int .u8 x3) ∧
            (u8s zs).take (4 * (k + 1)) = (u8s zs).take (4 * k) ++ [.int .u8 x0, .int .u8 x1, .int .u8 x2, .int .u8 x3] :=
          ⟨_, _, _, _, f 0 (by omega), by rw [Nat.add_assoc]; exact f 1 (by omega), by rw [Nat.add_assoc]; exact f 2 (by omega), by rw [Nat.add_assoc]; exact f 3 (by omega), take_four zs k (by omega)⟩
        have HT := Lib.hid ht
        have hlt' : (k : Int) < (len : Int) := by omega
        have OWN := Lib.hid (fun (x : Nat) (hx : x < w.heap.size) (e : some x = u3.ownBlock) => (by have := (hown.lt x e.symm).1; omega : False))
        clear f hc hlz ht
        go_wp2
        go_region_held3 (fun w' => w'.cell? ⟨b, off + k * 4, none⟩ = some (.int .u8 x0) ∧ w'.cell? ⟨b, off + k * 4 + 1, none⟩ = some (.int .u8 x1) ∧ w'.cell? ⟨b, off + k * 4 + 2, none⟩ = some (.int .u8 x2) ∧ w'.cell? ⟨b, off + k * 4 + 3, none⟩ = some (.int .u8 x3))
          (first
            | go_keep
            | (go_split_ands
               refine ⟨?_, ?_, ?_, ?_⟩ <;> (rw [hgrow1.cell_far _ (by simp; omega) (fun e => OWN.out b hb e)]; assumption)))
          ((refine step_append_lies _ (by rfl) _ _ _ (by rfl) w.heap.size 5 i0 _ 1 1 Try.underlying22 hi hz0 hz1 hz2 rfl (by omega) _ (4 * k) _ (by rfl) ((hown.alloc _).drew)
              ⟨wr.heap.size, 0, none⟩ 4 4 [.int .u8 x0, .int .u8 x1, .int .u8 x2, .int .u8 x3] (by rfl) (by rfl) (World.news_of_block (cs := #[.int .u8 x0, .int .u8 x1, .int .u8 x2, .int .u8 x3]) (t := 5) (fr := (0, 0)) (heap_alloc_new wr _)) (one_ints (l := [x0, x1, x2, x3]))
              (by omega) (by unfold maxLen; omega) (by omega) (by simp; omega) (wr.heap.size + 1) (by simp) ?_; intro gg cp w1 hown1 hgrow1 hat hlt1))
        go_wp2
        go_roundw
        case rel =>
          exact ⟨k + 1, by omega, by go_num, by rw [HT.out]; exact hown1, ((hbel.alloc (by omega) _).drew).grown hgrow1 (by simp; omega) (fun j hj => (hown.lt j hj).1)⟩
        case measure => simp [intOf]; omega
    · obtain rfl : k = len := by omega
      have hlz := HCL.out
      rw [List.take_of_length_le (by simp; omega)] at hown
      clear hlz
      go_wp2
      go_ret
      exact ⟨_, rfl, hown, hbel⟩
end Go.Proofs.Ytkklppjimnkibaa.HueB

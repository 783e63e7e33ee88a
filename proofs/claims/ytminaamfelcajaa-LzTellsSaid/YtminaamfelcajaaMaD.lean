/-
  New's beginning: bytes of its own, a row of noughts, a table.
-/
import Derived.Test.YtminaamfelcajaaMaC
import Derived.Deep.RegionWith
import Derived.Deep.CutRange
import Derived.Laws.MakeOwn
namespace Go.Proofs.Ytminaamfelcajaa.MaD
open Go.RowKit Rd Go.Proofs.Ytminaamfelcajaa.Row MaM MaA MaB MaC
set_option linter.unusedVariables false
set_option linter.unusedSimpArgs false
set_option maxRecDepth 100000
theorem own_keep {w w' : World} {base s : Nat} {e : TypeId} {v : Value} {n : Nat} {xs : List Value} (h : w.ownsRow base e s v n xs) (hk : ∀ (k : Nat) (cur : Array Value), w.heap[k]? = some (Obj.cells cur e (0, 0)) → w'.heap[k]? = w.heap[k]?) : w'.ownsRow base e s v n xs := by
  refine ⟨h.1, ?_⟩
  rcases h.2 with hn | ⟨g, cap, cur, rfl, hb, hg, rest⟩
  · exact .inl hn
  · exact .inr ⟨g, cap, cur, rfl, hb, by rw [hk g _ hg]; exact hg, rest⟩
theorem own_bel {w w' : World} {base s : Nat} {e : TypeId} {v : Value} {n : Nat} {xs : List Value} (h : w.ownsRow base e s v n xs) (hb : Below w.heap.size w w') : w'.ownsRow base e s v n xs :=
  own_keep h fun k cur hk => hb.block k (Array.getElem?_eq_some_iff.1 hk).1
theorem own_mono {w : World} {base base' : Nat} {e : TypeId} {size : Nat} {v : Value} {n : Nat} {xs : List Value} (h : w.ownsRow base e size v n xs) (hb : base' ≤ base) : w.ownsRow base' e size v n xs := by
  refine ⟨h.1, ?_⟩
  rcases h.2 with hn | ⟨g, cap, cur, rfl, h2, rest⟩
  · exact .inl hn
  · exact .inr ⟨g, cap, cur, rfl, Nat.le_trans hb h2, rest⟩
theorem one_u8 (l : List Int) : ∀ u ∈ us l, u.oneCell' = true := by
  intro u hu
  obtain ⟨z, -, rfl⟩ := List.mem_map.1 hu
  rfl
set_option maxHeartbeats 2000000 in
theorem clone_any (a : Option Addr) (n c : Nat) (zs : List Int) (w : World) (hr : Reads w 1 a n (us zs)) (hn : n ≤ 1000000) :
    Calls Try.prog 31 #[.slice a n c] w fun e w' => ∃ v', e = .returned v' ∧ w'.ownsRow w.heap.size 5 1 v' n (us zs) ∧ Below w.heap.size w w' := by
  obtain ⟨i0, hi, hz0, hz1, hz2⟩ := info_parts info_u8
  have q22 : ∀ (w : World) (a : Option Addr) (n c n' c' : Nat), (binOp .eql 22 (.slice a n c) (.slice none n' c')).run Try.prog w = .ok (.bool a.isNone) w := fun w a n c n' c' => Lib.run_eql_slice_nil w _ _ a n c n' c' Try.underlying22
  cases a with
  | none =>
    have h0 : n = 0 := by
      rcases hr.2 with h | ⟨b, off, h, -⟩
      · exact h
      · cases h
    subst h0
    have hz : zs = [] := by
      have := hr.1
      simpa [us] using this
    subst hz
    go_enter Try.func31, Try.ntmps31
    go_wp2
    go_ret
    exact ⟨_, rfl, ⟨rfl, .inl ⟨rfl, rfl⟩⟩, Below.refl _ _⟩
  | some ad =>
    have hl : zs.length = n := by have := hr.1; simpa [us] using this
    have hmade := World.ownsRow_made w (e := 5) (size := 1) (base := w.heap.size) #[] 0 (Nat.le_refl _) (by decide) rfl
    have hB : Below w.heap.size w (w.alloc (.cells #[] 5)) := (Below.refl _ _).alloc (Nat.le_refl _) _
    have RA := hr.below hB (Nat.le_refl _)
    have ones := one_u8 zs
    clear hr
    go_enter Try.func31, Try.ntmps31
    go_wp2_with (at_builtin; refine App.wpList_append_reads _ rfl (.tmp 5) (.tmp 6) 22 rfl w.heap.size 5 i0 (.int .u8 0) 1 1 Try.underlying22 hi hz0 hz1 hz2 rfl (by decide) _ _ _ rfl hmade (some ad) n c (us zs) rfl RA ones (by unfold maxLen; omega) (by omega) (by simp) ?_; intro v3 w3 hown3 hgrow3)
    go_ret
    have L3 := hB.grown hgrow3 (by simp) (fun j hj => (hmade.lt j hj).1)
    exact ⟨_, rfl, by simpa using hown3, L3⟩
theorem run_make_int (n : Nat) (hn : n ≤ 1000000) (w : World) :
    (Instr.makeSlice 31 (.int .i64 (n : Int)) (.int .i64 (n : Int))).run Try.prog w = .ok (.slice (some ⟨w.heap.size, 0, none⟩) n n) (w.alloc (.cells (iv (List.replicate n 0)).toArray 3)) := by
  obtain ⟨i, hi, hz, hs, hb⟩ := info_parts info_int
  have hr := run_make (P := Try.prog) w 31 3 i (.int .i64 0) Try.underlying31 hi hz .i64 .i64 (n : Int) (n : Int) (by omega) (by omega) (by rw [hb]; omega) (by omega)
  simp only [Int.toNat_natCast, hs, Nat.mul_one] at hr
  rw [hr]
  congr 2
  congr 1
  apply Array.ext
  · simp [size_madeCells, iv]
  · intro j h1 h2
    simp [madeCells, Value.cells, iv]
    rw [Nat.mod_one]
    rfl
theorem alloc_tab : Instr.alloc 67 true (.tuple #[]) = allocRow 67 := rfl
set_option maxRecDepth 1000000 in
theorem run_alloc_tab (w : World) : (allocRow 67).run Try.prog w = .ok (.pointer (some ⟨w.heap.size, 0, none⟩)) (w.alloc (.cells (iv (List.replicate 4096 0)).toArray 67)) := by kernel_rfl
end Go.Proofs.Ytminaamfelcajaa.MaD

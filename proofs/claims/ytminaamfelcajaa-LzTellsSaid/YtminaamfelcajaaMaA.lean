/-
  A finder; its most, its hash, what begins alike.
-/
import Derived.Test.YtminaamfelcajaaMaM
import Derived.Test.YtminaamfelcajaaRow
import Derived.Test.YtminaamfelcajaaApp
import Derived.Lib.SliceRun
import Derived.BigQuiet
namespace Go.Proofs.Ytminaamfelcajaa.MaA
open Go.RowKit Rd Go.Proofs.Ytminaamfelcajaa.Row MaM
set_option linter.unusedVariables false
set_option linter.unusedSimpArgs false
set_option maxRecDepth 10000
abbrev us (l : List Int) : List Value := l.map (Value.int .u8)
abbrev iv (l : List Int) : List Value := l.map (Value.int .i64)
def By (l : List Int) : Prop := ∀ z ∈ l, 0 ≤ z ∧ z ≤ 255
theorem By.at_ {l : List Int} (h : By l) (i : Nat) : 0 ≤ l.getD i 0 ∧ l.getD i 0 ≤ 255 := by
  rw [List.getD_eq_getElem?_getD]
  cases e : l[i]? with
  | none => exact ⟨by decide, by decide⟩
  | some z => exact h z (List.mem_of_getElem? e)
theorem info_u8 : (Try.prog.info? 5).map (fun i => (i.zero, i.size, i.bytes)) = some (some (.int .u8 0), 1, 1) := by kernel_rfl
theorem info_int : (Try.prog.info? 3).map (fun i => (i.zero, i.size, i.bytes)) = some (some (.int .i64 0), 1, 8) := by kernel_rfl
/-- a finder's block: its bytes' slice and the other one's -/
structure Hd (X : World) (f : Nat) (ba ra : Option Addr) (n cb cr : Nat) : Prop where
  head : blk X f = some (.cells #[.slice ba n cb, .slice ra n cr] 66 (0, 0))
  cap : n ≤ cb
  big : cb ≤ maxLen
theorem Hd.c0 {X : World} {f : Nat} {ba ra : Option Addr} {n cb cr : Nat} (h : Hd X f ba ra n cb cr) : X.cell? ⟨f, 0, none⟩ = some (.slice ba n cb) := by rw [blk_cell h.head]; rfl
theorem Hd.c1 {X : World} {f : Nat} {ba ra : Option Addr} {n cb cr : Nat} (h : Hd X f ba ra n cb cr) : X.cell? ⟨f, 1, none⟩ = some (.slice ra n cr) := by rw [blk_cell h.head]; rfl
theorem Hd.bel {X Y : World} {f : Nat} {ba ra : Option Addr} {n cb cr : Nat} (h : Hd X f ba ra n cb cr) (hb : Below X.heap.size X Y) : Hd Y f ba ra n cb cr := ⟨(blk_below hb f (blk_lt h.head)).trans h.head, h.cap, h.big⟩
theorem most_any (f : Nat) (ba ra : Option Addr) (l : List Int) (cb cr k : Nat) (X : World) (h : Hd X f ba ra l.length cb cr) (hk : k ≤ l.length) (hl : l.length ≤ 1000000) :
    Calls Try.prog 35 #[.pointer (some ⟨f, 0, none⟩), .int .i64 k] X fun e w' => e = .returned (.int .i64 (most l k)) ∧ w' = X := by
  have c0 := h.c0
  obtain ⟨m, hm⟩ : ∃ m : Nat, (l.length : Int) - (k : Int) = m := ⟨l.length - k, by omega⟩
  have hml : m = l.length - k := by omega
  have hmo : most l k = min 258 m := by unfold most; rw [hml]
  rw [hmo]
  clear hmo
  by_cases h2 : m < 258
  · have h3 : (m : Int) < 258 := by omega
    go_enter Try.func35, Try.ntmps35
    go_wp2
    go_ret
    exact ⟨by rw [Nat.min_eq_right (by omega), hml]; rfl, rfl⟩
  · have h3 : ¬ (m : Int) < 258 := by omega
    go_enter Try.func35, Try.ntmps35
    go_wp2
    go_ret
    exact ⟨by rw [Nat.min_eq_left (by omega)]; rfl, rfl⟩
set_option maxHeartbeats 2000000 in
theorem equal_any (a1 a2 : Option Addr) (n c1 c2 : Nat) (xs ys : List Int) (X : World) (hx : Reads X 1 a1 n (us xs)) (hy : Reads X 1 a2 n (us ys)) (hn : n ≤ 1000000) :
    Calls Try.prog 43 #[.slice a1 n c1, .slice a2 n c2] X fun e w' => e = .returned (.bool (decide (xs = ys))) ∧ Below X.heap.size X w' := by
  have lx : xs.length = n := by have := hx.1; simpa [us] using this
  have ly : ys.length = n := by have := hy.1; simpa [us] using this
  have HX := Lib.hid hx
  have HY := Lib.hid hy
  have HL := Lib.hid (And.intro lx ly)
  clear hx hy lx ly
  go_enter Try.func43, Try.ntmps43
  go_wp2
  go_loopw [13] (fun i Y => ∃ k : Nat, k ≤ n ∧ i = .int .i64 k ∧ Hid (∀ j, j < k → xs.getD j 0 = ys.getD j 0) ∧ Hid (Below X.heap.size X Y)) (fun i _ => n - (intOf i).toNat)
  case atStart => exact ⟨0, by omega, rfl, Lib.hid (fun j hj => by omega), Lib.hid (Below.refl _ _)⟩
  case round =>
    obtain ⟨k, hk9, rfl, HJ, HB⟩ := hrel
    rename World => Y
    by_cases hlt : k < n
    · have hlt' : (k : Int) < n := by omega
      obtain ⟨p1, o1, rfl, hp1, hc1⟩ : ∃ p o, a1 = some ⟨p, o, none⟩ ∧ p < X.heap.size ∧ ∀ i, i < n → X.cell? ⟨p, o + i, none⟩ = some (.int .u8 (xs.getD i 0)) := by
        rcases HX.out.2 with h0 | ⟨p, o, h1, h2, h3⟩
        · omega
        · refine ⟨p, o, h1, h2, fun i hi => ?_⟩
          have := HL.out.1
          rw [h3 i (by simp; omega)]
          simp [us, List.getD, show i < xs.length by omega]
      obtain ⟨p2, o2, rfl, hp2, hc2⟩ : ∃ p o, a2 = some ⟨p, o, none⟩ ∧ p < X.heap.size ∧ ∀ i, i < n → X.cell? ⟨p, o + i, none⟩ = some (.int .u8 (ys.getD i 0)) := by
        rcases HY.out.2 with h0 | ⟨p, o, h1, h2, h3⟩
        · omega
        · refine ⟨p, o, h1, h2, fun i hi => ?_⟩
          have := HL.out.2
          rw [h3 i (by simp; omega)]
          simp [us, List.getD, show i < ys.length by omega]
      have k1 : Y.cell? ⟨p1, o1 + k, none⟩ = some (.int .u8 (xs.getD k 0)) := (HB.out.cell (p := ⟨p1, _, none⟩) hp1).trans (hc1 k hlt)
      have k2 : Y.cell? ⟨p2, o2 + k, none⟩ = some (.int .u8 (ys.getD k 0)) := (HB.out.cell (p := ⟨p2, _, none⟩) hp2).trans (hc2 k hlt)
      obtain ⟨x, hxk⟩ : ∃ x, xs.getD k 0 = x := ⟨_, rfl⟩
      obtain ⟨y, hyk⟩ : ∃ y, ys.getD k 0 = y := ⟨_, rfl⟩
      have HXY := Lib.hid (And.intro hxk hyk)
      rw [hxk] at k1
      rw [hyk] at k2
      clear hc1 hc2 hxk hyk
      by_cases hxy : x = y
      · subst hxy
        have e1 : (x == x) = true := by simp
        go_wp2_with (go_quiet (fail))
        exact ⟨⟨k + 1, by omega, by go_num, Lib.hid (fun j hj => by
          rcases Nat.lt_or_ge j k with h | h
          · exact HJ.out j h
          · obtain rfl : j = k := by omega
            rw [HXY.out.1, HXY.out.2]), Lib.hid (below_drewN HB.out _)⟩, by simp [intOf]; omega⟩
      · have e1 : (x == y) = false := by simpa using hxy
        go_wp2_with (go_quiet (fail))
        go_ret
        have hne : xs ≠ ys := fun h => hxy (by rw [← HXY.out.1, ← HXY.out.2, h])
        refine ⟨by rw [decide_eq_false hne]; rfl, ?_⟩
        exact below_drewN HB.out _
    · obtain rfl : k = n := by omega
      go_wp2
      go_ret
      have he : xs = ys := by
        refine List.ext_getElem (by rw [HL.out.1, HL.out.2]) fun i h1 h2 => ?_
        have := HJ.out i (by rw [← HL.out.1]; exact h1)
        simpa [List.getD, h1, h2] using this
      exact ⟨by rw [decide_eq_true he]; rfl, HB.out⟩
end Go.Proofs.Ytminaamfelcajaa.MaA

/-
  The iterator over a level.
-/
import Derived.Test.YtkklppjimnkibaaPgC
import Derived.Test.YtkklppjimnkibaaIt
namespace Go.Proofs.Ytkklppjimnkibaa.PgD
open Go.RowKit Go.Shelf Rd Go.Proofs.Ytkklppjimnkibaa.Row Mid PgM PgA PgB PgC It
open Go.Proofs.Ytkklppjimnkibaa.Num (ret_int ret_bool)
set_option linter.unusedVariables false
set_option linter.unusedSimpArgs false
set_option maxRecDepth 10000
attribute [local go_sem] Oper.semAt_some
theorem grown_of {X Y : World} (h : Below X.heap.size X Y) : X.grownBy Y none := ⟨h.os, h.tape, h.output, h.size, fun k hk _ => h.block k hk⟩
theorem own_step {β : Type} {B : Nat} {J : β → World → Prop} (h : OwnFrom B J) {s : β} {X Y : World} (hs : J s X) (hb : Below X.heap.size X Y) : J s Y := h s X Y none hs (grown_of hb) (fun r e => by cases e)
theorem enters_level : ∀ args w, (callFunc 68 args).run Try.prog w = .ok (.enter 68 args) w := enters_of Try.func68 (by kernel_rfl) rfl
theorem enters_all : ∀ args w, (callFunc 66 args).run Try.prog w = .ok (.enter 66 args) w := enters_of Try.func66 (by kernel_rfl) rfl
theorem level_any (d l : Int) (w : World) :
    Calls Try.prog 67 #[.int .i64 d, .int .i64 l] w fun e w' => e = .returned (.func (.func 68) #[] #[.pointer (some ⟨w.heap.size, 0, none⟩), .pointer (some ⟨w.heap.size + 1, 0, none⟩)]) ∧ w' = (w.alloc (.cells #[.int .i64 d] 3)).alloc (.cells #[.int .i64 l] 3) := by
  have hmf : ∀ (fn : Fn) (first cap : Array Value) (w : World), (Instr.makeFunc fn first cap).run Try.prog w = .ok (.func fn first cap) w := fun _ _ _ _ => rfl
  go_enter Try.func67, Try.ntmps67
  go_wp2
  go_ret
  exact ⟨rfl, rfl⟩
theorem all_any (d : Int) (w : World) :
    Calls Try.prog 63 #[.int .i64 d] w fun e w' => e = .returned (.func (.func 66) #[] #[.pointer (some ⟨w.heap.size, 0, none⟩)]) ∧ w' = w.alloc (.cells #[.int .i64 d] 3) := by
  have hmf : ∀ (fn : Fn) (first cap : Array Value) (w : World), (Instr.makeFunc fn first cap).run Try.prog w = .ok (.func fn first cap) w := fun _ _ _ _ => rfl
  go_enter Try.func63, Try.ntmps63
  go_wp2
  go_ret
  exact ⟨rfl, rfl⟩
/-- a page as the argument of a yield -/
def encP (p : List Int) : Array Value := #[.agg (cs .i64 p)]
def Box1 (b : Nat) (v : Value) (X : World) : Prop := blk X b = some (.cells #[v] 3 (0, 0))
theorem Box1.cell {b : Nat} {v : Value} {X : World} (h : Box1 b v X) : X.cell? ⟨b, 0, none⟩ = some v := by rw [blk_cell h]; rfl
theorem pre_line {s l y x : Nat} (hy : y < s) (hx : x < s) : rowsL s l y ++ (List.range x).map (lineL s l y) ++ [[(l : Int), (x : Int), (y : Int)]] <+: levelL s l := by
  have h1 : (List.range x).map (lineL s l y) ++ [[(l : Int), (x : Int), (y : Int)]] <+: (List.range s).map (lineL s l y) := by
    have e : (List.range x).map (lineL s l y) ++ [[(l : Int), (x : Int), (y : Int)]] = (List.range (x + 1)).map (lineL s l y) := by rw [List.range_succ, List.map_append]; rfl
    rw [e]
    refine ⟨((List.range s).map (lineL s l y)).drop (x + 1), ?_⟩
    have e2 : (List.range (x + 1)).map (lineL s l y) = ((List.range s).map (lineL s l y)).take (x + 1) := by
      rw [← List.map_take, List.take_range, Nat.min_eq_left (by omega)]
    rw [e2, List.take_append_drop]
  have h2 : ∀ m, y + 1 ≤ m → rowsL s l (y + 1) <+: rowsL s l m := by
    intro m hm
    induction m with
    | zero => omega
    | succ m ih =>
      by_cases e : y + 1 = m + 1
      · rw [e]; exact List.prefix_refl _
      · rw [rowsL_succ s l m]
        exact (ih (by omega)).trans (List.prefix_append _ _)
  have h3 := h2 s (by omega)
  rw [rowsL_succ] at h3
  rw [List.append_assoc]
  exact (List.prefix_append_right_inj _ |>.2 h1).trans h3
set_option maxHeartbeats 4000000 in
theorem level_seq (n k b1 b2 : Nat) (hk : k ≤ n) (hn : n ≤ 3) :
    Seq Try.prog 68 #[.pointer (some ⟨b1, 0, none⟩), .pointer (some ⟨b2, 0, none⟩)] encP (levelL (2 ^ k) (n - k)) (fun X => Box1 b1 (.int .i64 n) X ∧ Box1 b2 (.int .i64 ((n - k : Nat) : Int)) X) := by
  intro lo J Jx Own W hJ hJx hM hK hY h0
  have hsb : 2 ^ k ≤ 8 := by
    have : k = 0 ∨ k = 1 ∨ k = 2 ∨ k = 3 := by omega
    rcases this with rfl | rfl | rfl | rfl <;> decide
  obtain ⟨l, hl⟩ : ∃ l : Nat, n - k = l := ⟨_, rfl⟩
  have CS : Hid (∀ X : World, Calls Try.prog 57 #[.int .i64 n, .int .i64 l] X fun e w' => e = .returned (.int .i64 ((2 ^ k : Nat) : Int)) ∧ Below X.heap.size X w') := fun X => by
    have := side_any n l (by omega) (by omega) (by omega) X
    rw [show sd (n : Int) (l : Int) = ((2 ^ k : Nat) : Int) by rw [← hl]; exact sd_pow n k hk] at this
    exact this
  rw [hl] at hK hY ⊢
  obtain ⟨s, es⟩ : ∃ s, 2 ^ k = s := ⟨_, rfl⟩
  rw [es] at CS hY hsb ⊢
  clear hl es
  have HY := Lib.hid hY
  have HJ := Lib.hid hJ
  have HK := Lib.hid hK
  clear hY hJ
  have k0 := hK [] W h0
  have c1 := k0.1.cell
  have c2 := k0.2.cell
  have H0 := Lib.hid h0
  clear h0 k0 hK
  refine callsIn_wide.1 (callsIn_of_wp (F := Fence.wide) (n := 0) Try.func68 rfl trivial ?_ rfl)
  simp only [Try.ntmps68, List.size_toArray, List.length_cons, List.length_nil, Nat.reduceAdd, Nat.reduceSub, Array.replicate_succ, Array.replicate_zero, List.push_toArray, List.append_toArray, List.nil_append, List.cons_append]
  gi_wp2_with (refine ⟨trivial, rfl, ?_⟩; refine (callsIn_wide.2 (CS.out _)).mono ?_; rintro e w1 ⟨rfl, hb1⟩)
  have H1 := Lib.hid (own_step HJ.out H0.out hb1)
  have S1 := hb1.size
  clear hb1 c1 c2 H0
  gi_loopw [9] (fun i X => ∃ y : Nat, y ≤ s ∧ i = .int .i64 y ∧ Hid (J (rowsL s l y) X) ∧ W.heap.size ≤ X.heap.size) (fun i _ => s - (intOf i).toNat)
  case atStart => exact ⟨0, by omega, rfl, by simpa [rowsL] using H1, S1⟩
  case round =>
    obtain ⟨y, hy, rfl, HJy, hsz⟩ := hrel
    rename World => X
    by_cases hlt : y < s
    · have hlt' : (y : Int) < s := by omega
      have kx := HK.out _ _ HJy.out
      have c1 := kx.1.cell
      have c2 := kx.2.cell
      clear kx
      gi_wp2_with (refine ⟨trivial, rfl, ?_⟩; refine (callsIn_wide.2 (CS.out _)).mono ?_; rintro e X1 ⟨rfl, hb1⟩)
      have H2 := Lib.hid (own_step HJ.out HJy.out hb1)
      have S2 : W.heap.size ≤ X1.heap.size := Nat.le_trans hsz hb1.size
      clear hb1 c1 c2
      gi_loopw [15] (fun i X => ∃ x : Nat, x ≤ s ∧ i = .int .i64 x ∧ Hid (J (rowsL s l y ++ (List.range x).map (lineL s l y)) X) ∧ W.heap.size ≤ X.heap.size) (fun i _ => s - (intOf i).toNat)
      case atStart => exact ⟨0, by omega, rfl, by simpa using H2, S2⟩
      case round =>
        obtain ⟨x, hx, rfl, HJx, hsx⟩ := hrel
        rename World => Z
        by_cases hltx : x < s
        · have hltx' : (x : Int) < s := by omega
          have kz := HK.out _ _ HJx.out
          have c2 := kz.2.cell
          have HP := Lib.hid (pre_line (l := l) hlt hltx)
          obtain ⟨fn, tmps, assign, body, hy, hR⟩ := HY.out _ _ Z HJx.out HP.out hsx
          have hy' : (Instr.yield lo #[.agg #[.int .i64 l, .int .i64 x, .int .i64 y]]).run Try.prog Z = .ok (.round lo fn tmps assign body) Z := hy
          clear kz hy
          gi_wp2
          refine ⟨rfl, hR.mono ?_⟩
          rintro e Z2 ⟨hkf, (⟨rfl, hJ2, ho2⟩ | ⟨rfl, hJ2⟩)⟩
          · have H3 := Lib.hid hJ2
            have S3 : W.heap.size ≤ Z2.heap.size := Nat.le_trans hsx hkf.1
            clear hJ2 hkf ho2 c2 hy'
            gi_wp2
            go_roundw
            case rel => exact ⟨x + 1, by omega, by go_num, Lib.hid (by rw [List.range_succ, List.map_append, ← List.append_assoc]; exact H3.out), S3⟩
            case measure => simp [intOf]; omega
          · have H3 := Lib.hid hJ2
            clear hJ2 hkf c2 hy'
            gi_wp2
            refine bodyPost_ret (results_none rfl _ _ _) rfl ?_
            exact ⟨⟨_, rfl⟩, .inr ⟨_, HP.out, H3.out⟩⟩
        · obtain rfl : x = s := by omega
          gi_wp2
          go_roundw
          case rel => exact ⟨y + 1, by omega, by go_num, Lib.hid (by rw [rowsL_succ]; exact HJx.out), hsx⟩
          case measure => simp [intOf]; omega
    · obtain rfl : y = s := by omega
      gi_wp2
      go_end0
      exact ⟨⟨_, rfl⟩, .inl HJy.out⟩
end Go.Proofs.Ytkklppjimnkibaa.PgD

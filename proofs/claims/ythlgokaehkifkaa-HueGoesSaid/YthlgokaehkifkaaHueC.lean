/-
  What rows of colours are read out of bytes.
-/
import Derived.Test.YthlgokaehkifkaaHueB
namespace Go.Proofs.Ythlgokaehkifkaa.HueC
open Go.RowKit HueA Rd HueB
set_option linter.unusedVariables false
set_option linter.unusedSimpArgs false
set_option maxRecDepth 4000

theorem info_col : (Try.prog.info? 23).map (fun i => (i.zero, i.size, i.bytes)) = some (some (.agg #[.int .u8 0, .int .u8 0, .int .u8 0, .int .u8 0]), 4, 4) := by kernel_rfl

theorem from_no (a : Option Addr) (len cap : Nat) (w : World) (hlen : len ≤ 4000) (hm : len % 4 ≠ 0) :
    Calls Try.prog 9 #[.slice a len cap] w fun e w' => e = .returned (.tuple #[.slice none 0 0, .bool false]) ∧ w = w' := by
  have h1 : ((len : Int) % 4 == 0) = false := by simp; omega
  have h2 : ¬ (len : Int) % 4 = 0 := by omega
  go_enter Try.func9, Try.ntmps9
  go_wp2
  go_ret2
  exact ⟨rfl, rfl⟩
theorem rfrom_no (a : Option Addr) (len cap : Nat) (w : World) (hlen : len ≤ 4000) (hm : len % 4 ≠ 0) :
    Calls Try.prog 10 #[.slice a len cap] w fun e w' => e = .returned (.tuple #[.slice none 0 0, .bool false]) ∧ w = w' := by
  have h1 : ((len : Int) % 4 == 0) = false := by simp; omega
  have h2 : ¬ (len : Int) % 4 = 0 := by omega
  go_enter Try.func10, Try.ntmps10
  go_wp2
  go_ret2
  exact ⟨rfl, rfl⟩

def part (zs : List Int) (n k : Nat) : List Value := (u8s zs).take (4 * k) ++ List.replicate (4 * (n - k)) (.int .u8 0)
theorem part_len (zs : List Int) (n k : Nat) (hz : zs.length = 4 * n) (hk : k ≤ n) : (part zs n k).length = 4 * n := by
  simp [part]; omega
theorem part_zero (zs : List Int) (n : Nat) : part zs n 0 = List.replicate (4 * n) (.int .u8 0) := by simp [part]
theorem part_all (zs : List Int) (n : Nat) (hz : zs.length = 4 * n) : part zs n n = u8s zs := by
  simp only [part, Nat.sub_self, Nat.mul_zero, List.replicate_zero, List.append_nil]
  exact List.take_of_length_le (by simp; omega)
theorem splice_append {α : Type} (A R B : List α) (k : Nat) (hk : A.length = k) : splice (A ++ R) k B = A ++ (B ++ R.drop B.length) := by
  subst hk
  simp [splice, List.take_append, List.drop_append]
theorem part_succ (zs : List Int) (n k : Nat) (hz : zs.length = 4 * n) (hk : k < n) : splice (part zs n k) (4 * k) (((u8s zs).drop (4 * k)).take 4) = part zs n (k + 1) := by
  have hl : ((u8s zs).take (4 * k)).length = 4 * k := by simp only [u8s, List.length_take, List.length_map]; omega
  have hd : (((u8s zs).drop (4 * k)).take 4).length = 4 := by simp only [u8s, List.length_take, List.length_drop, List.length_map]; omega
  unfold part
  rw [splice_append _ _ _ _ hl, hd, List.drop_replicate, show 4 * (k + 1) = 4 * k + 4 by omega, List.take_add, List.append_assoc, show 4 * (n - k) - 4 = 4 * (n - (k + 1)) by omega]
theorem made_cols (n : Nat) : (madeCells (Value.cells (.agg #[.int .u8 0, .int .u8 0, .int .u8 0, .int .u8 0])) (n * 4)).toList = List.replicate (4 * n) (.int .u8 0) := by
  rw [List.eq_replicate_iff]
  refine ⟨by simp [madeCells]; omega, fun b hb => ?_⟩
  simp only [madeCells, Array.toList_map, List.mem_map] at hb
  obtain ⟨i, _, rfl⟩ := hb
  have : i % 4 = 0 ∨ i % 4 = 1 ∨ i % 4 = 2 ∨ i % 4 = 3 := by omega
  simp only [Value.cells]
  show #[Value.int IntKind.u8 0, Value.int IntKind.u8 0, Value.int IntKind.u8 0, Value.int IntKind.u8 0][i % 4]! = _
  rcases this with h | h | h | h <;> rw [h] <;> rfl
theorem block_of_owns {w : World} {base g n cap size : Nat} {e : TypeId} {xs : List Value} (h : w.ownsRow base e size (.slice (some ⟨g, 0, none⟩) n n) n xs) : w.heap[g]? = some (.cells xs.toArray e (0, 0)) := by
  obtain ⟨h1, h2⟩ := h
  rcases h2 with ⟨h3, _⟩ | ⟨g', cap', cur, h3, hb, hg, hc, hm, hs, ht⟩
  · cases h3
  · cases h3
    rw [hg, ← ht, List.take_of_length_le (by simp; omega)]

theorem from_yes (a : Option Addr) (len cap n : Nat) (zs : List Int) (w : World) (hr : Reads w 1 a len (u8s zs)) (hlen : len ≤ 4000) (hn : len = 4 * n) (hcap : len ≤ cap) (hcm : cap ≤ maxLen) :
    Calls Try.prog 9 #[.slice a len cap] w fun e w' => ∃ v, e = .returned (.tuple #[v, .bool true]) ∧ w'.ownsRow w.heap.size 23 4 v n (u8s zs) ∧ Below w.heap.size w w' := by
  obtain ⟨i0, hi, hz0, hz1, hz2⟩ := info_parts info_col
  obtain ⟨i8, hi8, _, hs8, _⟩ := info_parts info_u8
  obtain ⟨hcl, hrd⟩ := hr
  simp only [u8s, List.length_map, Nat.mul_one] at hcl
  have HCL := Lib.hid hcl
  have HRD := Lib.hid hrd
  clear hcl hrd
  have h1 : ((len : Int) % 4 == 0) = true := by simp; omega
  have h2 : (len : Int) % 4 = 0 := by omega
  unfold maxLen at hcm
  have HN := Lib.hid hn
  clear hn
  go_enter Try.func9, Try.ntmps9
  go_wp2_with (first
    | (at_make; refine wpList_make_full _ rfl _ _ 26 rfl w.heap.size 23 i0 (.agg #[.int .u8 0, .int .u8 0, .int .u8 0, .int .u8 0]) 4 Try.underlying26 hi hz0 hz1 .i64 .i64 _ _ n rfl rfl (by have := HN.out; omega) (by have := HN.out; omega) (by have := HN.out; rw [hz2]; omega) (by have := HN.out; unfold maxLen; omega) (Nat.le_refl _) ?_; intro w0 hown0 hgrow0))
  rw [made_cols] at hown0
  have HB0 := block_of_owns (cap := 0) hown0
  have hbel0 : Below w.heap.size w w0 := (Below.refl _ _).grown hgrow0 (Nat.le_refl _) (fun k h => by cases h)
  clear hown0 hgrow0
  go_loopw [5, 16] (fun p i wr => ∃ k : Nat, k ≤ n ∧ i = .int .i64 k ∧ Hid (wr.heap[w.heap.size]? = some (.cells (part zs n k).toArray 23 (0, 0))) ∧ Below w.heap.size w wr) (fun _ i _ => n - (intOf i).toNat)
  case atStart => exact ⟨0, Nat.zero_le _, rfl, by rw [part_zero]; exact HB0, hbel0⟩
  case round =>
    obtain ⟨k, hk, rfl, HB, hbel⟩ := hrel
    by_cases hlt : k < n
    · have hln := HN.out
      rcases HRD.out with h0 | ⟨b, off, rfl, hb, hc⟩
      · omega
      · have HC := Lib.hid hc
        clear hc
        have hsz := hbel.size
        have g1 : 4 * (k : Int) < (cap : Int) := by omega
        have g2 : 4 * (k : Int) ≤ (len : Int) := by omega
        have g3 : 4 * k < cap := by omega
        have g4 : (k : Int) < (n : Int) := by omega
        clear hln
        go_wp2
        (refine Reg.quiet_tail 8 (by kernel_rfl) (by kernel_rfl) ?_; simp only [List.take_succ_cons, List.take_zero, List.drop_succ_cons, List.drop_zero]; (repeat go_big_quiet_step (fail)); refine wpQuiet_nil ?_)
        refine wpList_copy_splice rfl (.tmp 22) (.tmp 26) 24 24 rfl 5 Try.underlying24 (by rw [hi8]; simp [hs8]) (some ⟨w.heap.size, k * 4, none⟩) (some ⟨b, off + 4 * k, none⟩) 4 4 (len - 4 * k) (cap - 4 * k) rfl rfl
            w.heap.size (4 * k) (part zs n k) 23 HB.out (((u8s zs).drop (4 * k)).take 4) ?c1 ?c2 ?c3 ?c4 w.heap.size w hbel.drew (Nat.le_refl _) ?_
        case c1 => have := HN.out; have := HCL.out; change _ = min (len - 4 * k) 4; simp only [u8s, List.length_take, List.length_drop, List.length_map]; omega
        case c2 =>
          intro _
          refine ⟨by rw [Nat.mul_comm], _, rfl, fun j v hv => ?_⟩
          have hz := HCL.out
          have hj : j < 4 := by
            rcases Nat.lt_or_ge j 4 with h | h
            · exact h
            · rw [List.getElem?_eq_none (by simp only [List.length_take]; omega)] at hv; cases hv
          rw [List.getElem?_take_of_lt hj, List.getElem?_drop] at hv
          have hlt2 : 4 * k + j < (u8s zs).length := by
            rcases Nat.lt_or_ge (4 * k + j) (u8s zs).length with h | h
            · exact h
            · rw [List.getElem?_eq_none h] at hv; cases hv
          have e : (⟨b, off + 4 * k, none⟩ : Addr).add j = ⟨b, off + (4 * k + j), none⟩ := by
            unfold Addr.add
            by_cases hj : j = 0 <;> simp [hj, Nat.add_assoc]
          rw [e]
          show (wr.drew).cell? _ = _
          rw [World.cell?_drew, hbel.cell (p := ⟨b, off + (4 * k + j), none⟩) hb, HC.out _ hlt2, hv]
        case c3 => have := HN.out; have := HCL.out; rw [part_len zs n k (by omega) (by omega)]; simp only [u8s, List.length_take, List.length_drop, List.length_map]; omega
        case c4 =>
          intro v hv
          have := List.mem_of_mem_drop (List.mem_of_mem_take hv)
          exact one_ints v this
        intro w1 HB1 hbel1
        rw [part_succ zs n k (by have := HN.out; have := HCL.out; omega) hlt] at HB1
        go_wp2
        go_roundw
        case rel => exact ⟨k + 1, by omega, by go_num, HB1, hbel1⟩
        case measure => simp [intOf]; omega
    · obtain rfl : k = n := by omega
      have hz : zs.length = 4 * k := by have := HN.out; have := HCL.out; omega
      rw [part_all zs k hz] at HB
      have HZ := Lib.hid hz
      clear hz
      go_wp2
      go_ret2
      refine ⟨_, rfl, ⟨by have := HZ.out; simp only [u8s, List.length_map]; omega, .inr ⟨_, _, _, rfl, Nat.le_refl _, HB.out, Nat.le_refl _, by have := HN.out; unfold maxLen; omega, by have := HZ.out; simp; omega, ?_⟩⟩, hbel⟩
      have := HZ.out
      exact List.take_of_length_le (by simp; omega)

theorem rfrom_yes (a : Option Addr) (len cap n : Nat) (zs : List Int) (w : World) (hr : Reads w 1 a len (u8s zs)) (hlen : len ≤ 4000) (hn : len = 4 * n) (hcap : len ≤ cap) (hcm : cap ≤ maxLen) :
    Calls Try.prog 10 #[.slice a len cap] w fun e w' => ∃ v, e = .returned (.tuple #[v, .bool true]) ∧ w'.ownsRow w.heap.size 23 4 v n (u8s zs) ∧ Below w.heap.size w w' := by
  obtain ⟨i0, hi, hz0, hz1, hz2⟩ := info_parts info_col
  obtain ⟨hcl, hrd⟩ := hr
  simp only [u8s, List.length_map, Nat.mul_one] at hcl
  have HCL := Lib.hid hcl
  have HRD := Lib.hid hrd
  clear hcl hrd
  have h1 : ((len : Int) % 4 == 0) = true := by simp; omega
  have h2 : (len : Int) % 4 = 0 := by omega
  have HN := Lib.hid hn
  clear hn
  go_enter Try.func10, Try.ntmps10
  go_wp2
  clear h1 h2
  go_loopw [4, 5] (fun v i wr => ∃ k m : Nat, k ≤ n ∧ Hid (m = 4 * k) ∧ i = .int .i64 (m : Nat) ∧ wr.ownsRow w.heap.size 23 4 v k ((u8s zs).take (4 * k)) ∧ Below w.heap.size w wr) (fun _ i _ => 4 * n - (intOf i).toNat)
  case atStart => exact ⟨0, 0, Nat.zero_le _, rfl, rfl, World.ownsRow_nil _ _ _ _, Below.refl _ _⟩
  case round =>
    obtain ⟨k, m, hk, HM, rfl, hown, hbel⟩ := hrel
    by_cases hlt : k < n
    · have hln := HN.out
      rcases HRD.out with h0 | ⟨b, off, rfl, hb, hc⟩
      · omega
      · have hwr := hbel.size
        have hlz := HCL.out
        have f : ∀ j, j < 4 → wr.cell? ⟨b, off + (k * 4 + j), none⟩ = some (.int .u8 (zs.getD (k * 4 + j) 0)) := fun j hj => by
          rw [hbel.cell (p := ⟨b, off + (k * 4 + j), none⟩) (by exact hb), hc _ (by simp; omega), u8s_at _ _ (by omega)]
        obtain ⟨x0, x1, x2, x3, f0, f1, f2, f3, ht⟩ : ∃ x0 x1 x2 x3, wr.cell? ⟨b, off + m, none⟩ = some (.int .u8 x0) ∧ wr.cell? ⟨b, off + (m + 1), none⟩ = some (.int .u8 x1) ∧
            wr.cell? ⟨b, off + (m + 2), none⟩ = some (.int .u8 x2) ∧ wr.cell? ⟨b, off + (m + 3), none⟩ = some (.int .u8 x3) ∧
            (u8s zs).take (4 * (k + 1)) = (u8s zs).take (4 * k) ++ [.int .u8 x0, .int .u8 x1, .int .u8 x2, .int .u8 x3] :=
          ⟨_, _, _, _, by rw [HM.out, Nat.mul_comm 4]; exact f 0 (by omega), by rw [HM.out, Nat.mul_comm 4]; exact f 1 (by omega), by rw [HM.out, Nat.mul_comm 4]; exact f 2 (by omega), by rw [HM.out, Nat.mul_comm 4]; exact f 3 (by omega), take_four zs k (by omega)⟩
        have HT := Lib.hid ht
        have hmk := HM.out
        have g0 : (m : Int) < (len : Int) := by omega
        have g1 : (m : Int) + 1 < (len : Int) := by omega
        have g2 : (m : Int) + 2 < (len : Int) := by omega
        have g3 : (m : Int) + 3 < (len : Int) := by omega
        have e1 : IntKind.i64.wrap ((m : Int) + 1) = (m : Int) + 1 := IntWalk.i64_in _ (by omega)
        have e2 : IntKind.i64.wrap ((m : Int) + 2) = (m : Int) + 2 := IntWalk.i64_in _ (by omega)
        have e3 : IntKind.i64.wrap ((m : Int) + 3) = (m : Int) + 3 := IntWalk.i64_in _ (by omega)
        have p1 : 0 ≤ (m : Int) + 1 := by omega
        have p2 : 0 ≤ (m : Int) + 2 := by omega
        have p3 : 0 ≤ (m : Int) + 3 := by omega
        have t1 : ((m : Int) + 1).toNat = m + 1 := by omega
        have t2 : ((m : Int) + 2).toNat = m + 2 := by omega
        have t3 : ((m : Int) + 3).toNat = m + 3 := by omega
        have hn1 : n ≤ 1000 := by omega
        clear hmk
        have OWN := Lib.hid (fun (x : Nat) (hx : x < w.heap.size) (e : some x = u4.ownBlock) => (by have := (hown.lt x e.symm).1; omega : False))
        clear f hc hlz ht hln
        go_wp2
        go_region_held3 (fun w' => w'.cell? ⟨b, off + m, none⟩ = some (.int .u8 x0) ∧ w'.cell? ⟨b, off + (m + 1), none⟩ = some (.int .u8 x1) ∧ w'.cell? ⟨b, off + (m + 2), none⟩ = some (.int .u8 x2) ∧ w'.cell? ⟨b, off + (m + 3), none⟩ = some (.int .u8 x3))
          (first
            | go_keep
            | (go_split_ands
               refine ⟨?_, ?_, ?_, ?_⟩ <;> (rw [hgrow1.cell_far _ (by simp; omega) (fun e => OWN.out b hb e)]; assumption)))
          ((refine step_append_lies _ (by rfl) _ _ _ (by rfl) w.heap.size 23 i0 _ 4 4 Try.underlying26 hi hz0 hz1 hz2 rfl (by omega) _ k _ (by rfl) ((hown.alloc _).drew)
              ⟨wr.heap.size, 0, none⟩ 1 1 [.int .u8 x0, .int .u8 x1, .int .u8 x2, .int .u8 x3] (by rfl) (by rfl) (World.news_of_block (cs := #[.int .u8 x0, .int .u8 x1, .int .u8 x2, .int .u8 x3]) (t := 23) (fr := (0, 0)) (heap_alloc_new wr _)) (one_ints (l := [x0, x1, x2, x3]))
              (by omega) (by unfold maxLen; omega) (by omega) (by simp; omega) (wr.heap.size + 1) (by simp) ?_; intro gg cp w1 hown1 hgrow1 hat hlt1))
        clear e1 e2 e3 p1 p2 p3 t1 t2 t3
        have hm4 : (m : Int) + 4 ≤ 4000 := by have := HN.out; have := HM.out; omega
        go_wp2
        go_roundw
        case rel =>
          exact ⟨k + 1, m + 4, by omega, (by have := HM.out; omega : m + 4 = 4 * (k + 1)), by go_num, by rw [HT.out]; exact hown1, ((hbel.alloc (by omega) _).drew).grown hgrow1 (by simp; omega) (fun j hj => (hown.lt j hj).1)⟩
        case measure => have := HM.out; simp [intOf]; omega
    · obtain rfl : k = n := by omega
      have hz : zs.length = 4 * k := by have := HN.out; have := HCL.out; omega
      have hlen' : len = 4 * k := HN.out
      rw [List.take_of_length_le (by simp; omega)] at hown
      clear hz
      have g1 : ¬ (m : Int) < (len : Int) := by have := HM.out; omega
      clear hlen'
      go_wp2
      go_ret2
      exact ⟨_, rfl, hown, hbel⟩
end Go.Proofs.Ythlgokaehkifkaa.HueC

/-
  The iterator over the free runs.
-/
import Derived.Test.YtmhjhfjbfoklpaaExA
import Derived.Sort.BigQuietIn
import Derived.Lib.QuietBelowIn
namespace Go.Proofs.Ytmhjhfjbfoklpaa.ExB
open Go.RowKit Go.Shelf Rd Go.Proofs.Ytmhjhfjbfoklpaa.Row ExM ExA It
set_option linter.unusedVariables false
set_option linter.unusedSimpArgs false
set_option maxRecDepth 10000
attribute [local go_sem] Oper.semAt_some
theorem grown_of {X Y : World} (h : Below X.heap.size X Y) : X.grownBy Y none := ⟨h.os, h.tape, h.output, h.size, fun k hk _ => h.block k hk⟩
theorem own_step {β : Type} {B : Nat} {J : β → World → Prop} (h : OwnFrom B J) {s : β} {X Y : World} (hs : J s X) (hb : Below X.heap.size X Y) : J s Y := h s X Y none hs (grown_of hb) (fun r e => by cases e)
theorem enters_free : ∀ args w, (callFunc 30 args).run Try.prog w = .ok (.enter 30 args) w := enters_of Try.func30 (by kernel_rfl) rfl
theorem free_any (p : Option Addr) (w : World) :
    Calls Try.prog 22 #[.pointer p] w fun e w' => e = .returned (.func (.func 30) #[] #[.pointer (some ⟨w.heap.size, 0, none⟩)]) ∧ w' = w.alloc (.cells #[.pointer p] 24) := by
  have hmf : ∀ (fn : Fn) (first cap : Array Value) (w : World), (Instr.makeFunc fn first cap).run Try.prog w = .ok (.func fn first cap) w := fun _ _ _ _ => rfl
  go_enter Try.func22, Try.ntmps22
  go_wp2
  go_ret
  exact ⟨rfl, rfl⟩
def encP (p : Nat × Nat) : Array Value := #[.int .i64 (p.1 : Int), .int .i64 (p.2 : Int)]
def BoxP (bx : Nat) (p : Option Addr) (X : World) : Prop := blk X bx = some (.cells #[.pointer p] 24 (0, 0))
theorem BoxP.cell {bx : Nat} {p : Option Addr} {X : World} (h : BoxP bx p X) : X.cell? ⟨bx, 0, none⟩ = some (.pointer p) := by rw [blk_cell h]; rfl
theorem asked_wide (P : Program) (o : Oper) (a : Act) (C : World → Prop) : Oper.askedIn Fence.wide P o a C = True := eq_true fun _ _ _ _ => trivial
attribute [local go_sem ↓] asked_wide
theorem free_seq_nil (bx : Nat) :
    Seq Try.prog 30 #[.pointer (some ⟨bx, 0, none⟩)] encP [] (fun X => BoxP bx none X ∧ True) := by
  intro lo J Jx Own W hJ hJx hM hK hY h0
  have HY := Lib.hid hY
  have HJ := Lib.hid hJ
  clear hY hJ
  have k0 := hK [] W h0
  have cb := k0.1.cell
  have H0 := Lib.hid h0
  clear h0 k0 hK
  refine callsIn_wide.1 (callsIn_of_wp (F := Fence.wide) (n := 0) Try.func30 rfl trivial ?_ rfl)
  simp only [Try.ntmps30, List.size_toArray, List.length_cons, List.length_nil, Nat.reduceAdd, Nat.reduceSub, Array.replicate_succ, Array.replicate_zero, List.push_toArray, List.append_toArray, List.nil_append, List.cons_append]
  gi_wp2
  refine bodyPost_ret (results_none rfl _ _ _) rfl ?_
  exact ⟨⟨_, rfl⟩, .inl H0.out⟩
variable {b g cap : Nat} {bs : List Bool}
set_option maxHeartbeats 4000000 in
theorem free_seq (bx : Nat) (bs : List Bool) :
    Seq Try.prog 30 #[.pointer (some ⟨bx, 0, none⟩)] encP (runs bs) (fun X => BoxP bx (some ⟨b, 0, none⟩) X ∧ Mp X b g cap bs) := by
  intro lo J Jx Own W hJ hJx hM hK hY h0
  have HY := Lib.hid hY
  have HJ := Lib.hid hJ
  have HK := Lib.hid hK
  clear hY hJ
  have k0 := hK [] W h0
  have cb := k0.1.cell
  have hsm := k0.2.small
  obtain ⟨n, hn⟩ : ∃ n, bs.length = n := ⟨_, rfl⟩
  have HN := Lib.hid hn
  rw [hn] at hsm
  have hs2 := hsm.2.1
  have H0 := Lib.hid h0
  obtain ⟨R, hR⟩ : ∃ R, runs bs = R := ⟨_, rfl⟩
  have HR := Lib.hid hR
  rw [hR]
  rw [hR] at HY
  clear h0 k0 hK hn hR hsm
  refine callsIn_wide.1 (callsIn_of_wp (F := Fence.wide) (n := 0) Try.func30 rfl trivial ?_ rfl)
  simp only [Try.ntmps30, List.size_toArray, List.length_cons, List.length_nil, Nat.reduceAdd, Nat.reduceSub, Array.replicate_succ, Array.replicate_zero, List.push_toArray, List.append_toArray, List.nil_append, List.cons_append]
  gi_wp2_with fail
  clear cb
  gi_loopw [3] (fun i X => ∃ s k : Nat, s ≤ n ∧ i = .int .i64 s ∧ Hid (k ≤ R.length ∧ R.drop k = from_ bs s 0) ∧ Hid (J (R.take k) X) ∧ W.heap.size ≤ X.heap.size) (fun i _ => n - (intOf i).toNat)
  case atStart => exact ⟨0, 0, by omega, rfl, Lib.hid ⟨Nat.zero_le _, by rw [List.drop_zero, ← HR.out]; rfl⟩, H0, Nat.le_refl _⟩
  case round =>
    obtain ⟨s, k, hs, rfl, HD, HJk, hsz⟩ := hrel
    rename World => X
    clear H0
    have kx := HK.out _ _ HJk.out
    have cb := kx.1.cell
    have HM := Lib.hid kx.2
    have c0 := kx.2.c0
    rw [HN.out] at c0
    clear kx
    by_cases hlt : s < n
    · have hlt' : (s : Int) < n := by omega
      gi_wp2_with fail
      refine ⟨trivial, rfl, (callsIn_wide.2 (end_any s _ HM.out (by rw [HN.out]; exact hlt))).mono ?_⟩
      rintro e Z ⟨⟨en, rfl, hE⟩, hb⟩
      have HE := Lib.hid hE
      have HZ := Lib.hid (own_step HJ.out HJk.out hb)
      have hszz := Nat.le_trans hsz hb.size
      have hen1 := hE.lt
      have hen2 := hE.le
      rw [HN.out] at hen2
      clear hE hb cb c0 HM HJk
      have kz := HK.out _ _ HZ.out
      have cb := kz.1.cell
      have c0 := kz.2.c0
      have cs := kz.2.cB (i := s) (by rw [HN.out]; exact hlt)
      rw [HN.out] at c0
      clear kz
      obtain ⟨l, hl⟩ : ∃ l, en - s = l := ⟨_, rfl⟩
      have hl' : (en : Int) - s = (l : Int) := by omega
      cases hv : b_ bs s with
      | true =>
        rw [hv] at cs
        have HV := Lib.hid hv
        have HLL := Lib.hid hl
        clear hv hl
        gi_wp2
        refine ⟨(fun f h => by cases h), ?_⟩
        gi_wp2
        go_roundw
        case rel => exact ⟨en, k, hen2, rfl, Lib.hid ⟨HD.out.1, by rw [HD.out.2, end_true HE.out HV.out]⟩, HZ, hszz⟩
        case measure => simp [intOf]; omega
      | false =>
        rw [hv] at cs
        have HD2 : Hid (R.drop k = (s, l) :: from_ bs en 0) := Lib.hid (by rw [HD.out.2, end_false HE.out hv, hl])
        have hkl : k < R.length := by
          rcases Nat.lt_or_ge k R.length with h | h
          · exact h
          · have := HD2.out
            rw [List.drop_of_length_le h] at this
            cases this
        have hRk : R[k] = (s, l) ∧ R.drop (k + 1) = from_ bs en 0 := by
          have := HD2.out
          rw [List.drop_eq_getElem_cons hkl] at this
          injection this with h1 h2
          exact ⟨h1, h2⟩
        have HT : Hid (R.take (k + 1) = R.take k ++ [(s, l)]) := Lib.hid (by rw [← hRk.1, List.take_append_getElem hkl])
        have HP : Hid (R.take k ++ [(s, l)] <+: R) := Lib.hid (by rw [← HT.out]; exact List.take_prefix _ _)
        have HD3 := Lib.hid hRk.2
        have HLL := Lib.hid hl
        have HKL := Lib.hid hkl
        obtain ⟨fn, tmps, assign, body, hy, hRR⟩ := HY.out _ _ Z HZ.out HP.out hszz
        have hy' : (Instr.yield lo #[.int .i64 s, .int .i64 l]).run Try.prog Z = .ok (.round lo fn tmps assign body) Z := hy
        clear hy hv hl hRk hkl HD HD2
        gi_wp2_with fail
        refine ⟨rfl, hRR.mono ?_⟩
        rintro e Z2 ⟨hkf, (⟨rfl, hJ2, ho2⟩ | ⟨rfl, hJ2⟩)⟩
        · have H3 := Lib.hid hJ2
          have S3 : W.heap.size ≤ Z2.heap.size := Nat.le_trans hszz hkf.1
          clear hJ2 hkf ho2 hy' cb c0 cs
          rw [← HT.out] at H3
          gi_wp2
          go_roundw
          case rel => exact ⟨en, k + 1, hen2, rfl, Lib.hid ⟨by have := HKL.out; omega, HD3.out⟩, H3, S3⟩
          case measure => simp [intOf]; omega
        · have H3 := Lib.hid hJ2
          clear hJ2 hkf hy'
          gi_wp2
          refine bodyPost_ret (results_none rfl _ _ _) rfl ?_
          exact ⟨⟨_, rfl⟩, .inr ⟨_, HP.out, H3.out⟩⟩
    · obtain rfl : s = n := by omega
      have hk : R.take k = R := by
        have h1 := HD.out.2
        rw [from_end (by rw [HN.out]; exact Nat.le_refl _), if_pos rfl] at h1
        exact List.take_of_length_le (by have := List.drop_eq_nil_iff.1 h1; exact this)
      have HE : Hid (J R X) := Lib.hid (by have := HJk.out; rw [hk] at this; exact this)
      clear hk
      gi_wp2
      go_end0
      exact ⟨⟨_, rfl⟩, .inl HE.out⟩
end Go.Proofs.Ytmhjhfjbfoklpaa.ExB

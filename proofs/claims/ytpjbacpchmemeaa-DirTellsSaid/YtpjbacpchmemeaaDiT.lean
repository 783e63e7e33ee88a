/-
  A directory's bytes: the mathematics.
  octets.Put once more: of what lay ahead nothing but the row's own block turns.
  Bytes: what lies where while it goes over the entries.
-/
import Derived.Test.YtpjbacpchmemeaaDiN
import Derived.Maps.AppendAt
import Derived.LoopTactic
import Derived.Test.YtpjbacpchmemeaaDiP
namespace Go.Proofs.Ytpjbacpchmemeaa.DiQ
open Go.RowKit Rd Go.Proofs.Ytpjbacpchmemeaa.Row Mid PgM PgN DiM OctA OctB DiN
open Go.Proofs.Ytpjbacpchmemeaa.PgF (atV atB)
open Go.Proofs.Ytpjbacpchmemeaa.DiM (at_ at_get)
set_option linter.unusedVariables false
set_option linter.unusedSimpArgs false
theorem get2 {k : Int} (h : 0 ≤ k) (h2 : k < 65536) : ((getN (byts k 2) : Nat) : Int) = k := by
  simp only [byts, getN, List.foldl_cons, List.foldl_nil, byt, Nat.zero_mul, Nat.zero_add]
  simp
  omega
theorem get4 {k : Int} (h : 0 ≤ k) (h2 : k < 4294967296) : ((getN (byts k 4) : Nat) : Int) = k := by
  simp only [byts, getN, List.foldl_cons, List.foldl_nil, byt, Nat.zero_mul, Nat.zero_add]
  simp
  omega
/-- an entry's bytes -/
def entB (d : Int) (p : En) : List Int := byts (p.K d) 2 ++ byts p.S 2 ++ byts p.N 2 ++ byts p.M 4
theorem entB_len (d : Int) (p : En) : (entB d p).length = 10 := rfl
theorem entB_bd (d : Int) (p : En) : B8s (entB d p) := fun z hz => by
  unfold entB at hz
  simp only [List.mem_append] at hz
  rcases hz with ((h | h) | h) | h <;> exact byts_bd _ _ z h
theorem at_key {d L X Y : Int} (h : validB d L X Y = true) : atB d (keyV d L X Y) = true ∧ atV d (keyV d L X Y) = [L, X, Y] := by
  have hv := valid_yes h
  obtain ⟨n, rfl⟩ : ∃ n : Nat, d = n := ⟨d.toNat, by omega⟩
  obtain ⟨k, hk, hl⟩ := key_in (n := n) (by omega) h
  obtain ⟨x0, x1, x2, e1, e2⟩ := page_key (n := n) (by omega) hl
  have hin := key_inj (n := n) (by omega) h (key_valid e2) (hk.trans e2.symm)
  have hc : 0 ≤ keyV n L X Y ∧ keyV n L X Y < countV n := by
    have := all_len n
    omega
  refine ⟨decide_eq_true hc, ?_⟩
  unfold PgF.atV
  rw [if_pos hc, hk, Int.toNat_natCast, e1, ← hin.1, ← hin.2.1, ← hin.2.2]
theorem key_small {d : Int} {p : En} (h : mayP d p) : 0 ≤ p.K d ∧ p.K d < 65536 := by
  have hv := valid_yes h.1
  obtain ⟨n, rfl⟩ : ∃ n : Nat, d = n := ⟨d.toNat, by omega⟩
  obtain ⟨k, hk, hl⟩ := key_in (n := n) (by omega) h.1
  have := all_small n
  unfold En.K
  omega
/-- an entry's bytes are read as it -/
theorem ent_back {d : Int} {p : En} (h : mayP d p) (hB : p.B) : enB d (entB d p) = true ∧ enV d (entB d p) = p := by
  have hk := key_small h
  have e0 : ((nm (entB d p) 0 2 : Nat) : Int) = p.K d := get2 hk.1 hk.2
  have e2 : ((nm (entB d p) 2 2 : Nat) : Int) = p.S := get2 (by have := h.2.1; omega) (by have := h.2.1; omega)
  have e4 : ((nm (entB d p) 4 2 : Nat) : Int) = p.N := get2 (by have := h.2.2.1; omega) (by have := h.2.2.1; omega)
  have e6 : ((nm (entB d p) 6 4 : Nat) : Int) = p.M := get4 hB.1 (by have := hB.2; omega)
  have ha := at_key h.1
  have e0' : ((nm (entB d p) 0 2 : Nat) : Int) = keyV d p.L p.X p.Y := e0
  refine ⟨by unfold enB; rw [e0']; exact ha.1, ?_⟩
  have hp : enP d (entB d p) = [p.L, p.X, p.Y] := by unfold enP; rw [e0']; exact ha.2
  unfold enV
  rw [hp, e2, e4, e6]
  rfl
/-- a directory's bytes -/
def dirB (d : Int) (r : List En) : List Int := r.flatMap (entB d)
theorem dirB_app (d : Int) (a b : List En) : dirB d (a ++ b) = dirB d a ++ dirB d b := by simp [dirB]
theorem dirB_one (d : Int) (p : En) : dirB d [p] = entB d p := by simp [dirB]
theorem dirB_len (d : Int) : ∀ r, (dirB d r).length = 10 * r.length
  | [] => rfl
  | p :: r => by
    have : dirB d (p :: r) = entB d p ++ dirB d r := by simp [dirB]
    rw [this, List.length_append, entB_len, dirB_len d r, List.length_cons]
    omega
theorem dirB_bd (d : Int) (r : List En) : B8s (dirB d r) := fun z hz => by
  obtain ⟨p, _, h⟩ := List.mem_flatMap.1 hz
  exact entB_bd d p z h
theorem dirB_piece (d : Int) : ∀ (r : List En) {i : Nat}, i < r.length → ((dirB d r).drop (10 * i)).take 10 = entB d (at_ r i)
  | [], i, h => by simp at h
  | p :: r, 0, h => by
    have : dirB d (p :: r) = entB d p ++ dirB d r := by simp [dirB]
    rw [this, Nat.mul_zero, List.drop_zero, List.take_append_of_le_length (by rw [entB_len]; omega), List.take_of_length_le (by rw [entB_len]; omega)]
    rfl
  | p :: r, i + 1, h => by
    have : dirB d (p :: r) = entB d p ++ dirB d r := by simp [dirB]
    rw [this, show 10 * (i + 1) = (entB d p).length + 10 * i by rw [entB_len]; omega, List.drop_append, List.drop_of_length_le (by omega), List.nil_append, show (entB d p).length + 10 * i - (entB d p).length = 10 * i by omega, dirB_piece d r (by simpa using h)]
    rfl
/-- what one reads of bytes: all entries, or none -/
def pcs (zs : List Int) : Nat → List (List Int)
  | 0 => []
  | n + 1 => zs.take 10 :: pcs (zs.drop 10) n
def rdO (d : Int) (zs : List Int) : Option (List En) :=
  if (pcs zs (zs.length / 10)).all (enB d) = true then some ((pcs zs (zs.length / 10)).map (enV d)) else none
theorem pcs_dir (d : Int) : ∀ r, pcs (dirB d r) r.length = r.map (entB d)
  | [] => rfl
  | p :: r => by
    have : dirB d (p :: r) = entB d p ++ dirB d r := by simp [dirB]
    rw [List.length_cons, pcs, this, List.take_append_of_le_length (by rw [entB_len]; omega), List.take_of_length_le (by rw [entB_len]; omega), List.drop_append, List.drop_of_length_le (by rw [entB_len]; omega), List.nil_append, show 10 - (entB d p).length = 0 by rw [entB_len], List.drop_zero, pcs_dir d r, List.map_cons]
/-- a directory's bytes are read as its entries -/
theorem rd_back {d : Int} {r : List En} (hm : ∀ p ∈ r, mayP d p) (hB : RB r) : rdO d (dirB d r) = some r := by
  have hl : (dirB d r).length / 10 = r.length := by rw [dirB_len]; omega
  unfold rdO
  rw [hl, pcs_dir, if_pos, List.map_map]
  · congr 1
    refine (List.map_congr_left fun p hp => ?_).trans (List.map_id r)
    exact (ent_back (hm p hp) (hB p hp)).2
  · rw [List.all_map]
    exact List.all_eq_true.2 fun p hp => (ent_back (hm p hp) (hB p hp)).1
end Go.Proofs.Ytpjbacpchmemeaa.DiQ

namespace Go.Proofs.Ytpjbacpchmemeaa.DiR
open Go.RowKit Rd Go.Proofs.Ytpjbacpchmemeaa.Row OctA OctB
set_option linter.unusedVariables false
set_option linter.unusedSimpArgs false
set_option maxRecDepth 10000
/-- all that lay there, but the row's own block; where the row lies now -/
def Step (w : World) (v : Value) (w' : World) (v' : Value) : Prop := w.grownBy w' v.ownBlock ∧ (v'.ownBlock = v.ownBlock ∨ ∃ k, v'.ownBlock = some k ∧ w.heap.size ≤ k)
theorem Step.refl (w : World) (v : Value) : Step w v w v := ⟨⟨rfl, rfl, rfl, Nat.le_refl _, fun _ _ _ => rfl⟩, .inl rfl⟩
theorem Step.alloc {w X : World} {v v' : Value} (h : Step w v X v') (o : Obj) : Step w v (X.alloc o) v' :=
  ⟨⟨h.1.os, h.1.tape, h.1.output, by have := h.1.size; simp; omega, fun k hk hne => (blk_alloc_old X o k (Nat.lt_of_lt_of_le hk h.1.size)).trans (h.1.block k hk hne)⟩, h.2⟩
theorem Step.drewN {w X : World} {v v' : Value} (h : Step w v X v') (n : Nat) : Step w v (X.drewN n) v' := ⟨⟨h.1.os, h.1.tape, h.1.output, h.1.size, h.1.block⟩, h.2⟩
theorem Step.drew {w X : World} {v v' : Value} (h : Step w v X v') : Step w v X.drew v' := h.drewN 1
theorem Step.trans {a b c : World} {u v x : Value} (h : Step a u b v) (h2 : Step b v c x) : Step a u c x := by
  refine ⟨⟨h2.1.os.trans h.1.os, h2.1.tape.trans h.1.tape, h2.1.output.trans h.1.output, Nat.le_trans h.1.size h2.1.size, fun k hk hne => ?_⟩, ?_⟩
  · refine (h2.1.block k (Nat.lt_of_lt_of_le hk h.1.size) fun e => ?_).trans (h.1.block k hk hne)
    rcases h.2 with e2 | ⟨j, e2, hj⟩
    · exact hne (e.trans e2)
    · have := e.trans e2
      injection this with this
      omega
  · rcases h2.2 with e2 | ⟨j, e2, hj⟩
    · rcases h.2 with e3 | ⟨j, e3, hj⟩
      · exact .inl (e2.trans e3)
      · exact .inr ⟨j, e2.trans e3, hj⟩
    · exact .inr ⟨j, e2, Nat.le_trans h.1.size hj⟩
set_option maxHeartbeats 1000000 in
theorem put_own (base : Nat) (v : Value) (n : Nat) (zs : List Int) (k : Int) (s : Nat) (w : World) (hv : w.ownsRow base 5 1 v n (u8s zs)) (hs : s ≤ 100) (hn : n ≤ 1000000) (hk : -9223372036854775808 ≤ k ∧ k ≤ 9223372036854775807) (hbase : base ≤ w.heap.size) :
    Calls Try.prog 43 #[v, .int .i64 k, .int .i64 s] w fun e w' => ∃ v', e = .returned v' ∧ w'.ownsRow base 5 1 v' (n + s) (u8s (zs ++ byts k s)) ∧ Step w v w' v' := by
  obtain ⟨i0, hi, hz0, hz1, hz2⟩ := info_parts info_u8
  go_enter Try.func43, Try.ntmps43
  go_wp2_with fail
  go_loopw [0, 7] (fun x i wr => ∃ j r : Nat, j + r = s ∧ i = .int .i64 ((r : Int) - 1) ∧ wr.ownsRow base 5 1 x (n + j) (u8s (zs ++ bytf k s j)) ∧ Step w v wr x) (fun _ i _ => (1 + intOf i).toNat)
  case atStart => exact ⟨0, s, by omega, by rfl, by simpa [bytf] using hv, Step.refl _ _⟩
  case round =>
    obtain ⟨j, r, hj, hi7, hown, hst⟩ := hrel
    cases r with
    | succ i =>
      rw [show ((i + 1 : Nat) : Int) - 1 = (i : Int) by omega] at hi7
      subst hi7
      have hge : (0 : Int) ≤ (i : Int) := by omega
      have hsh := shr_bytes k i hk
      have sb := hst.1.size
      have hby := byt_bd k i
      have HN := Lib.hid (hown.alloc (.cells #[.int .u8 (byt k i)] 5))
      have HS := Lib.hid (hst.alloc (.cells #[.int .u8 (byt k i)] 5))
      clear hown hst
      go_wp2_with (at_builtin; refine wpList_append_own_at _ rfl (.tmp 14) (.tmp 20) 23 rfl base 5 i0 (.int .u8 0) 1 1 Try.underlying23 hi hz0 hz1 hz2 rfl (by decide) _ _ _ rfl HN.out ⟨wr.heap.size, 0, none⟩ 1 1 [.int .u8 (byt k i)] rfl rfl (news_of _ _ _) (by simp [Value.oneCell']) (by unfold maxLen; omega) (by omega) (by simp; omega) ?_; intro v3 w3 hown3 hg3 he3 hb3)
      go_roundw
      case rel => exact ⟨j + 1, i, by omega, by rfl, by rw [bytf_succ, show s - 1 - j = i by omega]; simpa [Nat.add_assoc] using hown3, HS.out.trans ⟨hg3, hb3.imp id fun e => ⟨_, e, Nat.le_refl _⟩⟩⟩
      case measure => simp [intOf]; omega
    | zero =>
      subst hi7
      obtain rfl : j = s := by omega
      have hge : ¬ (0 : Int) ≤ ((0 : Nat) : Int) - 1 := by omega
      go_wp2
      go_ret
      rw [bytf_all] at hown
      exact ⟨u0, rfl, by simpa using hown, hst⟩
end Go.Proofs.Ytpjbacpchmemeaa.DiR

namespace Go.Proofs.Ytpjbacpchmemeaa.DiT
open Go.RowKit Go.Shelf Rd Go.Proofs.Ytpjbacpchmemeaa.Row Mid PgM PgA DiM DiA DiC DiE DiF DiQ DiR OctA OctB It
open Go.Proofs.Ytpjbacpchmemeaa.DiI (below_grown blk_grown not_row own_lo own_hi)
open Go.Proofs.Ytpjbacpchmemeaa.DiO (boxed_eq)
set_option linter.unusedVariables false
set_option linter.unusedSimpArgs false
set_option maxRecDepth 10000
structure BR (t : Nat) (w : World) (d : Int) (pre : List En) (X : World) : Prop where
  below : Below w.heap.size w X
  pb : BoxD w.heap.size (some ⟨t, 0, none⟩) X
  bx : BoxD (w.heap.size + 2) (some ⟨t, 0, none⟩) X
  row : ∃ v, Boxed X (w.heap.size + 1) 23 v ∧ X.ownsRow (w.heap.size + 3) 5 1 v (10 * pre.length) (u8s (dirB d pre))
  size : w.heap.size + 3 ≤ X.heap.size
theorem BR.grown {t : Nat} {w : World} {d : Int} {pre : List En} {X Y : World} {row : Option Nat} (h : BR t w d pre X) (hg : X.grownBy Y row) (hr : ∀ r, row = some r → w.heap.size + 3 ≤ r ∧ ∃ o : Obj, X.heap[r]? = some o ∧ o.isCells = false) : BR t w d pre Y := by
  obtain ⟨v, hv, ho⟩ := h.row
  refine ⟨below_grown (B := 0) h.below hg (Nat.le_refl _) fun r e => by have := (hr r e).1; omega, blk_grown h.pb hg fun r e => by have := (hr r e).1; omega, blk_grown h.bx hg fun r e => by have := (hr r e).1; omega, ⟨v, hv.kept hg fun e => ?_, ho.kept hg ?hne⟩, Nat.le_trans h.size hg.size⟩
  · have := (hr _ e.symm).1
    omega
  case hne =>
    rcases not_row ho (fun r e => (hr r e).2) with e | e
    · subst e
      cases v.ownBlock with
      | none => exact .inl rfl
      | some _ => exact .inr (by simp)
    · exact .inr (Ne.symm e)
def BOwn (w : World) (X : World) (k : Nat) : Prop := ∃ v, Boxed X (w.heap.size + 1) 23 v ∧ v.ownBlock = some k
theorem br_mine (t : Nat) (w : World) (d : Int) (B : Nat) (hB : w.heap.size + 3 ≤ B) : Mine B (BR t w d) (fun _ X k => BOwn w X k) := by
  refine ⟨fun s X k h ho => ?_, fun s X Y row h hg hr k ho => ?_⟩
  · obtain ⟨v, hv, ow⟩ := h.row
    obtain ⟨v', hv', e⟩ := ho
    obtain rfl := boxed_eq hv hv'
    rcases ow.2 with ⟨rfl, _⟩ | ⟨g, cap, cur, rfl, _, hgb, _⟩
    · cases e
    · obtain rfl : g = k := by simpa [Value.ownBlock] using e
      exact ⟨_, _, _, hgb⟩
  · obtain ⟨v, hv, ow⟩ := h.row
    obtain ⟨v', hv', e⟩ := ho
    have hv2 : Boxed Y (w.heap.size + 1) 23 v := hv.kept hg fun e => by have := (hr _ e.symm).1; omega
    obtain rfl := boxed_eq hv2 hv'
    exact ⟨v, hv, e⟩
/-- in the midst of a round: behind X2, where the row was v0 -/
structure BM (w X2 : World) (v0 : Value) (n : Nat) (zs : List Int) (X : World) (v : Value) : Prop where
  box : Boxed X (w.heap.size + 1) 23 v
  row : X.ownsRow (w.heap.size + 3) 5 1 v n (u8s zs)
  os : X.os = X2.os
  tape : X.tape = X2.tape
  output : X.output = X2.output
  size : X2.heap.size ≤ X.heap.size
  keep : ∀ k, k < X2.heap.size → k ≠ w.heap.size + 1 → some k ≠ v0.ownBlock → X.heap[k]? = X2.heap[k]?
  own : v.ownBlock = v0.ownBlock ∨ ∃ k, v.ownBlock = some k ∧ X2.heap.size ≤ k
theorem BM.start {w X2 : World} {v0 : Value} {n : Nat} {zs : List Int} (hb : Boxed X2 (w.heap.size + 1) 23 v0) (hr : X2.ownsRow (w.heap.size + 3) 5 1 v0 n (u8s zs)) : BM w X2 v0 n zs X2 v0 :=
  ⟨hb, hr, rfl, rfl, rfl, Nat.le_refl _, fun _ _ _ _ => rfl, .inl rfl⟩
/-- calls that lay memory alone -/
theorem BM.below {w X2 X Y : World} {v0 v : Value} {n : Nat} {zs : List Int} (h : BM w X2 v0 n zs X v) (hb : Below X.heap.size X Y) : BM w X2 v0 n zs Y v := by
  have g : X.grownBy Y none := ⟨hb.os, hb.tape, hb.output, hb.size, fun k hk _ => hb.block k hk⟩
  exact ⟨h.box.kept g (by simp), h.row.kept g (by cases v.ownBlock with
    | none => exact .inl rfl
    | some _ => exact .inr (by simp)), hb.os.trans h.os, hb.tape.trans h.tape, hb.output.trans h.output, Nat.le_trans h.size hb.size, fun k hk h1 h2 => (hb.block k (Nat.lt_of_lt_of_le hk h.size)).trans (h.keep k hk h1 h2), h.own⟩
/-- Put, and the box is set -/
theorem BM.put {w X2 X Y : World} {v0 v v' : Value} {n n' : Nat} {zs zs' : List Int} (h : BM w X2 v0 n zs X v) (hs : Step X v Y v') (ho : Y.ownsRow (w.heap.size + 3) 5 1 v' n' (u8s zs')) (h2 : w.heap.size + 1 < X2.heap.size) :
    BM w X2 v0 n' zs' (Y.setCell ⟨w.heap.size + 1, 0, none⟩ v') v' ∧ Boxed Y (w.heap.size + 1) 23 v := by
  have hb : Boxed Y (w.heap.size + 1) 23 v := h.box.kept hs.1 (h.box.not_row (by decide) h.row)
  refine ⟨⟨hb.set v', ho.kept (grownBy_setCell' Y (w.heap.size + 1) v') (.inr (hb.not_row (by decide) ho).symm), hs.1.os.trans h.os, hs.1.tape.trans h.tape, hs.1.output.trans h.output, by have := hs.1.size; have := h.size; simp; omega, fun k hk h1 h3 => ?_, ?_⟩, hb⟩
  · refine (heap_setCell_other Y ⟨w.heap.size + 1, 0, none⟩ k v' (by first | exact h1 | exact fun e => h1 e.symm)).trans ((hs.1.block k (Nat.lt_of_lt_of_le hk h.size) fun e => ?_).trans (h.keep k hk h1 h3))
    rcases h.own with e2 | ⟨j, e2, hj⟩
    · exact h3 (e.trans e2)
    · have := e.trans e2
      injection this with this
      omega
  · rcases hs.2 with e2 | ⟨j, e2, hj⟩
    · rcases h.own with e3 | ⟨j, e3, hj⟩
      · exact .inl (e2.trans e3)
      · exact .inr ⟨j, e2.trans e3, hj⟩
    · exact .inr ⟨j, e2, Nat.le_trans h.size hj⟩
/-- the round is done -/
theorem BM.ends {t B : Nat} {w X2 X : World} {d : Int} {pre : List En} {x : En} {Ix : Code → List En → World → Prop} {v0 v : Value} (h2 : BR t w d pre X2) (hv : Boxed X2 (w.heap.size + 1) 23 v0) (ow : X2.ownsRow (w.heap.size + 3) 5 1 v0 (10 * pre.length) (u8s (dirB d pre)))
    (h : BM w X2 v0 (10 * pre.length + 10) (dirB d pre ++ entB d x) X v) (hB : w.heap.size + 3 ≤ B) (a : Act) :
    It.Ends B (fun pre Z => BR t w d pre Z) Ix (fun _ Z k => BOwn w Z k) pre x X2 .normal a X := by
  have hne : ∀ k, k < w.heap.size + 3 → some k ≠ v0.ownBlock := fun k hk e => by
    have := (ow.lt k e.symm).1
    omega
  have hs := h2.size
  have kk : ∀ k, k < w.heap.size + 3 → k ≠ w.heap.size + 1 → X.heap[k]? = X2.heap[k]? := fun k hk h1 => h.keep k (by omega) h1 (hne k hk)
  refine ⟨⟨h.size, fun k h1 h3 h4 => h.keep k h3 (by omega) fun e => h4 ⟨v0, hv, e.symm⟩⟩, ⟨⟨h.os.trans h2.below.os, h.tape.trans h2.below.tape, h.output.trans h2.below.output, Nat.le_trans h2.below.size h.size, fun k hk => (kk k (by omega) (by omega)).trans (h2.below.block k hk)⟩, (kk _ (by omega) (by omega)).trans h2.pb, (kk _ (by omega) (by omega)).trans h2.bx, ⟨v, h.box, ?_⟩, Nat.le_trans hs h.size⟩, fun k ⟨v', hv', e⟩ hk => ?_⟩
  · rw [dirB_app, dirB_one, List.length_append, List.length_singleton, Nat.mul_add]
    exact h.row
  · obtain rfl := boxed_eq h.box hv'
    rcases h.own with e2 | ⟨j, e2, hj⟩
    · exact .inl ⟨v0, hv, e2.symm.trans e⟩
    · refine .inr ?_
      have := e2.symm.trans e
      injection this with this
      omega
end Go.Proofs.Ytpjbacpchmemeaa.DiT

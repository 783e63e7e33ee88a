/-
  A pool: what the document fixes.
-/
import Derived.Test.YtkklppjimnkibaaPoK
import Derived.Test.YtkklppjimnkibaaRds
namespace Go.Proofs.Ytkklppjimnkibaa.PoL
open Go.RowKit Go.Shelf Rd Go.Proofs.Ytkklppjimnkibaa.Row Mid LrM LrA PgM PgA PgB PgC PgN PoM PoA PoB PoE PoH PoI PoJ PoK
open Go.Proofs.Ytkklppjimnkibaa.PoD (us us_len By dataL data_len data_B data_any)
open Go.Proofs.Ytkklppjimnkibaa.Num (ret_int ret_bool)
open Go.Proofs.Ytkklppjimnkibaa.MpE (owns_mono)
open It (get_lt)
open Go.Proofs.Ytkklppjimnkibaa.Rds (Rds rds_stab reads_ext cell_ext)
open Go.Proofs.Ytkklppjimnkibaa.Pred (Is is_stab)
set_option linter.unusedVariables false
set_option linter.unusedSimpArgs false
set_option maxRecDepth 10000
variable {lo : Lo} {pb gw n d : Nat} {Bb : Nat → Prop} {R : List Ent}
/-- rows of another pool lie where this one's calls turn nothing -/
theorem Pl.apart {X Y : World} {a qb gq n' d' : Nat} (h : Pl X ⟨a, 0, 0⟩ Bb qb gq n' d' R) (hB : ∀ k, Bb k → a ≤ k) (hs : X.heap.size ≤ Y.heap.size) (hk : ∀ k, a ≤ k → k < X.heap.size → Y.heap[k]? = X.heap[k]?) : Pl Y ⟨a, 0, 0⟩ Bb qb gq n' d' R := by
  obtain ⟨lb, lg, v, sl, o, wl, ⟨rs, hl, hp, hsl⟩, h2⟩ := h
  refine ⟨lb, lg, v, sl, o, wl, ⟨rs, hl, ⟨(hk qb hp.okk.1.1 (blk_lt hp.p)).trans hp.p, (hk gq hp.okk.2.1.1 (blk_lt hp.w)).trans hp.w, own_same hp.r fun k e => ?_, hp.rv, hp.r4, ?_, hp.okk, by have := hp.hi; omega⟩, hsl.kept fun k c hb hc => hk k (hB k hb) (get_lt hc)⟩, h2⟩
  · obtain ⟨c, hc, _⟩ := own_pos' hp.r e
    exact hk k (hp.rv k e).1 (get_lt hc)
  · exact hp.l.kept (hk lb hp.okk.2.2.1.1 hp.l.lt.1) (hk lg hp.okk.2.2.2.1 hp.l.lt.2)
/-- what was laid behind a pool is none of its own -/
theorem Pl.gap {X Y : World} {a : Nat} (h : Pl X ⟨a, 0, 0⟩ Bb pb gw n d R) (hb : Below X.heap.size X Y) : Pl Y ⟨a, X.heap.size, Y.heap.size⟩ Bb pb gw n d R := by
  have h' := h.bel hb
  obtain ⟨lb, lg, v, sl, o, wl, ⟨rs, hl, hp, hsl⟩, h2⟩ := h
  have hp' := hp.bel hb
  refine ⟨lb, lg, v, sl, o, wl, ⟨rs, hl, ⟨hp'.p, hp'.w, hp'.r, fun k e => ?_, hp'.r4, hp'.l, ⟨⟨hp.okk.1.1, .inl (blk_lt hp.p)⟩, ⟨hp.okk.2.1.1, .inl (blk_lt hp.w)⟩, ⟨hp.okk.2.2.1.1, .inl hp.l.lt.1⟩, ⟨hp.okk.2.2.2.1, .inl hp.l.lt.2⟩⟩, hp'.hi.1, Nat.le_refl _⟩, hsl.bel hb⟩, h2⟩
  obtain ⟨c, hc, _⟩ := own_pos' hp.r e
  exact ⟨(hp.rv k e).1, .inl (get_lt hc)⟩
/-- a pool that a call made itself -/
structure Aw (w X : World) (lo : Lo) (pb gw n d : Nat) (R : List Ent) : Prop where
  low : Below w.heap.size w X
  p : Pl X lo (fun a => w.heap.size ≤ a) pb gw n d R
  n : w.heap.size ≤ lo.n
theorem Aw.bel {w X Y : World} (h : Aw w X lo pb gw n d R) (hb : Below X.heap.size X Y) : Aw w Y lo pb gw n d R := ⟨Rd.below_step h.low hb, h.p.bel hb, h.n⟩
theorem Aw.pf {w X Y : World} {R' : List Ent} (h : Aw w X lo pb gw n d R) (hf : PF lo gw X Y) (hp : Pl Y lo (fun a => w.heap.size ≤ a ∨ X.heap.size ≤ a) pb gw n d R') : Aw w Y lo pb gw n d R' := by
  have hb := hf.below.mono h.n
  have := h.low.size
  exact ⟨h.low.trans hb, hp.mono fun k _ e => by omega, h.n⟩
theorem aw_put {w : World} (L X0 Y0 : Int) (ad : Addr) (c : Nat) (b : List Int) (X : World) (h : Aw w X lo pb gw n d R) (hv : validB d L X0 Y0 = true) (hb : BIn X ad b) :
    Calls Try.prog 12 #[.pointer (some ⟨pb, 0, none⟩), pg L X0 Y0, .slice (some ad) 144 c] X fun e X' => ∃ gv, e = .returned (.tuple #[gv, .int .i64 (codeR n R [L, X0, Y0])]) ∧ GoneAt X' gv (goneR n R [L, X0, Y0]) ∧ Aw w X' lo pb gw n d (putR n R [L, X0, Y0] b) ∧ PF lo gw X X' :=
  (put_any L X0 Y0 ad c b X h.p hv hb).mono fun e X' ⟨gv, h1, h2, h3, h4⟩ => ⟨gv, h1, h2, h.pf h4 h3, h4⟩
theorem aw_touch {w : World} (L X0 Y0 : Int) (X : World) (h : Aw w X lo pb gw n d R) :
    Calls Try.prog 15 #[.pointer (some ⟨pb, 0, none⟩), pg L X0 Y0] X fun e X' => e = .returned (.bool (hasR R [L, X0, Y0])) ∧ Aw w X' lo pb gw n d (touchR R [L, X0, Y0]) ∧ PF lo gw X X' :=
  (touch_any L X0 Y0 X h.p).mono fun e X' ⟨h1, h2, h3⟩ => ⟨h1, h.pf h3 (h2.mono fun k _ e => .inl e), h3⟩
theorem bin_own {X : World} {B : Nat} {v : Value} {b : List Int} (h : X.ownsRow B 5 1 v 144 (us b)) : ∃ a c, v = .slice (some ⟨a, 0, none⟩) 144 c ∧ BIn X ⟨a, 0, none⟩ b ∧ B ≤ a := by
  obtain ⟨a, c, rfl, hB, -⟩ := owns_pos h (by decide)
  obtain ⟨cur, hc, _⟩ := own_pos' h (k := a) rfl
  exact ⟨a, c, rfl, ⟨Reads.of_owns h, cur, _, hc⟩, hB⟩
theorem GoneAt.below {X Y : World} {gv : Value} {r : List (List Int)} (h : GoneAt X gv r) (hb : Below X.heap.size X Y) : GoneAt Y gv r :=
  h.imp id fun ⟨x, g9, h1, h2, h3, h4⟩ => ⟨x, g9, h1, h2, h3, (blk_below hb _ (blk_lt h4)).trans h4⟩
theorem GoneAt.pf {X Y : World} {gv : Value} {r : List (List Int)} (h : GoneAt X gv r) (hp : Pl X lo Bb pb gw n d R) (hf : PF lo gw X Y) : GoneAt Y gv r := by
  obtain ⟨lb, lg, v, sl, o, wl, ⟨rs, hl, hp, hsl⟩, h2⟩ := hp
  exact h.imp id fun ⟨x, g9, h1, h2, h3, h4⟩ => ⟨x, g9, h1, h2, h3, PF.page hf hp h4⟩
theorem GoneAt.at {X : World} {gv : Value} {r : List (List Int)} (h : GoneAt X gv r) : ∃ ad c, gv = .slice ad r.length c ∧ PgAt X ad r := by
  rcases h with ⟨rfl, rfl⟩ | ⟨x, g9, rfl, h2, rfl, h4⟩
  · exact ⟨none, 0, rfl, fun v hv => (by cases hv), .inl rfl⟩
  · obtain ⟨a, b, c, rfl⟩ := len3 h2
    refine ⟨_, 1, rfl, fun v hv => by rw [List.mem_singleton.1 hv]; rfl, .inr ⟨g9, 0, rfl, blk_lt h4, fun i hi j hj => ?_⟩⟩
    obtain rfl : i = 0 := by simpa using hi
    rw [blk_cell h4]
    match j, hj with
    | 0, _ => rfl
    | 1, _ => rfl
    | 2, _ => rfl
theorem lit_pg (X : World) (a b c : Int) : PgAt (X.alloc (.cells #[.int .i64 a, .int .i64 b, .int .i64 c] 35)) (some ⟨X.heap.size, 0, none⟩) [[a, b, c]] := by
  refine ⟨fun v hv => by rw [List.mem_singleton.1 hv]; rfl, .inr ⟨X.heap.size, 0, rfl, by simp, fun i hi j hj => ?_⟩⟩
  obtain rfl : i = 0 := by simpa using hi
  rw [blk_cell (blk_alloc_at _ _ _ rfl)]
  match j, hj with
  | 0, _ => rfl
  | 1, _ => rfl
  | 2, _ => rfl
theorem lit_pg2 (X : World) (a b c a' b' c' : Int) : PgAt (X.alloc (.cells #[.int .i64 a, .int .i64 b, .int .i64 c, .int .i64 a', .int .i64 b', .int .i64 c'] 35)) (some ⟨X.heap.size, 0, none⟩) [[a, b, c], [a', b', c']] := by
  refine ⟨fun v hv => ?_, .inr ⟨X.heap.size, 0, rfl, by simp, fun i hi j hj => ?_⟩⟩
  · rcases List.mem_cons.1 hv with rfl | hv
    · rfl
    · rw [List.mem_singleton.1 hv]; rfl
  · rw [blk_cell (blk_alloc_at _ _ _ rfl)]
    have : i = 0 ∨ i = 1 := by simp at hi; omega
    rcases this with rfl | rfl
    · match j, hj with
      | 0, _ => rfl
      | 1, _ => rfl
      | 2, _ => rfl
    · match j, hj with
      | 0, _ => rfl
      | 1, _ => rfl
      | 2, _ => rfl
theorem str_own {W : World} {B : Nat} {a : Option Addr} {c : Nat} {l : List Int} (h : W.ownsRow B 5 1 (.slice a 144 c) 144 (us l)) (hb : By l) : (convert 22 9 (.slice a 144 c)).run Try.prog W = .ok (.string (bytesOf l)) W := Rd.conv_reads Try.underlying22 Try.underlying5 Try.underlying9 (Reads.of_owns h) hb
theorem Pl.bb {X : World} {a : Nat} (h : Pl X ⟨a, 0, 0⟩ (fun k => a ≤ k) pb gw n d R) {l : Lo} (hg : Pl X l (fun k => a ≤ k) pb gw n d R) : Pl X l (fun k => a ≤ k) pb gw n d R := hg
attribute [local go_sem ↓] load_pg store_pg
attribute [local go_sem] one_int pc3 run_load_pg run_store_pg midLoad_eq rowLoad_eq rowStore_eq blk_alloc_at blk_alloc_old blk_drew blk_drewN blk_set_far blk_set_far' blk_grow setRow_alloc_at setRow_alloc_old setRow_drew setRow_drewN
theorem owns_same {W W2 : World} {base : Nat} {e : TypeId} {size : Nat} {v : Value} {n : Nat} {xs : List Value} (h : W.ownsRow base e size v n xs) (hb : Below W.heap.size W W2) : W2.ownsRow base e size v n xs := PoE.owns_below h hb
/-- a slice that leads to these pages -/
def PgS (r : PgM.Row) : Value → World → Prop := fun v X => ∃ ad c, v = .slice ad r.length c ∧ PgAt X ad r
theorem pgs_stab (r : PgM.Row) : Pred.Stab (PgS r) := fun v X Y B ⟨ad, c, h1, h2, h3⟩ hb => by
  refine ⟨ad, c, h1, h2, h3.imp id fun ⟨b, o, e, hl, hc⟩ => ⟨b, o, e, Nat.lt_of_lt_of_le hl hb.1.size, fun i hi j hj => (cell_ext hb (hc i hi j hj)).1⟩⟩
/-- one that is not there is not used -/
theorem touch_not (L X0 Y0 : Int) (w : World) (h : Pl w lo Bb pb gw n d R) (hx : ixR R [L, X0, Y0] = none) :
    Calls Try.prog 15 #[.pointer (some ⟨pb, 0, none⟩), pg L X0 Y0] w fun e w' => e = .returned (.bool false) ∧ Below w.heap.size w w' := by
  obtain ⟨lb, lg, v, sl, o, wl, ⟨rs, hl, hp, hs⟩, hr, rfl⟩ := h
  have HP := Lib.hid hp
  rcases slot_case hr L X0 Y0 with ⟨i, hi, e, C⟩ | ⟨e, C⟩
  · obtain ⟨k, hk⟩ := ix_some hr hi
    rw [e, hx] at hk
    cases hk
  · have CS := Lib.hid (C lo pb gw lb lg v rs o pin0)
    clear hp hs hr C e hx hl
    go_enter Try.func15, Try.ntmps15
    go_wp2_with fail
    refine (CS.out _ (HP.out.bel (by repeat' (first | (with_reducible exact Below.refl _ _) | (with_reducible refine Rd.below_step ?_ (by assumption)) | (with_reducible refine Rd.below_alloc ?_ _) | (with_reducible refine Rd.below_drewN ?_ _) | (with_reducible refine Below.drew ?_) | (with_reducible refine Below.setCell ?_ ?_ _) | (with_reducible refine Rd.below_setRow ?_ ?_ _) | go_size | (simp only [World.size_alloc]; omega) | omega)))).mono ?_
    rintro e w1 ⟨rfl, hb1⟩
    have L1 : Below w.heap.size w w1 := by repeat' (first | (with_reducible exact Below.refl _ _) | (with_reducible refine Rd.below_step ?_ (by assumption)) | (with_reducible refine Rd.below_alloc ?_ _) | (with_reducible refine Rd.below_drewN ?_ _) | (with_reducible refine Below.drew ?_) | (with_reducible refine Below.setCell ?_ ?_ _) | (with_reducible refine Rd.below_setRow ?_ ?_ _) | go_size | (simp only [World.size_alloc]; omega) | omega)
    clear hb1 CS
    go_wp2
    go_ret
    exact ⟨rfl, L1⟩
/-- where all that is there is pinned -/
theorem put_one (L X0 Y0 : Int) (a : Option Addr) (c : Nat) (w : World) (h : Pl w lo Bb pb gw 1 d R) (hv : validB d L X0 Y0 = true) (hx : ixR R [L, X0, Y0] = none) :
    Calls Try.prog 12 #[.pointer (some ⟨pb, 0, none⟩), pg L X0 Y0, .slice a 144 c] w fun e w' => e = .returned (.tuple #[.slice none 0 0, .int .i64 6]) ∧ Below w.heap.size w w' := by
  obtain ⟨lb, lg, v, sl, o, wl, ⟨rs, hl, hp, hs⟩, hr, rfl⟩ := h
  have hpg : Pg d [L, X0, Y0] := pg_iff.2 hv
  obtain ⟨k1, k2⟩ := key_int hr.d3 hpg
  rw [← hr.wlen] at k2
  have hsl : sl.length = 1 := by have := hr.k1; have := hr.kn; omega
  have ho : o.filter (fun x => decide (x ≠ 0)) = [] := by
    rw [List.filter_eq_nil_iff]
    intro x hx h
    have := hr.perm.lt x hx
    have := of_decide_eq_true h
    omega
  have hol := old_pin0 o
  rw [ho] at hol
  rcases hr.hit hpg with ⟨i, hi, e, hz⟩ | ⟨hno, hz, hx'⟩
  · obtain ⟨k, hk⟩ := ix_some hr hi
    rw [e, hx] at hk
    cases hk
  · exact PoG.put_full L X0 Y0 (keyN d [L, X0, Y0]) w a c hp hv k1 k2 (wl_small hr) hz (by omega) hol
def rA (D1 : List Int) : List Ent := [([1, 0, 0], D1)]
def rB (D1 D2 : List Int) : List Ent := [([1, 0, 0], D1), ([0, 0, 0], D2)]
def rC (D1 D3 : List Int) : List Ent := [([1, 0, 0], D1), ([0, 1, 0], D3)]
theorem rA_put (D1 D2 : List Int) : putR 2 (rA D1) [0, 0, 0] D2 = rB D1 D2 ∧ goneR 2 (rA D1) [0, 0, 0] = [] ∧ codeR 2 (rA D1) [0, 0, 0] = 0 := ⟨rfl, rfl, rfl⟩
theorem rB_put (D1 D2 D3 : List Int) : putR 2 (rB D1 D2) [0, 1, 0] D3 = rC D1 D3 ∧ goneR 2 (rB D1 D2) [0, 1, 0] = [[0, 0, 0]] ∧ codeR 2 (rB D1 D2) [0, 1, 0] = 0 := ⟨rfl, rfl, rfl⟩
theorem rA_put1 (D1 D2 : List Int) : codeR 1 (rA D1) [0, 0, 0] = 6 := rfl
theorem rC_all (D1 D3 : List Int) : cutV (allR 1 (rC D1 D3)) (-1) = [[1, 0, 0], [0, 1, 0]] := by
  have h1 : allR 1 (rC D1 D3) = [[1, 0, 0], [0, 1, 0]] := by
    have : ∀ v : List Int, hasR (rC D1 D3) v = hasR (rC [] []) v := fun v => by
      simp [hasR, ixR, rC, List.findIdx?_cons]
    unfold allR
    rw [show hasR (rC D1 D3) = hasR (rC [] []) from funext this]
    decide +kernel
  rw [h1]
  unfold cutV
  rw [if_neg]
  decide
set_option maxHeartbeats 4000000 in
theorem awake_any (w : World) : Calls Try.prog 6 #[] w fun e w' => e = .returned (.bool true) ∧ Below w.heap.size w w' := by
  have HW := Lib.hid (Below.refl w.heap.size w)
  obtain ⟨D1, e1⟩ : ∃ D, dataL 1 = D := ⟨_, rfl⟩
  obtain ⟨D2, e2⟩ : ∃ D, dataL 2 = D := ⟨_, rfl⟩
  obtain ⟨D3, e3⟩ : ∃ D, dataL 3 = D := ⟨_, rfl⟩
  have l1 : D1.length = 144 := e1 ▸ data_len 1
  have CD1 := Lib.hid (fun X => data_any 1 (by decide) X)
  have CD2 := Lib.hid (fun X => data_any 2 (by decide) X)
  have CD3 := Lib.hid (fun X => data_any 3 (by decide) X)
  have B3 := Lib.hid (data_B 3)
  rw [e1] at CD1
  rw [e2] at CD2
  rw [e3] at CD3 B3
  clear e1 e2 e3
  go_enter Try.func6, Try.ntmps6
  go_wp2_with fail
  refine (CD1.out _).mono ?_
  rintro e X0 ⟨⟨v, rfl, hv⟩, hb⟩
  obtain ⟨a0, c0, rfl, hB, -⟩ := bin_own hv
  have L0 := hb
  have HB := Lib.hid hB
  clear hb hv hB
  go_wp2_with fail
  refine (new_ok 2 1 ⟨a0, 0, none⟩ c0 D1 X0 (by omega) (by omega) HB.out).mono ?_
  rintro e X1 ⟨⟨pb, gw, rfl, hP⟩, hb⟩
  have L1 := L0.trans (hb.mono L0.size)
  have HP := Lib.hid hP
  have sx0 := L0.size
  clear hb hP HB L0
  go_wp2_with fail
  refine (CD1.out _).mono ?_
  rintro e X2 ⟨⟨v, rfl, hv⟩, hb⟩
  obtain ⟨a1, c1, rfl, hB, -⟩ := bin_own hv
  have L2 := Rd.below_step L1 hb
  have HP2 := Lib.hid (HP.out.bel hb)
  clear hb hv hB HP L1
  go_wp2_with fail
  refine (new_bad 0 1 _ 144 _ _ (by decide) (.inl (by omega))).mono ?_
  rintro e X3 ⟨rfl, hb⟩
  have L3 := Rd.below_step L2 hb
  have HP3 := Lib.hid (HP2.out.bel hb)
  clear hb HP2 L2
  go_wp2_with fail
  refine (CD1.out _).mono ?_
  rintro e X4 ⟨⟨v, rfl, hv⟩, hb⟩
  obtain ⟨a4, c4, rfl, hB, -⟩ := bin_own hv
  have L4 := Rd.below_step L3 hb
  have HP4 := Lib.hid (HP3.out.bel hb)
  have HB := Lib.hid hB
  clear hb hv hB HP3 L3
  go_wp2_with fail
  refine (new_ok 1 1 ⟨a4, 0, none⟩ c4 D1 X4 (by omega) (by omega) HB.out).mono ?_
  rintro e X5 ⟨⟨qb, gq, rfl, hQ⟩, hb⟩
  have HA5 : Hid (Aw w X5 ⟨X0.heap.size, X4.heap.size, X5.heap.size⟩ pb gw 2 1 (rA D1)) := Lib.hid ⟨Rd.below_step L4 hb, (Pl.gap HP4.out hb).mono (fun k _ e => by omega), sx0⟩
  have HQ := Lib.hid hQ
  have s45 := hb.size
  clear hb hQ HB HP4 L4
  go_wp2_with fail
  refine (CD2.out _).mono ?_
  rintro e X6 ⟨⟨v, rfl, hv⟩, hb⟩
  obtain ⟨a6, c6, rfl, hB, -⟩ := bin_own hv
  have HA6 := Lib.hid (HA5.out.bel hb)
  have F6 := PF.of_below (lo := ⟨X0.heap.size, X4.heap.size, X5.heap.size⟩) (gw := gw) hb (Pl.low HA5.out.p)
  have HB := Lib.hid hB
  clear hb hv hB HA5
  go_wp2_with fail
  refine (aw_put 0 0 0 ⟨a6, 0, none⟩ c6 D2 X6 HA6.out (by decide) HB.out).mono ?_
  rw [(rA_put D1 D2).1, (rA_put D1 D2).2.1, (rA_put D1 D2).2.2]
  rintro e X7 ⟨gv7, rfl, -, hA, hf⟩
  have HA7 := Lib.hid hA
  have F7 := F6.trans hf
  clear hA hf HA6 F6 HB
  go_wp2_with fail
  refine (CD3.out _).mono ?_
  rintro e X8 ⟨⟨v, rfl, hv⟩, hb⟩
  obtain ⟨a8, c8, rfl, hB, -⟩ := bin_own hv
  have HA8 := Lib.hid (HA7.out.bel hb)
  have F8 := F7.trans (PF.of_below hb (Pl.low HA7.out.p))
  have HB := Lib.hid hB
  clear hb hv hB HA7 F7
  go_wp2_with fail
  refine (aw_put 0 1 0 ⟨a8, 0, none⟩ c8 D3 X8 HA8.out (by decide) HB.out).mono ?_
  rw [(rB_put D1 D2 D3).1, (rB_put D1 D2 D3).2.1, (rB_put D1 D2 D3).2.2]
  rintro e X9 ⟨gv9, rfl, hg, hA, hf⟩
  have HA9 := Lib.hid hA
  have HG9 := Lib.hid hg
  have F9 := F8.trans hf
  clear hA hf HA8 F8 HB hg
  go_wp2_with fail
  refine (CD2.out _).mono ?_
  rintro e X10 ⟨⟨v, rfl, hv⟩, hb⟩
  obtain ⟨a10, c10, rfl, hB, -⟩ := bin_own hv
  have HA10 := Lib.hid (HA9.out.bel hb)
  have HG10 := Lib.hid (GoneAt.below HG9.out hb)
  have F10 := F9.trans (PF.of_below hb (Pl.low HA9.out.p))
  have HQ10 := Lib.hid (Pl.apart HQ.out (fun k h => h) F10.size (fun k h1 h2 => F10.low k (.inr ⟨h1, h2⟩)))
  have HB := Lib.hid hB
  clear hb hv hB HA9 F9 HG9 HQ F10
  go_wp2_with fail
  refine (put_one 0 0 0 _ c10 X10 HQ10.out (by decide) rfl).mono ?_
  rintro e X11 ⟨rfl, hb⟩
  have HA11 := Lib.hid (HA10.out.bel hb)
  have HG11 := Lib.hid (GoneAt.below HG10.out hb)
  clear hb HB HA10 HG10 HQ10
  go_wp2_with fail
  refine (get_any 0 1 0 X11 HA11.out.p).mono ?_
  rw [show hasR (rC D1 D3) [0, 1, 0] = true from rfl, show bytesR (rC D1 D3) [0, 1, 0] = D3 from rfl]
  rintro e X12 ⟨⟨u, rfl, hu, -⟩, hb⟩
  obtain ⟨a12, c12, rfl, -, -⟩ := bin_own (hu rfl)
  have HU12 := Lib.hid (hu rfl)
  have HA12 := Lib.hid (HA11.out.bel hb)
  have HG12 := Lib.hid (GoneAt.below HG11.out hb)
  clear hb hu HA11 HG11
  go_wp2_with fail
  refine (PoG.put_nil 0 0 0 _ _ _ _).mono ?_
  rintro e X13 ⟨rfl, hb⟩
  have HA13 := Lib.hid (HA12.out.bel hb)
  have HG13 := Lib.hid (GoneAt.below HG12.out hb)
  have HU13 := Lib.hid (owns_same HU12.out hb)
  clear hb HA12 HG12 HU12
  obtain ⟨adg, cg, rfl, hpg⟩ := GoneAt.at HG13.out
  have HPG := Lib.hid hpg
  clear hpg HG13
  go_upto_region 12 with (fail)
  simp only [List.append_eq, List.cons_append, List.nil_append]
  refine Pred.region_vals (Pred.Of [
      Is (.int .i64 1),
      Is (.bool true),
      Is (.bool true),
      Is (.int .i64 0),
      Is (.bool true),
      Is (.bool true),
      Is (.bool true),
      Is (.int .i64 0),
      Is (.bool true),
      Is (.bool true),
      Is (.bool true),
      Is (.slice adg 1 cg),
      Is (.agg #[.int .i64 0, .int .i64 0, .int .i64 0]),
      PgS ([[0, 0, 0]]),
      Is (.bool true),
      Is (.bool true),
      Is (.bool true),
      Is (.int .i64 6),
      Is (.bool true),
      Is (.bool true),
      Is (.bool true),
      Is (.bool true),
      Is (.bool true),
      Is (.bool true),
      Is (.slice (some ⟨a12, 0, none⟩) 144 c12),
      Is (.string (bytesOf D3)),
      Rds (D3),
      Is (.string (bytesOf D3)),
      Is (.bool true),
      Is (.bool true),
      Is (.bool true),
      Is (.pointer (some ⟨pb, 0, none⟩)),
      Is (.agg #[.int .i64 1, .int .i64 0, .int .i64 0]),
      Is (.bool true),
      Is (.bool true),
      Is (.bool true),
      Is (.pointer (some ⟨pb, 0, none⟩)),
      Is (.agg #[.int .i64 0, .int .i64 0, .int .i64 0]),
      Is (.bool false),
      Is (.bool true),
      Is (.bool true),
      Is (.bool true),
      Is (.pointer (some ⟨pb, 0, none⟩)),
      Is (.int .i64 2),
      Is (.bool true),
      Is (.bool true),
      Is (.bool true),
      Is (.pointer (some ⟨pb, 0, none⟩)),
      PgS ([[1, 0, 0], [0, 1, 0]]),
      Is (.agg #[.int .i64 1, .int .i64 0, .int .i64 0]),
      Is (.agg #[.int .i64 0, .int .i64 1, .int .i64 0]),
      PgS ([[1, 0, 0], [0, 1, 0]]),
      Is (.bool true),
      Is (.bool true),
      Is (.bool true),
      Is (.pointer (some ⟨pb, 0, none⟩)),
      Is (.agg #[.int .i64 0, .int .i64 0, .int .i64 0]),
      Is (.bool false),
      Is (.bool true),
      Is (.bool true),
      Is (.bool true),
      Is (.pointer none),
      Is (.int .i64 0),
      Is (.bool true),
      Is (.bool true),
      Is (.bool true),
      Is (.int .i64 1),
      Is (.bool true),
      Is (.bool true),
      Is (.bool true)]) (by kernel_rfl) (by kernel_rfl) (by kernel_rfl) (Pred.of_stab ?_) ?_ ?_
  · exact ⟨is_stab _, is_stab _, is_stab _, is_stab _, is_stab _, is_stab _, is_stab _, is_stab _, is_stab _, is_stab _, is_stab _, is_stab _, is_stab _, pgs_stab _, is_stab _, is_stab _, is_stab _, is_stab _, is_stab _, is_stab _, is_stab _, is_stab _, is_stab _, is_stab _, is_stab _, is_stab _, rds_stab _, is_stab _, is_stab _, is_stab _, is_stab _, is_stab _, is_stab _, is_stab _, is_stab _, is_stab _, is_stab _, is_stab _, is_stab _, is_stab _, is_stab _, is_stab _, is_stab _, is_stab _, is_stab _, is_stab _, is_stab _, is_stab _, pgs_stab _, is_stab _, is_stab _, pgs_stab _, is_stab _, is_stab _, is_stab _, is_stab _, is_stab _, is_stab _, is_stab _, is_stab _, is_stab _, is_stab _, is_stab _, is_stab _, is_stab _, is_stab _, is_stab _, is_stab _, is_stab _, is_stab _, trivial⟩
  · refine ⟨?_, ?_, ?_, ?_, ?_, ?_, ?_, ?_, ?_, ?_, ?_, ?_, ?_, ?_, ?_, ?_, ?_, ?_, ?_, ?_, ?_, ?_, ?_, ?_, ?_, ?_, ?_, ?_, ?_, ?_, ?_, ?_, ?_, ?_, ?_, ?_, ?_, ?_, ?_, ?_, ?_, ?_, ?_, ?_, ?_, ?_, ?_, ?_, ?_, ?_, ?_, ?_, ?_, ?_, ?_, ?_, ?_, ?_, ?_, ?_, ?_, ?_, ?_, ?_, ?_, ?_, ?_, ?_, ?_, ?_, trivial⟩
    · intro b X hE hd hn hV
      have r4 : b.tmps[4]?.getD undef = .int .i64 1 := (hn 4 (by kernel_rfl)).trans rfl
      exact Pred.yields_run (v := .int .i64 1) (Pred.wanted_none rfl) (by go_simp) ⟨Pred.ext_refl _ _, rfl⟩
    · intro b X hE hd hn hV
      have r80 : b.tmps[80]?.getD undef = .int .i64 1 := hV 0 _ 80 rfl rfl (Pred.waits_near (by kernel_rfl) (by kernel_rfl))
      exact Pred.yields_run (v := .bool true) (Pred.wanted_none rfl) (by go_simp) ⟨Pred.ext_refl _ _, rfl⟩
    · intro b X hE hd hn hV
      have r81 : b.tmps[81]?.getD undef = .bool true := hV 1 _ 81 rfl rfl (Pred.waits_near (by kernel_rfl) (by kernel_rfl))
      exact Pred.yields_run (v := .bool true) (Pred.wanted_none rfl) (by go_simp) ⟨Pred.ext_refl _ _, rfl⟩
    · intro b X hE hd hn hV
      have r8 : b.tmps[8]?.getD undef = .int .i64 0 := (hn 8 (by kernel_rfl)).trans rfl
      have r82 : b.tmps[82]?.getD undef = .bool true := hV 2 _ 82 rfl rfl (Pred.waits_near (by kernel_rfl) (by kernel_rfl))
      exact Pred.yields_run (v := .int .i64 0) ((Pred.wanted_at (g := 2) (d := 82) (f := true) rfl rfl r82).trans rfl) (by go_simp) ⟨Pred.ext_refl _ _, rfl⟩
    · intro b X hE hd hn hV
      have r83 : b.tmps[83]?.getD undef = .int .i64 0 := hV 3 _ 83 rfl rfl (Pred.waits_near (by kernel_rfl) (by kernel_rfl))
      have r82 : b.tmps[82]?.getD undef = .bool true := hV 2 _ 82 rfl rfl (Pred.waits_near (by kernel_rfl) (by kernel_rfl))
      exact Pred.yields_run (v := .bool true) ((Pred.wanted_at (g := 2) (d := 82) (f := true) rfl rfl r82).trans rfl) (by go_simp) ⟨Pred.ext_refl _ _, rfl⟩
    · intro b X hE hd hn hV
      have r82 : b.tmps[82]?.getD undef = .bool true := hV 2 _ 82 rfl rfl (Pred.waits_near (by kernel_rfl) (by kernel_rfl))
      have r84 : b.tmps[84]?.getD undef = .bool true := hV 4 _ 84 rfl rfl (Pred.waits_near (by kernel_rfl) (by kernel_rfl))
      exact Pred.yields_run (v := .bool true) (Pred.wanted_none rfl) (by go_simp) ⟨Pred.ext_refl _ _, rfl⟩
    · intro b X hE hd hn hV
      have r85 : b.tmps[85]?.getD undef = .bool true := hV 5 _ 85 rfl rfl (Pred.waits_near (by kernel_rfl) (by kernel_rfl))
      exact Pred.yields_run (v := .bool true) (Pred.wanted_none rfl) (by go_simp) ⟨Pred.ext_refl _ _, rfl⟩
    · intro b X hE hd hn hV
      have r10 : b.tmps[10]?.getD undef = .int .i64 0 := (hn 10 (by kernel_rfl)).trans rfl
      have r86 : b.tmps[86]?.getD undef = .bool true := hV 6 _ 86 rfl rfl (Pred.waits_near (by kernel_rfl) (by kernel_rfl))
      exact Pred.yields_run (v := .int .i64 0) ((Pred.wanted_at (g := 6) (d := 86) (f := true) rfl rfl r86).trans rfl) (by go_simp) ⟨Pred.ext_refl _ _, rfl⟩
    · intro b X hE hd hn hV
      have r87 : b.tmps[87]?.getD undef = .int .i64 0 := hV 7 _ 87 rfl rfl (Pred.waits_near (by kernel_rfl) (by kernel_rfl))
      have r86 : b.tmps[86]?.getD undef = .bool true := hV 6 _ 86 rfl rfl (Pred.waits_near (by kernel_rfl) (by kernel_rfl))
      exact Pred.yields_run (v := .bool true) ((Pred.wanted_at (g := 6) (d := 86) (f := true) rfl rfl r86).trans rfl) (by go_simp) ⟨Pred.ext_refl _ _, rfl⟩
    · intro b X hE hd hn hV
      have r86 : b.tmps[86]?.getD undef = .bool true := hV 6 _ 86 rfl rfl (Pred.waits_near (by kernel_rfl) (by kernel_rfl))
      have r88 : b.tmps[88]?.getD undef = .bool true := hV 8 _ 88 rfl rfl (Pred.waits_near (by kernel_rfl) (by kernel_rfl))
      exact Pred.yields_run (v := .bool true) (Pred.wanted_none rfl) (by go_simp) ⟨Pred.ext_refl _ _, rfl⟩
    · intro b X hE hd hn hV
      have r89 : b.tmps[89]?.getD undef = .bool true := hV 9 _ 89 rfl rfl (Pred.waits_near (by kernel_rfl) (by kernel_rfl))
      exact Pred.yields_run (v := .bool true) (Pred.wanted_none rfl) (by go_simp) ⟨Pred.ext_refl _ _, rfl⟩
    · intro b X hE hd hn hV
      have r9 : b.tmps[9]?.getD undef = .slice adg 1 cg := (hn 9 (by kernel_rfl)).trans rfl
      have r90 : b.tmps[90]?.getD undef = .bool true := hV 10 _ 90 rfl rfl (Pred.waits_near (by kernel_rfl) (by kernel_rfl))
      exact Pred.yields_run (v := .slice adg 1 cg) ((Pred.wanted_at (g := 10) (d := 90) (f := true) rfl rfl r90).trans rfl) (by go_simp) ⟨Pred.ext_refl _ _, rfl⟩
    · intro b X hE hd hn hV
      have r90 : b.tmps[90]?.getD undef = .bool true := hV 10 _ 90 rfl rfl (Pred.waits_near (by kernel_rfl) (by kernel_rfl))
      exact Pred.yields_run (v := .agg #[.int .i64 0, .int .i64 0, .int .i64 0]) ((Pred.wanted_at (g := 10) (d := 90) (f := true) rfl rfl r90).trans rfl) (by go_simp) ⟨Pred.ext_refl _ _, rfl⟩
    · intro b X hE hd hn hV
      have r92 : b.tmps[92]?.getD undef = .agg #[.int .i64 0, .int .i64 0, .int .i64 0] := hV 12 _ 92 rfl rfl (Pred.waits_near (by kernel_rfl) (by kernel_rfl))
      have r90 : b.tmps[90]?.getD undef = .bool true := hV 10 _ 90 rfl rfl (Pred.waits_near (by kernel_rfl) (by kernel_rfl))
      exact Pred.yields_run (v := .slice (some ⟨X.heap.size, 0, none⟩) 1 1) (w' := X.alloc (.cells #[.int .i64 0, .int .i64 0, .int .i64 0] 35)) ((Pred.wanted_at (g := 10) (d := 90) (f := true) rfl rfl r90).trans rfl) (by go_simp) ⟨Pred.ext_below ((Below.refl _ _).alloc (Nat.le_refl _) _) hE.size, _, 1, rfl, lit_pg X 0 0 0⟩
    · intro b X hE hd hn hV
      have r91 : b.tmps[91]?.getD undef = .slice adg 1 cg := hV 11 _ 91 rfl rfl (Pred.waits_near (by kernel_rfl) (by kernel_rfl))
      obtain ⟨ga93, ca93, r93, hr93⟩ : PgS ([[0, 0, 0]]) (b.tmps[93]?.getD undef) X := hV 13 _ 93 rfl rfl (Pred.waits_near (by kernel_rfl) (by kernel_rfl))
      have r90 : b.tmps[90]?.getD undef = .bool true := hV 10 _ 90 rfl rfl (Pred.waits_near (by kernel_rfl) (by kernel_rfl))
      refine Pred.yields_call (f := 14) (args := #[.slice adg 1 cg, .slice ga93 1 ca93]) ((Pred.wanted_at (g := 10) (d := 90) (f := true) rfl rfl r90).trans rfl) (by go_simp) ?_
      refine (pages_any [[0, 0, 0]] [[0, 0, 0]] adg ga93 cg ca93 X (PgAt.below (B := 0) HPG.out hE) hr93 (by decide) (by decide)).mono ?_
      rintro e w9 ⟨rfl, hb⟩
      exact ⟨_, rfl, Pred.ext_below hb hE.size, rfl⟩
    · intro b X hE hd hn hV
      have r90 : b.tmps[90]?.getD undef = .bool true := hV 10 _ 90 rfl rfl (Pred.waits_near (by kernel_rfl) (by kernel_rfl))
      have r94 : b.tmps[94]?.getD undef = .bool true := hV 14 _ 94 rfl rfl (Pred.waits_near (by kernel_rfl) (by kernel_rfl))
      exact Pred.yields_run (v := .bool true) (Pred.wanted_none rfl) (by go_simp) ⟨Pred.ext_refl _ _, rfl⟩
    · intro b X hE hd hn hV
      have r95 : b.tmps[95]?.getD undef = .bool true := hV 15 _ 95 rfl rfl (Pred.waits_near (by kernel_rfl) (by kernel_rfl))
      exact Pred.yields_run (v := .bool true) (Pred.wanted_none rfl) (by go_simp) ⟨Pred.ext_refl _ _, rfl⟩
    · intro b X hE hd hn hV
      have r12 : b.tmps[12]?.getD undef = .int .i64 6 := (hn 12 (by kernel_rfl)).trans rfl
      have r96 : b.tmps[96]?.getD undef = .bool true := hV 16 _ 96 rfl rfl (Pred.waits_near (by kernel_rfl) (by kernel_rfl))
      exact Pred.yields_run (v := .int .i64 6) ((Pred.wanted_at (g := 16) (d := 96) (f := true) rfl rfl r96).trans rfl) (by go_simp) ⟨Pred.ext_refl _ _, rfl⟩
    · intro b X hE hd hn hV
      have r97 : b.tmps[97]?.getD undef = .int .i64 6 := hV 17 _ 97 rfl rfl (Pred.waits_near (by kernel_rfl) (by kernel_rfl))
      have r96 : b.tmps[96]?.getD undef = .bool true := hV 16 _ 96 rfl rfl (Pred.waits_near (by kernel_rfl) (by kernel_rfl))
      exact Pred.yields_run (v := .bool true) ((Pred.wanted_at (g := 16) (d := 96) (f := true) rfl rfl r96).trans rfl) (by go_simp) ⟨Pred.ext_refl _ _, rfl⟩
    · intro b X hE hd hn hV
      have r96 : b.tmps[96]?.getD undef = .bool true := hV 16 _ 96 rfl rfl (Pred.waits_near (by kernel_rfl) (by kernel_rfl))
      have r98 : b.tmps[98]?.getD undef = .bool true := hV 18 _ 98 rfl rfl (Pred.waits_near (by kernel_rfl) (by kernel_rfl))
      exact Pred.yields_run (v := .bool true) (Pred.wanted_none rfl) (by go_simp) ⟨Pred.ext_refl _ _, rfl⟩
    · intro b X hE hd hn hV
      have r99 : b.tmps[99]?.getD undef = .bool true := hV 19 _ 99 rfl rfl (Pred.waits_near (by kernel_rfl) (by kernel_rfl))
      exact Pred.yields_run (v := .bool true) (Pred.wanted_none rfl) (by go_simp) ⟨Pred.ext_refl _ _, rfl⟩
    · intro b X hE hd hn hV
      have r14 : b.tmps[14]?.getD undef = .bool true := (hn 14 (by kernel_rfl)).trans rfl
      have r100 : b.tmps[100]?.getD undef = .bool true := hV 20 _ 100 rfl rfl (Pred.waits_near (by kernel_rfl) (by kernel_rfl))
      exact Pred.yields_run (v := .bool true) ((Pred.wanted_at (g := 20) (d := 100) (f := true) rfl rfl r100).trans rfl) (by go_simp) ⟨Pred.ext_refl _ _, rfl⟩
    · intro b X hE hd hn hV
      have r100 : b.tmps[100]?.getD undef = .bool true := hV 20 _ 100 rfl rfl (Pred.waits_near (by kernel_rfl) (by kernel_rfl))
      have r101 : b.tmps[101]?.getD undef = .bool true := hV 21 _ 101 rfl rfl (Pred.waits_near (by kernel_rfl) (by kernel_rfl))
      exact Pred.yields_run (v := .bool true) (Pred.wanted_none rfl) (by go_simp) ⟨Pred.ext_refl _ _, rfl⟩
    · intro b X hE hd hn hV
      have r102 : b.tmps[102]?.getD undef = .bool true := hV 22 _ 102 rfl rfl (Pred.waits_near (by kernel_rfl) (by kernel_rfl))
      exact Pred.yields_run (v := .bool true) (Pred.wanted_none rfl) (by go_simp) ⟨Pred.ext_refl _ _, rfl⟩
    · intro b X hE hd hn hV
      have r13 : b.tmps[13]?.getD undef = .slice (some ⟨a12, 0, none⟩) 144 c12 := (hn 13 (by kernel_rfl)).trans rfl
      have r103 : b.tmps[103]?.getD undef = .bool true := hV 23 _ 103 rfl rfl (Pred.waits_near (by kernel_rfl) (by kernel_rfl))
      exact Pred.yields_run (v := .slice (some ⟨a12, 0, none⟩) 144 c12) ((Pred.wanted_at (g := 23) (d := 103) (f := true) rfl rfl r103).trans rfl) (by go_simp) ⟨Pred.ext_refl _ _, rfl⟩
    · intro b X hE hd hn hV
      have r104 : b.tmps[104]?.getD undef = .slice (some ⟨a12, 0, none⟩) 144 c12 := hV 24 _ 104 rfl rfl (Pred.waits_near (by kernel_rfl) (by kernel_rfl))
      have r103 : b.tmps[103]?.getD undef = .bool true := hV 23 _ 103 rfl rfl (Pred.waits_near (by kernel_rfl) (by kernel_rfl))
      have hc9 := str_own (owns_same HU13.out hE) B3.out
      exact Pred.yields_run (v := .string (bytesOf D3)) ((Pred.wanted_at (g := 23) (d := 103) (f := true) rfl rfl r103).trans rfl) (by go_simp) ⟨Pred.ext_refl _ _, rfl⟩
    · intro b X hE hd hn hV
      have r103 : b.tmps[103]?.getD undef = .bool true := hV 23 _ 103 rfl rfl (Pred.waits_near (by kernel_rfl) (by kernel_rfl))
      refine Pred.yields_call (f := 7) (args := #[.int .i64 3]) ((Pred.wanted_at (g := 23) (d := 103) (f := true) rfl rfl r103).trans rfl) (by go_simp) ?_
      refine (CD3.out X).mono ?_
      rintro e w9 ⟨⟨v9, rfl, hv9⟩, hb⟩
      obtain ⟨a9, c9, rfl, hB9, -⟩ := bin_own hv9
      exact ⟨_, rfl, Pred.ext_below hb hE.size, _, _, _, rfl, hB9.reads⟩
    · intro b X hE hd hn hV
      obtain ⟨ga106, na106, ca106, r106, hr106⟩ : Rds (D3) (b.tmps[106]?.getD undef) X := hV 26 _ 106 rfl rfl (Pred.waits_near (by kernel_rfl) (by kernel_rfl))
      have r103 : b.tmps[103]?.getD undef = .bool true := hV 23 _ 103 rfl rfl (Pred.waits_near (by kernel_rfl) (by kernel_rfl))
      have hc9 : (convert 22 9 (.slice ga106 na106 ca106)).run Try.prog X = .ok (.string (bytesOf D3)) X := Rd.conv_reads Try.underlying22 Try.underlying5 Try.underlying9 hr106 B3.out
      exact Pred.yields_run (v := .string (bytesOf D3)) ((Pred.wanted_at (g := 23) (d := 103) (f := true) rfl rfl r103).trans rfl) (by go_simp) ⟨Pred.ext_refl _ _, rfl⟩
    · intro b X hE hd hn hV
      have r105 : b.tmps[105]?.getD undef = .string (bytesOf D3) := hV 25 _ 105 rfl rfl (Pred.waits_near (by kernel_rfl) (by kernel_rfl))
      have r107 : b.tmps[107]?.getD undef = .string (bytesOf D3) := hV 27 _ 107 rfl rfl (Pred.waits_near (by kernel_rfl) (by kernel_rfl))
      have r103 : b.tmps[103]?.getD undef = .bool true := hV 23 _ 103 rfl rfl (Pred.waits_near (by kernel_rfl) (by kernel_rfl))
      exact Pred.yields_run (v := .bool true) ((Pred.wanted_at (g := 23) (d := 103) (f := true) rfl rfl r103).trans rfl) (by go_simp) ⟨Pred.ext_refl _ _, rfl⟩
    · intro b X hE hd hn hV
      have r103 : b.tmps[103]?.getD undef = .bool true := hV 23 _ 103 rfl rfl (Pred.waits_near (by kernel_rfl) (by kernel_rfl))
      have r108 : b.tmps[108]?.getD undef = .bool true := hV 28 _ 108 rfl rfl (Pred.waits_near (by kernel_rfl) (by kernel_rfl))
      exact Pred.yields_run (v := .bool true) (Pred.wanted_none rfl) (by go_simp) ⟨Pred.ext_refl _ _, rfl⟩
    · intro b X hE hd hn hV
      have r109 : b.tmps[109]?.getD undef = .bool true := hV 29 _ 109 rfl rfl (Pred.waits_near (by kernel_rfl) (by kernel_rfl))
      exact Pred.yields_run (v := .bool true) (Pred.wanted_none rfl) (by go_simp) ⟨Pred.ext_refl _ _, rfl⟩
    · intro b X hE hd hn hV
      have r1 : b.tmps[1]?.getD undef = .pointer (some ⟨pb, 0, none⟩) := (hn 1 (by kernel_rfl)).trans rfl
      have r110 : b.tmps[110]?.getD undef = .bool true := hV 30 _ 110 rfl rfl (Pred.waits_near (by kernel_rfl) (by kernel_rfl))
      exact Pred.yields_run (v := .pointer (some ⟨pb, 0, none⟩)) ((Pred.wanted_at (g := 30) (d := 110) (f := true) rfl rfl r110).trans rfl) (by go_simp) ⟨Pred.ext_refl _ _, rfl⟩
    · intro b X hE hd hn hV
      have r110 : b.tmps[110]?.getD undef = .bool true := hV 30 _ 110 rfl rfl (Pred.waits_near (by kernel_rfl) (by kernel_rfl))
      exact Pred.yields_run (v := .agg #[.int .i64 1, .int .i64 0, .int .i64 0]) ((Pred.wanted_at (g := 30) (d := 110) (f := true) rfl rfl r110).trans rfl) (by go_simp) ⟨Pred.ext_refl _ _, rfl⟩
    · intro b X hE hd hn hV
      have r111 : b.tmps[111]?.getD undef = .pointer (some ⟨pb, 0, none⟩) := hV 31 _ 111 rfl rfl (Pred.waits_near (by kernel_rfl) (by kernel_rfl))
      have r112 : b.tmps[112]?.getD undef = .agg #[.int .i64 1, .int .i64 0, .int .i64 0] := hV 32 _ 112 rfl rfl (Pred.waits_near (by kernel_rfl) (by kernel_rfl))
      have r110 : b.tmps[110]?.getD undef = .bool true := hV 30 _ 110 rfl rfl (Pred.waits_near (by kernel_rfl) (by kernel_rfl))
      refine Pred.yields_call (f := 20) (args := #[.pointer (some ⟨pb, 0, none⟩), .agg #[.int .i64 1, .int .i64 0, .int .i64 0]]) ((Pred.wanted_at (g := 30) (d := 110) (f := true) rfl rfl r110).trans rfl) (by go_simp) ?_
      refine (has_any 1 0 0 X (HA13.out.bel hE).p).mono ?_
      rintro e w9 ⟨rfl, hb⟩
      exact ⟨_, rfl, Pred.ext_below hb hE.size, rfl⟩
    · intro b X hE hd hn hV
      have r110 : b.tmps[110]?.getD undef = .bool true := hV 30 _ 110 rfl rfl (Pred.waits_near (by kernel_rfl) (by kernel_rfl))
      have r113 : b.tmps[113]?.getD undef = .bool true := hV 33 _ 113 rfl rfl (Pred.waits_near (by kernel_rfl) (by kernel_rfl))
      exact Pred.yields_run (v := .bool true) (Pred.wanted_none rfl) (by go_simp) ⟨Pred.ext_refl _ _, rfl⟩
    · intro b X hE hd hn hV
      have r114 : b.tmps[114]?.getD undef = .bool true := hV 34 _ 114 rfl rfl (Pred.waits_near (by kernel_rfl) (by kernel_rfl))
      exact Pred.yields_run (v := .bool true) (Pred.wanted_none rfl) (by go_simp) ⟨Pred.ext_refl _ _, rfl⟩
    · intro b X hE hd hn hV
      have r1 : b.tmps[1]?.getD undef = .pointer (some ⟨pb, 0, none⟩) := (hn 1 (by kernel_rfl)).trans rfl
      have r115 : b.tmps[115]?.getD undef = .bool true := hV 35 _ 115 rfl rfl (Pred.waits_near (by kernel_rfl) (by kernel_rfl))
      exact Pred.yields_run (v := .pointer (some ⟨pb, 0, none⟩)) ((Pred.wanted_at (g := 35) (d := 115) (f := true) rfl rfl r115).trans rfl) (by go_simp) ⟨Pred.ext_refl _ _, rfl⟩
    · intro b X hE hd hn hV
      have r115 : b.tmps[115]?.getD undef = .bool true := hV 35 _ 115 rfl rfl (Pred.waits_near (by kernel_rfl) (by kernel_rfl))
      exact Pred.yields_run (v := .agg #[.int .i64 0, .int .i64 0, .int .i64 0]) ((Pred.wanted_at (g := 35) (d := 115) (f := true) rfl rfl r115).trans rfl) (by go_simp) ⟨Pred.ext_refl _ _, rfl⟩
    · intro b X hE hd hn hV
      have r116 : b.tmps[116]?.getD undef = .pointer (some ⟨pb, 0, none⟩) := hV 36 _ 116 rfl rfl (Pred.waits_near (by kernel_rfl) (by kernel_rfl))
      have r117 : b.tmps[117]?.getD undef = .agg #[.int .i64 0, .int .i64 0, .int .i64 0] := hV 37 _ 117 rfl rfl (Pred.waits_near (by kernel_rfl) (by kernel_rfl))
      have r115 : b.tmps[115]?.getD undef = .bool true := hV 35 _ 115 rfl rfl (Pred.waits_near (by kernel_rfl) (by kernel_rfl))
      refine Pred.yields_call (f := 20) (args := #[.pointer (some ⟨pb, 0, none⟩), .agg #[.int .i64 0, .int .i64 0, .int .i64 0]]) ((Pred.wanted_at (g := 35) (d := 115) (f := true) rfl rfl r115).trans rfl) (by go_simp) ?_
      refine (has_any 0 0 0 X (HA13.out.bel hE).p).mono ?_
      rintro e w9 ⟨rfl, hb⟩
      exact ⟨_, rfl, Pred.ext_below hb hE.size, rfl⟩
    · intro b X hE hd hn hV
      have r118 : b.tmps[118]?.getD undef = .bool false := hV 38 _ 118 rfl rfl (Pred.waits_near (by kernel_rfl) (by kernel_rfl))
      have r115 : b.tmps[115]?.getD undef = .bool true := hV 35 _ 115 rfl rfl (Pred.waits_near (by kernel_rfl) (by kernel_rfl))
      exact Pred.yields_run (v := .bool true) ((Pred.wanted_at (g := 35) (d := 115) (f := true) rfl rfl r115).trans rfl) (by go_simp) ⟨Pred.ext_refl _ _, rfl⟩
    · intro b X hE hd hn hV
      have r115 : b.tmps[115]?.getD undef = .bool true := hV 35 _ 115 rfl rfl (Pred.waits_near (by kernel_rfl) (by kernel_rfl))
      have r119 : b.tmps[119]?.getD undef = .bool true := hV 39 _ 119 rfl rfl (Pred.waits_near (by kernel_rfl) (by kernel_rfl))
      exact Pred.yields_run (v := .bool true) (Pred.wanted_none rfl) (by go_simp) ⟨Pred.ext_refl _ _, rfl⟩
    · intro b X hE hd hn hV
      have r120 : b.tmps[120]?.getD undef = .bool true := hV 40 _ 120 rfl rfl (Pred.waits_near (by kernel_rfl) (by kernel_rfl))
      exact Pred.yields_run (v := .bool true) (Pred.wanted_none rfl) (by go_simp) ⟨Pred.ext_refl _ _, rfl⟩
    · intro b X hE hd hn hV
      have r1 : b.tmps[1]?.getD undef = .pointer (some ⟨pb, 0, none⟩) := (hn 1 (by kernel_rfl)).trans rfl
      have r121 : b.tmps[121]?.getD undef = .bool true := hV 41 _ 121 rfl rfl (Pred.waits_near (by kernel_rfl) (by kernel_rfl))
      exact Pred.yields_run (v := .pointer (some ⟨pb, 0, none⟩)) ((Pred.wanted_at (g := 41) (d := 121) (f := true) rfl rfl r121).trans rfl) (by go_simp) ⟨Pred.ext_refl _ _, rfl⟩
    · intro b X hE hd hn hV
      have r122 : b.tmps[122]?.getD undef = .pointer (some ⟨pb, 0, none⟩) := hV 42 _ 122 rfl rfl (Pred.waits_near (by kernel_rfl) (by kernel_rfl))
      have r121 : b.tmps[121]?.getD undef = .bool true := hV 41 _ 121 rfl rfl (Pred.waits_near (by kernel_rfl) (by kernel_rfl))
      refine Pred.yields_call (f := 22) (args := #[.pointer (some ⟨pb, 0, none⟩)]) ((Pred.wanted_at (g := 41) (d := 121) (f := true) rfl rfl r121).trans rfl) (by go_simp) ?_
      refine (len_any X (HA13.out.bel hE).p).mono ?_
      rintro e w9 ⟨rfl, hb⟩
      exact ⟨_, rfl, Pred.ext_below hb hE.size, rfl⟩
    · intro b X hE hd hn hV
      have r123 : b.tmps[123]?.getD undef = .int .i64 2 := hV 43 _ 123 rfl rfl (Pred.waits_near (by kernel_rfl) (by kernel_rfl))
      have r121 : b.tmps[121]?.getD undef = .bool true := hV 41 _ 121 rfl rfl (Pred.waits_near (by kernel_rfl) (by kernel_rfl))
      exact Pred.yields_run (v := .bool true) ((Pred.wanted_at (g := 41) (d := 121) (f := true) rfl rfl r121).trans rfl) (by go_simp) ⟨Pred.ext_refl _ _, rfl⟩
    · intro b X hE hd hn hV
      have r121 : b.tmps[121]?.getD undef = .bool true := hV 41 _ 121 rfl rfl (Pred.waits_near (by kernel_rfl) (by kernel_rfl))
      have r124 : b.tmps[124]?.getD undef = .bool true := hV 44 _ 124 rfl rfl (Pred.waits_near (by kernel_rfl) (by kernel_rfl))
      exact Pred.yields_run (v := .bool true) (Pred.wanted_none rfl) (by go_simp) ⟨Pred.ext_refl _ _, rfl⟩
    · intro b X hE hd hn hV
      have r125 : b.tmps[125]?.getD undef = .bool true := hV 45 _ 125 rfl rfl (Pred.waits_near (by kernel_rfl) (by kernel_rfl))
      exact Pred.yields_run (v := .bool true) (Pred.wanted_none rfl) (by go_simp) ⟨Pred.ext_refl _ _, rfl⟩
    · intro b X hE hd hn hV
      have r1 : b.tmps[1]?.getD undef = .pointer (some ⟨pb, 0, none⟩) := (hn 1 (by kernel_rfl)).trans rfl
      have r126 : b.tmps[126]?.getD undef = .bool true := hV 46 _ 126 rfl rfl (Pred.waits_near (by kernel_rfl) (by kernel_rfl))
      exact Pred.yields_run (v := .pointer (some ⟨pb, 0, none⟩)) ((Pred.wanted_at (g := 46) (d := 126) (f := true) rfl rfl r126).trans rfl) (by go_simp) ⟨Pred.ext_refl _ _, rfl⟩
    · intro b X hE hd hn hV
      have r127 : b.tmps[127]?.getD undef = .pointer (some ⟨pb, 0, none⟩) := hV 47 _ 127 rfl rfl (Pred.waits_near (by kernel_rfl) (by kernel_rfl))
      have r126 : b.tmps[126]?.getD undef = .bool true := hV 46 _ 126 rfl rfl (Pred.waits_near (by kernel_rfl) (by kernel_rfl))
      have C9 := all_pl (-1) X (HA13.out.bel hE).p
      rw [rC_all] at C9
      refine Pred.yields_call (f := 23) (args := #[.pointer (some ⟨pb, 0, none⟩), .int .i64 (-1)]) ((Pred.wanted_at (g := 46) (d := 126) (f := true) rfl rfl r126).trans rfl) (by clear C9; go_simp) ?_
      refine C9.mono ?_
      rintro e w9 ⟨⟨ad9, c9, rfl, h9⟩, hb⟩
      exact ⟨_, rfl, Pred.ext_below hb hE.size, _, _, rfl, h9⟩
    · intro b X hE hd hn hV
      have r126 : b.tmps[126]?.getD undef = .bool true := hV 46 _ 126 rfl rfl (Pred.waits_near (by kernel_rfl) (by kernel_rfl))
      exact Pred.yields_run (v := .agg #[.int .i64 1, .int .i64 0, .int .i64 0]) ((Pred.wanted_at (g := 46) (d := 126) (f := true) rfl rfl r126).trans rfl) (by go_simp) ⟨Pred.ext_refl _ _, rfl⟩
    · intro b X hE hd hn hV
      have r126 : b.tmps[126]?.getD undef = .bool true := hV 46 _ 126 rfl rfl (Pred.waits_near (by kernel_rfl) (by kernel_rfl))
      exact Pred.yields_run (v := .agg #[.int .i64 0, .int .i64 1, .int .i64 0]) ((Pred.wanted_at (g := 46) (d := 126) (f := true) rfl rfl r126).trans rfl) (by go_simp) ⟨Pred.ext_refl _ _, rfl⟩
    · intro b X hE hd hn hV
      have r129 : b.tmps[129]?.getD undef = .agg #[.int .i64 1, .int .i64 0, .int .i64 0] := hV 49 _ 129 rfl rfl (Pred.waits_near (by kernel_rfl) (by kernel_rfl))
      have r130 : b.tmps[130]?.getD undef = .agg #[.int .i64 0, .int .i64 1, .int .i64 0] := hV 50 _ 130 rfl rfl (Pred.waits_near (by kernel_rfl) (by kernel_rfl))
      have r126 : b.tmps[126]?.getD undef = .bool true := hV 46 _ 126 rfl rfl (Pred.waits_near (by kernel_rfl) (by kernel_rfl))
      exact Pred.yields_run (v := .slice (some ⟨X.heap.size, 0, none⟩) 2 2) (w' := X.alloc (.cells #[.int .i64 1, .int .i64 0, .int .i64 0, .int .i64 0, .int .i64 1, .int .i64 0] 35)) ((Pred.wanted_at (g := 46) (d := 126) (f := true) rfl rfl r126).trans rfl) (by go_simp) ⟨Pred.ext_below ((Below.refl _ _).alloc (Nat.le_refl _) _) hE.size, _, 2, rfl, lit_pg2 X 1 0 0 0 1 0⟩
    · intro b X hE hd hn hV
      obtain ⟨ga128, ca128, r128, hr128⟩ : PgS ([[1, 0, 0], [0, 1, 0]]) (b.tmps[128]?.getD undef) X := hV 48 _ 128 rfl rfl (Pred.waits_near (by kernel_rfl) (by kernel_rfl))
      obtain ⟨ga131, ca131, r131, hr131⟩ : PgS ([[1, 0, 0], [0, 1, 0]]) (b.tmps[131]?.getD undef) X := hV 51 _ 131 rfl rfl (Pred.waits_near (by kernel_rfl) (by kernel_rfl))
      have r126 : b.tmps[126]?.getD undef = .bool true := hV 46 _ 126 rfl rfl (Pred.waits_near (by kernel_rfl) (by kernel_rfl))
      refine Pred.yields_call (f := 14) (args := #[.slice ga128 2 ca128, .slice ga131 2 ca131]) ((Pred.wanted_at (g := 46) (d := 126) (f := true) rfl rfl r126).trans rfl) (by go_simp) ?_
      refine (pages_any [[1, 0, 0], [0, 1, 0]] [[1, 0, 0], [0, 1, 0]] ga128 ga131 ca128 ca131 X hr128 hr131 (by decide) (by decide)).mono ?_
      rintro e w9 ⟨rfl, hb⟩
      exact ⟨_, rfl, Pred.ext_below hb hE.size, rfl⟩
    · intro b X hE hd hn hV
      have r126 : b.tmps[126]?.getD undef = .bool true := hV 46 _ 126 rfl rfl (Pred.waits_near (by kernel_rfl) (by kernel_rfl))
      have r132 : b.tmps[132]?.getD undef = .bool true := hV 52 _ 132 rfl rfl (Pred.waits_near (by kernel_rfl) (by kernel_rfl))
      exact Pred.yields_run (v := .bool true) (Pred.wanted_none rfl) (by go_simp) ⟨Pred.ext_refl _ _, rfl⟩
    · intro b X hE hd hn hV
      have r133 : b.tmps[133]?.getD undef = .bool true := hV 53 _ 133 rfl rfl (Pred.waits_near (by kernel_rfl) (by kernel_rfl))
      exact Pred.yields_run (v := .bool true) (Pred.wanted_none rfl) (by go_simp) ⟨Pred.ext_refl _ _, rfl⟩
    · intro b X hE hd hn hV
      have r1 : b.tmps[1]?.getD undef = .pointer (some ⟨pb, 0, none⟩) := (hn 1 (by kernel_rfl)).trans rfl
      have r134 : b.tmps[134]?.getD undef = .bool true := hV 54 _ 134 rfl rfl (Pred.waits_near (by kernel_rfl) (by kernel_rfl))
      exact Pred.yields_run (v := .pointer (some ⟨pb, 0, none⟩)) ((Pred.wanted_at (g := 54) (d := 134) (f := true) rfl rfl r134).trans rfl) (by go_simp) ⟨Pred.ext_refl _ _, rfl⟩
    · intro b X hE hd hn hV
      have r134 : b.tmps[134]?.getD undef = .bool true := hV 54 _ 134 rfl rfl (Pred.waits_near (by kernel_rfl) (by kernel_rfl))
      exact Pred.yields_run (v := .agg #[.int .i64 0, .int .i64 0, .int .i64 0]) ((Pred.wanted_at (g := 54) (d := 134) (f := true) rfl rfl r134).trans rfl) (by go_simp) ⟨Pred.ext_refl _ _, rfl⟩
    · intro b X hE hd hn hV
      have r135 : b.tmps[135]?.getD undef = .pointer (some ⟨pb, 0, none⟩) := hV 55 _ 135 rfl rfl (Pred.waits_near (by kernel_rfl) (by kernel_rfl))
      have r136 : b.tmps[136]?.getD undef = .agg #[.int .i64 0, .int .i64 0, .int .i64 0] := hV 56 _ 136 rfl rfl (Pred.waits_near (by kernel_rfl) (by kernel_rfl))
      have r134 : b.tmps[134]?.getD undef = .bool true := hV 54 _ 134 rfl rfl (Pred.waits_near (by kernel_rfl) (by kernel_rfl))
      refine Pred.yields_call (f := 15) (args := #[.pointer (some ⟨pb, 0, none⟩), .agg #[.int .i64 0, .int .i64 0, .int .i64 0]]) ((Pred.wanted_at (g := 54) (d := 134) (f := true) rfl rfl r134).trans rfl) (by go_simp) ?_
      refine (touch_not 0 0 0 X (HA13.out.bel hE).p rfl).mono ?_
      rintro e w9 ⟨rfl, hb⟩
      exact ⟨_, rfl, Pred.ext_below hb hE.size, rfl⟩
    · intro b X hE hd hn hV
      have r137 : b.tmps[137]?.getD undef = .bool false := hV 57 _ 137 rfl rfl (Pred.waits_near (by kernel_rfl) (by kernel_rfl))
      have r134 : b.tmps[134]?.getD undef = .bool true := hV 54 _ 134 rfl rfl (Pred.waits_near (by kernel_rfl) (by kernel_rfl))
      exact Pred.yields_run (v := .bool true) ((Pred.wanted_at (g := 54) (d := 134) (f := true) rfl rfl r134).trans rfl) (by go_simp) ⟨Pred.ext_refl _ _, rfl⟩
    · intro b X hE hd hn hV
      have r134 : b.tmps[134]?.getD undef = .bool true := hV 54 _ 134 rfl rfl (Pred.waits_near (by kernel_rfl) (by kernel_rfl))
      have r138 : b.tmps[138]?.getD undef = .bool true := hV 58 _ 138 rfl rfl (Pred.waits_near (by kernel_rfl) (by kernel_rfl))
      exact Pred.yields_run (v := .bool true) (Pred.wanted_none rfl) (by go_simp) ⟨Pred.ext_refl _ _, rfl⟩
    · intro b X hE hd hn hV
      have r139 : b.tmps[139]?.getD undef = .bool true := hV 59 _ 139 rfl rfl (Pred.waits_near (by kernel_rfl) (by kernel_rfl))
      exact Pred.yields_run (v := .bool true) (Pred.wanted_none rfl) (by go_simp) ⟨Pred.ext_refl _ _, rfl⟩
    · intro b X hE hd hn hV
      have r15 : b.tmps[15]?.getD undef = .pointer none := (hn 15 (by kernel_rfl)).trans rfl
      have r140 : b.tmps[140]?.getD undef = .bool true := hV 60 _ 140 rfl rfl (Pred.waits_near (by kernel_rfl) (by kernel_rfl))
      exact Pred.yields_run (v := .pointer none) ((Pred.wanted_at (g := 60) (d := 140) (f := true) rfl rfl r140).trans rfl) (by go_simp) ⟨Pred.ext_refl _ _, rfl⟩
    · intro b X hE hd hn hV
      have r141 : b.tmps[141]?.getD undef = .pointer none := hV 61 _ 141 rfl rfl (Pred.waits_near (by kernel_rfl) (by kernel_rfl))
      have r140 : b.tmps[140]?.getD undef = .bool true := hV 60 _ 140 rfl rfl (Pred.waits_near (by kernel_rfl) (by kernel_rfl))
      refine Pred.yields_call (f := 22) (args := #[.pointer none]) ((Pred.wanted_at (g := 60) (d := 140) (f := true) rfl rfl r140).trans rfl) (by go_simp) ?_
      refine (PoB.len_nil X).mono ?_
      rintro e w9 ⟨rfl, hb⟩
      exact ⟨_, rfl, Pred.ext_below hb hE.size, rfl⟩
    · intro b X hE hd hn hV
      have r142 : b.tmps[142]?.getD undef = .int .i64 0 := hV 62 _ 142 rfl rfl (Pred.waits_near (by kernel_rfl) (by kernel_rfl))
      have r140 : b.tmps[140]?.getD undef = .bool true := hV 60 _ 140 rfl rfl (Pred.waits_near (by kernel_rfl) (by kernel_rfl))
      exact Pred.yields_run (v := .bool true) ((Pred.wanted_at (g := 60) (d := 140) (f := true) rfl rfl r140).trans rfl) (by go_simp) ⟨Pred.ext_refl _ _, rfl⟩
    · intro b X hE hd hn hV
      have r140 : b.tmps[140]?.getD undef = .bool true := hV 60 _ 140 rfl rfl (Pred.waits_near (by kernel_rfl) (by kernel_rfl))
      have r143 : b.tmps[143]?.getD undef = .bool true := hV 63 _ 143 rfl rfl (Pred.waits_near (by kernel_rfl) (by kernel_rfl))
      exact Pred.yields_run (v := .bool true) (Pred.wanted_none rfl) (by go_simp) ⟨Pred.ext_refl _ _, rfl⟩
    · intro b X hE hd hn hV
      have r144 : b.tmps[144]?.getD undef = .bool true := hV 64 _ 144 rfl rfl (Pred.waits_near (by kernel_rfl) (by kernel_rfl))
      exact Pred.yields_run (v := .bool true) (Pred.wanted_none rfl) (by go_simp) ⟨Pred.ext_refl _ _, rfl⟩
    · intro b X hE hd hn hV
      have r17 : b.tmps[17]?.getD undef = .int .i64 1 := (hn 17 (by kernel_rfl)).trans rfl
      have r145 : b.tmps[145]?.getD undef = .bool true := hV 65 _ 145 rfl rfl (Pred.waits_near (by kernel_rfl) (by kernel_rfl))
      exact Pred.yields_run (v := .int .i64 1) ((Pred.wanted_at (g := 65) (d := 145) (f := true) rfl rfl r145).trans rfl) (by go_simp) ⟨Pred.ext_refl _ _, rfl⟩
    · intro b X hE hd hn hV
      have r146 : b.tmps[146]?.getD undef = .int .i64 1 := hV 66 _ 146 rfl rfl (Pred.waits_near (by kernel_rfl) (by kernel_rfl))
      have r145 : b.tmps[145]?.getD undef = .bool true := hV 65 _ 145 rfl rfl (Pred.waits_near (by kernel_rfl) (by kernel_rfl))
      exact Pred.yields_run (v := .bool true) ((Pred.wanted_at (g := 65) (d := 145) (f := true) rfl rfl r145).trans rfl) (by go_simp) ⟨Pred.ext_refl _ _, rfl⟩
    · intro b X hE hd hn hV
      have r145 : b.tmps[145]?.getD undef = .bool true := hV 65 _ 145 rfl rfl (Pred.waits_near (by kernel_rfl) (by kernel_rfl))
      have r147 : b.tmps[147]?.getD undef = .bool true := hV 67 _ 147 rfl rfl (Pred.waits_near (by kernel_rfl) (by kernel_rfl))
      exact Pred.yields_run (v := .bool true) (Pred.wanted_none rfl) (by go_simp) ⟨Pred.ext_refl _ _, rfl⟩
    · intro b X hE hd hn hV
      have r148 : b.tmps[148]?.getD undef = .bool true := hV 68 _ 148 rfl rfl (Pred.waits_near (by kernel_rfl) (by kernel_rfl))
      exact Pred.yields_run (v := .bool true) (Pred.wanted_none rfl) (by go_simp) ⟨Pred.ext_refl _ _, rfl⟩
  intro v X hE hv
  have e0 : v 0 = .int .i64 1 := hv 0 _ 80 rfl rfl
  have e1 : v 1 = .bool true := hv 1 _ 81 rfl rfl
  have e2 : v 2 = .bool true := hv 2 _ 82 rfl rfl
  have e3 : v 3 = .int .i64 0 := hv 3 _ 83 rfl rfl
  have e4 : v 4 = .bool true := hv 4 _ 84 rfl rfl
  have e5 : v 5 = .bool true := hv 5 _ 85 rfl rfl
  have e6 : v 6 = .bool true := hv 6 _ 86 rfl rfl
  have e7 : v 7 = .int .i64 0 := hv 7 _ 87 rfl rfl
  have e8 : v 8 = .bool true := hv 8 _ 88 rfl rfl
  have e9 : v 9 = .bool true := hv 9 _ 89 rfl rfl
  have e10 : v 10 = .bool true := hv 10 _ 90 rfl rfl
  have e11 : v 11 = .slice adg 1 cg := hv 11 _ 91 rfl rfl
  have e12 : v 12 = .agg #[.int .i64 0, .int .i64 0, .int .i64 0] := hv 12 _ 92 rfl rfl
  obtain ⟨ga13, ca13, e13, hr13⟩ : PgS ([[0, 0, 0]]) (v 13) X := hv 13 _ 93 rfl rfl
  have e14 : v 14 = .bool true := hv 14 _ 94 rfl rfl
  have e15 : v 15 = .bool true := hv 15 _ 95 rfl rfl
  have e16 : v 16 = .bool true := hv 16 _ 96 rfl rfl
  have e17 : v 17 = .int .i64 6 := hv 17 _ 97 rfl rfl
  have e18 : v 18 = .bool true := hv 18 _ 98 rfl rfl
  have e19 : v 19 = .bool true := hv 19 _ 99 rfl rfl
  have e20 : v 20 = .bool true := hv 20 _ 100 rfl rfl
  have e21 : v 21 = .bool true := hv 21 _ 101 rfl rfl
  have e22 : v 22 = .bool true := hv 22 _ 102 rfl rfl
  have e23 : v 23 = .bool true := hv 23 _ 103 rfl rfl
  have e24 : v 24 = .slice (some ⟨a12, 0, none⟩) 144 c12 := hv 24 _ 104 rfl rfl
  have e25 : v 25 = .string (bytesOf D3) := hv 25 _ 105 rfl rfl
  obtain ⟨ga26, na26, ca26, e26, hr26⟩ : Rds (D3) (v 26) X := hv 26 _ 106 rfl rfl
  have e27 : v 27 = .string (bytesOf D3) := hv 27 _ 107 rfl rfl
  have e28 : v 28 = .bool true := hv 28 _ 108 rfl rfl
  have e29 : v 29 = .bool true := hv 29 _ 109 rfl rfl
  have e30 : v 30 = .bool true := hv 30 _ 110 rfl rfl
  have e31 : v 31 = .pointer (some ⟨pb, 0, none⟩) := hv 31 _ 111 rfl rfl
  have e32 : v 32 = .agg #[.int .i64 1, .int .i64 0, .int .i64 0] := hv 32 _ 112 rfl rfl
  have e33 : v 33 = .bool true := hv 33 _ 113 rfl rfl
  have e34 : v 34 = .bool true := hv 34 _ 114 rfl rfl
  have e35 : v 35 = .bool true := hv 35 _ 115 rfl rfl
  have e36 : v 36 = .pointer (some ⟨pb, 0, none⟩) := hv 36 _ 116 rfl rfl
  have e37 : v 37 = .agg #[.int .i64 0, .int .i64 0, .int .i64 0] := hv 37 _ 117 rfl rfl
  have e38 : v 38 = .bool false := hv 38 _ 118 rfl rfl
  have e39 : v 39 = .bool true := hv 39 _ 119 rfl rfl
  have e40 : v 40 = .bool true := hv 40 _ 120 rfl rfl
  have e41 : v 41 = .bool true := hv 41 _ 121 rfl rfl
  have e42 : v 42 = .pointer (some ⟨pb, 0, none⟩) := hv 42 _ 122 rfl rfl
  have e43 : v 43 = .int .i64 2 := hv 43 _ 123 rfl rfl
  have e44 : v 44 = .bool true := hv 44 _ 124 rfl rfl
  have e45 : v 45 = .bool true := hv 45 _ 125 rfl rfl
  have e46 : v 46 = .bool true := hv 46 _ 126 rfl rfl
  have e47 : v 47 = .pointer (some ⟨pb, 0, none⟩) := hv 47 _ 127 rfl rfl
  obtain ⟨ga48, ca48, e48, hr48⟩ : PgS ([[1, 0, 0], [0, 1, 0]]) (v 48) X := hv 48 _ 128 rfl rfl
  have e49 : v 49 = .agg #[.int .i64 1, .int .i64 0, .int .i64 0] := hv 49 _ 129 rfl rfl
  have e50 : v 50 = .agg #[.int .i64 0, .int .i64 1, .int .i64 0] := hv 50 _ 130 rfl rfl
  obtain ⟨ga51, ca51, e51, hr51⟩ : PgS ([[1, 0, 0], [0, 1, 0]]) (v 51) X := hv 51 _ 131 rfl rfl
  have e52 : v 52 = .bool true := hv 52 _ 132 rfl rfl
  have e53 : v 53 = .bool true := hv 53 _ 133 rfl rfl
  have e54 : v 54 = .bool true := hv 54 _ 134 rfl rfl
  have e55 : v 55 = .pointer (some ⟨pb, 0, none⟩) := hv 55 _ 135 rfl rfl
  have e56 : v 56 = .agg #[.int .i64 0, .int .i64 0, .int .i64 0] := hv 56 _ 136 rfl rfl
  have e57 : v 57 = .bool false := hv 57 _ 137 rfl rfl
  have e58 : v 58 = .bool true := hv 58 _ 138 rfl rfl
  have e59 : v 59 = .bool true := hv 59 _ 139 rfl rfl
  have e60 : v 60 = .bool true := hv 60 _ 140 rfl rfl
  have e61 : v 61 = .pointer none := hv 61 _ 141 rfl rfl
  have e62 : v 62 = .int .i64 0 := hv 62 _ 142 rfl rfl
  have e63 : v 63 = .bool true := hv 63 _ 143 rfl rfl
  have e64 : v 64 = .bool true := hv 64 _ 144 rfl rfl
  have e65 : v 65 = .bool true := hv 65 _ 145 rfl rfl
  have e66 : v 66 = .int .i64 1 := hv 66 _ 146 rfl rfl
  have e67 : v 67 = .bool true := hv 67 _ 147 rfl rfl
  have e68 : v 68 = .bool true := hv 68 _ 148 rfl rfl
  have e69 : v 69 = .bool true := hv 69 _ 0 rfl rfl
  simp only [Pred.putsF_cons, Pred.putsF_nil, Nat.zero_add, Nat.reduceAdd, e0, e1, e2, e3, e4, e5, e6, e7, e8, e9, e10, e11, e12, e13, e14, e15, e16, e17, e18, e19, e20, e21, e22, e23, e24, e25, e26, e27, e28, e29, e30, e31, e32, e33, e34, e35, e36, e37, e38, e39, e40, e41, e42, e43, e44, e45, e46, e47, e48, e49, e50, e51, e52, e53, e54, e55, e56, e57, e58, e59, e60, e61, e62, e63, e64, e65, e66, e67, e68, e69, Act.put, List.setIfInBounds_toArray, List.set_cons_zero, List.set_cons_succ]
  clear e0 e1 e2 e3 e4 e5 e6 e7 e8 e9 e10 e11 e12 e13 e14 e15 e16 e17 e18 e19 e20 e21 e22 e23 e24 e25 e26 e27 e28 e29 e30 e31 e32 e33 e34 e35 e36 e37 e38 e39 e40 e41 e42 e43 e44 e45 e46 e47 e48 e49 e50 e51 e52 e53 e54 e55 e56 e57 e58 e59 e60 e61 e62 e63 e64 e65 e66 e67 e68 e69 hv
  go_wp2
  go_ret
  exact ⟨rfl, (HA13.out.bel hE).low⟩
end Go.Proofs.Ytkklppjimnkibaa.PoL

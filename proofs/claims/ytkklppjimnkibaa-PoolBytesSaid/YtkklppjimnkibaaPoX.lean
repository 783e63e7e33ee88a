/-
  Both pools: what PoolActs wants of them.
-/
import Derived.Test.YtkklppjimnkibaaPoV
import Derived.Test.YtkklppjimnkibaaRds
import Derived.Test.YtkklppjimnkibaaAlike
namespace Go.Proofs.Ytkklppjimnkibaa.PoX
open Go.RowKit Go.Shelf Rd Go.Proofs.Ytkklppjimnkibaa.Row Mid LrM PgM PgA PgB PgC PgN PoM PoA PoB PoH PoI PoL PoS PoT PoU PoQ PoV
open Go.Proofs.Ytkklppjimnkibaa.PoK (allR all_pl cutV cut_all cut_take)
open Go.Proofs.Ytkklppjimnkibaa.Alk (round_any)
open Go.Proofs.Ytkklppjimnkibaa.PoD (us us_len By dataL data_len data_B data_any)
open Go.Proofs.Ytkklppjimnkibaa.PoE (BIn yields_skip below_zero one_slice)
open Go.Proofs.Ytkklppjimnkibaa.Num (ret_int ret_bool)
open Go.Proofs.Ytkklppjimnkibaa.MpE (owns_mono)
open It (get_lt)
set_option linter.unusedVariables false
set_option linter.unusedSimpArgs false
set_option maxRecDepth 10000
variable {w X Y : World} {lo : Lo} {pb gw base qb n d : Nat} {Bb : Nat → Prop} {v : Value} {rs : List (List Value)} {R R' : List Ent}
/-! neither turns the other -/
theorem Pl.gq {n' d' : Nat} (h : Pl X lo Bb pb gw n d R) (hr : Rp X base qb n' d' v rs R') (hg : X.grownBy Y (some qb)) : Pl Y lo Bb pb gw n d R := by
  refine h.kept hg.size (fun k hk => hg.block k (pt_lt hk) (fun e => ?_)) (fun k c _ hc => hg.block k (get_lt hc) (fun e => ?_))
  · injection e with e
    subst e
    obtain ⟨lb, lg, v, sl, o, wl, ⟨rs, hl, hq, hsl⟩, h2⟩ := h
    obtain ⟨c, t, hc, ht⟩ := hk
    have e2 := hc.symm.trans (show X.heap[k]? = _ from hr.p)
    injection e2 with e2
    injection e2 with e3 e4 e5
    subst e4
    rcases ht with ht | ht | ht | ht | ht
    · exact absurd ht (by decide)
    · exact absurd ht (by decide)
    · exact absurd ht (by decide)
    · exact absurd ht (by decide)
    · exact hq.gw_int hc (by decide) ht
  · injection e with e
    subst e
    have e2 := hc.symm.trans (show X.heap[k]? = _ from hr.p)
    simp at e2
theorem GoneAt.gq {n' d' : Nat} {gv : Value} {r : List (List Int)} (h : GoneAt X gv r) (hr : Rp X base qb n' d' v rs R') (hg : X.grownBy Y (some qb)) : GoneAt Y gv r := by
  rcases h with h | ⟨x, g9, h1, h2, h3, h4⟩
  · exact .inl h
  · refine .inr ⟨x, g9, h1, h2, h3, (hg.block g9 (blk_lt h4) (fun e => ?_)).trans h4⟩
    injection e with e
    subst e
    have e2 := (show X.heap[g9]? = _ from h4).symm.trans (show X.heap[g9]? = _ from hr.p)
    simp at e2
theorem bin_pf {ad : Addr} {b : List Int} (h : BIn X ad b) (hp : Pl X lo Bb pb gw n d R) (hf : PF lo gw X Y) : BIn Y ad b := by
  obtain ⟨lb, lg, v, sl, o, wl, ⟨rs, hl, hq, hsl⟩, h2⟩ := hp
  exact h.pf hq hf
theorem pg_pf {k : Nat} {c : Array Value} (hp : Pl X lo Bb pb gw n d R) (hf : PF lo gw X Y) (hk : blk X k = some (.cells c 35 (0, 0))) : blk Y k = some (.cells c 35 (0, 0)) := by
  obtain ⟨lb, lg, v, sl, o, wl, ⟨rs, hl, hq, hsl⟩, h2⟩ := hp
  exact PoE.PF.page hf hq hk
theorem pg_gq {n' d' : Nat} {k : Nat} {c : Array Value} (hr : Rp X base qb n' d' v rs R') (hg : X.grownBy Y (some qb)) (hk : blk X k = some (.cells c 35 (0, 0))) : blk Y k = some (.cells c 35 (0, 0)) := (other hr.p hk (by decide) hg).trans hk
/-! the rows' bytes -/
theorem by_put {q : List Ent} {g b : List Int} {n : Nat} (h : ∀ e ∈ q, By e.2) (hb : By b) : ∀ e ∈ putR n q g b, By e.2 := by
  unfold putR
  split
  · intro e he
    rcases List.mem_or_eq_of_mem_set he with he | rfl
    · exact h e he
    · exact hb
  · split
    · intro e he
      rcases List.mem_append.1 he with he | he
      · exact h e he
      · rw [List.mem_singleton.1 he]; exact hb
    · split
      · exact h
      · intro e he
        rcases List.mem_append.1 he with he | he
        · exact h e (List.mem_of_mem_eraseIdx he)
        · rw [List.mem_singleton.1 he]; exact hb
theorem by_touch {q : List Ent} {g : List Int} (h : ∀ e ∈ q, By e.2) : ∀ e ∈ touchR q g, By e.2 := by
  unfold touchR
  split
  · rename_i i hx
    intro e he
    obtain ⟨hi, -⟩ := ix_ent hx
    rcases List.mem_append.1 he with he | he
    · exact h e (List.mem_of_mem_eraseIdx he)
    · rw [List.mem_singleton.1 he]
      unfold ent
      rw [List.getD_eq_getElem?_getD, List.getElem?_eq_getElem hi]
      exact h _ (List.getElem_mem hi)
  · exact h
theorem by_at {q : List Ent} {g : List Int} (h : ∀ e ∈ q, By e.2) : By (bytesR q g) := by
  unfold bytesR
  split
  · rename_i i hx
    obtain ⟨hi, -⟩ := ix_ent hx
    unfold ent
    rw [List.getD_eq_getElem?_getD, List.getElem?_eq_getElem hi]
    exact h _ (List.getElem_mem hi)
  · intro z hz; cases hz
/-! as many pages as places -/
theorem all_nd : ∀ d : Nat, d ≤ 3 → (allV (d : Int)).Nodup := by
  intro d hd
  rcases n4 hd with rfl | rfl | rfl | rfl <;> decide +kernel
theorem val0 : ∀ i, i < 1 → validB 0 (PgM.g (at_ (allV 0) i) 0) (PgM.g (at_ (allV 0) i) 1) (PgM.g (at_ (allV 0) i) 2) = true := by decide +kernel
theorem val1 : ∀ i, i < 5 → validB 1 (PgM.g (at_ (allV 1) i) 0) (PgM.g (at_ (allV 1) i) 1) (PgM.g (at_ (allV 1) i) 2) = true := by decide +kernel
theorem val2 : ∀ i, i < 21 → validB 2 (PgM.g (at_ (allV 2) i) 0) (PgM.g (at_ (allV 2) i) 1) (PgM.g (at_ (allV 2) i) 2) = true := by decide +kernel
theorem val3 : ∀ i, i < 85 → validB 3 (PgM.g (at_ (allV 3) i) 0) (PgM.g (at_ (allV 3) i) 1) (PgM.g (at_ (allV 3) i) 2) = true := by decide +kernel
theorem valid_at {d i : Nat} (hd : d ≤ 3) (hi : i < (allV (d : Int)).length) : validB d (PgM.g (at_ (allV (d : Int)) i) 0) (PgM.g (at_ (allV (d : Int)) i) 1) (PgM.g (at_ (allV (d : Int)) i) 2) = true := by
  rcases n4 hd with rfl | rfl | rfl | rfl
  · exact val0 i (Nat.lt_of_lt_of_eq hi len0)
  · exact val1 i (Nat.lt_of_lt_of_eq hi len1)
  · exact val2 i (Nat.lt_of_lt_of_eq hi len2)
  · exact val3 i (Nat.lt_of_lt_of_eq hi len3')
theorem nd_map {α β : Type} {f : α → β} : ∀ {l : List α}, l.Nodup → (∀ i, i ∈ l → ∀ j, j ∈ l → f i = f j → i = j) → (l.map f).Nodup
  | [], _, _ => List.nodup_nil
  | a :: l, h, hf => by
    obtain ⟨h1, h2⟩ := List.nodup_cons.1 h
    refine List.nodup_cons.2 ⟨fun hm => ?_, nd_map h2 fun i hi j hj => hf i (List.mem_cons_of_mem _ hi) j (List.mem_cons_of_mem _ hj)⟩
    obtain ⟨j, hj, e⟩ := List.mem_map.1 hm
    exact h1 ((hf j (List.mem_cons_of_mem _ hj) a List.mem_cons_self e) ▸ hj)
theorem pg_in {d : Nat} {x : List Int} (hd : d ≤ 3) (h : Pg d x) : x ∈ allV (d : Int) := by
  obtain ⟨h1, h2⟩ := key_int hd h
  obtain ⟨y0, y1, y2, ey, ek⟩ := page_key hd h2
  obtain ⟨x0, x1, x2, rfl⟩ := len3 h.1
  have hm : at_ (allV (d : Int)) (keyN d [x0, x1, x2]) ∈ allV (d : Int) := by rw [at_eq h2]; exact List.getElem_mem _
  have hv := valid_at (d := d) hd h2
  rw [ey] at hv hm
  obtain ⟨e0, e1, e2⟩ := key_inj hd (show validB d x0 x1 x2 = true from h.2) hv (h1.trans ek.symm)
  rw [e0, e1, e2]
  exact hm
theorem len_rel {sl : List Ent} {o : List Nat} {wl : List Int} (h : Rel n d sl o wl) : (allR d (rowR sl o)).length = (rowR sl o).length := by
  have e : (allR d (rowR sl o)).Perm ((rowR sl o).map (·.1)) := by
    refine (List.perm_ext_iff_of_nodup ((all_nd d h.d3).filter _) ?_).2 fun x => ?_
    · unfold rowR
      rw [List.map_map]
      refine nd_map (ri_nodup h.perm _) fun i hi j hj e => h.dist i j ((ri_mem h.perm h.k1 h.kn i).1 hi) ((ri_mem h.perm h.k1 h.kn j).1 hj) e
    · rw [List.mem_filter, List.mem_map]
      constructor
      · rintro ⟨-, hx⟩
        unfold hasR at hx
        cases hi : ixR (rowR sl o) x with
        | none => rw [hi] at hx; cases hx
        | some i =>
          obtain ⟨h1, h2⟩ := ix_ent hi
          refine ⟨ent (rowR sl o) i, ?_, h2⟩
          unfold ent
          rw [List.getD_eq_getElem?_getD, List.getElem?_eq_getElem h1]
          exact List.getElem_mem h1
      · rintro ⟨e, he, rfl⟩
        obtain ⟨i, hi, rfl⟩ := h.mem.1 he
        refine ⟨pg_in h.d3 (h.pg i hi), ?_⟩
        unfold hasR
        cases hx : ixR (rowR sl o) (ent sl i).1 with
        | none => exact absurd rfl (ix_none.1 hx _ he)
        | some j => rfl
  rw [e.length_eq, List.length_map]
theorem len_pl (h : Pl X lo Bb pb gw n d R) : (allR d R).length = R.length := by
  obtain ⟨lb, lg, v, sl, o, wl, h1, h2, rfl⟩ := h
  exact len_rel h2
/-! both calls of one kind -/
structure As (w X : World) (lo : Lo) (pb gw base qb n d : Nat) (R : List Ent) : Prop where
  aw : Aw w X lo pb gw n d R
  rp : ∃ v rs, Rp X base qb n d v rs R
  by_ : ∀ e ∈ R, By e.2
  lo : w.heap.size ≤ base
theorem As.bel (h : As w X lo pb gw base qb n d R) (hb : Below X.heap.size X Y) : As w Y lo pb gw base qb n d R :=
  ⟨h.aw.bel hb, h.rp.elim fun v ⟨rs, hr⟩ => ⟨v, rs, hr.bel hb⟩, h.by_, h.lo⟩
theorem As.small (h : As w X lo pb gw base qb n d R) : R.length ≤ 1000 ∧ 1 ≤ R.length ∧ n ≤ 128 := by
  have := h.aw.p.len
  omega
theorem Aw.gq {n' d' : Nat} (h : Aw w X lo pb gw n d R) (hr : Rp X base qb n' d' v rs R') (hl : w.heap.size ≤ base) (hg : X.grownBy Y (some qb)) : Aw w Y lo pb gw n d R :=
  ⟨h.low.trans (OctA.below_grownBy (B := w.heap.size) hg h.low.size (fun k hk => by cases hk; exact Nat.le_trans hl hr.lo)), Pl.gq h.p hr hg, h.n⟩
def okB (d : Nat) (L X0 Y0 : Int) (m : Nat) : Bool := validB d L X0 Y0 && decide (m = 144)
def putQ (q : Bool) (n : Nat) (R : List Ent) (g b : List Int) : List Ent := if q = true then putR n R g b else R
def goneQ (q : Bool) (n : Nat) (R : List Ent) (g : List Int) : List (List Int) := if q = true then goneR n R g else []
def codeQ (q : Bool) (n : Nat) (R : List Ent) (g : List Int) : Int := if q = true then codeR n R g else 1
theorem by_putQ {q : Bool} {n : Nat} {g b : List Int} (h : ∀ e ∈ R, By e.2) (hb : By b) : ∀ e ∈ putQ q n R g b, By e.2 := by
  unfold putQ
  split
  · exact by_put h hb
  · exact h
def BV (X : World) (m : Nat) (ad : Option Addr) (b : List Int) : Prop := m = 144 → ∃ a, ad = some a ∧ BIn X a b
theorem ok_no {d : Nat} {L X0 Y0 : Int} {m : Nat} (h : okB d L X0 Y0 m = false) : validB d L X0 Y0 = false ∨ m ≠ 144 := by
  unfold okB at h
  rcases Bool.and_eq_false_iff.1 h with h | h
  · exact .inl h
  · exact .inr (of_decide_eq_false h)
theorem ok_yes {d : Nat} {L X0 Y0 : Int} {m : Nat} (h : okB d L X0 Y0 m = true) : validB d L X0 Y0 = true ∧ m = 144 := by
  unfold okB at h
  obtain ⟨h1, h2⟩ := (Bool.and_eq_true _ _ ▸ h : _ ∧ _)
  exact ⟨h1, of_decide_eq_true h2⟩
theorem cput (L X0 Y0 : Int) (ad : Option Addr) (m c : Nat) (b : List Int) (q : Bool) (X : World) (hq : okB d L X0 Y0 m = q) (h : Aw w X lo pb gw n d R) (hb : BV X m ad b) (hm : m ≤ 1000000) :
    Calls Try.prog 12 #[.pointer (some ⟨pb, 0, none⟩), pg L X0 Y0, .slice ad m c] X fun e X' => ∃ gv, e = .returned (.tuple #[gv, .int .i64 (codeQ q n R [L, X0, Y0])]) ∧ GoneAt X' gv (goneQ q n R [L, X0, Y0]) ∧ Aw w X' lo pb gw n d (putQ q n R [L, X0, Y0] b) ∧ PF lo gw X X' := by
  cases q with
  | true =>
    obtain ⟨hv, rfl⟩ := ok_yes hq
    obtain ⟨a, rfl, hB⟩ := hb rfl
    exact aw_put L X0 Y0 a c b X h hv hB
  | false => exact (put_no L X0 Y0 ad m c X h.p (ok_no hq) hm).mono fun e X' ⟨h1, h2⟩ => ⟨_, h1, .inl ⟨rfl, rfl⟩, h.bel h2, PF.of_below h2 (Pl.low h.p)⟩
theorem rput (L X0 Y0 : Int) (ad : Option Addr) (m c : Nat) (b : List Int) (q : Bool) (X : World) (hq : okB d L X0 Y0 m = q) (h : Rp X base qb n d v rs R) (hn : R.length ≤ 1000) (hn1 : n ≤ 128) (hb : BV X m ad b) :
    Calls Try.prog 13 #[.pointer (some ⟨qb, 0, none⟩), pg L X0 Y0, .slice ad m c] X fun e X' => ∃ gv v' rs', e = .returned (.tuple #[gv, .int .i64 (codeQ q n R [L, X0, Y0])]) ∧ GoneAt X' gv (goneQ q n R [L, X0, Y0]) ∧ Rp X' base qb n d v' rs' (putQ q n R [L, X0, Y0] b) ∧ X.grownBy X' (some qb) := by
  cases q with
  | true =>
    obtain ⟨hv, rfl⟩ := ok_yes hq
    obtain ⟨a, rfl, hB⟩ := hb rfl
    exact rput_any L X0 Y0 a c b X h hn hn1 hv hB
  | false => exact (rput_no L X0 Y0 ad m c X h (ok_no hq)).mono fun e X' ⟨h1, h2⟩ => ⟨_, _, _, h1, .inl ⟨rfl, rfl⟩, h.bel h2, gq_of h2⟩
theorem bytes_no {g : List Int} (h : hasR R g = false) : bytesR R g = [] := by
  unfold hasR at h
  unfold bytesR
  cases hx : ixR R g with
  | none => rfl
  | some i => rw [hx] at h; cases h
theorem cget (L X0 Y0 : Int) (X : World) (h : Pl X lo Bb pb gw n d R) :
    Calls Try.prog 17 #[.pointer (some ⟨pb, 0, none⟩), pg L X0 Y0] X fun e X' => (∃ a m c, e = .returned (.tuple #[.slice a m c, .bool (hasR R [L, X0, Y0])]) ∧ Reads X' 1 a m (us (bytesR R [L, X0, Y0]))) ∧ Below X.heap.size X X' :=
  (get_any L X0 Y0 X h).mono fun e X' ⟨⟨u, h1, h2, h3⟩, hb⟩ => by
    refine ⟨?_, hb⟩
    cases hh : hasR R [L, X0, Y0] with
    | true =>
      rw [hh] at h1
      obtain ⟨a, c, rfl, -⟩ := Rd.owns_val (h2 hh)
      exact ⟨a, 144, c, h1, Reads.of_owns (h2 hh)⟩
    | false =>
      rw [hh] at h1
      obtain rfl := h3 hh
      exact ⟨none, 0, 0, h1, by rw [bytes_no hh]; exact ⟨rfl, .inl rfl⟩⟩
theorem rget (L X0 Y0 : Int) (X : World) (h : Rp X base qb n d v rs R) (hn : R.length ≤ 1000) :
    Calls Try.prog 18 #[.pointer (some ⟨qb, 0, none⟩), pg L X0 Y0] X fun e X' => (∃ a m c, e = .returned (.tuple #[.slice a m c, .bool (hasR R [L, X0, Y0])]) ∧ Reads X' 1 a m (us (bytesR R [L, X0, Y0]))) ∧ Below X.heap.size X X' :=
  (rget_any L X0 Y0 X h hn).mono fun e X' ⟨⟨u, h1, h2, h3⟩, hb⟩ => by
    refine ⟨?_, hb⟩
    cases hh : hasR R [L, X0, Y0] with
    | true =>
      rw [hh] at h1
      obtain ⟨a, c, rfl, -⟩ := Rd.owns_val (h2 hh)
      exact ⟨a, 144, c, h1, Reads.of_owns (h2 hh)⟩
    | false =>
      rw [hh] at h1
      obtain rfl := h3 hh
      exact ⟨none, 0, 0, h1, by rw [bytes_no hh]; exact ⟨rfl, .inl rfl⟩⟩
theorem PgAt.take {ad : Option Addr} {r : PgM.Row} (h : PgAt X ad r) (k : Nat) : PgAt X ad (r.take k) := by
  refine ⟨fun v hv => h.1 v (List.mem_of_mem_take hv), ?_⟩
  rcases h.2 with e | ⟨b, o, e, hl, hc⟩
  · left; rw [e]; simp
  · refine .inr ⟨b, o, e, hl, fun i hi j hj => ?_⟩
    rw [List.length_take] at hi
    rw [hc i (by omega) j hj]
    unfold at_
    rw [List.getD_eq_getElem?_getD, List.getD_eq_getElem?_getD, List.getElem?_take_of_lt (by omega)]
attribute [local go_sem ↓] load_pg store_pg
attribute [local go_sem] one_int pc3 run_load_pg run_store_pg midLoad_eq rowLoad_eq rowStore_eq blk_alloc_at blk_alloc_old blk_drew blk_drewN blk_set_far blk_set_far' blk_grow setRow_alloc_at setRow_alloc_old setRow_drew setRow_drewN
set_option maxHeartbeats 1000000 in
theorem of_any (d : Nat) (hd : d ≤ 3) (k : Int) (hk : -9223372036854775808 ≤ k ∧ k ≤ 9223372036854775807) (X : World) :
    Calls Try.prog 10 #[.int .i64 d, .int .i64 k] X fun e X' => (∃ L X0 Y0, e = .returned (pg L X0 Y0)) ∧ Below X.heap.size X X' := by
  obtain ⟨A, eA⟩ : ∃ A, allV (d : Int) = A := ⟨_, rfl⟩
  have CP := Lib.hid (fun X => rpages_own (d : Int) X)
  have h3 := Lib.hid (three_all (d : Int))
  have hal := all_small (d : Int)
  have hpos : 1 ≤ (allV (d : Int)).length := PoI.count_pos hd
  rw [eA] at CP h3 hal hpos
  have hk1 := hk.1
  have hk2 := hk.2
  have hAp : (1 : Int) ≤ (A.length : Int) := by omega
  have CR : Hid (∀ W : World, Calls Try.prog 11 #[.int .i64 k, .int .i64 (A.length : Int)] W fun e w' => e = .returned (.int .i64 (k % (A.length : Int))) ∧ W = w') := Lib.hid fun W => round_any k (A.length : Int) W hk1 hk2 hAp (by omega)
  obtain ⟨r, hr, er⟩ : ∃ r : Nat, r < A.length ∧ k % (A.length : Int) = (r : Int) := ⟨(k % (A.length : Int)).toNat, by have := Int.emod_lt_of_pos k (show (0 : Int) < (A.length : Int) by omega); have := Int.emod_nonneg k (show (A.length : Int) ≠ 0 by omega); omega, by have := Int.emod_nonneg k (show (A.length : Int) ≠ 0 by omega); omega⟩
  rw [er] at CR
  have hA0 : ¬ ((A.length : Int) = 0) := by omega
  have t0 : ((A.length : Int) == 0) = false := beq_eq_false_iff_ne.2 hA0
  have hrA : (r : Int) < (A.length : Int) := by omega
  clear eA hk er hpos hAp
  go_enter Try.func10, Try.ntmps10
  go_wp2_with fail
  refine (CP.out _).mono ?_
  rintro e W ⟨⟨v5, rfl, hv5⟩, hb⟩
  obtain ⟨ga, ca, rfl, hca, -⟩ := Rd.owns_val hv5
  have HT : Hid (PgT W ga A) := Lib.hid (pgt_own hv5 h3.out)
  have L0 : Below X.heap.size X W := by repeat' (first | (with_reducible exact Below.refl _ _) | (with_reducible refine Rd.below_step ?_ (by assumption)) | (with_reducible refine Rd.below_alloc ?_ _) | (with_reducible refine Rd.below_drewN ?_ _) | (with_reducible refine Below.drew ?_) | (with_reducible refine Below.setCell ?_ ?_ _) | (with_reducible refine Rd.below_setRow ?_ ?_ _) | go_size | (simp only [World.size_alloc]; omega) | omega)
  have bR : blk W X.heap.size = some (.cells (cs .i64 [0, 0, 0]) 35 (0, 0)) := (blk_below hb _ (by simp)).trans (blk_alloc_at _ _ _ rfl)
  clear hb hv5 CP h3
  by_cases hm : k.tmod 23 = 22
  · go_wp2_with fail
    exact ret_pg1 rfl X.heap.size [9, 0, 0] rfl rfl (blk_setRow_of bR _) rfl ⟨⟨9, 0, 0, rfl⟩, by repeat' (first | (with_reducible exact Below.refl _ _) | (with_reducible refine Rd.below_step ?_ (by assumption)) | (with_reducible refine Rd.below_alloc ?_ _) | (with_reducible refine Rd.below_drewN ?_ _) | (with_reducible refine Below.drew ?_) | (with_reducible refine Below.setCell ?_ ?_ _) | (with_reducible refine Rd.below_setRow ?_ ?_ _) | go_size | (simp only [World.size_alloc]; omega) | omega)⟩
  · obtain ⟨x0, x1, x2, hx⟩ := HT.out.three hr
    obtain ⟨b, o, cur, ea, hgb, hgs, hpc⟩ := HT.out.at hr
    rw [hx] at hpc
    subst ea
    have hpc' : Mid.piece cur (o + r * 3) 3 = #[.int .i64 x0, .int .i64 x1, .int .i64 x2] := hpc
    clear hpc hx
    go_wp2_with fail
    refine (CR.out _).mono ?_
    rintro e _ ⟨rfl, rfl⟩
    go_wp2_with fail
    exact ret_pg1 rfl X.heap.size [x0, x1, x2] rfl rfl (blk_setRow_of bR _) rfl ⟨⟨x0, x1, x2, rfl⟩, by repeat' (first | (with_reducible exact Below.refl _ _) | (with_reducible refine Rd.below_step ?_ (by assumption)) | (with_reducible refine Rd.below_alloc ?_ _) | (with_reducible refine Rd.below_drewN ?_ _) | (with_reducible refine Below.drew ?_) | (with_reducible refine Below.setCell ?_ ?_ _) | (with_reducible refine Rd.below_setRow ?_ ?_ _) | go_size | (simp only [World.size_alloc]; omega) | omega)⟩
end Go.Proofs.Ytkklppjimnkibaa.PoX

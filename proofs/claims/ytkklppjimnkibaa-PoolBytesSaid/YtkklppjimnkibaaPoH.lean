/-
  A pool: Put.
  A pool: Put, where the oldest goes.
  A pool: Put, the rest.
  A pool: Put in the words of the document's row; New.
-/
import Derived.Test.YtkklppjimnkibaaPoC
import Derived.Test.YtkklppjimnkibaaPredT
import Derived.BigGuard
namespace Go.Proofs.Ytkklppjimnkibaa.PoE
open Go.RowKit Go.Shelf Rd Go.Proofs.Ytkklppjimnkibaa.Row Mid LrM LrA LrB LrP PgM PgA PgB PgN PoM PoA PoB
open Go.Proofs.Ytkklppjimnkibaa.PgC (three len3 eqL eq_pg3)
open Go.Proofs.Ytkklppjimnkibaa.PoD (us us_len By)
open Go.Proofs.Ytkklppjimnkibaa.Pred (Is is_stab Stab)
open It (get_lt)
open Go.Proofs.Ytkklppjimnkibaa.MpE (owns_mono)
set_option linter.unusedVariables false
set_option linter.unusedSimpArgs false
set_option maxRecDepth 10000
variable {X Y : World} {lo : Lo} {pb gw lb lg n d : Nat} {v : Value} {rs : List (List Value)} {o : List Nat} {pin : Nat → Bool} {wl : List Int} {Bb : Nat → Prop} {sl : List Ent} {R : List Ent}
attribute [local go_sem ↓] load_pg store_pg store_sl
theorem one_slice (a : Option Addr) (n c : Nat) : (Value.slice a n c).oneCell' = true := rfl
attribute [local go_sem] one_slice one_int pc3 run_load_pg run_store_pg run_store_sl midStore_eq midLoad_eq rowLoad_eq rowStore_eq blk_alloc_at blk_alloc_old blk_drew blk_drewN blk_set_far blk_set_far' blk_grow setRow_alloc_at setRow_alloc_old setRow_drew setRow_drewN
theorem yields_skip {ops : Array Oper} {o : Oper} {b : Act} {w w' : World} {R : Value → World → Prop} (hw : Region.wanted o (yielded ops b.tmps) = true) (hr : (execOp b.eval o).run Try.prog w = .ok .skip w') (h : R undef w') : Pred.yields Try.prog ops o b w R := by
  unfold Pred.yields
  rw [if_pos hw, hr]
  exact h
theorem owns_below {W W2 : World} {base : Nat} {e : TypeId} {size : Nat} {v : Value} {n : Nat} {xs : List Value} (h : W.ownsRow base e size v n xs) (hb : Below W.heap.size W W2) : W2.ownsRow base e size v n xs :=
  own_same h fun k hk => hb.block k (by obtain ⟨c, hc, _⟩ := own_pos' h hk; exact get_lt hc)
theorem below_zero {X Y : World} {row : Option Nat} (h : X.grownBy Y row) : Below 0 X Y := ⟨h.os, h.tape, h.output, h.size, fun k hk => absurd hk (by omega)⟩
theorem key_calls {d k : Nat} {L X0 Y0 : Int} (hk : keyV d L X0 Y0 = (k : Int)) (X : World) : Calls Try.prog 38 #[.int .i64 d, pg L X0 Y0] X fun e w' => e = .returned (.int .i64 (k : Int)) ∧ Below X.heap.size X w' := by
  rw [← hk]; exact key_any d L X0 Y0 X
theorem may_calls {L X0 Y0 : Int} {w : World} (h : PlR w lo pb gw lb lg n d v rs o pin wl) (hv : validB d L X0 Y0 = true) :
    Calls Try.prog 35 #[.pointer (some ⟨pb, 0, none⟩), pg L X0 Y0] w fun e w' => e = .returned (.bool true) ∧ Below w.heap.size w w' := by
  have := may_any L X0 Y0 w h
  rwa [hv] at this
theorem news_slot (w : World) : ∀ j u, z4[j]? = some u → (w.alloc (.cells #[.int .i64 0, .int .i64 0, .int .i64 0, .slice none 0 0] 83)).cell? (Addr.add ⟨w.heap.size, 0, none⟩ j) = some u := by
  intro j u hj
  have := news_of w #[.int .i64 0, .int .i64 0, .int .i64 0, .slice none 0 0] 83 j u hj
  exact this
theorem below_news (w : World) : Below w.heap.size w (w.alloc (.cells #[.int .i64 0, .int .i64 0, .int .i64 0, .slice none 0 0] 83)) := (Below.refl _ _).alloc (Nat.le_refl _) _
theorem stay2 {W : World} (h : PlR X lo pb gw lb lg n d v rs o pin wl) (hg : X.grownBy W v.ownBlock) : blk W pb = some (.cells #[.int .i64 d, .int .i64 n, v, .slice (some ⟨gw, 0, none⟩) wl.length wl.length, .pointer (some ⟨lb, 0, none⟩)] 71 (0, 0)) :=
  (hg.block pb h.lt fun e => by
    obtain ⟨c', hc', _⟩ := own_pos' h.r e.symm
    have := (show X.heap[pb]? = _ from h.p).symm.trans hc'
    injection this with this
    injection this with _ e2
    exact absurd e2 (by decide)).trans h.p
theorem reads_same {w Y : World} {ad : Addr} {n : Nat} {xs : List Value} (h : Reads w 1 (some ad) n xs) (hn : n ≠ 0) (hk : Y.heap[ad.block]? = w.heap[ad.block]?) : Reads Y 1 (some ad) n xs := by
  obtain ⟨h1, h2⟩ := h
  rcases h2 with h2 | ⟨b, off, e, hlt, hc⟩
  · exact absurd h2 hn
  · injection e with e
    subst e
    refine ⟨h1, .inr ⟨b, off, rfl, ?_, fun i hi => ?_⟩⟩
    · obtain ⟨o, ho⟩ : ∃ o, w.heap[b]? = some o := ⟨_, Array.getElem?_eq_getElem hlt⟩
      exact get_lt (hk.trans ho)
    · rw [← hc i hi]
      unfold World.cell?
      rw [show Y.heap[b]? = w.heap[b]? from hk]
/-- the bytes that come in -/
structure BIn (w : World) (ad : Addr) (b : List Int) : Prop where
  reads : Reads w 1 (some ad) 144 (us b)
  u8 : ∃ c fr, w.heap[ad.block]? = some (.cells c 5 fr)
theorem BIn.same {w Y : World} {ad : Addr} {b : List Int} (h : BIn w ad b) (hk : Y.heap[ad.block]? = w.heap[ad.block]?) : BIn Y ad b := by
  obtain ⟨c, fr, hc⟩ := h.u8
  exact ⟨reads_same h.reads (by decide) hk, c, fr, hk.trans hc⟩
theorem BIn.bel {w Y : World} {ad : Addr} {b : List Int} (h : BIn w ad b) (hb : Below w.heap.size w Y) : BIn Y ad b := by
  obtain ⟨c, fr, hc⟩ := h.u8
  exact h.same (hb.block _ (get_lt hc))
theorem BIn.pf {w Y : World} {ad : Addr} {b : List Int} (h : BIn w ad b) (hp : PlR w lo pb gw lb lg n d v rs o pin wl) (hf : PF lo gw w Y) : BIn Y ad b := by
  obtain ⟨c, fr, hc⟩ := h.u8
  exact h.same (hf.u8 hc (by decide) (hp.gw_int hc (by decide)))
theorem PF.page (h : PF lo gw X Y) (hp : PlR X lo pb gw lb lg n d v rs o pin wl) {k : Nat} {c : Array Value} (hk : blk X k = some (.cells c 35 (0, 0))) : blk Y k = some (.cells c 35 (0, 0)) :=
  (h.u8 hk (by decide) (hp.gw_int hk (by decide))).trans hk
theorem own_pf {u : Value} {k m : Nat} {xs : List Value} (hu : X.ownsRow k 5 1 u m xs) (hp : PlR X lo pb gw lb lg n d v rs o pin wl) (hf : PF lo gw X Y) : Y.ownsRow k 5 1 u m xs := own_same hu fun j hj => by
  obtain ⟨c, hc, _⟩ := own_pos' hu hj
  exact hf.u8 hc (by decide) (hp.gw_int hc (by decide))
theorem new_ok9 {v' : Value} (h : PlR X lo pb gw lb lg n d v rs o pin wl) (hb : v'.ownBlock = v.ownBlock ∨ v'.ownBlock = some X.heap.size) : ∀ k, v'.ownBlock = some k → lo.ok k := fun k hk => by
  rcases hb with e | e
  · exact h.rv k (e ▸ hk)
  · rw [e] at hk
    injection hk with hk
    subst hk
    have := h.hi
    unfold Lo.ok
    omega
set_option maxHeartbeats 4000000 in
theorem put_more (L X0 Y0 : Int) (k : Nat) (w : World) (ad : Addr) (c : Nat) (b : List Int) (hp : PlR w lo pb gw lb lg n d v rs o pin wl) (hv : validB d L X0 Y0 = true) (hk : keyV d L X0 Y0 = (k : Int)) (hkl : k < wl.length) (hw : wl.length ≤ 85) (hz : wl.getD k (-1) = -1) (hlt : rs.length < n) (hb : BIn w ad b) :
    Calls Try.prog 12 #[.pointer (some ⟨pb, 0, none⟩), pg L X0 Y0, .slice (some ad) 144 c] w fun e w' => ∃ v' u, e = .returned (.tuple #[.slice none 0 0, .int .i64 0]) ∧ PlR w' lo pb gw lb lg n d v' ((rs ++ [z4]).set rs.length (slotV [L, X0, Y0] u)) (touchL o rs.length) pin (wl.set k (rs.length : Int)) ∧ w'.ownsRow w.heap.size 5 1 u 144 (us b) ∧ PF lo gw w w' := by
  have HP := Lib.hid hp
  have hlow := PlR.low hp
  have CM := Lib.hid (fun (X : World) (hX : PlR X lo pb gw lb lg n d v rs o pin wl) => may_calls hX hv)
  have CS := Lib.hid (fun (X : World) (hX : PlR X lo pb gw lb lg n d v rs o pin wl) => slot_yes L X0 Y0 (-1) k X hX hv hk hkl hw hz)
  have CK := Lib.hid (fun X => key_calls hk X)
  have HB := Lib.hid hb
  have hn := hp.l.small.2
  obtain ⟨a9, c9, rfl, -⟩ := owns_val hp.r
  obtain ⟨i0, hi0, hz0, hz1, hz2⟩ := info_parts info_slot
  clear hp hv hk hz hb
  go_enter Try.func12, Try.ntmps12
  go_upto_region 1 with (fail)
  refine Rd.name_world ?_
  intro W0 hW
  have L0 : Below w.heap.size w W0 := by rw [hW]; repeat' (first | (with_reducible exact Below.refl _ _) | (with_reducible refine Rd.below_step ?_ (by assumption)) | (with_reducible refine Rd.below_alloc ?_ _) | (with_reducible refine Rd.below_drewN ?_ _) | (with_reducible refine Below.drew ?_) | (with_reducible refine Below.setCell ?_ ?_ _) | (with_reducible refine Rd.below_setRow ?_ ?_ _) | go_size | (simp only [World.size_alloc]; omega) | omega)
  have bP0 : blk W0 w.heap.size = some (.cells #[.int .i64 L, .int .i64 X0, .int .i64 Y0] 35 (0, 0)) := by rw [hW]; exact blk_alloc_at _ _ _ rfl
  clear hW
  go_wp2_with fail
  refine (CM.out _ (HP.out.bel L0)).mono ?_
  rintro e w1 ⟨rfl, hb1⟩
  have L1 : Below w.heap.size w w1 := by repeat' (first | (with_reducible exact Below.refl _ _) | (with_reducible refine Rd.below_step ?_ (by assumption)) | (with_reducible refine Rd.below_alloc ?_ _) | (with_reducible refine Rd.below_drewN ?_ _) | (with_reducible refine Below.drew ?_) | (with_reducible refine Below.setCell ?_ ?_ _) | (with_reducible refine Rd.below_setRow ?_ ?_ _) | go_size | (simp only [World.size_alloc]; omega) | omega)
  have bP1 := (blk_below hb1 _ (blk_lt bP0)).trans bP0
  clear hb1 L0 bP0
  go_wp2_with fail
  refine (CS.out _ (HP.out.bel L1)).mono ?_
  rintro e w2 ⟨rfl, hb2⟩
  have L2 : Below w.heap.size w w2 := by repeat' (first | (with_reducible exact Below.refl _ _) | (with_reducible refine Rd.below_step ?_ (by assumption)) | (with_reducible refine Rd.below_alloc ?_ _) | (with_reducible refine Rd.below_drewN ?_ _) | (with_reducible refine Below.drew ?_) | (with_reducible refine Below.setCell ?_ ?_ _) | (with_reducible refine Rd.below_setRow ?_ ?_ _) | go_size | (simp only [World.size_alloc]; omega) | omega)
  have bP2 := (blk_below hb2 _ (blk_lt bP1)).trans bP1
  have HP2 := Lib.hid (HP.out.bel L2)
  have c1 := HP2.out.c1
  have c2 := HP2.out.c2
  clear hb2 L1 bP1
  have hlt' : (rs.length : Int) < (n : Int) := by omega
  have c2f := blk_frozen HP2.out.p 2
  go_wp2_with (at_builtin; refine wpList_append_own_at _ rfl (.tmp 50) (.tmp 52) 69 rfl lo.n 83 i0 (.agg #[.int .i64 0, .int .i64 0, .int .i64 0, .slice none 0 0]) 4 48 Try.underlying69 hi0 hz0 hz1 hz2 rfl (by decide) _ _ _ rfl (HP2.out.r.alloc _) ⟨w2.heap.size, 0, none⟩ 1 1 z4 rfl rfl (news_slot w2) (by intro u hu; simp [z4] at hu; rcases hu with rfl | rfl <;> rfl) (by unfold maxLen; omega) (by omega) (by have := hlow.1; have := L2.size; simp; omega) ?_; intro v3 w3 hown3 hg3 he3 hb3; obtain ⟨a3, c3', rfl, -⟩ := owns_val hown3; have e2 := stay2 (HP2.out.bel (below_news w2)) hg3; have e2c : w3.cell? ⟨pb, 2, none⟩ = some (.slice a9 rs.length c9) := by { rw [blk_cell e2]; rfl }; have e2f := blk_frozen e2 2; have hv3 := new_ok9 (HP2.out.bel (below_news w2)) hb3)
  refine Rd.name_world ?_
  intro W4 hW
  obtain ⟨q1, q2⟩ : PlR W4 lo pb gw lb lg n d (.slice a3 (rs.length + 1) c3') (rs ++ [z4]) o pin wl ∧ PF lo gw (w2.alloc (.cells #[.int .i64 0, .int .i64 0, .int .i64 0, .slice none 0 0] 83)) W4 := by rw [hW]; exact PlR.more (HP2.out.bel (below_news w2)) hg3 rfl hown3 hv3
  have HP4 := Lib.hid q1
  have bN := (blk_below (below_news w2) _ (blk_lt bP2)).trans bP2
  have bP4 := PF.page q2 (HP2.out.bel (below_news w2)) bN
  have HB4 := Lib.hid (((HB.out.bel L2).bel (below_news w2)).pf (HP2.out.bel (below_news w2)) q2)
  have F4 : PF lo gw w W4 := (PF.of_below (L2.trans ((below_news w2).mono L2.size)) hlow).trans q2
  have hsz4 := F4.size
  clear hW q1 q2 hown3 hg3 he3 hb3 hv3 e2 e2c e2f c1 c2 c2f bP2 bN HP2 L2
  obtain ⟨g, cap, cur, ev, hlg, hgb, hgs, -, -⟩ := sl_at (i := rs.length) (pg := [0, 0, 0]) (u := .slice none 0 0) HP4.out.r HP4.out.r4 (by simp) (by simp; rfl)
  injection ev with ev1 ev2 ev3
  subst ev1
  subst ev3
  clear ev2
  refine PredT.region_of (W := W4) (0) (Nat.zero_le _) [10] [
      fun y9 => Below W4.heap.size W4 y9,
      fun y9 => ∃ u : Value, PlR y9 lo pb gw lb lg n d (.slice (some ⟨g, 0, none⟩) (rs.length + 1) c3') ((rs ++ [z4]).set (rs.length) (slotV [L, X0, Y0] u)) o pin wl ∧ y9.ownsRow W4.heap.size 5 1 u 144 (us b) ∧ PF lo gw W4 y9] [
      PredT.At 0 (.pointer (some ⟨pb, 0, none⟩)),
      PredT.At 0 (.pointer (some ⟨pb, 0, none⟩)),
      PredT.At 0 (.pointer (some ⟨pb, 2, none⟩)),
      PredT.At 0 (.slice (some ⟨g, 0, none⟩) (rs.length + 1) c3'),
      PredT.At 0 (.int .i64 ((rs.length : Nat) : Int)),
      PredT.At 0 (.agg #[.int .i64 L, .int .i64 X0, .int .i64 Y0]),
      PredT.At 0 (.slice (some ad) 144 c),
      PredT.When 0 (fun u y9 => y9.ownsRow W4.heap.size 5 1 u 144 (us b)),
      PredT.When 0 (fun x y9 => ∃ u : Value, x = .agg #[.int .i64 L, .int .i64 X0, .int .i64 Y0, u] ∧ y9.ownsRow W4.heap.size 5 1 u 144 (us b)),
      PredT.At 0 (.pointer (some ⟨g, rs.length * 4, none⟩)),
      PredT.At 0 undef] (by kernel_rfl) (by kernel_rfl) (by kernel_rfl) (by decide) (by decide) ?_ ?_ ?_ ?_ ?_ ?_
  · exact ⟨PredT.at_stab _ _ _ _, PredT.at_stab _ _ _ _, PredT.at_stab _ _ _ _, PredT.at_stab _ _ _ _, PredT.at_stab _ _ _ _, PredT.at_stab _ _ _ _, PredT.at_stab _ _ _ _, PredT.when_stab _ _ _ (fun u y y' h1 hb => owns_below h1 hb), PredT.when_stab _ _ _ (fun x y y' ⟨u, h0, h1⟩ hb => ⟨u, h0, owns_below h1 hb⟩), PredT.at_stab _ _ _ _, PredT.at_stab _ _ _ _, trivial⟩
  · intro q hq
    rcases List.mem_cons.1 hq with rfl | hq
    · exact fun y y' h hb => h.trans (hb.mono h.size)
    rcases List.mem_cons.1 hq with rfl | hq
    · exact fun y y' ⟨u, h1, h2, h3⟩ hb => ⟨u, h1.bel hb, owns_below h2 hb, h3.trans (PF.of_below hb (PlR.low h1))⟩
    cases hq
  · exact Below.refl _ _
  · refine ⟨.inr ?_, .inr ?_, .inr ?_, .inr ?_, .inr ?_, .inr ?_, .inr ?_, .inr ?_, .inr ?_, .inr ?_, .inl rfl, trivial⟩
    · intro b9 X ph hE hd hn hS hV hI hF
      have r0 : b9.tmps[0]?.getD undef = .pointer (some ⟨pb, 0, none⟩) := (hn 0 (by kernel_rfl)).trans rfl
      exact Pred.yields_run (v := .pointer (some ⟨pb, 0, none⟩)) (Pred.wanted_none rfl) (by go_simp) ⟨Below.refl _ _, rfl, Nat.zero_le _⟩
    · intro b9 X ph hE hd hn hS hV hI hF
      obtain ⟨r94, j94⟩ : PredT.At 0 (.pointer (some ⟨pb, 0, none⟩)) (b9.tmps[94]?.getD undef) X ph := hV 0 _ 94 rfl rfl (Pred.waits_near (by kernel_rfl) (by kernel_rfl))
      exact Pred.yields_run (v := .pointer (some ⟨pb, 0, none⟩)) (Pred.wanted_none rfl) (by go_simp) ⟨Below.refl _ _, rfl, Nat.zero_le _⟩
    · intro b9 X ph hE hd hn hS hV hI hF
      obtain ⟨r95, j95⟩ : PredT.At 0 (.pointer (some ⟨pb, 0, none⟩)) (b9.tmps[95]?.getD undef) X ph := hV 1 _ 95 rfl rfl (Pred.waits_near (by kernel_rfl) (by kernel_rfl))
      exact Pred.yields_run (v := .pointer (some ⟨pb, 2, none⟩)) (Pred.wanted_none rfl) (by go_simp) ⟨Below.refl _ _, rfl, Nat.zero_le _⟩
    · intro b9 X ph hE hd hn hS hV hI hF
      obtain ⟨r96, j96⟩ : PredT.At 0 (.pointer (some ⟨pb, 2, none⟩)) (b9.tmps[96]?.getD undef) X ph := hV 2 _ 96 rfl rfl (Pred.waits_near (by kernel_rfl) (by kernel_rfl))
      have hp0 : ph = 0 := Nat.le_zero.1 (hF 0 10 rfl (Pred.waits_near (by kernel_rfl) (by kernel_rfl)))
      subst hp0
      have hb0 : (fun y9 => Below W4.heap.size W4 y9) X := hS
      have z := (HP4.out.bel hb0).c2
      exact Pred.yields_run (v := .slice (some ⟨g, 0, none⟩) (rs.length + 1) c3') (Pred.wanted_none rfl) (by go_simp) ⟨Below.refl _ _, rfl, Nat.zero_le _⟩
    · intro b9 X ph hE hd hn hS hV hI hF
      have r9 : b9.tmps[9]?.getD undef = .int .i64 ((rs.length : Nat) : Int) := (hn 9 (by kernel_rfl)).trans rfl
      exact Pred.yields_run (v := .int .i64 ((rs.length : Nat) : Int)) (Pred.wanted_none rfl) (by go_simp) ⟨Below.refl _ _, rfl, Nat.zero_le _⟩
    · intro b9 X ph hE hd hn hS hV hI hF
      have r4 : b9.tmps[4]?.getD undef = .pointer (some ⟨w.heap.size, 0, none⟩) := (hn 4 (by kernel_rfl)).trans rfl
      have hp0 : ph = 0 := Nat.le_zero.1 (hF 0 10 rfl (Pred.waits_near (by kernel_rfl) (by kernel_rfl)))
      subst hp0
      have hb0 : (fun y9 => Below W4.heap.size W4 y9) X := hS
      have z := (blk_below hb0 _ (blk_lt bP4)).trans bP4
      exact Pred.yields_run (v := .agg #[.int .i64 L, .int .i64 X0, .int .i64 Y0]) (Pred.wanted_none rfl) (by go_simp) ⟨Below.refl _ _, rfl, Nat.zero_le _⟩
    · intro b9 X ph hE hd hn hS hV hI hF
      have r2 : b9.tmps[2]?.getD undef = .slice (some ad) 144 c := (hn 2 (by kernel_rfl)).trans rfl
      exact Pred.yields_run (v := .slice (some ad) 144 c) (Pred.wanted_none rfl) (by go_simp) ⟨Below.refl _ _, rfl, Nat.zero_le _⟩
    · intro b9 X ph hE hd hn hS hV hI hF
      obtain ⟨r100, j100⟩ : PredT.At 0 (.slice (some ad) 144 c) (b9.tmps[100]?.getD undef) X ph := hV 6 _ 100 rfl rfl (Pred.waits_near (by kernel_rfl) (by kernel_rfl))
      have hp0 : ph = 0 := Nat.le_zero.1 (hF 0 10 rfl (Pred.waits_near (by kernel_rfl) (by kernel_rfl)))
      subst hp0
      have hb0 : (fun y9 => Below W4.heap.size W4 y9) X := hS
      have hz9 := hb0.size
      refine Pred.yields_call (f := 36) (args := #[.slice (some ad) 144 c]) (Pred.wanted_none rfl) (by go_simp) ?_
      refine (clone_any ad 144 c b X (HB4.out.bel hb0).reads (by decide)).mono ?_
      rintro e w9 ⟨u, rfl, h1, h2⟩
      exact ⟨_, rfl, h2, Nat.zero_le _, fun _ => owns_mono h1 hz9⟩
    · intro b9 X ph hE hd hn hS hV hI hF
      obtain ⟨r99, j99⟩ : PredT.At 0 (.agg #[.int .i64 L, .int .i64 X0, .int .i64 Y0]) (b9.tmps[99]?.getD undef) X ph := hV 5 _ 99 rfl rfl (Pred.waits_near (by kernel_rfl) (by kernel_rfl))
      obtain ⟨j101, r101⟩ : PredT.When 0 (fun u y9 => y9.ownsRow W4.heap.size 5 1 u 144 (us b)) (b9.tmps[101]?.getD undef) X ph := hV 7 _ 101 rfl rfl (Pred.waits_near (by kernel_rfl) (by kernel_rfl))
      have hp0 : ph = 0 := Nat.le_zero.1 (hF 0 10 rfl (Pred.waits_near (by kernel_rfl) (by kernel_rfl)))
      subst hp0
      have hb0 : (fun y9 => Below W4.heap.size W4 y9) X := hS
      have hr1 := r101 rfl
      clear r101
      obtain ⟨u, hu⟩ : ∃ u, b9.tmps[101]?.getD undef = u := ⟨_, rfl⟩
      rw [hu] at hr1
      obtain ⟨au, cu, rfl, -⟩ := owns_val hr1
      exact Pred.yields_run (v := .agg #[.int .i64 L, .int .i64 X0, .int .i64 Y0, .slice au 144 cu]) (Pred.wanted_none rfl) (by clear hS hb0 hI hV hn hr1; go_simp) ⟨Below.refl _ _, Nat.zero_le _, fun _ => ⟨_, rfl, hr1⟩⟩
    · intro b9 X ph hE hd hn hS hV hI hF
      obtain ⟨r97, j97⟩ : PredT.At 0 (.slice (some ⟨g, 0, none⟩) (rs.length + 1) c3') (b9.tmps[97]?.getD undef) X ph := hV 3 _ 97 rfl rfl (Pred.waits_near (by kernel_rfl) (by kernel_rfl))
      obtain ⟨r98, j98⟩ : PredT.At 0 (.int .i64 ((rs.length : Nat) : Int)) (b9.tmps[98]?.getD undef) X ph := hV 4 _ 98 rfl rfl (Pred.waits_near (by kernel_rfl) (by kernel_rfl))
      have h8 : (0 : Int) ≤ ((rs.length : Nat) : Int) := by omega
      have h9 : ((rs.length : Nat) : Int) < ((rs.length + 1 : Nat) : Int) := by omega
      exact Pred.yields_run (v := .pointer (some ⟨g, rs.length * 4, none⟩)) (Pred.wanted_none rfl) (by go_simp <;> (intro h; exfalso; omega)) ⟨Below.refl _ _, rfl, Nat.zero_le _⟩
  · refine ⟨?_, trivial⟩
    · refine ⟨_, rfl, fun k hk => (by cases hk), fun b9 X hE hd hn hS hV hI => ?_⟩
      obtain ⟨r103, j103⟩ : PredT.At 0 (.pointer (some ⟨g, rs.length * 4, none⟩)) (b9.tmps[103]?.getD undef) X 0 := hV 9 _ 103 rfl rfl (Pred.waits_near (by kernel_rfl) (by kernel_rfl))
      obtain ⟨j102, r102⟩ : PredT.When 0 (fun x y9 => ∃ u : Value, x = .agg #[.int .i64 L, .int .i64 X0, .int .i64 Y0, u] ∧ y9.ownsRow W4.heap.size 5 1 u 144 (us b)) (b9.tmps[102]?.getD undef) X 0 := hV 8 _ 102 rfl rfl (Pred.waits_near (by kernel_rfl) (by kernel_rfl))
      replace hS : (fun y9 => Below W4.heap.size W4 y9) X := hS
      have hb1 : (fun y9 => Below W4.heap.size W4 y9) X := hS
      obtain ⟨u, hu0, hr1⟩ := r102 rfl
      clear r102
      obtain ⟨au, cu, rfl, -⟩ := owns_val hr1
      have hg9 := (blk_below hb1 _ (blk_lt hgb)).trans hgb
      obtain ⟨hs1, hs2, hs3⟩ := PlR.set_slot (i := rs.length) (x := slotV [L, X0, Y0] (.slice au 144 cu)) (HP4.out.bel hb1) (by first | assumption | (simp; try omega)) rfl rfl hg9
      have hf0 : PF lo gw W4 X := PF.of_below hb1 (PlR.low HP4.out)
      refine yields_skip (w' := X.setRow g (pasteL cur.toList (rs.length * 4) (slotV [L, X0, Y0] (.slice au 144 cu))).toArray) (Pred.wanted_none rfl) (by clear hS hb1 hI hV hn hr1 hs1 hs2 hs3 hf0; have e9 : (slotV [L, X0, Y0] (.slice au 144 cu)) = [.int .i64 L, .int .i64 X0, .int .i64 Y0, .slice au 144 cu] := rfl; rw [e9]; go_simp) ⟨below_zero hs3, ⟨_, hs1, own_pf hr1 (HP4.out.bel hb1) hs2, hf0.trans hs2⟩, rfl, Nat.zero_le _⟩
  intro v X hE hS hv
  replace hS : (fun y9 => ∃ u : Value, PlR y9 lo pb gw lb lg n d (.slice (some ⟨g, 0, none⟩) (rs.length + 1) c3') ((rs ++ [z4]).set (rs.length) (slotV [L, X0, Y0] u)) o pin wl ∧ y9.ownsRow W4.heap.size 5 1 u 144 (us b) ∧ PF lo gw W4 y9) X := hS
  have e0 : v 0 = .pointer (some ⟨pb, 0, none⟩) := (hv 0 _ 94 rfl rfl).1
  have e1 : v 1 = .pointer (some ⟨pb, 0, none⟩) := (hv 1 _ 95 rfl rfl).1
  have e2 : v 2 = .pointer (some ⟨pb, 2, none⟩) := (hv 2 _ 96 rfl rfl).1
  have e3 : v 3 = .slice (some ⟨g, 0, none⟩) (rs.length + 1) c3' := (hv 3 _ 97 rfl rfl).1
  have e4 : v 4 = .int .i64 ((rs.length : Nat) : Int) := (hv 4 _ 98 rfl rfl).1
  have e5 : v 5 = .agg #[.int .i64 L, .int .i64 X0, .int .i64 Y0] := (hv 5 _ 99 rfl rfl).1
  have e6 : v 6 = .slice (some ad) 144 c := (hv 6 _ 100 rfl rfl).1
  generalize hg7 : v 7 = vv7
  generalize hg8 : v 8 = vv8
  have e9 : v 9 = .pointer (some ⟨g, rs.length * 4, none⟩) := (hv 9 _ 103 rfl rfl).1
  simp only [Pred.putsF_cons, Pred.putsF_nil, Nat.zero_add, Nat.reduceAdd, e0, e1, e2, e3, e4, e5, e6, hg7, hg8, e9, Act.put, List.setIfInBounds_toArray, List.set_cons_zero, List.set_cons_succ]
  clear e0 e1 e2 e3 e4 e5 e6 hg7 hg8 e9 hv
  obtain ⟨u, u1, u2, u3⟩ := hS
  have HP5 := Lib.hid u1
  have HU5 := Lib.hid (owns_mono u2 hsz4)
  have bP5 := PF.page u3 HP4.out bP4
  have F5 := F4.trans u3
  clear HP4 HB4 bP4 hsz4 hgb hgs hE u1 u2 u3 F4
  rename World => W5
  have g0 := Go.cell_regrown HP5.out.c0
  have g3 := Go.cell_regrown HP5.out.c3
  have gP := blk_regrown bP5
  go_upto_region 17 with (fail)
  (refine Reg.below_tail 12 (by kernel_rfl) (by kernel_rfl) ?_; simp only [List.take_succ_cons, List.take_zero, List.drop_succ_cons, List.drop_zero]; (repeat (go_big_quiet_step (((with_reducible exact Calls.regrown_of (CK.out _)))))); refine wpQuiet_nil ?_)
  intro w6 hU
  have KU := Rd.below_of_regrown hU
  have HP6 := Lib.hid (HP5.out.bel KU)
  have HU6 := Lib.hid (owns_below HU5.out KU)
  have F6 := F5.trans (PF.of_below KU (PlR.low HP5.out))
  clear hU KU g0 g3 gP bP5 HP5 HU5 F5
  have cw := HP6.out.cw hkl
  have fw := blk_frozen HP6.out.w k
  go_upto_region 18 with (fail)
  refine Rd.name_world ?_
  intro W7 hW7
  obtain ⟨q1, q2⟩ : PlR W7 lo pb gw lb lg n d _ _ o pin (wl.set k ((rs.length : Nat) : Int)) ∧ PF lo gw w6 W7 := by rw [hW7]; exact PlR.set_w HP6.out k _
  have HP7 := Lib.hid q1
  have HU7 := Lib.hid (own_pf HU6.out HP6.out q2)
  have F7 := F6.trans q2
  clear hW7 q1 q2 cw fw HP6 HU6 F6
  have c4 := HP7.out.c4
  go_wp2_with fail
  refine (touch_yes (rs.length) _ HP7.out.l (by omega)).mono ?_
  rintro e w8 ⟨rfl, h8, g8⟩
  obtain ⟨r1, r2⟩ := PlR.touched HP7.out h8 g8
  have HP8 := Lib.hid r1
  have HU8 := Lib.hid (own_pf HU7.out HP7.out r2)
  have F8 := F7.trans r2
  clear r1 r2 h8 g8 HP7 HU7 F7 c4
  go_wp2
  go_ret2
  exact ⟨_, _, rfl, HP8.out, HU8.out, F8⟩
end Go.Proofs.Ytkklppjimnkibaa.PoE

namespace Go.Proofs.Ytkklppjimnkibaa.PoF
open Go.RowKit Go.Shelf Rd Go.Proofs.Ytkklppjimnkibaa.Row Mid LrM LrA LrB LrP PgM PgA PgB PgN PoM PoA PoB PoE
open Go.Proofs.Ytkklppjimnkibaa.PgC (three len3 eqL eq_pg3)
open Go.Proofs.Ytkklppjimnkibaa.PoD (us us_len By)
open Go.Proofs.Ytkklppjimnkibaa.Pred (Is is_stab Stab)
open It (get_lt)
open Go.Proofs.Ytkklppjimnkibaa.MpE (owns_mono)
set_option linter.unusedVariables false
set_option linter.unusedSimpArgs false
set_option maxRecDepth 10000
variable {X Y : World} {lo : Lo} {pb gw lb lg n d : Nat} {v : Value} {rs : List (List Value)} {o : List Nat} {pin : Nat → Bool} {wl : List Int} {Bb : Nat → Prop} {sl : List Ent} {R : List Ent}
attribute [local go_sem ↓] load_pg store_pg store_sl
attribute [local go_sem] one_slice one_int pc3 run_load_pg run_store_pg run_store_sl midStore_eq midLoad_eq rowLoad_eq rowStore_eq blk_alloc_at blk_alloc_old blk_drew blk_drewN blk_set_far blk_set_far' blk_grow setRow_alloc_at setRow_alloc_old setRow_drew setRow_drewN
set_option maxHeartbeats 4000000 in
theorem put_goes (L X0 Y0 P0 P1 P2 : Int) (k k' i : Nat) (u0 : Value) (w : World) (ad : Addr) (c : Nat) (b : List Int) (hp : PlR w lo pb gw lb lg n d v rs o pin wl) (hv : validB d L X0 Y0 = true) (hk : keyV d L X0 Y0 = (k : Int)) (hkl : k < wl.length) (hw : wl.length ≤ 85) (hz : wl.getD k (-1) = -1) (hnl : ¬ rs.length < n) (hol : oldO o pin = some i) (hi : i < rs.length) (hin : i < n) (hs : rs.getD i [] = slotV [P0, P1, P2] u0) (hk' : keyV d P0 P1 P2 = (k' : Int)) (hkl' : k' < wl.length) (hb : BIn w ad b) :
    Calls Try.prog 12 #[.pointer (some ⟨pb, 0, none⟩), pg L X0 Y0, .slice (some ad) 144 c] w fun e w' => ∃ gg u, e = .returned (.tuple #[.slice (some ⟨gg, 0, none⟩) 1 1, .int .i64 0]) ∧ blk w' gg = some (.cells #[.int .i64 P0, .int .i64 P1, .int .i64 P2] 35 (0, 0)) ∧ PlR w' lo pb gw lb lg n d v (rs.set i (slotV [L, X0, Y0] u)) (touchL o i) pin ((wl.set k' (-1)).set k (i : Int)) ∧ w'.ownsRow w.heap.size 5 1 u 144 (us b) ∧ PF lo gw w w' := by
  have HP := Lib.hid hp
  have hlow := PlR.low hp
  have CM := Lib.hid (fun (X : World) (hX : PlR X lo pb gw lb lg n d v rs o pin wl) => may_calls hX hv)
  have CS := Lib.hid (fun (X : World) (hX : PlR X lo pb gw lb lg n d v rs o pin wl) => slot_yes L X0 Y0 (-1) k X hX hv hk hkl hw hz)
  have CK := Lib.hid (fun X => key_calls hk X)
  have CK' := Lib.hid (fun X => key_calls hk' X)
  have CO : Hid (∀ X, St X lb lg n o pin → Calls Try.prog 37 #[.pointer (some ⟨lb, 0, none⟩)] X fun e w' => e = .returned (.tuple #[.int .i64 (i : Nat), .bool true]) ∧ Below X.heap.size X w') := Lib.hid fun X hX => by
    have := oldest_st X hX
    rw [hol] at this
    exact this
  have HB := Lib.hid hb
  have HS := Lib.hid hs
  have hn := hp.l.small.2
  obtain ⟨g, cap, cur, rfl, -, -, -, -, -⟩ := sl_at hp.r hp.r4 hi hs
  clear hp hv hk hk' hz hb hol hs cur
  go_enter Try.func12, Try.ntmps12
  go_upto_region 1 with (fail)
  refine Rd.name_world ?_
  intro W0 hW
  have L0 : Below w.heap.size w W0 := by rw [hW]; repeat' (first | (with_reducible exact Below.refl _ _) | (with_reducible refine Rd.below_step ?_ (by assumption)) | (with_reducible refine Rd.below_alloc ?_ _) | (with_reducible refine Rd.below_drewN ?_ _) | (with_reducible refine Below.drew ?_) | (with_reducible refine Below.setCell ?_ ?_ _) | (with_reducible refine Rd.below_setRow ?_ ?_ _) | go_size | (simp only [World.size_alloc]; omega) | omega)
  have bP0 : blk W0 w.heap.size = some (.cells #[.int .i64 L, .int .i64 X0, .int .i64 Y0] 35 (0, 0)) := by rw [hW]; exact blk_alloc_at _ _ _ rfl
  clear hW
  go_wp2_with fail
  refine (CM.out _ (HP.out.bel L0)).mono ?_
  rintro e w1 ⟨rfl, hb1⟩
  have L1 : Below w.heap.size w w1 := by repeat' (first | (with_reducible exact Below.refl _ _) | (with_reducible refine Rd.below_step ?_ (by assumption)) | (with_reducible refine Rd.below_alloc ?_ _) | (with_reducible refine Rd.below_drewN ?_ _) | (with_reducible refine Below.drew ?_) | (with_reducible refine Below.setCell ?_ ?_ _) | (with_reducible refine Rd.below_setRow ?_ ?_ _) | go_size | (simp only [World.size_alloc]; omega) | omega)
  have bP1 := (blk_below hb1 _ (blk_lt bP0)).trans bP0
  clear hb1 L0 bP0
  go_wp2_with fail
  refine (CS.out _ (HP.out.bel L1)).mono ?_
  rintro e w2 ⟨rfl, hb2⟩
  have L2 : Below w.heap.size w w2 := by repeat' (first | (with_reducible exact Below.refl _ _) | (with_reducible refine Rd.below_step ?_ (by assumption)) | (with_reducible refine Rd.below_alloc ?_ _) | (with_reducible refine Rd.below_drewN ?_ _) | (with_reducible refine Below.drew ?_) | (with_reducible refine Below.setCell ?_ ?_ _) | (with_reducible refine Rd.below_setRow ?_ ?_ _) | go_size | (simp only [World.size_alloc]; omega) | omega)
  have bP2 := (blk_below hb2 _ (blk_lt bP1)).trans bP1
  have HP2 := Lib.hid (HP.out.bel L2)
  have c1 := HP2.out.c1
  have c2 := HP2.out.c2
  have c4 := HP2.out.c4
  clear hb2 L1 bP1
  have hlt' : ¬ (rs.length : Int) < (n : Int) := by omega
  go_wp2_with fail
  refine (CO.out _ HP2.out.l).mono ?_
  rintro e w3 ⟨rfl, hb3⟩
  have L3 : Below w.heap.size w w3 := by repeat' (first | (with_reducible exact Below.refl _ _) | (with_reducible refine Rd.below_step ?_ (by assumption)) | (with_reducible refine Rd.below_alloc ?_ _) | (with_reducible refine Rd.below_drewN ?_ _) | (with_reducible refine Below.drew ?_) | (with_reducible refine Below.setCell ?_ ?_ _) | (with_reducible refine Rd.below_setRow ?_ ?_ _) | go_size | (simp only [World.size_alloc]; omega) | omega)
  have bP3 := (blk_below hb3 _ (blk_lt bP2)).trans bP2
  have HP3 := Lib.hid (HP2.out.bel hb3)
  clear hb3 L2 bP2 HP2 c1 c2 c4
  have c2 := HP3.out.c2
  obtain ⟨g9, cap9, cur, ev, -, hgb, hgs, hpc, -⟩ := sl_at HP3.out.r HP3.out.r4 hi HS.out
  injection ev with ev1 ev2 ev3
  injection ev1 with ev1
  injection ev1 with ev1
  subst ev1
  clear ev2 ev3
  have hi3 : i * 4 + 3 ≤ cur.size := by omega
  have hii : (i : Int) < (rs.length : Int) := by omega
  have hpc' : Mid.piece cur (i * 4) 3 = #[.int .i64 P0, .int .i64 P1, .int .i64 P2] := hpc
  clear hpc
  go_upto_region 15 with (fail)
  refine Rd.name_world ?_
  intro W9 hW
  have hb9 : Below w3.heap.size w3 W9 := by rw [hW]; repeat' (first | (with_reducible exact Below.refl _ _) | (with_reducible refine Rd.below_step ?_ (by assumption)) | (with_reducible refine Rd.below_alloc ?_ _) | (with_reducible refine Rd.below_drewN ?_ _) | (with_reducible refine Below.drew ?_) | (with_reducible refine Below.setCell ?_ ?_ _) | (with_reducible refine Rd.below_setRow ?_ ?_ _) | go_size | (simp only [World.size_alloc]; omega) | omega)
  have bG9 : blk W9 w3.heap.size = some (.cells #[.int .i64 P0, .int .i64 P1, .int .i64 P2] 35 (0, 0)) := by rw [hW]; exact blk_alloc_at _ _ _ rfl
  have L9 := Rd.below_step L3 hb9
  have HP9 := Lib.hid (HP3.out.bel hb9)
  have bP9 := (blk_below hb9 _ (blk_lt bP3)).trans bP3
  have hgb9 := (blk_below hb9 _ (blk_lt hgb)).trans hgb
  clear hW hb9 L3 HP3 bP3 hgb c2
  have g0 := Go.cell_regrown HP9.out.c0
  have g2 := Go.cell_regrown HP9.out.c2
  have g3 := Go.cell_regrown HP9.out.c3
  have gG := blk_regrown hgb9
  (refine Reg.below_tail 18 (by kernel_rfl) (by kernel_rfl) ?_; simp only [List.take_succ_cons, List.take_zero, List.drop_succ_cons, List.drop_zero]; (repeat (go_big_quiet_step (((with_reducible exact Calls.regrown_of (CK'.out _)))))); refine wpQuiet_nil ?_)
  intro w10 hU
  have KU := Rd.below_of_regrown hU
  have L10 := Rd.below_step L9 KU
  have HP10 := Lib.hid (HP9.out.bel KU)
  have bP10 := (blk_below KU _ (blk_lt bP9)).trans bP9
  have bG10 := (blk_below KU _ (blk_lt bG9)).trans bG9
  clear hU KU g0 g2 g3 gG bP9 bG9 L9 HP9 hgb9
  have cw := HP10.out.cw hkl'
  have fw := blk_frozen HP10.out.w k'
  go_upto_region 16 with (fail)
  refine Rd.name_world ?_
  intro W4 hW
  obtain ⟨q1, q2⟩ : PlR W4 lo pb gw lb lg n d (.slice (some ⟨g, 0, none⟩) rs.length cap) rs o pin (wl.set k' (-1)) ∧ PF lo gw w10 W4 := by rw [hW]; exact PlR.set_w HP10.out k' _
  have bP4 := PF.page q2 HP10.out bP10
  have bG4 := PF.page q2 HP10.out bG10
  have HB4 := Lib.hid ((HB.out.bel L10).pf HP10.out q2)
  have F4 : PF lo gw w W4 := (PF.of_below L10 hlow).trans q2
  have hsz4 := F4.size
  obtain ⟨wl2, ewl⟩ : ∃ x, wl.set k' (-1) = x := ⟨_, rfl⟩
  have hkl2 : k < wl2.length := by rw [← ewl, List.length_set]; exact hkl
  rw [ewl] at q1
  have EW := Lib.hid ewl
  have HP4 := Lib.hid q1
  clear hW q1 q2 cw fw HP10 bP10 bG10 L10 hpc' hi3 hgs ewl hkl cur
  obtain ⟨g9, cap9, cur, ev, -, hgb, hgs, -, -⟩ := sl_at HP4.out.r HP4.out.r4 hi HS.out
  injection ev with ev1 ev2 ev3
  injection ev1 with ev1
  injection ev1 with ev1
  subst ev1
  clear ev2 ev3
  refine PredT.region_of (W := W4) (0) (Nat.zero_le _) [10] [
      fun y9 => Below W4.heap.size W4 y9,
      fun y9 => ∃ u : Value, PlR y9 lo pb gw lb lg n d (.slice (some ⟨g, 0, none⟩) (rs.length) cap) ((rs).set (i) (slotV [L, X0, Y0] u)) o pin wl2 ∧ y9.ownsRow W4.heap.size 5 1 u 144 (us b) ∧ PF lo gw W4 y9] [
      PredT.At 0 (.pointer (some ⟨pb, 0, none⟩)),
      PredT.At 0 (.pointer (some ⟨pb, 0, none⟩)),
      PredT.At 0 (.pointer (some ⟨pb, 2, none⟩)),
      PredT.At 0 (.slice (some ⟨g, 0, none⟩) (rs.length) cap),
      PredT.At 0 (.int .i64 ((i : Nat) : Int)),
      PredT.At 0 (.agg #[.int .i64 L, .int .i64 X0, .int .i64 Y0]),
      PredT.At 0 (.slice (some ad) 144 c),
      PredT.When 0 (fun u y9 => y9.ownsRow W4.heap.size 5 1 u 144 (us b)),
      PredT.When 0 (fun x y9 => ∃ u : Value, x = .agg #[.int .i64 L, .int .i64 X0, .int .i64 Y0, u] ∧ y9.ownsRow W4.heap.size 5 1 u 144 (us b)),
      PredT.At 0 (.pointer (some ⟨g, i * 4, none⟩)),
      PredT.At 0 undef] (by kernel_rfl) (by kernel_rfl) (by kernel_rfl) (by decide) (by decide) ?_ ?_ ?_ ?_ ?_ ?_
  · exact ⟨PredT.at_stab _ _ _ _, PredT.at_stab _ _ _ _, PredT.at_stab _ _ _ _, PredT.at_stab _ _ _ _, PredT.at_stab _ _ _ _, PredT.at_stab _ _ _ _, PredT.at_stab _ _ _ _, PredT.when_stab _ _ _ (fun u y y' h1 hb => owns_below h1 hb), PredT.when_stab _ _ _ (fun x y y' ⟨u, h0, h1⟩ hb => ⟨u, h0, owns_below h1 hb⟩), PredT.at_stab _ _ _ _, PredT.at_stab _ _ _ _, trivial⟩
  · intro q hq
    rcases List.mem_cons.1 hq with rfl | hq
    · exact fun y y' h hb => h.trans (hb.mono h.size)
    rcases List.mem_cons.1 hq with rfl | hq
    · exact fun y y' ⟨u, h1, h2, h3⟩ hb => ⟨u, h1.bel hb, owns_below h2 hb, h3.trans (PF.of_below hb (PlR.low h1))⟩
    cases hq
  · exact Below.refl _ _
  · refine ⟨.inr ?_, .inr ?_, .inr ?_, .inr ?_, .inr ?_, .inr ?_, .inr ?_, .inr ?_, .inr ?_, .inr ?_, .inl rfl, trivial⟩
    · intro b9 X ph hE hd hn hS hV hI hF
      have r0 : b9.tmps[0]?.getD undef = .pointer (some ⟨pb, 0, none⟩) := (hn 0 (by kernel_rfl)).trans rfl
      exact Pred.yields_run (v := .pointer (some ⟨pb, 0, none⟩)) (Pred.wanted_none rfl) (by go_simp) ⟨Below.refl _ _, rfl, Nat.zero_le _⟩
    · intro b9 X ph hE hd hn hS hV hI hF
      obtain ⟨r94, j94⟩ : PredT.At 0 (.pointer (some ⟨pb, 0, none⟩)) (b9.tmps[94]?.getD undef) X ph := hV 0 _ 94 rfl rfl (Pred.waits_near (by kernel_rfl) (by kernel_rfl))
      exact Pred.yields_run (v := .pointer (some ⟨pb, 0, none⟩)) (Pred.wanted_none rfl) (by go_simp) ⟨Below.refl _ _, rfl, Nat.zero_le _⟩
    · intro b9 X ph hE hd hn hS hV hI hF
      obtain ⟨r95, j95⟩ : PredT.At 0 (.pointer (some ⟨pb, 0, none⟩)) (b9.tmps[95]?.getD undef) X ph := hV 1 _ 95 rfl rfl (Pred.waits_near (by kernel_rfl) (by kernel_rfl))
      exact Pred.yields_run (v := .pointer (some ⟨pb, 2, none⟩)) (Pred.wanted_none rfl) (by go_simp) ⟨Below.refl _ _, rfl, Nat.zero_le _⟩
    · intro b9 X ph hE hd hn hS hV hI hF
      obtain ⟨r96, j96⟩ : PredT.At 0 (.pointer (some ⟨pb, 2, none⟩)) (b9.tmps[96]?.getD undef) X ph := hV 2 _ 96 rfl rfl (Pred.waits_near (by kernel_rfl) (by kernel_rfl))
      have hp0 : ph = 0 := Nat.le_zero.1 (hF 0 10 rfl (Pred.waits_near (by kernel_rfl) (by kernel_rfl)))
      subst hp0
      have hb0 : (fun y9 => Below W4.heap.size W4 y9) X := hS
      have z := (HP4.out.bel hb0).c2
      exact Pred.yields_run (v := .slice (some ⟨g, 0, none⟩) (rs.length) cap) (Pred.wanted_none rfl) (by go_simp) ⟨Below.refl _ _, rfl, Nat.zero_le _⟩
    · intro b9 X ph hE hd hn hS hV hI hF
      have r9 : b9.tmps[9]?.getD undef = .int .i64 ((i : Nat) : Int) := (hn 9 (by kernel_rfl)).trans rfl
      exact Pred.yields_run (v := .int .i64 ((i : Nat) : Int)) (Pred.wanted_none rfl) (by go_simp) ⟨Below.refl _ _, rfl, Nat.zero_le _⟩
    · intro b9 X ph hE hd hn hS hV hI hF
      have r4 : b9.tmps[4]?.getD undef = .pointer (some ⟨w.heap.size, 0, none⟩) := (hn 4 (by kernel_rfl)).trans rfl
      have hp0 : ph = 0 := Nat.le_zero.1 (hF 0 10 rfl (Pred.waits_near (by kernel_rfl) (by kernel_rfl)))
      subst hp0
      have hb0 : (fun y9 => Below W4.heap.size W4 y9) X := hS
      have z := (blk_below hb0 _ (blk_lt bP4)).trans bP4
      exact Pred.yields_run (v := .agg #[.int .i64 L, .int .i64 X0, .int .i64 Y0]) (Pred.wanted_none rfl) (by go_simp) ⟨Below.refl _ _, rfl, Nat.zero_le _⟩
    · intro b9 X ph hE hd hn hS hV hI hF
      have r2 : b9.tmps[2]?.getD undef = .slice (some ad) 144 c := (hn 2 (by kernel_rfl)).trans rfl
      exact Pred.yields_run (v := .slice (some ad) 144 c) (Pred.wanted_none rfl) (by go_simp) ⟨Below.refl _ _, rfl, Nat.zero_le _⟩
    · intro b9 X ph hE hd hn hS hV hI hF
      obtain ⟨r100, j100⟩ : PredT.At 0 (.slice (some ad) 144 c) (b9.tmps[100]?.getD undef) X ph := hV 6 _ 100 rfl rfl (Pred.waits_near (by kernel_rfl) (by kernel_rfl))
      have hp0 : ph = 0 := Nat.le_zero.1 (hF 0 10 rfl (Pred.waits_near (by kernel_rfl) (by kernel_rfl)))
      subst hp0
      have hb0 : (fun y9 => Below W4.heap.size W4 y9) X := hS
      have hz9 := hb0.size
      refine Pred.yields_call (f := 36) (args := #[.slice (some ad) 144 c]) (Pred.wanted_none rfl) (by go_simp) ?_
      refine (clone_any ad 144 c b X (HB4.out.bel hb0).reads (by decide)).mono ?_
      rintro e w9 ⟨u, rfl, h1, h2⟩
      exact ⟨_, rfl, h2, Nat.zero_le _, fun _ => owns_mono h1 hz9⟩
    · intro b9 X ph hE hd hn hS hV hI hF
      obtain ⟨r99, j99⟩ : PredT.At 0 (.agg #[.int .i64 L, .int .i64 X0, .int .i64 Y0]) (b9.tmps[99]?.getD undef) X ph := hV 5 _ 99 rfl rfl (Pred.waits_near (by kernel_rfl) (by kernel_rfl))
      obtain ⟨j101, r101⟩ : PredT.When 0 (fun u y9 => y9.ownsRow W4.heap.size 5 1 u 144 (us b)) (b9.tmps[101]?.getD undef) X ph := hV 7 _ 101 rfl rfl (Pred.waits_near (by kernel_rfl) (by kernel_rfl))
      have hp0 : ph = 0 := Nat.le_zero.1 (hF 0 10 rfl (Pred.waits_near (by kernel_rfl) (by kernel_rfl)))
      subst hp0
      have hb0 : (fun y9 => Below W4.heap.size W4 y9) X := hS
      have hr1 := r101 rfl
      clear r101
      obtain ⟨u, hu⟩ : ∃ u, b9.tmps[101]?.getD undef = u := ⟨_, rfl⟩
      rw [hu] at hr1
      obtain ⟨au, cu, rfl, -⟩ := owns_val hr1
      exact Pred.yields_run (v := .agg #[.int .i64 L, .int .i64 X0, .int .i64 Y0, .slice au 144 cu]) (Pred.wanted_none rfl) (by clear hS hb0 hI hV hn hr1; go_simp) ⟨Below.refl _ _, Nat.zero_le _, fun _ => ⟨_, rfl, hr1⟩⟩
    · intro b9 X ph hE hd hn hS hV hI hF
      obtain ⟨r97, j97⟩ : PredT.At 0 (.slice (some ⟨g, 0, none⟩) (rs.length) cap) (b9.tmps[97]?.getD undef) X ph := hV 3 _ 97 rfl rfl (Pred.waits_near (by kernel_rfl) (by kernel_rfl))
      obtain ⟨r98, j98⟩ : PredT.At 0 (.int .i64 ((i : Nat) : Int)) (b9.tmps[98]?.getD undef) X ph := hV 4 _ 98 rfl rfl (Pred.waits_near (by kernel_rfl) (by kernel_rfl))
      have h8 : (0 : Int) ≤ ((i : Nat) : Int) := by omega
      have h9 : ((i : Nat) : Int) < ((rs.length : Nat) : Int) := by omega
      exact Pred.yields_run (v := .pointer (some ⟨g, i * 4, none⟩)) (Pred.wanted_none rfl) (by go_simp <;> (intro h; exfalso; omega)) ⟨Below.refl _ _, rfl, Nat.zero_le _⟩
  · refine ⟨?_, trivial⟩
    · refine ⟨_, rfl, fun k hk => (by cases hk), fun b9 X hE hd hn hS hV hI => ?_⟩
      obtain ⟨r103, j103⟩ : PredT.At 0 (.pointer (some ⟨g, i * 4, none⟩)) (b9.tmps[103]?.getD undef) X 0 := hV 9 _ 103 rfl rfl (Pred.waits_near (by kernel_rfl) (by kernel_rfl))
      obtain ⟨j102, r102⟩ : PredT.When 0 (fun x y9 => ∃ u : Value, x = .agg #[.int .i64 L, .int .i64 X0, .int .i64 Y0, u] ∧ y9.ownsRow W4.heap.size 5 1 u 144 (us b)) (b9.tmps[102]?.getD undef) X 0 := hV 8 _ 102 rfl rfl (Pred.waits_near (by kernel_rfl) (by kernel_rfl))
      replace hS : (fun y9 => Below W4.heap.size W4 y9) X := hS
      have hb1 : (fun y9 => Below W4.heap.size W4 y9) X := hS
      obtain ⟨u, hu0, hr1⟩ := r102 rfl
      clear r102
      obtain ⟨au, cu, rfl, -⟩ := owns_val hr1
      have hg9 := (blk_below hb1 _ (blk_lt hgb)).trans hgb
      obtain ⟨hs1, hs2, hs3⟩ := PlR.set_slot (i := i) (x := slotV [L, X0, Y0] (.slice au 144 cu)) (HP4.out.bel hb1) (by first | assumption | (simp; try omega)) rfl rfl hg9
      have hf0 : PF lo gw W4 X := PF.of_below hb1 (PlR.low HP4.out)
      refine yields_skip (w' := X.setRow g (pasteL cur.toList (i * 4) (slotV [L, X0, Y0] (.slice au 144 cu))).toArray) (Pred.wanted_none rfl) (by clear hS hb1 hI hV hn hr1 hs1 hs2 hs3 hf0; have e9 : (slotV [L, X0, Y0] (.slice au 144 cu)) = [.int .i64 L, .int .i64 X0, .int .i64 Y0, .slice au 144 cu] := rfl; rw [e9]; go_simp) ⟨below_zero hs3, ⟨_, hs1, own_pf hr1 (HP4.out.bel hb1) hs2, hf0.trans hs2⟩, rfl, Nat.zero_le _⟩
  intro v X hE hS hv
  replace hS : (fun y9 => ∃ u : Value, PlR y9 lo pb gw lb lg n d (.slice (some ⟨g, 0, none⟩) (rs.length) cap) ((rs).set (i) (slotV [L, X0, Y0] u)) o pin wl2 ∧ y9.ownsRow W4.heap.size 5 1 u 144 (us b) ∧ PF lo gw W4 y9) X := hS
  have e0 : v 0 = .pointer (some ⟨pb, 0, none⟩) := (hv 0 _ 94 rfl rfl).1
  have e1 : v 1 = .pointer (some ⟨pb, 0, none⟩) := (hv 1 _ 95 rfl rfl).1
  have e2 : v 2 = .pointer (some ⟨pb, 2, none⟩) := (hv 2 _ 96 rfl rfl).1
  have e3 : v 3 = .slice (some ⟨g, 0, none⟩) (rs.length) cap := (hv 3 _ 97 rfl rfl).1
  have e4 : v 4 = .int .i64 ((i : Nat) : Int) := (hv 4 _ 98 rfl rfl).1
  have e5 : v 5 = .agg #[.int .i64 L, .int .i64 X0, .int .i64 Y0] := (hv 5 _ 99 rfl rfl).1
  have e6 : v 6 = .slice (some ad) 144 c := (hv 6 _ 100 rfl rfl).1
  generalize hg7 : v 7 = vv7
  generalize hg8 : v 8 = vv8
  have e9 : v 9 = .pointer (some ⟨g, i * 4, none⟩) := (hv 9 _ 103 rfl rfl).1
  simp only [Pred.putsF_cons, Pred.putsF_nil, Nat.zero_add, Nat.reduceAdd, e0, e1, e2, e3, e4, e5, e6, hg7, hg8, e9, Act.put, List.setIfInBounds_toArray, List.set_cons_zero, List.set_cons_succ]
  clear e0 e1 e2 e3 e4 e5 e6 hg7 hg8 e9 hv
  obtain ⟨u, u1, u2, u3⟩ := hS
  have HP5 := Lib.hid u1
  have HU5 := Lib.hid (owns_mono u2 hsz4)
  have bP5 := PF.page u3 HP4.out bP4
  have F5 := F4.trans u3
  have bG5 := PF.page u3 HP4.out bG4
  clear HP4 HB4 bP4 hsz4 hgb hgs hE u1 u2 u3 F4 bG4
  rename World => W5
  have g0 := Go.cell_regrown HP5.out.c0
  have g3 := Go.cell_regrown HP5.out.c3
  have gP := blk_regrown bP5
  go_upto_region 17 with (fail)
  (refine Reg.below_tail 12 (by kernel_rfl) (by kernel_rfl) ?_; simp only [List.take_succ_cons, List.take_zero, List.drop_succ_cons, List.drop_zero]; (repeat (go_big_quiet_step (((with_reducible exact Calls.regrown_of (CK.out _)))))); refine wpQuiet_nil ?_)
  intro w6 hU
  have KU := Rd.below_of_regrown hU
  have HP6 := Lib.hid (HP5.out.bel KU)
  have HU6 := Lib.hid (owns_below HU5.out KU)
  have F6 := F5.trans (PF.of_below KU (PlR.low HP5.out))
  have bG6 := (blk_below KU _ (blk_lt bG5)).trans bG5
  clear hU KU g0 g3 gP bP5 HP5 HU5 F5 bG5
  have cw := HP6.out.cw hkl2
  have fw := blk_frozen HP6.out.w k
  go_upto_region 18 with (fail)
  refine Rd.name_world ?_
  intro W7 hW7
  obtain ⟨q1, q2⟩ : PlR W7 lo pb gw lb lg n d _ _ o pin (wl2.set k ((i : Nat) : Int)) ∧ PF lo gw w6 W7 := by rw [hW7]; exact PlR.set_w HP6.out k _
  have HP7 := Lib.hid q1
  have HU7 := Lib.hid (own_pf HU6.out HP6.out q2)
  have F7 := F6.trans q2
  have bG7 := PF.page q2 HP6.out bG6
  clear hW7 q1 q2 cw fw HP6 HU6 F6 bG6
  have c4 := HP7.out.c4
  go_wp2_with fail
  refine (touch_yes (i) _ HP7.out.l (by omega)).mono ?_
  rintro e w8 ⟨rfl, h8, g8⟩
  obtain ⟨r1, r2⟩ := PlR.touched HP7.out h8 g8
  have HP8 := Lib.hid r1
  have HU8 := Lib.hid (own_pf HU7.out HP7.out r2)
  have F8 := F7.trans r2
  have bG8 := PF.page r2 HP7.out bG7
  clear r1 r2 h8 g8 HP7 HU7 F7 c4
  go_wp2
  go_ret2
  exact ⟨_, _, rfl, bG8, by rw [EW.out]; exact HP8.out, HU8.out, F8⟩
end Go.Proofs.Ytkklppjimnkibaa.PoF

namespace Go.Proofs.Ytkklppjimnkibaa.PoG
open Go.RowKit Go.Shelf Rd Go.Proofs.Ytkklppjimnkibaa.Row Mid LrM LrA LrB LrP PgM PgA PgB PgN PoM PoA PoB PoE
open Go.Proofs.Ytkklppjimnkibaa.PgC (three len3 eqL eq_pg3)
open Go.Proofs.Ytkklppjimnkibaa.PoD (us us_len By)
open Go.Proofs.Ytkklppjimnkibaa.Pred (Is is_stab Stab)
open It (get_lt)
open Go.Proofs.Ytkklppjimnkibaa.MpE (owns_mono)
set_option linter.unusedVariables false
set_option linter.unusedSimpArgs false
set_option maxRecDepth 10000
variable {X Y : World} {lo : Lo} {pb gw lb lg n d : Nat} {v : Value} {rs : List (List Value)} {o : List Nat} {pin : Nat → Bool} {wl : List Int} {Bb : Nat → Prop} {sl : List Ent} {R : List Ent}
attribute [local go_sem ↓] load_pg store_pg store_sl
attribute [local go_sem] one_slice one_int pc3 run_load_pg run_store_pg run_store_sl midStore_eq midLoad_eq rowLoad_eq rowStore_eq blk_alloc_at blk_alloc_old blk_drew blk_drewN blk_set_far blk_set_far' blk_grow setRow_alloc_at setRow_alloc_old setRow_drew setRow_drewN
set_option maxHeartbeats 4000000 in
theorem put_old (L X0 Y0 P0 P1 P2 : Int) (k i : Nat) (u0 : Value) (w : World) (ad : Addr) (c : Nat) (b : List Int) (hp : PlR w lo pb gw lb lg n d v rs o pin wl) (hv : validB d L X0 Y0 = true) (hk : keyV d L X0 Y0 = (k : Int)) (hkl : k < wl.length) (hw : wl.length ≤ 85) (hz : wl.getD k (-1) = (i : Int)) (hi : i < rs.length) (hs : rs.getD i [] = slotV [P0, P1, P2] u0) (hb : BIn w ad b) :
    Calls Try.prog 12 #[.pointer (some ⟨pb, 0, none⟩), pg L X0 Y0, .slice (some ad) 144 c] w fun e w' => ∃ u, e = .returned (.tuple #[.slice none 0 0, .int .i64 0]) ∧ PlR w' lo pb gw lb lg n d v (rs.set i (slotV [P0, P1, P2] u)) o pin wl ∧ w'.ownsRow w.heap.size 5 1 u 144 (us b) ∧ PF lo gw w w' := by
  have HP := Lib.hid hp
  have hlow := PlR.low hp
  have CM := Lib.hid (fun (X : World) (hX : PlR X lo pb gw lb lg n d v rs o pin wl) => may_calls hX hv)
  have CS := Lib.hid (fun (X : World) (hX : PlR X lo pb gw lb lg n d v rs o pin wl) => slot_yes L X0 Y0 (i : Int) k X hX hv hk hkl hw hz)
  have HB := Lib.hid hb
  have HS := Lib.hid hs
  obtain ⟨g, cap, cur, rfl, -, -, -, -, -⟩ := sl_at hp.r hp.r4 hi hs
  have hne : ¬ ((i : Int) = -1) := by omega
  clear hp hv hk hz hb hs cur
  go_enter Try.func12, Try.ntmps12
  go_upto_region 1 with (fail)
  refine Rd.name_world ?_
  intro W0 hW
  have L0 : Below w.heap.size w W0 := by rw [hW]; repeat' (first | (with_reducible exact Below.refl _ _) | (with_reducible refine Rd.below_step ?_ (by assumption)) | (with_reducible refine Rd.below_alloc ?_ _) | (with_reducible refine Rd.below_drewN ?_ _) | (with_reducible refine Below.drew ?_) | (with_reducible refine Below.setCell ?_ ?_ _) | (with_reducible refine Rd.below_setRow ?_ ?_ _) | go_size | (simp only [World.size_alloc]; omega) | omega)
  have bP0 : blk W0 w.heap.size = some (.cells #[.int .i64 L, .int .i64 X0, .int .i64 Y0] 35 (0, 0)) := by rw [hW]; exact blk_alloc_at _ _ _ rfl
  clear hW
  go_wp2_with fail
  refine (CM.out _ (HP.out.bel L0)).mono ?_
  rintro e w1 ⟨rfl, hb1⟩
  have L1 : Below w.heap.size w w1 := by repeat' (first | (with_reducible exact Below.refl _ _) | (with_reducible refine Rd.below_step ?_ (by assumption)) | (with_reducible refine Rd.below_alloc ?_ _) | (with_reducible refine Rd.below_drewN ?_ _) | (with_reducible refine Below.drew ?_) | (with_reducible refine Below.setCell ?_ ?_ _) | (with_reducible refine Rd.below_setRow ?_ ?_ _) | go_size | (simp only [World.size_alloc]; omega) | omega)
  have bP1 := (blk_below hb1 _ (blk_lt bP0)).trans bP0
  clear hb1 L0 bP0
  go_wp2_with fail
  refine (CS.out _ (HP.out.bel L1)).mono ?_
  rintro e w2 ⟨rfl, hb2⟩
  have L2 : Below w.heap.size w w2 := by repeat' (first | (with_reducible exact Below.refl _ _) | (with_reducible refine Rd.below_step ?_ (by assumption)) | (with_reducible refine Rd.below_alloc ?_ _) | (with_reducible refine Rd.below_drewN ?_ _) | (with_reducible refine Below.drew ?_) | (with_reducible refine Below.setCell ?_ ?_ _) | (with_reducible refine Rd.below_setRow ?_ ?_ _) | go_size | (simp only [World.size_alloc]; omega) | omega)
  have HP2 := Lib.hid (HP.out.bel L2)
  have HB2 := Lib.hid (HB.out.bel L2)
  have hsz := L2.size
  clear hb2 L1 bP1
  obtain ⟨g9, cap9, cur, ev, -, hgb, hgs, hpc, hcu⟩ := sl_at HP2.out.r HP2.out.r4 hi HS.out
  injection ev with ev1 ev2 ev3
  injection ev1 with ev1
  injection ev1 with ev1
  subst ev1
  clear ev2 ev3
  have HPC := Lib.hid hpc
  clear hpc
  go_upto_region 5 with (fail)
  refine PredT.region_of (W := w2) (0) (Nat.zero_le _) [9] [
      fun y9 => Below w2.heap.size w2 y9,
      fun y9 => ∃ u : Value, PlR y9 lo pb gw lb lg n d (.slice (some ⟨g, 0, none⟩) rs.length cap) (rs.set i (slotV [P0, P1, P2] u)) o pin wl ∧ y9.ownsRow w2.heap.size 5 1 u 144 (us b) ∧ PF lo gw w2 y9] [
      PredT.At 0 (.pointer (some ⟨pb, 0, none⟩)),
      PredT.At 0 (.pointer (some ⟨pb, 0, none⟩)),
      PredT.At 0 (.pointer (some ⟨pb, 2, none⟩)),
      PredT.At 0 (.slice (some ⟨g, 0, none⟩) rs.length cap),
      PredT.At 0 (.int .i64 ((i : Nat) : Int)),
      PredT.At 0 (.slice (some ad) 144 c),
      PredT.When 0 (fun u y9 => y9.ownsRow w2.heap.size 5 1 u 144 (us b)),
      PredT.At 0 (.pointer (some ⟨g, i * 4, none⟩)),
      PredT.At 0 (.pointer (some ⟨g, i * 4 + 3, none⟩)),
      PredT.At 0 undef] (by kernel_rfl) (by kernel_rfl) (by kernel_rfl) (by decide) (by decide) ?_ ?_ ?_ ?_ ?_ ?_
  · exact ⟨PredT.at_stab _ _ _ _, PredT.at_stab _ _ _ _, PredT.at_stab _ _ _ _, PredT.at_stab _ _ _ _, PredT.at_stab _ _ _ _, PredT.at_stab _ _ _ _, PredT.when_stab _ _ _ (fun u y y' h1 hb => owns_below h1 hb), PredT.at_stab _ _ _ _, PredT.at_stab _ _ _ _, PredT.at_stab _ _ _ _, trivial⟩
  · intro q hq
    rcases List.mem_cons.1 hq with rfl | hq
    · exact fun y y' h hb => h.trans (hb.mono h.size)
    rcases List.mem_cons.1 hq with rfl | hq
    · exact fun y y' ⟨u, h1, h2, h3⟩ hb => ⟨u, h1.bel hb, owns_below h2 hb, h3.trans (PF.of_below hb (PlR.low h1))⟩
    cases hq
  · exact Below.refl _ _
  · refine ⟨.inr ?_, .inr ?_, .inr ?_, .inr ?_, .inr ?_, .inr ?_, .inr ?_, .inr ?_, .inr ?_, .inl rfl, trivial⟩
    · intro b9 X ph hE hd hn hS hV hI hF
      have r0 : b9.tmps[0]?.getD undef = .pointer (some ⟨pb, 0, none⟩) := (hn 0 (by kernel_rfl)).trans rfl
      exact Pred.yields_run (v := .pointer (some ⟨pb, 0, none⟩)) (Pred.wanted_none rfl) (by go_simp) ⟨Below.refl _ _, rfl, Nat.zero_le _⟩
    · intro b9 X ph hE hd hn hS hV hI hF
      obtain ⟨r26, j26⟩ : PredT.At 0 (.pointer (some ⟨pb, 0, none⟩)) (b9.tmps[26]?.getD undef) X ph := hV 0 _ 26 rfl rfl (Pred.waits_near (by kernel_rfl) (by kernel_rfl))
      exact Pred.yields_run (v := .pointer (some ⟨pb, 0, none⟩)) (Pred.wanted_none rfl) (by go_simp) ⟨Below.refl _ _, rfl, Nat.zero_le _⟩
    · intro b9 X ph hE hd hn hS hV hI hF
      obtain ⟨r27, j27⟩ : PredT.At 0 (.pointer (some ⟨pb, 0, none⟩)) (b9.tmps[27]?.getD undef) X ph := hV 1 _ 27 rfl rfl (Pred.waits_near (by kernel_rfl) (by kernel_rfl))
      exact Pred.yields_run (v := .pointer (some ⟨pb, 2, none⟩)) (Pred.wanted_none rfl) (by go_simp) ⟨Below.refl _ _, rfl, Nat.zero_le _⟩
    · intro b9 X ph hE hd hn hS hV hI hF
      obtain ⟨r28, j28⟩ : PredT.At 0 (.pointer (some ⟨pb, 2, none⟩)) (b9.tmps[28]?.getD undef) X ph := hV 2 _ 28 rfl rfl (Pred.waits_near (by kernel_rfl) (by kernel_rfl))
      have hp0 : ph = 0 := Nat.le_zero.1 (hF 0 9 rfl (Pred.waits_near (by kernel_rfl) (by kernel_rfl)))
      subst hp0
      have hb0 : (fun y9 => Below w2.heap.size w2 y9) X := hS
      have z := (HP2.out.bel hb0).c2
      exact Pred.yields_run (v := .slice (some ⟨g, 0, none⟩) rs.length cap) (Pred.wanted_none rfl) (by go_simp) ⟨Below.refl _ _, rfl, Nat.zero_le _⟩
    · intro b9 X ph hE hd hn hS hV hI hF
      have r8 : b9.tmps[8]?.getD undef = .int .i64 ((i : Nat) : Int) := (hn 8 (by kernel_rfl)).trans rfl
      exact Pred.yields_run (v := .int .i64 ((i : Nat) : Int)) (Pred.wanted_none rfl) (by go_simp) ⟨Below.refl _ _, rfl, Nat.zero_le _⟩
    · intro b9 X ph hE hd hn hS hV hI hF
      have r2 : b9.tmps[2]?.getD undef = .slice (some ad) 144 c := (hn 2 (by kernel_rfl)).trans rfl
      exact Pred.yields_run (v := .slice (some ad) 144 c) (Pred.wanted_none rfl) (by go_simp) ⟨Below.refl _ _, rfl, Nat.zero_le _⟩
    · intro b9 X ph hE hd hn hS hV hI hF
      obtain ⟨r31, j31⟩ : PredT.At 0 (.slice (some ad) 144 c) (b9.tmps[31]?.getD undef) X ph := hV 5 _ 31 rfl rfl (Pred.waits_near (by kernel_rfl) (by kernel_rfl))
      have hp0 : ph = 0 := Nat.le_zero.1 (hF 0 9 rfl (Pred.waits_near (by kernel_rfl) (by kernel_rfl)))
      subst hp0
      have hb0 : (fun y9 => Below w2.heap.size w2 y9) X := hS
      have hz9 := hb0.size
      refine Pred.yields_call (f := 36) (args := #[.slice (some ad) 144 c]) (Pred.wanted_none rfl) (by go_simp) ?_
      refine (clone_any ad 144 c b X (HB2.out.bel hb0).reads (by decide)).mono ?_
      rintro e w9 ⟨u, rfl, h1, h2⟩
      exact ⟨_, rfl, h2, Nat.zero_le _, fun _ => owns_mono h1 hz9⟩
    · intro b9 X ph hE hd hn hS hV hI hF
      obtain ⟨r29, j29⟩ : PredT.At 0 (.slice (some ⟨g, 0, none⟩) rs.length cap) (b9.tmps[29]?.getD undef) X ph := hV 3 _ 29 rfl rfl (Pred.waits_near (by kernel_rfl) (by kernel_rfl))
      obtain ⟨r30, j30⟩ : PredT.At 0 (.int .i64 ((i : Nat) : Int)) (b9.tmps[30]?.getD undef) X ph := hV 4 _ 30 rfl rfl (Pred.waits_near (by kernel_rfl) (by kernel_rfl))
      have h8 : (0 : Int) ≤ ((i : Nat) : Int) := by omega
      have h9 : ((i : Nat) : Int) < ((rs.length : Nat) : Int) := by omega
      exact Pred.yields_run (v := .pointer (some ⟨g, i * 4, none⟩)) (Pred.wanted_none rfl) (by go_simp) ⟨Below.refl _ _, rfl, Nat.zero_le _⟩
    · intro b9 X ph hE hd hn hS hV hI hF
      obtain ⟨r33, j33⟩ : PredT.At 0 (.pointer (some ⟨g, i * 4, none⟩)) (b9.tmps[33]?.getD undef) X ph := hV 7 _ 33 rfl rfl (Pred.waits_near (by kernel_rfl) (by kernel_rfl))
      exact Pred.yields_run (v := .pointer (some ⟨g, i * 4 + 3, none⟩)) (Pred.wanted_none rfl) (by go_simp) ⟨Below.refl _ _, rfl, Nat.zero_le _⟩
  · refine ⟨?_, trivial⟩
    · refine ⟨_, rfl, fun k hk => (by cases hk), fun b9 X hE hd hn hS hV hI => ?_⟩
      obtain ⟨r34, j34⟩ : PredT.At 0 (.pointer (some ⟨g, i * 4 + 3, none⟩)) (b9.tmps[34]?.getD undef) X 0 := hV 8 _ 34 rfl rfl (Pred.waits_near (by kernel_rfl) (by kernel_rfl))
      obtain ⟨j32, r32⟩ : PredT.When 0 (fun u y9 => y9.ownsRow w2.heap.size 5 1 u 144 (us b)) (b9.tmps[32]?.getD undef) X 0 := hV 6 _ 32 rfl rfl (Pred.waits_near (by kernel_rfl) (by kernel_rfl))
      replace hS : (fun y9 => Below w2.heap.size w2 y9) X := hS
      have hb1 : (fun y9 => Below w2.heap.size w2 y9) X := hS
      have hr1 := r32 rfl
      clear r32
      obtain ⟨u, hu⟩ : ∃ u, b9.tmps[32]?.getD undef = u := ⟨_, rfl⟩
      rw [hu] at hr1
      obtain ⟨au, cu, rfl, -⟩ := owns_val hr1
      have hg9 := (blk_below hb1 _ (blk_lt hgb)).trans hgb
      have hf9 := blk_frozen hg9 (i * 4 + 3)
      have hc9 := (hb1.cell (p := ⟨g, i * 4 + 3, none⟩) (blk_lt hgb)).trans hcu
      obtain ⟨hs1, hs2, hs3⟩ := PlR.set_bytes (u' := .slice au 144 cu) (HP2.out.bel hb1) hi HS.out rfl hg9 hgs HPC.out
      have hf0 : PF lo gw w2 X := PF.of_below hb1 (PlR.low HP2.out)
      refine yields_skip (w' := X.setCell ⟨g, i * 4 + 3, none⟩ (.slice au 144 cu)) (Pred.wanted_none rfl) (by clear hS hb1 hI hV hn hr1 hs1 hs2 hs3 hf0 hg9; go_simp) ⟨below_zero hs3, ⟨_, hs1, own_pf hr1 (HP2.out.bel hb1) hs2, hf0.trans hs2⟩, rfl, Nat.zero_le _⟩
  intro v X hE hS hv
  replace hS : (fun y9 => ∃ u : Value, PlR y9 lo pb gw lb lg n d (.slice (some ⟨g, 0, none⟩) rs.length cap) (rs.set i (slotV [P0, P1, P2] u)) o pin wl ∧ y9.ownsRow w2.heap.size 5 1 u 144 (us b) ∧ PF lo gw w2 y9) X := hS
  have e0 : v 0 = .pointer (some ⟨pb, 0, none⟩) := (hv 0 _ 26 rfl rfl).1
  have e1 : v 1 = .pointer (some ⟨pb, 0, none⟩) := (hv 1 _ 27 rfl rfl).1
  have e2 : v 2 = .pointer (some ⟨pb, 2, none⟩) := (hv 2 _ 28 rfl rfl).1
  have e3 : v 3 = .slice (some ⟨g, 0, none⟩) rs.length cap := (hv 3 _ 29 rfl rfl).1
  have e4 : v 4 = .int .i64 ((i : Nat) : Int) := (hv 4 _ 30 rfl rfl).1
  have e5 : v 5 = .slice (some ad) 144 c := (hv 5 _ 31 rfl rfl).1
  generalize hg6 : v 6 = vv6
  have e7 : v 7 = .pointer (some ⟨g, i * 4, none⟩) := (hv 7 _ 33 rfl rfl).1
  have e8 : v 8 = .pointer (some ⟨g, i * 4 + 3, none⟩) := (hv 8 _ 34 rfl rfl).1
  simp only [Pred.putsF_cons, Pred.putsF_nil, Nat.zero_add, Nat.reduceAdd, e0, e1, e2, e3, e4, e5, hg6, e7, e8, Act.put, List.setIfInBounds_toArray, List.set_cons_zero, List.set_cons_succ]
  clear e0 e1 e2 e3 e4 e5 hg6 e7 e8 hv
  obtain ⟨u, u1, u2, u3⟩ := hS
  have HP5 := Lib.hid u1
  have HU5 := Lib.hid (owns_mono u2 hsz)
  have F5 := (PF.of_below L2 hlow).trans u3
  clear HP2 HB2 hgb hgs hE u1 u2 u3 hcu
  rename World => W5
  go_wp2
  go_ret2
  exact ⟨_, rfl, HP5.out, HU5.out, F5⟩
theorem put_nil (L X0 Y0 : Int) (a : Option Addr) (m c : Nat) (w : World) :
    Calls Try.prog 12 #[.pointer none, pg L X0 Y0, .slice a m c] w fun e w' => e = .returned (.tuple #[.slice none 0 0, .int .i64 1]) ∧ Below w.heap.size w w' := by
  go_enter Try.func12, Try.ntmps12
  go_wp2_with fail
  refine (may_nil L X0 Y0 _).mono ?_
  rintro e w1 ⟨rfl, hb1⟩
  have L1 : Below w.heap.size w w1 := by repeat' (first | (with_reducible exact Below.refl _ _) | (with_reducible refine Rd.below_step ?_ (by assumption)) | (with_reducible refine Rd.below_alloc ?_ _) | (with_reducible refine Rd.below_drewN ?_ _) | (with_reducible refine Below.drew ?_) | (with_reducible refine Below.setCell ?_ ?_ _) | (with_reducible refine Rd.below_setRow ?_ ?_ _) | go_size | (simp only [World.size_alloc]; omega) | omega)
  clear hb1
  go_wp2
  go_ret2
  exact ⟨rfl, L1⟩
set_option maxHeartbeats 1000000 in
theorem put_bad (L X0 Y0 : Int) (a : Option Addr) (m c : Nat) (w : World) (hp : PlR w lo pb gw lb lg n d v rs o pin wl) (hno : validB d L X0 Y0 = false ∨ m ≠ 144) (hm : m ≤ 1000000) :
    Calls Try.prog 12 #[.pointer (some ⟨pb, 0, none⟩), pg L X0 Y0, .slice a m c] w fun e w' => e = .returned (.tuple #[.slice none 0 0, .int .i64 1]) ∧ Below w.heap.size w w' := by
  have HP := Lib.hid hp
  have CM := Lib.hid (fun (X : World) (hX : PlR X lo pb gw lb lg n d v rs o pin wl) => may_any L X0 Y0 X hX)
  obtain ⟨q, eq⟩ : ∃ q, validB d L X0 Y0 = q := ⟨_, rfl⟩
  rw [eq] at CM hno
  clear eq hp
  cases q with
  | false =>
    go_enter Try.func12, Try.ntmps12
    go_wp2_with fail
    refine (CM.out _ (HP.out.bel (by repeat' (first | (with_reducible exact Below.refl _ _) | (with_reducible refine Rd.below_step ?_ (by assumption)) | (with_reducible refine Rd.below_alloc ?_ _) | (with_reducible refine Rd.below_drewN ?_ _) | (with_reducible refine Below.drew ?_) | (with_reducible refine Below.setCell ?_ ?_ _) | (with_reducible refine Rd.below_setRow ?_ ?_ _) | go_size | (simp only [World.size_alloc]; omega) | omega)))).mono ?_
    rintro e w1 ⟨rfl, hb1⟩
    have L1 : Below w.heap.size w w1 := by repeat' (first | (with_reducible exact Below.refl _ _) | (with_reducible refine Rd.below_step ?_ (by assumption)) | (with_reducible refine Rd.below_alloc ?_ _) | (with_reducible refine Rd.below_drewN ?_ _) | (with_reducible refine Below.drew ?_) | (with_reducible refine Below.setCell ?_ ?_ _) | (with_reducible refine Rd.below_setRow ?_ ?_ _) | go_size | (simp only [World.size_alloc]; omega) | omega)
    clear hb1
    go_wp2
    go_ret2
    exact ⟨rfl, L1⟩
  | true =>
    have hne : ¬ ((m : Int) = 144) := by
      rcases hno with h | h
      · cases h
      · omega
    clear hno
    go_enter Try.func12, Try.ntmps12
    go_wp2_with fail
    refine (CM.out _ (HP.out.bel (by repeat' (first | (with_reducible exact Below.refl _ _) | (with_reducible refine Rd.below_step ?_ (by assumption)) | (with_reducible refine Rd.below_alloc ?_ _) | (with_reducible refine Rd.below_drewN ?_ _) | (with_reducible refine Below.drew ?_) | (with_reducible refine Below.setCell ?_ ?_ _) | (with_reducible refine Rd.below_setRow ?_ ?_ _) | go_size | (simp only [World.size_alloc]; omega) | omega)))).mono ?_
    rintro e w1 ⟨rfl, hb1⟩
    have L1 : Below w.heap.size w w1 := by repeat' (first | (with_reducible exact Below.refl _ _) | (with_reducible refine Rd.below_step ?_ (by assumption)) | (with_reducible refine Rd.below_alloc ?_ _) | (with_reducible refine Rd.below_drewN ?_ _) | (with_reducible refine Below.drew ?_) | (with_reducible refine Below.setCell ?_ ?_ _) | (with_reducible refine Rd.below_setRow ?_ ?_ _) | go_size | (simp only [World.size_alloc]; omega) | omega)
    clear hb1
    go_wp2
    go_ret2
    exact ⟨rfl, L1⟩
set_option maxHeartbeats 1000000 in
theorem put_full (L X0 Y0 : Int) (k : Nat) (w : World) (a : Option Addr) (c : Nat) (hp : PlR w lo pb gw lb lg n d v rs o pin wl) (hv : validB d L X0 Y0 = true) (hk : keyV d L X0 Y0 = (k : Int)) (hkl : k < wl.length) (hw : wl.length ≤ 85) (hz : wl.getD k (-1) = -1) (hnl : ¬ rs.length < n) (hol : oldO o pin = none) :
    Calls Try.prog 12 #[.pointer (some ⟨pb, 0, none⟩), pg L X0 Y0, .slice a 144 c] w fun e w' => e = .returned (.tuple #[.slice none 0 0, .int .i64 6]) ∧ Below w.heap.size w w' := by
  have HP := Lib.hid hp
  have CM := Lib.hid (fun (X : World) (hX : PlR X lo pb gw lb lg n d v rs o pin wl) => may_calls hX hv)
  have CS := Lib.hid (fun (X : World) (hX : PlR X lo pb gw lb lg n d v rs o pin wl) => slot_yes L X0 Y0 (-1) k X hX hv hk hkl hw hz)
  have CO : Hid (∀ X, St X lb lg n o pin → Calls Try.prog 37 #[.pointer (some ⟨lb, 0, none⟩)] X fun e w' => e = .returned (.tuple #[.int .i64 0, .bool false]) ∧ Below X.heap.size X w') := Lib.hid fun X hX => by
    have := oldest_st X hX
    simp only [hol, Option.getD_none, Option.isSome_none] at this
    exact this
  have hn := hp.l.small.2
  have hvv := owns_val hp.r
  obtain ⟨a9, c9, hv9, -⟩ := hvv
  subst hv9
  clear hp hv hk hz hol
  go_enter Try.func12, Try.ntmps12
  go_upto_region 1 with (fail)
  refine Rd.name_world ?_
  intro W0 hW
  have L0 : Below w.heap.size w W0 := by rw [hW]; repeat' (first | (with_reducible exact Below.refl _ _) | (with_reducible refine Rd.below_step ?_ (by assumption)) | (with_reducible refine Rd.below_alloc ?_ _) | (with_reducible refine Rd.below_drewN ?_ _) | (with_reducible refine Below.drew ?_) | (with_reducible refine Below.setCell ?_ ?_ _) | (with_reducible refine Rd.below_setRow ?_ ?_ _) | go_size | (simp only [World.size_alloc]; omega) | omega)
  have bP0 : blk W0 w.heap.size = some (.cells #[.int .i64 L, .int .i64 X0, .int .i64 Y0] 35 (0, 0)) := by rw [hW]; exact blk_alloc_at _ _ _ rfl
  clear hW
  go_wp2_with fail
  refine (CM.out _ (HP.out.bel L0)).mono ?_
  rintro e w1 ⟨rfl, hb1⟩
  have L1 : Below w.heap.size w w1 := by repeat' (first | (with_reducible exact Below.refl _ _) | (with_reducible refine Rd.below_step ?_ (by assumption)) | (with_reducible refine Rd.below_alloc ?_ _) | (with_reducible refine Rd.below_drewN ?_ _) | (with_reducible refine Below.drew ?_) | (with_reducible refine Below.setCell ?_ ?_ _) | (with_reducible refine Rd.below_setRow ?_ ?_ _) | go_size | (simp only [World.size_alloc]; omega) | omega)
  have bP1 := (blk_below hb1 _ (blk_lt bP0)).trans bP0
  clear hb1 L0 bP0
  go_wp2_with fail
  refine (CS.out _ (HP.out.bel L1)).mono ?_
  rintro e w2 ⟨rfl, hb2⟩
  have L2 : Below w.heap.size w w2 := by repeat' (first | (with_reducible exact Below.refl _ _) | (with_reducible refine Rd.below_step ?_ (by assumption)) | (with_reducible refine Rd.below_alloc ?_ _) | (with_reducible refine Rd.below_drewN ?_ _) | (with_reducible refine Below.drew ?_) | (with_reducible refine Below.setCell ?_ ?_ _) | (with_reducible refine Rd.below_setRow ?_ ?_ _) | go_size | (simp only [World.size_alloc]; omega) | omega)
  have HP2 := Lib.hid (HP.out.bel L2)
  have c1 := HP2.out.c1
  have c2 := HP2.out.c2
  have c4 := HP2.out.c4
  clear hb2 L1 bP1
  have hlt' : ¬ (rs.length : Int) < (n : Int) := by omega
  go_wp2_with fail
  refine (CO.out _ HP2.out.l).mono ?_
  rintro e w3 ⟨rfl, hb3⟩
  have L3 : Below w.heap.size w w3 := by repeat' (first | (with_reducible exact Below.refl _ _) | (with_reducible refine Rd.below_step ?_ (by assumption)) | (with_reducible refine Rd.below_alloc ?_ _) | (with_reducible refine Rd.below_drewN ?_ _) | (with_reducible refine Below.drew ?_) | (with_reducible refine Below.setCell ?_ ?_ _) | (with_reducible refine Rd.below_setRow ?_ ?_ _) | go_size | (simp only [World.size_alloc]; omega) | omega)
  clear hb3
  go_wp2
  go_ret2
  exact ⟨rfl, L3⟩
end Go.Proofs.Ytkklppjimnkibaa.PoG

namespace Go.Proofs.Ytkklppjimnkibaa.PoH
open Go.RowKit Go.Shelf Rd Go.Proofs.Ytkklppjimnkibaa.Row Mid LrM LrA LrB LrP PgM PgA PgB PgN PoM PoA PoB PoE PoF PoG
open Go.Proofs.Ytkklppjimnkibaa.PgC (three len3 eqL eq_pg3)
open Go.Proofs.Ytkklppjimnkibaa.PoD (us us_len By)
open It (get_lt)
open Go.Proofs.Ytkklppjimnkibaa.MpE (owns_mono)
set_option linter.unusedVariables false
set_option linter.unusedSimpArgs false
set_option maxRecDepth 10000
variable {X Y : World} {lo : Lo} {pb gw lb lg n d : Nat} {v : Value} {rs : List (List Value)} {o : List Nat} {pin : Nat → Bool} {wl : List Int} {Bb : Nat → Prop} {sl : List Ent} {R : List Ent}
theorem pin0_at (x : Nat) : pin0 x = decide (x = 0) := by
  unfold pin0 put
  by_cases h : x = 0
  · rw [if_pos h, decide_eq_true h]
  · rw [if_neg h, decide_eq_false h]
theorem old_pin0 (o : List Nat) : oldO o pin0 = (o.filter (fun x => decide (x ≠ 0))).head? := by
  unfold oldO
  rw [List.head?_filter]
  congr 1
  funext x
  rw [pin0_at]
  simp
theorem Pl.low (h : Pl X lo Bb pb gw n d R) : lo.n ≤ X.heap.size ∧ lo.b ≤ X.heap.size := by
  obtain ⟨lb, lg, v, sl, o, wl, ⟨rs, _, h1, _⟩, _⟩ := h
  exact PlR.low h1
/-- what is no page, bytes that are too many or too few -/
theorem put_no (L X0 Y0 : Int) (a : Option Addr) (m c : Nat) (w : World) (h : Pl w lo Bb pb gw n d R) (hno : validB d L X0 Y0 = false ∨ m ≠ 144) (hm : m ≤ 1000000) :
    Calls Try.prog 12 #[.pointer (some ⟨pb, 0, none⟩), pg L X0 Y0, .slice a m c] w fun e w' => e = .returned (.tuple #[.slice none 0 0, .int .i64 1]) ∧ Below w.heap.size w w' := by
  obtain ⟨lb, lg, v, sl, o, wl, ⟨rs, _, h1, _⟩, _⟩ := h
  exact put_bad L X0 Y0 a m c w h1 hno hm
theorem own_ge {w w' : World} {B : Nat} {u : Value} {xs : List Value} (hu : w'.ownsRow B 5 1 u 144 xs) : ∀ k, u.ownBlock = some k → B ≤ k := fun k hk => (hu.lt k hk).1
theorem put_any (L X0 Y0 : Int) (ad : Addr) (c : Nat) (b : List Int) (w : World) (h : Pl w lo Bb pb gw n d R) (hv : validB d L X0 Y0 = true) (hb : BIn w ad b) :
    Calls Try.prog 12 #[.pointer (some ⟨pb, 0, none⟩), pg L X0 Y0, .slice (some ad) 144 c] w fun e w' => ∃ gv, e = .returned (.tuple #[gv, .int .i64 (codeR n R [L, X0, Y0])]) ∧ GoneAt w' gv (goneR n R [L, X0, Y0]) ∧ Pl w' lo (fun a => Bb a ∨ w.heap.size ≤ a) pb gw n d (putR n R [L, X0, Y0] b) ∧ PF lo gw w w' := by
  have hlow := Pl.low h
  obtain ⟨lb, lg, v, sl, o, wl, ⟨rs, hl, hp, hs⟩, hr, rfl⟩ := h
  have hpg : Pg d [L, X0, Y0] := pg_iff.2 hv
  obtain ⟨k1, k2⟩ := key_int hr.d3 hpg
  rw [← hr.wlen] at k2
  have hw := wl_small hr
  have hbl : b.length = 144 := by have := hb.reads.1; simpa [us] using this
  have mB : ∀ {w' : World}, ∀ k, k < w'.heap.size → Bb k → Bb k ∨ w.heap.size ≤ k := fun k _ h => .inl h
  rcases hr.hit hpg with ⟨i, hi, e, hz⟩ | ⟨hno, hz, hx⟩
  · obtain ⟨u, hu1, hu2, -⟩ := hs i hi
    rw [e] at hu1
    obtain ⟨q1, q2, q3, q4⟩ := hr.old hi e hbl
    refine (put_old L X0 Y0 L X0 Y0 (keyN d [L, X0, Y0]) i u w ad c b hp hv k1 k2 hw hz (by omega) hu1 hb).mono ?_
    rintro e w' ⟨u', rfl, h1, h2, h3⟩
    rw [q3, q4]
    exact ⟨_, rfl, .inl ⟨rfl, rfl⟩, ⟨lb, lg, v, _, o, wl, ⟨_, by rw [List.length_set, List.length_set, hl], h1, Sl.set (hs.pf hp h3) hl hi (owns_mono h2 (Nat.zero_le _)) (fun k hk => .inr (own_ge (w := w) h2 k hk)) mB⟩, q1, q2.symm⟩, h3⟩
  · by_cases hlt : sl.length < n
    · obtain ⟨q1, q2, q3, q4⟩ := hr.more hlt hpg hno hbl
      refine (put_more L X0 Y0 (keyN d [L, X0, Y0]) w ad c b hp hv k1 k2 hw hz (by omega) hb).mono ?_
      rintro e w' ⟨v', u', rfl, h1, h2, h3⟩
      rw [q3, q4]
      rw [hl] at h1
      exact ⟨_, rfl, .inl ⟨rfl, rfl⟩, ⟨lb, lg, v', _, _, _, ⟨_, by simp [hl], h1, Sl.more (hs.pf hp h3) hl (owns_mono h2 (Nat.zero_le _)) (fun k hk => .inr (own_ge (w := w) h2 k hk)) mB⟩, q1, q2.symm⟩, h3⟩
    · have hol := old_pin0 o
      cases ho : o.filter (fun x => decide (x ≠ 0)) with
      | nil =>
        rw [ho] at hol
        obtain ⟨q2, q3, q4⟩ := hr.full hlt ho (b := b) hpg hno
        refine (put_full L X0 Y0 (keyN d [L, X0, Y0]) w (some ad) c hp hv k1 k2 hw hz (by omega) hol).mono ?_
        rintro e w' ⟨rfl, hb1⟩
        rw [q3, q4, ← q2]
        exact ⟨_, rfl, .inl ⟨rfl, rfl⟩, ⟨lb, lg, v, sl, o, wl, ⟨rs, hl, hp.bel hb1, (hs.bel hb1).mono mB⟩, hr, rfl⟩, PF.of_below hb1 hlow⟩
      | cons i t =>
        rw [ho] at hol
        obtain ⟨⟨hi0, hi⟩, q1, q2, q3, q4⟩ := hr.goes hlt ho hpg hno hbl
        obtain ⟨u, hu1, hu2, -⟩ := hs i hi
        have hpi := hr.pg i hi
        obtain ⟨P0, P1, P2, ep⟩ := len3 hpi.1
        rw [ep] at hu1 hpi q1 q3
        obtain ⟨j1, j2⟩ := key_int hr.d3 hpi
        rw [← hr.wlen] at j2
        refine (put_goes L X0 Y0 P0 P1 P2 (keyN d [L, X0, Y0]) (keyN d [P0, P1, P2]) i u w ad c b hp hv k1 k2 hw hz (by omega) hol (by omega) (by have := hr.kn; omega) hu1 j1 j2 hb).mono ?_
        rintro e w' ⟨gg, u', rfl, h0, h1, h2, h3⟩
        rw [q3, q4]
        exact ⟨_, rfl, .inr ⟨[P0, P1, P2], gg, rfl, rfl, rfl, h0⟩, ⟨lb, lg, v, _, _, _, ⟨_, by rw [List.length_set, List.length_set, hl], h1, Sl.set (hs.pf hp h3) hl hi (owns_mono h2 (Nat.zero_le _)) (fun k hk => .inr (own_ge (w := w) h2 k hk)) mB⟩, q1, q2.symm⟩, h3⟩
end Go.Proofs.Ytkklppjimnkibaa.PoH

/-
  A pool in the store: its blocks; what turns; may, slot.
  A pool: what is asked of it: Has, Get, Len, Touch.
  A pool: one step of what Put does to its blocks.
-/
import Derived.Test.YtkklppjimnkibaaPoM
import Derived.Test.YtkklppjimnkibaaPoD
import Derived.Test.YtkklppjimnkibaaLrP
import Derived.Maps.AppendAt
namespace Go.Proofs.Ytkklppjimnkibaa.PoA
open Go.RowKit Rd Go.Proofs.Ytkklppjimnkibaa.Row Mid LrM LrA LrB LrP PgM PgA PgB PgN PoM
open Go.Proofs.Ytkklppjimnkibaa.PgC (three len3 eqL eq_pg3)
open It (get_lt)
open Go.Proofs.Ytkklppjimnkibaa.PoD (us us_len By)
open Go.Proofs.Ytkklppjimnkibaa.Num (ret_int ret_bool)
set_option linter.unusedVariables false
set_option linter.unusedSimpArgs false
set_option maxRecDepth 10000
def slotV (v : List Int) (u : Value) : List Value := [.int .i64 (PgM.g v 0), .int .i64 (PgM.g v 1), .int .i64 (PgM.g v 2), u]
theorem slotV_len (v : List Int) (u : Value) : (slotV v u).length = 4 := rfl
/-- where a pool's blocks may lie: from n on, but from a to b -/
structure Lo where
  n : Nat
  a : Nat
  b : Nat
def Lo.ok (l : Lo) (k : Nat) : Prop := l.n ≤ k ∧ (k < l.a ∨ l.b ≤ k)
/-- the pool's blocks -/
structure PlR (X : World) (lo : Lo) (pb gw lb lg n d : Nat) (v : Value) (rs : List (List Value)) (o : List Nat) (pin : Nat → Bool) (wl : List Int) : Prop where
  p : blk X pb = some (.cells #[.int .i64 d, .int .i64 n, v, .slice (some ⟨gw, 0, none⟩) wl.length wl.length, .pointer (some ⟨lb, 0, none⟩)] 71 (0, 0))
  w : blk X gw = some (.cells (cs .i64 wl) 3 (0, 0))
  r : X.ownsRow lo.n 83 4 v rs.length (DkM.fl rs)
  rv : ∀ k, v.ownBlock = some k → lo.ok k
  r4 : ∀ l ∈ rs, l.length = 4
  l : St X lb lg n o pin
  okk : lo.ok pb ∧ lo.ok gw ∧ lo.ok lb ∧ lo.ok lg
  hi : lo.n ≤ X.heap.size ∧ lo.b ≤ X.heap.size
/-- the slots -/
def Sl (X : World) (Bb : Nat → Prop) (sl : List Ent) (rs : List (List Value)) : Prop :=
  ∀ i, i < sl.length → ∃ u, rs.getD i [] = slotV (ent sl i).1 u ∧ X.ownsRow 0 5 1 u 144 (us (ent sl i).2) ∧ ∀ k, u.ownBlock = some k → Bb k
def PlI (X : World) (lo : Lo) (Bb : Nat → Prop) (pb gw lb lg n d : Nat) (v : Value) (sl : List Ent) (o : List Nat) (pin : Nat → Bool) (wl : List Int) : Prop :=
  ∃ rs, rs.length = sl.length ∧ PlR X lo pb gw lb lg n d v rs o pin wl ∧ Sl X Bb sl rs
variable {X Y : World} {lo : Lo} {pb gw lb lg n d : Nat} {v : Value} {rs : List (List Value)} {o : List Nat} {pin : Nat → Bool} {wl : List Int} {Bb : Nat → Prop} {sl : List Ent}
/-- blocks of the pool's own types -/
def Pt (gw : Nat) (X : World) (k : Nat) : Prop := ∃ c t, X.heap[k]? = some (.cells c t (0, 0)) ∧ (t = 71 ∨ t = 83 ∨ t = 105 ∨ t = 109 ∨ k = gw)
theorem own_pos' {X : World} {base e s n : Nat} {u : Value} {xs : List Value} (h : X.ownsRow base e s u n xs) {k : Nat} (hk : u.ownBlock = some k) : ∃ c, X.heap[k]? = some (.cells c e (0, 0)) ∧ base ≤ k := by
  rcases h.2 with ⟨rfl, _⟩ | ⟨g, cap, cur, rfl, hb, hg, _⟩
  · cases hk
  · obtain rfl : g = k := by simpa [Value.ownBlock] using hk
    exact ⟨cur, hg, hb⟩
theorem own_same {X Y : World} {base e s n : Nat} {u : Value} {xs : List Value} (h : X.ownsRow base e s u n xs) (hk : ∀ k, u.ownBlock = some k → Y.heap[k]? = X.heap[k]?) : Y.ownsRow base e s u n xs :=
  ⟨h.1, h.2.imp id fun ⟨g, cap, cur, e1, e2, e3, e4⟩ => ⟨g, cap, cur, e1, e2, (hk g (by rw [e1]; rfl)).trans e3, e4⟩⟩
theorem PlR.kept (h : PlR X lo pb gw lb lg n d v rs o pin wl) (hs : X.heap.size ≤ Y.heap.size) (hk : ∀ k, Pt gw X k → Y.heap[k]? = X.heap[k]?) : PlR Y lo pb gw lb lg n d v rs o pin wl := by
  refine ⟨(hk pb ⟨_, _, h.p, .inl rfl⟩).trans h.p, (hk gw ⟨_, _, h.w, by simp⟩).trans h.w, own_same h.r fun k e => ?_, h.rv, h.r4, ?_, h.okk, by have := h.hi; omega⟩
  · obtain ⟨c, hc, _⟩ := own_pos' h.r e
    exact hk k ⟨c, _, hc, .inr (.inl rfl)⟩
  · obtain ⟨old, yng, h1, h2⟩ := h.l
    obtain ⟨c, hc, h3⟩ := h1.g
    exact ⟨old, yng, h1.kept (hk lb ⟨_, _, h1.b, .inr (.inr (.inl rfl))⟩) (hk lg ⟨c, _, hc, .inr (.inr (.inr (.inl rfl)))⟩), h2⟩
theorem Sl.kept (h : Sl X Bb sl rs) (hk : ∀ k c, Bb k → X.heap[k]? = some (.cells c 5 (0, 0)) → Y.heap[k]? = X.heap[k]?) : Sl Y Bb sl rs := by
  intro i hi
  obtain ⟨u, h1, h2, h3⟩ := h i hi
  refine ⟨u, h1, own_same h2 fun k e => ?_, h3⟩
  obtain ⟨c, hc, _⟩ := own_pos' h2 e
  exact hk k c (h3 k e) hc
theorem Sl.mono {Bb' : Nat → Prop} (h : Sl X Bb sl rs) (hm : ∀ k, k < X.heap.size → Bb k → Bb' k) : Sl X Bb' sl rs := fun i hi => by
  obtain ⟨u, h1, h2, h3⟩ := h i hi
  exact ⟨u, h1, h2, fun k e => hm k (by obtain ⟨c, hc, _⟩ := own_pos' h2 e; exact get_lt hc) (h3 k e)⟩
theorem PlI.kept (h : PlI X lo Bb pb gw lb lg n d v sl o pin wl) (hs : X.heap.size ≤ Y.heap.size) (hk : ∀ k, Pt gw X k → Y.heap[k]? = X.heap[k]?) (hk' : ∀ k c, Bb k → X.heap[k]? = some (.cells c 5 (0, 0)) → Y.heap[k]? = X.heap[k]?) : PlI Y lo Bb pb gw lb lg n d v sl o pin wl := by
  obtain ⟨rs, h1, h2, h3⟩ := h
  exact ⟨rs, h1, h2.kept hs hk, h3.kept hk'⟩
theorem PlI.mono {Bb' : Nat → Prop} (h : PlI X lo Bb pb gw lb lg n d v sl o pin wl) (hm : ∀ k, k < X.heap.size → Bb k → Bb' k) : PlI X lo Bb' pb gw lb lg n d v sl o pin wl := by
  obtain ⟨rs, h1, h2, h3⟩ := h
  exact ⟨rs, h1, h2, h3.mono hm⟩
theorem pt_lt {k : Nat} (h : Pt gw X k) : k < X.heap.size := by
  obtain ⟨c, t, h, _⟩ := h
  exact get_lt h
theorem PlR.bel (h : PlR X lo pb gw lb lg n d v rs o pin wl) (hb : Below X.heap.size X Y) : PlR Y lo pb gw lb lg n d v rs o pin wl := h.kept hb.size fun k hk => hb.block k (pt_lt hk)
theorem Sl.bel (h : Sl X Bb sl rs) (hb : Below X.heap.size X Y) : Sl Y Bb sl rs := h.kept fun k c _ hc => hb.block k (get_lt hc)
theorem PlI.bel (h : PlI X lo Bb pb gw lb lg n d v sl o pin wl) (hb : Below X.heap.size X Y) : PlI Y lo Bb pb gw lb lg n d v sl o pin wl := h.kept hb.size (fun k hk => hb.block k (pt_lt hk)) fun k c _ hc => hb.block k (get_lt hc)
/-! what a pool's calls leave alone -/
structure PF (lo : Lo) (gw : Nat) (X Y : World) : Prop where
  os : Y.os = X.os
  tape : Y.tape = X.tape
  output : Y.output = X.output
  size : X.heap.size ≤ Y.heap.size
  low : ∀ k, (k < lo.n ∨ (lo.a ≤ k ∧ k < lo.b)) → Y.heap[k]? = X.heap[k]?
  keep : ∀ k, k < X.heap.size → ¬ Pt gw X k → Y.heap[k]? = X.heap[k]?
theorem PF.refl (X : World) : PF lo gw X X := ⟨rfl, rfl, rfl, Nat.le_refl _, fun _ _ => rfl, fun _ _ _ => rfl⟩
theorem pt_eq {k : Nat} (e : Y.heap[k]? = X.heap[k]?) : Pt gw Y k ↔ Pt gw X k := by unfold Pt; rw [e]
theorem PF.trans {Z : World} (h : PF lo gw X Y) (h' : PF lo gw Y Z) : PF lo gw X Z :=
  ⟨h'.os.trans h.os, h'.tape.trans h.tape, h'.output.trans h.output, Nat.le_trans h.size h'.size, fun k hk => (h'.low k hk).trans (h.low k hk), fun k hk hn => by
    have e := h.keep k hk hn
    exact (h'.keep k (by have := h.size; omega) (by rw [pt_eq e]; exact hn)).trans e⟩
theorem PF.of_below (hb : Below X.heap.size X Y) (hl : lo.n ≤ X.heap.size ∧ lo.b ≤ X.heap.size) : PF lo gw X Y := ⟨hb.os, hb.tape, hb.output, hb.size, fun k hk => hb.block k (by omega), fun k hk _ => hb.block k hk⟩
theorem PF.of_grown {r : Nat} (hg : X.grownBy Y (some r)) (hp : Pt gw X r) (hr : lo.ok r) (hi : lo.n ≤ X.heap.size ∧ lo.b ≤ X.heap.size) : PF lo gw X Y := by
  have hl := pt_lt hp
  exact ⟨hg.os, hg.tape, hg.output, hg.size, fun k hk => hg.block k (by omega) (fun e => by injection e with e; subst e; unfold Lo.ok at hr; omega), fun k hk hn => hg.block k hk (fun e => by injection e with e; subst e; exact hn hp)⟩
theorem PF.below (h : PF lo gw X Y) : Below lo.n X Y := ⟨h.os, h.tape, h.output, h.size, fun k hk => h.low k (.inl hk)⟩
theorem PF.u8 (h : PF lo gw X Y) {k : Nat} {c : Array Value} {t : Nat} {fr : Nat × Nat} (hk : X.heap[k]? = some (.cells c t fr)) (ht : t ≠ 71 ∧ t ≠ 83 ∧ t ≠ 105 ∧ t ≠ 109) (hg : k ≠ gw) : Y.heap[k]? = X.heap[k]? := by
  refine h.keep k (get_lt hk) fun ⟨c', t', e, h2⟩ => ?_
  rw [hk] at e
  injection e with e
  injection e with e1 e2 e3
  subst e2
  rcases h2 with h2 | h2 | h2 | h2 | h2
  · exact ht.1 h2
  · exact ht.2.1 h2
  · exact ht.2.2.1 h2
  · exact ht.2.2.2 h2
  · exact hg h2
theorem PlR.gw_int (h : PlR X lo pb gw lb lg n d v rs o pin wl) {k : Nat} {c : Array Value} {t : Nat} {fr : Nat × Nat} (hk : X.heap[k]? = some (.cells c t fr)) (ht : t ≠ 3) : k ≠ gw := by
  intro e
  subst e
  have := (show X.heap[k]? = _ from h.w).symm.trans hk
  injection this with this
  injection this with e1 e2 e3
  exact ht e2.symm
theorem Sl.pf (h : Sl X Bb sl rs) (hp : PlR X lo pb gw lb lg n d v rs o pin wl) (hf : PF lo gw X Y) : Sl Y Bb sl rs := h.kept fun k c _ hc => hf.u8 hc (by decide) (hp.gw_int hc (by decide))
/-! the cells -/
theorem PlR.lt (h : PlR X lo pb gw lb lg n d v rs o pin wl) : pb < X.heap.size := blk_lt h.p
theorem PlR.c0 (h : PlR X lo pb gw lb lg n d v rs o pin wl) : X.cell? ⟨pb, 0, none⟩ = some (.int .i64 d) := by rw [blk_cell h.p]; rfl
theorem PlR.c1 (h : PlR X lo pb gw lb lg n d v rs o pin wl) : X.cell? ⟨pb, 1, none⟩ = some (.int .i64 n) := by rw [blk_cell h.p]; rfl
theorem PlR.c2 (h : PlR X lo pb gw lb lg n d v rs o pin wl) : X.cell? ⟨pb, 2, none⟩ = some v := by rw [blk_cell h.p]; rfl
theorem PlR.c3 (h : PlR X lo pb gw lb lg n d v rs o pin wl) : X.cell? ⟨pb, 3, none⟩ = some (.slice (some ⟨gw, 0, none⟩) wl.length wl.length) := by rw [blk_cell h.p]; rfl
theorem PlR.c4 (h : PlR X lo pb gw lb lg n d v rs o pin wl) : X.cell? ⟨pb, 4, none⟩ = some (.pointer (some ⟨lb, 0, none⟩)) := by rw [blk_cell h.p]; rfl
theorem PlR.cw (h : PlR X lo pb gw lb lg n d v rs o pin wl) {k : Nat} (hk : k < wl.length) : X.cell? ⟨gw, k, none⟩ = some (.int .i64 (wl.getD k (-1))) := by
  rw [blk_cell h.w]
  show (cs .i64 wl)[k]? = _
  simp only [cs, List.getElem?_toArray, List.getElem?_map]
  rw [List.getElem?_eq_getElem hk, List.getD_eq_getElem?_getD, List.getElem?_eq_getElem hk]
  rfl
/-! may, slot -/
attribute [local go_sem ↓] load_pg store_pg
attribute [local go_sem] one_int pc3 run_load_pg run_store_pg midLoad_eq rowLoad_eq rowStore_eq blk_alloc_at blk_alloc_old blk_drew blk_drewN blk_set_far blk_set_far' blk_grow setRow_alloc_at setRow_alloc_old setRow_drew setRow_drewN
theorem blk_regrown {w : World} {g : Nat} {p : Obj} (h : blk w g = some p) (d : Nat) (os : Array Obj) : blk (Sort.grow (redrawn w d) os) g = some p := (blk_below (below_regrown w d os) _ (blk_lt h)).trans h
theorem may_nil (L X0 Y0 : Int) (w : World) :
    Calls Try.prog 35 #[.pointer none, pg L X0 Y0] w fun e w' => e = .returned (.bool false) ∧ Below w.heap.size w w' := by
  go_enter Try.func35, Try.ntmps35
  go_upto_region 1 with (fail)
  refine Rd.name_world ?_
  intro W hW
  have L1 : Below w.heap.size w W := by rw [hW]; repeat' (first | (with_reducible exact Below.refl _ _) | (with_reducible refine Rd.below_step ?_ (by assumption)) | (with_reducible refine Rd.below_alloc ?_ _) | (with_reducible refine Rd.below_drewN ?_ _) | (with_reducible refine Below.drew ?_) | (with_reducible refine Below.setCell ?_ ?_ _) | (with_reducible refine Rd.below_setRow ?_ ?_ _) | go_size | (simp only [World.size_alloc]; omega) | omega)
  clear hW
  (refine wp_region_quiet_below (by kernel_rfl) (by kernel_rfl) ?_; (repeat (go_big_quiet_step ((fail)))); refine wpQuiet_nil ?_)
  intro w2 hU
  have KU := Rd.below_of_regrown hU
  have L2 : Below w.heap.size w w2 := by repeat' (first | (with_reducible exact Below.refl _ _) | (with_reducible refine Rd.below_step ?_ (by assumption)) | (with_reducible refine Rd.below_alloc ?_ _) | (with_reducible refine Rd.below_drewN ?_ _) | (with_reducible refine Below.drew ?_) | (with_reducible refine Below.setCell ?_ ?_ _) | (with_reducible refine Rd.below_setRow ?_ ?_ _) | go_size | (simp only [World.size_alloc]; omega) | omega)
  clear hU KU
  go_wp2
  go_ret
  exact ⟨rfl, L2⟩
set_option maxHeartbeats 1000000 in
theorem may_any (L X0 Y0 : Int) (w : World) (h : PlR w lo pb gw lb lg n d v rs o pin wl) :
    Calls Try.prog 35 #[.pointer (some ⟨pb, 0, none⟩), pg L X0 Y0] w fun e w' => e = .returned (.bool (validB d L X0 Y0)) ∧ Below w.heap.size w w' := by
  have c0 := h.c0
  have c4 := h.c4
  have hl := h.lt
  clear h
  go_enter Try.func35, Try.ntmps35
  go_upto_region 1 with (fail)
  refine Rd.name_world ?_
  intro W hW
  have L1 : Below w.heap.size w W := by rw [hW]; repeat' (first | (with_reducible exact Below.refl _ _) | (with_reducible refine Rd.below_step ?_ (by assumption)) | (with_reducible refine Rd.below_alloc ?_ _) | (with_reducible refine Rd.below_drewN ?_ _) | (with_reducible refine Below.drew ?_) | (with_reducible refine Below.setCell ?_ ?_ _) | (with_reducible refine Rd.below_setRow ?_ ?_ _) | go_size | (simp only [World.size_alloc]; omega) | omega)
  have bP : blk W w.heap.size = some (.cells #[.int .i64 L, .int .i64 X0, .int .i64 Y0] 35 (0, 0)) := by rw [hW]; exact blk_alloc_at _ _ _ rfl
  have d0 : W.cell? ⟨pb, 0, none⟩ = some (.int .i64 d) := by rw [L1.cell (by exact hl)]; exact c0
  have d4 : W.cell? ⟨pb, 4, none⟩ = some (.pointer (some ⟨lb, 0, none⟩)) := by rw [L1.cell (by exact hl)]; exact c4
  clear hW c0 c4
  have g0 := Go.cell_regrown d0
  have g4 := Go.cell_regrown d4
  have gP := blk_regrown bP
  have CV := Lib.hid fun X => valid_any d L X0 Y0 X
  (refine wp_region_quiet_below (by kernel_rfl) (by kernel_rfl) ?_; (repeat (go_big_quiet_step (((with_reducible exact Calls.regrown_of (CV.out _)))))); refine wpQuiet_nil ?_)
  intro w2 hU
  have KU := Rd.below_of_regrown hU
  have L2 : Below w.heap.size w w2 := by repeat' (first | (with_reducible exact Below.refl _ _) | (with_reducible refine Rd.below_step ?_ (by assumption)) | (with_reducible refine Rd.below_alloc ?_ _) | (with_reducible refine Rd.below_drewN ?_ _) | (with_reducible refine Below.drew ?_) | (with_reducible refine Below.setCell ?_ ?_ _) | (with_reducible refine Rd.below_setRow ?_ ?_ _) | go_size | (simp only [World.size_alloc]; omega) | omega)
  clear hU KU
  go_wp2
  go_ret
  exact ⟨rfl, L2⟩
theorem slot_no (L X0 Y0 : Int) (w : World) (h : PlR w lo pb gw lb lg n d v rs o pin wl) (hv : validB d L X0 Y0 = false) :
    Calls Try.prog 32 #[.pointer (some ⟨pb, 0, none⟩), pg L X0 Y0] w fun e w' => e = .returned (.int .i64 (-1)) ∧ Below w.heap.size w w' := by
  have H := Lib.hid h
  have hl := h.lt
  have HV := Lib.hid hv
  clear h hv
  go_enter Try.func32, Try.ntmps32
  go_wp2_with fail
  refine (may_any L X0 Y0 _ (H.out.bel (by repeat' (first | (with_reducible exact Below.refl _ _) | (with_reducible refine Rd.below_step ?_ (by assumption)) | (with_reducible refine Rd.below_alloc ?_ _) | (with_reducible refine Rd.below_drewN ?_ _) | (with_reducible refine Below.drew ?_) | (with_reducible refine Below.setCell ?_ ?_ _) | (with_reducible refine Rd.below_setRow ?_ ?_ _) | go_size | (simp only [World.size_alloc]; omega) | omega)))).mono ?_
  rw [HV.out]
  rintro e w1 ⟨rfl, hb1⟩
  have L1 : Below w.heap.size w w1 := by repeat' (first | (with_reducible exact Below.refl _ _) | (with_reducible refine Rd.below_step ?_ (by assumption)) | (with_reducible refine Rd.below_alloc ?_ _) | (with_reducible refine Rd.below_drewN ?_ _) | (with_reducible refine Below.drew ?_) | (with_reducible refine Below.setCell ?_ ?_ _) | (with_reducible refine Rd.below_setRow ?_ ?_ _) | go_size | (simp only [World.size_alloc]; omega) | omega)
  clear hb1
  go_wp2
  go_ret
  exact ⟨rfl, L1⟩
theorem slot_nil (L X0 Y0 : Int) (w : World) :
    Calls Try.prog 32 #[.pointer none, pg L X0 Y0] w fun e w' => e = .returned (.int .i64 (-1)) ∧ Below w.heap.size w w' := by
  go_enter Try.func32, Try.ntmps32
  go_wp2_with fail
  refine (may_nil L X0 Y0 _).mono ?_
  rintro e w1 ⟨rfl, hb1⟩
  have L1 : Below w.heap.size w w1 := by repeat' (first | (with_reducible exact Below.refl _ _) | (with_reducible refine Rd.below_step ?_ (by assumption)) | (with_reducible refine Rd.below_alloc ?_ _) | (with_reducible refine Rd.below_drewN ?_ _) | (with_reducible refine Below.drew ?_) | (with_reducible refine Below.setCell ?_ ?_ _) | (with_reducible refine Rd.below_setRow ?_ ?_ _) | go_size | (simp only [World.size_alloc]; omega) | omega)
  clear hb1
  go_wp2
  go_ret
  exact ⟨rfl, L1⟩
theorem slot_yes (L X0 Y0 z : Int) (k : Nat) (w : World) (h : PlR w lo pb gw lb lg n d v rs o pin wl) (hv : validB d L X0 Y0 = true) (hk : keyV d L X0 Y0 = (k : Int)) (hkl : k < wl.length) (hw : wl.length ≤ 85) (hz : wl.getD k (-1) = z) :
    Calls Try.prog 32 #[.pointer (some ⟨pb, 0, none⟩), pg L X0 Y0] w fun e w' => e = .returned (.int .i64 z) ∧ Below w.heap.size w w' := by
  have H := Lib.hid h
  have hl := h.lt
  have HV := Lib.hid hv
  have cw := h.cw hkl
  rw [hz] at cw
  have c0 := h.c0
  have c3 := h.c3
  have hgl := blk_lt h.w
  have CK : Hid (∀ X, Calls Try.prog 38 #[.int .i64 d, pg L X0 Y0] X fun e w' => e = .returned (.int .i64 (k : Int)) ∧ Below X.heap.size X w') := Lib.hid fun X => by rw [← hk]; exact key_any d L X0 Y0 X
  clear h hv hk hz
  go_enter Try.func32, Try.ntmps32
  go_upto_region 1 with (fail)
  refine Rd.name_world ?_
  intro W hW
  have L0 : Below w.heap.size w W := by rw [hW]; repeat' (first | (with_reducible exact Below.refl _ _) | (with_reducible refine Rd.below_step ?_ (by assumption)) | (with_reducible refine Rd.below_alloc ?_ _) | (with_reducible refine Rd.below_drewN ?_ _) | (with_reducible refine Below.drew ?_) | (with_reducible refine Below.setCell ?_ ?_ _) | (with_reducible refine Rd.below_setRow ?_ ?_ _) | go_size | (simp only [World.size_alloc]; omega) | omega)
  have bP0 : blk W w.heap.size = some (.cells #[.int .i64 L, .int .i64 X0, .int .i64 Y0] 35 (0, 0)) := by rw [hW]; exact blk_alloc_at _ _ _ rfl
  clear hW
  go_wp2_with fail
  refine (may_any L X0 Y0 _ (H.out.bel L0)).mono ?_
  rw [HV.out]
  rintro e w1 ⟨rfl, hb1⟩
  have L1 : Below w.heap.size w w1 := by repeat' (first | (with_reducible exact Below.refl _ _) | (with_reducible refine Rd.below_step ?_ (by assumption)) | (with_reducible refine Rd.below_alloc ?_ _) | (with_reducible refine Rd.below_drewN ?_ _) | (with_reducible refine Below.drew ?_) | (with_reducible refine Below.setCell ?_ ?_ _) | (with_reducible refine Rd.below_setRow ?_ ?_ _) | go_size | (simp only [World.size_alloc]; omega) | omega)
  have bP : blk w1 w.heap.size = some (.cells #[.int .i64 L, .int .i64 X0, .int .i64 Y0] 35 (0, 0)) := (blk_below hb1 _ (blk_lt bP0)).trans bP0
  have g0 := Go.cell_regrown (w := w1) (a := ⟨pb, 0, none⟩) (by rw [L1.cell (by exact hl)]; exact c0)
  have g3 := Go.cell_regrown (w := w1) (a := ⟨pb, 3, none⟩) (by rw [L1.cell (by exact hl)]; exact c3)
  have gw := Go.cell_regrown (w := w1) (a := ⟨gw, k, none⟩) (by rw [L1.cell (by exact hgl)]; exact cw)
  have gP := blk_regrown bP
  clear hb1 L0 bP0 c0 c3 cw bP
  go_upto_region 3 with (fail)
  (refine wp_region_quiet_below (by kernel_rfl) (by kernel_rfl) ?_; (repeat (go_big_quiet_step (((with_reducible exact Calls.regrown_of (CK.out _)))))); refine wpQuiet_nil ?_)
  intro w2 hU
  have KU := Rd.below_of_regrown hU
  have L2 : Below w.heap.size w w2 := by repeat' (first | (with_reducible exact Below.refl _ _) | (with_reducible refine Rd.below_step ?_ (by assumption)) | (with_reducible refine Rd.below_alloc ?_ _) | (with_reducible refine Rd.below_drewN ?_ _) | (with_reducible refine Below.drew ?_) | (with_reducible refine Below.setCell ?_ ?_ _) | (with_reducible refine Rd.below_setRow ?_ ?_ _) | go_size | (simp only [World.size_alloc]; omega) | omega)
  clear hU KU
  go_wp2
  go_ret
  exact ⟨rfl, L2⟩
/-! what is handed out and in -/
theorem info_u8 : (Try.prog.info? 5).map (fun i => (i.zero, i.size, i.bytes)) = some (some (.int .u8 0), 1, 1) := by kernel_rfl
theorem one_us (l : List Int) : ∀ u ∈ us l, u.oneCell' = true := by
  intro u hu
  obtain ⟨z, -, rfl⟩ := List.mem_map.1 hu
  rfl
set_option maxHeartbeats 2000000 in
theorem clone_any (a : Addr) (n c : Nat) (zs : List Int) (w : World) (hr : Reads w 1 (some a) n (us zs)) (hn : n ≤ 1000000) :
    Calls Try.prog 36 #[.slice (some a) n c] w fun e w' => ∃ v', e = .returned v' ∧ w'.ownsRow w.heap.size 5 1 v' n (us zs) ∧ Below w.heap.size w w' := by
  obtain ⟨i0, hi, hz0, hz1, hz2⟩ := info_parts info_u8
  have q22 : ∀ (w : World) (a : Option Addr) (n c n' c' : Nat), (binOp .eql 22 (.slice a n c) (.slice none n' c')).run Try.prog w = .ok (.bool a.isNone) w := fun w a n c n' c' => Lib.run_eql_slice_nil w _ _ a n c n' c' Try.underlying22
  have hl : zs.length = n := by have := hr.1; simpa [us] using this
  have hmade := World.ownsRow_made w (e := 5) (size := 1) (base := w.heap.size) #[] 0 (Nat.le_refl _) (by decide) rfl
  have hB : Below w.heap.size w (w.alloc (.cells #[] 5)) := (Below.refl _ _).alloc (Nat.le_refl _) _
  have RA := hr.below hB (Nat.le_refl _)
  have ones := one_us zs
  clear hr
  go_enter Try.func36, Try.ntmps36
  go_wp2_with (at_builtin; refine App.wpList_append_reads _ rfl (.tmp 5) (.tmp 6) 22 rfl w.heap.size 5 i0 (.int .u8 0) 1 1 Try.underlying22 hi hz0 hz1 hz2 rfl (by decide) _ _ _ rfl hmade (some a) n c (us zs) rfl RA ones (by unfold maxLen; omega) (by omega) (by simp) ?_; intro v3 w3 hown3 hgrow3)
  go_ret
  have L3 := hB.grown hgrow3 (by simp) (fun j hj => (hmade.lt j hj).1)
  exact ⟨_, rfl, by simpa using hown3, L3⟩
/-! a slot's cells -/
theorem sl_at {X : World} {T : TypeId} {bs : Nat} (hr : X.ownsRow bs T 4 v rs.length (DkM.fl rs)) (h4 : ∀ l ∈ rs, l.length = 4) {i : Nat} (hi : i < rs.length) {pg : List Int} {u : Value} (he : rs.getD i [] = slotV pg u) :
    ∃ g cap cur, v = .slice (some ⟨g, 0, none⟩) rs.length cap ∧ bs ≤ g ∧ blk X g = some (.cells cur T (0, 0)) ∧ i * 4 + 4 ≤ cur.size ∧ Mid.piece cur (i * 4) 3 = #[.int .i64 (PgM.g pg 0), .int .i64 (PgM.g pg 1), .int .i64 (PgM.g pg 2)] ∧ X.cell? ⟨g, i * 4 + 3, none⟩ = some u := by
  obtain ⟨hl, h2⟩ := hr
  rcases h2 with ⟨_, h0⟩ | ⟨g, cap, cur, e, hb, hg, hc, hm, hs, ht⟩
  · omega
  · have hi4 : i * 4 + 4 ≤ rs.length * 4 := by omega
    have hcap : rs.length * 4 ≤ cap * 4 := Nat.mul_le_mul_right 4 hc
    have hri : rs[i] = slotV pg u := by
      rw [List.getD_eq_getElem?_getD, List.getElem?_eq_getElem hi] at he
      exact he
    have hat : ∀ j, j < 4 → cur[i * 4 + j]? = (slotV pg u)[j]? := by
      intro j hj
      have h1 := DkM.fl_at h4 hi hj
      rw [hri, ← ht, List.getElem?_take_of_lt (by omega), Array.getElem?_toList] at h1
      exact h1
    refine ⟨g, cap, cur, e, hb, hg, by omega, ?_, ?_⟩
    · apply Array.ext_getElem?
      intro j
      unfold Mid.piece
      rw [Array.getElem?_extract]
      by_cases hj : j < 3
      · rw [if_pos (by omega), hat j (by omega)]
        rcases (show j = 0 ∨ j = 1 ∨ j = 2 by omega) with rfl | rfl | rfl <;> rfl
      · rw [if_neg (by omega)]
        simp
        omega
    · rw [blk_cell hg]
      exact hat 3 (by omega)
end Go.Proofs.Ytkklppjimnkibaa.PoA

namespace Go.Proofs.Ytkklppjimnkibaa.PoB
open Go.RowKit Rd Go.Proofs.Ytkklppjimnkibaa.Row Mid LrM LrA LrB LrP PgM PgA PgB PgN PoM PoA
open Go.Proofs.Ytkklppjimnkibaa.PgC (three len3 eqL eq_pg3)
open Go.Proofs.Ytkklppjimnkibaa.PoD (us us_len By)
open Go.Proofs.Ytkklppjimnkibaa.Num (ret_int ret_bool)
open It (get_lt)
open Go.Proofs.Ytkklppjimnkibaa.MpE (owns_mono)
set_option linter.unusedVariables false
set_option linter.unusedSimpArgs false
set_option maxRecDepth 10000
def pin0 : Nat → Bool := put (fun _ => false) 0 true
/-- a pool -/
def Pl (X : World) (lo : Lo) (Bb : Nat → Prop) (pb gw n d : Nat) (R : List Ent) : Prop := ∃ lb lg v sl o wl, PlI X lo Bb pb gw lb lg n d v sl o pin0 wl ∧ Rel n d sl o wl ∧ R = rowR sl o
variable {X Y : World} {lo : Lo} {pb gw lb lg n d : Nat} {v : Value} {rs : List (List Value)} {o : List Nat} {pin : Nat → Bool} {wl : List Int} {Bb : Nat → Prop} {sl : List Ent} {R : List Ent}
theorem Pl.kept (h : Pl X lo Bb pb gw n d R) (hs : X.heap.size ≤ Y.heap.size) (hk : ∀ k, Pt gw X k → Y.heap[k]? = X.heap[k]?) (hk' : ∀ k c, Bb k → X.heap[k]? = some (.cells c 5 (0, 0)) → Y.heap[k]? = X.heap[k]?) : Pl Y lo Bb pb gw n d R := by
  obtain ⟨lb, lg, v, sl, o, wl, h1, h2⟩ := h
  exact ⟨lb, lg, v, sl, o, wl, h1.kept hs hk hk', h2⟩
theorem Pl.bel (h : Pl X lo Bb pb gw n d R) (hb : Below X.heap.size X Y) : Pl Y lo Bb pb gw n d R := by
  obtain ⟨lb, lg, v, sl, o, wl, h1, h2⟩ := h
  exact ⟨lb, lg, v, sl, o, wl, h1.bel hb, h2⟩
theorem Pl.mono {Bb' : Nat → Prop} (h : Pl X lo Bb pb gw n d R) (hm : ∀ k, k < X.heap.size → Bb k → Bb' k) : Pl X lo Bb' pb gw n d R := by
  obtain ⟨lb, lg, v, sl, o, wl, h1, h2⟩ := h
  exact ⟨lb, lg, v, sl, o, wl, h1.mono hm, h2⟩
theorem Pl.d3 (h : Pl X lo Bb pb gw n d R) : d ≤ 3 := by
  obtain ⟨lb, lg, v, sl, o, wl, h1, h2, _⟩ := h
  exact h2.d3
theorem Pl.len (h : Pl X lo Bb pb gw n d R) : 1 ≤ R.length ∧ R.length ≤ n ∧ n ≤ 128 := by
  obtain ⟨lb, lg, v, sl, o, wl, ⟨rs, _, h1, _⟩, h2, rfl⟩ := h
  rw [h2.len]
  exact ⟨h2.k1, h2.kn, h1.l.small.2⟩
theorem pg_iff {L X0 Y0 : Int} : Pg d [L, X0, Y0] ↔ validB d L X0 Y0 = true := ⟨fun h => h.2, fun h => ⟨rfl, h⟩⟩
theorem wl_small (h : Rel n d sl o wl) : wl.length ≤ 85 := by rw [h.wlen]; exact all_small _
/-- where a page stands -/
theorem slot_case (h : Rel n d sl o wl) (L X0 Y0 : Int) :
    (∃ i, i < sl.length ∧ (ent sl i).1 = [L, X0, Y0] ∧ ∀ (lo : Lo) (pb gw lb lg : Nat) v rs o' pin (w : World), PlR w lo pb gw lb lg n d v rs o' pin wl → Calls Try.prog 32 #[.pointer (some ⟨pb, 0, none⟩), pg L X0 Y0] w fun e w' => e = .returned (.int .i64 i) ∧ Below w.heap.size w w') ∨
    (ixR (rowR sl o) [L, X0, Y0] = none ∧ ∀ (lo : Lo) (pb gw lb lg : Nat) v rs o' pin (w : World), PlR w lo pb gw lb lg n d v rs o' pin wl → Calls Try.prog 32 #[.pointer (some ⟨pb, 0, none⟩), pg L X0 Y0] w fun e w' => e = .returned (.int .i64 (-1)) ∧ Below w.heap.size w w') := by
  cases hv : validB d L X0 Y0 with
  | false => exact .inr ⟨h.bad (fun e => by rw [pg_iff, hv] at e; cases e), fun _ _ _ _ _ _ _ _ _ w hp => slot_no L X0 Y0 w hp hv⟩
  | true =>
    have hp := pg_iff.2 hv
    obtain ⟨k1, k2⟩ := key_int h.d3 hp
    rcases h.hit hp with ⟨i, hi, e, hw⟩ | ⟨_, hw, hx⟩
    · exact .inl ⟨i, hi, e, fun _ _ _ _ _ _ _ _ _ w hp => slot_yes L X0 Y0 i (keyN d [L, X0, Y0]) w hp hv k1 (by rw [h.wlen]; exact k2) (wl_small h) hw⟩
    · exact .inr ⟨hx, fun _ _ _ _ _ _ _ _ _ w hp => slot_yes L X0 Y0 (-1) (keyN d [L, X0, Y0]) w hp hv k1 (by rw [h.wlen]; exact k2) (wl_small h) hw⟩
theorem ix_some (h : Rel n d sl o wl) {i : Nat} (hi : i < sl.length) : ∃ k, ixR (rowR sl o) (ent sl i).1 = some k := by
  obtain ⟨p, s, _, _, _, _, e⟩ := h.cut hi
  exact ⟨_, e⟩
attribute [local go_sem ↓] load_pg store_pg
attribute [local go_sem] one_int pc3 run_load_pg run_store_pg midLoad_eq rowLoad_eq rowStore_eq blk_alloc_at blk_alloc_old blk_drew blk_drewN blk_set_far blk_set_far' blk_grow setRow_alloc_at setRow_alloc_old setRow_drew setRow_drewN
theorem has_any (L X0 Y0 : Int) (w : World) (h : Pl w lo Bb pb gw n d R) :
    Calls Try.prog 20 #[.pointer (some ⟨pb, 0, none⟩), pg L X0 Y0] w fun e w' => e = .returned (.bool (hasR R [L, X0, Y0])) ∧ Below w.heap.size w w' := by
  obtain ⟨lb, lg, v, sl, o, wl, ⟨rs, hl, hp, hs⟩, hr, rfl⟩ := h
  have HP := Lib.hid hp
  rcases slot_case hr L X0 Y0 with ⟨i, hi, e, C⟩ | ⟨e, C⟩
  · have CS := Lib.hid (C lo pb gw lb lg v rs o pin0)
    obtain ⟨k, hk⟩ := ix_some hr hi
    have E := Lib.hid (show hasR (rowR sl o) [L, X0, Y0] = true by unfold hasR; rw [← e, hk]; rfl)
    have hne : ¬ ((i : Int) = -1) := by omega
    clear hp hs hr C e hk hl hi
    go_enter Try.func20, Try.ntmps20
    go_wp2_with fail
    refine (CS.out _ (HP.out.bel (by repeat' (first | (with_reducible exact Below.refl _ _) | (with_reducible refine Rd.below_step ?_ (by assumption)) | (with_reducible refine Rd.below_alloc ?_ _) | (with_reducible refine Rd.below_drewN ?_ _) | (with_reducible refine Below.drew ?_) | (with_reducible refine Below.setCell ?_ ?_ _) | (with_reducible refine Rd.below_setRow ?_ ?_ _) | go_size | (simp only [World.size_alloc]; omega) | omega)))).mono ?_
    rintro e w1 ⟨rfl, hb1⟩
    have L1 : Below w.heap.size w w1 := by repeat' (first | (with_reducible exact Below.refl _ _) | (with_reducible refine Rd.below_step ?_ (by assumption)) | (with_reducible refine Rd.below_alloc ?_ _) | (with_reducible refine Rd.below_drewN ?_ _) | (with_reducible refine Below.drew ?_) | (with_reducible refine Below.setCell ?_ ?_ _) | (with_reducible refine Rd.below_setRow ?_ ?_ _) | go_size | (simp only [World.size_alloc]; omega) | omega)
    clear hb1 CS
    go_wp2
    go_ret
    exact ⟨by rw [E.out]; first | rfl | simp, L1⟩
  · have CS := Lib.hid (C lo pb gw lb lg v rs o pin0)
    have E := Lib.hid (show hasR (rowR sl o) [L, X0, Y0] = false by unfold hasR; rw [e]; rfl)
    clear hp hs hr C e hl
    go_enter Try.func20, Try.ntmps20
    go_wp2_with fail
    refine (CS.out _ (HP.out.bel (by repeat' (first | (with_reducible exact Below.refl _ _) | (with_reducible refine Rd.below_step ?_ (by assumption)) | (with_reducible refine Rd.below_alloc ?_ _) | (with_reducible refine Rd.below_drewN ?_ _) | (with_reducible refine Below.drew ?_) | (with_reducible refine Below.setCell ?_ ?_ _) | (with_reducible refine Rd.below_setRow ?_ ?_ _) | go_size | (simp only [World.size_alloc]; omega) | omega)))).mono ?_
    rintro e w1 ⟨rfl, hb1⟩
    have L1 : Below w.heap.size w w1 := by repeat' (first | (with_reducible exact Below.refl _ _) | (with_reducible refine Rd.below_step ?_ (by assumption)) | (with_reducible refine Rd.below_alloc ?_ _) | (with_reducible refine Rd.below_drewN ?_ _) | (with_reducible refine Below.drew ?_) | (with_reducible refine Below.setCell ?_ ?_ _) | (with_reducible refine Rd.below_setRow ?_ ?_ _) | go_size | (simp only [World.size_alloc]; omega) | omega)
    clear hb1 CS
    go_wp2
    go_ret
    exact ⟨by rw [E.out]; first | rfl | simp, L1⟩
set_option maxHeartbeats 1000000 in
theorem get_any (L X0 Y0 : Int) (w : World) (h : Pl w lo Bb pb gw n d R) :
    Calls Try.prog 17 #[.pointer (some ⟨pb, 0, none⟩), pg L X0 Y0] w fun e w' => (∃ u, e = .returned (.tuple #[u, .bool (hasR R [L, X0, Y0])]) ∧ (hasR R [L, X0, Y0] = true → w'.ownsRow w.heap.size 5 1 u 144 (us (bytesR R [L, X0, Y0]))) ∧ (hasR R [L, X0, Y0] = false → u = .slice none 0 0)) ∧ Below w.heap.size w w' := by
  obtain ⟨lb, lg, v, sl, o, wl, ⟨rs, hl, hp, hs⟩, hr, rfl⟩ := h
  have HP := Lib.hid hp
  rcases slot_case hr L X0 Y0 with ⟨i, hi, e, C⟩ | ⟨e, C⟩
  · have CS := Lib.hid (C lo pb gw lb lg v rs o pin0)
    obtain ⟨k, hk⟩ := ix_some hr hi
    have E := Lib.hid (show hasR (rowR sl o) [L, X0, Y0] = true by unfold hasR; rw [← e, hk]; rfl)
    have E2 := Lib.hid (show bytesR (rowR sl o) [L, X0, Y0] = (ent sl i).2 by rw [← e]; exact hr.val hi)
    have hne : ¬ ((i : Int) = -1) := by omega
    obtain ⟨u, hu1, hu2, -⟩ := hs i hi
    obtain ⟨g, cap, cur, rfl, -, hg, -, -, hcu⟩ := sl_at hp.r hp.r4 (by rw [hl]; exact hi) hu1
    have hii : i < rs.length := by rw [hl]; exact hi
    have hgl := blk_lt hg
    have hgl0 := hp.lt
    obtain ⟨ag, ac, rfl, -⟩ := owns_pos hu2 (by decide)
    have HU := Lib.hid hu2
    have c2 := hp.c2
    clear hp hs hr C e hk hl hi hu1 hu2 hg
    go_enter Try.func17, Try.ntmps17
    go_wp2_with fail
    refine (CS.out _ (HP.out.bel (by repeat' (first | (with_reducible exact Below.refl _ _) | (with_reducible refine Rd.below_step ?_ (by assumption)) | (with_reducible refine Rd.below_alloc ?_ _) | (with_reducible refine Rd.below_drewN ?_ _) | (with_reducible refine Below.drew ?_) | (with_reducible refine Below.setCell ?_ ?_ _) | (with_reducible refine Rd.below_setRow ?_ ?_ _) | go_size | (simp only [World.size_alloc]; omega) | omega)))).mono ?_
    rintro e w1 ⟨rfl, hb1⟩
    have L1 : Below w.heap.size w w1 := by repeat' (first | (with_reducible exact Below.refl _ _) | (with_reducible refine Rd.below_step ?_ (by assumption)) | (with_reducible refine Rd.below_alloc ?_ _) | (with_reducible refine Rd.below_drewN ?_ _) | (with_reducible refine Below.drew ?_) | (with_reducible refine Below.setCell ?_ ?_ _) | (with_reducible refine Rd.below_setRow ?_ ?_ _) | go_size | (simp only [World.size_alloc]; omega) | omega)
    have d2 := (L1.cell (p := ⟨pb, 2, none⟩) hgl0).trans c2
    have d3 := (L1.cell (p := ⟨g, i * 4 + 3, none⟩) hgl).trans hcu
    have RD := Reads.of_owns (own_same HU.out fun k hk => L1.block k (by obtain ⟨c, hc, _⟩ := own_pos' HU.out hk; exact get_lt hc))
    have CC := Lib.hid (clone_any _ 144 ac _ _ RD (by decide))
    clear hb1 CS c2 hcu RD
    go_wp2_with fail
    refine CC.out.mono ?_
    rintro e w2 ⟨u, rfl, hu, hb2⟩
    have L2 := Rd.below_step L1 hb2
    have hsz := L1.size
    clear CC hb2
    go_wp2
    go_ret2
    rw [E.out, E2.out]
    exact ⟨⟨_, rfl, ⟨fun _ => owns_mono hu hsz, fun (e : true = false) => by cases e⟩⟩, L2⟩
  · have CS := Lib.hid (C lo pb gw lb lg v rs o pin0)
    have E := Lib.hid (show hasR (rowR sl o) [L, X0, Y0] = false by unfold hasR; rw [e]; rfl)
    clear hp hs hr C e hl
    go_enter Try.func17, Try.ntmps17
    go_wp2_with fail
    refine (CS.out _ (HP.out.bel (by repeat' (first | (with_reducible exact Below.refl _ _) | (with_reducible refine Rd.below_step ?_ (by assumption)) | (with_reducible refine Rd.below_alloc ?_ _) | (with_reducible refine Rd.below_drewN ?_ _) | (with_reducible refine Below.drew ?_) | (with_reducible refine Below.setCell ?_ ?_ _) | (with_reducible refine Rd.below_setRow ?_ ?_ _) | go_size | (simp only [World.size_alloc]; omega) | omega)))).mono ?_
    rintro e w1 ⟨rfl, hb1⟩
    have L1 : Below w.heap.size w w1 := by repeat' (first | (with_reducible exact Below.refl _ _) | (with_reducible refine Rd.below_step ?_ (by assumption)) | (with_reducible refine Rd.below_alloc ?_ _) | (with_reducible refine Rd.below_drewN ?_ _) | (with_reducible refine Below.drew ?_) | (with_reducible refine Below.setCell ?_ ?_ _) | (with_reducible refine Rd.below_setRow ?_ ?_ _) | go_size | (simp only [World.size_alloc]; omega) | omega)
    clear hb1 CS
    go_wp2
    go_ret2
    rw [E.out]
    exact ⟨⟨_, rfl, ⟨fun (e : false = true) => (by cases e), fun _ => rfl⟩⟩, L1⟩
theorem len_any (w : World) (h : Pl w lo Bb pb gw n d R) :
    Calls Try.prog 22 #[.pointer (some ⟨pb, 0, none⟩)] w fun e w' => e = .returned (.int .i64 R.length) ∧ Below w.heap.size w w' := by
  obtain ⟨lb, lg, v, sl, o, wl, ⟨rs, hl, hp, hs⟩, hr, rfl⟩ := h
  have c2 := hp.c2
  have hlen := hr.len
  have hn := hr.kn
  have hn' := hp.l.small
  obtain ⟨u, hu1, -⟩ := hs 0 hr.k1
  obtain ⟨g, cap, cur, rfl, -⟩ := sl_at hp.r hp.r4 (by rw [hl]; exact hr.k1) hu1
  rw [hlen]
  clear hp hs hr hu1 hlen
  go_enter Try.func22, Try.ntmps22
  go_wp2
  go_ret
  exact ⟨rfl, by repeat' (first | (with_reducible exact Below.refl _ _) | (with_reducible refine Rd.below_step ?_ (by assumption)) | (with_reducible refine Rd.below_alloc ?_ _) | (with_reducible refine Rd.below_drewN ?_ _) | (with_reducible refine Below.drew ?_) | (with_reducible refine Below.setCell ?_ ?_ _) | (with_reducible refine Rd.below_setRow ?_ ?_ _) | go_size | (simp only [World.size_alloc]; omega) | omega)⟩
theorem len_nil (w : World) :
    Calls Try.prog 22 #[.pointer none] w fun e w' => e = .returned (.int .i64 0) ∧ Below w.heap.size w w' := by
  go_enter Try.func22, Try.ntmps22
  go_wp2
  go_ret
  exact ⟨rfl, by repeat' (first | (with_reducible exact Below.refl _ _) | (with_reducible refine Rd.below_step ?_ (by assumption)) | (with_reducible refine Rd.below_alloc ?_ _) | (with_reducible refine Rd.below_drewN ?_ _) | (with_reducible refine Below.drew ?_) | (with_reducible refine Below.setCell ?_ ?_ _) | (with_reducible refine Rd.below_setRow ?_ ?_ _) | go_size | (simp only [World.size_alloc]; omega) | omega)⟩
/-! Touch -/
theorem PlR.touched {w' : World} {o' : List Nat} {pin' : Nat → Bool} (h : PlR X lo pb gw lb lg n d v rs o pin wl) (hl : St w' lb lg n o' pin') (hg : X.grownBy w' (some lg)) : PlR w' lo pb gw lb lg n d v rs o' pin' wl ∧ PF lo gw X w' := by
  have hlt := h.l.lt
  obtain ⟨old, yng, h1, h2⟩ := h.l
  obtain ⟨c, hc, -⟩ := h1.g
  have hne : ∀ {k : Nat} {c' : Array Value} {t : Nat}, X.heap[k]? = some (.cells c' t (0, 0)) → t ≠ 109 → w'.heap[k]? = X.heap[k]? := fun {k c' t} hk ht => hg.block k (get_lt hk) (fun e => by
    injection e with e
    subst e
    have := hk.symm.trans hc
    injection this with this
    injection this with e1 e2
    exact ht e2)
  refine ⟨⟨(hne h.p (by decide)).trans h.p, (hne h.w (by decide)).trans h.w, own_same h.r fun k e => ?_, h.rv, h.r4, hl, h.okk, by have := h.hi; have := hg.size; omega⟩, PF.of_grown hg ⟨c, _, hc, .inr (.inr (.inr (.inl rfl)))⟩ h.okk.2.2.2 h.hi⟩
  obtain ⟨c', hc', _⟩ := own_pos' h.r e
  exact hne hc' (by decide)
theorem touch_any (L X0 Y0 : Int) (w : World) (h : Pl w lo Bb pb gw n d R) :
    Calls Try.prog 15 #[.pointer (some ⟨pb, 0, none⟩), pg L X0 Y0] w fun e w' => e = .returned (.bool (hasR R [L, X0, Y0])) ∧ Pl w' lo Bb pb gw n d (touchR R [L, X0, Y0]) ∧ PF lo gw w w' := by
  obtain ⟨lb, lg, v, sl, o, wl, ⟨rs, hl, hp, hs⟩, hr, rfl⟩ := h
  have HP := Lib.hid hp
  have HS := Lib.hid hs
  have hlow := hp.hi
  rcases slot_case hr L X0 Y0 with ⟨i, hi, e, C⟩ | ⟨e, C⟩
  · have CS := Lib.hid (C lo pb gw lb lg v rs o pin0)
    obtain ⟨k, hk⟩ := ix_some hr hi
    have E := Lib.hid (show hasR (rowR sl o) [L, X0, Y0] = true by unfold hasR; rw [← e, hk]; rfl)
    have HR := Lib.hid (hr.used hi)
    have E2 := Lib.hid e
    have hne : ¬ ((i : Int) = -1) := by omega
    have hin : i < n := by have := hr.kn; omega
    clear hp hs hr C e hk hi
    go_enter Try.func15, Try.ntmps15
    go_wp2_with fail
    refine (CS.out _ (HP.out.bel (by repeat' (first | (with_reducible exact Below.refl _ _) | (with_reducible refine Rd.below_step ?_ (by assumption)) | (with_reducible refine Rd.below_alloc ?_ _) | (with_reducible refine Rd.below_drewN ?_ _) | (with_reducible refine Below.drew ?_) | (with_reducible refine Below.setCell ?_ ?_ _) | (with_reducible refine Rd.below_setRow ?_ ?_ _) | go_size | (simp only [World.size_alloc]; omega) | omega)))).mono ?_
    rintro e w1 ⟨rfl, hb1⟩
    have L1 : Below w.heap.size w w1 := by repeat' (first | (with_reducible exact Below.refl _ _) | (with_reducible refine Rd.below_step ?_ (by assumption)) | (with_reducible refine Rd.below_alloc ?_ _) | (with_reducible refine Rd.below_drewN ?_ _) | (with_reducible refine Below.drew ?_) | (with_reducible refine Below.setCell ?_ ?_ _) | (with_reducible refine Rd.below_setRow ?_ ?_ _) | go_size | (simp only [World.size_alloc]; omega) | omega)
    have HP1 := Lib.hid (HP.out.bel L1)
    have HS1 := Lib.hid (HS.out.bel L1)
    have c4 := HP1.out.c4
    clear hb1 CS
    go_wp2_with fail
    refine (touch_yes i _ HP1.out.l hin).mono ?_
    rintro e w2 ⟨rfl, h2, g2⟩
    obtain ⟨q1, q2⟩ := PlR.touched HP1.out h2 g2
    have Q1 := Lib.hid q1
    have Q2 := Lib.hid q2
    clear h2 g2 q1 q2
    go_wp2
    go_ret
    rw [E.out]
    exact ⟨rfl, ⟨lb, lg, v, sl, _, wl, ⟨rs, hl, Q1.out, HS1.out.pf HP1.out Q2.out⟩, HR.out.1, by rw [HR.out.2, E2.out]⟩, (PF.of_below L1 hlow).trans Q2.out⟩
  · have CS := Lib.hid (C lo pb gw lb lg v rs o pin0)
    have E := Lib.hid (show hasR (rowR sl o) [L, X0, Y0] = false by unfold hasR; rw [e]; rfl)
    have E2 := Lib.hid (used_not e)
    have HR := Lib.hid hr
    clear hp hs hr C e
    go_enter Try.func15, Try.ntmps15
    go_wp2_with fail
    refine (CS.out _ (HP.out.bel (by repeat' (first | (with_reducible exact Below.refl _ _) | (with_reducible refine Rd.below_step ?_ (by assumption)) | (with_reducible refine Rd.below_alloc ?_ _) | (with_reducible refine Rd.below_drewN ?_ _) | (with_reducible refine Below.drew ?_) | (with_reducible refine Below.setCell ?_ ?_ _) | (with_reducible refine Rd.below_setRow ?_ ?_ _) | go_size | (simp only [World.size_alloc]; omega) | omega)))).mono ?_
    rintro e w1 ⟨rfl, hb1⟩
    have L1 : Below w.heap.size w w1 := by repeat' (first | (with_reducible exact Below.refl _ _) | (with_reducible refine Rd.below_step ?_ (by assumption)) | (with_reducible refine Rd.below_alloc ?_ _) | (with_reducible refine Rd.below_drewN ?_ _) | (with_reducible refine Below.drew ?_) | (with_reducible refine Below.setCell ?_ ?_ _) | (with_reducible refine Rd.below_setRow ?_ ?_ _) | go_size | (simp only [World.size_alloc]; omega) | omega)
    clear hb1 CS
    go_wp2
    go_ret
    rw [E.out, E2.out]
    exact ⟨rfl, ⟨lb, lg, v, sl, _, wl, ⟨rs, hl, HP.out.bel L1, HS.out.bel L1⟩, HR.out, rfl⟩, PF.of_below L1 hlow⟩
end Go.Proofs.Ytkklppjimnkibaa.PoB

namespace Go.Proofs.Ytkklppjimnkibaa.PoA
open Go.RowKit Go.Shelf Rd Go.Proofs.Ytkklppjimnkibaa.Row Mid LrM LrA LrB LrP PgM PgA PgB PgN PoM PoB
open Go.Proofs.Ytkklppjimnkibaa.PgC (three len3 eqL eq_pg3)
open Go.Proofs.Ytkklppjimnkibaa.PoD (us us_len By)
open Go.Proofs.Ytkklppjimnkibaa.MpG (own_paste)
open It (get_lt)
open Go.Proofs.Ytkklppjimnkibaa.MpE (owns_mono)
set_option linter.unusedVariables false
set_option linter.unusedSimpArgs false
set_option maxRecDepth 10000
variable {X Y : World} {lo : Lo} {pb gw lb lg n d : Nat} {v : Value} {rs : List (List Value)} {o : List Nat} {pin : Nat → Bool} {wl : List Int} {Bb : Nat → Prop} {sl : List Ent} {R : List Ent}
/-- a store into one block of the pool -/
theorem PlR.low (h : PlR X lo pb gw lb lg n d v rs o pin wl) : lo.n ≤ X.heap.size ∧ lo.b ≤ X.heap.size := h.hi
theorem PlR.lr (h : PlR X lo pb gw lb lg n d v rs o pin wl) {r : Nat} {c : Array Value} {t : Nat} (hr : X.heap[r]? = some (.cells c t (0, 0))) (h1 : t ≠ 105) (h2 : t ≠ 109) (hg : X.grownBy Y (some r)) : St Y lb lg n o pin := by
  obtain ⟨old, yng, h3, h4⟩ := h.l
  obtain ⟨c', hc, -⟩ := h3.g
  refine ⟨old, yng, h3.kept ?_ ?_, h4⟩
  · refine hg.block _ (blk_lt h3.b) fun e => ?_
    injection e with e
    subst e
    have := (show X.heap[lb]? = _ from h3.b).symm.trans hr
    injection this with this
    injection this with _ e2
    exact h1 e2.symm
  · refine hg.block _ (get_lt hc) fun e => ?_
    injection e with e
    subst e
    have := hc.symm.trans hr
    injection this with this
    injection this with _ e2
    exact h2 e2.symm
theorem other {X Y : World} {r k : Nat} {c c' : Array Value} {t t' : Nat} (hr : X.heap[r]? = some (.cells c t (0, 0))) (hk : X.heap[k]? = some (.cells c' t' (0, 0))) (ht : t ≠ t') (hg : X.grownBy Y (some r)) : Y.heap[k]? = X.heap[k]? :=
  hg.block _ (get_lt hk) fun e => by
    injection e with e
    subst e
    have := hk.symm.trans hr
    injection this with this
    injection this with _ e2
    exact ht e2.symm
theorem setRow_grown (X : World) (g : Nat) (c : Array Value) : X.grownBy (X.setRow g c) (some g) :=
  ⟨rfl, rfl, rfl, by simp, fun k _ hk => Rd.heap_setRow_other _ _ _ _ (fun e => hk (by rw [e]))⟩
theorem setCell_grown (X : World) (g o : Nat) (v : Value) : X.grownBy (X.setCell ⟨g, o, none⟩ v) (some g) :=
  ⟨rfl, rfl, rfl, by simp, fun k _ hk => heap_setCell_other _ _ _ _ (by show k ≠ g; intro e; exact hk (by rw [e]))⟩
/-- a slot's row is stored -/
theorem PlR.set_slot (h : PlR X lo pb gw lb lg n d v rs o pin wl) {i : Nat} (hi : i < rs.length) {x : List Value} (hx : x.length = 4) {g cap : Nat} {m : Nat} (hv : v = .slice (some ⟨g, 0, none⟩) m cap) {cur : Array Value} (hg : blk X g = some (.cells cur 83 (0, 0))) :
    PlR (X.setRow g (pasteL cur.toList (i * 4) x).toArray) lo pb gw lb lg n d v (rs.set i x) o pin wl ∧ PF lo gw X (X.setRow g (pasteL cur.toList (i * 4) x).toArray) ∧ X.grownBy (X.setRow g (pasteL cur.toList (i * 4) x).toArray) (some g) := by
  subst hv
  have hgr := setRow_grown X g (pasteL cur.toList (i * 4) x).toArray
  have hr := h.r
  obtain rfl : m = rs.length := by
    rcases hr.2 with ⟨e, _⟩ | ⟨_, _, _, e, _⟩
    · cases e
    · cases e; rfl
  have hlo : lo.ok g := h.rv g rfl
  obtain ⟨cur', hc', hs1, hs2, hown⟩ := own_paste (o := i * 4) (v := x) hr (by rw [hx]; omega)
  have hcc : cur' = cur := by
    have := hc'.symm.trans hg
    injection this with this
    injection this
  subst hcc
  have e1 : pasteL cur'.toList (i * 4) x = cur'.toList.take (i * 4) ++ x ++ cur'.toList.drop (i * 4 + x.length) := DkM.paste_pst x cur'.toList (i * 4) (by rw [hx, Array.length_toList]; omega)
  have e2 : (DkM.fl rs).take (i * 4) ++ x ++ (DkM.fl rs).drop (i * 4 + x.length) = DkM.fl (rs.set i x) := by
    have := DkM.fl_pst (v := x) (o := 0) h.r4 hi (by rw [hx]; omega)
    rw [Nat.add_zero, DkM.pst_whole (by rw [hx, h.r4 _ (List.getElem_mem hi)])] at this
    exact this
  rw [← e1, e2] at hown
  refine ⟨⟨(other hg h.p (by decide) hgr).trans h.p, (other hg h.w (by decide) hgr).trans h.w, by rw [List.length_set]; exact hown, h.rv, fun l hl => ?_, h.lr hg (by decide) (by decide) hgr, h.okk, by have := h.hi; have := hgr.size; omega⟩, PF.of_grown hgr ⟨_, _, hg, .inr (.inl rfl)⟩ hlo h.hi, hgr⟩
  rcases List.mem_or_eq_of_mem_set hl with hl | rfl
  · exact h.r4 l hl
  · exact hx
/-- a slot's bytes are stored -/
theorem PlR.set_bytes (h : PlR X lo pb gw lb lg n d v rs o pin wl) {i : Nat} (hi : i < rs.length) {pg : List Int} {u u' : Value} (he : rs.getD i [] = slotV pg u) {g cap : Nat} {m : Nat} (hv : v = .slice (some ⟨g, 0, none⟩) m cap) {cur : Array Value} (hg : blk X g = some (.cells cur 83 (0, 0))) (hc : i * 4 + 4 ≤ cur.size) (hp : Mid.piece cur (i * 4) 3 = #[.int .i64 (PgM.g pg 0), .int .i64 (PgM.g pg 1), .int .i64 (PgM.g pg 2)]) :
    PlR (X.setCell ⟨g, i * 4 + 3, none⟩ u') lo pb gw lb lg n d v (rs.set i (slotV pg u')) o pin wl ∧ PF lo gw X (X.setCell ⟨g, i * 4 + 3, none⟩ u') ∧ X.grownBy (X.setCell ⟨g, i * 4 + 3, none⟩ u') (some g) := by
  have e : X.setCell ⟨g, i * 4 + 3, none⟩ u' = X.setRow g (pasteL cur.toList (i * 4) (slotV pg u')).toArray := by
    rw [setCell_setRow hg]
    congr 1
    have hcl : cur.toList.length = cur.size := Array.length_toList
    have hat : ∀ j, j < 3 → cur[i * 4 + j]? = (slotV pg u')[j]? := by
      intro j hj
      have h1 := congrArg (fun a : Array Value => a[j]?) hp
      unfold Mid.piece at h1
      simp only [Array.getElem?_extract] at h1
      rw [if_pos (by omega)] at h1
      rw [h1]
      rcases (show j = 0 ∨ j = 1 ∨ j = 2 by omega) with rfl | rfl | rfl <;> rfl
    rw [DkM.paste_pst (slotV pg u') cur.toList (i * 4) (by rw [slotV_len, hcl]; omega)]
    unfold DkM.pst
    rw [slotV_len]
    apply Array.ext_getElem?
    intro k
    rw [Array.getElem?_setIfInBounds, List.append_assoc]
    simp only [List.getElem?_toArray]
    by_cases h1 : k < i * 4
    · rw [if_neg (by omega), List.getElem?_append_left (by rw [List.length_take, hcl]; omega), List.getElem?_take_of_lt h1, Array.getElem?_toList]
    · have hl : (cur.toList.take (i * 4)).length = i * 4 := by rw [List.length_take, hcl]; omega
      rw [List.getElem?_append_right (by rw [hl]; omega), hl]
      by_cases h2 : k < i * 4 + 4
      · rw [List.getElem?_append_left (by rw [slotV_len]; omega)]
        by_cases h3 : k = i * 4 + 3
        · subst h3
          rw [if_pos rfl, if_pos (by omega), show i * 4 + 3 - i * 4 = 3 by omega]
          rfl
        · rw [if_neg (fun e => h3 e.symm)]
          have := hat (k - i * 4) (by omega)
          rw [show i * 4 + (k - i * 4) = k by omega] at this
          exact this
      · rw [if_neg (by omega), List.getElem?_append_right (by rw [slotV_len]; omega), slotV_len, List.getElem?_drop, show i * 4 + 4 + (k - i * 4 - 4) = k by omega, Array.getElem?_toList]
  rw [e]
  exact h.set_slot hi (slotV_len _ _) hv hg
/-- the number of a page's slot is stored -/
theorem PlR.set_w (h : PlR X lo pb gw lb lg n d v rs o pin wl) (k : Nat) (z : Int) :
    PlR (X.setCell ⟨gw, k, none⟩ (.int .i64 z)) lo pb gw lb lg n d v rs o pin (wl.set k z) ∧ PF lo gw X (X.setCell ⟨gw, k, none⟩ (.int .i64 z)) := by
  have hgr := setCell_grown X gw k (.int .i64 z)
  refine ⟨⟨?_, ?_, own_same h.r fun j e => ?_, h.rv, h.r4, h.lr h.w (by decide) (by decide) hgr, h.okk, by have := h.hi; have := hgr.size; omega⟩, PF.of_grown hgr ⟨_, _, h.w, by simp⟩ h.okk.2.1 h.hi⟩
  · rw [List.length_set]
    exact (other h.w h.p (by decide) hgr).trans h.p
  · have := blk_set X gw k (.int .i64 z) _ _ h.w
    rw [this]
    simp only [cs, List.setIfInBounds_toArray, List.map_set]
  · obtain ⟨c, hc, _⟩ := own_pos' h.r e
    exact other h.w hc (by decide) hgr
/-- a slot more -/
theorem PlR.more {W : World} {v' : Value} {x : List Value} (h : PlR X lo pb gw lb lg n d v rs o pin wl) (hg : X.grownBy W v.ownBlock) (hx : x.length = 4) (hw : W.ownsRow lo.n 83 4 v' (rs.length + 1) (DkM.fl rs ++ x)) (hv' : ∀ k, v'.ownBlock = some k → lo.ok k) :
    PlR (W.setCell ⟨pb, 2, none⟩ v') lo pb gw lb lg n d v' (rs ++ [x]) o pin wl ∧ PF lo gw X (W.setCell ⟨pb, 2, none⟩ v') := by
  have ho : ∀ {k : Nat} {c : Array Value} {t : Nat}, X.heap[k]? = some (.cells c t (0, 0)) → t ≠ 83 → W.heap[k]? = X.heap[k]? := fun {k c t} hk ht => hg.block k (get_lt hk) fun e => by
    obtain ⟨c', hc', _⟩ := own_pos' h.r e.symm
    have := hk.symm.trans hc'
    injection this with this
    injection this with _ e2
    exact ht e2
  have hp : W.heap[pb]? = some (.cells #[.int .i64 d, .int .i64 n, v, .slice (some ⟨gw, 0, none⟩) wl.length wl.length, .pointer (some ⟨lb, 0, none⟩)] 71 (0, 0)) := (ho h.p (by decide)).trans h.p
  have hw' : W.heap[gw]? = some (.cells (cs .i64 wl) 3 (0, 0)) := (ho h.w (by decide)).trans h.w
  have hgr := setCell_grown W pb 2 v'
  have hl : St W lb lg n o pin := by
    obtain ⟨old, yng, h3, h4⟩ := h.l
    obtain ⟨c', hc, -⟩ := h3.g
    exact ⟨old, yng, h3.kept (ho h3.b (by decide)) (ho hc (by decide)), h4⟩
  have hf1 : PF lo gw X W := by
    refine ⟨hg.os, hg.tape, hg.output, hg.size, fun k hk => hg.block k (by have := h.low; omega) fun e => ?_, fun k hk hn => hg.block k hk fun e => ?_⟩
    · have hok := h.rv k e.symm
      unfold Lo.ok at hok
      omega
    · obtain ⟨c', hc', hb⟩ := own_pos' h.r e.symm
      exact hn ⟨c', _, hc', .inr (.inl rfl)⟩
  have hf2 : PF lo gw W (W.setCell ⟨pb, 2, none⟩ v') := PF.of_grown hgr ⟨_, _, hp, .inl rfl⟩ h.okk.1 (by have := h.hi; have := hg.size; omega)
  refine ⟨⟨blk_set _ _ _ _ _ _ hp, (other hp hw' (by decide) hgr).trans hw', ?_, hv', fun l hl' => ?_, ?_, h.okk, by have := h.hi; have := hg.size; have := hgr.size; omega⟩, hf1.trans hf2⟩
  · rw [List.length_append, List.length_singleton, DkM.fl_app]
    have e : DkM.fl [x] = x := by simp [DkM.fl]
    rw [e]
    refine own_same hw fun k hk => ?_
    obtain ⟨c', hc', hb⟩ := own_pos' hw hk
    exact other hp hc' (by decide) hgr
  · rcases List.mem_append.1 hl' with hl' | hl'
    · exact h.r4 l hl'
    · rw [List.mem_singleton.1 hl']; exact hx
  · obtain ⟨old, yng, h3, h4⟩ := hl
    obtain ⟨c', hc, -⟩ := h3.g
    exact ⟨old, yng, h3.kept (other hp h3.b (by decide) hgr) (other hp hc (by decide) hgr), h4⟩
/-! the slots -/
theorem getD_set {α : Type} (l : List α) (i j : Nat) (x z : α) (hi : i < l.length) : (l.set i x).getD j z = if j = i then x else l.getD j z := by
  rw [List.getD_eq_getElem?_getD, List.getElem?_set]
  by_cases h : i = j
  · subst h; simp [hi]
  · rw [if_neg h, if_neg (fun e => h e.symm), ← List.getD_eq_getElem?_getD]
theorem Sl.set {Bb' : Nat → Prop} (h : Sl X Bb sl rs) (hl : rs.length = sl.length) {i : Nat} (hi : i < sl.length) {pg b : List Int} {u : Value} (hu : X.ownsRow 0 5 1 u 144 (us b)) (hB : ∀ k, u.ownBlock = some k → Bb' k) (hm : ∀ k, k < X.heap.size → Bb k → Bb' k) : Sl X Bb' (sl.set i (pg, b)) (rs.set i (slotV pg u)) := by
  intro j hj
  rw [List.length_set] at hj
  rw [ent_set _ hi, getD_set _ _ _ _ _ (by omega)]
  by_cases e : j = i
  · rw [if_pos e, if_pos e]
    exact ⟨u, rfl, hu, hB⟩
  · rw [if_neg e, if_neg e]
    exact h.mono hm j hj
theorem Sl.more {Bb' : Nat → Prop} (h : Sl X Bb sl rs) (hl : rs.length = sl.length) {x : List Value} {pg b : List Int} {u : Value} (hu : X.ownsRow 0 5 1 u 144 (us b)) (hB : ∀ k, u.ownBlock = some k → Bb' k) (hm : ∀ k, k < X.heap.size → Bb k → Bb' k) : Sl X Bb' (sl ++ [(pg, b)]) ((rs ++ [x]).set sl.length (slotV pg u)) := by
  intro j hj
  rw [List.length_append, List.length_singleton] at hj
  rw [ent_more, getD_set _ _ _ _ _ (by simp; omega)]
  by_cases e : j = sl.length
  · rw [if_pos e, if_pos e]
    exact ⟨u, rfl, hu, hB⟩
  · rw [if_neg e, if_neg e]
    obtain ⟨u', h1, h2⟩ := h.mono hm j (by omega)
    refine ⟨u', ?_, h2⟩
    rw [List.getD_eq_getElem?_getD, List.getElem?_append_left (by omega), ← List.getD_eq_getElem?_getD]
    exact h1
/-! types -/
theorem info_slot : (Try.prog.info? 83).map (fun i => (i.zero, i.size, i.bytes)) = some (some (.agg #[.int .i64 0, .int .i64 0, .int .i64 0, .slice none 0 0]), 4, 48) := by kernel_rfl
theorem info_slot4 : (Try.prog.info? 83).map (·.size) = some 4 := by kernel_rfl
theorem store_sl (x v : Value) : Instr.storeAt 83 x v = storeRow 83 x v := rfl
theorem run_store_sl (g o : Nat) (c : Array Value) (W : World) : (storeRow 83 (.pointer (some ⟨g, o, none⟩)) (.agg c)).run Try.prog W = midStore Try.prog 83 4 g o c W := run_storeMid info_slot4 (by decide) g o c W
def z4 : List Value := [.int .i64 0, .int .i64 0, .int .i64 0, .slice none 0 0]
/-- who goes -/
def GoneAt (W : World) (gv : Value) (r : List (List Int)) : Prop := (r = [] ∧ gv = .slice none 0 0) ∨ ∃ x g9, r = [x] ∧ x.length = 3 ∧ gv = .slice (some ⟨g9, 0, none⟩) 1 1 ∧ blk W g9 = some (.cells (cs .i64 x) 35 (0, 0))
end Go.Proofs.Ytkklppjimnkibaa.PoA

/-
  With: what lies where while it goes over the entries.
  With.
-/
import Derived.Test.YtpjbacpchmemeaaDiL
import Derived.Test.YtpjbacpchmemeaaPredT
namespace Go.Proofs.Ytpjbacpchmemeaa.DiO
open Go.RowKit Go.Shelf Rd Go.Proofs.Ytpjbacpchmemeaa.Row Mid PgM PgA PgB PgC DiM DiA DiC DiD DiE DiF DiJ DiK DiL It
open Go.Proofs.Ytpjbacpchmemeaa.DiM (at_ at_get ce ce_len ce_app ce_one ce_ones ce_at)
open Go.Proofs.Ytpjbacpchmemeaa.DiI (below_grown blk_grown not_row own_lo own_hi)
set_option linter.unusedVariables false
set_option linter.unusedSimpArgs false
set_option maxRecDepth 10000
/-- those whose pages do not stand in a row -/
def keepP (l r : List En) : List En := r.filter fun e => !hasP l e.P
theorem keepP_yes {l pre : List En} {x : En} (h : hasP l x.P = false) : keepP l (pre ++ [x]) = keepP l pre ++ [x] := by simp [keepP, h]
theorem keepP_no {l pre : List En} {x : En} (h : hasP l x.P = true) : keepP l (pre ++ [x]) = keepP l pre := by simp [keepP, h]
theorem keepP_len (l r : List En) : (keepP l r).length ≤ r.length := List.length_filter_le _ _
/-- the row in its box, and all else -/
structure WR (t : Nat) (w : World) (m : Nat) (ad : Option Addr) (cap : Nat) (l : List En) (pre : List En) (X : World) : Prop where
  below : Below w.heap.size w X
  lb : blk X w.heap.size = some (.cells #[.slice ad l.length cap] 22 (0, 0))
  bx : BoxD (m + 1) (some ⟨t, 0, none⟩) X
  row : ∃ v, Boxed X m 22 v ∧ X.ownsRow (w.heap.size + 1) 39 6 v (l ++ keepP l pre).length (ce (l ++ keepP l pre))
  size : m + 2 ≤ X.heap.size
  lo : w.heap.size + 1 ≤ m
theorem WR.grown {t m cap : Nat} {w : World} {ad : Option Addr} {l pre : List En} {X Y : World} {row : Option Nat} (h : WR t w m ad cap l pre X) (hg : X.grownBy Y row) (hr : ∀ r, row = some r → m + 2 ≤ r ∧ ∃ o : Obj, X.heap[r]? = some o ∧ o.isCells = false) : WR t w m ad cap l pre Y := by
  obtain ⟨v, hv, ho⟩ := h.row
  have hlo := h.lo
  refine ⟨below_grown (B := 0) h.below hg (Nat.le_refl _) fun r e => by have := (hr r e).1; omega, blk_grown h.lb hg fun r e => by have := (hr r e).1; omega, blk_grown h.bx hg fun r e => by have := (hr r e).1; omega, ⟨v, hv.kept hg fun e => ?_, ho.kept hg ?hne⟩, Nat.le_trans h.size hg.size, hlo⟩
  · have := (hr _ e.symm).1
    omega
  case hne =>
    rcases not_row ho (fun r e => (hr r e).2) with e | e
    · subst e
      cases v.ownBlock with
      | none => exact .inl rfl
      | some _ => exact .inr (by simp)
    · exact .inr (Ne.symm e)
def WOwn (m : Nat) (X : World) (k : Nat) : Prop := ∃ v, Boxed X m 22 v ∧ v.ownBlock = some k
theorem boxed_eq {X : World} {m : Nat} {T : TypeId} {v v' : Value} (h : Boxed X m T v) (h' : Boxed X m T v') : v = v' := by
  have := (show X.heap[m]? = _ from h).symm.trans h'
  simpa using this
theorem wr_mine (t m cap : Nat) (w : World) (ad : Option Addr) (l : List En) (B : Nat) (hB : m + 2 ≤ B) : Mine B (WR t w m ad cap l) (fun _ X k => WOwn m X k) := by
  refine ⟨fun s X k h ho => ?_, fun s X Y row h hg hr k ho => ?_⟩
  · obtain ⟨v, hv, ow⟩ := h.row
    obtain ⟨v', hv', e⟩ := ho
    obtain rfl := boxed_eq hv hv'
    rcases ow.2 with ⟨rfl, _⟩ | ⟨g, cap, cur, rfl, _, hgb, _⟩
    · cases e
    · obtain rfl : g = k := by simpa [Value.ownBlock] using e
      exact ⟨_, _, _, hgb⟩
  · obtain ⟨v, hv, ow⟩ := h.row
    obtain ⟨v', hv', e⟩ := ho
    have hv2 : Boxed Y m 22 v := hv.kept hg fun e => by have := (hr _ e.symm).1; omega
    obtain rfl := boxed_eq hv2 hv'
    exact ⟨v, hv, e⟩
/-- a round without an append -/
theorem wr_skip {t m cap B : Nat} {w X2 X3 : World} {ad : Option Addr} {l pre : List En} {x : En} {Ix : Code → List En → World → Prop} (h : WR t w m ad cap l pre X2) (hb : Below X2.heap.size X2 X3) (hx : hasP l x.P = true) (a : Act) :
    It.Ends B (fun pre Z => WR t w m ad cap l pre Z) Ix (fun _ Z k => WOwn m Z k) pre x X2 .normal a X3 := by
  have g : X2.grownBy X3 none := ⟨hb.os, hb.tape, hb.output, hb.size, fun k hk _ => hb.block k hk⟩
  have h3 := h.grown g (fun r e => by cases e)
  refine ⟨Hold.grown g (fun r e => by cases e), ⟨h3.below, h3.lb, h3.bx, ?_, h3.size, h3.lo⟩, fun k ⟨v', hv', e⟩ hk => ?_⟩
  · rw [keepP_no hx]
    exact h3.row
  · obtain ⟨v, hv, ow⟩ := h.row
    have hv3 : Boxed X3 m 22 v := hv.kept g (by simp)
    obtain rfl := boxed_eq hv3 hv'
    exact .inl ⟨v, hv, e⟩
/-- a round with one -/
theorem wr_step {t m cap B : Nat} {w X2 X3 w4 : World} {ad : Option Addr} {l pre : List En} {x : En} {Ix : Code → List En → World → Prop} {v v4 : Value} {tmp : Obj} (h : WR t w m ad cap l pre X2) (hb : Below X2.heap.size X2 X3) (hx : hasP l x.P = false)
    (hv : Boxed X3 m 22 v) (ow : X3.ownsRow (w.heap.size + 1) 39 6 v (l ++ keepP l pre).length (ce (l ++ keepP l pre)))
    (hg : (X3.alloc tmp).grownBy w4 v.ownBlock) (hbx : Boxed (w4.setCell ⟨m, 0, none⟩ v4) m 22 v4) (ho : (w4.setCell ⟨m, 0, none⟩ v4).ownsRow (w.heap.size + 1) 39 6 v4 ((l ++ keepP l pre).length + 1) (ce ((l ++ keepP l pre) ++ [x])))
    (hbel : Below (w.heap.size + 1) X3 (w4.setCell ⟨m, 0, none⟩ v4)) (hb4 : v4.ownBlock = v.ownBlock ∨ v4.ownBlock = some (X3.alloc tmp).heap.size) (hB : m + 2 ≤ B) (a : Act) :
    It.Ends B (fun pre Z => WR t w m ad cap l pre Z) Ix (fun _ Z k => WOwn m Z k) pre x X2 .normal a (w4.setCell ⟨m, 0, none⟩ v4) := by
  have g : X2.grownBy X3 none := ⟨hb.os, hb.tape, hb.output, hb.size, fun k hk _ => hb.block k hk⟩
  have h3 := h.grown g (fun r e => by cases e)
  have hv2 : Boxed X2 m 22 v := by
    obtain ⟨v', hv', _⟩ := h.row
    have := boxed_eq (hv'.kept g (by simp)) hv
    exact this ▸ hv'
  have keep : ∀ k, k ≠ m → k < X3.heap.size → some k ≠ v.ownBlock → (w4.setCell ⟨m, 0, none⟩ v4).heap[k]? = X3.heap[k]? := fun k h1 h2 h3 =>
    (heap_setCell_other w4 ⟨m, 0, none⟩ k v4 (by first | exact h1 | exact fun e => h1 e.symm)).trans ((hg.block k (by simp; omega) h3).trans (blk_alloc_old _ _ _ h2))
  have hsz : X3.heap.size ≤ (w4.setCell ⟨m, 0, none⟩ v4).heap.size := hbel.size
  have hs := h3.size
  have hlo := h.lo
  have hne : some (m + 1) ≠ v.ownBlock := Boxed.not_row (show Boxed X3 (m + 1) 27 _ from h3.bx) (by decide) ow
  refine ⟨⟨Nat.le_trans hb.size hsz, fun k h1 h2 h4 => (keep k (by omega) (Nat.lt_of_lt_of_le h2 hb.size) fun e => h4 ⟨v, hv2, e.symm⟩).trans (hb.block k h2)⟩, ⟨h3.below.trans (hbel.mono (by omega)), ?_, ?_, ⟨v4, hbx, ?_⟩, by omega, hlo⟩, fun k ⟨v', hv', e⟩ hk => ?_⟩
  · exact (hbel.block _ (by omega)).trans h3.lb
  · exact (keep _ (by omega) (by omega) hne).trans h3.bx
  · rw [keepP_yes hx, ← List.append_assoc, List.length_append, List.length_singleton]
    exact ho
  · obtain rfl := boxed_eq hbx hv'
    rcases hb4 with e2 | e2
    · exact .inl ⟨v, hv2, e2.symm.trans e⟩
    · refine .inr ?_
      have := e2.symm.trans e
      simp at this
      have := hb.size
      omega
end Go.Proofs.Ytpjbacpchmemeaa.DiO

namespace Go.Proofs.Ytpjbacpchmemeaa.DiP
open Go.RowKit Go.Shelf Rd Go.Proofs.Ytpjbacpchmemeaa.Row Mid PgM PgA PgB PgC DiM DiA DiC DiD DiE DiF DiJ DiK DiL DiO It
open Go.Proofs.Ytpjbacpchmemeaa.DiM (at_ at_get ce ce_len ce_app ce_one ce_ones ce_at)
open Go.Proofs.Ytpjbacpchmemeaa.DiI (below_grown blk_grown not_row own_lo own_hi app_eIn fold_en)
set_option linter.unusedVariables false
set_option linter.unusedSimpArgs false
set_option maxRecDepth 10000
attribute [local go_sem] Oper.semAt_some
attribute [local go_sem ↓] load_pg store_pg load_en store_en alloc_en eq_pg3
attribute [local go_sem] one_int pc3 piece_en piece_p3 fold_en run_load_pg run_store_pg run_alloc_en run_load_en run_store_en midLoad_eq rowLoad_eq rowStore_eq blk_alloc_at blk_alloc_old blk_drew blk_drewN blk_set_far blk_set_far' blk_grow setRow_alloc_at setRow_alloc_old setRow_drew setRow_drewN En.c_size En.c_all all6
theorem dro_below {X Y : World} {v : Value} {d : Int} {o : Option (List En)} (h : DrO X v d o) (hb : Below X.heap.size X Y) : DrO Y v d o := by
  cases o with
  | none => exact h
  | some r =>
    obtain ⟨b, h1, h2⟩ := h
    exact ⟨b, h1, h2.below hb⟩
theorem dro_kept {X Y : World} {v : Value} {d : Int} {o : Option (List En)} {row : Option Nat} (h : DrO X v d o) (hg : X.grownBy Y row) (hr : ∀ r, row = some r → ∃ o : Obj, X.heap[r]? = some o ∧ o.isCells = false) : DrO Y v d o := by
  cases o with
  | none => exact h
  | some r =>
    obtain ⟨b, h1, h2⟩ := h
    obtain ⟨u, h3, h4⟩ := h2.head
    refine ⟨b, h1, ⟨⟨u, (hg.block b (blk_lt h3) fun e => ?_).trans h3, h4.kept hg ?_⟩, h2.good, h2.by_, h2.small⟩⟩
    · obtain ⟨ob, h5, h6⟩ := hr b e.symm
      have h7 : X.heap[b]? = _ := h3
      rw [h7] at h5
      cases h5
      cases h6
    · rcases not_row h4 hr with e | e
      · subst e
        cases u.ownBlock with
        | none => exact .inl rfl
        | some _ => exact .inr (by simp)
      · exact .inr (Ne.symm e)
set_option maxHeartbeats 2000000 in
theorem with_any (t : Nat) (d : Int) (vd : Value) (r l : List En) (ad : Option Addr) (cap : Nat) (w : World) (hd : Dv w t d vd r) (hl : RdE w ad l) (h0 : ad = none → l = []) (hr : r.length ≤ 100000) (hll : l.length ≤ 100000) :
    Calls Try.prog 17 #[.pointer (some ⟨t, 0, none⟩), .slice ad l.length cap] w fun e w' => NewR d (newV d (l ++ keepP l r)) 1 e w' ∧ Below w.heap.size w w' := by
  have HD := Lib.hid hd
  have HL := Lib.hid hl
  have H0 := Lib.hid (show ad = none → l.length = 0 from fun h => by rw [h0 h]; rfl)
  clear hd hl h0
  refine callsIn_wide.1 (callsIn_of_wp_marks (F := Fence.wide) (n := 0) Try.func17 rfl trivial ?_ rfl)
  simp only [Try.ntmps17, List.size_toArray, List.length_cons, List.length_nil, Nat.reduceAdd, Nat.reduceSub, Array.replicate_succ, Array.replicate_zero, List.push_toArray, List.append_toArray, List.nil_append, List.cons_append]
  gi_wp2_with fail
  refine ⟨trivial, rfl, (callsIn_wide.2 (clone_en ad l.length cap l _ (HL.out.1.below ((Below.refl _ _).alloc (Nat.le_refl _) _) (Nat.le_refl _)) (by omega) H0.out)).mono ?_⟩
  rintro e w5 ⟨v0, rfl, hO, hb5⟩
  obtain ⟨av, cv', rfl⟩ : ∃ a c, v0 = .slice a l.length c := by
    rcases hO.is with ⟨rfl, _, h⟩ | ⟨g, c, rfl, _⟩
    · exact ⟨_, _, by rw [h]⟩
    · exact ⟨_, _, rfl⟩
  have HO := Lib.hid hO
  have b5 : blk w5 w.heap.size = some (.cells #[.slice ad l.length cap] 22 (0, 0)) := (blk_below hb5 _ (by simp)).trans (blk_alloc_at _ _ _ rfl)
  have s5 := hb5.size
  have L5 : Below w.heap.size w w5 := by repeat' (first | (with_reducible exact Below.refl _ _) | (with_reducible refine Rd.below_step ?_ (by assumption)) | (with_reducible refine Rd.below_alloc ?_ _) | (with_reducible refine Rd.below_drewN ?_ _) | (with_reducible refine Below.drew ?_) | (with_reducible refine Below.setCell ?_ ?_ _) | (with_reducible refine Rd.below_setRow ?_ ?_ _) | go_size | (simp only [World.size_alloc]; omega) | omega)
  have B5 := Lib.hid b5
  simp only [World.size_alloc] at s5
  clear hO hb5 b5
  gi_wp2_with fail
  refine ⟨trivial, rfl, (callsIn_wide.2 (all_any _ _)).mono ?_⟩
  rintro e W1 ⟨rfl, hW1⟩
  have R0 : WR t w w5.heap.size ad cap l [] W1 := by
    rw [hW1]
    have O : ∀ (X : World) (o : Obj) (k : Nat) {p : Obj}, k < X.heap.size → blk X k = some p → blk (X.alloc o) k = some p := fun X o k p h e => (blk_alloc_old X o k h).trans e
    refine ⟨by repeat' (first | (with_reducible exact Below.refl _ _) | (with_reducible refine Rd.below_step ?_ (by assumption)) | (with_reducible refine Rd.below_alloc ?_ _) | (with_reducible refine Rd.below_drewN ?_ _) | (with_reducible refine Below.drew ?_) | (with_reducible refine Below.setCell ?_ ?_ _) | (with_reducible refine Rd.below_setRow ?_ ?_ _) | go_size | (simp only [World.size_alloc]; omega) | omega), ?_, ?_, ⟨.slice av l.length cv', (Boxed.new w5 _ _).alloc _, ?_⟩, by simp, by omega⟩
    · exact O _ _ _ (by simp; omega) (O _ _ _ (by omega) B5.out)
    · exact blk_alloc_at _ _ _ (by simp)
    · have h1 : keepP l [] = [] := rfl
      rw [h1, List.append_nil]
      exact ((DiE.Rown.base HO.out (by simp)).alloc _).alloc _
  have hs1 : W1.heap.size = w5.heap.size + 2 := by rw [hW1]; simp
  have HR0 := Lib.hid R0
  have lo := R0.lo
  clear hW1 R0 HO B5 L5
  gi_wp2_with fail
  try simp only [World.size_alloc, Nat.add_assoc, Nat.reduceAdd]
  refine range_seq (gf := 56) (lb := #[.pointer (some ⟨w5.heap.size + 1, 0, none⟩)]) rfl enters_all (all_seq (w5.heap.size + 1) t d vd r) (fun _ => rfl)
    (fun pre Z => WR t w w5.heap.size ad cap l pre Z) (fun _ _ _ => False)
    (fun _ Z k => WOwn w5.heap.size Z k) ?hI ?hIx (wr_mine t w5.heap.size cap w ad l _ (by omega)) (fun _ _ h => ⟨h.bx, HD.out.below h.below⟩) HR0.out ?round ?done ?stop
  case hI => exact fun s X Y row h hg hr => h.grown hg fun r e => ⟨by have := (hr r e).1; omega, (hr r e).2⟩
  case hIx => exact fun c s X Y row h hg hr => h.elim
  case stop => exact fun D c pre Z hD hpre hx hdef => hx.elim
  case round =>
    intro l' pre x Z hl' hrec hI hpre
    have HI := Lib.hid hI
    have hsm : (l ++ keepP l pre).length ≤ 200000 := by
      have h1 := hpre.length_le
      have h2 := keepP_len l pre
      simp only [List.length_append, List.length_singleton] at h1 ⊢
      omega
    obtain ⟨rr, hrr⟩ := hrec
    have hlz := get_lt hrr
    have HRR := Lib.hid hrr
    clear hI hpre hrr HR0
    simp only [encE]
    gi_wp2_with fail
    refine ⟨World.grownBy_alloc _ _ none, fun X2 hg hI2 hl2 => ?_⟩
    have c2 : blk X2 Z.heap.size = some (.cells x.c 39 (0, 0)) := (hg.block _ (by simp) (fun e => by injection e with e; omega)).trans (World.alloc_heap_new _ _)
    have HI2 := Lib.hid hI2
    have cl : X2.cell? ⟨w.heap.size, 0, none⟩ = some (.slice ad l.length cap) := by rw [blk_cell hI2.lb]; rfl
    have CC := Lib.hid (contains_any l x ad cap Z.heap.size X2 (HL.out.bel hI2.below) c2 (by omega))
    obtain ⟨q, eq⟩ : ∃ q, hasP l x.P = q := ⟨_, rfl⟩
    rw [eq] at CC
    have EQ := Lib.hid eq
    have C2 := Lib.hid c2
    clear hg hI2 hl2 c2 eq
    cases q
    case true =>
      gi_wp2_with fail
      refine ⟨trivial, rfl, (callsIn_wide.2 CC.out).mono ?_⟩
      rintro e X3 ⟨rfl, hb3⟩
      have HB3 := Lib.hid hb3
      clear hb3 cl
      gi_wp2_with fail
      exact wr_skip HI2.out HB3.out EQ.out _
    case false =>
      gi_wp2_with fail
      refine ⟨trivial, rfl, (callsIn_wide.2 CC.out).mono ?_⟩
      rintro e X3 ⟨rfl, hb3⟩
      have HB3 := Lib.hid hb3
      have g3 : X2.grownBy X3 none := ⟨hb3.os, hb3.tape, hb3.output, hb3.size, fun k hk _ => hb3.block k hk⟩
      obtain ⟨v, hv, ow⟩ := (HI2.out.grown g3 (fun r e => by cases e)).row
      obtain ⟨R, hR⟩ : ∃ R, l ++ keepP l pre = R := ⟨_, rfl⟩
      rw [hR] at ow hsm
      have HR := Lib.hid hR
      obtain ⟨av2, cap2, rfl, _⟩ := Rd.owns_val ow
      have c5 := hv.cell
      have c3 : blk X3 Z.heap.size = some (.cells x.c 39 (0, 0)) := (blk_below hb3 _ (blk_lt C2.out)).trans C2.out
      have HV := Lib.hid hv
      have OW := Lib.hid ow
      have hz3 : w5.heap.size + 2 ≤ X3.heap.size := Nat.le_trans HI2.out.size hb3.size
      clear hb3 cl g3 hv ow hR
      gi_wp2_with (gi_at_builtin; refine app_eIn rfl (.tmp 19) (.tmp 21) rfl (w.heap.size + 1) _ _ _ rfl (OW.out.alloc _) X3.heap.size 1 x rfl (blk_alloc_at _ _ _ rfl) (by omega) (by simp; omega) ?_; intro v4 w4 ho4 hg4 hb4; obtain ⟨g4, cap4, rfl⟩ := ownsRow_succ ho4; have AP := Lib.hid (HV.out.appended (show (22 : Nat) ≠ 39 by decide) OW.out (by omega) (by omega) ho4 hg4); have b4 := AP.out.1.cell; have f4 := AP.out.1.frozen; have HG4 := Lib.hid hg4; have HB4 := Lib.hid hb4; clear ho4 hg4 hb4)
      have hR := HR.out
      subst hR
      exact wr_step HI2.out HB3.out EQ.out HV.out OW.out HG4.out AP.out.2.1 AP.out.2.2.1 AP.out.2.2.2.2 HB4.out (by omega) _
  case done =>
    intro D Z hD hI hdef
    have HI := Lib.hid hI
    have hlen : (l ++ keepP l r).length ≤ 200000 := by
      have := keepP_len l r
      rw [List.length_append]
      omega
    obtain ⟨L, hL⟩ : ∃ L, l ++ keepP l r = L := ⟨_, rfl⟩
    obtain ⟨v, hv, ow⟩ := hI.row
    rw [hL] at ow hlen
    obtain ⟨av2, cap2, rfl, _⟩ := Rd.owns_val ow
    have HV := Lib.hid hv
    have HDz := Lib.hid (HD.out.below hI.below)
    have HN := Lib.hid (fun X (hX : Below Z.heap.size Z X) => new_any d av2 L.length cap2 L X ((Reads.of_owns ow).below hX (Nat.le_refl _)) (by omega) (fun h => by
      rcases ow.2 with ⟨_, h2⟩ | ⟨g, c, cur, h2, _⟩
      · exact h2
      · injection h2 with h2
        rw [h] at h2
        cases h2))
    have HBz := Lib.hid hI.below
    have HSz := hI.size
    have HF := Lib.hid hdef
    have HLL := Lib.hid hL
    obtain ⟨o, ho⟩ : ∃ o, newV d L = o := ⟨_, rfl⟩
    rw [ho] at HN
    have HO2 := Lib.hid ho
    clear hI hdef hv ow hlen hL ho HI
    gi_wp2_with fail
    refine wpIn_wide.2 ?_
    obtain ⟨cd, hcd⟩ : ∃ c : Int, (if o.isSome = true then (0 : Int) else 1) = c := ⟨_, rfl⟩
    have HCD := Lib.hid hcd
    clear hcd
    refine PredT.region_of (W := Z) (Z.heap.size) (Nat.le_refl _) [] [
        fun _ => True] [
        PredT.At 0 (.pointer (some ⟨t, 0, none⟩)),
        PredT.At 0 (.pointer (some ⟨t, 0, none⟩)),
        PredT.At 0 (.pointer (some ⟨t, 0, none⟩)),
        PredT.At 0 (.int .i64 d),
        PredT.At 0 (.slice av2 L.length cap2),
        PredT.When 0 (fun u y9 => ∃ u0, u = .tuple #[u0, .int .i64 (cd)] ∧ DrO y9 u0 d o),
        PredT.When 0 (fun u y9 => DrO y9 u d o),
        PredT.At 0 (.int .i64 (cd)),
        PredT.When 0 (fun u y9 => DrO y9 u d o),
        PredT.At 0 (.int .i64 (cd))] (by kernel_rfl) (by kernel_rfl) (by kernel_rfl) (by decide) (by decide) ?_ ?_ ?_ ?_ ?_ ?_
    · exact ⟨PredT.at_stab _ _ _ _, PredT.at_stab _ _ _ _, PredT.at_stab _ _ _ _, PredT.at_stab _ _ _ _, PredT.at_stab _ _ _ _, PredT.when_stab _ _ _ (fun u y y' ⟨u0, h1, h2⟩ hb => ⟨u0, h1, dro_below h2 hb⟩), PredT.when_stab _ _ _ (fun u y y' h hb => dro_below h hb), PredT.at_stab _ _ _ _, PredT.when_stab _ _ _ (fun u y y' h hb => dro_below h hb), PredT.at_stab _ _ _ _, trivial⟩
    · intro q hq
      rcases List.mem_cons.1 hq with rfl | hq
      · exact fun _ _ h _ => trivial
      cases hq
    · exact trivial
    · refine ⟨.inr ?_, .inr ?_, .inr ?_, .inr ?_, .inr ?_, .inr ?_, .inr ?_, .inr ?_, .inr ?_, .inr ?_, trivial⟩
      · intro b9 X ph hE hd hn hS hV hI hF
        have r0 : b9.tmps[0]?.getD undef = .pointer (some ⟨t, 0, none⟩) := (hn 0 (by kernel_rfl)).trans rfl
        exact Pred.yields_run (v := .pointer (some ⟨t, 0, none⟩)) (Pred.wanted_none rfl) (by go_simp) ⟨Below.refl _ _, rfl, Nat.zero_le _⟩
      · intro b9 X ph hE hd hn hS hV hI hF
        obtain ⟨r23, j23⟩ : PredT.At 0 (.pointer (some ⟨t, 0, none⟩)) (b9.tmps[23]?.getD undef) X ph := hV 0 _ 23 rfl rfl (Pred.waits_near (by kernel_rfl) (by kernel_rfl))
        exact Pred.yields_run (v := .pointer (some ⟨t, 0, none⟩)) (Pred.wanted_none rfl) (by go_simp) ⟨Below.refl _ _, rfl, Nat.zero_le _⟩
      · intro b9 X ph hE hd hn hS hV hI hF
        obtain ⟨r24, j24⟩ : PredT.At 0 (.pointer (some ⟨t, 0, none⟩)) (b9.tmps[24]?.getD undef) X ph := hV 1 _ 24 rfl rfl (Pred.waits_near (by kernel_rfl) (by kernel_rfl))
        exact Pred.yields_run (v := .pointer (some ⟨t, 0, none⟩)) (Pred.wanted_none rfl) (by go_simp) ⟨Below.refl _ _, rfl, Nat.zero_le _⟩
      · intro b9 X ph hE hd hn hS hV hI hF
        obtain ⟨r25, j25⟩ : PredT.At 0 (.pointer (some ⟨t, 0, none⟩)) (b9.tmps[25]?.getD undef) X ph := hV 2 _ 25 rfl rfl (Pred.waits_near (by kernel_rfl) (by kernel_rfl))
        have z := (HDz.out.below hE).c0
        exact Pred.yields_run (v := .int .i64 d) (Pred.wanted_none rfl) (by go_simp) ⟨Below.refl _ _, rfl, Nat.zero_le _⟩
      · intro b9 X ph hE hd hn hS hV hI hF
        have r6 : b9.tmps[6]?.getD undef = .pointer (some ⟨w5.heap.size, 0, none⟩) := (hn 6 (by kernel_rfl)).trans rfl
        have z : X.cell? ⟨w5.heap.size, 0, none⟩ = some (.slice av2 L.length cap2) := (hE.cell (p := ⟨w5.heap.size, 0, none⟩) HV.out.lt).trans HV.out.cell
        exact Pred.yields_run (v := .slice av2 L.length cap2) (Pred.wanted_none rfl) (by go_simp) ⟨Below.refl _ _, rfl, Nat.zero_le _⟩
      · intro b9 X ph hE hd hn hS hV hI hF
        obtain ⟨r26, j26⟩ : PredT.At 0 (.int .i64 d) (b9.tmps[26]?.getD undef) X ph := hV 3 _ 26 rfl rfl (Pred.waits_near (by kernel_rfl) (by kernel_rfl))
        obtain ⟨r27, j27⟩ : PredT.At 0 (.slice av2 L.length cap2) (b9.tmps[27]?.getD undef) X ph := hV 4 _ 27 rfl rfl (Pred.waits_near (by kernel_rfl) (by kernel_rfl))
        refine Pred.yields_call (f := 8) (args := #[.int .i64 d, .slice av2 L.length cap2]) (Pred.wanted_none rfl) (by go_simp) ?_
        refine (HN.out X hE).mono ?_
        rintro e w9 ⟨⟨u0, rfl, h2⟩, h3⟩
        exact ⟨_, rfl, h3, Nat.zero_le _, fun _ => ⟨u0, by rw [HCD.out], h2⟩⟩
      · intro b9 X ph hE hd hn hS hV hI hF
        obtain ⟨j28, r28⟩ : PredT.When 0 (fun u y9 => ∃ u0, u = .tuple #[u0, .int .i64 (cd)] ∧ DrO y9 u0 d o) (b9.tmps[28]?.getD undef) X ph := hV 5 _ 28 rfl rfl (Pred.waits_near (by kernel_rfl) (by kernel_rfl))
        have hp0 : ph = 0 := by have := PredT.sel_le hS; simp at this; omega
        obtain ⟨u0, h1, h2⟩ := r28 hp0
        have rde : b9.tmps[28]?.getD undef = .tuple #[u0, .int .i64 (cd)] := h1
        exact Pred.yields_run (v := u0) (Pred.wanted_none rfl) (by clear hV hI hn; go_simp) ⟨Below.refl _ _, Nat.zero_le _, fun _ => h2⟩
      · intro b9 X ph hE hd hn hS hV hI hF
        obtain ⟨j28, r28⟩ : PredT.When 0 (fun u y9 => ∃ u0, u = .tuple #[u0, .int .i64 (cd)] ∧ DrO y9 u0 d o) (b9.tmps[28]?.getD undef) X ph := hV 5 _ 28 rfl rfl (Pred.waits_near (by kernel_rfl) (by kernel_rfl))
        have hp0 : ph = 0 := by have := PredT.sel_le hS; simp at this; omega
        obtain ⟨u0, h1, h2⟩ := r28 hp0
        have rde : b9.tmps[28]?.getD undef = .tuple #[u0, .int .i64 (cd)] := h1
        exact Pred.yields_run (v := .int .i64 (cd)) (Pred.wanted_none rfl) (by clear hV hI hn; go_simp) ⟨Below.refl _ _, rfl, Nat.zero_le _⟩
      · intro b9 X ph hE hd hn hS hV hI hF
        obtain ⟨j29, r29⟩ : PredT.When 0 (fun u y9 => DrO y9 u d o) (b9.tmps[29]?.getD undef) X ph := hV 6 _ 29 rfl rfl (Pred.waits_near (by kernel_rfl) (by kernel_rfl))
        have hown := r29
        exact Pred.yields_run (v := b9.tmps[29]?.getD undef) (Pred.wanted_none rfl) (by go_simp) ⟨Below.refl _ _, Nat.zero_le _, hown⟩
      · intro b9 X ph hE hd hn hS hV hI hF
        obtain ⟨r30, j30⟩ : PredT.At 0 (.int .i64 (cd)) (b9.tmps[30]?.getD undef) X ph := hV 7 _ 30 rfl rfl (Pred.waits_near (by kernel_rfl) (by kernel_rfl))
        exact Pred.yields_run (v := .int .i64 (cd)) (Pred.wanted_none rfl) (by clear hV hI hn; go_simp) ⟨Below.refl _ _, rfl, Nat.zero_le _⟩
    · trivial
    intro v9 w9 hE hS hv
    replace hS : (fun _ => True) w9 := hS
    have e0 : v9 0 = .pointer (some ⟨t, 0, none⟩) := (hv 0 _ 23 rfl rfl).1
    have e1 : v9 1 = .pointer (some ⟨t, 0, none⟩) := (hv 1 _ 24 rfl rfl).1
    have e2 : v9 2 = .pointer (some ⟨t, 0, none⟩) := (hv 2 _ 25 rfl rfl).1
    have e3 : v9 3 = .int .i64 d := (hv 3 _ 26 rfl rfl).1
    have e4 : v9 4 = .slice av2 L.length cap2 := (hv 4 _ 27 rfl rfl).1
    generalize hg5 : v9 5 = vv5
    generalize hg6 : v9 6 = vv6
    have e7 : v9 7 = .int .i64 (cd) := (hv 7 _ 30 rfl rfl).1
    have HP8 : DrO w9 (v9 8) d o := (hv 8 _ 4 rfl rfl).2 rfl
    generalize hg8 : v9 8 = vv8 at HP8
    have e9 : v9 9 = .int .i64 (cd) := (hv 9 _ 5 rfl rfl).1
    simp only [Pred.putsF_cons, Pred.putsF_nil, Nat.zero_add, Nat.reduceAdd, e0, e1, e2, e3, e4, hg5, hg6, e7, hg8, e9, Act.put, List.setIfInBounds_toArray, List.set_cons_zero, List.set_cons_succ]
    clear e0 e1 e2 e3 e4 hg5 hg6 e7 hg8 e9 hv
    have L9 : Below w.heap.size w w9 := HBz.out.trans (hE.mono HBz.out.size)
    have HD9 : w9.heap[D]? = some (.deferred (some [])) := (hE.block D (Array.getElem?_eq_some_iff.1 HF.out).1).trans HF.out
    have HP9 := Lib.hid HP8
    clear HP8 hE hS
    gi_wp2_with fail
    refine leaves_marks (B := w5.heap.size + 2) (fun Y => DrO Y vv8 d o ∧ Below w.heap.size w Y) (fun E Y hE hY he => ⟨dro_kept hY.1 (grownBy_putObj' _ _ _) fun r e => by injection e with e; subst e; exact ⟨_, he, rfl⟩, below_grown (B := 0) hY.2 (grownBy_putObj' _ _ _) (Nat.le_refl _) fun r e => by injection e with e; omega⟩) (fun Y hY => ⟨_, results_tmp2 rfl _ _ _, ⟨_, by rw [HLL.out, HO2.out, HCD.out] <;> rfl, by rw [HLL.out, HO2.out]; exact hY.1⟩, hY.2⟩) [D] (by simp) _ ⟨HP9.out, L9⟩ fun E hp => ?_
    obtain rfl : E = D := by simpa using hp
    exact ⟨by omega, HD9⟩
end Go.Proofs.Ytpjbacpchmemeaa.DiP

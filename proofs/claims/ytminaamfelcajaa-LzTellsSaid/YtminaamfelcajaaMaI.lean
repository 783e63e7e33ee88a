/-
  Where there is no place; the best match and all of them, at any place.
-/
import Derived.Test.YtminaamfelcajaaMaH
namespace Go.Proofs.Ytminaamfelcajaa.MaI
open Go.RowKit Go.Shelf Rd Go.Proofs.Ytminaamfelcajaa.Row MaM MaA MaB MaC MaD MaE MaF MaG It
set_option linter.unusedVariables false
set_option linter.unusedSimpArgs false
set_option maxRecDepth 10000
attribute [local go_sem] Oper.semAt_some
def Nn (p : Value) (kk : Int) (X : World) : Prop := p = .pointer none ∨ ∃ f ba cb g l, p = .pointer (some ⟨f, 0, none⟩) ∧ Fx X f ba cb g l ∧ (l.length : Int) ≤ kk ∧ l.length ≤ 1000000
theorem Nn.grown {p : Value} {kk : Int} {X Y : World} {row : Option Nat} (h : Nn p kk X) (hg : X.grownBy Y row) (hr : Nc X row) : Nn p kk Y := by
  rcases h with h | ⟨f, ba, cb, g, l, h1, h2, h3, h4⟩
  · exact .inl h
  · exact .inr ⟨f, ba, cb, g, l, h1, h2.grown hg hr, h3, h4⟩
theorem Nn.bel {p : Value} {kk : Int} {X Y : World} (h : Nn p kk X) (hb : Below X.heap.size X Y) : Nn p kk Y := h.grown (grown_of hb) fun r e => by cases e
theorem Nn.one {p : Value} {kk : Int} {X : World} (h : Nn p kk X) : p.oneCell' = true := by
  rcases h with rfl | ⟨f, ba, cb, g, l, rfl, -⟩ <;> rfl
def Kn (p : Value) (kk : Int) (b0 b1 : Nat) (X : World) : Prop := blk X b0 = some (.cells #[p] 41 (0, 0)) ∧ blk X b1 = some (.cells #[.int .i64 kk] 3 (0, 0)) ∧ Nn p kk X
set_option maxHeartbeats 4000000 in
theorem none_seq (p : Value) (kk : Int) (b0 b1 : Nat) :
    Seq Try.prog 41 #[.pointer (some ⟨b0, 0, none⟩), .pointer (some ⟨b1, 0, none⟩)] encN [] (Kn p kk b0 b1) := by
  intro lo J Jx Own W hJ hJx hM hK hY h0
  have HJ := Lib.hid hJ
  have k0 := hK [] W h0
  have c1 : W.cell? ⟨b0, 0, none⟩ = some p := by rw [blk_cell k0.1]; rfl
  have c2 : W.cell? ⟨b1, 0, none⟩ = some (.int .i64 kk) := by rw [blk_cell k0.2.1]; rfl
  have g1 := Go.cell_regrown c1
  have g2 := Go.cell_regrown c2
  have H0 := Lib.hid h0
  rcases k0.2.2 with rfl | ⟨f, ba, cb, g, l, rfl, h2, h3, h4⟩
  · clear h0 hK hJ hY k0
    refine callsIn_wide.1 (callsIn_of_wp (F := Fence.wide) (n := 0) Try.func41 rfl trivial ?_ rfl)
    simp only [Try.ntmps41, List.size_toArray, List.length_cons, List.length_nil, Nat.reduceAdd, Nat.reduceSub, Array.replicate_succ, Array.replicate_zero, List.push_toArray, List.append_toArray, List.nil_append, List.cons_append]
    gi_wp2_with fail
    refine wpIn_region_quiet_below rfl (by kernel_rfl) (by kernel_rfl) ?_
    iterate 15 gi_big_quiet_step (fail)
    refine wpQuietIn_nil ?_
    intro U hU
    have H1 := Lib.hid (own_step HJ.out H0.out (Rd.below_of_regrown hU))
    clear hU g1 g2 c1 c2 H0
    gi_wp2
    refine bodyPost_ret (results_none rfl _ _ _) rfl ?_
    exact ⟨⟨_, rfl⟩, .inl H1.out⟩
  · have c3 := h2.hd.c0
    have g3 := Go.cell_regrown c3
    have d0 : decide (kk < 0) = false := decide_eq_false (by omega)
    have d1 : decide ((l.length : Int) ≤ kk) = true := decide_eq_true h3
    clear h0 hK hJ hY k0 h2
    refine callsIn_wide.1 (callsIn_of_wp (F := Fence.wide) (n := 0) Try.func41 rfl trivial ?_ rfl)
    simp only [Try.ntmps41, List.size_toArray, List.length_cons, List.length_nil, Nat.reduceAdd, Nat.reduceSub, Array.replicate_succ, Array.replicate_zero, List.push_toArray, List.append_toArray, List.nil_append, List.cons_append]
    gi_wp2_with fail
    refine wpIn_region_quiet_below rfl (by kernel_rfl) (by kernel_rfl) ?_
    iterate 15 gi_big_quiet_step (fail)
    refine wpQuietIn_nil ?_
    intro U hU
    have H1 := Lib.hid (own_step HJ.out H0.out (Rd.below_of_regrown hU))
    clear hU g1 g2 g3 c1 c2 c3 H0
    gi_wp2
    refine bodyPost_ret (results_none rfl _ _ _) rfl ?_
    exact ⟨⟨_, rfl⟩, .inl H1.out⟩
structure At0 (w : World) (p : Value) (kk : Int) (X : World) : Prop where
  fin : AtEnd w (0, 0) X
  kn : Kn p kk (w.heap.size + 4) (w.heap.size + 5) X
theorem At0.grown {w X Y : World} {p : Value} {kk : Int} {row : Option Nat} (h : At0 w p kk X) (hg : X.grownBy Y row) (hr : Nc X row) (hb : ∀ r, row = some r → w.heap.size ≤ r) : At0 w p kk Y :=
  ⟨h.fin.grown hg hr hb, blk_kept h.kn.1 hg hr, blk_kept h.kn.2.1 hg hr, h.kn.2.2.grown hg hr⟩
theorem at0_start {w : World} {p : Value} {kk : Int} (h : Nn p kk w) :
    At0 w p kk ((((((w.alloc (.cells #[p] 41)).alloc (.cells #[.int .i64 kk] 3)).alloc (.cells #[.int .i64 0] 3)).alloc (.cells #[.int .i64 0] 3)).alloc (.cells #[p] 41)).alloc (.cells #[.int .i64 kk] 3)) := by
  have b : Below w.heap.size w ((((((w.alloc (.cells #[p] 41)).alloc (.cells #[.int .i64 kk] 3)).alloc (.cells #[.int .i64 0] 3)).alloc (.cells #[.int .i64 0] 3)).alloc (.cells #[p] 41)).alloc (.cells #[.int .i64 kk] 3)) := by
    refine ((((((Below.refl _ w).alloc ?_ _).alloc ?_ _).alloc ?_ _).alloc ?_ _).alloc ?_ _).alloc ?_ _ <;> (try simp only [World.size_alloc]) <;> omega
  have O : ∀ (X : World) (o : Obj) (k : Nat) {p : Obj}, k < X.heap.size → blk X k = some p → blk (X.alloc o) k = some p := fun X o k p h e => (blk_alloc_old X o k h).trans e
  refine ⟨⟨b, ?_, ?_⟩, ⟨?_, ?_, h.bel b⟩⟩
  · exact O _ _ _ (by simp only [World.size_alloc] <;> omega) (O _ _ _ (by simp only [World.size_alloc] <;> omega) (O _ _ _ (by simp only [World.size_alloc] <;> omega) (blk_alloc_at _ _ _ (by simp only [World.size_alloc] <;> omega))))
  · exact O _ _ _ (by simp only [World.size_alloc] <;> omega) (O _ _ _ (by simp only [World.size_alloc] <;> omega) (blk_alloc_at _ _ _ (by simp only [World.size_alloc] <;> omega)))
  · exact O _ _ _ (by simp only [World.size_alloc] <;> omega) (blk_alloc_at _ _ _ (by simp only [World.size_alloc] <;> omega))
  · exact blk_alloc_at _ _ _ (by simp only [World.size_alloc] <;> omega)
theorem end_set0 {w X : World} (h : AtEnd w (0, 0) X) : AtEnd w (0, 0) ((X.setCell ⟨w.heap.size + 2, 0, none⟩ (.int .i64 0)).setCell ⟨w.heap.size + 3, 0, none⟩ (.int .i64 0)) := by
  have q1 : ∀ u, Bx (w.heap.size + 3) (.int .i64 (((0, 0) : Nat × Nat).2 : Int)) 3 (X.setCell ⟨w.heap.size + 2, 0, none⟩ u) := fun u => bx_far h.n (by omega)
  exact ⟨Below.setCell (Below.setCell h.below (by show w.heap.size ≤ w.heap.size + 2; omega) _) (by show w.heap.size ≤ w.heap.size + 3; omega) _, bx_far (bx_set h.d) (by omega), bx_set (q1 _)⟩
set_option maxHeartbeats 4000000 in
theorem at_none {w : World} {q : Option Addr} {kk : Int} (h : Nn (.pointer q) kk w) :
    Calls Try.prog 18 #[.pointer q, .int .i64 kk] w fun e w' => e = .returned (.tuple #[.int .i64 0, .int .i64 0]) ∧ Below w.heap.size w w' := by
  have HF := Lib.hid h
  have hp1 := h.one
  clear h
  refine callsIn_wide.1 (callsIn_of_wp_marks (F := Fence.wide) (n := 0) Try.func18 rfl trivial ?_ rfl)
  simp only [Try.ntmps18, List.size_toArray, List.length_cons, List.length_nil, Nat.reduceAdd, Nat.reduceSub, Array.replicate_succ, Array.replicate_zero, List.push_toArray, List.append_toArray, List.nil_append, List.cons_append]
  gi_wp2_with fail
  refine ⟨trivial, rfl, (callsIn_wide.2 (places_any _ kk _ hp1)).mono ?_⟩
  rintro e W1 ⟨rfl, hW1⟩
  have R0 : At0 w (.pointer q) kk W1 := by rw [hW1]; exact at0_start HF.out
  have hs1 : W1.heap.size = w.heap.size + 6 := by rw [hW1]; simp
  have HR0 := Lib.hid R0
  clear hW1 R0
  gi_wp2_with fail
  simp only [World.size_alloc, Nat.add_assoc, Nat.reduceAdd]
  refine range_seq (gf := 41) (lb := #[.pointer (some ⟨w.heap.size + 4, 0, none⟩), .pointer (some ⟨w.heap.size + 5, 0, none⟩)]) rfl enters_places (none_seq (.pointer q) kk (w.heap.size + 4) (w.heap.size + 5)) (fun _ => rfl)
    (fun pre Z => At0 w (.pointer q) kk Z)
    (fun c pre Z => False)
    (fun _ _ _ => False) ?hI ?hIx (mine_none _ _) (fun _ _ h => h.kn) HR0.out ?round ?done ?stop
  case hI => exact fun s X Y row h hg hr => h.grown hg (fun r e => (hr r e).2) fun r e => by have := (hr r e).1; omega
  case hIx => exact fun c s X Y row h hg hr => h.elim
  case round => exact fun l' pre d Z hl' hrec hI hpre => by simp at hpre
  case done =>
    intro D Z hD hI hdef
    have HI := Lib.hid hI
    clear hI
    have c2 := HI.out.fin.d.cell
    have c3 := HI.out.fin.n.cell
    have f2 := blk_frozen (show blk Z (w.heap.size + 2) = some (.cells #[.int .i64 (((0, 0) : Nat × Nat).1 : Int)] 3 (0, 0)) from HI.out.fin.d) 0
    have f3 := blk_frozen (show blk Z (w.heap.size + 3) = some (.cells #[.int .i64 (((0, 0) : Nat × Nat).2 : Int)] 3 (0, 0)) from HI.out.fin.n) 0
    simp only [Int.natCast_zero, Int.cast_ofNat_Int] at c2 c3
    have HFIN : Hid (∀ U, Below ((Z.setCell ⟨w.heap.size + 2, 0, none⟩ (.int .i64 0)).setCell ⟨w.heap.size + 3, 0, none⟩ (.int .i64 0)).heap.size ((Z.setCell ⟨w.heap.size + 2, 0, none⟩ (.int .i64 0)).setCell ⟨w.heap.size + 3, 0, none⟩ (.int .i64 0)) U → AtEnd w (0, 0) U ∧ U.heap[D]? = some (.deferred (some []))) := Lib.hid (fun U hU => by
      refine ⟨(end_set0 HI.out.fin).grown (grown_of hU) (fun r e => by cases e) (fun r e => by cases e), (hU.block D ?_).trans ((blk_set_far' _ _ _ _ (by show w.heap.size + 3 < D; omega)).trans ((blk_set_far' _ _ _ _ (by show w.heap.size + 2 < D; omega)).trans hdef))⟩
      have := get_lt hdef
      simpa using this)
    clear hdef
    gi_wp2_with fail
    gi_region
    all_goals gi_wp2_with fail
    all_goals refine leaves_marks (B := w.heap.size + 6) (fun Y => AtEnd w (0, 0) Y) (fun E Y hE hY he => hY.grown (grownBy_putObj' _ _ _) (fun r e => by injection e with e; subst e; exact ⟨_, he, rfl⟩) (fun r e => by injection e with e; omega)) (fun Y hY => ⟨_, at_results rfl hY _ rfl rfl, rfl, hY.below⟩) [D] (by simp) _ (HFIN.out _ (by repeat' (first | (with_reducible exact Below.refl _ _) | (with_reducible refine Rd.below_step ?_ (by assumption)) | (with_reducible refine Rd.below_alloc ?_ _) | (with_reducible refine Rd.below_drewN ?_ _) | (with_reducible refine Below.drew ?_) | (with_reducible refine Below.setCell ?_ ?_ _) | (with_reducible refine Rd.below_setRow ?_ ?_ _) | go_size | (simp only [World.size_alloc]; omega) | omega))).1 fun E hp => ?_
    all_goals (obtain rfl : E = D := by simpa using hp)
    all_goals exact ⟨by omega, (HFIN.out _ (by repeat' (first | (with_reducible exact Below.refl _ _) | (with_reducible refine Rd.below_step ?_ (by assumption)) | (with_reducible refine Rd.below_alloc ?_ _) | (with_reducible refine Rd.below_drewN ?_ _) | (with_reducible refine Below.drew ?_) | (with_reducible refine Below.setCell ?_ ?_ _) | (with_reducible refine Rd.below_setRow ?_ ?_ _) | go_size | (simp only [World.size_alloc]; omega) | omega))).2⟩
  case stop => exact fun D c pre Z hD hpre hx hdef => hx.elim
/-! at any place of a row, also behind its end -/
theorem at_le {w : World} {f : Nat} {ba : Option Addr} {cb g : Nat} {l : List Int} (h : Fx w f ba cb g l) (k : Nat) (hk : k ≤ l.length) (hl : l.length ≤ 1000000) :
    Calls Try.prog 18 #[.pointer (some ⟨f, 0, none⟩), .int .i64 k] w fun e w' => e = .returned (.tuple #[.int .i64 ((best l k (all l k)).1 : Int), .int .i64 ((best l k (all l k)).2 : Int)]) ∧ Below w.heap.size w w' := by
  rcases Nat.lt_or_ge k l.length with h1 | h1
  · exact at_fx h k h1 hl
  · rw [all_short (by omega)]
    exact at_none (.inr ⟨f, ba, cb, g, l, rfl, h, by omega, hl⟩)
end Go.Proofs.Ytminaamfelcajaa.MaI

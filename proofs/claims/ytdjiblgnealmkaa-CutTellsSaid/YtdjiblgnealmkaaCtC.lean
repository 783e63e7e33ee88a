/-
  The iterator over all pages' bytes: cut.All.
-/
import Derived.Test.YtdjiblgnealmkaaCtB
import Derived.Test.YtdjiblgnealmkaaPgE
import Derived.Test.YtdjiblgnealmkaaItG
namespace Go.Proofs.Ytdjiblgnealmkaa.CtC
open Go.RowKit Go.Shelf Rd Go.Proofs.Ytdjiblgnealmkaa.Row Mid It PgD PgE ItG CtA
open MpM (Px RB cp)
open MpA (Pyr)
set_option linter.unusedVariables false
set_option linter.unusedSimpArgs false
set_option maxRecDepth 10000
attribute [local go_sem] Oper.semAt_some
attribute [local go_sem ↓] PgA.load_pg PgA.store_pg
attribute [local go_sem] one_int PgA.pc3 PgA.run_load_pg PgA.run_store_pg midLoad_eq rowLoad_eq rowStore_eq blk_alloc_at blk_alloc_old blk_drew blk_drewN blk_set_far blk_set_far' blk_grow setRow_alloc_at setRow_alloc_old setRow_drew setRow_drewN
theorem all_valid {n : Nat} (hn : n ≤ 3) : ∀ v ∈ PgM.allV (n : Int), PgM.validB n (PgM.g v 0) (PgM.g v 1) (PgM.g v 2) = true := by
  rcases (show n = 0 ∨ n = 1 ∨ n = 2 ∨ n = 3 by omega) with rfl | rfl | rfl | rfl <;> decide +kernel
/-- a page and its bytes -/
abbrev El := List Int × Value
def encI (x : El) : Array Value := #[.agg (cs .i64 x.1), x.2]
/-- the bytes are the page's -/
def Gp (ts : List Px) (D : Nat) (wr : Bool) (x : El) (X : World) : Prop := ∃ L P Q : Int, x.1 = [L, P, Q] ∧ PgM.validB D L P Q = true ∧ X.ownsRow 0 5 1 x.2 144 (cp (pageP ts D wr L P Q))
def okE (D : Nat) (pre : List El) : Prop := pre.map Prod.fst <+: PgM.allV (D : Int)
def finE (D : Nat) (xs : List El) : Prop := xs.map Prod.fst = PgM.allV (D : Int)
def BoxM (b : Nat) (v : Value) (X : World) : Prop := blk X b = some (.cells #[v] 29 (0, 0))
theorem BoxM.cell {b : Nat} {v : Value} {X : World} (h : BoxM b v X) : X.cell? ⟨b, 0, none⟩ = some v := by rw [blk_cell h]; rfl
theorem enters_ct : ∀ args w, (callFunc 67 args).run Try.prog w = .ok (.enter 67 args) w := enters_of Try.func67 (by kernel_rfl) rfl
set_option maxHeartbeats 8000000 in
theorem ctall_some (mb D bx : Nat) (wr : Bool) (ts : List Px) (hD : D ≤ 3) :
    SeqG Try.prog 67 #[.pointer (some ⟨bx, 0, none⟩)] encI (okE D) (finE D) (Gp ts D wr) (fun X => BoxM bx (.pointer (some ⟨mb, 0, none⟩)) X ∧ Pyr X mb D wr ts) := by
  intro lo J Jx Own W hJ hJx hM hK hY h0
  refine callsIn_wide.1 (callsIn_of_wp_marks (F := Fence.wide) (n := 0) Try.func67 rfl trivial ?_ rfl)
  simp only [Try.ntmps67, List.size_toArray, List.length_cons, List.length_nil, Nat.reduceAdd, Nat.reduceSub, Array.replicate_succ, Array.replicate_zero, List.push_toArray, List.append_toArray, List.nil_append, List.cons_append]
  have A0 : Has W.heap.size J (fun _ => Own) [] [] [] W := ⟨h0, fun p hp => (by cases hp), fun p hp => (by cases hp), Nat.le_refl _⟩
  have A1 := Lib.hid (A0.lay hJ hM (.cells #[.func (.yield lo) #[] #[]] 109))
  have HY := Lib.hid hY
  have HJ := Lib.hid hJ
  have HJx := Lib.hid hJx
  have HM := Lib.hid hM
  have HK := Lib.hid hK
  clear hY hJ hJx hM hK A0 h0
  have k1 := HK.out _ _ A1.out.j
  have c0 := k1.1.cell
  have hP1 := Lib.hid k1.2
  clear k1
  gi_wp2_with fail
  refine ⟨trivial, rfl, (callsIn_wide.2 (MpA.Depth_any _ hP1.out)).mono ?_⟩
  rintro e _ ⟨rfl, rfl⟩
  gi_wp2_with fail
  refine ⟨trivial, rfl, (callsIn_wide.2 (PgD.all_any (D : Int) _)).mono ?_⟩
  rintro e X0 ⟨rfl, hX0⟩
  have B1 := A1.out.lay HJ.out HM.out (.cells #[.int .i64 D] 3)
  rw [← hX0] at B1
  have hs0 : X0.heap.size = W.heap.size + 2 := by rw [hX0]; simp
  have HB := Lib.hid B1
  clear B1 hX0 c0 hP1 A1
  gi_wp2_with fail
  have hbs : ∀ p ∈ [(W.heap.size + 1, Obj.cells #[.int .i64 D] 3), (W.heap.size, Obj.cells #[.func (.yield lo) #[] #[]] 109)], p.1 < X0.heap.size := fun p hp => by
    simp at hp
    rcases hp with rfl | rfl <;> (rw [hs0]; simp)
  have HBS := Lib.hid hbs
  have hB2 : Hid (Has W.heap.size J (fun _ => Own) [(W.heap.size + 1, Obj.cells #[.int .i64 D] 3), (W.heap.size, Obj.cells #[.func (.yield lo) #[] #[]] 109)] [] [] X0) := Lib.hid (by have := HB.out; rwa [World.size_alloc] at this)
  clear hbs HB
  refine range_seq (gf := 70) (lb := #[.pointer (some ⟨W.heap.size + 1, 0, none⟩)]) rfl enters_all (all_seq D (W.heap.size + 1)) (fun _ => rfl)
    (fun pre Z => ∃ ps : List El, ps.map Prod.fst = pre ∧ Has W.heap.size J (fun _ => Own) [(W.heap.size + 1, .cells #[.int .i64 D] 3), (W.heap.size, .cells #[.func (.yield lo) #[] #[]] 109)] [] ps Z)
    (fun c pre Z => c = .ret ∧ ∃ ps : List El, okE D ps ∧ Jx ps Z)
    (fun _ => Own) ?hI ?hIx ?hM ?hK ?h0 ?round ?done ?stop
  case hI =>
    rintro s Z Y row ⟨ps, h1, h2⟩ hg hr
    refine ⟨ps, h1, ?_⟩
    have := Has.own HJ.out HM.out (B' := X0.heap.size) (Ds := []) (by omega) [] HBS.out (fun D9 h => absurd h (by simp)) ps Z Y row (by simpa using h2) hg hr
    simpa using this
  case hIx =>
    rintro c s Z Y row ⟨h1, ps, h2, h3⟩ hg hr
    exact ⟨h1, ps, h2, HJx.out _ _ _ _ h3 hg (fun r e => ⟨by have := (hr r e).1; omega, (hr r e).2⟩)⟩
  case hM =>
    exact ⟨fun s Z q ⟨ps, _, h⟩ ho => HM.out.cells _ _ q h.j ho, fun s Z Y row ⟨ps, _, h⟩ hg hr => HM.out.back ps _ _ _ h.j hg fun r e => ⟨by have := (hr r e).1; omega, (hr r e).2⟩⟩
  case hK => exact fun s Z ⟨ps, _, h⟩ => (h.box _ (List.mem_cons_self ..)).2.1
  case h0 => exact ⟨[], rfl, hB2.out⟩
  case round =>
    rintro l' pre x Z hl' hrec ⟨ps0, hps0, hI0⟩ hpre
    have hxm := pre_mem hpre
    obtain ⟨x0, x1, x2, rfl⟩ := PgC.len3 (PgM.three_all _ x hxm)
    have hval : PgM.validB D x0 x1 x2 = true := all_valid hD _ hxm
    have HV := Lib.hid hval
    have HPR := Lib.hid hpre
    obtain ⟨rr, hrr⟩ := hrec
    have hlz := get_lt hrr
    clear hpre hrr hxm hval hI0 hps0
    simp only [encP, cs, List.map_cons, List.map_nil]
    gi_wp2_with fail
    refine ⟨World.grownBy_alloc _ _ none, fun X2 hg hI2 hl2 => ?_⟩
    obtain ⟨ps, hps, hI2⟩ := hI2
    have c2 : X2.heap[Z.heap.size]? = some (.cells #[.int .i64 x0, .int .i64 x1, .int .i64 x2] 61) := (hg.block _ (by simp) (fun e => by injection e with e; omega)).trans (World.alloc_heap_new _ _)
    have HC2 := Lib.hid c2
    have HI2 := Lib.hid hI2
    have HPS := Lib.hid hps
    have kX := HK.out _ _ hI2.j
    have cm := kX.1.cell
    have HPX := Lib.hid kX.2
    have c2' : blk X2 Z.heap.size = some (.cells #[.int .i64 x0, .int .i64 x1, .int .i64 x2] 61 (0, 0)) := c2
    clear hg hl2 hI2 hps kX c2
    gi_wp2_with fail
    refine ⟨trivial, rfl, (CallsIn.inRound _ (callsIn_wide.2 (CtA.Page_any x0 x1 x2 _ HPX.out HV.out))).mono ?_⟩
    rintro e X3 ⟨⟨v, rfl, ho⟩, hb3⟩
    have g4 := grown_of hb3
    have A4 := HI2.out.step HJ.out HM.out g4
    have HA4 := Lib.hid A4
    have HG4 := Lib.hid g4
    have c6 : blk X3 Z.heap.size = some (.cells #[.int .i64 x0, .int .i64 x1, .int .i64 x2] 61 (0, 0)) := (blk_below hb3 _ (blk_lt c2')).trans c2'
    have c3 : X3.heap[W.heap.size]? = some (.cells #[.func (.yield lo) #[] #[]] 109) := (A4.box _ (List.mem_cons_of_mem _ (List.mem_cons_self ..))).2.1
    have c4 : X3.cell? ⟨W.heap.size, 0, none⟩ = some (.func (.yield lo) #[] #[]) := by rw [blk_cell (show blk X3 W.heap.size = _ from c3)]; rfl
    obtain ⟨g, cap, rfl, _, hg1, hg2, hg3, hg4⟩ := owns_pos ho (by omega)
    have hGp : Gp ts D wr ([x0, x1, x2], .slice (some ⟨g, 0, none⟩) 144 cap) X3 := ⟨x0, x1, x2, rfl, HV.out, by rw [cp_fb]; exact MpE.owns_mono ho (Nat.zero_le _)⟩
    have hok : okE D (ps ++ [([x0, x1, x2], .slice (some ⟨g, 0, none⟩) 144 cap)]) := by
      unfold okE
      rw [List.map_append, HPS.out]
      exact HPR.out
    obtain ⟨fn, tmps, assign, body, hy, hR⟩ := HY.out ps _ X3 A4.j hok hGp A4.size
    simp only [encI, cs, List.map_cons, List.map_nil] at hy
    have HOK := Lib.hid hok
    clear hb3 c2' cm g4 A4 c3 ho hg1 hg2 hg3 hg4 hGp hok
    gi_wp2
    refine ⟨rfl, hR.mono ?_⟩
    rintro e Z2 ⟨hh, (⟨rfl, hj, ho⟩ | ⟨rfl, hj⟩)⟩
    · have A5 := Lib.hid (HA4.out.round HM.out hh hj ho)
      have HH := Lib.hid hh
      have HO := Lib.hid ho
      clear c4 hy hR hh hj ho c6
      gi_wp2
      have OB : ∀ k, Own X3 k → Own X2 k := fun k hk => HM.out.back ps _ _ _ HI2.out.j HG4.out (fun r e => by cases e) k hk
      refine ⟨(Hold.grown HG4.out (fun r e => by cases e)).trans (HH.out.mono (by omega) OB), ⟨_, by rw [List.map_append, HPS.out]; rfl, A5.out⟩, fun k hk hB => ?_⟩
      rcases HO.out k hk (by omega) with h1 | h1
      · exact .inl (OB k h1)
      · exact .inr (Nat.le_trans HG4.out.size h1)
    · have HH := Lib.hid hh
      have HX := Lib.hid hj
      clear c4 hy hR hh hj c6
      gi_wp2
      have OB : ∀ k, Own X3 k → Own X2 k := fun k hk => HM.out.back ps _ _ _ HI2.out.j HG4.out (fun r e => by cases e) k hk
      exact ⟨(Hold.grown HG4.out (fun r e => by cases e)).trans (HH.out.mono (by omega) OB), rfl, _, HOK.out, HX.out⟩
  case done =>
    rintro D9 Z hD9 ⟨ps, hps, hI⟩ hdef
    have HI := Lib.hid hI
    have HPS := Lib.hid hps
    clear hI hps
    gi_wp2_with fail
    refine leaves_marks (B := W.heap.size) (fun Y => J ps Y) (fun E Y hE hY he => HJ.out.putObj _ hY hE he rfl) (fun Y hY => ⟨_, results_none rfl _ _ _, ⟨_, rfl⟩, .inl ⟨ps, HPS.out, hY⟩⟩) [D9] (by simp) Z HI.out.j fun E hp => ?_
    obtain rfl : E = D9 := by simpa using hp
    exact ⟨by omega, hdef⟩
  case stop =>
    rintro D9 c pre Z hD9 hpre ⟨rfl, q, hq, hjx⟩ hdef
    have HQ := Lib.hid hq
    clear hq
    gi_wp2_with fail
    refine leaves_marks (B := W.heap.size) (fun Y => Jx q Y) (fun E Y hE hY he => HJx.out.putObj _ hY hE he rfl) (fun Y hY => ⟨_, results_none rfl _ _ _, ⟨_, rfl⟩, .inr ⟨_, HQ.out, hY⟩⟩) [D9] (by simp) Z hjx fun E hp => ?_
    obtain rfl : E = D9 := by simpa using hp
    exact ⟨by omega, hdef⟩
end Go.Proofs.Ytdjiblgnealmkaa.CtC

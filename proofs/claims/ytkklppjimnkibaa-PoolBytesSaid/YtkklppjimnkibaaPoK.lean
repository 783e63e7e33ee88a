/-
  A pool: the iterator over all that is there.
  All that is there as a row.
-/
import Derived.Test.YtkklppjimnkibaaPoI
import Derived.Test.YtkklppjimnkibaaPgE
import Derived.RangeFuncBox
import Derived.Maps.AppendAt
import Derived.Maps.OwnIn
namespace Go.Proofs.Ytkklppjimnkibaa.PoJ
open Go.RowKit Go.Shelf Rd Go.Proofs.Ytkklppjimnkibaa.Row Mid LrM PgM PgA PgB PgN PoM PoA PoB It
open Go.Proofs.Ytkklppjimnkibaa.PgC (three len3 eqL eq_pg3)
open Go.Proofs.Ytkklppjimnkibaa.PgD (grown_of own_step encP Box1)
open Go.Proofs.Ytkklppjimnkibaa.PgE (pre_mem)
set_option linter.unusedVariables false
set_option linter.unusedSimpArgs false
set_option maxRecDepth 10000
attribute [local go_sem] Oper.semAt_some
attribute [local go_sem ↓] load_pg store_pg
attribute [local go_sem] one_int pc3 run_load_pg run_store_pg midLoad_eq rowLoad_eq rowStore_eq blk_alloc_at blk_alloc_old blk_drew blk_drewN blk_set_far blk_set_far' blk_grow setRow_alloc_at setRow_alloc_old setRow_drew setRow_drewN
variable {lo : Lo} {pb gw n d : Nat} {Bb : Nat → Prop} {R : List Ent}
theorem enters_pall : ∀ args w, (callFunc 62 args).run Try.prog w = .ok (.enter 62 args) w := enters_of Try.func62 (by kernel_rfl) rfl
theorem pall_any (p : Option Addr) (w : World) :
    Calls Try.prog 43 #[.pointer p] w fun e w' => e = .returned (.func (.func 62) #[] #[.pointer (some ⟨w.heap.size, 0, none⟩)]) ∧ w' = w.alloc (.cells #[.pointer p] 26) := by
  have hmf : ∀ (fn : Fn) (first cap : Array Value) (w : World), (Instr.makeFunc fn first cap).run Try.prog w = .ok (.func fn first cap) w := fun _ _ _ _ => rfl
  go_enter Try.func43, Try.ntmps43
  go_wp2
  go_ret
  exact ⟨rfl, rfl⟩
def BoxQ (bx : Nat) (p : Option Addr) (X : World) : Prop := blk X bx = some (.cells #[.pointer p] 26 (0, 0))
theorem BoxQ.cell {bx : Nat} {p : Option Addr} {X : World} (h : BoxQ bx p X) : X.cell? ⟨bx, 0, none⟩ = some (.pointer p) := by rw [blk_cell h]; rfl
theorem fil_hit {f : List Int → Bool} {xs pre : PgM.Row} {x : List Int} (h : pre ++ [x] <+: xs) (hx : f x = true) : pre.filter f ++ [x] <+: xs.filter f := by
  have := h.filter f
  rwa [List.filter_append, List.filter_cons, if_pos hx, List.filter_nil] at this
theorem fil_yes {f : List Int → Bool} {pre : PgM.Row} {x : List Int} (hx : f x = true) : (pre ++ [x]).filter f = pre.filter f ++ [x] := by
  rw [List.filter_append, List.filter_cons, if_pos hx, List.filter_nil]
theorem fil_no {f : List Int → Bool} {pre : PgM.Row} {x : List Int} (hx : f x = false) : (pre ++ [x]).filter f = pre.filter f := by
  rw [List.filter_append, List.filter_cons, if_neg (by rw [hx]; decide), List.filter_nil, List.append_nil]
theorem Pl.c0 {X : World} (h : Pl X lo Bb pb gw n d R) : X.cell? ⟨pb, 0, none⟩ = some (.int .i64 d) := by
  obtain ⟨lb, lg, v, sl, o, wl, ⟨rs, _, h1, _⟩, _⟩ := h
  exact h1.c0
set_option maxHeartbeats 4000000 in
theorem pall_seq (bx : Nat) : Seq Try.prog 62 #[.pointer (some ⟨bx, 0, none⟩)] encP ((allV d).filter (hasR R)) (fun X => BoxQ bx (some ⟨pb, 0, none⟩) X ∧ Pl X lo Bb pb gw n d R) := by
  intro lo' J Jx Own W hJ hJx hM hK hY h0
  refine callsIn_wide.1 (callsIn_of_wp_marks (F := Fence.wide) (n := 0) Try.func62 rfl trivial ?_ rfl)
  simp only [Try.ntmps62, List.size_toArray, List.length_cons, List.length_nil, Nat.reduceAdd, Nat.reduceSub, Array.replicate_succ, Array.replicate_zero, List.push_toArray, List.append_toArray, List.nil_append, List.cons_append]
  have A0 : Has W.heap.size J Own [] [] [] W := ⟨h0, fun p hp => (by cases hp), fun p hp => (by cases hp), Nat.le_refl _⟩
  have A1 := A0.lay hJ hM (.cells #[.func (.yield lo') #[] #[]] 44)
  have c1 := (hK _ _ A1.j).1.cell
  have c2 := Pl.c0 (hK _ _ A1.j).2
  have HA := Lib.hid A1
  clear A0 A1 h0
  have HY := Lib.hid hY
  have HJ := Lib.hid hJ
  have HJx := Lib.hid hJx
  have HM := Lib.hid hM
  have HK := Lib.hid hK
  clear hY hJ hJx hM hK
  gi_wp2_with fail
  refine ⟨trivial, rfl, (callsIn_wide.2 (PgD.all_any d _)).mono ?_⟩
  rintro e X0 ⟨rfl, hX0⟩
  have B1 := HA.out.lay HJ.out HM.out (.cells #[.int .i64 d] 3)
  rw [← hX0] at B1
  have hs0 : X0.heap.size = W.heap.size + 2 := by rw [hX0]; simp
  have HB := Lib.hid B1
  clear B1 hX0 c1 c2 HA
  try simp only [World.size_alloc] at HB
  gi_wp2_with fail
  have hbs : ∀ p ∈ [(W.heap.size + 1, Obj.cells #[.int .i64 d] 3), (W.heap.size, Obj.cells #[.func (.yield lo') #[] #[]] 44)], p.1 < X0.heap.size := fun p hp => get_lt (HB.out.box p hp).2.1
  have HBS := Lib.hid hbs
  clear hbs
  try simp only [World.size_alloc]
  refine range_seq (gf := 66) (lb := #[.pointer (some ⟨W.heap.size + 1, 0, none⟩)]) rfl PgD.enters_all (PgE.all_seq d (W.heap.size + 1)) (fun _ => rfl)
    (fun pre Z => Has W.heap.size J Own [(W.heap.size + 1, .cells #[.int .i64 d] 3), (W.heap.size, .cells #[.func (.yield lo') #[] #[]] 44)] [] (pre.filter (hasR R)) Z)
    (fun c pre Z => c = .ret ∧ ∃ q, q <+: (allV d).filter (hasR R) ∧ Jx q Z)
    (fun pre => Own (pre.filter (hasR R))) ?hI ?hIx ?hM ?hK ?h0 ?round ?done ?stop
  case hI =>
    intro s Z Y row hs hg hr
    exact Has.own HJ.out HM.out (B' := X0.heap.size) (by omega) [] HBS.out (fun D hp => (by cases hp)) (s.filter (hasR R)) Z Y row hs hg hr
  case hIx =>
    rintro c s Z Y row ⟨h1, q, h3, h2⟩ hg hr
    exact ⟨h1, q, h3, HJx.out _ _ _ _ h2 hg (fun r e => ⟨by have := (hr r e).1; omega, (hr r e).2⟩)⟩
  case hM => exact ⟨fun s Z q h ho => HM.out.cells _ _ q h.j ho, fun s Z Y row h hg hr => HM.out.back _ _ _ _ h.j hg fun r e => ⟨by have := (hr r e).1; omega, (hr r e).2⟩⟩
  case hK => exact fun s Z h => (h.box _ (List.mem_cons_self ..)).2.1
  case h0 => exact HB.out
  case round =>
    intro l' pre x Z hl' hrec hI hpre
    obtain ⟨x0, x1, x2, rfl⟩ := len3 (three_all _ x (pre_mem hpre))
    have HI := Lib.hid hI
    have HPR := Lib.hid hpre
    obtain ⟨rr, hrr⟩ := hrec
    have hlz := get_lt hrr
    clear hI hpre hrr
    simp only [encP, cs, List.map_cons, List.map_nil]
    gi_wp2_with fail
    refine ⟨World.grownBy_alloc _ _ none, fun X2 hg hI2 hl2 => ?_⟩
    have c2 : blk X2 Z.heap.size = some (.cells #[.int .i64 x0, .int .i64 x1, .int .i64 x2] 35 (0, 0)) := (hg.block _ (by simp) (fun e => by injection e with e; omega)).trans (World.alloc_heap_new _ _)
    have HI2 := Lib.hid hI2
    have k2 := HK.out _ _ hI2.j
    have c1 := k2.1.cell
    have CH := Lib.hid (has_any x0 x1 x2 X2 k2.2)
    obtain ⟨q, eq⟩ : ∃ q, hasR R [x0, x1, x2] = q := ⟨_, rfl⟩
    rw [eq] at CH
    have EQ := Lib.hid eq
    clear hg hI2 hl2 k2 eq
    gi_wp2_with fail
    refine ⟨trivial, rfl, (CallsIn.inRound _ (callsIn_wide.2 CH.out)).mono ?_⟩
    rintro e X3 ⟨rfl, hb3⟩
    have g3 := grown_of hb3
    have HG3 := Lib.hid g3
    have A3 := HI2.out.step HJ.out HM.out g3
    have HA3 := Lib.hid A3
    have c3 := (blk_below hb3 _ (blk_lt c2)).trans c2
    have c4 : X3.heap[W.heap.size]? = some (.cells #[.func (.yield lo') #[] #[]] 44) := (A3.box _ (List.mem_cons_of_mem _ (List.mem_cons_self ..))).2.1
    have c5 : X3.cell? ⟨W.heap.size, 0, none⟩ = some (.func (.yield lo') #[] #[]) := by rw [blk_cell (show blk X3 W.heap.size = _ from c4)]; rfl
    clear hb3 g3 A3 c1 c2 c4 CH
    cases q
    case false =>
      gi_wp2
      refine ⟨fun f e => (by cases e), ?_⟩
      gi_wp2
      refine ⟨Hold.grown HG3.out (fun r e => by cases e), ?_, fun k hk hB => .inl ?_⟩
      · show Has _ _ _ _ _ ((pre ++ [[x0, x1, x2]]).filter (hasR R)) _
        rw [fil_no EQ.out]
        exact HA3.out
      · show Own (pre.filter (hasR R)) X2 k
        replace hk : Own ((pre ++ [[x0, x1, x2]]).filter (hasR R)) _ k := hk
        rw [fil_no EQ.out] at hk
        exact HM.out.back _ _ _ _ HI2.out.j HG3.out (fun r e => by cases e) k hk
    case true =>
      obtain ⟨fn, tmps, assign, body, hy, hR⟩ := HY.out (pre.filter (hasR R)) [x0, x1, x2] X3 HA3.out.j (fil_hit HPR.out EQ.out) HA3.out.size
      simp only [encP, cs, List.map_cons, List.map_nil] at hy
      have OB : Hid (∀ k, Own (pre.filter (hasR R)) X3 k → Own (pre.filter (hasR R)) X2 k) := Lib.hid fun k hk => HM.out.back _ _ _ _ HI2.out.j HG3.out (fun r e => by cases e) k hk
      gi_wp2
      refine ⟨rfl, hR.mono ?_⟩
      rintro e Z2 ⟨hh, (⟨rfl, hj, ho⟩ | ⟨rfl, hj⟩)⟩
      · have A5 := Lib.hid (HA3.out.round HM.out hh hj ho)
        have HH := Lib.hid hh
        have HO := Lib.hid ho
        clear c3 c5 hy hR hh hj ho
        gi_wp2
        refine ⟨(Hold.grown HG3.out (fun r e => by cases e)).trans (HH.out.mono (by omega) OB.out), ?_, fun k hk hB => ?_⟩
        · show Has _ _ _ _ _ ((pre ++ [[x0, x1, x2]]).filter (hasR R)) _
          rw [fil_yes EQ.out]
          exact A5.out
        · replace hk : Own ((pre ++ [[x0, x1, x2]]).filter (hasR R)) _ k := hk
          rw [fil_yes EQ.out] at hk
          rcases HO.out k hk (by omega) with h1 | h1
          · exact .inl (OB.out k h1)
          · exact .inr (Nat.le_trans HG3.out.size h1)
      · have HH := Lib.hid hh
        have HX := Lib.hid hj
        clear c3 c5 hy hR hh hj
        gi_wp2
        exact ⟨(Hold.grown HG3.out (fun r e => by cases e)).trans (HH.out.mono (by omega) OB.out), rfl, _, fil_hit HPR.out EQ.out, HX.out⟩
  case done =>
    intro D Z hD hI hdef
    have HI := Lib.hid hI
    clear hI
    gi_wp2_with fail
    exact leaves_marks (B := W.heap.size) (fun Y => J ((allV d).filter (hasR R)) Y) (fun E Y hE hY he => HJ.out.putObj _ hY hE he rfl) (fun Y hY => ⟨_, results_none rfl _ _ _, ⟨_, rfl⟩, .inl hY⟩) [D] (by simp) Z HI.out.j (fun E hp => by
      obtain rfl : E = D := by simpa using hp
      exact ⟨by omega, hdef⟩)
  case stop =>
    intro D c pre Z hD hpre hx hdef
    obtain ⟨rfl, q, hq, hjx⟩ := hx
    have HQ := Lib.hid hq
    clear hq
    gi_wp2_with fail
    refine leaves_marks (B := W.heap.size) (fun Y => Jx q Y) (fun E Y hE hY he => HJx.out.putObj _ hY hE he rfl) (fun Y hY => ⟨_, results_none rfl _ _ _, ⟨_, rfl⟩, .inr ⟨_, HQ.out, hY⟩⟩) [D] (by simp) Z hjx fun E hp => ?_
    obtain rfl : E = D := by simpa using hp
    exact ⟨by omega, hdef⟩
end Go.Proofs.Ytkklppjimnkibaa.PoJ

namespace Go.Proofs.Ytkklppjimnkibaa.PoK
open Go.RowKit Go.Shelf Rd Go.Proofs.Ytkklppjimnkibaa.Row Mid PgM PgA PgB PgC PgN PoM PoA PoB PoJ It
open Go.Proofs.Ytkklppjimnkibaa.PgD (grown_of own_step encP Box1)
set_option linter.unusedVariables false
set_option linter.unusedSimpArgs false
set_option maxRecDepth 10000
attribute [local go_sem] Oper.semAt_some
attribute [local go_sem ↓] load_pg store_pg
attribute [local go_sem] one_int pc3 run_load_pg run_store_pg midLoad_eq rowLoad_eq rowStore_eq blk_alloc_at blk_alloc_old blk_drew blk_drewN blk_set_far blk_set_far' blk_grow setRow_alloc_at setRow_alloc_old setRow_drew setRow_drewN
theorem eq_nil (d f : Nat) (c : Array Value) (w : World) : (Op.equalIn (d + 1) 90 (.func (.func f) #[] c) .nilFunc).run Try.prog w = .ok false w := by
  rw [Op.equalIn]
  simp [go_sem, Try.underlying90]
theorem nil_iter (f : Nat) (c : Array Value) (w : World) : (binOp .eql 90 (.func (.func f) #[] c) .nilFunc).run Try.prog w = .ok (.bool false) w := by
  simp only [binOp]
  rw [show Op.equal = Op.equalIn (9999 + 1) from rfl]
  simp only [Sem.run_bind, eq_nil, Result.andThen_ok, Sem.run_pure]
attribute [local go_sem ↓] nil_iter
theorem own_lo {W : World} {base b e s n : Nat} {v : Value} {xs : List Value} (h : W.ownsRow base e s v n xs) (hb : b ≤ base) : W.ownsRow b e s v n xs :=
  ⟨h.1, h.2.imp id fun ⟨g, cap, cur, e1, e2, e3⟩ => ⟨g, cap, cur, e1, Nat.le_trans hb e2, e3⟩⟩
theorem own_hi {W : World} {base b e s n : Nat} {v : Value} {xs : List Value} (h : W.ownsRow base e s v n xs) (hb : ∀ k, v.ownBlock = some k → b ≤ k) : W.ownsRow b e s v n xs :=
  ⟨h.1, h.2.imp id fun ⟨g, cap, cur, e1, e2, e3⟩ => ⟨g, cap, cur, e1, hb g (by rw [e1]; rfl), e3⟩⟩
theorem app_pgIn {F : Fence} {nF : Nat} {ops : Array Oper} {rest : List Oper} {o : Oper} {a : Act} {w : World} {Q : Exit → Act → World → Prop} (hgd : o.guard = none) (s x : Operand)
    (ho : o.op = .call { callee := .builtin .append, args := #[s, x], argTypes := #[38, 38] })
    (base : Nat) (v : Value) (m : Nat) (r : PgM.Row) (hs : a.eval s = v) (hown : w.ownsRow base 35 3 v m (fl r))
    (gx : Nat) (cx : Nat) (y : List Int) (hx : a.eval x = .slice (some ⟨gx, 0, none⟩) 1 cx) (hy : y.length = 3) (hg : blk w gx = some (.cells (cs .i64 y) 35 (0, 0))) (hm : m ≤ 1000000) (hbase : base ≤ w.heap.size)
    (h : ∀ v' w', w'.ownsRow base 35 3 v' (m + 1) (fl (r ++ [y])) → w.grownBy w' v.ownBlock → (v'.ownBlock = v.ownBlock ∨ v'.ownBlock = some w.heap.size) → wpListIn F nF Try.prog ops Q rest (a.put o.dst v') w') : wpListIn F nF Try.prog ops Q (o :: rest) a w := by
  obtain ⟨i0, hi, hz0, hz1, hz2⟩ := info_parts info_page
  refine wpListIn_append_own_at w hgd s x 38 ho base 35 i0 _ 3 24 Try.underlying38 hi hz0 hz1 hz2 rfl (by decide) v m (fl r) hs hown ⟨gx, 0, none⟩ 1 cx (fl [y]) hx ?_ ?_ ?_ (by unfold maxLen; omega) (by omega) hbase ?_
  · rw [fl_one, List.length_map, hy]
  · intro j u hj
    rw [Addr.add_mid, Nat.zero_add, blk_cell hg]
    rw [fl_one] at hj
    simpa [cs] using hj
  · intro u hu
    rw [fl_one, List.mem_map] at hu
    obtain ⟨z, _, rfl⟩ := hu
    rfl
  · intro v' w' h1 h2 h3 h4
    exact h v' w' (by rw [fl_app]; exact h1) h2 h4
def cutB (xs : PgM.Row) (most : Int) : Bool := decide (0 ≤ most ∧ most < xs.length)
def cutV (xs : PgM.Row) (most : Int) : PgM.Row := if cutB xs most = true then xs.take most.toNat else xs
theorem cut_at {xs : PgM.Row} {most : Int} {q : PgM.Row} {x : List Int} (h : q ++ [x] <+: xs) (hk : (q.length : Int) = most) : cutV xs most = q := by
  have hl := h.length_le
  simp only [List.length_append, List.length_singleton] at hl
  unfold cutV
  rw [if_pos (show cutB xs most = true from decide_eq_true (by omega))]
  have hq : most.toNat = q.length := by omega
  rw [hq]
  obtain ⟨t, ht⟩ := h
  rw [← ht, List.append_assoc, List.take_left']
  rfl
theorem cut_not {xs : PgM.Row} {most : Int} (h : ∀ i, i < xs.length → (i : Int) ≠ most) : cutV xs most = xs := by
  have hr : ¬ (0 ≤ most ∧ most < (xs.length : Int)) := fun ⟨a, b⟩ => h most.toNat (by omega) (by omega)
  unfold cutV
  rw [if_neg (by rw [show cutB xs most = false from decide_eq_false hr]; decide)]
theorem cut_all (xs : PgM.Row) : cutV xs (-1) = xs := cut_not fun i hi => by omega
theorem cut_take {xs : PgM.Row} {k : Nat} (h : k ≤ xs.length) : cutV xs (k : Int) = xs.take k := by
  by_cases e : k = xs.length
  · rw [cut_not fun i hi => by omega, e, List.take_length]
  · unfold cutV
    rw [if_pos (show cutB xs (k : Int) = true from decide_eq_true ⟨by omega, by omega⟩)]
    rfl
structure AllEnd (w : World) (r : PgM.Row) (X : World) : Prop where
  below : Below w.heap.size w X
  row : ∃ v, Boxed X (w.heap.size + 1) 38 v ∧ X.ownsRow (w.heap.size + 3) 35 3 v r.length (fl r)
  size : w.heap.size + 3 ≤ X.heap.size
def Boxes (p : Option Addr) (w X : World) : Prop := blk X (w.heap.size + 2) = some (.cells #[.pointer p] 26 (0, 0))
structure AllRun (p : Option Addr) (w : World) (most : Int) (pre : PgM.Row) (X : World) : Prop where
  fin : AllEnd w pre X
  k : blk X w.heap.size = some (.cells #[.int .i64 most] 3 (0, 0))
  b : Boxes p w X
  not : ∀ i, i < pre.length → (i : Int) ≠ most
theorem below_grown {B b : Nat} {w X Y : World} {row : Option Nat} (h : Below b w X) (hg : X.grownBy Y row) (hb : b ≤ w.heap.size) (hr : ∀ r, row = some r → b ≤ r) : Below b w Y :=
  ⟨hg.os.trans h.os, hg.tape.trans h.tape, hg.output.trans h.output, Nat.le_trans h.size hg.size, fun k hk => (hg.block k (by have := h.size; omega) fun e => by have := hr k e.symm; omega).trans (h.block k hk)⟩
theorem blk_grown {X Y : World} {row : Option Nat} {k : Nat} {o : Obj} (h : blk X k = some o) (hg : X.grownBy Y row) (hr : ∀ r, row = some r → k < r) : blk Y k = some o :=
  (hg.block k (get_lt h) fun e => by have := hr k e.symm; omega).trans h
theorem not_row {X : World} {row : Option Nat} {base : Nat} {e : TypeId} {sz : Nat} {v : Value} {k : Nat} {xs : List Value} (h : X.ownsRow base e sz v k xs) (hr : ∀ r, row = some r → ∃ o : Obj, X.heap[r]? = some o ∧ o.isCells = false) : row = none ∨ row ≠ v.ownBlock := by
  cases row with
  | none => exact .inl rfl
  | some r =>
    refine .inr fun e' => ?_
    obtain ⟨o, ho, hc⟩ := hr r rfl
    rcases h.2 with ⟨rfl, _⟩ | ⟨g, cap, cur, rfl, _, hgb, _⟩
    · cases e'
    · obtain rfl : r = g := by simpa [Value.ownBlock] using e'
      rw [hgb] at ho; cases ho; cases hc
theorem AllEnd.grown {w : World} {r : PgM.Row} {X Y : World} {row : Option Nat} (h : AllEnd w r X) (hg : X.grownBy Y row) (hr : ∀ r, row = some r → w.heap.size + 3 ≤ r ∧ ∃ o : Obj, X.heap[r]? = some o ∧ o.isCells = false) : AllEnd w r Y := by
  obtain ⟨v, hv, ho⟩ := h.row
  refine ⟨below_grown (B := 0) h.below hg (Nat.le_refl _) fun r e => by have := (hr r e).1; omega, ⟨v, hv.kept hg fun e => ?_, ho.kept hg ?hne⟩, Nat.le_trans h.size hg.size⟩
  · have := (hr _ e.symm).1
    omega
  case hne =>
    rcases not_row ho (fun r e => (hr r e).2) with e | e
    · subst e
      cases v.ownBlock with
      | none => exact .inl rfl
      | some _ => exact .inr (by simp)
    · exact .inr (Ne.symm e)
theorem AllRun.grown {p : Option Addr} {w : World} {most : Int} {pre : PgM.Row} {X Y : World} {row : Option Nat} (h : AllRun p w most pre X) (hg : X.grownBy Y row) (hr : ∀ r, row = some r → w.heap.size + 3 ≤ r ∧ ∃ o : Obj, X.heap[r]? = some o ∧ o.isCells = false) : AllRun p w most pre Y :=
  ⟨h.fin.grown hg hr, blk_grown h.k hg fun r e => by have := (hr r e).1; omega, by
    have hb := h.b
    unfold Boxes at hb ⊢
    exact blk_grown hb hg fun r e => by have := (hr r e).1; omega, h.not⟩
/-- whose block the collected ones lie in -/
def AllOwn (w : World) (X : World) (k : Nat) : Prop := ∃ v, Boxed X (w.heap.size + 1) 38 v ∧ v.ownBlock = some k
theorem all_mine (p : Option Addr) (w : World) (most : Int) (B : Nat) (hB : w.heap.size + 3 ≤ B) : Mine B (AllRun p w most) (fun _ X k => AllOwn w X k) := by
  refine ⟨fun s X k h ho => ?_, fun s X Y row h hg hr k ho => ?_⟩
  · obtain ⟨v, hv, ow⟩ := h.fin.row
    obtain ⟨v', hv', e⟩ := ho
    have : v = v' := by
      have := (show X.heap[w.heap.size + 1]? = _ from hv).symm.trans hv'
      simpa using this
    subst this
    rcases ow.2 with ⟨rfl, _⟩ | ⟨g, cap, cur, rfl, _, hgb, _⟩
    · cases e
    · obtain rfl : g = k := by simpa [Value.ownBlock] using e
      exact ⟨_, _, _, hgb⟩
  · obtain ⟨v, hv, ow⟩ := h.fin.row
    obtain ⟨v', hv', e⟩ := ho
    have hv2 : Boxed Y (w.heap.size + 1) 38 v := hv.kept hg fun e => by have := (hr _ e.symm).1; omega
    have : v = v' := by
      have := (show Y.heap[w.heap.size + 1]? = _ from hv2).symm.trans hv'
      simpa using this
    subst this
    exact ⟨v, hv, e⟩
theorem all_start (p : Option Addr) (w : World) (most : Int) : AllRun p w most [] (((w.alloc (.cells #[.int .i64 most] 3)).alloc (.cells #[.slice none 0 0] 38)).alloc (.cells #[.pointer p] 26)) := by
  have b : Below w.heap.size w (((w.alloc (.cells #[.int .i64 most] 3)).alloc (.cells #[.slice none 0 0] 38)).alloc (.cells #[.pointer p] 26)) := by
    refine (((Below.refl _ w).alloc ?_ _).alloc ?_ _).alloc ?_ _ <;> (try simp only [World.size_alloc]) <;> omega
  have O : ∀ (X : World) (o : Obj) (k : Nat) {p : Obj}, k < X.heap.size → blk X k = some p → blk (X.alloc o) k = some p := fun X o k p h e => (blk_alloc_old X o k h).trans e
  refine ⟨⟨b, ⟨.slice none 0 0, ?_, World.ownsRow_nil _ _ _ _⟩, by simp⟩, ?_, ?_, fun i hi => absurd hi (by simp)⟩
  · exact (O _ _ _ (by simp <;> omega) (blk_alloc_at _ _ _ (by simp)))
  · exact (O _ _ _ (by simp <;> omega) (O _ _ _ (by simp <;> omega) (blk_alloc_at _ _ _ rfl)))
  · unfold Boxes
    exact (blk_alloc_at _ _ _ (by simp))
theorem all_step {p : Option Addr} {w X2 w4 : World} {most : Int} {pre : PgM.Row} {v v4 : Value} {tmp : Obj} {B : Nat} (h : AllRun p w most pre X2) (hv : Boxed X2 (w.heap.size + 1) 38 v) (ow : X2.ownsRow (w.heap.size + 3) 35 3 v pre.length (fl pre))
    (hg : (X2.alloc tmp).grownBy w4 v.ownBlock) {x : List Int} (hb : Boxed (w4.setCell ⟨w.heap.size + 1, 0, none⟩ v4) (w.heap.size + 1) 38 v4) (ho : (w4.setCell ⟨w.heap.size + 1, 0, none⟩ v4).ownsRow (w.heap.size + 3) 35 3 v4 (pre.length + 1) (fl (pre ++ [x])))
    (hbel : Below (w.heap.size + 1) X2 (w4.setCell ⟨w.heap.size + 1, 0, none⟩ v4)) (hb4 : v4.ownBlock = v.ownBlock ∨ v4.ownBlock = some (X2.alloc tmp).heap.size) (hne : (pre.length : Int) ≠ most) (hB : w.heap.size + 3 ≤ B) (a : Act) :
    It.Ends B (fun pre Z => AllRun p w most pre Z) (fun c pre Z => c = .exit 0 ∧ ∃ q x, pre = q ++ [x] ∧ (q.length : Int) = most ∧ AllEnd w q Z) (fun _ Z k => AllOwn w Z k) pre x X2 .normal a (w4.setCell ⟨w.heap.size + 1, 0, none⟩ v4) := by
  have how : ∀ k, v.ownBlock = some k → w.heap.size + 3 ≤ k := fun k e => (ow.lt k e).1
  have keep : ∀ k, w.heap.size + 1 < k → k < X2.heap.size → some k ≠ v.ownBlock → (w4.setCell ⟨w.heap.size + 1, 0, none⟩ v4).heap[k]? = X2.heap[k]? := fun k h1 h2 h3 =>
    (blk_set_far' _ _ _ _ h1).trans ((hg.block k (by simp; omega) h3).trans (blk_alloc_old _ _ _ h2))
  have hsz : X2.heap.size ≤ (w4.setCell ⟨w.heap.size + 1, 0, none⟩ v4).heap.size := hbel.size
  have hs := h.fin.size
  have hkp : ∀ k {o : Obj}, w.heap.size + 1 < k → k < w.heap.size + 3 → blk X2 k = some o → blk (w4.setCell ⟨w.heap.size + 1, 0, none⟩ v4) k = some o := fun k o h1 h2 h3 => (keep k h1 (by omega) fun e => by have := how k e.symm; omega).trans h3
  refine ⟨⟨hsz, fun k h1 h2 h3 => keep k (by omega) h2 fun e => h3 ⟨v, hv, e.symm⟩⟩, ⟨⟨h.fin.below.trans (hbel.mono (by omega)), ⟨v4, hb, by rw [List.length_append, List.length_singleton]; exact ho⟩, by omega⟩, ?_, ?_, fun i hi => ?_⟩, fun k ⟨v', hv', e⟩ hk => ?_⟩
  · exact (hbel.block _ (by omega)).trans h.k
  · have hbx := h.b
    unfold Boxes at hbx ⊢
    exact hkp _ (by omega) (by omega) hbx
  · by_cases hl : i < pre.length
    · exact h.not i hl
    · simp only [List.length_append, List.length_singleton] at hi
      rw [show i = pre.length by omega]
      exact hne
  · have : v4 = v' := by
      have := (show (w4.setCell ⟨w.heap.size + 1, 0, none⟩ v4).heap[w.heap.size + 1]? = _ from hb).symm.trans hv'
      simpa using this
    subst this
    rcases hb4 with e2 | e2
    · exact .inl ⟨v, hv, e2.symm.trans e⟩
    · refine .inr ?_
      have := e2.symm.trans e
      simp at this
      omega
theorem w3_cut {xs : PgM.Row} {most : Int} (h : ∀ v ∈ xs, v.length = 3) : ∀ v ∈ cutV xs most, v.length = 3 := by
  unfold cutV
  split
  · exact fun v hv => h v (List.mem_of_mem_take hv)
  · exact h
theorem all_leaves {w Z : World} {xs : PgM.Row} {most : Int} {q : PgM.Row} {ad : Option Addr} {cap D : Nat} (h : AllEnd w q Z) (c5 : Z.cell? ⟨w.heap.size + 1, 0, none⟩ = some (.slice ad q.length cap)) (hm : cutV xs most = q) (h4x : ∀ v ∈ xs, v.length = 3) (hD : w.heap.size + 3 ≤ D) {fn : Func} (hf : fn.results = #[.tmp 4]) (hdef : Z.heap[D]? = some (.deferred (some [])))
    (tmps : Array Value) (h4 : tmps.getD 4 undef = .slice ad q.length cap) :
    LeavesInM Fence.wide 0 Try.prog fn tmps (fun e w' => (∃ ad' c', e = .returned (.slice ad' (cutV xs most).length c') ∧ PgAt w' ad' (cutV xs most) ∧ ∀ a, ad' = some a → w.heap.size ≤ a.block) ∧ Below w.heap.size w w') [mk D] .returning Z := by
  refine leaves_marks (Ds := [D]) (B := w.heap.size + 3) (fun Y => AllEnd w q Y ∧ Boxed Y (w.heap.size + 1) 38 (.slice ad q.length cap)) (fun E Y hE hY he => ?_) (fun Y hY => ?_) (by simp) Z ⟨h, ?_⟩ fun E hp => ?_
  · refine ⟨hY.1.grown (grownBy_putObj' _ _ _) fun r e => by injection e with e; subst e; exact ⟨hE, _, he, rfl⟩, hY.2.kept (grownBy_putObj' _ _ _) fun e => by injection e with e; omega⟩
  · obtain ⟨v, hv, ow⟩ := hY.1.row
    have : v = .slice ad q.length cap := by
      have := (show Y.heap[w.heap.size + 1]? = _ from hv).symm.trans hY.2
      simpa using this
    subst this
    refine ⟨_, results_tmp hf tmps _ _, ⟨ad, cap, by rw [h4, hm], ?_, fun a ea => ?_⟩, hY.1.below⟩
    · rw [hm]
      exact (pgAt_owns ow (by rw [← hm]; exact w3_cut h4x)).2
    · have := (ow.lt a.block (by rw [ea]; rfl)).1
      omega
  · obtain ⟨v, hv, ow⟩ := h.row
    have := hv.cell.symm.trans c5
    injection this with this
    rw [← this]
    exact hv
  · obtain rfl : E = D := by simpa using hp
    exact ⟨hD, hdef⟩
set_option maxHeartbeats 4000000 in
theorem lall_any (p : Option Addr) (xs : PgM.Row) (K : World → Prop) (w : World) (hsrc : ∀ b0 : Nat, Seq Try.prog 62 #[.pointer (some ⟨b0, 0, none⟩)] encP xs (fun X => (blk X b0 = some (.cells #[.pointer p] 26 (0, 0))) ∧ K X)) (hK : ∀ X, Below w.heap.size w X → K X) (hx : xs.length ≤ 100000) (h4 : ∀ v ∈ xs, v.length = 3) (most : Int) :
    Calls Try.prog 23 #[.pointer p, .int .i64 most] w fun e w' => (∃ ad' c', e = .returned (.slice ad' (cutV xs most).length c') ∧ PgAt w' ad' (cutV xs most) ∧ ∀ a, ad' = some a → w.heap.size ≤ a.block) ∧ Below w.heap.size w w' := by
  refine callsIn_wide.1 (callsIn_of_wp_marks (F := Fence.wide) (n := 0) Try.func23 rfl trivial ?_ rfl)
  simp only [Try.ntmps23, List.size_toArray, List.length_cons, List.length_nil, Nat.reduceAdd, Nat.reduceSub, Array.replicate_succ, Array.replicate_zero, List.push_toArray, List.append_toArray, List.nil_append, List.cons_append]
  gi_wp2_with fail
  refine ⟨trivial, rfl, (callsIn_wide.2 (pall_any p _)).mono ?_⟩
  rintro e W1 ⟨rfl, hW1⟩
  have R0 : AllRun p w most [] W1 := by rw [hW1]; exact all_start p w most
  have hs1 : W1.heap.size = w.heap.size + 3 := by rw [hW1]; simp
  have HR0 := Lib.hid R0
  have HSRC := Lib.hid hsrc
  have HKK := Lib.hid hK
  clear hW1 R0 hsrc hK
  gi_wp2_with fail
  simp only [World.size_alloc, Nat.add_assoc, Nat.reduceAdd]
  refine range_seq (gf := 62) (lb := #[.pointer (some ⟨w.heap.size + 2, 0, none⟩)]) rfl enters_pall (HSRC.out (w.heap.size + 2)) (fun _ => rfl)
    (fun pre Z => AllRun p w most pre Z)
    (fun c pre Z => c = .exit 0 ∧ ∃ q x, pre = q ++ [x] ∧ (q.length : Int) = most ∧ AllEnd w q Z)
    (fun _ Z k => AllOwn w Z k) ?hI ?hIx (all_mine p w most _ (by omega)) (fun _ _ h => ⟨h.b, HKK.out _ h.fin.below⟩) HR0.out ?round ?done ?stop
  case hI => exact fun s X Y row h hg hr => h.grown hg fun r e => ⟨by have := (hr r e).1; omega, (hr r e).2⟩
  case hIx => exact fun c s X Y row ⟨h1, q, x, h2, h3, h4⟩ hg hr => ⟨h1, q, x, h2, h3, h4.grown hg fun r e => ⟨by have := (hr r e).1; omega, (hr r e).2⟩⟩
  case round =>
    intro l' pre x Z hl' hrec hI hpre
    obtain ⟨x0, x1, x2, rfl⟩ := len3 (h4 x (hpre.subset (by simp)))
    have HI := Lib.hid hI
    have hsm : pre.length < 100001 := by
      have h1 := hpre.length_le
      simp only [List.length_append, List.length_singleton] at h1
      omega
    have HPR := Lib.hid hpre
    obtain ⟨rr, hrr⟩ := hrec
    have hlz := get_lt hrr
    have HRR := Lib.hid hrr
    clear hI hpre hrr
    simp only [encP, cs, List.map_cons, List.map_nil]
    gi_wp2_with fail
    refine ⟨World.grownBy_alloc _ _ none, fun X2 hg hI2 hl2 => ?_⟩
    have c2 : blk X2 Z.heap.size = some (.cells #[.int .i64 x0, .int .i64 x1, .int .i64 x2] 35 (0, 0)) := (hg.block _ (by simp) (fun e => by injection e with e; omega)).trans (World.alloc_heap_new _ _)
    have HI2 := Lib.hid hI2
    have c4 : X2.cell? ⟨w.heap.size, 0, none⟩ = some (.int .i64 most) := by rw [blk_cell hI2.k]; rfl
    obtain ⟨v, hv, ow⟩ := hI2.fin.row
    obtain ⟨ad, cap, rfl, _⟩ := owns_val ow
    have c5 := hv.cell
    have HV := Lib.hid hv
    have OW := Lib.hid ow
    have hsz2 : w.heap.size + 3 ≤ X2.heap.size := hI2.fin.size
    clear hg hI2 hl2 hv ow
    by_cases hke : (pre.length : Int) = most
    · gi_wp2_with fail
      exact ⟨Hold.refl _ _ _, rfl, pre, [x0, x1, x2], rfl, hke, HI2.out.fin⟩
    · gi_wp2_with (gi_at_builtin; refine app_pgIn rfl (.tmp 18) (.tmp 20) rfl (w.heap.size + 3) _ _ _ rfl (OW.out.alloc _) X2.heap.size 1 [x0, x1, x2] rfl rfl (blk_alloc_at _ _ _ rfl) (by omega) (by simp; omega) ?_; intro v4 w4 ho4 hg4 hb4; obtain ⟨g4, cap4, rfl⟩ := ownsRow_succ ho4; have AP := Lib.hid (HV.out.appended (show (38 : Nat) ≠ 35 by decide) (own_lo OW.out (show w.heap.size + 1 ≤ w.heap.size + 3 by omega)) (by omega) (by omega) (own_lo ho4 (show w.heap.size + 1 ≤ w.heap.size + 3 by omega)) hg4); have HOH := Lib.hid (own_hi AP.out.2.2.1 fun k e => (ho4.lt k e).1); have b4 := AP.out.1.cell; have f4 := AP.out.1.frozen; have HG4 := Lib.hid hg4; have HB4 := Lib.hid hb4; clear ho4 hg4 hb4)
      exact all_step HI2.out HV.out OW.out HG4.out AP.out.2.1 HOH.out AP.out.2.2.2.2 HB4.out hke (by omega) _
  case done =>
    intro D Z hD hI hdef
    have HI := Lib.hid hI
    have hm := cut_not hI.not
    obtain ⟨v, hv, ow⟩ := hI.fin.row
    obtain ⟨ad, cap, rfl, _⟩ := owns_val ow
    have c5 := hv.cell
    clear hI hv ow
    gi_wp2_with fail
    exact all_leaves HI.out.fin c5 hm h4 (by omega) rfl hdef _ rfl
  case stop =>
    intro D c pre Z hD hpre hx hdef
    obtain ⟨rfl, q, x, rfl, hq, hx⟩ := hx
    have HI := Lib.hid hx
    have hm := cut_at hpre hq
    obtain ⟨v, hv, ow⟩ := hx.row
    obtain ⟨ad, cap, rfl, _⟩ := owns_val ow
    have c5 := hv.cell
    clear hx hv ow
    gi_wp2_with fail
    exact all_leaves HI.out c5 hm h4 (by omega) rfl hdef _ rfl
/-- the law's all of a pool -/
def allR (d : Nat) (R : List Ent) : PgM.Row := (allV d).filter (hasR R)
theorem all_pl {lo : Lo} {pb gw n d : Nat} {Bb : Nat → Prop} {R : List Ent} (most : Int) (w : World) (h : Pl w lo Bb pb gw n d R) :
    Calls Try.prog 23 #[.pointer (some ⟨pb, 0, none⟩), .int .i64 most] w fun e w' => (∃ ad' c', e = .returned (.slice ad' (cutV (allR d R) most).length c') ∧ PgAt w' ad' (cutV (allR d R) most)) ∧ Below w.heap.size w w' :=
  (lall_any (some ⟨pb, 0, none⟩) (allR d R) (fun X => Pl X lo Bb pb gw n d R) w (fun b0 => pall_seq b0) (fun X hb => h.bel hb) (by
    have := List.length_filter_le (hasR R) (allV d)
    have := all_small d
    unfold allR
    omega) (fun v hv => three_all _ v (List.mem_filter.1 hv).1) most).mono fun e w' ⟨⟨ad, c, h1, h2, _⟩, h3⟩ => ⟨⟨ad, c, h1, h2⟩, h3⟩
end Go.Proofs.Ytkklppjimnkibaa.PoK

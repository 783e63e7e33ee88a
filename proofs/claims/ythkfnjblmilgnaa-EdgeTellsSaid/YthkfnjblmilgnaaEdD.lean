/-
  The iterators: all pixels of a frame; all that are covered.
-/
import Derived.Test.YthkfnjblmilgnaaEdB
import Derived.Test.YthkfnjblmilgnaaIt
namespace Go.Proofs.Ythkfnjblmilgnaa.EdD
open Go.RowKit Go.Shelf Rd Go.Proofs.Ythkfnjblmilgnaa.Row Mid EdM EdA EdB It
set_option linter.unusedVariables false
set_option linter.unusedSimpArgs false
set_option maxRecDepth 10000
attribute [local go_sem] Oper.semAt_some
theorem grown_of {X Y : World} (h : Below X.heap.size X Y) : X.grownBy Y none := ⟨h.os, h.tape, h.output, h.size, fun k hk _ => h.block k hk⟩
theorem own_step {β : Type} {B : Nat} {J : β → World → Prop} (h : OwnFrom B J) {s : β} {X Y : World} (hs : J s X) (hb : Below X.heap.size X Y) : J s Y := h s X Y none hs (grown_of hb) (fun r e => by cases e)
theorem grown_refl (X : World) (r : Option Nat) : X.grownBy X r := ⟨rfl, rfl, rfl, Nat.le_refl _, fun _ _ _ => rfl⟩
theorem enters_frame : ∀ args w, (callFunc 25 args).run Try.prog w = .ok (.enter 25 args) w := enters_of Try.func25 (by kernel_rfl) rfl
theorem enters_pix : ∀ args w, (callFunc 23 args).run Try.prog w = .ok (.enter 23 args) w := enters_of Try.func23 (by kernel_rfl) rfl
theorem frame_any (fw fh : Int) (w : World) :
    Calls Try.prog 24 #[.int .i64 fw, .int .i64 fh] w fun e w' => e = .returned (.func (.func 25) #[] #[.pointer (some ⟨w.heap.size, 0, none⟩), .pointer (some ⟨w.heap.size + 1, 0, none⟩)]) ∧ w' = (w.alloc (.cells #[.int .i64 fw] 3)).alloc (.cells #[.int .i64 fh] 3) := by
  have hmf : ∀ (fn : Fn) (first cap : Array Value) (w : World), (Instr.makeFunc fn first cap).run Try.prog w = .ok (.func fn first cap) w := fun _ _ _ _ => rfl
  go_enter Try.func24, Try.ntmps24
  go_wp2
  go_ret
  exact ⟨rfl, rfl⟩
theorem pix_any (t : List Int) (fw fh : Int) (w : World) :
    Calls Try.prog 22 #[.agg (cs .i64 t), .int .i64 fw, .int .i64 fh] w fun e w' => e = .returned (.func (.func 23) #[] #[.pointer (some ⟨w.heap.size, 0, none⟩), .pointer (some ⟨w.heap.size + 1, 0, none⟩), .pointer (some ⟨w.heap.size + 1 + 1, 0, none⟩)]) ∧ w' = ((w.alloc (.cells (cs .i64 t) 24)).alloc (.cells #[.int .i64 fw] 3)).alloc (.cells #[.int .i64 fh] 3) := by
  have hmf : ∀ (fn : Fn) (first cap : Array Value) (w : World), (Instr.makeFunc fn first cap).run Try.prog w = .ok (.func fn first cap) w := fun _ _ _ _ => rfl
  go_enter Try.func22, Try.ntmps22
  go_wp2
  go_ret
  exact ⟨rfl, rfl⟩
def encP (p : Int × Int) : Array Value := #[.int .i64 p.1, .int .i64 p.2]
def encH (l : List Int) : Array Value := #[.agg (cs .i64 l)]
def Box1 (b : Nat) (v : Value) (X : World) : Prop := blk X b = some (.cells #[v] 3 (0, 0))
theorem Box1.cell {b : Nat} {v : Value} {X : World} (h : Box1 b v X) : X.cell? ⟨b, 0, none⟩ = some v := by rw [blk_cell h]; rfl
theorem pre_line {s m y x : Nat} (hy : y < m) (hx : x < s) : rowsP s y ++ lineP x y ++ [((x : Int), (y : Int))] <+: rowsP s m := by
  have h1 : lineP x y ++ [((x : Int), (y : Int))] <+: lineP s y := by
    have e : lineP x y ++ [((x : Int), (y : Int))] = lineP (x + 1) y := by unfold lineP; rw [List.range_succ, List.map_append]; rfl
    rw [e]
    refine ⟨(lineP s y).drop (x + 1), ?_⟩
    have e2 : lineP (x + 1) y = (lineP s y).take (x + 1) := by
      unfold lineP
      rw [← List.map_take, List.take_range, Nat.min_eq_left (by omega)]
    rw [e2, List.take_append_drop]
  have h2 : ∀ q, y + 1 ≤ q → rowsP s (y + 1) <+: rowsP s q := by
    intro q hq
    induction q with
    | zero => omega
    | succ q ih =>
      by_cases e : y + 1 = q + 1
      · rw [e]; exact List.prefix_refl _
      · rw [rowsP_succ s q]
        exact (ih (by omega)).trans (List.prefix_append _ _)
  have h3 := h2 m (by omega)
  rw [rowsP_succ] at h3
  rw [List.append_assoc]
  exact (List.prefix_append_right_inj _ |>.2 h1).trans h3
theorem line_succ (x y : Nat) : lineP (x + 1) y = lineP x y ++ [((x : Int), (y : Int))] := by unfold lineP; rw [List.range_succ, List.map_append]; rfl
theorem frame_out (fw fh : Int) (b1 b2 : Nat) (hf : frameB fw fh = false) : Seq Try.prog 25 #[.pointer (some ⟨b1, 0, none⟩), .pointer (some ⟨b2, 0, none⟩)] encP [] (fun X => Box1 b1 (.int .i64 fw) X ∧ Box1 b2 (.int .i64 fh) X) := by
  intro lo J Jx Own W hJ hJx hM hK hY h0
  have c1 := (hK [] W h0).1.cell
  have c2 := (hK [] W h0).2.cell
  have hf' := of_decide_eq_false hf
  have H0 := Lib.hid h0
  clear hJ hJx hM hK hY h0 hf
  refine callsIn_wide.1 (callsIn_of_wp (F := Fence.wide) (n := 0) Try.func25 rfl trivial ?_ rfl)
  simp only [Try.ntmps25, List.size_toArray, List.length_cons, List.length_nil, Nat.reduceAdd, Nat.reduceSub, Array.replicate_succ, Array.replicate_zero, List.push_toArray, List.append_toArray, List.nil_append, List.cons_append]
  by_cases a1 : fw < 1
  · have d1 : decide (fw < 1) = true := decide_eq_true a1
    clear hf'
    gi_wp2
    refine bodyPost_ret (results_none rfl _ _ _) rfl ⟨⟨_, rfl⟩, .inl H0.out⟩
  have d1 : decide (fw < 1) = false := decide_eq_false a1
  by_cases a2 : 32 < fw
  · have d2 : decide (32 < fw) = true := decide_eq_true a2
    clear hf' a1
    gi_wp2
    refine bodyPost_ret (results_none rfl _ _ _) rfl ⟨⟨_, rfl⟩, .inl H0.out⟩
  have d2 : decide (32 < fw) = false := decide_eq_false a2
  by_cases a3 : fh < 1
  · have d3 : decide (fh < 1) = true := decide_eq_true a3
    clear hf' a1 a2
    gi_wp2
    refine bodyPost_ret (results_none rfl _ _ _) rfl ⟨⟨_, rfl⟩, .inl H0.out⟩
  have d3 : decide (fh < 1) = false := decide_eq_false a3
  have a4 : 32 < fh := by omega
  have d4 : decide (32 < fh) = true := decide_eq_true a4
  clear hf' a1 a2 a3
  gi_wp2
  refine bodyPost_ret (results_none rfl _ _ _) rfl ⟨⟨_, rfl⟩, .inl H0.out⟩
set_option maxHeartbeats 4000000 in
theorem frame_in (s m b1 b2 : Nat) (hs : 1 ≤ s ∧ s ≤ 32) (hm : 1 ≤ m ∧ m ≤ 32) :
    Seq Try.prog 25 #[.pointer (some ⟨b1, 0, none⟩), .pointer (some ⟨b2, 0, none⟩)] encP (rowsP s m) (fun X => Box1 b1 (.int .i64 s) X ∧ Box1 b2 (.int .i64 m) X) := by
  intro lo J Jx Own W hJ hJx hM hK hY h0
  have HY := Lib.hid hY
  have HJ := Lib.hid hJ
  have HK := Lib.hid hK
  clear hY hJ
  have k0 := hK [] W h0
  have c1 := k0.1.cell
  have c2 := k0.2.cell
  have H0 := Lib.hid h0
  clear h0 k0 hK
  have d1 : decide ((s : Int) < 1) = false := decide_eq_false (by omega)
  have d2 : decide (32 < (s : Int)) = false := decide_eq_false (by omega)
  have d3 : decide ((m : Int) < 1) = false := decide_eq_false (by omega)
  have d4 : decide (32 < (m : Int)) = false := decide_eq_false (by omega)
  obtain ⟨hs0, hs1⟩ := hs
  obtain ⟨hm0, hm1⟩ := hm
  refine callsIn_wide.1 (callsIn_of_wp (F := Fence.wide) (n := 0) Try.func25 rfl trivial ?_ rfl)
  simp only [Try.ntmps25, List.size_toArray, List.length_cons, List.length_nil, Nat.reduceAdd, Nat.reduceSub, Array.replicate_succ, Array.replicate_zero, List.push_toArray, List.append_toArray, List.nil_append, List.cons_append]
  gi_wp2_with fail
  clear c1 c2
  gi_loopw [21] (fun i X => ∃ y : Nat, y ≤ m ∧ i = .int .i64 y ∧ Hid (J (rowsP s y) X) ∧ W.heap.size ≤ X.heap.size) (fun i _ => m - (intOf i).toNat)
  case atStart => exact ⟨0, by omega, rfl, H0, Nat.le_refl _⟩
  case round =>
    obtain ⟨y, hy, rfl, HJy, hsz⟩ := hrel
    rename World => X
    by_cases hlt : y < m
    · have hlt' : (y : Int) < m := by omega
      have kx := HK.out _ _ HJy.out
      have c1 := kx.1.cell
      have c2 := kx.2.cell
      clear kx
      gi_wp2_with fail
      clear c1 c2
      gi_loopw [25] (fun i X => ∃ x : Nat, x ≤ s ∧ i = .int .i64 x ∧ Hid (J (rowsP s y ++ lineP x y) X) ∧ W.heap.size ≤ X.heap.size) (fun i _ => s - (intOf i).toNat)
      case atStart => exact ⟨0, by omega, rfl, by simpa [lineP] using HJy, hsz⟩
      case round =>
        obtain ⟨x, hx, rfl, HJx, hsx⟩ := hrel
        rename World => Z
        by_cases hltx : x < s
        · have hltx' : (x : Int) < s := by omega
          have HP := Lib.hid (pre_line hlt hltx)
          obtain ⟨fn, tmps, assign, body, hy, hR⟩ := HY.out _ _ Z HJx.out HP.out hsx
          have hy' : (Instr.yield lo #[.int .i64 x, .int .i64 y]).run Try.prog Z = .ok (.round lo fn tmps assign body) Z := hy
          clear hy
          gi_wp2
          refine ⟨rfl, hR.mono ?_⟩
          rintro e Z2 ⟨hkf, (⟨rfl, hJ2, ho2⟩ | ⟨rfl, hJ2⟩)⟩
          · have H3 := Lib.hid hJ2
            have S3 : W.heap.size ≤ Z2.heap.size := Nat.le_trans hsx hkf.1
            clear hJ2 hkf ho2 hy'
            gi_wp2
            go_roundw
            case rel => exact ⟨x + 1, by omega, by go_num, Lib.hid (by rw [line_succ, ← List.append_assoc]; exact H3.out), S3⟩
            case measure => simp [intOf]; omega
          · have H3 := Lib.hid hJ2
            clear hJ2 hkf hy'
            gi_wp2
            refine bodyPost_ret (results_none rfl _ _ _) rfl ?_
            exact ⟨⟨_, rfl⟩, .inr ⟨_, HP.out, H3.out⟩⟩
        · obtain rfl : x = s := by omega
          gi_wp2
          go_roundw
          case rel => exact ⟨y + 1, by omega, by go_num, Lib.hid (by rw [rowsP_succ]; exact HJx.out), hsx⟩
          case measure => simp [intOf]; omega
    · obtain rfl : y = m := by omega
      gi_wp2
      go_end0
      exact ⟨⟨_, rfl⟩, .inl HJy.out⟩
theorem frame_seq (fw fh : Int) (b1 b2 : Nat) : Seq Try.prog 25 #[.pointer (some ⟨b1, 0, none⟩), .pointer (some ⟨b2, 0, none⟩)] encP (frameP fw fh) (fun X => Box1 b1 (.int .i64 fw) X ∧ Box1 b2 (.int .i64 fh) X) := by
  by_cases h : frameB fw fh = true
  · have hd := of_decide_eq_true h
    unfold frameP
    rw [if_pos h]
    have := frame_in fw.toNat fh.toNat b1 b2 (by omega) (by omega)
    rw [show ((fw.toNat : Nat) : Int) = fw by omega, show ((fh.toNat : Nat) : Int) = fh by omega] at this
    exact this
  · have h' : frameB fw fh = false := by simpa using h
    unfold frameP
    rw [if_neg h]
    exact frame_out fw fh b1 b2 h'
/-! Those that are covered -/
attribute [local go_sem ↓] load_tri store_tri load_w3 store_w3 load_spot store_spot load_hit store_hit
attribute [local go_sem] one_int run_load_spot run_load_tri run_load_w3 run_load_hit run_store_tri run_store_w3 run_store_spot run_store_hit rowLoad_eq rowStore_eq midLoad_eq ext0 ext1 ext2 blk_alloc_at blk_alloc_old blk_drew blk_drewN blk_set_far blk_set_far' blk_grow setRow_alloc_at setRow_alloc_old setRow_drew setRow_drewN all_map
attribute [local go_sem] sp_sp piece_five fold_mid
def PixK (t : List Int) (fw fh : Int) (bt b2 b3 : Nat) (X : World) : Prop := blk X bt = some (.cells (cs .i64 t) 24 (0, 0)) ∧ Box1 b2 (.int .i64 fw) X ∧ Box1 b3 (.int .i64 fh) X
theorem pix_none (t : List Int) (h : Tri t) (fw fh : Int) (bt b2 b3 : Nat) (hb : turnedB t = false) : Seq Try.prog 23 #[.pointer (some ⟨bt, 0, none⟩), .pointer (some ⟨b2, 0, none⟩), .pointer (some ⟨b3, 0, none⟩)] encH [] (PixK t fw fh bt b2 b3) := by
  have hl := h.len
  have hlt := turned_len hl
  intro lo J Jx Own W hJ hJx hM hK hY h0
  refine callsIn_wide.1 (callsIn_of_wp_marks (F := Fence.wide) (n := 0) Try.func23 rfl trivial ?_ rfl)
  simp only [Try.ntmps23, List.size_toArray, List.length_cons, List.length_nil, Nat.reduceAdd, Nat.reduceSub, Array.replicate_succ, Array.replicate_zero, List.push_toArray, List.append_toArray, List.nil_append, List.cons_append]
  have A0 : Has W.heap.size J Own [] [] [] W := ⟨h0, fun p hp => (by cases hp), fun p hp => (by cases hp), Nat.le_refl _⟩
  have A1 := A0.lay hJ hM (.cells #[.func (.yield lo) #[] #[]] 54)
  have c0 := (hK _ _ A1.j).1
  gi_wp2_with fail
  refine ⟨trivial, rfl, (callsIn_wide.2 (turned_any t h _)).mono ?_⟩
  rintro e W1 ⟨rfl, hb1⟩
  have A2 := (A1.step hJ hM (grown_of hb1)).lay hJ hM (.cells (cs .i64 (turnedV t)) 24)
  have HA := Lib.hid A2
  rw [hb]
  clear A0 A1 A2 hb1 c0 h0
  gi_wp2
  exact ⟨_, results_none rfl _ _ _, ⟨_, rfl⟩, .inl HA.out.j⟩
theorem pre_hit {xs pre : List (Int × Int)} {x : Int × Int} {y : List Int} {t : List Int} (h : pre ++ [x] <+: xs) (hy : hitO t x = some y) : pre.filterMap (hitO t) ++ [y] <+: xs.filterMap (hitO t) := by
  have := h.filterMap (hitO t)
  rw [List.filterMap_append] at this
  simpa [hy] using this
theorem pre_hit0 {pre : List (Int × Int)} {x : Int × Int} {t : List Int} (hy : hitO t x = none) : (pre ++ [x]).filterMap (hitO t) = pre.filterMap (hitO t) := by
  rw [List.filterMap_append]; simp [hy]
theorem pre_hit1 {pre : List (Int × Int)} {x : Int × Int} {t y : List Int} (hy : hitO t x = some y) : (pre ++ [x]).filterMap (hitO t) = pre.filterMap (hitO t) ++ [y] := by
  rw [List.filterMap_append]; simp [hy]
theorem pre_mem {α : Type} {xs pre : List α} {x : α} (h : pre ++ [x] <+: xs) : x ∈ xs := h.subset (by simp)
set_option maxHeartbeats 4000000 in
theorem pix_some (t : List Int) (h : Tri t) (fw fh : Int) (bt b2 b3 : Nat) (hb : turnedB t = true) : Seq Try.prog 23 #[.pointer (some ⟨bt, 0, none⟩), .pointer (some ⟨b2, 0, none⟩), .pointer (some ⟨b3, 0, none⟩)] encH ((frameP fw fh).filterMap (hitO (turnedV t))) (PixK t fw fh bt b2 b3) := by
  have hl := h.len
  have hlt := turned_len hl
  obtain ⟨u, eu⟩ : ∃ u, turnedV t = u := ⟨_, rfl⟩
  have hu : Tri u := eu ▸ (h.turned hb).1
  have CT : Hid (∀ X : World, Calls Try.prog 10 #[.agg (cs .i64 t)] X fun e w' => e = .returned (.tuple #[.agg (cs .i64 u), .bool true]) ∧ Below X.heap.size X w') := Lib.hid fun X => by
    have := turned_any t h X
    rw [hb, eu] at this
    exact this
  rw [eu] at hlt ⊢
  clear eu hb
  intro lo J Jx Own W hJ hJx hM hK hY h0
  refine callsIn_wide.1 (callsIn_of_wp_marks (F := Fence.wide) (n := 0) Try.func23 rfl trivial ?_ rfl)
  simp only [Try.ntmps23, List.size_toArray, List.length_cons, List.length_nil, Nat.reduceAdd, Nat.reduceSub, Array.replicate_succ, Array.replicate_zero, List.push_toArray, List.append_toArray, List.nil_append, List.cons_append]
  have A0 : Has W.heap.size J Own [] [] [] W := ⟨h0, fun p hp => (by cases hp), fun p hp => (by cases hp), Nat.le_refl _⟩
  have A1 := A0.lay hJ hM (.cells #[.func (.yield lo) #[] #[]] 54)
  have c0 := (hK _ _ A1.j).1
  gi_wp2_with fail
  refine ⟨trivial, rfl, (callsIn_wide.2 (CT.out _)).mono ?_⟩
  rintro e W1 ⟨rfl, hb1⟩
  have hs1 : W.heap.size + 1 ≤ W1.heap.size := by have := hb1.size; simp at this; omega
  have A2 := (A1.step hJ hM (grown_of hb1)).lay hJ hM (.cells (cs .i64 u) 24)
  have HA := Lib.hid A2
  have c1 := (hK _ _ A2.j).2.1.cell
  have c2 := (hK _ _ A2.j).2.2.cell
  clear A0 A1 A2 hb1 c0 h0 CT
  have HY := Lib.hid hY
  have HJ := Lib.hid hJ
  have HJx := Lib.hid hJx
  have HM := Lib.hid hM
  have HK := Lib.hid hK
  clear hY hJ hJx hM hK
  gi_wp2_with fail
  refine ⟨trivial, rfl, (callsIn_wide.2 (frame_any fw fh _)).mono ?_⟩
  rintro e X0 ⟨rfl, hX0⟩
  have B1 := HA.out.lay HJ.out HM.out (.cells #[.int .i64 fw] 3)
  have B2 := B1.lay HJ.out HM.out (.cells #[.int .i64 fh] 3)
  rw [← hX0] at B2
  simp only [World.size_alloc] at B2
  have hs0 : X0.heap.size = W1.heap.size + 3 := by rw [hX0]; simp
  have HB := Lib.hid B2
  clear B1 B2 hX0 c1 c2 HA
  gi_wp2_with fail
  have hbs : ∀ p ∈ [(W1.heap.size + 1 + 1, Obj.cells #[.int .i64 fh] 3), (W1.heap.size + 1, Obj.cells #[.int .i64 fw] 3), (W1.heap.size, Obj.cells (cs .i64 u) 24), (W.heap.size, Obj.cells #[.func (.yield lo) #[] #[]] 54)], p.1 < X0.heap.size := fun p hp => get_lt (HB.out.box p hp).2.1
  have HBS := Lib.hid hbs
  clear hbs
  simp only [Nat.add_assoc, Nat.reduceAdd] at *
  refine range_seq (gf := 25) (lb := #[.pointer (some ⟨W1.heap.size + 1, 0, none⟩), .pointer (some ⟨W1.heap.size + 2, 0, none⟩)]) rfl enters_frame (frame_seq fw fh (W1.heap.size + 1) (W1.heap.size + 2)) (fun _ => rfl)
    (fun pre Z => Has W.heap.size J Own [(W1.heap.size + 2, .cells #[.int .i64 fh] 3), (W1.heap.size + 1, .cells #[.int .i64 fw] 3), (W1.heap.size, .cells (cs .i64 u) 24), (W.heap.size, .cells #[.func (.yield lo) #[] #[]] 54)] [] (pre.filterMap (hitO u)) Z)
    (fun c pre Z => c = .ret ∧ ∃ q, q <+: (frameP fw fh).filterMap (hitO u) ∧ Jx q Z)
    (fun pre => Own (pre.filterMap (hitO u))) ?hI ?hIx ?hM ?hK ?h0 ?round ?done ?stop
  case hI =>
    intro s Z Y row hs hg hr
    exact Has.own HJ.out HM.out (B' := X0.heap.size) (by omega) [] HBS.out (fun D hp => (by cases hp)) (s.filterMap (hitO u)) Z Y row hs hg hr
  case hIx =>
    rintro c s Z Y row ⟨h1, q, h3, h2⟩ hg hr
    exact ⟨h1, q, h3, HJx.out _ _ _ _ h2 hg (fun r e => ⟨by have := (hr r e).1; omega, (hr r e).2⟩)⟩
  case hM => exact ⟨fun s Z q h ho => HM.out.cells _ _ q h.j ho, fun s Z Y row h hg hr => HM.out.back _ _ _ _ h.j hg fun r e => ⟨by have := (hr r e).1; omega, (hr r e).2⟩⟩
  case hK => exact fun s Z h => ⟨(h.box _ (List.mem_cons_of_mem _ (List.mem_cons_self ..))).2.1, (h.box _ (List.mem_cons_self ..)).2.1⟩
  case h0 => exact HB.out
  case round =>
    intro l' pre x Z hl' hrec hI hpre
    obtain ⟨px, py, ex, hx1, hy1, hx2, hy2⟩ := frame_mem (pre_mem hpre)
    subst ex
    have HI := Lib.hid hI
    have HPR := Lib.hid hpre
    obtain ⟨rr, hrr⟩ := hrec
    have hlz := get_lt hrr
    clear hI hpre hrr
    simp only [encP]
    gi_wp2_with fail
    refine ⟨grown_refl _ _, fun X2 hg hI2 hl2 => ?_⟩
    have HI2 := Lib.hid hI2
    have c5 : blk X2 W1.heap.size = some (.cells (cs .i64 u) 24 (0, 0)) := (hI2.box _ (List.mem_cons_of_mem _ (List.mem_cons_of_mem _ (List.mem_cons_self ..)))).2.1
    clear hg hI2 hl2
    have CC : Hid (∀ X : World, Calls Try.prog 12 #[.agg (cs .i64 u), .int .i64 px, .int .i64 py] X fun e w' => e = .returned (.tuple #[.agg (cs .i64 (covV u px py)), .bool (covT u px py)]) ∧ Below X.heap.size X w') := Lib.hid fun X => covers_any u hu px py (by omega) (by omega) (by omega) (by omega) X
    obtain ⟨q, eq⟩ : ∃ q, covT u (px : Int) (py : Int) = q := ⟨_, rfl⟩
    have hcl := cov_len u px py
    cases q
    case false =>
      have EH : Hid (hitO u ((px : Int), (py : Int)) = none) := Lib.hid (by unfold hitO; rw [if_neg (by rw [eq]; decide)])
      rw [show covV u (px : Int) (py : Int) = no5 by unfold covV; rw [if_neg (by rw [eq]; decide)], eq] at CC
      clear eq
      gi_wp2_with fail
      refine ⟨trivial, rfl, (CallsIn.inRound _ (callsIn_wide.2 (CC.out _))).mono ?_⟩
      rintro e X3 ⟨rfl, hb3⟩
      have g4 : X2.grownBy (X3.alloc (.cells (cs .i64 no5) 31)) none := (grown_of hb3).trans (World.grownBy_alloc _ _ none)
      have A4 := Lib.hid (HI2.out.step HJ.out HM.out g4)
      have HG4 := Lib.hid g4
      clear hb3 c5 CC g4
      gi_wp2
      refine ⟨fun f e => (by cases e), ?_⟩
      gi_wp2
      refine ⟨Hold.grown HG4.out (fun r e => by cases e), ?_, fun k hk hB => .inl ?_⟩
      · show Has _ _ _ _ _ ((pre ++ [((px : Int), (py : Int))]).filterMap (hitO u)) _
        rw [pre_hit0 EH.out]
        exact A4.out
      · show Own (pre.filterMap (hitO u)) X2 k
        replace hk : Own ((pre ++ [((px : Int), (py : Int))]).filterMap (hitO u)) _ k := hk
        rw [pre_hit0 EH.out] at hk
        exact HM.out.back _ _ _ _ HI2.out.j HG4.out (fun r e => by cases e) k hk
    case true =>
      have EH : Hid (hitO u ((px : Int), (py : Int)) = some (hitL u px py)) := Lib.hid (by unfold hitO; rw [if_pos eq])
      rw [show covV u (px : Int) (py : Int) = hitL u px py by unfold covV; rw [if_pos eq], eq] at CC
      have h5 := hit_five u px py
      clear eq
      gi_wp2_with fail
      refine ⟨trivial, rfl, (CallsIn.inRound _ (callsIn_wide.2 (CC.out _))).mono ?_⟩
      rintro e X3 ⟨rfl, hb3⟩
      have g4 : X2.grownBy (X3.alloc (.cells (cs .i64 (hitL u px py)) 31)) none := (grown_of hb3).trans (World.grownBy_alloc _ _ none)
      have A4 := HI2.out.step HJ.out HM.out g4
      obtain ⟨X4, hX4⟩ : ∃ X4, X3.alloc (.cells (cs .i64 (hitL u px py)) 31) = X4 := ⟨_, rfl⟩
      have c6 : blk X4 X3.heap.size = some (.cells (cs .i64 (hitL u px py)) 31 (0, 0)) := by rw [← hX4]; exact blk_alloc_at _ _ _ rfl
      rw [hX4] at g4 A4
      have HA4 := Lib.hid A4
      have HG4 := Lib.hid g4
      have c3 : X4.heap[W.heap.size]? = some (.cells #[.func (.yield lo) #[] #[]] 54) := (A4.box _ (List.mem_cons_of_mem _ (List.mem_cons_of_mem _ (List.mem_cons_of_mem _ (List.mem_cons_self ..))))).2.1
      have c4 : X4.cell? ⟨W.heap.size, 0, none⟩ = some (.func (.yield lo) #[] #[]) := by rw [blk_cell (show blk X4 W.heap.size = _ from c3)]; rfl
      obtain ⟨fn, tmps, assign, body, hy, hR⟩ := HY.out (pre.filterMap (hitO u)) (hitL u px py) X4 A4.j (pre_hit HPR.out EH.out) A4.size
      simp only [encH] at hy
      clear hb3 c5 CC g4 A4 c3
      gi_wp2
      refine ⟨rfl, hR.mono ?_⟩
      rintro e Z2 ⟨hh, (⟨rfl, hj, ho⟩ | ⟨rfl, hj⟩)⟩
      · have A5 := Lib.hid (HA4.out.round HM.out hh hj ho)
        have HH := Lib.hid hh
        have HO := Lib.hid ho
        clear c4 hy hR hh hj ho c6
        gi_wp2
        have OB : ∀ k, Own (pre.filterMap (hitO u)) X4 k → Own (pre.filterMap (hitO u)) X2 k := fun k hk => HM.out.back _ _ _ _ HI2.out.j HG4.out (fun r e => by cases e) k hk
        refine ⟨(Hold.grown HG4.out (fun r e => by cases e)).trans (HH.out.mono (by omega) OB), ?_, fun k hk hB => ?_⟩
        · show Has _ _ _ _ _ ((pre ++ [((px : Int), (py : Int))]).filterMap (hitO u)) _
          rw [pre_hit1 EH.out]
          exact A5.out
        · replace hk : Own ((pre ++ [((px : Int), (py : Int))]).filterMap (hitO u)) _ k := hk
          rw [pre_hit1 EH.out] at hk
          rcases HO.out k hk (by omega) with h1 | h1
          · exact .inl (OB k h1)
          · exact .inr (Nat.le_trans HG4.out.size h1)
      · have HH := Lib.hid hh
        have HX := Lib.hid hj
        clear c4 hy hR hh hj c6
        gi_wp2
        have OB : ∀ k, Own (pre.filterMap (hitO u)) X4 k → Own (pre.filterMap (hitO u)) X2 k := fun k hk => HM.out.back _ _ _ _ HI2.out.j HG4.out (fun r e => by cases e) k hk
        refine ⟨(Hold.grown HG4.out (fun r e => by cases e)).trans (HH.out.mono (by omega) OB), rfl, _, pre_hit HPR.out EH.out, HX.out⟩
  case done =>
    intro D Z hD hI hdef
    have HI := Lib.hid hI
    clear hI
    gi_wp2_with fail
    refine leaves_marks (B := W.heap.size) (fun Y => J ((frameP fw fh).filterMap (hitO u)) Y) (fun E Y hE hY he => HJ.out.putObj _ hY hE he rfl) (fun Y hY => ⟨_, results_none rfl _ _ _, ⟨_, rfl⟩, .inl hY⟩) [D] (by simp) Z HI.out.j fun E hp => ?_
    obtain rfl : E = D := by simpa using hp
    exact ⟨by omega, hdef⟩
  case stop =>
    intro D c pre Z hD hpre hx hdef
    obtain ⟨rfl, q, hq, hjx⟩ := hx
    have HQ := Lib.hid hq
    clear hq
    gi_wp2_with fail
    refine leaves_marks (B := W.heap.size) (fun Y => Jx q Y) (fun E Y hE hY he => HJx.out.putObj _ hY hE he rfl) (fun Y hY => ⟨_, results_none rfl _ _ _, ⟨_, rfl⟩, .inr ⟨_, HQ.out, hY⟩⟩) [D] (by simp) Z hjx fun E hp => ?_
    obtain rfl : E = D := by simpa using hp
    exact ⟨by omega, hdef⟩
theorem pix_seq (t : List Int) (h : Tri t) (fw fh : Int) (bt b2 b3 : Nat) : Seq Try.prog 23 #[.pointer (some ⟨bt, 0, none⟩), .pointer (some ⟨b2, 0, none⟩), .pointer (some ⟨b3, 0, none⟩)] encH (pixV t fw fh) (PixK t fw fh bt b2 b3) := by
  by_cases hb : turnedB t = true
  · unfold pixV
    rw [if_pos hb]
    exact pix_some t h fw fh bt b2 b3 hb
  · unfold pixV
    rw [if_neg hb]
    exact pix_none t h fw fh bt b2 b3 (by simpa using hb)
end Go.Proofs.Ythkfnjblmilgnaa.EdD

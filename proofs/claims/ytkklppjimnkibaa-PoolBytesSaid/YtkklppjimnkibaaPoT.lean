/-
  The document's own pool: without; a slot made; Touch, Put, All, NewPool.
-/
import Derived.Test.YtkklppjimnkibaaPoS
import Derived.Test.YtkklppjimnkibaaPredV
import Derived.Test.YtkklppjimnkibaaPredT
import Derived.BigGuard
namespace Go.Proofs.Ytkklppjimnkibaa.PoT
open Go.RowKit Go.Shelf Rd Go.Proofs.Ytkklppjimnkibaa.Row Mid LrM PgM PgA PgB PgC PgN PoM PoA PoB PoH PoI PoL PoS
open Go.Proofs.Ytkklppjimnkibaa.PoD (us us_len By dataL data_len data_B data_any)
open Go.Proofs.Ytkklppjimnkibaa.PoE (BIn yields_skip below_zero one_slice)
open Go.Proofs.Ytkklppjimnkibaa.Num (ret_int ret_bool)
open Go.Proofs.Ytkklppjimnkibaa.MpE (owns_mono)
open Go.Proofs.Ytkklppjimnkibaa.Pred (Is is_stab Stab)
open It (get_lt)
set_option linter.unusedVariables false
set_option linter.unusedSimpArgs false
set_option maxRecDepth 10000
variable {X Y : World} {base qb n d : Nat} {v : Value} {rs : List (List Value)} {R : List Ent}
theorem info_rs : (Try.prog.info? 77).map (fun i => (i.zero, i.size, i.bytes)) = some (some (.agg #[.int .i64 0, .int .i64 0, .int .i64 0, .slice none 0 0]), 4, 48) := by kernel_rfl
theorem info_rs4 : (Try.prog.info? 77).map (·.size) = some 4 := by kernel_rfl
theorem load_rs (x : Value) : Instr.loadAt 77 x = loadRow 77 x := rfl
theorem store_rs (x v : Value) : Instr.storeAt 77 x v = storeRow 77 x v := rfl
theorem run_load_rs (g o : Nat) (W : World) : (loadRow 77 (.pointer (some ⟨g, o, none⟩))).run Try.prog W = midLoad Try.prog 77 4 g o W := run_loadMid Try.underlying77 rfl (by kernel_rfl) g o W
theorem run_store_rs (g o : Nat) (c : Array Value) (W : World) : (storeRow 77 (.pointer (some ⟨g, o, none⟩)) (.agg c)).run Try.prog W = midStore Try.prog 77 4 g o c W := run_storeMid info_rs4 (by decide) g o c W
theorem pc4 (a b c d : Value) : Mid.piece #[a, b, c, d] 0 4 = #[a, b, c, d] := rfl
attribute [local go_sem ↓] load_pg store_pg eq_pg3 load_rs store_rs
attribute [local go_sem] one_slice one_int pc3 pc4 run_load_pg run_store_pg run_load_rs run_store_rs midStore_eq midLoad_eq rowLoad_eq rowStore_eq blk_alloc_at blk_alloc_old blk_drew blk_drewN blk_set_far blk_set_far' blk_grow setRow_alloc_at setRow_alloc_old setRow_drew setRow_drewN
/-- one operation of a drawn region: append of what reads so -/
theorem yields_app_v {ops : Array Oper} {o : Oper} {b : Act} {w : World} {Q : Value → World → Prop} (hgd : o.guard = none) (s x : Operand) (t e : TypeId) (z : Value) (size bytes : Nat)
    (ho : o.op = .call { callee := .builtin .append, args := #[s, x], argTypes := #[t, t] }) (ht : Try.prog.underlying t = some (.slice e)) (hi : (Try.prog.info? e).map (fun i => (i.zero, i.size, i.bytes)) = some (some z, size, bytes)) (hzs : z.cells.size = size) (hsz : 0 < size) (hby : bytes ≤ 100)
    (base : Nat) (v : Value) (m : Nat) (xs : List Value) (hs : b.eval s = v) (hown : w.ownsRow base e size v m xs)
    (ad : Option Addr) (k c : Nat) (news : List Value) (hx : b.eval x = .slice ad k c) (hr : Reads w size ad k news) (h1 : ∀ u ∈ news, u.oneCell' = true)
    (h63 : m + k ≤ 1000000) (hbase : base ≤ w.heap.size)
    (h : ∀ v' w', w'.ownsRow base e size v' (m + k) (xs ++ news) → w.grownBy w' v.ownBlock → Q v' w') : Pred.yields Try.prog ops o b w Q := by
  obtain ⟨i0, hi0, hz0, hz1, hz2⟩ := info_parts hi
  obtain ⟨v', w', hrun, h2, h3⟩ := App.run_append_reads (P := Try.prog) w base t o.type e i0 z size bytes ht hi0 hz0 hz1 hz2 hzs hsz v m xs hown ad k c news hr h1 (by unfold maxLen; omega) (by have := Nat.mul_le_mul (show m + k ≤ 1000000 from h63) hby; omega) hbase
  refine Pred.yields_run (v := v') (w' := w') (Pred.wanted_none hgd) ?_ (h v' w' h2 h3)
  unfold execOp
  simp only [ho, resolve, invoke, builtin, Sem.run_bind, Sem.run_pure, Result.andThen_ok, List.map_toArray, List.map_cons, List.map_nil, hs, hx, hrun]
/-- an empty block of one's own -/
def NoneB (t B : Nat) (u : Value) (y : World) : Prop := ∃ g, u = .slice (some ⟨g, 0, none⟩) 0 0 ∧ B ≤ g ∧ blk y g = some (.cells #[] t (0, 0))
theorem none_below {t B : Nat} {u : Value} {y y' : World} (h : NoneB t B u y) (hb : Below y.heap.size y y') : NoneB t B u y' := by
  obtain ⟨g, h1, h2, h3⟩ := h
  exact ⟨g, h1, h2, (blk_below hb _ (blk_lt h3)).trans h3⟩
theorem none_own {t B : Nat} {g : Nat} {y : World} {s : Nat} (hB : B ≤ g) (h : blk y g = some (.cells #[] t (0, 0))) : y.ownsRow B t s (.slice (some ⟨g, 0, none⟩) 0 0) 0 [] :=
  ⟨by simp, .inr ⟨g, 0, _, rfl, hB, h, Nat.le_refl _, by decide, by simp, by simp⟩⟩
theorem fl4_one (rs : List (List Value)) (h : ∀ l ∈ rs, ∀ u ∈ l, u.oneCell' = true) : ∀ u ∈ DkM.fl rs, u.oneCell' = true := by
  intro u hu
  obtain ⟨l, hl, hu⟩ := List.mem_flatten.1 hu
  exact h l hl u hu
/-- a slot made -/
def Good (B : Nat) (pg b : List Int) (v8 : Value) (y : World) : Prop := ∃ g u, v8 = .pointer (some ⟨g, 0, none⟩) ∧ B ≤ g ∧ blk y g = some (.cells (slotV pg u).toArray 77 (0, 0)) ∧ y.ownsRow B 5 1 u 144 (us b)
def Zero (B : Nat) (v8 : Value) (y : World) : Prop := ∃ g, v8 = .pointer (some ⟨g, 0, none⟩) ∧ B ≤ g ∧ blk y g = some (.cells #[.int .i64 0, .int .i64 0, .int .i64 0, .slice none 0 0] 77 (0, 0))
theorem good_below {B : Nat} {pg b : List Int} {v8 : Value} {y y' : World} (h : Good B pg b v8 y) (hb : Below y.heap.size y y') : Good B pg b v8 y' := by
  obtain ⟨g, u, h1, h2, h3, h4⟩ := h
  exact ⟨g, u, h1, h2, (blk_below hb _ (blk_lt h3)).trans h3, PoE.owns_below h4 hb⟩
theorem zero_below {B : Nat} {v8 : Value} {y y' : World} (h : Zero B v8 y) (hb : Below y.heap.size y y') : Zero B v8 y' := by
  obtain ⟨g, h1, h2, h3⟩ := h
  exact ⟨g, h1, h2, (blk_below hb _ (blk_lt h3)).trans h3⟩
/-! what turns: the document's pool's own block, and what was laid since -/
theorem gq_below {w X Y : World} (h : w.grownBy X (some qb)) (hb : Below X.heap.size X Y) : w.grownBy Y (some qb) :=
  ⟨hb.os.trans h.os, hb.tape.trans h.tape, hb.output.trans h.output, Nat.le_trans h.size hb.size, fun k hk hn => (hb.block k (by have := h.size; omega)).trans (h.block k hk hn)⟩
theorem gq_set {w X Y : World} (h : w.grownBy X (some qb)) (hb : X.grownBy Y (some qb)) : w.grownBy Y (some qb) := h.trans hb
theorem gq_new {w X Y : World} {g : Nat} (h : w.grownBy X (some qb)) (hb : X.grownBy Y (some g)) (hg : w.heap.size ≤ g) : w.grownBy Y (some qb) :=
  ⟨hb.os.trans h.os, hb.tape.trans h.tape, hb.output.trans h.output, Nat.le_trans h.size hb.size, fun k hk hn => (hb.block k (by have := h.size; omega) (fun e => by injection e with e; omega)).trans (h.block k hk hn)⟩
theorem gq_of {w Y : World} (hb : Below w.heap.size w Y) : w.grownBy Y (some qb) := ⟨hb.os, hb.tape, hb.output, hb.size, fun k hk _ => hb.block k hk⟩
/-- another row -/
theorem Rp.row {v' : Value} {rs' : List (List Value)} {R' : List Ent} (h : Rp X base qb n d v rs R) (hb : Below X.heap.size X Y) (ho : Y.ownsRow base 77 4 v' rs'.length (DkM.fl rs')) (h4 : ∀ l ∈ rs', l.length = 4) (hl : rs'.length = R'.length) (hs : Sl Y (fun k => base ≤ k) R' rs') (h3 : ∀ i, i < R'.length → (ent R' i).1.length = 3) :
    Rp (Y.setCell ⟨qb, 2, none⟩ v') base qb n d v' rs' R' ∧ Y.grownBy (Y.setCell ⟨qb, 2, none⟩ v') (some qb) := by
  have hgr := setCell_grown Y qb 2 v'
  have hp : Y.heap[qb]? = some (.cells #[.int .i64 n, .int .i64 d, v] 80 (0, 0)) := (hb.block qb h.lt).trans h.p
  refine ⟨⟨blk_set _ _ _ _ _ _ hp, own_same ho fun k e => ?_, h4, hl, hs.kept fun k c _ hc => other hp hc (by decide) hgr, h3, h.lo⟩, hgr⟩
  obtain ⟨c, hc, _⟩ := own_pos' ho e
  exact other hp hc (by decide) hgr
theorem ent_sl {R : List Ent} {i : Nat} (hi : i < R.length) (e : Ent) : (R.set i e).length = R.length := List.length_set
/-- a slot's row is stored -/
theorem Rp.set {pg b : List Int} {u : Value} (h : Rp X base qb n d v rs R) {i : Nat} (hi : i < rs.length) (hpg : pg.length = 3) {g cap m : Nat} (hv : v = .slice (some ⟨g, 0, none⟩) m cap) {cur : Array Value} (hg : blk X g = some (.cells cur 77 (0, 0))) (hu : X.ownsRow 0 5 1 u 144 (us b)) (hub : ∀ k, u.ownBlock = some k → base ≤ k) :
    Rp (X.setRow g (pasteL cur.toList (i * 4) (slotV pg u)).toArray) base qb n d v (rs.set i (slotV pg u)) (R.set i (pg, b)) ∧ X.grownBy (X.setRow g (pasteL cur.toList (i * 4) (slotV pg u)).toArray) (some g) := by
  subst hv
  have hgr := setRow_grown X g (pasteL cur.toList (i * 4) (slotV pg u)).toArray
  have hr := h.r
  have hiR : i < R.length := by rw [← h.len]; exact hi
  obtain rfl : m = rs.length := by
    rcases hr.2 with ⟨e, _⟩ | ⟨_, _, _, e, _⟩
    · cases e
    · cases e; rfl
  obtain ⟨cur', hc', hs1, hs2, hown⟩ := MpG.own_paste (o := i * 4) (v := slotV pg u) hr (by rw [slotV_len]; omega)
  have hcc : cur' = cur := by
    have := hc'.symm.trans hg
    injection this with this
    injection this
  subst hcc
  have e1 : pasteL cur'.toList (i * 4) (slotV pg u) = cur'.toList.take (i * 4) ++ slotV pg u ++ cur'.toList.drop (i * 4 + (slotV pg u).length) := DkM.paste_pst (slotV pg u) cur'.toList (i * 4) (by rw [slotV_len, Array.length_toList]; omega)
  have e2 : (DkM.fl rs).take (i * 4) ++ slotV pg u ++ (DkM.fl rs).drop (i * 4 + (slotV pg u).length) = DkM.fl (rs.set i (slotV pg u)) := by
    have := DkM.fl_pst (v := slotV pg u) (o := 0) h.r4 hi (by rw [slotV_len]; omega)
    rw [Nat.add_zero, DkM.pst_whole (by rw [slotV_len, h.r4 _ (List.getElem_mem hi)])] at this
    exact this
  rw [← e1, e2] at hown
  refine ⟨⟨(other hg h.p (by decide) hgr).trans h.p, by rw [List.length_set]; exact hown, fun l hl => ?_, by rw [List.length_set, List.length_set]; exact h.len, ?_, fun j hj => ?_, h.lo⟩, hgr⟩
  · rcases List.mem_or_eq_of_mem_set hl with hl | rfl
    · exact h.r4 l hl
    · exact slotV_len _ _
  · exact Sl.set (h.sl.kept fun k c _ hc => other hg hc (by decide) hgr) h.len hiR (own_same hu fun k e => (by obtain ⟨c, hc, _⟩ := own_pos' hu e; exact other hg hc (by decide) hgr)) hub (fun k _ e => e)
  · rw [List.length_set] at hj
    rw [ent_set _ hiR]
    split
    · exact hpg
    · exact h.p3 j hj
theorem ones_rs (h : Rp X base qb n d v rs R) : ∀ u ∈ DkM.fl rs, u.oneCell' = true := by
  refine fl4_one rs fun l hl u hu => ?_
  obtain ⟨i, hi, rfl⟩ := List.getElem_of_mem hl
  obtain ⟨x, hx, _⟩ := h.sl i (by rw [← h.len]; exact hi)
  rw [List.getD_eq_getElem?_getD, List.getElem?_eq_getElem hi] at hx
  rw [show rs[i] = slotV (ent R i).1 x from hx] at hu
  simp only [slotV, List.mem_cons, List.mem_nil_iff, or_false] at hu
  rcases hu with rfl | rfl | rfl | rfl
  · rfl
  · rfl
  · rfl
  · rcases (show ∃ _ : True, True from ⟨trivial, trivial⟩) with _
    obtain ⟨x', hx', ho, _⟩ := h.sl i (by rw [← h.len]; exact hi)
    have e : x' = u := by
      rw [List.getD_eq_getElem?_getD, List.getElem?_eq_getElem hi] at hx'
      have := hx.symm.trans hx'
      simp [slotV] at this
      exact this.symm
    subst e
    obtain ⟨a, c, rfl, _⟩ := Rd.owns_val ho
    rfl
theorem stayR {w4 : World} {C : Array Value} {t : Nat} (h : Rp X base qb n d v rs R) (hg : (X.alloc (.cells C t)).grownBy w4 (Value.slice (some ⟨X.heap.size, 0, none⟩) 0 0).ownBlock) : blk w4 qb = some (.cells #[.int .i64 n, .int .i64 d, v] 80 (0, 0)) :=
  (hg.block qb (by have := h.lt; simp; omega) (fun e => by
    have e7 : qb = X.heap.size := by simpa [Value.ownBlock] using e
    have := h.lt
    omega)).trans ((blk_alloc_old _ _ _ h.lt).trans h.p)
theorem app_rs {ops : Array Oper} {rest : List Oper} {o : Oper} {a : Act} {Q : Exit → Act → World → Prop} {av : Option Addr} {cv : Nat} (hgd : o.guard = none) (s x : Operand) (ho : o.op = .call { callee := .builtin .append, args := #[s, x], argTypes := #[78, 78] })
    (h : Rp X base qb n d (.slice av rs.length cv) rs R) (hs : a.eval s = .slice (some ⟨X.heap.size, 0, none⟩) 0 0) (hx : a.eval x = .slice av rs.length cv) (hl : rs.length ≤ 1000)
    (k : ∀ a4 c4 w4, w4.ownsRow X.heap.size 77 4 (.slice a4 rs.length c4) rs.length (DkM.fl rs) → (X.alloc (.cells #[] 77)).grownBy w4 (Value.slice (some ⟨X.heap.size, 0, none⟩) 0 0).ownBlock → wpList Try.prog ops Q rest (a.put o.dst (.slice a4 rs.length c4)) w4) :
    wpList Try.prog ops Q (o :: rest) a (X.alloc (.cells #[] 77)) := by
  obtain ⟨i0, hi0, hz0, hz1, hz2⟩ := info_parts info_rs
  have hb := h.lo
  have hlt := h.lt
  refine App.wpList_append_reads _ hgd s x 78 ho X.heap.size 77 i0 (.agg #[.int .i64 0, .int .i64 0, .int .i64 0, .slice none 0 0]) 4 48 Try.underlying78 hi0 hz0 hz1 hz2 rfl (by decide) _ 0 [] hs (none_own (Nat.le_refl _) (blk_alloc_at _ _ _ rfl)) av rs.length cv (DkM.fl rs) hx ((Reads.of_owns h.r).below (Below.alloc (Below.refl _ _) (Nat.le_refl _) _) (Nat.le_refl _)) (ones_rs h) (by unfold maxLen; omega) (by omega) (by simp) ?_
  intro v4 w4 ho4 hg4
  rw [Nat.zero_add, List.nil_append] at ho4
  obtain ⟨a4, c4, rfl, -⟩ := Rd.owns_val ho4
  exact k a4 c4 w4 ho4 hg4
def Ever (q : Value → Prop) : PredV.Pr := fun v _ _ => q v
theorem ever_stab {K : Nat → World → World → Prop} {ex : Option Nat} (B m : Nat) (q : Value → Prop) : PredV.Stab K B m ex (Ever q) := ⟨fun _ _ _ _ h _ => h, fun _ _ _ _ _ _ h _ => h⟩
theorem reads_take4 {w : World} {base n c : Nat} {a : Option Addr} {t : Nat} {l : List (List Value)} (h : w.ownsRow base t 4 (.slice a n c) n (DkM.fl l)) (hw : ∀ x ∈ l, x.length = 4) (hn : n = l.length) (k : Nat) (hk : k ≤ n) : Reads w 4 a k (DkM.fl (l.take k)) := by
  have hl : (DkM.fl (l.take k)).length = k * 4 := by rw [DkM.fl_len (s := 4) fun x hx => hw x (List.mem_of_mem_take hx), List.length_take]; congr 1; omega
  have hr := Reads.of_owns h
  refine ⟨hl, hr.2.elim (fun e => .inl (by omega)) fun ⟨b, o, e, hlt, hc⟩ => .inr ⟨b, o, e, hlt, fun i hi => ?_⟩⟩
  have e2 : DkM.fl l = DkM.fl (l.take k) ++ DkM.fl (l.drop k) := by rw [← DkM.fl_app, List.take_append_drop]
  rw [hc i (by rw [e2, List.length_append]; omega), e2, List.getElem?_append_left hi]
theorem reads_drop4 {w : World} {base n c : Nat} {g : Nat} {t : Nat} {l : List (List Value)} (h : w.ownsRow base t 4 (.slice (some ⟨g, 0, none⟩) n c) n (DkM.fl l)) (hw : ∀ x ∈ l, x.length = 4) (hn : n = l.length) (k : Nat) (hk : k ≤ n) (ad : Option Addr) (hd : n - k = 0 ∨ ad = some ⟨g, k * 4, none⟩) : Reads w 4 ad (n - k) (DkM.fl (l.drop k)) := by
  have hl : (DkM.fl (l.drop k)).length = (n - k) * 4 := by rw [DkM.fl_len (s := 4) fun x hx => hw x (List.mem_of_mem_drop hx), List.length_drop, hn]
  have hl1 : (DkM.fl (l.take k)).length = k * 4 := by rw [DkM.fl_len (s := 4) fun x hx => hw x (List.mem_of_mem_take hx), List.length_take]; congr 1; omega
  have hr := Reads.of_owns h
  refine ⟨hl, ?_⟩
  rcases hd with hd | rfl
  · exact .inl hd
  · rcases hr.2 with e | ⟨b, o, e, hlt, hc⟩
    · exact .inl (by omega)
    · injection e with e
      injection e with e1 e3
      subst e1
      subst e3
      refine .inr ⟨g, k * 4, rfl, hlt, fun i hi => ?_⟩
      have e2 : DkM.fl l = DkM.fl (l.take k) ++ DkM.fl (l.drop k) := by rw [← DkM.fl_app, List.take_append_drop]
      have := hc (k * 4 + i) (by rw [e2, List.length_append]; omega)
      rw [Nat.zero_add] at this
      rw [this, e2, List.getElem?_append_right (by omega), hl1, Nat.add_sub_cancel_left]
theorem ones_sub {l m : List (List Value)} (h : ∀ u ∈ DkM.fl l, u.oneCell' = true) (hm : ∀ x ∈ m, x ∈ l) : ∀ u ∈ DkM.fl m, u.oneCell' = true := fun u hu => by
  obtain ⟨x, hx, hu⟩ := List.mem_flatten.1 hu
  exact h u (List.mem_flatten.2 ⟨x, hm x hx, hu⟩)
/-- one slot in a block -/
def OneS (C : Array Value) (u : Value) (y : World) : Prop := ∃ g, u = .slice (some ⟨g, 0, none⟩) 1 1 ∧ blk y g = some (.cells C 77 (0, 0))
theorem ones_stab (B m : Nat) (ex : Option Nat) (C : Array Value) : PredV.Stab (fun p9 y9 z9 => p9 = 0 → ∀ g9, blk y9 g9 = some (.cells C 77 (0, 0)) → blk z9 g9 = some (.cells C 77 (0, 0))) B m ex (PredV.Til 1 (OneS C)) :=
  PredV.til_stab (fun v w w' ⟨g, h1, h2⟩ hb => ⟨g, h1, (blk_below hb _ (blk_lt h2)).trans h2⟩) (fun p v w w' hp ⟨g, h1, h2⟩ hb => ⟨g, h1, hb.2 (by omega) g h2⟩)
theorem reads_oneS {w : World} {g : Nat} {a b c d : Value} (h : blk w g = some (.cells #[a, b, c, d] 77 (0, 0))) : Reads w 4 (some ⟨g, 0, none⟩) 1 [a, b, c, d] := by
  refine ⟨rfl, .inr ⟨g, 0, rfl, blk_lt h, fun i hi => ?_⟩⟩
  rw [Nat.zero_add, blk_cell h]
  simp
theorem sl_app {X : World} {Bb : Nat → Prop} {sl : List Ent} {rs : List (List Value)} {pg b : List Int} {u : Value} (h : Sl X Bb sl rs) (hl : rs.length = sl.length) (hu : X.ownsRow 0 5 1 u 144 (us b)) (hB : ∀ k, u.ownBlock = some k → Bb k) : Sl X Bb (sl ++ [(pg, b)]) (rs ++ [slotV pg u]) := by
  intro j hj
  rw [List.length_append, List.length_singleton] at hj
  rw [ent_more]
  by_cases e : j = sl.length
  · rw [if_pos e]
    refine ⟨u, ?_, hu, hB⟩
    rw [List.getD_eq_getElem?_getD, e, ← hl]
    simp
  · rw [if_neg e]
    obtain ⟨u', h1, h2⟩ := h j (by omega)
    refine ⟨u', ?_, h2⟩
    rw [List.getD_eq_getElem?_getD, List.getElem?_append_left (by omega), ← List.getD_eq_getElem?_getD]
    exact h1
theorem p3_app {R : List Ent} {pg b : List Int} (h : ∀ i, i < R.length → (ent R i).1.length = 3) (hp : pg.length = 3) : ∀ i, i < (R ++ [(pg, b)]).length → (ent (R ++ [(pg, b)]) i).1.length = 3 := by
  intro i hi
  rw [List.length_append, List.length_singleton] at hi
  rw [ent_more]
  split
  · exact hp
  · exact h i (by omega)
theorem ent_erase {R : List Ent} {k i : Nat} : ent (R.eraseIdx k) i = if i < k then ent R i else ent R (i + 1) := by
  unfold ent
  rw [List.getD_eq_getElem?_getD, List.getD_eq_getElem?_getD, List.getD_eq_getElem?_getD, List.getElem?_eraseIdx]
  split <;> rfl
theorem getD_erase {α : Type} {l : List α} {z : α} {k i : Nat} : (l.eraseIdx k).getD i z = if i < k then l.getD i z else l.getD (i + 1) z := by
  rw [List.getD_eq_getElem?_getD, List.getD_eq_getElem?_getD, List.getD_eq_getElem?_getD, List.getElem?_eraseIdx]
  split <;> rfl
theorem sl_erase {X : World} {Bb : Nat → Prop} {sl : List Ent} {rs : List (List Value)} {k : Nat} (h : Sl X Bb sl rs) (hk : k < sl.length) : Sl X Bb (sl.eraseIdx k) (rs.eraseIdx k) := by
  intro j hj
  rw [List.length_eraseIdx, if_pos hk] at hj
  rw [ent_erase, getD_erase]
  by_cases e : j < k
  · rw [if_pos e, if_pos e]
    exact h j (by omega)
  · rw [if_neg e, if_neg e]
    exact h (j + 1) (by omega)
theorem p3_erase {R : List Ent} {k : Nat} (h : ∀ i, i < R.length → (ent R i).1.length = 3) (hk : k < R.length) : ∀ i, i < (R.eraseIdx k).length → (ent (R.eraseIdx k) i).1.length = 3 := by
  intro i hi
  rw [List.length_eraseIdx, if_pos hk] at hi
  rw [ent_erase]
  split
  · exact h i (by omega)
  · exact h (i + 1) (by omega)
theorem gq_below2 {w X Y : World} (h : Below w.heap.size w X) (hg : X.grownBy Y (some qb)) : w.grownBy Y (some qb) := gq_set (gq_of h) hg
set_option maxHeartbeats 2000000 in
theorem without_any (i g cv : Nat) (w : World) (h : Rp w base qb n d (.slice (some ⟨g, 0, none⟩) rs.length cv) rs R) (hi : i < rs.length) (hl : rs.length ≤ 1000) :
    Calls Try.prog 42 #[.slice (some ⟨g, 0, none⟩) rs.length cv, .int .i64 i] w fun e w' => (∃ v', e = .returned v' ∧ w'.ownsRow w.heap.size 77 4 v' (rs.eraseIdx i).length (DkM.fl (rs.eraseIdx i))) ∧ Below w.heap.size w w' := by
  obtain ⟨a9, c9, ev, hcv, hcm⟩ := Rd.owns_val h.r
  injection ev with ev1 ev2 ev3
  subst ev1
  subst ev3
  have HON := Lib.hid (ones_rs h)
  have hd1 := reads_take4 h.r h.r4 rfl i (by omega)
  have hd2 := fun ad hd => reads_drop4 h.r h.r4 rfl (i + 1) (by omega) ad hd
  unfold maxLen at hcm
  clear h ev2
  go_enter Try.func42, Try.ntmps42
  go_upto_region 1 with (fail)
  refine Rd.name_world ?_
  intro W1 hW
  have L1 : Below w.heap.size w W1 := by rw [hW]; repeat' (first | (with_reducible exact Below.refl _ _) | (with_reducible refine Rd.below_step ?_ (by assumption)) | (with_reducible refine Rd.below_alloc ?_ _) | (with_reducible refine Rd.below_drewN ?_ _) | (with_reducible refine Below.drew ?_) | (with_reducible refine Below.setCell ?_ ?_ _) | (with_reducible refine Rd.below_setRow ?_ ?_ _) | go_size | (simp only [World.size_alloc]; omega) | omega)
  clear hW
  have HD1 := Lib.hid (hd1.below L1 (Nat.le_refl _))
  have HD2 := Lib.hid (fun ad hd => (hd2 ad hd).below L1 (Nat.le_refl _))
  clear hd1 hd2
  have hi1 : (i : Int) ≤ (cv : Int) := by omega
  have hi2 : (i : Int) + 1 ≤ (cv : Int) := by omega
  have hi3 : (i : Int) + 1 ≤ (rs.length : Int) := by omega
  have hi4 : (rs.length : Int) ≤ (cv : Int) := by omega
  have hi0 : (0 : Int) ≤ (i : Int) := by omega
  have hi5 : ¬ ((i : Int) + 1 < 0) := by omega
  refine PredV.region_of (W := W1) (fun _ _ _ => True) 9999 9999 (W1.heap.size) (Nat.le_refl _) [4, 9] [
      fun y9 => Below W1.heap.size W1 y9,
      fun y9 => Below W1.heap.size W1 y9,
      fun y9 => Below W1.heap.size W1 y9] [
      PredV.When 0 (NoneB 77 W1.heap.size),
      PredV.At 0 (.slice (some ⟨g, 0, none⟩) rs.length cv),
      PredV.At 0 (.int .i64 (i : Int)),
      PredV.At 0 (.slice (some ⟨g, 0, none⟩) i cv),
      PredV.When 1 (fun u y9 => y9.ownsRow W1.heap.size 77 4 u i (DkM.fl (rs.take i))),
      PredV.At 0 (.slice (some ⟨g, 0, none⟩) rs.length cv),
      PredV.At 0 (.int .i64 (i : Int)),
      PredV.At 0 (.int .i64 ((i : Int) + 1)),
      Ever (fun u => ∃ (ad9 : Option Addr) (cd9 : Nat), u = .slice ad9 (rs.length - (i + 1)) cd9 ∧ Reads W1 4 ad9 (rs.length - (i + 1)) (DkM.fl (rs.drop (i + 1)))),
      PredV.When 2 (fun u y9 => y9.ownsRow W1.heap.size 77 4 u (i + (rs.length - (i + 1))) (DkM.fl (rs.take i) ++ DkM.fl (rs.drop (i + 1)))),
      PredV.When 2 (fun u y9 => y9.ownsRow W1.heap.size 77 4 u (i + (rs.length - (i + 1))) (DkM.fl (rs.take i) ++ DkM.fl (rs.drop (i + 1))))] (by kernel_rfl) (by kernel_rfl) (by kernel_rfl) (by decide) (by decide) ?_ ?_ ?_ ?_ ?_ ?_
  · exact ⟨PredV.when_stab _ _ _ _ _ (fun u y y' h hb => none_below h hb), PredV.at_stab _ _ _ _ _ _, PredV.at_stab _ _ _ _ _ _, PredV.at_stab _ _ _ _ _ _, PredV.when_stab _ _ _ _ _ (fun u y y' h hb => PoE.owns_below h hb), PredV.at_stab _ _ _ _ _ _, PredV.at_stab _ _ _ _ _ _, PredV.at_stab _ _ _ _ _ _, ever_stab _ _ _, PredV.when_stab _ _ _ _ _ (fun u y y' h hb => PoE.owns_below h hb), PredV.when_stab _ _ _ _ _ (fun u y y' h hb => PoE.owns_below h hb), trivial⟩
  · intro q hq
    rcases List.mem_cons.1 hq with rfl | hq
    · exact fun y y' h hb => h.trans (hb.mono h.size)
    rcases List.mem_cons.1 hq with rfl | hq
    · exact fun y y' h hb => h.trans (hb.mono h.size)
    rcases List.mem_cons.1 hq with rfl | hq
    · exact fun y y' h hb => h.trans (hb.mono h.size)
    cases hq
  · exact Below.refl _ _
  · refine ⟨.inr ?_, .inr ?_, .inr ?_, .inr ?_, .inl rfl, .inr ?_, .inr ?_, .inr ?_, .inr ?_, .inl rfl, .inr ?_, trivial⟩
    · intro b9 X ph hE hd hn hS hV hI hF
      have hp0 : ph = 0 := Nat.le_zero.1 (hF 0 4 rfl (Pred.waits_more 5 _ _ (Nat.le_of_ble_eq_true (by kernel_rfl)) (by kernel_rfl)))
      subst hp0
      have hXs : W1.heap.size ≤ X.heap.size := hE.size
      exact Pred.yields_run (v := .slice (some ⟨X.heap.size, 0, none⟩) 0 0) (w' := X.alloc (.cells #[] 77)) (Pred.wanted_none rfl) (by go_simp) ⟨(Below.refl _ _).alloc (Nat.le_refl _) _, Nat.zero_le _, fun _ => ⟨X.heap.size, rfl, hXs, blk_alloc_at _ _ _ rfl⟩⟩
    · intro b9 X ph hE hd hn hS hV hI hF
      have r0 : b9.tmps[0]?.getD undef = .slice (some ⟨g, 0, none⟩) rs.length cv := (hn 0 (by kernel_rfl)).trans rfl
      exact Pred.yields_run (v := .slice (some ⟨g, 0, none⟩) rs.length cv) (Pred.wanted_none rfl) (by go_simp) ⟨Below.refl _ _, rfl, Nat.zero_le _⟩
    · intro b9 X ph hE hd hn hS hV hI hF
      have r1 : b9.tmps[1]?.getD undef = .int .i64 (i : Int) := (hn 1 (by kernel_rfl)).trans rfl
      exact Pred.yields_run (v := .int .i64 (i : Int)) (Pred.wanted_none rfl) (by go_simp) ⟨Below.refl _ _, rfl, Nat.zero_le _⟩
    · intro b9 X ph hE hd hn hS hV hI hF
      obtain ⟨r6, j6⟩ : PredV.At 0 (.slice (some ⟨g, 0, none⟩) rs.length cv) (b9.tmps[6]?.getD undef) X ph := hV 1 _ 6 rfl rfl (Pred.waits_near (by kernel_rfl) (by kernel_rfl))
      obtain ⟨r7, j7⟩ : PredV.At 0 (.int .i64 (i : Int)) (b9.tmps[7]?.getD undef) X ph := hV 2 _ 7 rfl rfl (Pred.waits_near (by kernel_rfl) (by kernel_rfl))
      exact Pred.yields_run (v := .slice (some ⟨g, 0, none⟩) i cv) (Pred.wanted_none rfl) (by go_simp) ⟨Below.refl _ _, rfl, Nat.zero_le _⟩
    · intro b9 X ph hE hd hn hS hV hI hF
      have r0 : b9.tmps[0]?.getD undef = .slice (some ⟨g, 0, none⟩) rs.length cv := (hn 0 (by kernel_rfl)).trans rfl
      exact Pred.yields_run (v := .slice (some ⟨g, 0, none⟩) rs.length cv) (Pred.wanted_none rfl) (by go_simp) ⟨Below.refl _ _, rfl, Nat.zero_le _⟩
    · intro b9 X ph hE hd hn hS hV hI hF
      have r1 : b9.tmps[1]?.getD undef = .int .i64 (i : Int) := (hn 1 (by kernel_rfl)).trans rfl
      exact Pred.yields_run (v := .int .i64 (i : Int)) (Pred.wanted_none rfl) (by go_simp) ⟨Below.refl _ _, rfl, Nat.zero_le _⟩
    · intro b9 X ph hE hd hn hS hV hI hF
      obtain ⟨r11, j11⟩ : PredV.At 0 (.int .i64 (i : Int)) (b9.tmps[11]?.getD undef) X ph := hV 6 _ 11 rfl rfl (Pred.waits_near (by kernel_rfl) (by kernel_rfl))
      have h9 := IntWalk.i64_in ((i : Int) + 1) (by omega)
      exact Pred.yields_run (v := .int .i64 ((i : Int) + 1)) (Pred.wanted_none rfl) (by go_simp) ⟨Below.refl _ _, rfl, Nat.zero_le _⟩
    · intro b9 X ph hE hd hn hS hV hI hF
      obtain ⟨r10, j10⟩ : PredV.At 0 (.slice (some ⟨g, 0, none⟩) rs.length cv) (b9.tmps[10]?.getD undef) X ph := hV 5 _ 10 rfl rfl (Pred.waits_near (by kernel_rfl) (by kernel_rfl))
      obtain ⟨r12, j12⟩ : PredV.At 0 (.int .i64 ((i : Int) + 1)) (b9.tmps[12]?.getD undef) X ph := hV 7 _ 12 rfl rfl (Pred.waits_near (by kernel_rfl) (by kernel_rfl))
      by_cases h5 : cv = i + 1
      · have h6 : rs.length - (i + 1) = 0 := by omega
        have h7 := HD2.out (some ⟨g, 0, none⟩) (.inl h6)
        have h8 : rs.length = i + 1 := by omega
        subst h5
        exact Pred.yields_run (v := .slice (some ⟨g, 0, none⟩) (rs.length - (i + 1)) 0) (Pred.wanted_none rfl) (by go_simp) ⟨Below.refl _ _, _, _, rfl, h7⟩
      · have h7 := HD2.out _ (.inr rfl)
        have h8 : ¬ (cv - (i + 1) = 0) := by omega
        exact Pred.yields_run (v := .slice (some ⟨g, (i + 1) * 4, none⟩) (rs.length - (i + 1)) (cv - (i + 1))) (Pred.wanted_none rfl) (by go_simp) ⟨Below.refl _ _, _, _, rfl, h7⟩
    · intro b9 X ph hE hd hn hS hV hI hF
      obtain ⟨j14, r14⟩ : PredV.When 2 (fun u y9 => y9.ownsRow W1.heap.size 77 4 u (i + (rs.length - (i + 1))) (DkM.fl (rs.take i) ++ DkM.fl (rs.drop (i + 1)))) (b9.tmps[14]?.getD undef) X ph := hV 9 _ 14 rfl rfl (Pred.waits_near (by kernel_rfl) (by kernel_rfl))
      exact Pred.yields_run (v := b9.tmps[14]?.getD undef) (Pred.wanted_none rfl) (by go_simp) ⟨Below.refl _ _, j14, r14⟩
  · refine ⟨?_, ?_, trivial⟩
    · refine ⟨_, rfl, fun k hk => (by cases hk), fun b9 X hE hd hn hS hV hI => ?_⟩
      obtain ⟨j5, r5⟩ : PredV.When 0 (NoneB 77 W1.heap.size) (b9.tmps[5]?.getD undef) X 0 := hV 0 _ 5 rfl rfl (Pred.waits_near (by kernel_rfl) (by kernel_rfl))
      obtain ⟨r8, j8⟩ : PredV.At 0 (.slice (some ⟨g, 0, none⟩) i cv) (b9.tmps[8]?.getD undef) X 0 := hV 3 _ 8 rfl rfl (Pred.waits_near (by kernel_rfl) (by kernel_rfl))
      replace hS : (fun y9 => Below W1.heap.size W1 y9) X := hS
      replace hS : Below W1.heap.size W1 X := hS
      obtain ⟨g9, hg9, hlo9, hb9⟩ := r5 rfl
      have hXs := hS.size
      refine yields_app_v rfl (.tmp 5) (.tmp 8) 78 77 (.agg #[.int .i64 0, .int .i64 0, .int .i64 0, .slice none 0 0]) 4 48 rfl Try.underlying78 info_rs rfl (by decide) (by decide) W1.heap.size (.slice (some ⟨g9, 0, none⟩) 0 0) 0 [] (by simpa [Act.eval] using hg9) (none_own hlo9 hb9) (some ⟨g, 0, none⟩) i cv (DkM.fl (rs.take i)) (by simpa [Act.eval] using r8) (HD1.out.below hS (Nat.le_refl _)) (ones_sub HON.out fun x hx => List.mem_of_mem_take hx) (by omega) (by omega) ?_
      intro u y hown hgr
      rw [Nat.zero_add, List.nil_append] at hown
      have hbw := OctA.below_grownBy (B := W1.heap.size) hgr (by omega) (fun k hk => by cases hk; exact hlo9)
      exact ⟨⟨hbw, trivial⟩, hS.trans hbw, ⟨Nat.le_refl _, fun _ => hown⟩, fun e => absurd e (by decide)⟩
    · refine ⟨_, rfl, fun k hk => (by cases hk; exact Pred.waits_near (by kernel_rfl) (by kernel_rfl)), fun b9 X hE hd hn hS hV hI => ?_⟩
      obtain ⟨j9, r9⟩ : PredV.When 1 (fun u y9 => y9.ownsRow W1.heap.size 77 4 u i (DkM.fl (rs.take i))) (b9.tmps[9]?.getD undef) X 1 := hV 4 _ 9 rfl rfl (Pred.waits_near (by kernel_rfl) (by kernel_rfl))
      have r13 : (fun u => ∃ (ad9 : Option Addr) (cd9 : Nat), u = .slice ad9 (rs.length - (i + 1)) cd9 ∧ Reads W1 4 ad9 (rs.length - (i + 1)) (DkM.fl (rs.drop (i + 1)))) (b9.tmps[13]?.getD undef) := hV 8 _ 13 rfl rfl (Pred.waits_near (by kernel_rfl) (by kernel_rfl))
      replace hS : (fun y9 => Below W1.heap.size W1 y9) X := hS
      replace hS : Below W1.heap.size W1 X := hS
      have ho9 := r9 rfl
      obtain ⟨ad9, cd9, hg9, hr9⟩ := r13
      have hXs := hS.size
      refine yields_app_v rfl (.tmp 9) (.tmp 13) 78 77 (.agg #[.int .i64 0, .int .i64 0, .int .i64 0, .slice none 0 0]) 4 48 rfl Try.underlying78 info_rs rfl (by decide) (by decide) W1.heap.size _ i _ rfl (by simpa [Act.eval] using ho9) ad9 (rs.length - (i + 1)) cd9 (DkM.fl (rs.drop (i + 1))) (by simpa [Act.eval] using hg9) (hr9.below hS (Nat.le_refl _)) (ones_sub HON.out fun x hx => List.mem_of_mem_drop hx) (by omega) (by omega) ?_
      intro u y hown hgr
      have hbw := OctA.below_grownBy (B := W1.heap.size) hgr (by omega) (fun k hk => (ho9.lt k (by simpa [Act.eval] using hk)).1)
      exact ⟨⟨hbw, trivial⟩, hS.trans hbw, ⟨Nat.le_refl _, fun _ => hown⟩, fun e => absurd e (by decide)⟩
  intro v X hE hS hv
  replace hS : (fun y9 => Below W1.heap.size W1 y9) X := hS
  generalize hg0 : v 0 = vv0
  have e1 : v 1 = .slice (some ⟨g, 0, none⟩) rs.length cv := (hv 1 _ 6 rfl rfl).1
  have e2 : v 2 = .int .i64 (i : Int) := (hv 2 _ 7 rfl rfl).1
  have e3 : v 3 = .slice (some ⟨g, 0, none⟩) i cv := (hv 3 _ 8 rfl rfl).1
  generalize hg4 : v 4 = vv4
  have e5 : v 5 = .slice (some ⟨g, 0, none⟩) rs.length cv := (hv 5 _ 10 rfl rfl).1
  have e6 : v 6 = .int .i64 (i : Int) := (hv 6 _ 11 rfl rfl).1
  have e7 : v 7 = .int .i64 ((i : Int) + 1) := (hv 7 _ 12 rfl rfl).1
  generalize hg8 : v 8 = vv8
  generalize hg9 : v 9 = vv9
  have HOW : X.ownsRow W1.heap.size 77 4 (v 10) (i + (rs.length - (i + 1))) (DkM.fl (rs.take i) ++ DkM.fl (rs.drop (i + 1))) := (hv 10 _ 4 rfl rfl).2 rfl
  generalize hg10 : v 10 = vv10 at HOW
  simp only [Pred.putsF_cons, Pred.putsF_nil, Nat.zero_add, Nat.reduceAdd, hg0, e1, e2, e3, hg4, e5, e6, e7, hg8, hg9, hg10, Act.put, List.setIfInBounds_toArray, List.set_cons_zero, List.set_cons_succ]
  clear hg0 e1 e2 e3 hg4 e5 e6 e7 hg8 hg9 hg10 hv
  rename World => W2
  have L2 := Rd.below_step L1 hS
  go_wp2
  go_ret
  have el : i + (rs.length - (i + 1)) = (rs.eraseIdx i).length := by rw [List.length_eraseIdx, if_pos hi]; omega
  rw [el, ← DkM.fl_app, ← List.eraseIdx_eq_take_drop_succ] at HOW
  exact ⟨⟨_, rfl, owns_mono HOW L1.size⟩, L2⟩
set_option maxHeartbeats 4000000 in
theorem rput_any (L X0 Y0 : Int) (ad : Addr) (c : Nat) (b : List Int) (w : World) (h : Rp w base qb n d v rs R) (hn : R.length ≤ 1000) (hn1 : n ≤ 128) (hv : validB d L X0 Y0 = true) (hb : BIn w ad b) :
    Calls Try.prog 13 #[.pointer (some ⟨qb, 0, none⟩), pg L X0 Y0, .slice (some ad) 144 c] w fun e w' => ∃ gv v' rs', e = .returned (.tuple #[gv, .int .i64 (codeR n R [L, X0, Y0])]) ∧ GoneAt w' gv (goneR n R [L, X0, Y0]) ∧ Rp w' base qb n d v' rs' (putR n R [L, X0, Y0] b) ∧ w.grownBy w' (some qb) := by
  have H := Lib.hid h
  have HB0 := Lib.hid hb
  have CV : Hid (∀ X, Calls Try.prog 40 #[.int .i64 d, pg L X0 Y0] X fun e w' => e = .returned (.bool true) ∧ Below X.heap.size X w') := Lib.hid fun X => by
    have := rvalid_any d L X0 Y0 X
    rwa [hv] at this
  have c1 := h.c1
  have hql := h.lt
  clear h hb
  go_enter Try.func13, Try.ntmps13
  go_upto_region 1 with (fail)
  refine Rd.name_world ?_
  intro W hW
  have L0 : Below w.heap.size w W := by rw [hW]; repeat' (first | (with_reducible exact Below.refl _ _) | (with_reducible refine Rd.below_step ?_ (by assumption)) | (with_reducible refine Rd.below_alloc ?_ _) | (with_reducible refine Rd.below_drewN ?_ _) | (with_reducible refine Below.drew ?_) | (with_reducible refine Below.setCell ?_ ?_ _) | (with_reducible refine Rd.below_setRow ?_ ?_ _) | go_size | (simp only [World.size_alloc]; omega) | omega)
  have bP0 : blk W w.heap.size = some (.cells #[.int .i64 L, .int .i64 X0, .int .i64 Y0] 35 (0, 0)) := by rw [hW]; exact blk_alloc_at _ _ _ rfl
  clear hW
  have g1 := Go.cell_regrown (w := W) (a := ⟨qb, 1, none⟩) (by rw [L0.cell (by exact hql)]; exact c1)
  have gP := blk_regrown bP0
  (refine wp_region_quiet_below (by kernel_rfl) (by kernel_rfl) ?_; (repeat (go_big_quiet_step (((with_reducible exact Calls.regrown_of (CV.out _)))))); refine wpQuiet_nil ?_)
  intro W1 hU
  have KU := Rd.below_of_regrown hU
  have L1 : Below w.heap.size w W1 := by repeat' (first | (with_reducible exact Below.refl _ _) | (with_reducible refine Rd.below_step ?_ (by assumption)) | (with_reducible refine Rd.below_alloc ?_ _) | (with_reducible refine Rd.below_drewN ?_ _) | (with_reducible refine Below.drew ?_) | (with_reducible refine Below.setCell ?_ ?_ _) | (with_reducible refine Rd.below_setRow ?_ ?_ _) | go_size | (simp only [World.size_alloc]; omega) | omega)
  have bP := (blk_below KU _ (blk_lt bP0)).trans bP0
  have HB := Lib.hid (HB0.out.bel L1)
  clear hU KU g1 gP bP0 L0 c1 CV HB0
  go_upto_region 3 with (fail)
  refine PredV.region_of (W := W1) (fun p9 y9 z9 => p9 = 0 → ∀ g9, blk y9 g9 = some (.cells #[.int .i64 0, .int .i64 0, .int .i64 0, .slice none 0 0] 77 (0, 0)) → blk z9 g9 = some (.cells #[.int .i64 0, .int .i64 0, .int .i64 0, .slice none 0 0] 77 (0, 0))) 1 5 (W1.heap.size) (Nat.le_refl _) [3, 6] [
      fun y9 => Below W1.heap.size W1 y9,
      fun y9 => Below W1.heap.size W1 y9,
      fun y9 => Below W1.heap.size W1 y9] [
      PredV.At 0 (.agg #[.int .i64 L, .int .i64 X0, .int .i64 Y0]),
      PredV.When 0 (NoneB 5 W1.heap.size),
      PredV.At 0 (.slice (some ad) 144 c),
      PredV.When 1 (fun u y9 => y9.ownsRow W1.heap.size 5 1 u 144 (us b)),
      PredV.When 1 (fun x y9 => ∃ u : Value, x = .agg #[.int .i64 L, .int .i64 X0, .int .i64 Y0, u] ∧ y9.ownsRow W1.heap.size 5 1 u 144 (us b)),
      PredV.Two 1 (Zero W1.heap.size) (Good W1.heap.size [L, X0, Y0] b),
      PredV.At 0 undef] (by kernel_rfl) (by kernel_rfl) (by kernel_rfl) (by decide) (by decide) ?_ ?_ ?_ ?_ ?_ ?_
  · exact ⟨PredV.at_stab _ _ _ _ _ _, PredV.when_stab _ _ _ _ _ (fun u y y' h hb => none_below h hb), PredV.at_stab _ _ _ _ _ _, PredV.when_stab _ _ _ _ _ (fun u y y' h hb => PoE.owns_below h hb), PredV.when_stab _ _ _ _ _ (fun x y y' ⟨u, h0, h1⟩ hb => ⟨u, h0, PoE.owns_below h1 hb⟩), PredV.two_stab rfl (fun u y y' h hb => zero_below h hb) (fun u y y' h hb => good_below h hb) (fun p u y y' hp ⟨g, h1, h2, h3⟩ hk => ⟨g, h1, h2, hk.2 (by omega) g h3⟩), PredV.at_stab _ _ _ _ _ _, trivial⟩
  · intro q hq
    rcases List.mem_cons.1 hq with rfl | hq
    · exact fun y y' h hb => h.trans (hb.mono h.size)
    rcases List.mem_cons.1 hq with rfl | hq
    · exact fun y y' h hb => h.trans (hb.mono h.size)
    rcases List.mem_cons.1 hq with rfl | hq
    · exact fun y y' h hb => h.trans (hb.mono h.size)
    cases hq
  · exact Below.refl _ _
  · refine ⟨.inr ?_, .inr ?_, .inr ?_, .inl rfl, .inr ?_, .inr ?_, .inl rfl, trivial⟩
    · intro b9 X ph hE hd hn hS hV hI hF
      have r4 : b9.tmps[4]?.getD undef = .pointer (some ⟨w.heap.size, 0, none⟩) := (hn 4 (by kernel_rfl)).trans rfl
      have hb0 : Below W1.heap.size W1 X := hE
      have z := (blk_below hb0 _ (blk_lt bP)).trans bP
      exact Pred.yields_run (v := .agg #[.int .i64 L, .int .i64 X0, .int .i64 Y0]) (Pred.wanted_none rfl) (by go_simp) ⟨Below.refl _ _, rfl, Nat.zero_le _⟩
    · intro b9 X ph hE hd hn hS hV hI hF
      have hp0 : ph = 0 := Nat.le_zero.1 (hF 0 3 rfl (Pred.waits_more 5 _ _ (Nat.le_of_ble_eq_true (by kernel_rfl)) (by kernel_rfl)))
      subst hp0
      have hXs : W1.heap.size ≤ X.heap.size := hE.size
      exact Pred.yields_run (v := .slice (some ⟨X.heap.size, 0, none⟩) 0 0) (w' := X.alloc (.cells #[] 5)) (Pred.wanted_none rfl) (by go_simp) ⟨(Below.refl _ _).alloc (Nat.le_refl _) _, Nat.zero_le _, fun _ => ⟨X.heap.size, rfl, hXs, blk_alloc_at _ _ _ rfl⟩⟩
    · intro b9 X ph hE hd hn hS hV hI hF
      have r2 : b9.tmps[2]?.getD undef = .slice (some ad) 144 c := (hn 2 (by kernel_rfl)).trans rfl
      exact Pred.yields_run (v := .slice (some ad) 144 c) (Pred.wanted_none rfl) (by go_simp) ⟨Below.refl _ _, rfl, Nat.zero_le _⟩
    · intro b9 X ph hE hd hn hS hV hI hF
      obtain ⟨r23, j23⟩ : PredV.At 0 (.agg #[.int .i64 L, .int .i64 X0, .int .i64 Y0]) (b9.tmps[23]?.getD undef) X ph := hV 0 _ 23 rfl rfl (Pred.waits_near (by kernel_rfl) (by kernel_rfl))
      obtain ⟨j26, r26⟩ : PredV.When 1 (fun u y9 => y9.ownsRow W1.heap.size 5 1 u 144 (us b)) (b9.tmps[26]?.getD undef) X ph := hV 3 _ 26 rfl rfl (Pred.waits_near (by kernel_rfl) (by kernel_rfl))
      have hp1 : ph = 1 := by
        have h1 : ph ≤ 1 := hF 1 6 rfl (Pred.waits_more 5 _ _ (Nat.le_of_ble_eq_true (by kernel_rfl)) (by kernel_rfl))
        omega
      subst hp1
      have hr1 := r26 rfl
      clear r26
      obtain ⟨u, hu⟩ : ∃ u, b9.tmps[26]?.getD undef = u := ⟨_, rfl⟩
      rw [hu] at hr1
      obtain ⟨au, cu, rfl, -⟩ := Rd.owns_val hr1
      exact Pred.yields_run (v := .agg #[.int .i64 L, .int .i64 X0, .int .i64 Y0, .slice au 144 cu]) (Pred.wanted_none rfl) (by clear hS hI hV hn hr1; go_simp) ⟨Below.refl _ _, Nat.le_refl _, fun _ => ⟨_, rfl, hr1⟩⟩
    · intro b9 X ph hE hd hn hS hV hI hF
      have hp1 : ph ≤ 1 := hF 1 6 rfl (Pred.waits_more 5 _ _ (Nat.le_of_ble_eq_true (by kernel_rfl)) (by kernel_rfl))
      have hXs : W1.heap.size ≤ X.heap.size := hE.size
      exact Pred.yields_run (v := .pointer (some ⟨X.heap.size, 0, none⟩)) (w' := X.alloc (.cells #[.int .i64 0, .int .i64 0, .int .i64 0, .slice none 0 0] 77)) (Pred.wanted_none rfl) (by go_simp) ⟨(Below.refl _ _).alloc (Nat.le_refl _) _, fun _ => ⟨X.heap.size, rfl, hXs, blk_alloc_at _ _ _ rfl⟩, fun e => absurd e (by omega)⟩
  · refine ⟨?_, ?_, trivial⟩
    · refine ⟨_, rfl, fun k hk => (by cases hk), fun b9 X hE hd hn hS hV hI => ?_⟩
      obtain ⟨j24, r24⟩ : PredV.When 0 (NoneB 5 W1.heap.size) (b9.tmps[24]?.getD undef) X 0 := hV 1 _ 24 rfl rfl (Pred.waits_near (by kernel_rfl) (by kernel_rfl))
      obtain ⟨r25, j25⟩ : PredV.At 0 (.slice (some ad) 144 c) (b9.tmps[25]?.getD undef) X 0 := hV 2 _ 25 rfl rfl (Pred.waits_near (by kernel_rfl) (by kernel_rfl))
      replace hS : (fun y9 => Below W1.heap.size W1 y9) X := hS
      replace hS : Below W1.heap.size W1 X := hS
      obtain ⟨g9, hg9, hlo9, hb9⟩ := r24 rfl
      have hXs := hS.size
      refine yields_app_v rfl (.tmp 24) (.tmp 25) 22 5 (.int .u8 0) 1 1 rfl Try.underlying22 PoA.info_u8 rfl (by decide) (by decide) W1.heap.size (.slice (some ⟨g9, 0, none⟩) 0 0) 0 [] (by simpa [Act.eval] using hg9) (none_own hlo9 hb9) (some ad) 144 c (us b) (by simpa [Act.eval] using r25) (HB.out.bel hS).reads (one_us b) (by omega) (by omega) ?_
      intro u y hown hgr
      rw [Nat.zero_add, List.nil_append] at hown
      have hbw := OctA.below_grownBy (B := W1.heap.size) hgr (by omega) (fun k hk => by cases hk; exact hlo9)
      refine ⟨⟨hbw, fun _ g hg => (hgr.block g (blk_lt hg) (fun e => ?_)).trans hg⟩, hS.trans hbw, ⟨Nat.le_refl _, fun _ => hown⟩, fun e => absurd e (by decide)⟩
      have e8 : some g = some g9 := e
      cases e8
      have e7 := hb9.symm.trans hg
      simp at e7
    · refine ⟨_, rfl, fun k hk => (by cases hk; exact Pred.waits_near (by kernel_rfl) (by kernel_rfl)), fun b9 X hE hd hn hS hV hI => ?_⟩
      have r8 : (Zero W1.heap.size) (b9.tmps[8]?.getD undef) X := (show PredV.Two 1 (Zero W1.heap.size) (Good W1.heap.size [L, X0, Y0] b) (b9.tmps[8]?.getD undef) X 1 from hV 5 _ 8 rfl rfl (Pred.waits_near (by kernel_rfl) (by kernel_rfl))).1 (by omega)
      obtain ⟨j27, r27⟩ : PredV.When 1 (fun x y9 => ∃ u : Value, x = .agg #[.int .i64 L, .int .i64 X0, .int .i64 Y0, u] ∧ y9.ownsRow W1.heap.size 5 1 u 144 (us b)) (b9.tmps[27]?.getD undef) X 1 := hV 4 _ 27 rfl rfl (Pred.waits_near (by kernel_rfl) (by kernel_rfl))
      replace hS : (fun y9 => Below W1.heap.size W1 y9) X := hS
      replace hS : Below W1.heap.size W1 X := hS
      obtain ⟨g9, hg9, hlo9, hb9⟩ := r8
      obtain ⟨u, hu0, hr1⟩ := r27 rfl
      clear r27
      obtain ⟨au, cu, rfl, -⟩ := Rd.owns_val hr1
      refine yields_skip (w' := X.setRow g9 #[.int .i64 L, .int .i64 X0, .int .i64 Y0, .slice au 144 cu]) (Pred.wanted_none rfl) (by clear hS hI hV hn hr1; go_simp; try rfl) ?_
      have hgr := setRow_grown X g9 #[.int .i64 L, .int .i64 X0, .int .i64 Y0, .slice au 144 cu]
      have hbw : Below W1.heap.size X (X.setRow g9 #[.int .i64 L, .int .i64 X0, .int .i64 Y0, .slice au 144 cu]) := OctA.below_grownBy hgr hS.size (fun k hk => by cases hk; exact hlo9)
      refine ⟨⟨hbw, fun e => absurd e (by decide)⟩, hS.trans hbw, ⟨rfl, Nat.zero_le _⟩, fun _ o2 d2 ho2 hd2 => ?_⟩
      cases ho2
      cases hd2
      refine ⟨fun e => absurd e (by decide), fun _ => ⟨g9, .slice au 144 cu, hg9, hlo9, blk_setRow_of hb9 _, own_same hr1 fun k hk => ?_⟩⟩
      obtain ⟨c8, hc8, _⟩ := own_pos' hr1 hk
      exact Rd.heap_setRow_other _ _ _ _ (fun e => by subst e; have e7 := (show X.heap[k]? = _ from hb9).symm.trans hc8; simp at e7)
  intro v X hE hS hv
  replace hS : (fun y9 => Below W1.heap.size W1 y9) X := hS
  have e0 : v 0 = .agg #[.int .i64 L, .int .i64 X0, .int .i64 Y0] := (hv 0 _ 23 rfl rfl).1
  generalize hg1 : v 1 = vv1
  have e2 : v 2 = .slice (some ad) 144 c := (hv 2 _ 25 rfl rfl).1
  generalize hg3 : v 3 = vv3
  generalize hg4 : v 4 = vv4
  have HGD : Good W1.heap.size [L, X0, Y0] b (v 5) X := (hv 5 _ 8 rfl rfl).2 (by decide)
  generalize hg5 : v 5 = vv5 at HGD
  simp only [Pred.putsF_cons, Pred.putsF_nil, Nat.zero_add, Nat.reduceAdd, e0, hg1, e2, hg3, hg4, hg5, Act.put, List.setIfInBounds_toArray, List.set_cons_zero, List.set_cons_succ]
  clear e0 hg1 e2 hg3 hg4 hg5 hv
  rename World => W2
  have L2 : Below w.heap.size w W2 := Rd.below_step L1 hS
  have HR2 := Lib.hid (H.out.bel L2)
  have bP2 := (blk_below hS _ (blk_lt bP)).trans bP
  obtain ⟨tb, u, hv5, htb, hbt, hu⟩ := HGD
  subst hv5
  obtain ⟨au, cu, rfl, -⟩ := Rd.owns_val hu
  have hub : ∀ k, (Value.slice au 144 cu).ownBlock = some k → w.heap.size ≤ k := fun k hk => Nat.le_trans L1.size (hu.lt k hk).1
  have HU2 := Lib.hid (owns_mono hu (Nat.zero_le _))
  have HBT := Lib.hid hbt
  have CF := Lib.hid (find_any L X0 Y0 W2 HR2.out hn)
  clear hS hE L1 bP HB hu hbt
  go_wp2_with fail
  refine CF.out.mono ?_
  rintro e W3 ⟨rfl, hb3⟩
  have L3 := Rd.below_step L2 hb3
  have HR3 := Lib.hid (HR2.out.bel hb3)
  have HU3 := Lib.hid (PoE.owns_below HU2.out hb3)
  have bT3 : blk W3 tb = some (.cells #[.int .i64 L, .int .i64 X0, .int .i64 Y0, .slice au 144 cu] 77 (0, 0)) := (blk_below hb3 _ (blk_lt HBT.out)).trans HBT.out
  clear hb3 L2 HR2 HU2 HBT CF bP2
  have hbase : base ≤ W3.heap.size := by have := HR3.out.lo; have := HR3.out.lt; omega
  obtain ⟨av, cv, rfl, -⟩ := Rd.owns_val HR3.out.r
  have c2 := HR3.out.c2
  have c0 := HR3.out.c0
  have hlr := HR3.out.len
  have HLR := Lib.hid hlr
  have hrs : rs.length ≤ 1000 := by omega
  clear hlr
  have hq3 := HR3.out.lt
  have c2' : (W3.alloc (.cells #[] 77)).cell? ⟨qb, 2, none⟩ = some (.slice av rs.length cv) := by rw [blk_cell ((blk_alloc_old _ _ _ hq3).trans HR3.out.p)]; rfl
  obtain ⟨i0, hi0, hz0, hz1, hz2⟩ := info_parts info_rs
  cases hx : ixR R [L, X0, Y0] with
  | some i =>
    have ez : fndI R [L, X0, Y0] = (i : Int) := by unfold fndI; rw [hx]
    have ec : codeR n R [L, X0, Y0] = 0 := by unfold codeR; rw [hx]
    have eg : goneR n R [L, X0, Y0] = [] := by unfold goneR; rw [hx]
    have ep : putR n R [L, X0, Y0] b = R.set i ([L, X0, Y0], b) := by unfold putR; rw [hx]
    have hi : i < R.length := by
      unfold ixR at hx
      exact (List.findIdx?_eq_some_iff_getElem.1 hx).1
    rw [ez]
    have EC := Lib.hid ec
    have EG := Lib.hid eg
    have EP := Lib.hid ep
    have hnn : (0 : Int) ≤ (i : Int) := by omega
    have hfr := blk_frozen HR3.out.p 2
    clear ez ec eg ep hx
    go_upto_region 7 with (at_builtin; refine app_rs rfl (.tmp 34) (.tmp 38) rfl HR3.out rfl rfl hrs ?_; intro a4 c4 w4 ho4 hg4;  have e2 := stayR HR3.out hg4; have e2c : w4.cell? ⟨qb, 2, none⟩ = some (.slice av rs.length cv) := by { rw [blk_cell e2]; rfl }; have e2f := blk_frozen e2 2)
    refine Rd.name_world ?_
    intro X5 hX5
    have hbN : Below W3.heap.size W3 w4 := ((Below.refl _ W3).alloc (Nat.le_refl _) (.cells #[] 77)).grown hg4 (by simp) (fun j hj => by
      have e7 : W3.heap.size = j := by simpa [Value.ownBlock] using hj
      omega)
    obtain ⟨q1, q2⟩ := Rp.row (v' := .slice a4 rs.length c4) HR3.out hbN (owns_mono ho4 hbase) HR3.out.r4 HLR.out (HR3.out.sl.bel hbN) HR3.out.p3
    rw [← hX5] at q1 q2
    have HR5 := Lib.hid q1
    have G5 := Lib.hid (gq_set (gq_below (gq_of L3) hbN) q2)
    have hT4 := (blk_below hbN _ (blk_lt bT3)).trans bT3
    have bT5 := (other e2 hT4 (by decide) q2).trans hT4
    have HU4 := PoE.owns_below HU3.out hbN
    have HU5 := Lib.hid (own_same HU4 (fun k hk => (by obtain ⟨c8, hc8, _⟩ := own_pos' HU4 hk; exact other e2 hc8 (by decide) q2)))
    have hg4w : w.heap.size ≤ w4.heap.size := by have := hbN.size; have := L3.size; omega
    have hi' : i < rs.length := by rw [HLR.out]; exact hi
    obtain ⟨x1, hx1, -⟩ := HR5.out.sl i hi
    obtain ⟨g4, cap4, cur, ev, -, hgb, hgs, -, -⟩ := sl_at HR5.out.r HR5.out.r4 hi' hx1
    injection ev with ev1 ev2 ev3
    subst ev1
    subst ev3
    have hgn : w.heap.size ≤ g4 := Nat.le_trans L3.size (ho4.lt g4 rfl).1
    have c25 := HR5.out.c2
    have hii : (i : Int) < (rs.length : Int) := by omega
    clear hX5 q1 q2 e2 e2c e2f hT4 HU4 bT3 HU3 HR3 hbN c2 c0 c2' ho4 hg4 ev2 hx1 hg4w
    have d2 : X5.drew.cell? ⟨qb, 2, none⟩ = some (.slice (some ⟨g4, 0, none⟩) rs.length c4) := c25
    have dT : blk X5.drew tb = some (.cells #[.int .i64 L, .int .i64 X0, .int .i64 Y0, .slice au 144 cu] 77 (0, 0)) := bT5
    (refine Reg.quiet_tail 7 (by kernel_rfl) (by kernel_rfl) ?_; simp only [List.take_succ_cons, List.take_zero, List.drop_succ_cons, List.drop_zero]; (repeat go_big_quiet_step (fail)); refine wpQuiet_nil ?_)
    have dG : blk X5.drew g4 = some (.cells cur 77 (0, 0)) := hgb
    have hb6 : Below X5.heap.size X5 X5.drew := (Below.refl _ _).drew
    have HR6 := Lib.hid (HR5.out.bel hb6)
    have HU6 := Lib.hid (PoE.owns_below HU5.out hb6)
    have G6 := Lib.hid (gq_below G5.out hb6)
    obtain ⟨X6, eX6⟩ : ∃ x, X5.drew = x := ⟨_, rfl⟩
    rw [eX6] at HR6 HU6 G6 dG ⊢
    clear d2 dT eX6 hb6 HR5 HU5 G5 hgb bT5 c25
    have hi4 : i * 4 + 4 ≤ cur.size := hgs
    go_wp2_with fail
    go_ret2
    obtain ⟨q1, q2⟩ := Rp.set (pg := [L, X0, Y0]) (b := b) (u := .slice au 144 cu) HR6.out hi' rfl rfl dG HU6.out (fun k hk => by have := hub k hk; have := HR6.out.lo; omega)
    exact ⟨_, _, _, by rw [EC.out]; rfl, .inl ⟨EG.out, rfl⟩, by rw [EP.out]; exact q1, gq_new G6.out q2 hgn⟩
  | none =>
    have ez : fndI R [L, X0, Y0] = -1 := by unfold fndI; rw [hx]
    rw [ez]
    have HX := Lib.hid hx
    have g2 := Go.cell_regrown c2
    have g0 := Go.cell_regrown c0
    clear ez hx c2'
    go_upto_region 10 with (fail)
    by_cases hlt : rs.length < n
    · have hcn : ¬ (n : Int) ≤ (rs.length : Int) := by omega
      (refine wp_region_quiet_below (by kernel_rfl) (by kernel_rfl) ?_; (repeat (go_big_quiet_step ((fail)))); refine wpQuiet_nil ?_)
      intro W9 hU
      have KU := Rd.below_of_regrown hU
      have L9 := Rd.below_step L3 KU
      have HR9 := Lib.hid (HR3.out.bel KU)
      have HU9 := Lib.hid (PoE.owns_below HU3.out KU)
      have bT9 := (blk_below KU _ (blk_lt bT3)).trans bT3
      have hbase9 : base ≤ W9.heap.size := by have := KU.size; omega
      have hub9 : ∀ k, (Value.slice au 144 cu).ownBlock = some k → base ≤ k := fun k hk => by have := hub k hk; have := HR9.out.lo; omega
      have ec : codeR n R [L, X0, Y0] = 0 := by unfold codeR; rw [HX.out]; simp only; rw [if_pos (by rw [← HLR.out]; exact hlt)]
      have eg : goneR n R [L, X0, Y0] = [] := by unfold goneR; rw [HX.out]; simp only; rw [if_pos (by rw [← HLR.out]; exact hlt)]
      have ep : putR n R [L, X0, Y0] b = R ++ [([L, X0, Y0], b)] := by unfold putR; rw [HX.out]; simp only; rw [if_pos (by rw [← HLR.out]; exact hlt)]
      have EC := Lib.hid ec
      have EG := Lib.hid eg
      have EP := Lib.hid ep
      clear hU KU g2 g0 HR3 HU3 bT3 L3 c2 c0 ec eg ep hcn
      go_upto_region 15 with (fail)
      refine PredV.region_of (W := W9) (fun p9 y9 z9 => p9 = 0 → ∀ g9, blk y9 g9 = some (.cells #[.int .i64 L, .int .i64 X0, .int .i64 Y0, .slice au 144 cu] 77 (0, 0)) → blk z9 g9 = some (.cells #[.int .i64 L, .int .i64 X0, .int .i64 Y0, .slice au 144 cu] 77 (0, 0))) 9999 9999 (0) (Nat.zero_le _) [6, 9, 12] [
          fun y9 => Below W9.heap.size W9 y9,
          fun y9 => Below W9.heap.size W9 y9,
          fun y9 => Below W9.heap.size W9 y9,
          fun y9 => ∃ v', Rp y9 base qb n d v' (rs ++ [slotV [L, X0, Y0] (.slice au 144 cu)]) (R ++ [([L, X0, Y0], b)]) ∧ W9.grownBy y9 (some qb)] [
          PredV.At 0 (.pointer (some ⟨qb, 0, none⟩)),
          PredV.When 0 (NoneB 77 W9.heap.size),
          PredV.At 0 (.pointer (some ⟨qb, 0, none⟩)),
          PredV.At 0 (.pointer (some ⟨qb, 0, none⟩)),
          PredV.At 0 (.pointer (some ⟨qb, 2, none⟩)),
          PredV.At 0 (.slice av (rs).length cv),
          PredV.When 1 (fun u y9 => y9.ownsRow W9.heap.size 77 4 u (rs).length (DkM.fl (rs))),
          PredV.At 0 (.agg #[.int .i64 L, .int .i64 X0, .int .i64 Y0, .slice au 144 cu]),
          PredV.Til 1 (OneS #[.int .i64 L, .int .i64 X0, .int .i64 Y0, .slice au 144 cu]),
          PredV.When 2 (fun u y9 => y9.ownsRow W9.heap.size 77 4 u ((rs).length + 1) (DkM.fl (rs ++ [slotV [L, X0, Y0] (.slice au 144 cu)]))),
          PredV.At 0 (.pointer (some ⟨qb, 0, none⟩)),
          PredV.At 0 (.pointer (some ⟨qb, 2, none⟩)),
          PredV.At 0 undef] (by kernel_rfl) (by kernel_rfl) (by kernel_rfl) (by decide) (by decide) ?_ ?_ ?_ ?_ ?_ ?_
      · exact ⟨PredV.at_stab _ _ _ _ _ _, PredV.when_stab _ _ _ _ _ (fun u y y' h hb => none_below h hb), PredV.at_stab _ _ _ _ _ _, PredV.at_stab _ _ _ _ _ _, PredV.at_stab _ _ _ _ _ _, PredV.at_stab _ _ _ _ _ _, PredV.when_stab _ _ _ _ _ (fun u y y' h hb => PoE.owns_below h hb), PredV.at_stab _ _ _ _ _ _, ones_stab _ _ _ _, PredV.when_stab _ _ _ _ _ (fun u y y' h hb => PoE.owns_below h hb), PredV.at_stab _ _ _ _ _ _, PredV.at_stab _ _ _ _ _ _, PredV.at_stab _ _ _ _ _ _, trivial⟩
      · intro q hq
        rcases List.mem_cons.1 hq with rfl | hq
        · exact fun y y' h hb => h.trans (hb.mono h.size)
        rcases List.mem_cons.1 hq with rfl | hq
        · exact fun y y' h hb => h.trans (hb.mono h.size)
        rcases List.mem_cons.1 hq with rfl | hq
        · exact fun y y' h hb => h.trans (hb.mono h.size)
        rcases List.mem_cons.1 hq with rfl | hq
        · exact fun y y' ⟨v9, h1, h2⟩ hb => ⟨v9, h1.bel hb, gq_below h2 hb⟩
        cases hq
      · exact Below.refl _ _
      · refine ⟨.inr ?_, .inr ?_, .inr ?_, .inr ?_, .inr ?_, .inr ?_, .inl rfl, .inr ?_, .inr ?_, .inl rfl, .inr ?_, .inr ?_, .inl rfl, trivial⟩
        · intro b9 X ph hE hd hn hS hV hI hF
          have r0 : b9.tmps[0]?.getD undef = .pointer (some ⟨qb, 0, none⟩) := (hn 0 (by kernel_rfl)).trans rfl
          exact Pred.yields_run (v := .pointer (some ⟨qb, 0, none⟩)) (Pred.wanted_none rfl) (by go_simp) ⟨Below.refl _ _, rfl, Nat.zero_le _⟩
        · intro b9 X ph hE hd hn hS hV hI hF
          have hp0 : ph = 0 := Nat.le_zero.1 (hF 0 6 rfl (Pred.waits_more 5 _ _ (Nat.le_of_ble_eq_true (by kernel_rfl)) (by kernel_rfl)))
          subst hp0
          have hb0 : Below W9.heap.size W9 X := hS
          have hXs : W9.heap.size ≤ X.heap.size := hb0.size
          exact Pred.yields_run (v := .slice (some ⟨X.heap.size, 0, none⟩) 0 0) (w' := X.alloc (.cells #[] 77)) (Pred.wanted_none rfl) (by go_simp) ⟨(Below.refl _ _).alloc (Nat.le_refl _) _, Nat.zero_le _, fun _ => ⟨X.heap.size, rfl, hXs, blk_alloc_at _ _ _ rfl⟩⟩
        · intro b9 X ph hE hd hn hS hV hI hF
          have r0 : b9.tmps[0]?.getD undef = .pointer (some ⟨qb, 0, none⟩) := (hn 0 (by kernel_rfl)).trans rfl
          exact Pred.yields_run (v := .pointer (some ⟨qb, 0, none⟩)) (Pred.wanted_none rfl) (by go_simp) ⟨Below.refl _ _, rfl, Nat.zero_le _⟩
        · intro b9 X ph hE hd hn hS hV hI hF
          obtain ⟨r83, j83⟩ : PredV.At 0 (.pointer (some ⟨qb, 0, none⟩)) (b9.tmps[83]?.getD undef) X ph := hV 2 _ 83 rfl rfl (Pred.waits_near (by kernel_rfl) (by kernel_rfl))
          exact Pred.yields_run (v := .pointer (some ⟨qb, 0, none⟩)) (Pred.wanted_none rfl) (by go_simp) ⟨Below.refl _ _, rfl, Nat.zero_le _⟩
        · intro b9 X ph hE hd hn hS hV hI hF
          obtain ⟨r84, j84⟩ : PredV.At 0 (.pointer (some ⟨qb, 0, none⟩)) (b9.tmps[84]?.getD undef) X ph := hV 3 _ 84 rfl rfl (Pred.waits_near (by kernel_rfl) (by kernel_rfl))
          exact Pred.yields_run (v := .pointer (some ⟨qb, 2, none⟩)) (Pred.wanted_none rfl) (by go_simp) ⟨Below.refl _ _, rfl, Nat.zero_le _⟩
        · intro b9 X ph hE hd hn hS hV hI hF
          obtain ⟨r85, j85⟩ : PredV.At 0 (.pointer (some ⟨qb, 2, none⟩)) (b9.tmps[85]?.getD undef) X ph := hV 4 _ 85 rfl rfl (Pred.waits_near (by kernel_rfl) (by kernel_rfl))
          have hp0 : ph = 0 := Nat.le_zero.1 (hF 0 6 rfl (Pred.waits_more 5 _ _ (Nat.le_of_ble_eq_true (by kernel_rfl)) (by kernel_rfl)))
          subst hp0
          have hb0 : Below W9.heap.size W9 X := hS
          have z := (HR9.out.bel hb0).c2
          exact Pred.yields_run (v := .slice av (rs).length cv) (Pred.wanted_none rfl) (by go_simp) ⟨Below.refl _ _, rfl, Nat.zero_le _⟩
        · intro b9 X ph hE hd hn hS hV hI hF
          have r8 : b9.tmps[8]?.getD undef = .pointer (some ⟨tb, 0, none⟩) := (hn 8 (by kernel_rfl)).trans rfl
          have hpj : ph ≤ 1 := hF 1 9 rfl (Pred.waits_more 5 _ _ (Nat.le_of_ble_eq_true (by kernel_rfl)) (by kernel_rfl))
          have hb0 : Below W9.heap.size W9 X := by
            rcases (show ph = 0 ∨ ph = 1 by omega) with rfl | rfl <;> exact hS
          have z := (blk_below hb0 _ (blk_lt bT9)).trans bT9
          exact Pred.yields_run (v := .agg #[.int .i64 L, .int .i64 X0, .int .i64 Y0, .slice au 144 cu]) (Pred.wanted_none rfl) (by go_simp) ⟨Below.refl _ _, rfl, Nat.zero_le _⟩
        · intro b9 X ph hE hd hn hS hV hI hF
          obtain ⟨r88, j88⟩ : PredV.At 0 (.agg #[.int .i64 L, .int .i64 X0, .int .i64 Y0, .slice au 144 cu]) (b9.tmps[88]?.getD undef) X ph := hV 7 _ 88 rfl rfl (Pred.waits_near (by kernel_rfl) (by kernel_rfl))
          exact Pred.yields_run (v := .slice (some ⟨X.heap.size, 0, none⟩) 1 1) (w' := X.alloc (.cells #[.int .i64 L, .int .i64 X0, .int .i64 Y0, .slice au 144 cu] 77)) (Pred.wanted_none rfl) (by go_simp) ⟨(Below.refl _ _).alloc (Nat.le_refl _) _, fun _ => ⟨X.heap.size, rfl, blk_alloc_at _ _ _ rfl⟩⟩
        · intro b9 X ph hE hd hn hS hV hI hF
          obtain ⟨r81, j81⟩ : PredV.At 0 (.pointer (some ⟨qb, 0, none⟩)) (b9.tmps[81]?.getD undef) X ph := hV 0 _ 81 rfl rfl (Pred.waits_near (by kernel_rfl) (by kernel_rfl))
          exact Pred.yields_run (v := .pointer (some ⟨qb, 0, none⟩)) (Pred.wanted_none rfl) (by go_simp) ⟨Below.refl _ _, rfl, Nat.zero_le _⟩
        · intro b9 X ph hE hd hn hS hV hI hF
          obtain ⟨r91, j91⟩ : PredV.At 0 (.pointer (some ⟨qb, 0, none⟩)) (b9.tmps[91]?.getD undef) X ph := hV 10 _ 91 rfl rfl (Pred.waits_near (by kernel_rfl) (by kernel_rfl))
          exact Pred.yields_run (v := .pointer (some ⟨qb, 2, none⟩)) (Pred.wanted_none rfl) (by go_simp) ⟨Below.refl _ _, rfl, Nat.zero_le _⟩
      · refine ⟨?_, ?_, ?_, trivial⟩
        · refine ⟨_, rfl, fun k hk => (by cases hk), fun b9 X hE hd hn hS hV hI => ?_⟩
          obtain ⟨j82, r82⟩ : PredV.When 0 (NoneB 77 W9.heap.size) (b9.tmps[82]?.getD undef) X 0 := hV 1 _ 82 rfl rfl (Pred.waits_near (by kernel_rfl) (by kernel_rfl))
          obtain ⟨r86, j86⟩ : PredV.At 0 (.slice av (rs).length cv) (b9.tmps[86]?.getD undef) X 0 := hV 5 _ 86 rfl rfl (Pred.waits_near (by kernel_rfl) (by kernel_rfl))
          replace hS : (fun y9 => Below W9.heap.size W9 y9) X := hS
          replace hS : Below W9.heap.size W9 X := hS
          obtain ⟨g9, hg9, hlo9, hb9⟩ := r82 rfl
          have hXs := hS.size
          refine yields_app_v rfl (.tmp 82) (.tmp 86) 78 77 (.agg #[.int .i64 0, .int .i64 0, .int .i64 0, .slice none 0 0]) 4 48 rfl Try.underlying78 info_rs rfl (by decide) (by decide) W9.heap.size (.slice (some ⟨g9, 0, none⟩) 0 0) 0 [] (by simpa [Act.eval] using hg9) (none_own hlo9 hb9) av (rs).length cv (DkM.fl (rs)) (by simpa [Act.eval] using r86) ((Reads.of_owns HR9.out.r).below hS (Nat.le_refl _)) (ones_rs HR9.out) (by omega) (by omega) ?_
          intro u y hown hgr
          rw [Nat.zero_add, List.nil_append] at hown
          have hbw := OctA.below_grownBy (B := W9.heap.size) hgr (by omega) (fun k hk => by cases hk; exact hlo9)
          refine ⟨⟨hbw.mono (Nat.zero_le _), fun _ g hg => (hgr.block g (blk_lt hg) (fun e => ?_)).trans hg⟩, hS.trans hbw, ⟨Nat.le_refl _, fun _ => hown⟩, fun e => absurd e (by decide)⟩
          have e8 : some g = some g9 := e
          cases e8
          have e7 := hb9.symm.trans hg
          simp at e7
        · refine ⟨_, rfl, fun k hk => (by cases hk; exact Pred.waits_near (by kernel_rfl) (by kernel_rfl)), fun b9 X hE hd hn hS hV hI => ?_⟩
          obtain ⟨j87, r87⟩ : PredV.When 1 (fun u y9 => y9.ownsRow W9.heap.size 77 4 u (rs).length (DkM.fl (rs))) (b9.tmps[87]?.getD undef) X 1 := hV 6 _ 87 rfl rfl (Pred.waits_near (by kernel_rfl) (by kernel_rfl))
          have r89 : (OneS #[.int .i64 L, .int .i64 X0, .int .i64 Y0, .slice au 144 cu]) (b9.tmps[89]?.getD undef) X := (show PredV.Til 1 (OneS #[.int .i64 L, .int .i64 X0, .int .i64 Y0, .slice au 144 cu]) (b9.tmps[89]?.getD undef) X 1 from hV 8 _ 89 rfl rfl (Pred.waits_near (by kernel_rfl) (by kernel_rfl))) (by omega)
          replace hS : (fun y9 => Below W9.heap.size W9 y9) X := hS
          replace hS : Below W9.heap.size W9 X := hS
          have ho9 := r87 rfl
          obtain ⟨g9, hg9, hb9⟩ := r89
          have hXs := hS.size
          refine yields_app_v rfl (.tmp 87) (.tmp 89) 78 77 (.agg #[.int .i64 0, .int .i64 0, .int .i64 0, .slice none 0 0]) 4 48 rfl Try.underlying78 info_rs rfl (by decide) (by decide) W9.heap.size _ (rs).length _ rfl (by simpa [Act.eval] using ho9) (some ⟨g9, 0, none⟩) 1 1 [.int .i64 L, .int .i64 X0, .int .i64 Y0, .slice au 144 cu] (by simpa [Act.eval] using hg9) (reads_oneS hb9) (by intro u hu; simp at hu; rcases hu with rfl | rfl | rfl | rfl <;> rfl) (by omega) (by omega) ?_
          intro u y hown hgr
          have hbw := OctA.below_grownBy (B := W9.heap.size) hgr (by omega) (fun k hk => (ho9.lt k (by simpa [Act.eval] using hk)).1)
          refine ⟨⟨hbw.mono (Nat.zero_le _), fun e => absurd e (by decide)⟩, hS.trans hbw, ⟨Nat.le_refl _, fun _ => ?_⟩, fun e => absurd e (by decide)⟩
          rw [DkM.fl_app]
          have e7 : DkM.fl [slotV [L, X0, Y0] (.slice au 144 cu)] = [.int .i64 L, .int .i64 X0, .int .i64 Y0, .slice au 144 cu] := by simp [DkM.fl, slotV, PgM.g]
          rw [e7]
          exact hown
        · refine ⟨_, rfl, fun k hk => (by cases hk; exact Pred.waits_near (by kernel_rfl) (by kernel_rfl)), fun b9 X hE hd hn hS hV hI => ?_⟩
          obtain ⟨r92, j92⟩ : PredV.At 0 (.pointer (some ⟨qb, 2, none⟩)) (b9.tmps[92]?.getD undef) X 2 := hV 11 _ 92 rfl rfl (Pred.waits_near (by kernel_rfl) (by kernel_rfl))
          obtain ⟨j90, r90⟩ : PredV.When 2 (fun u y9 => y9.ownsRow W9.heap.size 77 4 u ((rs).length + 1) (DkM.fl (rs ++ [slotV [L, X0, Y0] (.slice au 144 cu)]))) (b9.tmps[90]?.getD undef) X 2 := hV 9 _ 90 rfl rfl (Pred.waits_near (by kernel_rfl) (by kernel_rfl))
          replace hS : (fun y9 => Below W9.heap.size W9 y9) X := hS
          replace hS : Below W9.heap.size W9 X := hS
          have ho9 := r90 rfl
          clear r90
          obtain ⟨u, hu⟩ : ∃ u, b9.tmps[90]?.getD undef = u := ⟨_, rfl⟩
          rw [hu] at ho9
          obtain ⟨a8, c8, rfl, -⟩ := Rd.owns_val ho9
          have hR9 := HR9.out.bel hS
          have z := hR9.c2
          have zf := blk_frozen hR9.p 2
          obtain ⟨q1, q2⟩ := Rp.row (v' := .slice a8 ((rs).length + 1) c8) (rs' := rs ++ [slotV [L, X0, Y0] (.slice au 144 cu)]) (R' := R ++ [([L, X0, Y0], b)]) HR9.out hS (by rw [List.length_append, List.length_singleton]; exact owns_mono ho9 hbase9) (fun x hx => (List.mem_append.1 hx).elim (HR9.out.r4 x) (fun hx => by rw [List.mem_singleton.1 hx]; rfl)) (by rw [List.length_append, List.length_append, HR9.out.len]; rfl) (sl_app (HR9.out.sl.bel hS) HR9.out.len (PoE.owns_below HU9.out hS) hub9) (p3_app HR9.out.p3 rfl)
          refine yields_skip (w' := X.setCell ⟨qb, 2, none⟩ (.slice a8 ((rs).length + 1) c8)) (Pred.wanted_none rfl) (by clear hS hI hV hn ho9 hR9 q1 q2; go_simp) ⟨⟨below_zero q2, fun e => absurd e (by decide)⟩, ⟨_, q1, gq_below2 hS q2⟩, ⟨rfl, Nat.zero_le _⟩, fun e => absurd e (by decide)⟩
      intro v X hE hS hv
      replace hS : (fun y9 => ∃ v', Rp y9 base qb n d v' (rs ++ [slotV [L, X0, Y0] (.slice au 144 cu)]) (R ++ [([L, X0, Y0], b)]) ∧ W9.grownBy y9 (some qb)) X := hS
      have e0 : v 0 = .pointer (some ⟨qb, 0, none⟩) := (hv 0 _ 81 rfl rfl).1
      generalize hg1 : v 1 = vv1
      have e2 : v 2 = .pointer (some ⟨qb, 0, none⟩) := (hv 2 _ 83 rfl rfl).1
      have e3 : v 3 = .pointer (some ⟨qb, 0, none⟩) := (hv 3 _ 84 rfl rfl).1
      have e4 : v 4 = .pointer (some ⟨qb, 2, none⟩) := (hv 4 _ 85 rfl rfl).1
      have e5 : v 5 = .slice av (rs).length cv := (hv 5 _ 86 rfl rfl).1
      generalize hg6 : v 6 = vv6
      have e7 : v 7 = .agg #[.int .i64 L, .int .i64 X0, .int .i64 Y0, .slice au 144 cu] := (hv 7 _ 88 rfl rfl).1
      generalize hg8 : v 8 = vv8
      generalize hg9 : v 9 = vv9
      have e10 : v 10 = .pointer (some ⟨qb, 0, none⟩) := (hv 10 _ 91 rfl rfl).1
      have e11 : v 11 = .pointer (some ⟨qb, 2, none⟩) := (hv 11 _ 92 rfl rfl).1
      simp only [Pred.putsF_cons, Pred.putsF_nil, Nat.zero_add, Nat.reduceAdd, e0, hg1, e2, e3, e4, e5, hg6, e7, hg8, hg9, e10, e11, Act.put, List.setIfInBounds_toArray, List.set_cons_zero, List.set_cons_succ]
      clear e0 hg1 e2 e3 e4 e5 hg6 e7 hg8 hg9 e10 e11 hv
      obtain ⟨v9, h9, g9⟩ := hS
      have HV9 := Lib.hid h9
      have HG9 := Lib.hid g9
      clear h9 g9 hE
      go_wp2_with fail
      go_ret2
      exact ⟨_, _, _, by rw [EC.out]; rfl, .inl ⟨EG.out, rfl⟩, by rw [EP.out]; exact HV9.out, gq_set (gq_of L9) HG9.out⟩
    · have hcn : (n : Int) ≤ (rs.length : Int) := by omega
      (refine wp_region_quiet_below (by kernel_rfl) (by kernel_rfl) ?_; (repeat (go_big_quiet_step ((fail)))); refine wpQuiet_nil ?_)
      intro W9 hU
      have KU := Rd.below_of_regrown hU
      have L9 := Rd.below_step L3 KU
      have HR9 := Lib.hid (HR3.out.bel KU)
      have HU9 := Lib.hid (PoE.owns_below HU3.out KU)
      have bT9 := (blk_below KU _ (blk_lt bT3)).trans bT3
      have hbase9 : base ≤ W9.heap.size := by have := KU.size; omega
      have hub9 : ∀ k, (Value.slice au 144 cu).ownBlock = some k → base ≤ k := fun k hk => by have := hub k hk; have := HR9.out.lo; omega
      have c29 := HR9.out.c2
      clear hU KU g2 g0 HR3 HU3 bT3 L3 c2 c0 hcn
      by_cases h2 : rs.length < 2
      · have h2' : (rs.length : Int) < 2 := by omega
        have ec : codeR n R [L, X0, Y0] = 6 := by unfold codeR; rw [HX.out]; simp only; rw [if_neg (by rw [← HLR.out]; exact hlt), if_pos (by rw [← HLR.out]; exact h2)]
        have eg : goneR n R [L, X0, Y0] = [] := by unfold goneR; rw [HX.out]; simp only; rw [if_neg (by rw [← HLR.out]; exact hlt), if_pos (by rw [← HLR.out]; exact h2)]
        have ep : putR n R [L, X0, Y0] b = R := by unfold putR; rw [HX.out]; simp only; rw [if_neg (by rw [← HLR.out]; exact hlt), if_pos (by rw [← HLR.out]; exact h2)]
        have EC := Lib.hid ec
        have EG := Lib.hid eg
        have EP := Lib.hid ep
        clear ec eg ep
        go_wp2_with fail
        go_ret2
        exact ⟨_, _, _, by rw [EC.out]; rfl, .inl ⟨EG.out, rfl⟩, by rw [EP.out]; exact HR9.out, gq_of L9⟩
      · have h2' : ¬ ((rs.length : Int) < 2) := by omega
        have h12 : (1 : Int) < (rs.length : Int) := by omega
        have h1R : 1 < R.length := by rw [← HLR.out]; omega
        have ec : codeR n R [L, X0, Y0] = 0 := by unfold codeR; rw [HX.out]; simp only; rw [if_neg (by rw [← HLR.out]; exact hlt), if_neg (by rw [← HLR.out]; exact h2)]
        have eg : goneR n R [L, X0, Y0] = [(ent R 1).1] := by unfold goneR; rw [HX.out]; simp only; rw [if_neg (by rw [← HLR.out]; exact hlt), if_neg (by rw [← HLR.out]; exact h2)]
        have ep : putR n R [L, X0, Y0] b = R.eraseIdx 1 ++ [([L, X0, Y0], b)] := by unfold putR; rw [HX.out]; simp only; rw [if_neg (by rw [← HLR.out]; exact hlt), if_neg (by rw [← HLR.out]; exact h2)]
        obtain ⟨u1, hu1, -⟩ := HR9.out.sl 1 h1R
        obtain ⟨g, cap, cur, ev, -, hgb, hgs, hpc, -⟩ := sl_at HR9.out.r HR9.out.r4 (i := 1) (by omega) hu1
        injection ev with ev1 ev2 ev3
        subst ev1
        subst ev3
        obtain ⟨y0, y1, y2, hy⟩ := len3 (HR9.out.p3 1 h1R)
        rw [hy] at hpc eg
        have hpc' : Mid.piece cur 4 3 = #[.int .i64 y0, .int .i64 y1, .int .i64 y2] := hpc
        have hi7 : 4 + 3 ≤ cur.size := by omega
        have EC := Lib.hid ec
        have EG := Lib.hid eg
        have EP := Lib.hid ep
        clear ec eg ep hu1 ev2 hpc hy
        go_upto_region 14 with (fail)
        refine Rd.name_world ?_
        intro W10 hW10
        have K10 : Below W9.heap.size W9 W10 := by rw [hW10]; repeat' (first | (with_reducible exact Below.refl _ _) | (with_reducible refine Rd.below_step ?_ (by assumption)) | (with_reducible refine Rd.below_alloc ?_ _) | (with_reducible refine Rd.below_drewN ?_ _) | (with_reducible refine Below.drew ?_) | (with_reducible refine Below.setCell ?_ ?_ _) | (with_reducible refine Rd.below_setRow ?_ ?_ _) | go_size | (simp only [World.size_alloc]; omega) | omega)
        have bG : blk W10 W9.heap.size = some (.cells #[.int .i64 y0, .int .i64 y1, .int .i64 y2] 35 (0, 0)) := by rw [hW10]; exact blk_alloc_at _ _ _ rfl
        have L10 := Rd.below_step L9 K10
        have HR10 := Lib.hid (HR9.out.bel K10)
        have HU10 := Lib.hid (PoE.owns_below HU9.out K10)
        have bT10 := (blk_below K10 _ (blk_lt bT9)).trans bT9
        have hbase10 : base ≤ W10.heap.size := by have := K10.size; omega
        have hgw : w.heap.size ≤ W9.heap.size := L9.size
        have c210 := HR10.out.c2
        have CW := Lib.hid (without_any 1 g cv W10 HR10.out (by omega) hrs)
        have HGQ := Lib.hid HR9.out.lt
        clear hW10 K10 HR9 HU9 bT9 hbase9 c29 L9 hgb hpc' hi7 hgs hgw
        go_wp2_with fail
        refine CW.out.mono ?_
        rintro e w4 ⟨⟨v4, rfl, ho4⟩, hb4⟩
        obtain ⟨rs1, ers1⟩ : ∃ x, rs.eraseIdx 1 = x := ⟨_, rfl⟩
        obtain ⟨R1, eR1⟩ : ∃ x, R.eraseIdx 1 = x := ⟨_, rfl⟩
        have hrs1 : rs1.length ≤ 1000 := by rw [← ers1, List.length_eraseIdx]; split <;> omega
        have HL1 : Hid (rs1.length = R1.length) := Lib.hid (by rw [← ers1, ← eR1, List.length_eraseIdx, List.length_eraseIdx, if_pos (by omega), if_pos h1R, HLR.out])
        have h41 : ∀ l ∈ rs1, l.length = 4 := fun l hl => HR10.out.r4 l (by rw [← ers1] at hl; exact List.mem_of_mem_eraseIdx hl)
        have hs1 := Lib.hid (sl_erase (HR10.out.sl.bel hb4) h1R)
        have h31 := Lib.hid (p3_erase HR10.out.p3 h1R)
        rw [ers1] at ho4 hs1
        rw [eR1] at hs1 h31 EP
        have e2 : blk w4 qb = _ := (hb4.block qb HR10.out.lt).trans HR10.out.p
        have e2c : w4.cell? ⟨qb, 2, none⟩ = some (.slice (some ⟨g, 0, none⟩) rs.length cv) := by rw [blk_cell e2]; rfl
        have e2f := blk_frozen e2 2
        obtain ⟨a4, c4, rfl, -⟩ := Rd.owns_val ho4
        clear ers1 eR1
        go_upto_region 15 with (fail)
        refine Rd.name_world ?_
        intro X5 hX5
        obtain ⟨q1, q2⟩ := Rp.row (v' := .slice a4 rs1.length c4) HR10.out hb4 (owns_mono ho4 hbase10) h41 HL1.out hs1.out h31.out
        rw [← hX5] at q1 q2
        have G5 := Lib.hid (gq_set (gq_below (gq_of L10) hb4) q2)
        have bT5 := (other e2 ((blk_below hb4 _ (blk_lt bT10)).trans bT10) (by decide) q2).trans ((blk_below hb4 _ (blk_lt bT10)).trans bT10)
        have HU5 := PoE.owns_below HU10.out hb4
        have HU5' := Lib.hid (own_same HU5 (fun k hk => (by obtain ⟨c8, hc8, _⟩ := own_pos' HU5 hk; exact other e2 hc8 (by decide) q2)))
        have bG4 := (blk_below hb4 _ (blk_lt bG)).trans bG
        have bG5 := Lib.hid ((other e2 bG4 (by decide) q2).trans bG4)
        have hbase5 : base ≤ X5.heap.size := by have := q2.size; have := hb4.size; omega
        have HR5 := Lib.hid q1
        have hub5 := hub9
        clear hX5 q1 q2 e2 e2c e2f bT10 HU10 HU5 hb4 ho4 hs1 h31 h41 HR10 bG bG4 CW c210 L10 hbase10 hub9 HL1 HLR h1R
        refine PredV.region_of (W := X5) (fun p9 y9 z9 => p9 = 0 → ∀ g9, blk y9 g9 = some (.cells #[.int .i64 L, .int .i64 X0, .int .i64 Y0, .slice au 144 cu] 77 (0, 0)) → blk z9 g9 = some (.cells #[.int .i64 L, .int .i64 X0, .int .i64 Y0, .slice au 144 cu] 77 (0, 0))) 9999 9999 (0) (Nat.zero_le _) [6, 9, 12] [
            fun y9 => Below X5.heap.size X5 y9,
            fun y9 => Below X5.heap.size X5 y9,
            fun y9 => Below X5.heap.size X5 y9,
            fun y9 => ∃ v', Rp y9 base qb n d v' (rs1 ++ [slotV [L, X0, Y0] (.slice au 144 cu)]) (R1 ++ [([L, X0, Y0], b)]) ∧ X5.grownBy y9 (some qb)] [
            PredV.At 0 (.pointer (some ⟨qb, 0, none⟩)),
            PredV.When 0 (NoneB 77 X5.heap.size),
            PredV.At 0 (.pointer (some ⟨qb, 0, none⟩)),
            PredV.At 0 (.pointer (some ⟨qb, 0, none⟩)),
            PredV.At 0 (.pointer (some ⟨qb, 2, none⟩)),
            PredV.At 0 (.slice a4 (rs1).length c4),
            PredV.When 1 (fun u y9 => y9.ownsRow X5.heap.size 77 4 u (rs1).length (DkM.fl (rs1))),
            PredV.At 0 (.agg #[.int .i64 L, .int .i64 X0, .int .i64 Y0, .slice au 144 cu]),
            PredV.Til 1 (OneS #[.int .i64 L, .int .i64 X0, .int .i64 Y0, .slice au 144 cu]),
            PredV.When 2 (fun u y9 => y9.ownsRow X5.heap.size 77 4 u ((rs1).length + 1) (DkM.fl (rs1 ++ [slotV [L, X0, Y0] (.slice au 144 cu)]))),
            PredV.At 0 (.pointer (some ⟨qb, 0, none⟩)),
            PredV.At 0 (.pointer (some ⟨qb, 2, none⟩)),
            PredV.At 0 undef] (by kernel_rfl) (by kernel_rfl) (by kernel_rfl) (by decide) (by decide) ?_ ?_ ?_ ?_ ?_ ?_
        · exact ⟨PredV.at_stab _ _ _ _ _ _, PredV.when_stab _ _ _ _ _ (fun u y y' h hb => none_below h hb), PredV.at_stab _ _ _ _ _ _, PredV.at_stab _ _ _ _ _ _, PredV.at_stab _ _ _ _ _ _, PredV.at_stab _ _ _ _ _ _, PredV.when_stab _ _ _ _ _ (fun u y y' h hb => PoE.owns_below h hb), PredV.at_stab _ _ _ _ _ _, ones_stab _ _ _ _, PredV.when_stab _ _ _ _ _ (fun u y y' h hb => PoE.owns_below h hb), PredV.at_stab _ _ _ _ _ _, PredV.at_stab _ _ _ _ _ _, PredV.at_stab _ _ _ _ _ _, trivial⟩
        · intro q hq
          rcases List.mem_cons.1 hq with rfl | hq
          · exact fun y y' h hb => h.trans (hb.mono h.size)
          rcases List.mem_cons.1 hq with rfl | hq
          · exact fun y y' h hb => h.trans (hb.mono h.size)
          rcases List.mem_cons.1 hq with rfl | hq
          · exact fun y y' h hb => h.trans (hb.mono h.size)
          rcases List.mem_cons.1 hq with rfl | hq
          · exact fun y y' ⟨v9, h1, h2⟩ hb => ⟨v9, h1.bel hb, gq_below h2 hb⟩
          cases hq
        · exact Below.refl _ _
        · refine ⟨.inr ?_, .inr ?_, .inr ?_, .inr ?_, .inr ?_, .inr ?_, .inl rfl, .inr ?_, .inr ?_, .inl rfl, .inr ?_, .inr ?_, .inl rfl, trivial⟩
          · intro b9 X ph hE hd hn hS hV hI hF
            have r0 : b9.tmps[0]?.getD undef = .pointer (some ⟨qb, 0, none⟩) := (hn 0 (by kernel_rfl)).trans rfl
            exact Pred.yields_run (v := .pointer (some ⟨qb, 0, none⟩)) (Pred.wanted_none rfl) (by go_simp) ⟨Below.refl _ _, rfl, Nat.zero_le _⟩
          · intro b9 X ph hE hd hn hS hV hI hF
            have hp0 : ph = 0 := Nat.le_zero.1 (hF 0 6 rfl (Pred.waits_more 5 _ _ (Nat.le_of_ble_eq_true (by kernel_rfl)) (by kernel_rfl)))
            subst hp0
            have hb0 : Below X5.heap.size X5 X := hS
            have hXs : X5.heap.size ≤ X.heap.size := hb0.size
            exact Pred.yields_run (v := .slice (some ⟨X.heap.size, 0, none⟩) 0 0) (w' := X.alloc (.cells #[] 77)) (Pred.wanted_none rfl) (by go_simp) ⟨(Below.refl _ _).alloc (Nat.le_refl _) _, Nat.zero_le _, fun _ => ⟨X.heap.size, rfl, hXs, blk_alloc_at _ _ _ rfl⟩⟩
          · intro b9 X ph hE hd hn hS hV hI hF
            have r0 : b9.tmps[0]?.getD undef = .pointer (some ⟨qb, 0, none⟩) := (hn 0 (by kernel_rfl)).trans rfl
            exact Pred.yields_run (v := .pointer (some ⟨qb, 0, none⟩)) (Pred.wanted_none rfl) (by go_simp) ⟨Below.refl _ _, rfl, Nat.zero_le _⟩
          · intro b9 X ph hE hd hn hS hV hI hF
            obtain ⟨r83, j83⟩ : PredV.At 0 (.pointer (some ⟨qb, 0, none⟩)) (b9.tmps[83]?.getD undef) X ph := hV 2 _ 83 rfl rfl (Pred.waits_near (by kernel_rfl) (by kernel_rfl))
            exact Pred.yields_run (v := .pointer (some ⟨qb, 0, none⟩)) (Pred.wanted_none rfl) (by go_simp) ⟨Below.refl _ _, rfl, Nat.zero_le _⟩
          · intro b9 X ph hE hd hn hS hV hI hF
            obtain ⟨r84, j84⟩ : PredV.At 0 (.pointer (some ⟨qb, 0, none⟩)) (b9.tmps[84]?.getD undef) X ph := hV 3 _ 84 rfl rfl (Pred.waits_near (by kernel_rfl) (by kernel_rfl))
            exact Pred.yields_run (v := .pointer (some ⟨qb, 2, none⟩)) (Pred.wanted_none rfl) (by go_simp) ⟨Below.refl _ _, rfl, Nat.zero_le _⟩
          · intro b9 X ph hE hd hn hS hV hI hF
            obtain ⟨r85, j85⟩ : PredV.At 0 (.pointer (some ⟨qb, 2, none⟩)) (b9.tmps[85]?.getD undef) X ph := hV 4 _ 85 rfl rfl (Pred.waits_near (by kernel_rfl) (by kernel_rfl))
            have hp0 : ph = 0 := Nat.le_zero.1 (hF 0 6 rfl (Pred.waits_more 5 _ _ (Nat.le_of_ble_eq_true (by kernel_rfl)) (by kernel_rfl)))
            subst hp0
            have hb0 : Below X5.heap.size X5 X := hS
            have z := (HR5.out.bel hb0).c2
            exact Pred.yields_run (v := .slice a4 (rs1).length c4) (Pred.wanted_none rfl) (by go_simp) ⟨Below.refl _ _, rfl, Nat.zero_le _⟩
          · intro b9 X ph hE hd hn hS hV hI hF
            have r8 : b9.tmps[8]?.getD undef = .pointer (some ⟨tb, 0, none⟩) := (hn 8 (by kernel_rfl)).trans rfl
            have hpj : ph ≤ 1 := hF 1 9 rfl (Pred.waits_more 5 _ _ (Nat.le_of_ble_eq_true (by kernel_rfl)) (by kernel_rfl))
            have hb0 : Below X5.heap.size X5 X := by
              rcases (show ph = 0 ∨ ph = 1 by omega) with rfl | rfl <;> exact hS
            have z := (blk_below hb0 _ (blk_lt bT5)).trans bT5
            exact Pred.yields_run (v := .agg #[.int .i64 L, .int .i64 X0, .int .i64 Y0, .slice au 144 cu]) (Pred.wanted_none rfl) (by go_simp) ⟨Below.refl _ _, rfl, Nat.zero_le _⟩
          · intro b9 X ph hE hd hn hS hV hI hF
            obtain ⟨r88, j88⟩ : PredV.At 0 (.agg #[.int .i64 L, .int .i64 X0, .int .i64 Y0, .slice au 144 cu]) (b9.tmps[88]?.getD undef) X ph := hV 7 _ 88 rfl rfl (Pred.waits_near (by kernel_rfl) (by kernel_rfl))
            exact Pred.yields_run (v := .slice (some ⟨X.heap.size, 0, none⟩) 1 1) (w' := X.alloc (.cells #[.int .i64 L, .int .i64 X0, .int .i64 Y0, .slice au 144 cu] 77)) (Pred.wanted_none rfl) (by go_simp) ⟨(Below.refl _ _).alloc (Nat.le_refl _) _, fun _ => ⟨X.heap.size, rfl, blk_alloc_at _ _ _ rfl⟩⟩
          · intro b9 X ph hE hd hn hS hV hI hF
            obtain ⟨r81, j81⟩ : PredV.At 0 (.pointer (some ⟨qb, 0, none⟩)) (b9.tmps[81]?.getD undef) X ph := hV 0 _ 81 rfl rfl (Pred.waits_near (by kernel_rfl) (by kernel_rfl))
            exact Pred.yields_run (v := .pointer (some ⟨qb, 0, none⟩)) (Pred.wanted_none rfl) (by go_simp) ⟨Below.refl _ _, rfl, Nat.zero_le _⟩
          · intro b9 X ph hE hd hn hS hV hI hF
            obtain ⟨r91, j91⟩ : PredV.At 0 (.pointer (some ⟨qb, 0, none⟩)) (b9.tmps[91]?.getD undef) X ph := hV 10 _ 91 rfl rfl (Pred.waits_near (by kernel_rfl) (by kernel_rfl))
            exact Pred.yields_run (v := .pointer (some ⟨qb, 2, none⟩)) (Pred.wanted_none rfl) (by go_simp) ⟨Below.refl _ _, rfl, Nat.zero_le _⟩
        · refine ⟨?_, ?_, ?_, trivial⟩
          · refine ⟨_, rfl, fun k hk => (by cases hk), fun b9 X hE hd hn hS hV hI => ?_⟩
            obtain ⟨j82, r82⟩ : PredV.When 0 (NoneB 77 X5.heap.size) (b9.tmps[82]?.getD undef) X 0 := hV 1 _ 82 rfl rfl (Pred.waits_near (by kernel_rfl) (by kernel_rfl))
            obtain ⟨r86, j86⟩ : PredV.At 0 (.slice a4 (rs1).length c4) (b9.tmps[86]?.getD undef) X 0 := hV 5 _ 86 rfl rfl (Pred.waits_near (by kernel_rfl) (by kernel_rfl))
            replace hS : (fun y9 => Below X5.heap.size X5 y9) X := hS
            replace hS : Below X5.heap.size X5 X := hS
            obtain ⟨g9, hg9, hlo9, hb9⟩ := r82 rfl
            have hXs := hS.size
            refine yields_app_v rfl (.tmp 82) (.tmp 86) 78 77 (.agg #[.int .i64 0, .int .i64 0, .int .i64 0, .slice none 0 0]) 4 48 rfl Try.underlying78 info_rs rfl (by decide) (by decide) X5.heap.size (.slice (some ⟨g9, 0, none⟩) 0 0) 0 [] (by simpa [Act.eval] using hg9) (none_own hlo9 hb9) a4 (rs1).length c4 (DkM.fl (rs1)) (by simpa [Act.eval] using r86) ((Reads.of_owns HR5.out.r).below hS (Nat.le_refl _)) (ones_rs HR5.out) (by omega) (by omega) ?_
            intro u y hown hgr
            rw [Nat.zero_add, List.nil_append] at hown
            have hbw := OctA.below_grownBy (B := X5.heap.size) hgr (by omega) (fun k hk => by cases hk; exact hlo9)
            refine ⟨⟨hbw.mono (Nat.zero_le _), fun _ g hg => (hgr.block g (blk_lt hg) (fun e => ?_)).trans hg⟩, hS.trans hbw, ⟨Nat.le_refl _, fun _ => hown⟩, fun e => absurd e (by decide)⟩
            have e8 : some g = some g9 := e
            cases e8
            have e7 := hb9.symm.trans hg
            simp at e7
          · refine ⟨_, rfl, fun k hk => (by cases hk; exact Pred.waits_near (by kernel_rfl) (by kernel_rfl)), fun b9 X hE hd hn hS hV hI => ?_⟩
            obtain ⟨j87, r87⟩ : PredV.When 1 (fun u y9 => y9.ownsRow X5.heap.size 77 4 u (rs1).length (DkM.fl (rs1))) (b9.tmps[87]?.getD undef) X 1 := hV 6 _ 87 rfl rfl (Pred.waits_near (by kernel_rfl) (by kernel_rfl))
            have r89 : (OneS #[.int .i64 L, .int .i64 X0, .int .i64 Y0, .slice au 144 cu]) (b9.tmps[89]?.getD undef) X := (show PredV.Til 1 (OneS #[.int .i64 L, .int .i64 X0, .int .i64 Y0, .slice au 144 cu]) (b9.tmps[89]?.getD undef) X 1 from hV 8 _ 89 rfl rfl (Pred.waits_near (by kernel_rfl) (by kernel_rfl))) (by omega)
            replace hS : (fun y9 => Below X5.heap.size X5 y9) X := hS
            replace hS : Below X5.heap.size X5 X := hS
            have ho9 := r87 rfl
            obtain ⟨g9, hg9, hb9⟩ := r89
            have hXs := hS.size
            refine yields_app_v rfl (.tmp 87) (.tmp 89) 78 77 (.agg #[.int .i64 0, .int .i64 0, .int .i64 0, .slice none 0 0]) 4 48 rfl Try.underlying78 info_rs rfl (by decide) (by decide) X5.heap.size _ (rs1).length _ rfl (by simpa [Act.eval] using ho9) (some ⟨g9, 0, none⟩) 1 1 [.int .i64 L, .int .i64 X0, .int .i64 Y0, .slice au 144 cu] (by simpa [Act.eval] using hg9) (reads_oneS hb9) (by intro u hu; simp at hu; rcases hu with rfl | rfl | rfl | rfl <;> rfl) (by omega) (by omega) ?_
            intro u y hown hgr
            have hbw := OctA.below_grownBy (B := X5.heap.size) hgr (by omega) (fun k hk => (ho9.lt k (by simpa [Act.eval] using hk)).1)
            refine ⟨⟨hbw.mono (Nat.zero_le _), fun e => absurd e (by decide)⟩, hS.trans hbw, ⟨Nat.le_refl _, fun _ => ?_⟩, fun e => absurd e (by decide)⟩
            rw [DkM.fl_app]
            have e7 : DkM.fl [slotV [L, X0, Y0] (.slice au 144 cu)] = [.int .i64 L, .int .i64 X0, .int .i64 Y0, .slice au 144 cu] := by simp [DkM.fl, slotV, PgM.g]
            rw [e7]
            exact hown
          · refine ⟨_, rfl, fun k hk => (by cases hk; exact Pred.waits_near (by kernel_rfl) (by kernel_rfl)), fun b9 X hE hd hn hS hV hI => ?_⟩
            obtain ⟨r92, j92⟩ : PredV.At 0 (.pointer (some ⟨qb, 2, none⟩)) (b9.tmps[92]?.getD undef) X 2 := hV 11 _ 92 rfl rfl (Pred.waits_near (by kernel_rfl) (by kernel_rfl))
            obtain ⟨j90, r90⟩ : PredV.When 2 (fun u y9 => y9.ownsRow X5.heap.size 77 4 u ((rs1).length + 1) (DkM.fl (rs1 ++ [slotV [L, X0, Y0] (.slice au 144 cu)]))) (b9.tmps[90]?.getD undef) X 2 := hV 9 _ 90 rfl rfl (Pred.waits_near (by kernel_rfl) (by kernel_rfl))
            replace hS : (fun y9 => Below X5.heap.size X5 y9) X := hS
            replace hS : Below X5.heap.size X5 X := hS
            have ho9 := r90 rfl
            clear r90
            obtain ⟨u, hu⟩ : ∃ u, b9.tmps[90]?.getD undef = u := ⟨_, rfl⟩
            rw [hu] at ho9
            obtain ⟨a8, c8, rfl, -⟩ := Rd.owns_val ho9
            have hR9 := HR5.out.bel hS
            have z := hR9.c2
            have zf := blk_frozen hR9.p 2
            obtain ⟨q1, q2⟩ := Rp.row (v' := .slice a8 ((rs1).length + 1) c8) (rs' := rs1 ++ [slotV [L, X0, Y0] (.slice au 144 cu)]) (R' := R1 ++ [([L, X0, Y0], b)]) HR5.out hS (by rw [List.length_append, List.length_singleton]; exact owns_mono ho9 hbase5) (fun x hx => (List.mem_append.1 hx).elim (HR5.out.r4 x) (fun hx => by rw [List.mem_singleton.1 hx]; rfl)) (by rw [List.length_append, List.length_append, HR5.out.len]; rfl) (sl_app (HR5.out.sl.bel hS) HR5.out.len (PoE.owns_below HU5'.out hS) hub5) (p3_app HR5.out.p3 rfl)
            refine yields_skip (w' := X.setCell ⟨qb, 2, none⟩ (.slice a8 ((rs1).length + 1) c8)) (Pred.wanted_none rfl) (by clear hS hI hV hn ho9 hR9 q1 q2; go_simp) ⟨⟨below_zero q2, fun e => absurd e (by decide)⟩, ⟨_, q1, gq_below2 hS q2⟩, ⟨rfl, Nat.zero_le _⟩, fun e => absurd e (by decide)⟩
        intro v X hE hS hv
        replace hS : (fun y9 => ∃ v', Rp y9 base qb n d v' (rs1 ++ [slotV [L, X0, Y0] (.slice au 144 cu)]) (R1 ++ [([L, X0, Y0], b)]) ∧ X5.grownBy y9 (some qb)) X := hS
        have e0 : v 0 = .pointer (some ⟨qb, 0, none⟩) := (hv 0 _ 81 rfl rfl).1
        generalize hg1 : v 1 = vv1
        have e2 : v 2 = .pointer (some ⟨qb, 0, none⟩) := (hv 2 _ 83 rfl rfl).1
        have e3 : v 3 = .pointer (some ⟨qb, 0, none⟩) := (hv 3 _ 84 rfl rfl).1
        have e4 : v 4 = .pointer (some ⟨qb, 2, none⟩) := (hv 4 _ 85 rfl rfl).1
        have e5 : v 5 = .slice a4 (rs1).length c4 := (hv 5 _ 86 rfl rfl).1
        generalize hg6 : v 6 = vv6
        have e7 : v 7 = .agg #[.int .i64 L, .int .i64 X0, .int .i64 Y0, .slice au 144 cu] := (hv 7 _ 88 rfl rfl).1
        generalize hg8 : v 8 = vv8
        generalize hg9 : v 9 = vv9
        have e10 : v 10 = .pointer (some ⟨qb, 0, none⟩) := (hv 10 _ 91 rfl rfl).1
        have e11 : v 11 = .pointer (some ⟨qb, 2, none⟩) := (hv 11 _ 92 rfl rfl).1
        simp only [Pred.putsF_cons, Pred.putsF_nil, Nat.zero_add, Nat.reduceAdd, e0, hg1, e2, e3, e4, e5, hg6, e7, hg8, hg9, e10, e11, Act.put, List.setIfInBounds_toArray, List.set_cons_zero, List.set_cons_succ]
        clear e0 hg1 e2 e3 e4 e5 hg6 e7 hg8 hg9 e10 e11 hv
        obtain ⟨v9, h9, g9⟩ := hS
        have HV9 := Lib.hid h9
        have HG9 := Lib.hid g9
        have HG9b := Lib.hid ((g9.block W9.heap.size (blk_lt bG5.out) (fun e => by { injection e with e; have := HGQ.out; omega })).trans bG5.out)
        clear h9 g9 hE
        go_wp2_with fail
        go_ret2
        exact ⟨_, _, _, by rw [EC.out]; rfl, .inr ⟨[y0, y1, y2], _, EG.out, rfl, rfl, HG9b.out⟩, by rw [EP.out]; exact HV9.out, gq_set G5.out HG9.out⟩
end Go.Proofs.Ytkklppjimnkibaa.PoT

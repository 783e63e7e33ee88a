/-
  A map of pages' bytes, by its entries.
-/
import Derived.Test.YtkklppjimnkibaaPoX
import Derived.DeepKeys4
import Derived.Maps.RangeWalk
import Derived.Maps.StringElems
import Derived.WideMake
namespace Go.Proofs.Ytkklppjimnkibaa.PoN
open Go.RowKit Go.Shelf Rd Go.Proofs.Ytkklppjimnkibaa.Row Mid PgM PgA PgB PgC PgN PoM PoA
open Go.Proofs.Ytkklppjimnkibaa.PoD (us us_len By)
open Go.ChangeMaps (setBlock heap_setBlock_same heap_setBlock_other)
open Go.MapKept (Stamped stamped_empty stamped_push stamped_modify stamped_erase)
open Go.ChangeMaps (modify_eq_set)
set_option linter.unusedVariables false
set_option linter.unusedSimpArgs false
set_option maxRecDepth 10000
theorem laid_ok : laidOutB Try.prog = true := by kernel_rfl
theorem row_pg : (35 : TypeId) < Try.prog.types.size := of_decide_eq_true (by kernel_rfl)
theorem wide_pg : (match Try.prog.underlying 35 with | some (.array _ _) | some (.struct _) => true | _ => false) = true := by rw [Try.underlying35]
theorem law_pg : Maps.Keyed Try.prog 35 := Maps.Keyed.of_law (deep_law_laid laid_ok (m := 2) (by omega) row_pg (by kernel_rfl) wide_pg)
def pgV (v : List Int) : Value := .agg (cs .i64 v)
theorem pgV_inj {v v' : List Int} (h : pgV v = pgV v') : v = v' := by
  unfold pgV cs at h
  injection h with h
  have h2 := congrArg Array.toList h
  simp only at h2
  have : ∀ {a b : List Int}, a.map (Value.int .i64) = b.map (Value.int .i64) → a = b := by
    intro a
    induction a with
    | nil => intro b hb; cases b with | nil => rfl | cons y t => cases hb
    | cons x s ih =>
      intro b hb
      cases b with
      | nil => cases hb
      | cons y t =>
        simp only [List.map_cons, List.cons.injEq] at hb
        obtain ⟨h1, h2⟩ := hb
        injection h1 with _ h1
        rw [h1, ih h2]
  exact this h2
/-- a page that may be a key -/
def Kp (v : List Int) : Prop := ∃ kl, keyOf Try.prog 35 (pgV v) = some kl
theorem sz2 : ∃ m, Try.prog.types.size = m + 2 := ⟨Try.prog.types.size - 2, by
  have h : (2 : Nat) ≤ Try.prog.types.size := of_decide_eq_true (by kernel_rfl)
  omega⟩
theorem kp_mk {a b c : Int} (ha : (Lit.int .i64 a).wf = true) (hb : (Lit.int .i64 b).wf = true) (hc : (Lit.int .i64 c).wf = true) : Kp [a, b, c] := by
  obtain ⟨m, hm⟩ := sz2
  have hkt : Try.prog.keyType 35 = true := by kernel_rfl
  have hcl : Try.prog.cellsOf 35 = 3 := by kernel_rfl
  have hc1 : Try.prog.cellsOf 3 = 1 := by kernel_rfl
  refine ⟨.string (keyBytes [.int .i64 a, .int .i64 b, .int .i64 c]), ?_⟩
  unfold keyOf
  simp only [Try.underlying35]
  rw [if_pos (by simp [hkt, Value.formed, Try.underlying35, hcl, pgV, cs]), hm]
  unfold Program.keyLits
  simp only [Try.underlying35, Value.cells, pgV, cs]
  rw [if_pos (by rw [hcl]; exact ⟨rfl, by simp⟩)]
  simp [Program.keyLits, Try.underlying3, hc1, ha, hb, hc]
/-- the map in block mb: f tells each page's bytes; c pages -/
structure Ents (f : List Int → Option (List Int)) (c : Nat) (es : Array MapEntry) (clock : Nat) : Prop where
  st : Stamped es clock
  sz : es.size = c
  sm : c ≤ 1000
  fw : ∀ x ∈ es.toList, ∃ v b, Kp v ∧ x.key = pgV v ∧ x.val = .string (bytesOf b) ∧ f v = some b
  bw : ∀ v b, f v = some b → ∃ x ∈ es.toList, x.key = pgV v ∧ x.val = .string (bytesOf b)
def Mq (X : World) (mb : Nat) (f : List Int → Option (List Int)) (c : Nat) : Prop := ∃ es clock, X.heap[mb]? = some (.map es clock) ∧ Ents f c es clock
variable {X Y : World} {mb c : Nat} {f : List Int → Option (List Int)}
theorem Mq.same (h : Mq X mb f c) (e : Y.heap[mb]? = X.heap[mb]?) : Mq Y mb f c := by
  obtain ⟨es, clock, hb, he⟩ := h
  exact ⟨es, clock, e.trans hb, he⟩
theorem Mq.lt (h : Mq X mb f c) : mb < X.heap.size := by
  obtain ⟨es, clock, hb, he⟩ := h
  exact It.get_lt hb
theorem Mq.bel (h : Mq X mb f c) (hb : Below X.heap.size X Y) : Mq Y mb f c := h.same (hb.block mb h.lt)
theorem Mq.not (h : Mq X mb f c) {k : Nat} {cc : Array Value} {t : Nat} {fr : Nat × Nat} (hk : X.heap[k]? = some (.cells cc t fr)) : k ≠ mb := by
  rintro rfl
  obtain ⟨es, clock, hb, he⟩ := h
  have := hb.symm.trans hk
  simp at this
theorem Ents.keys {es : Array MapEntry} {clock : Nat} (h : Ents f c es clock) : ∀ e ∈ es.toList, ∃ l, keyOf Try.prog 35 e.key = some l := fun e he => by
  obtain ⟨v, b, ⟨kl, hk⟩, h1, -⟩ := h.fw e he
  exact ⟨kl, by rw [h1]; exact hk⟩
theorem Ents.uniq {es : Array MapEntry} {clock : Nat} (h : Ents f c es clock) {x y : MapEntry} (hx : x ∈ es.toList) (hy : y ∈ es.toList) (e : x.key = y.key) : x = y :=
  entry_eq_of_key ((MapKept.stamped_iff es clock).1 h.st).2.2 hx hy e
def upd (f : List Int → Option (List Int)) (g b : List Int) : List Int → Option (List Int) := fun v => if v = g then some b else f v
def del (f : List Int → Option (List Int)) (g : List Int) : List Int → Option (List Int) := fun v => if v = g then none else f v
/-- where a page's entry is -/
theorem Ents.find {es : Array MapEntry} {clock : Nat} (h : Ents f c es clock) (W : World) {g : List Int} (hk : Kp g) :
    ((Instr.findKey 35 (pgV g) es.toList).run Try.prog W = .ok none W ∧ f g = none ∧ ∀ e ∈ es.toList, e.key ≠ pgV g) ∨
    ∃ j e b, (Instr.findKey 35 (pgV g) es.toList).run Try.prog W = .ok (some (j, e.val)) W ∧ es.toList[j]? = some e ∧ e.key = pgV g ∧ e.val = .string (bytesOf b) ∧ f g = some b := by
  obtain ⟨kl, hkl⟩ := hk
  rcases law_pg.find W hkl es.toList h.keys with ⟨h1, h2⟩ | ⟨j, e, h1, h2, h3⟩
  · left
    refine ⟨h1, ?_, h2⟩
    cases hf : f g with
    | none => rfl
    | some b =>
      obtain ⟨x, hx, h4, -⟩ := h.bw g b hf
      exact absurd h4 (h2 x hx)
  · right
    obtain ⟨v, b, -, h4, h5, h6⟩ := h.fw e (List.mem_of_getElem? h2)
    obtain rfl : v = g := pgV_inj (h4.symm.trans h3)
    exact ⟨j, e, b, h1, h2, h3, h5, h6⟩
theorem mq_made (W : World) : Mq (W.alloc (.map #[] 0)) W.heap.size (fun _ => none) 0 :=
  ⟨#[], 0, (MapKept.heap_alloc W _).1, ⟨stamped_empty 0, rfl, by decide, fun x hx => (by simp at hx), fun v b h => (by cases h)⟩⟩
/-- m[g] -/
theorem Mq.look (h : Mq X mb f c) {g b : List Int} (hk : Kp g) (hf : f g = some b) :
    (Instr.lookup 55 (.map (some mb)) (pgV g) false).run Try.prog X = .ok (.string (bytesOf b)) X := by
  obtain ⟨es, clock, hb, he⟩ := h
  obtain ⟨kl, hkl⟩ := id hk
  rcases he.find X hk with ⟨h1, h2, -⟩ | ⟨j, e, b', h1, h2, h3, h4, h5⟩
  · rw [h2] at hf; cases hf
  · rw [hf] at h5
    injection h5 with h5
    subst h5
    simp [Instr.lookup, run_underlying Try.underlying55, MapKept.run_getObj_map hb, law_pg.check X _ hkl, h1, Result.andThen, h4]
/-- m[g] = b -/
theorem Mq.store (h : Mq X mb f c) {g b : List Int} (hk : Kp g) (hc : c < 1000) :
    ∃ X', (Instr.mapUpdate 55 (.map (some mb)) (pgV g) (.string (bytesOf b))).run Try.prog X = .ok () X' ∧ Mq X' mb (upd f g b) (if f g = none then c + 1 else c) ∧ X.grownBy X' (some mb) := by
  obtain ⟨es, clock, hb, he⟩ := h
  obtain ⟨kl, hkl⟩ := id hk
  have hgr : ∀ o, X.grownBy (setBlock X mb o) (some mb) := fun o => ⟨rfl, rfl, rfl, by simp [setBlock], fun i _ hi => heap_setBlock_other hb _ (fun e => hi (by rw [e]))⟩
  rcases he.find X hk with ⟨h1, h2, h3⟩ | ⟨j, e, b', h1, h2, h3, h4, h5⟩
  · refine ⟨setBlock X mb (.map (es.push ⟨pgV g, .string (bytesOf b), clock⟩) (clock + 1)), ?_, ⟨_, _, heap_setBlock_same hb _, ⟨MapKept.stamped_push he.st h3, ?_, ?_, ?_, ?_⟩⟩, hgr _⟩
    · simp [Instr.mapUpdate, run_underlying Try.underlying55, MapKept.run_getObj_map hb, law_pg.check X false hkl, h1, MapKept.run_setObj_map _ hb, Result.andThen, setBlock]
    · rw [if_pos h2, Array.size_push, he.sz]
    · rw [if_pos h2]; omega
    · intro x hx
      simp only [Array.toList_push, List.mem_append, List.mem_singleton] at hx
      rcases hx with hx | rfl
      · obtain ⟨v, b2, k1, k2, k3, k4⟩ := he.fw x hx
        refine ⟨v, b2, k1, k2, k3, ?_⟩
        unfold upd
        rw [if_neg (fun e => h3 x hx (by rw [k2, e]))]
        exact k4
      · exact ⟨g, b, hk, rfl, rfl, if_pos rfl⟩
    · intro v b2 hv
      unfold upd at hv
      split at hv
      · rename_i e
        injection hv with hv
        subst e hv
        exact ⟨⟨pgV _, .string (bytesOf _), clock⟩, by simp, rfl, rfl⟩
      · obtain ⟨x, hx, k1, k2⟩ := he.bw v b2 hv
        exact ⟨x, by simp only [Array.toList_push, List.mem_append]; exact .inl hx, k1, k2⟩
  · have hj : es[j]? = some e := by simpa using h2
    have hlist : (es.modify j (fun e' => { e' with key := pgV g, val := .string (bytesOf b) })).toList = es.toList.set j { e with key := pgV g, val := .string (bytesOf b) } := by rw [Array.toList_modify, modify_eq_set _ _ _ _ h2]
    have hjl : j < es.toList.length := (List.getElem?_eq_some_iff.1 h2).1
    have hel : es.toList[j] = e := (List.getElem?_eq_some_iff.1 h2).2
    refine ⟨setBlock X mb (.map (es.modify j (fun e' => { e' with key := pgV g, val := .string (bytesOf b) })) clock), ?_, ⟨_, _, heap_setBlock_same hb _, ⟨stamped_modify he.st _ _ (fun _ _ => rfl) (fun e' _ he' => ?_), ?_, ?_, ?_, ?_⟩⟩, hgr _⟩
    · simp [Instr.mapUpdate, run_underlying Try.underlying55, MapKept.run_getObj_map hb, law_pg.check X false hkl, h1, hj, h3, law_pg.stays X hkl, MapKept.run_setObj_map _ hb, Result.andThen, setBlock]
    · rw [hj] at he'; cases he'; exact h3.symm
    · rw [if_neg (by rw [h5]; simp), Array.size_modify, he.sz]
    · rw [if_neg (by rw [h5]; simp)]; exact he.sm
    · intro x hx
      rw [hlist] at hx
      obtain ⟨i, hi, ex⟩ := List.getElem_of_mem hx
      rw [List.getElem_set] at ex
      split at ex
      · subst ex
        exact ⟨g, b, hk, rfl, rfl, if_pos rfl⟩
      · rename_i hne
        have hi' : i < es.toList.length := by simpa using hi
        have hx' : x ∈ es.toList := ex ▸ List.getElem_mem hi'
        obtain ⟨v, b2, k1, k2, k3, k4⟩ := he.fw x hx'
        refine ⟨v, b2, k1, k2, k3, ?_⟩
        unfold upd
        rw [if_neg (fun e9 => ?_)]
        · exact k4
        · subst e9
          have hp := ((MapKept.stamped_iff es clock).1 he.st).2.2
          have : es.toList[i] = es.toList[j] := by rw [ex, hel]; exact he.uniq hx' (List.mem_of_getElem? h2) (k2.trans h3.symm)
          rcases Nat.lt_or_ge i j with hlt | hge
          · exact List.pairwise_iff_getElem.1 hp i j hi' hjl hlt (by rw [this])
          · exact List.pairwise_iff_getElem.1 hp j i hjl hi' (by omega) (by rw [this])
    · intro v b2 hv
      unfold upd at hv
      rw [hlist]
      split at hv
      · rename_i e9
        injection hv with hv
        subst e9 hv
        exact ⟨{ e with key := pgV v, val := .string (bytesOf b) }, List.mem_iff_getElem.2 ⟨j, by simpa using hjl, by simp⟩, rfl, rfl⟩
      · rename_i hvg
        obtain ⟨x, hx, k1, k2⟩ := he.bw v b2 hv
        obtain ⟨i, hi, ex⟩ := List.getElem_of_mem hx
        have hij : j ≠ i := fun e9 => by
          subst e9
          rw [hel] at ex
          subst ex
          exact hvg (pgV_inj (k1.symm.trans h3))
        exact ⟨x, List.mem_iff_getElem.2 ⟨i, by simpa using hi, by rw [List.getElem_set, if_neg hij]; exact ex⟩, k1, k2⟩
/-- delete(m, g) -/
theorem Mq.drop (h : Mq X mb f c) {g : List Int} (hk : Kp g) (ty : TypeId) :
    ∃ X', (Builtin.delete_ #[55, 35] ty #[.map (some mb), pgV g]).run Try.prog X = .ok (.tuple #[]) X' ∧ Mq X' mb (del f g) (if f g = none then c else c - 1) ∧ X.grownBy X' (some mb) := by
  obtain ⟨es, clock, hb, he⟩ := h
  obtain ⟨kl, hkl⟩ := id hk
  have hgr : ∀ o, X.grownBy (setBlock X mb o) (some mb) := fun o => ⟨rfl, rfl, rfl, by simp [setBlock], fun i _ hi => heap_setBlock_other hb _ (fun e => hi (by rw [e]))⟩
  rcases he.find X hk with ⟨h1, h2, h3⟩ | ⟨j, e, b', h1, h2, h3, h4, h5⟩
  · refine ⟨setBlock X mb (.map es clock), ?_, ⟨_, _, heap_setBlock_same hb _, ⟨he.st, ?_, ?_, ?_, ?_⟩⟩, hgr _⟩
    · simp [Builtin.delete_, run_underlying Try.underlying55, MapKept.run_getObj_map hb, law_pg.check X _ hkl, h1, MapKept.run_setObj_map _ hb, Result.andThen, setBlock]
    · rw [if_pos h2]; exact he.sz
    · rw [if_pos h2]; exact he.sm
    · intro x hx
      obtain ⟨v, b2, k1, k2, k3, k4⟩ := he.fw x hx
      refine ⟨v, b2, k1, k2, k3, ?_⟩
      unfold del
      rw [if_neg (fun e => h3 x hx (by rw [k2, e]))]
      exact k4
    · intro v b2 hv
      unfold del at hv
      split at hv
      · cases hv
      · exact he.bw v b2 hv
  · have hjl : j < es.toList.length := (List.getElem?_eq_some_iff.1 h2).1
    have hjs : j < es.size := by simpa using hjl
    have hel : es.toList[j] = e := (List.getElem?_eq_some_iff.1 h2).2
    have hsub : (es.eraseIdxIfInBounds j).toList = es.toList.eraseIdx j := by
      unfold Array.eraseIdxIfInBounds
      rw [dif_pos hjs]
      simp
    have hp := ((MapKept.stamped_iff es clock).1 he.st).2.2
    refine ⟨setBlock X mb (.map (es.eraseIdxIfInBounds j) clock), ?_, ⟨_, _, heap_setBlock_same hb _, ⟨MapKept.stamped_erase he.st j, ?_, ?_, ?_, ?_⟩⟩, hgr _⟩
    · simp [Builtin.delete_, run_underlying Try.underlying55, MapKept.run_getObj_map hb, law_pg.check X _ hkl, h1, MapKept.run_setObj_map _ hb, Result.andThen, setBlock]
    · rw [if_neg (by rw [h5]; simp), ← Array.length_toList, hsub, List.length_eraseIdx, if_pos hjl, Array.length_toList, he.sz]
    · rw [if_neg (by rw [h5]; simp)]; have := he.sm; omega
    · intro x hx
      rw [hsub, List.mem_eraseIdx_iff_getElem?] at hx
      obtain ⟨i, hne, hi⟩ := hx
      have hx' := List.mem_of_getElem? hi
      obtain ⟨v, b2, k1, k2, k3, k4⟩ := he.fw x hx'
      refine ⟨v, b2, k1, k2, k3, ?_⟩
      unfold del
      rw [if_neg (fun e9 => ?_)]
      · exact k4
      · subst e9
        obtain ⟨hi', ex⟩ := List.getElem?_eq_some_iff.1 hi
        have : es.toList[i] = es.toList[j] := by rw [ex, hel]; exact he.uniq hx' (List.mem_of_getElem? h2) (k2.trans h3.symm)
        rcases Nat.lt_or_ge i j with hlt | hge
        · exact List.pairwise_iff_getElem.1 hp i j hi' hjl hlt (by rw [this])
        · exact List.pairwise_iff_getElem.1 hp j i hjl hi' (by omega) (by rw [this])
    · intro v b2 hv
      unfold del at hv
      split at hv
      · cases hv
      · rename_i hvg
        obtain ⟨x, hx, k1, k2⟩ := he.bw v b2 hv
        obtain ⟨i, hi⟩ := List.getElem?_of_mem hx
        refine ⟨x, ?_, k1, k2⟩
        rw [hsub, List.mem_eraseIdx_iff_getElem?]
        refine ⟨i, fun e9 => ?_, hi⟩
        subst e9
        rw [h2] at hi
        injection hi with hi
        subst hi
        exact hvg (pgV_inj (k1.symm.trans h3))
/-! at the operations -/
variable {ops : Array Oper} {rest : List Oper} {o : Oper} {a : Act} {Q : Exit → Act → World → Prop}
theorem wp_store (hgd : o.guard = none) (m x v : Operand) (ho : o.op = .mapUpdate 55 m x v ∨ o.op = .insert 55 m x v) (h : Mq X mb f c) {g b : List Int} (hm : a.eval m = .map (some mb)) (hx : a.eval x = pgV g) (hv : a.eval v = .string (bytesOf b)) (hk : Kp g) (hc : c < 1000)
    (k : ∀ X', Mq X' mb (upd f g b) (if f g = none then c + 1 else c) → X.grownBy X' (some mb) → wpList Try.prog ops Q rest (a.put o.dst undef) X') : wpList Try.prog ops Q (o :: rest) a X := by
  refine wpList_plain hgd fun K' hK' => ?_
  obtain ⟨X', hrun, r1, r2⟩ := h.store (b := b) hk hc
  unfold Oper.wp
  rcases ho with ho | ho
  · simp [execOp, ho, hm, hx, hv, hrun, Result.andThen]
    exact hK' _ _ (k X' r1 r2)
  · simp [execOp, ho, hm, hx, hv, hrun, Result.andThen]
    exact hK' _ _ (k X' r1 r2)
theorem wp_drop (hgd : o.guard = none) (m x : Operand) (ho : o.op = .call { callee := .builtin .delete, args := #[m, x], argTypes := #[55, 35] }) (h : Mq X mb f c) {g : List Int} (hm : a.eval m = .map (some mb)) (hx : a.eval x = pgV g) (hk : Kp g)
    (k : ∀ X', Mq X' mb (del f g) (if f g = none then c else c - 1) → X.grownBy X' (some mb) → wpList Try.prog ops Q rest (a.put o.dst (.tuple #[])) X') : wpList Try.prog ops Q (o :: rest) a X := by
  refine wpList_plain hgd fun K' hK' => ?_
  obtain ⟨X', hrun, r1, r2⟩ := h.drop hk o.type
  unfold Oper.wp
  simp [execOp, ho, resolve, invoke, builtin, hm, hx, hrun, Result.andThen]
  exact hK' _ _ (k X' r1 r2)
theorem Mq.len (h : Mq X mb f c) (ty : TypeId) : (Builtin.len_ #[55] ty #[.map (some mb)]).run Try.prog X = .ok (.int .i64 (c : Int)) X := by
  obtain ⟨es, clock, hb, he⟩ := h
  simp [Builtin.len_, run_underlying Try.underlying55, MapKept.run_getObj_map hb, Result.andThen, he.sz, goInt]
/-! range -/
def Rg (X : World) (mb rr : Nat) (f : List Int → Option (List Int)) (c cnt : Nat) : Prop :=
  ∃ es clock since seen c0, X.heap[mb]? = some (.map es clock) ∧ Ents f c es clock ∧ X.heap[rr]? = some (.mapIter (some mb) since seen c0) ∧ (∀ x ∈ es.toList, x.born < since) ∧ (leftOf es seen).size = cnt ∧ since ≤ c0 ∧ since ≤ clock
variable {rr cnt : Nat}
theorem Rg.lt (h : Rg X mb rr f c cnt) : mb < X.heap.size ∧ rr < X.heap.size := by
  obtain ⟨es, clock, since, seen, c0, h1, h2, h3, h4⟩ := h
  exact ⟨It.get_lt h1, It.get_lt h3⟩
theorem Rg.bel (h : Rg X mb rr f c cnt) (hb : Below X.heap.size X Y) : Rg Y mb rr f c cnt := by
  obtain ⟨l1, l2⟩ := h.lt
  obtain ⟨es, clock, since, seen, c0, h1, h2, h3, h4⟩ := h
  exact ⟨es, clock, since, seen, c0, (hb.block mb l1).trans h1, h2, (hb.block rr l2).trans h3, h4⟩
theorem Rg.left (h : Rg X mb rr f c cnt) : X.rangeLeft mb rr = cnt := by
  obtain ⟨es, clock, since, seen, c0, h1, h2, h3, h4, h5, h6⟩ := h
  simp only [World.rangeLeft, h1, h3]
  exact h5
theorem wp_range (hgd : o.guard = none) (m : Operand) (ho : o.op = .range 55 m) (h : Mq X mb f c) (hm : a.eval m = .map (some mb))
    (k : ∀ X', Rg X' mb X.heap.size f c c → Below X.heap.size X X' → wpList Try.prog ops Q rest (a.put o.dst (.pointer (some ⟨X.heap.size, 0, none⟩))) X') : wpList Try.prog ops Q (o :: rest) a X := by
  refine wpList_plain hgd fun K' hK' => ?_
  have hlt := h.lt
  obtain ⟨es, clock, hb, he⟩ := h
  have hrun := run_range_map X 55 35 9 mb es clock Try.underlying55 hb
  unfold Oper.wp
  simp [execOp, ho, hm, hrun, Result.andThen]
  refine hK' _ _ (k _ ⟨es, clock, clock, #[], clock, ((MapKept.heap_alloc X _).2 mb hlt).trans hb, he, (MapKept.heap_alloc X _).1, he.st.1, ?_, Nat.le_refl _, Nat.le_refl _⟩ ?_)
  · rw [← he.sz]
    simp [leftOf]
  · exact (Below.refl _ _).alloc (Nat.le_refl _) _
theorem wp_next (hgd : o.guard = none) (it : Operand) (ho : o.op = .next it false) (hit : a.eval it = .pointer (some ⟨rr, 0, none⟩)) (h : Rg X mb rr f c cnt)
    (hD : cnt = 0 → wpList Try.prog ops Q rest (a.put o.dst (.tuple #[.bool false])) X)
    (hM : ∀ v b X' cnt', f v = some b → Kp v → Rg X' mb rr f c cnt' → cnt' < cnt → X.grownBy X' (some rr) → (Instr.entry (.pointer (some ⟨rr, 0, none⟩))).run Try.prog X' = .ok (.tuple #[pgV v, .string (bytesOf b)]) X' → wpList Try.prog ops Q rest (a.put o.dst (.tuple #[.bool true, pgV v, .string (bytesOf b)])) X') :
    wpList Try.prog ops Q (o :: rest) a X := by
  refine wpList_plain hgd fun K' hK' => ?_
  obtain ⟨es, clock, since, seen, c0, hb, he, hr, hold, hcnt, hs1, hs2⟩ := h
  unfold Oper.wp
  rcases run_next_at (P := Try.prog) X o.type rr mb since c0 seen es clock hr hb hold hs1 with ⟨h0, hrun⟩ | ⟨e, hle, w1, hal, hrun⟩
  · simp [execOp, ho, hit, hrun, Result.andThen]
    exact hK' _ _ (hD (hcnt ▸ h0))
  · obtain ⟨hem, hes⟩ := mem_left hle
    obtain ⟨v, b, k1, k2, k3, k4⟩ := he.fw e hem
    have hne : rr ≠ mb := fun e9 => by
      subst e9
      have := hb.symm.trans hr
      simp at this
    have hr1 : w1.heap[rr]? = some (.mapIter (some mb) since seen c0) := by rcases hal with rfl | rfl <;> exact hr
    have hb1 : w1.heap[mb]? = some (.map es clock) := by rcases hal with rfl | rfl <;> exact hb
    have hset := MapKept.heap_set (o' := .mapIter (some mb) since (seen.push e.born) clock) hr1
    have hb' : (setBlock w1 rr (.mapIter (some mb) since (seen.push e.born) clock)).heap[mb]? = some (.map es clock) := (hset.2 mb (fun e1 => hne e1.symm)).trans hb1
    rw [k2, k3] at hrun
    have hen := run_entry_at (P := Try.prog) _ rr mb since seen es clock e hset.1 hb' hem ((MapKept.stamped_iff es clock).1 he.st).2.1
    rw [k2, k3] at hen
    simp [execOp, ho, hit, hrun, Result.andThen]
    refine hK' _ _ (hM v b _ _ k4 k1 ⟨es, clock, since, seen.push e.born, clock, hb', he, hset.1, hold, rfl, hs2, hs2⟩ ?_ ?_ hen)
    · rw [← hcnt]; exact left_shrinks es seen e hle
    · rcases hal with rfl | rfl <;> exact ⟨rfl, rfl, rfl, by simp [setBlock], fun i _ hi => hset.2 i (fun e1 => hi (by rw [e1]))⟩
end Go.Proofs.Ytkklppjimnkibaa.PoN

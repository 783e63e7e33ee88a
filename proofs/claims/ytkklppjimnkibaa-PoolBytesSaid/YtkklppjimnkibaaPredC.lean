/-
  append in a region that draws its order: a row of one's own that is added to again and again, beside calls that lay blocks.
-/
import Derived.Test.YtkklppjimnkibaaPred
import Derived.Test.YtkklppjimnkibaaOctA
namespace Go.Proofs.Ytkklppjimnkibaa.PredC
open Go.RowKit Rd Reg Alc Go.Proofs.Ytkklppjimnkibaa.Row
open OctA (below_grownBy)
open Go.Proofs.Ytkklppjimnkibaa.Pred (yields wpOp_of_yields dsts predB waits_more waits_near backB all_listed wanted_none wanted_at yields_run yields_call yields_not putsF putsF_size putsF_defers putsF_at)
set_option linter.unusedVariables false
set_option linter.unusedSimpArgs false

section
variable {P : Program}
/-- append to a row of one's own: where it lies then -/
theorem run_append_own2 (w : World) (base : Nat) (t ty e : TypeId) (i : TypeInfo) (z : Value) (size bytes : Nat) (ht : P.underlying t = some (.slice e)) (hi : P.info? e = some i) (hz : i.zero = some z)
    (hsize : i.size = size) (hby : i.bytes = bytes) (hzs : z.cells.size = size) (hsz : 0 < size)
    (v : Value) (n : Nat) (xs : List Value) (hown : w.ownsRow base e size v n xs)
    (a : Addr) (m c : Nat) (news : List Value) (hl : news.length = m * size) (hm : 0 < m) (hnews : ∀ j u, news[j]? = some u → w.cell? (a.add j) = some u) (h1 : ∀ u ∈ news, u.oneCell' = true)
    (h63 : n + m ≤ maxLen) (hbytes : (n + m) * bytes ≤ 140737488355328) (hbase : base ≤ w.heap.size) :
    ∃ v' w', (Builtin.append_ #[t, t] ty #[v, .slice (some a) m c]).run P w = .ok v' w' ∧ w'.ownsRow base e size v' (n + m) (xs ++ news) ∧ w.grownBy w' v.ownBlock ∧ (v'.ownBlock = v.ownBlock ∨ v'.ownBlock = some w.heap.size) := by
  subst hsize
  subst hby
  have hsmall : n + m ≤ 9223372036854775807 := by simp only [maxLen] at h63; omega
  have hlen : (xs ++ news).length = (n + m) * i.size := by rw [List.length_append, hown.1, hl, Nat.add_mul]
  have grown : ∀ (old : Nat), old < n + m → ∀ (row : Option Nat),
      (w.drew.alloc (.cells (xs.toArray ++ news.toArray ++ Builtin.zeroCells z.cells (grownCap w (n + m) old e - (n + m))) e)).ownsRow base e i.size
        (.slice (some ⟨w.heap.size, 0, none⟩) (n + m) (grownCap w (n + m) old e)) (n + m) (xs ++ news) ∧
      w.grownBy (w.drew.alloc (.cells (xs.toArray ++ news.toArray ++ Builtin.zeroCells z.cells (grownCap w (n + m) old e - (n + m))) e)) row := by
    intro old ho row
    have hge := grownCap_ge w (n + m) old e
    have hcm : grownCap w (n + m) old e ≤ maxLen := grownCap_le_maxLen w (n + m) old e h63
    refine ⟨⟨hlen, .inr ⟨w.heap.size, _, _, rfl, hbase, heap_alloc_new w.drew _, hge, hcm, ?_, ?_⟩⟩, ⟨rfl, rfl, rfl, by simp, fun k hk _ => Below.heap_alloc w.drew _ k hk⟩⟩
    · simp only [Array.size_append, List.size_toArray, size_zeroCells, hzs, hown.1, hl, ← Nat.add_mul]
      congr 1
      omega
    · simp only [Array.toList_append, List.append_assoc]
      rw [← List.append_assoc, ← hlen]
      exact List.take_left
  rcases hown.2 with ⟨rfl, rfl⟩ | ⟨g, cap, cur, rfl, hbg, hg, hnc, hcm, hcs, htake⟩
  · have hx : xs = [] := List.eq_nil_of_length_eq_zero (by simpa using hown.1)
    subst hx
    have hr := run_append_nil (P := P) w t ty e i z ht hi hz a m c news hl hnews (by omega) (by omega) (by have hb := hbytes; simp only [Nat.zero_add] at hb; omega)
    have hgr := grown 0 (by omega) (Value.ownBlock (.slice none 0 0))
    simp only [Nat.zero_add, List.nil_append, Array.empty_append] at hgr ⊢
    exact ⟨_, _, hr, hgr.1, hgr.2, .inr rfl⟩
  · by_cases hroom : n + m ≤ cap
    · have hfit : n * i.size + news.length ≤ cur.size := by rw [hl, hcs, ← Nat.add_mul]; exact Nat.mul_le_mul_right _ hroom
      have hr := run_append_room (P := P) w t ty e i ht hi g n cap cur hg a m c news hl hnews h1 hroom hfit
      refine ⟨_, _, hr, ⟨hlen, .inr ⟨g, cap, _, rfl, hbg, setRow_heap w g cur _ e _ hg, hroom, hcm, ?_, ?_⟩⟩, ⟨rfl, rfl, rfl, by simp, fun k _ hk => heap_setRow_other w g k _ (fun e => hk (by simp [Value.ownBlock, e]))⟩, .inl rfl⟩
      · simp only [List.size_toArray, List.length_append, List.length_take, List.length_drop, Array.length_toList]
        omega
      · rw [htake, ← hlen]
        exact List.take_left
    · have holds : ∀ j u, xs[j]? = some u → w.cell? ((⟨g, 0, none⟩ : Addr).add j) = some u := hown.cells (g := g) rfl
      have hr := run_append_grow (P := P) w t ty e i z ht hi hz ⟨g, 0, none⟩ n cap xs hown.1 holds a m c news hl hnews (by omega) (by omega) (growslice_fits (by omega) hbytes)
      have hgr := grown cap (by omega) (Value.ownBlock (.slice (some ⟨g, 0, none⟩) n cap))
      exact ⟨_, _, hr, hgr.1, hgr.2, .inr rfl⟩

theorem zeroCells_u8 (n : Nat) : Builtin.zeroCells #[.int .u8 0] n = (List.replicate n (Value.int .u8 0)).toArray := by
  apply Array.ext
  · simp [Builtin.zeroCells]
  · intro i h1 h2
    simp [Builtin.zeroCells, Nat.mod_one]
/-- append(s, make([]byte, m)...) to a row of one's own -/
theorem run_append_noughts (w : World) (base : Nat) (t ti ty e : TypeId) (i : TypeInfo) (ht : P.underlying t = some (.slice e)) (hti : P.underlying ti = some (.int .i64)) (hi : P.info? e = some i) (hz : i.zero = some (.int .u8 0))
    (hsize : i.size = 1) (hby : i.bytes = 1) (v : Value) (n : Nat) (xs : List Value) (hown : w.ownsRow base e 1 v n xs) (m : Nat) (hn : 0 < n) (hm : 0 < m)
    (h63 : n + m ≤ 1000000) (hbase : base ≤ w.heap.size) :
    ∃ v' w', (Builtin.append_ #[t, ti] ty #[v, .int .i64 (m : Int)]).run P w = .ok v' w' ∧ w'.ownsRow base e 1 v' (n + m) (xs ++ List.replicate m (Value.int .u8 0)) ∧ Below base w w' := by
  have hwr : IntKind.i64.wrap (m : Int) = m := by
    have h0 : (0 : Int) ≤ (m : Int) := by omega
    have h9 : (m : Int) ≤ 1000000 := by omega
    generalize (m : Int) = x at h0 h9 ⊢
    simp only [IntKind.wrap, IntKind.bits, IntKind.signed, Bool.true_and]
    rw [if_neg (by simp; omega)]
    simp
    omega
  have hlen : (xs ++ List.replicate m (Value.int .u8 0)).length = (n + m) * 1 := by rw [List.length_append, hown.1, List.length_replicate]; omega
  have hnn : ¬ ((m : Int) < 0) := by omega
  have has : ∀ w' : World, (asInt (.int .i64 (m : Int))).run P w' = .ok (m : Int) w' := fun _ => rfl
  have hm0 : m ≠ 0 := by omega
  have hm1 : ¬ ((m : Int) ≤ 0) := by omega
  have h48 : ¬ ((m : Int) > 281474976710656) := by omega
  rcases hown.2 with ⟨rfl, rfl⟩ | ⟨g, cap, cur, rfl, hbg, hg, hnc, hcm, hcs, htake⟩
  · omega
  · rw [Nat.mul_one] at hcs
    have hl1 := hown.1
    by_cases hroom : n + m ≤ cap
    · have hst := run_storeCells_at P g n e (List.replicate m (Value.int .u8 0)) 0 cur w hg (by simp; omega) (by intro u hu; rw [List.eq_of_mem_replicate hu]; rfl)
      simp only [Nat.add_zero] at hst
      refine ⟨.slice (some ⟨g, 0, none⟩) (n + m) cap, w.setRow g (cur.toList.take n ++ List.replicate m (Value.int .u8 0) ++ cur.toList.drop (n + (List.replicate m (Value.int .u8 0)).length)).toArray, ?_, ⟨hlen, .inr ⟨g, cap, _, rfl, hbg, setRow_heap w g cur _ e _ hg, hroom, hcm, ?_, ?_⟩⟩, below_setRow (Below.refl _ _) hbg _⟩
      · simp [Builtin.append_, run_underlying ht, run_underlying hti, sizeOf, typeInfo, zeroValue, hi, hz, hsize, hby, has, hwr, hroom, hnn, h48, hm0, hm1, zeroCells_u8, Value.cells, Addr.add_lit, hst]
      · simp only [List.size_toArray, List.length_append, List.length_take, List.length_drop, Array.length_toList, List.length_replicate]
        omega
      · rw [Nat.mul_one] at htake
        rw [htake, ← hlen]
        exact List.take_left
    · have hge := grownCap_ge w (n + m) cap e
      have hcm' : grownCap w (n + m) cap e ≤ maxLen := grownCap_le_maxLen w (n + m) cap e (by unfold maxLen; omega)
      have holds : ∀ j u, xs[j]? = some u → w.cell? ((⟨g, 0, none⟩ : Addr).add j) = some u := hown.cells (g := g) rfl
      have hfo := run_firstCells_some (P := P) w.drew 1 n ⟨g, 0, none⟩ n cap xs hown.1 (by simpa using holds)
      have h63' : ¬ (9223372036854775807 < ((n : Int) + (m : Int))) := by omega
      have hfit := growslice_fits (need := n + m) (old := cap) (bytes := 1) (by omega) (by omega)
      have h48' : ¬ (281474976710656 < Builtin.nextslicecap (n + m) cap) := by omega
      refine ⟨.slice (some ⟨w.heap.size, 0, none⟩) (n + m) (grownCap w (n + m) cap e), w.drew.alloc (.cells (xs.toArray ++ (List.replicate m (Value.int .u8 0)).toArray ++ Builtin.zeroCells #[.int .u8 0] (grownCap w (n + m) cap e - (n + m))) e), ?_, ⟨hlen, .inr ⟨w.heap.size, _, _, rfl, hbase, heap_alloc_new w.drew _, hge, hcm', ?_, ?_⟩⟩, ⟨rfl, rfl, rfl, by simp, fun k hk => Below.heap_alloc w.drew _ k (by show k < w.heap.size; omega)⟩⟩
      · simp [Builtin.append_, run_underlying ht, run_underlying hti, sizeOf, typeInfo, zeroValue, hi, hz, hsize, hby, has, hwr, hroom, hnn, h48, hm0, hm1, zeroCells_u8, Value.cells, h63', h48', Question.forced, hfo, newRow, grownCap]
      · simp only [Array.size_append, List.size_toArray, size_zeroCells, hl1, List.length_replicate]
        simp
        omega
      · simp only [Array.toList_append, List.append_assoc]
        rw [← List.append_assoc, ← hlen]
        exact List.take_left

/-- what any step may do: G the block of the row that is added to -/
def Step (B : Nat) (G G' : Option Nat) (w w' : World) : Prop := Below B w w' ∧ (∀ (k : Nat) (c : Array Value) (t : TypeId) (fr : Nat × Nat), w.heap[k]? = some (.cells c t fr) → some k ≠ G → ∃ fr', w'.heap[k]? = some (.cells c t fr')) ∧ (G' = G ∨ ∃ g', G' = some g' ∧ w.heap.size ≤ g')
/-- what an operation may do that adds to no row -/
def Ext (B : Nat) (G : Option Nat) (w w' : World) : Prop := Step B G G w w' ∧ ∀ k, some k = G → w'.heap[k]? = w.heap[k]?
theorem ext_refl (B : Nat) (G : Option Nat) (w : World) : Ext B G w w := ⟨⟨Below.refl _ _, fun k c t fr h _ => ⟨fr, h⟩, .inl rfl⟩, fun _ _ => rfl⟩
theorem heap_lt {w : World} {k : Nat} {o : Obj} (hk : w.heap[k]? = some o) : k < w.heap.size := by
  rcases Nat.lt_or_ge k w.heap.size with h | h
  · exact h
  · rw [Array.getElem?_eq_none h] at hk; cases hk
theorem ext_below {B : Nat} {G : Option Nat} {w w' : World} (h : Below w.heap.size w w') (hB : B ≤ w.heap.size) (hG : ∀ g, G = some g → g < w.heap.size) : Ext B G w w' :=
  ⟨⟨h.mono hB, fun k c t fr hk _ => ⟨fr, (h.block k (heap_lt hk)).trans hk⟩, .inl rfl⟩, fun k hk => h.block k (hG k hk.symm)⟩

section
variable {W : World}
def known (ch : List Nat) (ops : Array Oper) (V : Nat → Value → World → Option Nat → Prop) (i : Nat) (b : Act) (w : World) (G : Option Nat) : Prop :=
  ∀ k o' d, ops[k]? = some o' → o'.dst = some d → ch.contains k = false → waits .any ops ops.size i k = true → V k (b.tmps[d]?.getD undef) w G
/-- a slot that is filled later, by what waits for this one, bears what it bore ahead -/
def early (a : Act) (ops : Array Oper) (i : Nat) (b : Act) : Prop := ∀ j o' d, ops[j]? = some o' → o'.dst = some d → waits .any ops ops.size j i = true → b.tmps[d]?.getD undef = a.tmps[d]?.getD undef
def opOK (P : Program) (W : World) (B : Nat) (ch : List Nat) (a : Act) (ops : Array Oper) (V : Nat → Value → World → Option Nat → Prop) (i : Nat) (o : Oper) : Prop :=
  ∀ (b : Act) (w : World) (G : Option Nat), Below B W w → b.defers = a.defers → (∀ t, (dsts ops).contains t = false → b.tmps[t]?.getD undef = a.tmps[t]?.getD undef) → (∀ g, G = some g → g < w.heap.size) →
    known ch ops V i b w G → early a ops i b → yields P ops o b w fun v w' => Ext B G w w' ∧ V i v w' G
def opsOK (P : Program) (W : World) (B : Nat) (ch : List Nat) (a : Act) (ops : Array Oper) (V : Nat → Value → World → Option Nat → Prop) : Nat → List Oper → Prop
  | _, [] => True
  | i, o :: os => (ch.contains i = true ∨ opOK P W B ch a ops V i o) ∧ opsOK P W B ch a ops V (i + 1) os
theorem opsOK_at {B : Nat} {ch : List Nat} {a : Act} {ops : Array Oper} {V : Nat → Value → World → Option Nat → Prop} : ∀ (l : List Oper) (i : Nat), opsOK P W B ch a ops V i l → ∀ j o, l[j]? = some o → ch.contains (i + j) = true ∨ opOK P W B ch a ops V (i + j) o
  | [], _, _, j, o, hj => by simp at hj
  | x :: l, i, h, 0, o, hj => by simp at hj; subst hj; exact h.1
  | x :: l, i, h, j + 1, o, hj => by
    have := opsOK_at l (i + 1) h.2 j o (by simpa using hj)
    rwa [show i + 1 + j = i + (j + 1) by omega] at this
/-- what the row that is added to is: C0 ahead of the first of these operations -/
def fact (ops : Array Oper) (V : Nat → Value → World → Option Nat → Prop) (C0 : World → Option Nat → Prop) (b : Act) (w : World) (G : Option Nat) : Option Nat → Prop
  | none => C0 w G
  | some k => ∀ o' d, ops[k]? = some o' → o'.dst = some d → V k (b.tmps[d]?.getD undef) w G
/-- one that adds -/
def addOK (P : Program) (W : World) (B : Nat) (ch : List Nat) (a : Act) (ops : Array Oper) (V : Nat → Value → World → Option Nat → Prop) (C0 : World → Option Nat → Prop) (prev : Option Nat) (i : Nat) : Prop :=
  ∃ o, ops[i]? = some o ∧ (∀ k, prev = some k → waits .any ops ops.size i k = true) ∧ ∀ (b : Act) (w : World) (G : Option Nat), Below B W w → b.defers = a.defers → (∀ t, (dsts ops).contains t = false → b.tmps[t]?.getD undef = a.tmps[t]?.getD undef) → (∀ g, G = some g → g < w.heap.size) →
    known ch ops V i b w G → early a ops i b → fact ops V C0 b w G prev → yields P ops o b w fun v w' => ∃ G', Step B G G' w w' ∧ (∀ g, G' = some g → g < w'.heap.size) ∧ V i v w' G'
def addsOK (P : Program) (W : World) (B : Nat) (ch : List Nat) (a : Act) (ops : Array Oper) (V : Nat → Value → World → Option Nat → Prop) (C0 : World → Option Nat → Prop) : Option Nat → List Nat → Prop
  | _, [] => True
  | prev, c :: l => addOK P W B ch a ops V C0 prev c ∧ addsOK P W B ch a ops V C0 (some c) l
/-- the last of them that is listed -/
def cur (listed : Array Bool) : Option Nat → List Nat → Option Nat
  | prev, [] => prev
  | prev, c :: l => if listed.getD c false = true then cur listed (some c) l else prev
def depsOf (ops : Array Oper) (listed : Array Bool) (c : Nat) : Prop := ∀ o, ops[c]? = some o → ∀ e ∈ o.after, Region.binds .any e = true → listed.getD e.on false = true

theorem head_listed {B : Nat} {ch : List Nat} {a : Act} {ops : Array Oper} {V : Nat → Value → World → Option Nat → Prop} {C0 : World → Option Nat → Prop} {listed : Array Bool} (inv : Closed .any ops listed) :
    ∀ (l : List Nat) (prev : Option Nat) (x : Nat), addsOK P W B ch a ops V C0 prev (x :: l) → ∀ c ∈ x :: l, (listed.getD c false = true ∨ depsOf ops listed c) → x = c ∨ listed.getD x false = true
  | [], _, x, h, c, hc, hd => .inl (List.mem_singleton.1 hc).symm
  | y :: l, prev, x, h, c, hc, hd => by
    rcases List.mem_cons.1 hc with rfl | hc
    · exact .inl rfl
    · have hy := head_listed inv l (some x) y h.2 c hc hd
      have hdy : depsOf ops listed y := by
        rcases hy with rfl | hy
        · rcases hd with hd | hd
          · exact fun o ho => inv.closed _ o ho hd
          · exact hd
        · exact fun o ho => inv.closed _ o ho hy
      obtain ⟨o, ho, hw, -⟩ := h.2.1
      exact .inr (waits_spec inv _ _ (hw x rfl) hdy)
theorem tail_not {B : Nat} {ch : List Nat} {a : Act} {ops : Array Oper} {V : Nat → Value → World → Option Nat → Prop} {C0 : World → Option Nat → Prop} {listed : Array Bool} (inv : Closed .any ops listed) (l : List Nat) (prev : Option Nat) (x : Nat)
    (h : addsOK P W B ch a ops V C0 prev (x :: l)) (hx : listed.getD x false = false) (c : Nat) (hc : c ∈ l) (hne : c ≠ x) : listed.getD c false = false := by
  cases e : listed.getD c false with
  | false => rfl
  | true =>
    rcases head_listed inv l prev x h c (by simp [hc]) (.inl e) with h1 | h1
    · exact absurd h1.symm hne
    · rw [hx] at h1; cases h1
theorem cur_set {B : Nat} {ch : List Nat} {a : Act} {ops : Array Oper} {V : Nat → Value → World → Option Nat → Prop} {C0 : World → Option Nat → Prop} {listed : Array Bool} (inv : Closed .any ops listed) {c : Nat} (hc0 : listed.getD c false = false) (hcl : c < listed.size) (hd : depsOf ops listed c) :
    ∀ (l : List Nat) (prev : Option Nat), l.Nodup → addsOK P W B ch a ops V C0 prev l → c ∈ l → addOK P W B ch a ops V C0 (cur listed prev l) c ∧ cur (listed.setIfInBounds c true) prev l = some c
  | [], _, _, _, hc => by cases hc
  | x :: l, prev, hnd, h, hc => by
    by_cases hx : x = c
    · subst hx
      have h1 : (listed.setIfInBounds x true).getD x false = true := by simp [hcl]
      refine ⟨by unfold cur; rw [if_neg (by rw [hc0]; decide)]; exact h.1, ?_⟩
      unfold cur
      rw [if_pos h1]
      cases l with
      | nil => rfl
      | cons y l =>
        have hyx : y ≠ x := fun e => by simp [e] at hnd
        have h2 := tail_not inv (y :: l) prev x h hc0 y (by simp) hyx
        unfold cur
        rw [if_neg (by rw [getD_set_ne false (Ne.symm hyx), h2]; decide)]
    · have hcl2 : c ∈ l := (List.mem_cons.1 hc).resolve_left (fun e => hx e.symm)
      have hxl : listed.getD x false = true := (head_listed inv l prev x h c hc (.inr hd)).resolve_left hx
      have ih := cur_set inv hc0 hcl hd l (some x) (List.nodup_cons.1 hnd).2 h.2 hcl2
      unfold cur
      rw [if_pos hxl, if_pos (by rw [getD_set_ne false (Ne.symm hx)]; exact hxl)]
      exact ih
theorem cur_other {listed : Array Bool} {i : Nat} : ∀ (l : List Nat) (prev : Option Nat), i ∉ l → cur (listed.setIfInBounds i true) prev l = cur listed prev l
  | [], _, _ => rfl
  | x :: l, prev, h => by
    simp only [List.mem_cons, not_or] at h
    unfold cur
    rw [getD_set_ne false h.1, cur_other l (some x) h.2]
theorem cur_mem {listed : Array Bool} {k : Nat} : ∀ (l : List Nat) (prev : Option Nat), cur listed prev l = some k → prev = some k ∨ (k ∈ l ∧ listed.getD k false = true)
  | [], _, h => .inl h
  | x :: l, prev, h => by
    unfold cur at h
    split at h
    · rename_i hx
      rcases cur_mem l (some x) h with h2 | ⟨h2, h3⟩
      · cases h2; exact .inr ⟨by simp, hx⟩
      · exact .inr ⟨by simp [h2], h3⟩
    · exact .inl h
theorem cur_all {listed : Array Bool} : ∀ (l : List Nat) (prev : Option Nat), (∀ c ∈ l, listed.getD c false = true) → cur listed prev l = (l.getLast?).or prev
  | [], prev, _ => rfl
  | x :: l, prev, h => by
    unfold cur
    rw [if_pos (h x (by simp)), cur_all l (some x) (fun c hc => h c (by simp [hc]))]
    cases l with
    | nil => rfl
    | cons y l => simp [List.getLast?_cons_cons, List.getLast?_eq_some_getLast]
/-- what holds all the while -/
structure Inv (W : World) (B : Nat) (ch : List Nat) (a : Act) (ops : Array Oper) (V : Nat → Value → World → Option Nat → Prop) (C0 : World → Option Nat → Prop) (listed : Array Bool) (b : Act) (w : World) (G : Option Nat) : Prop where
  inv : Closed .any ops listed
  hb : Below B W w
  hd : b.defers = a.defers
  hs : b.tmps.size = a.tmps.size
  hn : ∀ t, t ∉ dsts ops → b.tmps.getD t undef = a.tmps.getD t undef
  hG : ∀ g, G = some g → g < w.heap.size
  hv : ∀ k o' d, ops[k]? = some o' → o'.dst = some d → ch.contains k = false → listed.getD k false = true → V k (b.tmps.getD d undef) w G
  hc : fact ops V C0 b w G (cur listed none ch)
  hi : ∀ j o' d, ops[j]? = some o' → o'.dst = some d → listed.getD j false = false → b.tmps.getD d undef = a.tmps.getD d undef

theorem slot_lt {ops : Array Oper} {n i : Nat} {o : Oper} {d : Nat} (hB : predB ops n = true) (ho : ops[i]? = some o) (hd : o.dst = some d) : d < n := by
  have h1 := List.all_eq_true.1 hB i (List.mem_range.2 (Array.getElem?_eq_some_iff.1 ho).1)
  rw [ho] at h1
  simp only [Bool.and_eq_true, hd, decide_eq_true_eq] at h1
  exact h1.2
theorem slot_ne {ops : Array Oper} {n i k : Nat} {o o' : Oper} {d : Nat} (hB : predB ops n = true) (ho : ops[i]? = some o) (hk : ops[k]? = some o') (hkd : o'.dst = some d) (hik : i ≠ k) : o.dst ≠ some d := by
  intro e
  have h1 := List.all_eq_true.1 hB i (List.mem_range.2 (Array.getElem?_eq_some_iff.1 ho).1)
  rw [ho] at h1
  simp only [Bool.and_eq_true, List.all_eq_true, List.mem_range] at h1
  have h2 := h1.1 k (Array.getElem?_eq_some_iff.1 hk).1
  rw [hk] at h2
  simp only [hkd, e, Bool.or_eq_true, beq_iff_eq, Bool.and_eq_true, bne_self_eq_false] at h2
  rcases h2 with h2 | h2
  · exact hik h2.symm
  · simp at h2

theorem region_chain {id : Nat} {Q : Exit → Act → World → Prop} {a : Act} {l : List Oper} (B : Nat) (hBW : B ≤ W.heap.size) (ch : List Nat) (G0 : Option Nat) (V : Nat → Value → World → Option Nat → Prop) (C0 : World → Option Nat → Prop)
    (hm : P.follows .mixedOrders = true) (hB : predB l.toArray a.tmps.size = true) (hK : backB l.toArray = true) (hnd : ch.Nodup)
    (hst : ∀ i v w w' G G', ch.contains i = false → V i v w G → Step B G G' w w' → (∀ g, G' = some g → g < w'.heap.size) → V i v w' G')
    (hsc : ∀ i v w w' G, ch.contains i = true → V i v w G → Ext B G w w' → V i v w' G) (hs0 : ∀ w w' G, C0 w G → Ext B G w w' → C0 w' G) (hW0 : C0 W G0) (hG0 : ∀ g, G0 = some g → g < W.heap.size)
    (hop : opsOK P W B ch a l.toArray V 0 l) (hso : addsOK P W B ch a l.toArray V C0 none ch)
    (hend : ∀ (listed : Array Bool) (b : Act) (w : World) (G : Option Nat), (∀ k, k < l.toArray.size → listed.getD k false = true) → Inv W B ch a l.toArray V C0 listed b w G → Q .normal b w) :
    (Code.region id l.toArray true).wp P Q a W := by
  have drew : Ext B G0 W W.drew := ⟨⟨⟨rfl, rfl, rfl, Nat.le_refl _, fun _ _ => rfl⟩, fun k c t fr h _ => ⟨fr, h⟩, .inl rfl⟩, fun _ _ => rfl⟩
  refine RegInv.region_inv hm (fun listed b w => ∃ G, Inv W B ch a l.toArray V C0 listed b w G) ?_ ?_ ?_
  · refine ⟨G0, ⟨by simp, fun j oj _ hl => (by rw [getD_replicate_false] at hl; cases hl)⟩, drew.1.1, rfl, rfl, fun t _ => rfl, hG0, fun k o' d _ _ _ hl => ?_, ?_, fun _ _ _ _ _ _ => rfl⟩
    · rw [getD_replicate_false] at hl; cases hl
    · have : cur (Array.replicate l.toArray.size false) none ch = none := by
        cases ch with
        | nil => rfl
        | cons c ch => unfold cur; rw [if_neg (by rw [getD_replicate_false]; decide)]
      rw [this]
      exact hs0 _ _ _ hW0 drew
  · intro listed b w ⟨G, h⟩ hr
    exact hend listed b w G (all_listed hK h.inv hr) h
  · intro listed b w i ⟨G, h⟩ hi
    obtain ⟨hun, o, ho, hall⟩ := mem_ready.1 hi
    have ho' : l[i]? = some o := by simpa using ho
    have hil : i < listed.size := by rw [h.inv.size]; exact (Array.getElem?_eq_some_iff.1 ho).1
    have hun' : listed.getD i false = false := by
      simp [hil] at hun ⊢
      exact hun
    have hdeps : depsOf l.toArray listed i := fun o2 ho2 => by rw [ho] at ho2; cases ho2; exact hall
    have hkn : known ch l.toArray V i b w G := fun k o' d hk hkd hka hwt => by
      simpa using h.hv k o' d hk hkd hka (waits_spec h.inv l.toArray.size i hwt hdeps)
    have hn' : ∀ t, (dsts l.toArray).contains t = false → b.tmps[t]?.getD undef = a.tmps[t]?.getD undef := fun t ht => by simpa using h.hn t (by simpa using ht)
    have hput : ∀ v, (b.put o.dst v).defers = a.defers := fun v => by cases o.dst <;> exact h.hd
    have hpn : ∀ v, ∀ t, t ∉ dsts l.toArray → (b.put o.dst v).tmps.getD t undef = a.tmps.getD t undef := fun v t ht => by
      rw [put_other _ _ _ _ (fun e => ht (List.mem_filterMap.2 ⟨o, by simpa using List.mem_of_getElem? ho', e⟩))]
      exact h.hn t ht
    have hset : ∀ k, k ≠ i → (listed.setIfInBounds i true).getD k false = listed.getD k false := fun k hk => getD_set_ne false (Ne.symm hk)
    have hea : early a l.toArray i b := fun j o' d hj hjd hw => by
      have hjl : listed.getD j false = false := by
        cases e : listed.getD j false with
        | false => rfl
        | true =>
          have := waits_spec h.inv _ _ hw fun oo hoo => h.inv.closed _ _ hoo e
          rw [hun'] at this; cases this
      simpa using h.hi j o' d hj hjd hjl
    have hini : ∀ v, ∀ j o' d, l.toArray[j]? = some o' → o'.dst = some d → (listed.setIfInBounds i true).getD j false = false → (b.put o.dst v).tmps.getD d undef = a.tmps.getD d undef := fun v j o' d hj hjd hl => by
      have hji : i ≠ j := fun e => by subst e; simp [hil] at hl
      rw [hset j (Ne.symm hji)] at hl
      rw [put_other _ _ _ _ (slot_ne hB ho hj hjd hji)]
      exact h.hi j o' d hj hjd hl
    by_cases hch : ch.contains i = true
    · obtain ⟨⟨o1, ho1, -, hy⟩, hcur⟩ := cur_set h.inv hun' hil hdeps ch none hnd hso (by simpa using hch)
      rw [ho] at ho1
      cases ho1
      refine wpOp_of_yields ho (hy b w G h.hb h.hd hn' h.hG hkn hea h.hc) fun v w' ⟨G', hstep, hG', hV⟩ => ?_
      refine ⟨G', h.inv.set hi, h.hb.trans hstep.1, hput _, by rw [put_size]; exact h.hs, hpn _, hG', fun k o' d' hk hkd hka hl => ?_, ?_, hini _⟩
      · have hki : k ≠ i := fun e => by rw [e, hch] at hka; cases hka
        rw [hset k hki] at hl
        rw [put_other _ _ _ _ (slot_ne hB ho hk hkd (Ne.symm hki))]
        exact hst k _ w _ G G' hka (h.hv k o' d' hk hkd hka hl) hstep hG'
      · rw [hcur]
        intro o' d hk hkd
        rw [ho] at hk
        cases hk
        have := put_same b v d (by rw [h.hs]; exact slot_lt hB ho hkd)
        rw [hkd]
        have e2 : (b.put (some d) v).tmps[d]?.getD undef = v := by simpa using this
        rw [e2]
        exact hV
    · have hch' : ch.contains i = false := by simpa using hch
      have hOK := (opsOK_at l 0 hop i o ho').resolve_left (by rw [Nat.zero_add]; exact hch)
      rw [Nat.zero_add] at hOK
      refine wpOp_of_yields ho (hOK b w G h.hb h.hd hn' h.hG hkn hea) fun v w' ⟨hw', hV⟩ => ?_
      have hsz := hw'.1.1.size
      refine ⟨G, h.inv.set hi, h.hb.trans hw'.1.1, hput _, by rw [put_size]; exact h.hs, hpn _, fun g hg => Nat.lt_of_lt_of_le (h.hG g hg) hsz, fun k o' d' hk hkd hka hl => ?_, ?_, hini _⟩
      · by_cases hik : k = i
        · subst hik
          have : o' = o := Option.some.inj (hk.symm.trans ho)
          subst this
          rw [hkd, put_same _ _ _ (by rw [h.hs]; exact slot_lt hB ho hkd)]
          exact hV
        · rw [hset k hik] at hl
          rw [put_other _ _ _ _ (slot_ne hB ho hk hkd (Ne.symm hik))]
          exact hst k _ w _ G G hka (h.hv k o' d' hk hkd hka hl) hw'.1 (fun g hg => Nat.lt_of_lt_of_le (h.hG g hg) hsz)
      · rw [cur_other ch none (by simpa using hch')]
        have hc := h.hc
        cases e : cur listed none ch with
        | none => rw [e] at hc; exact hs0 _ _ _ hc hw'
        | some k =>
          rw [e] at hc
          have hkch : k ∈ ch := by
            rcases cur_mem ch none e with h2 | ⟨h2, -⟩
            · cases h2
            · exact h2
          intro o' d hk hkd
          have hki : i ≠ k := fun e => hch (by rw [e]; simpa using hkch)
          have h2 := put_other b o.dst v d (slot_ne hB ho hk hkd hki)
          have e2 : (b.put o.dst v).tmps[d]?.getD undef = b.tmps[d]?.getD undef := by simpa using h2
          rw [e2]
          exact hsc k _ w _ G (by simpa using hkch) (hc o' d hk hkd) hw'

theorem region_vals {id : Nat} {Q : Exit → Act → World → Prop} {a : Act} {l : List Oper} (B : Nat) (hBW : B ≤ W.heap.size) (ch : List Nat) (last : Nat) (G0 : Option Nat) (V : Nat → Value → World → Option Nat → Prop) (C0 : World → Option Nat → Prop)
    (hm : P.follows .mixedOrders = true) (hB : predB l.toArray a.tmps.size = true) (hK : backB l.toArray = true) (hnd : ch.Nodup) (hla : ch.getLast? = some last) (hcl : ∀ c ∈ ch, c < l.length)
    (hst : ∀ i v w w' G G', ch.contains i = false → V i v w G → Step B G G' w w' → (∀ g, G' = some g → g < w'.heap.size) → V i v w' G')
    (hsc : ∀ i v w w' G, ch.contains i = true → V i v w G → Ext B G w w' → V i v w' G) (hs0 : ∀ w w' G, C0 w G → Ext B G w w' → C0 w' G) (hW0 : C0 W G0) (hG0 : ∀ g, G0 = some g → g < W.heap.size)
    (hop : opsOK P W B ch a l.toArray V 0 l) (hso : addsOK P W B ch a l.toArray V C0 none ch)
    (hend : ∀ (v : Nat → Value) (w : World) (G : Option Nat), Below B W w → (∀ g, G = some g → g < w.heap.size) → (∀ k o' d, l[k]? = some o' → o'.dst = some d → ch.contains k = false → V k (v k) w G) → (∀ o' d, l[last]? = some o' → o'.dst = some d → V last (v last) w G) → Q .normal (putsF v 0 l a) w) :
    (Code.region id l.toArray true).wp P Q a W := by
  refine region_chain B hBW ch G0 V C0 hm hB hK hnd hst hsc hs0 hW0 hG0 hop hso fun listed b w G hall h => ?_
  have hs := h.hs
  have hd := h.hd
  have key : b = putsF (fun k => match l[k]? with | some o => (match o.dst with | some d => b.tmps.getD d undef | none => undef) | none => undef) 0 l a := by
    have h1 : b.tmps = (putsF (fun k => match l[k]? with | some o => (match o.dst with | some d => b.tmps.getD d undef | none => undef) | none => undef) 0 l a).tmps := by
      apply Array.ext
      · rw [putsF_size, hs]
      · intro t ht1 ht2
        have h2 := putsF_at (b := b) (t := t) (v := fun k => match l[k]? with | some o => (match o.dst with | some d => b.tmps.getD d undef | none => undef) | none => undef) l 0 a (fun k o hk hdk => by simp only [Nat.zero_add, hk, hdk]) (by
          by_cases hdt : t ∈ dsts l.toArray
          · right
            obtain ⟨o, ho, he⟩ := List.mem_filterMap.1 hdt
            exact ⟨o, by simpa using ho, he⟩
          · left; exact (h.hn t hdt).symm) (by rw [← hs]; exact ht1)
        rw [Array.getD_eq_getD_getElem?, Array.getD_eq_getD_getElem?, Array.getElem?_eq_getElem ht1, Array.getElem?_eq_getElem ht2] at h2
        simpa using h2.symm
    have h2 := putsF_defers (fun k => match l[k]? with | some o => (match o.dst with | some d => b.tmps.getD d undef | none => undef) | none => undef) l 0 a
    clear h
    obtain ⟨bt, bd⟩ := b
    simp only at h1 hd
    generalize putsF _ 0 l a = c at h1 h2
    obtain ⟨ct, cd⟩ := c
    simp only at h1 h2
    rw [h1, hd, ← h2]
  rw [key]
  have hcur : cur listed none ch = some last := by
    rw [cur_all ch none (fun c hc => hall c (by simpa using hcl c hc)), hla]; rfl
  have hc := h.hc
  rw [hcur] at hc
  refine hend _ w G h.hb h.hG (fun k o' d hk hkd hka => ?_) (fun o' d hk hkd => ?_)
  · simp only [hk, hkd]
    exact h.hv k o' d (by simpa using hk) hkd hka (hall k (by have := (List.getElem?_eq_some_iff.1 hk).1; simpa using this))
  · simp only [hk, hkd]
    have := hc o' d (by simpa using hk) hkd
    simpa using this
end
/-! What may be said of a value -/
def StabO (p : Value → World → Option Nat → Prop) : Prop := ∀ v w w' G G' B, p v w G → Step B G G' w w' → p v w' G'
def StabC (p : Value → World → Option Nat → Prop) : Prop := ∀ v w w' G B, p v w G → Ext B G w w' → p v w' G
def Is (x : Value) : Value → World → Option Nat → Prop := fun v _ _ => v = x
theorem is_stab (x : Value) : StabO (Is x) := fun _ _ _ _ _ _ h _ => h
/-- a slice of the call's own, of these bytes, apart from the row that is added to -/
def Rb (zs : List Int) (T : TypeId) : Value → World → Option Nat → Prop := fun v w G => ∃ g cap c fr, v = .slice (some ⟨g, 0, none⟩) zs.length cap ∧ some g ≠ G ∧ w.heap[g]? = some (.cells c T fr) ∧ c.toList.take zs.length = zs.map (Value.int .u8)
theorem rb_stab (zs : List Int) (T : TypeId) : StabO (Rb zs T) := fun v w w' G G' B ⟨g, cap, c, fr, h1, h2, h3, h4⟩ hs => by
  obtain ⟨fr', h5⟩ := hs.2.1 g c T fr h3 h2
  refine ⟨g, cap, c, fr', h1, ?_, h5, h4⟩
  rcases hs.2.2 with e | ⟨g', e, hg'⟩
  · rw [e]; exact h2
  · rw [e]
    intro e2
    cases e2
    have := heap_lt h3
    omega
/-- the row that is added to -/
def Oc (base : Nat) (e : TypeId) (n : Nat) (xs : List Value) : Value → World → Option Nat → Prop := fun v w G => w.ownsRow base e 1 v n xs ∧ v.ownBlock = G
theorem owns_ext {base B : Nat} {e : TypeId} {n : Nat} {xs : List Value} {v : Value} {w w' : World} {G : Option Nat} (h : w.ownsRow base e 1 v n xs) (hv : v.ownBlock = G) (hx : Ext B G w w') : w'.ownsRow base e 1 v n xs := by
  refine ⟨h.1, ?_⟩
  rcases h.2 with hn | ⟨g, cap, cur, rfl, h2, hg, rest⟩
  · exact .inl hn
  · refine .inr ⟨g, cap, cur, rfl, h2, ?_, rest⟩
    rw [hx.2 g (by rw [← hv]; rfl)]
    exact hg
theorem oc_stab (base : Nat) (e : TypeId) (n : Nat) (xs : List Value) : StabC (Oc base e n xs) := fun v w w' G B h hx => ⟨owns_ext h.1 h.2 hx, h.2⟩
def Of (l : List (Value → World → Option Nat → Prop)) (i : Nat) : Value → World → Option Nat → Prop := l.getD i fun _ _ _ => False
def Stabs (ch : List Nat) : Nat → List (Value → World → Option Nat → Prop) → Prop
  | _, [] => True
  | i, p :: l => (ch.contains i = true ∨ StabO p) ∧ (ch.contains i = false ∨ StabC p) ∧ Stabs ch (i + 1) l
theorem of_stabO {ch : List Nat} {B : Nat} : ∀ {l : List (Value → World → Option Nat → Prop)} {j : Nat}, Stabs ch j l → ∀ i v w w' G G', ch.contains (j + i) = false → Of l i v w G → Step B G G' w w' → Of l i v w' G'
  | [], _, _, i, v, w, w', G, G', _, h, _ => by simp [Of] at h
  | p :: l, j, hs, 0, v, w, w', G, G', hc, h, hb => (hs.1.resolve_left (by rw [Nat.add_zero] at hc; rw [hc]; decide)) v w w' G G' B h hb
  | p :: l, j, hs, i + 1, v, w, w', G, G', hc, h, hb => of_stabO (l := l) hs.2.2 i v w w' G G' (by rw [show j + 1 + i = j + (i + 1) by omega]; exact hc) h hb
theorem of_stabC {ch : List Nat} {B : Nat} : ∀ {l : List (Value → World → Option Nat → Prop)} {j : Nat}, Stabs ch j l → ∀ i v w w' G, ch.contains (j + i) = true → Of l i v w G → Ext B G w w' → Of l i v w' G
  | [], _, _, i, v, w, w', G, _, h, _ => by simp [Of] at h
  | p :: l, j, hs, 0, v, w, w', G, hc, h, hb => (hs.2.1.resolve_left (by rw [Nat.add_zero] at hc; rw [hc]; decide)) v w w' G B h hb
  | p :: l, j, hs, i + 1, v, w, w', G, hc, h, hb => of_stabC (l := l) hs.2.2 i v w w' G (by rw [show j + 1 + i = j + (i + 1) by omega]; exact hc) h hb
theorem step_refl (B : Nat) (G : Option Nat) (w : World) : Step B G G w w := (ext_refl B G w).1
/-- append of such a slice to the row -/
theorem yields_append {ops : Array Oper} {o : Oper} {b : Act} {w : World} {G : Option Nat} {B : Nat} (hgd : o.guard = none) (s x : Operand) (t e : TypeId) (T : TypeId)
    (ho : o.op = .call { callee := .builtin .append, args := #[s, x], argTypes := #[t, t] })
    (ht : P.underlying t = some (.slice e)) (hinfo : (P.info? e).map (fun i => (i.zero, i.size, i.bytes)) = some (some (.int .u8 0), 1, 1))
    (v : Value) (n : Nat) (xs : List Value) (hs : b.eval s = v) (hown : Oc B e n xs v w G) (zs : List Int) (u : Value) (hx : b.eval x = u) (hr : Rb zs T u w G) (hz : 0 < zs.length) (hn : n + zs.length ≤ 1000000) (hB : B ≤ w.heap.size) :
    yields P ops o b w fun v' w' => ∃ G', Step B G G' w w' ∧ (∀ g, G' = some g → g < w'.heap.size) ∧ Oc B e (n + zs.length) (xs ++ zs.map (Value.int .u8)) v' w' G' := by
  obtain ⟨i, hi, hz0, hz1, hz2⟩ := info_parts hinfo
  obtain ⟨g, cap, c, fr, rfl, hne, hg, htk⟩ := hr
  have hnews : ∀ j y, (zs.map (Value.int .u8))[j]? = some y → w.cell? ((⟨g, 0, none⟩ : Addr).add j) = some y := fun j y hj => by
    rw [Addr.add_lit, Nat.zero_add, blk_cell (show blk w g = _ from hg)]
    rw [← htk] at hj
    have hjl : j < zs.length := by
      rcases Nat.lt_or_ge j zs.length with h | h
      · exact h
      · rw [List.getElem?_eq_none (by rw [List.length_take]; omega)] at hj; cases hj
    rw [List.getElem?_take_of_lt hjl] at hj
    simpa using hj
  obtain ⟨v', w', hrun, h2, h3, h4⟩ := run_append_own2 (P := P) w B t o.type e i (.int .u8 0) 1 1 ht hi hz0 hz1 hz2 rfl (by decide) v n xs hown.1 ⟨g, 0, none⟩ zs.length cap (zs.map (Value.int .u8)) (by simp) hz hnews (by intro y hy; obtain ⟨q, _, rfl⟩ := List.mem_map.1 hy; rfl) (by unfold maxLen; omega) (by omega) hB
  refine Pred.yields_run (v := v') (w' := w') (Pred.wanted_none hgd) ?_ ⟨v'.ownBlock, ⟨below_grownBy h3 hB fun k hk => (hown.1.lt k hk).1, fun k c t fr hk hkG => ⟨fr, ?_⟩, ?_⟩, fun k hk => (h2.lt k hk).2, h2, rfl⟩
  · unfold execOp
    simp only [ho, resolve, invoke, builtin, Sem.run_bind, Sem.run_pure, Result.andThen_ok, List.map_toArray, List.map_cons, List.map_nil, hs, hx, hrun]
  · rw [h3.block k (heap_lt hk) (by rw [hown.2]; exact hkG)]; exact hk
  · rcases h4 with e | e
    · exact .inl (e.trans hown.2)
    · exact .inr ⟨_, e, Nat.le_refl _⟩
theorem wpList_append_noughts (w : World) {ops : Array Oper} {rest : List Oper} {o : Oper} {a : Act} {Q : Exit → Act → World → Prop} (hgd : o.guard = none) (s x : Operand) (t ti e : TypeId)
    (ho : o.op = .call { callee := .builtin .append, args := #[s, x], argTypes := #[t, ti] })
    (base : Nat) (ht : P.underlying t = some (.slice e)) (hti : P.underlying ti = some (.int .i64)) (hinfo : (P.info? e).map (fun i => (i.zero, i.size, i.bytes)) = some (some (.int .u8 0), 1, 1))
    (v : Value) (n : Nat) (xs : List Value) (hs : a.eval s = v) (hown : w.ownsRow base e 1 v n xs) (m : Nat) (hx : a.eval x = .int .i64 (m : Int)) (hn : 0 < n) (hm : 0 < m) (h63 : n + m ≤ 1000000) (hbase : base ≤ w.heap.size)
    (h : ∀ v' w', w'.ownsRow base e 1 v' (n + m) (xs ++ List.replicate m (Value.int .u8 0)) → Below base w w' → wpList P ops Q rest (a.put o.dst v') w') : wpList P ops Q (o :: rest) a w :=
  wpList_plain hgd fun K hK => by
    obtain ⟨i, hi, hz0, hz1, hz2⟩ := info_parts hinfo
    obtain ⟨v', w', hrun, h2, h3⟩ := run_append_noughts (P := P) w base t ti o.type e i ht hti hi hz0 hz1 hz2 v n xs hown m hn hm h63 hbase
    unfold Oper.wp execOp
    simp only [ho, resolve, invoke, builtin, Sem.run_bind, Sem.run_pure, Result.andThen_ok, List.map_toArray, List.map_cons, List.map_nil, hs, hx, hrun]
    exact hK _ _ (h v' w' h2 h3)
theorem region_of {W : World} {id : Nat} {Q : Exit → Act → World → Prop} {a : Act} {l : List Oper} (B : Nat) (hBW : B ≤ W.heap.size) (ch : List Nat) (last : Nat) (G0 : Option Nat) (L : List (Value → World → Option Nat → Prop)) (e : TypeId) (n0 : Nat) (xs0 : List Value) (v0 : Value)
    (hm : P.follows .mixedOrders = true) (hB : predB l.toArray a.tmps.size = true) (hK : backB l.toArray = true) (hnd : ch.Nodup) (hla : ch.getLast? = some last) (hcl : ∀ c ∈ ch, c < l.length)
    (hS : Stabs ch 0 L) (hW0 : Oc B e n0 xs0 v0 W G0)
    (hop : opsOK P W B ch a l.toArray (Of L) 0 l) (hso : addsOK P W B ch a l.toArray (Of L) (fun w G => Oc B e n0 xs0 v0 w G) none ch)
    (hend : ∀ (v : Nat → Value) (w : World) (G : Option Nat), Below B W w → (∀ g, G = some g → g < w.heap.size) → (∀ k o' d, l[k]? = some o' → o'.dst = some d → ch.contains k = false → Of L k (v k) w G) → (∀ o' d, l[last]? = some o' → o'.dst = some d → Of L last (v last) w G) → Q .normal (putsF v 0 l a) w) :
    (Code.region id l.toArray true).wp P Q a W :=
  region_vals B hBW ch last G0 (Of L) (fun w G => Oc B e n0 xs0 v0 w G) hm hB hK hnd hla hcl (fun i v w w' G G' hc h hs _ => of_stabO hS i v w w' G G' (by rw [Nat.zero_add]; exact hc) h hs)
    (fun i v w w' G hc h hx => of_stabC hS i v w w' G (by rw [Nat.zero_add]; exact hc) h hx) (fun w w' G h hx => ⟨owns_ext h.1 h.2 hx, h.2⟩) hW0 (fun g hg => (hW0.1.lt g (by rw [hW0.2]; exact hg)).2) hop hso hend
end
end Go.Proofs.Ytkklppjimnkibaa.PredC

/-
  A map of Booleans by number: look-up, range; what three turns leave odd.
-/
import Derived.Test.YtnlppgdkimaddaaCrcP
import Derived.Test.YtnlppgdkimaddaaCrcG
import Derived.Test.YtnlppgdkimaddaaApp
import Derived.Maps.OwnOps
import Derived.Maps.OwnSet
import Derived.Maps.RangeWalk
import Derived.Maps.Views
namespace Go.Proofs.Ytnlppgdkimaddaa.CrcQ
open Go.RowKit Rd Go.Proofs.Ytnlppgdkimaddaa.Row CrcA CrcB CrcC CrcD CrcP
open Go.Maps (Keyed)
set_option linter.unusedVariables false
set_option linter.unusedSimpArgs false
section
variable {H : Type}
theorem plainElem_bool_inv {P : Program} {e : TypeId} (he : P.underlying e = some .bool) {v : Value} {z : DataW H × List MemPlace} (h : plainElem P e v = some z) : ∃ a, v = .bool a ∧ z = (.lit (.bool a), []) := by
  unfold plainElem at h
  rw [he] at h
  cases v <;> simp at h
  exact ⟨_, rfl, h.symm⟩
theorem wpList_lookup_own_bool {P : Program} (w : World) {ops : Array Oper} {rest : List Oper} {o : Oper} {a : Act} {Q : Exit → Act → World → Prop}
    (hg : o.guard = none) (m x : Operand) (t : TypeId) (hop : o.op = Op.lookup t m x false)
    (k e : TypeId) (K : Keyed P k) (ht : P.underlying t = some (.map k e)) (he : P.underlying e = some .bool) (hz : (zeroValue e).run P w = .ok (.bool false) w) (b n : Nat) (D : DataW H)
    (hm : a.eval m = .map (some b)) (hown : w.ownsMap P k (plainElem P e) b n D) (key : Value) (kl : Lit) (hx : a.eval x = key) (hkey : keyOf P k key = some kl)
    (hK : ∀ c : Bool, D.atKey kl (.lit (.bool false)) = .lit (.bool c) → wpList P ops Q rest (a.put o.dst (.bool c)) w) :
    wpList P ops Q (o :: rest) a w := by
  refine wpList_plain hg fun K' hK' => ?_
  obtain ⟨v, ps, hrun, hv⟩ := hown.lookup K ht hz (plainElem_bool he false) hkey
  obtain ⟨c, rfl, hc⟩ := plainElem_bool_inv he hv
  simp only [Prod.mk.injEq] at hc
  unfold Oper.wp
  simp [execOp, hop, hm, hx, hrun, Result.andThen]
  exact hK' _ _ (hK c hc.1)
theorem wpList_next_ranges_ib {P : Program} (w : World) {ops : Array Oper} {rest : List Oper} {o : Oper} {a : Act} {Q : Exit → Act → World → Prop} (hg : o.guard = none) (it : Operand) (hop : o.op = Op.next it false) (k e : TypeId) (qk : IntKind) (K : Keyed P k) (hk : P.underlying k = some (.int qk)) (he : P.underlying e = some .bool)
    (b r n : Nat) (D : DataW H) (left : Lit → Bool) (cnt : Nat) (hit : a.eval it = .pointer (some ⟨r, 0, none⟩)) (h : w.ranges P k (plainElem P e) b r n D left cnt)
    (hDone : cnt = 0 → (∀ kl, left kl = false) → wpList P ops Q rest (a.put o.dst (.tuple #[.bool false])) w)
    (hMore : ∀ (x : Int) (c : Bool) (w' : World) (cnt' : Nat), (Lit.int qk x).wf = true → left (.int qk x) = true → (∀ zd, D.atKey (.int qk x) zd = .lit (.bool c)) → w'.ranges P k (plainElem P e) b r n D (fun z => left z && !z.sameKey (.int qk x)) cnt' → cnt' < cnt →
      w.grownBy w' (some r) → w'.heap.size = w.heap.size → (Instr.entry (.pointer (some ⟨r, 0, none⟩))).run P w' = .ok (.tuple #[.int qk x, .bool c]) w' → wpList P ops Q rest (a.put o.dst (.tuple #[.bool true, .int qk x, .bool c])) w') :
    wpList P ops Q (o :: rest) a w :=
  wpList_next_ranges w hg it hop k K (plainElem P e) (Value.int qk) Value.bool (fun key kl hkey => by obtain ⟨x, rfl, _⟩ := Maps.keyOf_int_inv hk hkey; exact ⟨x, rfl⟩) (fun v y hv => by obtain ⟨c, rfl, _⟩ := plainElem_bool_inv he hv; exact ⟨c, rfl⟩)
    b r n D left cnt hit h hDone (fun x c kl y w' cnt' hkey hlk hv hat hrg hlt hgr hsz hen => by
      obtain ⟨x', ex, rfl, hwx⟩ := Maps.keyOf_int_inv hk hkey
      cases ex
      obtain ⟨c', ec, rfl⟩ := plainElem_bool_inv he hv
      cases ec
      exact hMore x c w' cnt' hwx hlk hat hrg hlt hgr hsz hen)
end
/-- how often, odd? -/
def par (ps : List Nat) (p : Nat) : Bool := ps.count p % 2 == 1
abbrev DM := DataW Unit
def Par (D : DM) (ps : List Nat) : Prop := ∀ p : Nat, D.atKey (.int .i64 (p : Int)) (.lit (.bool false)) = .lit (.bool (par ps p))
theorem par_nil : Par (.map []) [] := fun p => rfl
theorem par_snoc (ps : List Nat) (i p : Nat) : par (ps ++ [i]) p = if p = i then !par ps p else par ps p := by
  unfold par
  rw [List.count_append, List.count_singleton]
  by_cases h : p = i
  · subst h
    rw [if_pos rfl]
    simp only [beq_self_eq_true, if_true]
    have := Nat.mod_two_eq_zero_or_one (ps.count p)
    rcases this with e | e
    · rw [show (ps.count p + 1) % 2 = 1 by omega, e]; rfl
    · rw [show (ps.count p + 1) % 2 = 0 by omega, e]; rfl
  · rw [if_neg h]
    have : (i == p) = false := by simpa using fun e : i = p => h e.symm
    rw [this]
    simp
theorem Par.put {D : DM} {ps : List Nat} {i : Nat} {c : Bool} (h : Par D ps) (hD : Maps.IsMap D) (hc : D.atKey (.int .i64 (i : Int)) (.lit (.bool false)) = .lit (.bool c)) : Par (D.put (.int .i64 (i : Int)) (.lit (.bool (!c)))) (ps ++ [i]) := by
  intro p
  rw [par_snoc]
  by_cases e : p = i
  · subst e
    rw [if_pos rfl, Maps.atKey_put_same (k := .int .i64 (p : Int)) hD trivial]
    have e2 := (h p).symm.trans hc
    injection e2 with e2
    injection e2 with e2
    rw [e2]
  · rw [if_neg e, Maps.atKey_put_other (by intro e'; injection e' with _ e'; exact e (by omega)), h p]
theorem par_has {D : DM} {ps : List Nat} {p : Nat} (h : Par D ps) (hp : par ps p = true) : Maps.has D (.int .i64 (p : Int)) = true := by
  cases hh : Maps.has D (.int .i64 (p : Int))
  · have e1 := Maps.atKey_of_not_has hh (.lit (.bool false))
    have e2 := e1.symm.trans (h p)
    rw [hp] at e2
    simp at e2
  · rfl
/-- of three one is there an odd number of times -/
theorem three_odd (a b c : Nat) : ∃ p, par [a, b, c] p = true := by
  unfold par
  by_cases h1 : a = b
  · refine ⟨c, ?_⟩
    subst h1
    by_cases h2 : a = c
    · subst h2; simp
    · simp [List.count_cons, h2]
  · by_cases h2 : a = c
    · subst h2
      refine ⟨b, ?_⟩
      simp [List.count_cons, h1]
    · refine ⟨a, ?_⟩
      have h1' : ¬ b = a := fun e => h1 e.symm
      have h2' : ¬ c = a := fun e => h2 e.symm
      simp [List.count_cons, h1', h2']
/-- .. turned one behind the other -/
def flips (zs : List Int) (ps : List Nat) : List Int := ps.foldl CrcP.flip zs
theorem flips_snoc (zs : List Int) (ps : List Nat) (i : Nat) : flips zs (ps ++ [i]) = CrcP.flip (flips zs ps) i := by unfold flips; rw [List.foldl_append]; rfl
theorem flips_len (zs : List Int) : ∀ (ps : List Nat) (xs : List Int), (ps.foldl CrcP.flip xs).length = xs.length
  | [], xs => rfl
  | p :: ps, xs => by rw [List.foldl_cons, flips_len zs ps, flip_len]
theorem flip_b8 {zs : List Int} (h : B8s zs) (i : Nat) : B8s (CrcP.flip zs i) := by
  intro z hz
  unfold CrcP.flip at hz
  rcases List.mem_or_eq_of_mem_set hz with h1 | h1
  · exact h z h1
  · subst h1
    have h2 := getD_b8 h (i / 8)
    have h3 : (zs.getD (i / 8) 0).toNat ^^^ 2 ^ (i % 8) < 256 := xor8 (by omega) (by
      have : i % 8 ≤ 7 := by omega
      calc 2 ^ (i % 8) ≤ 2 ^ 7 := Nat.pow_le_pow_right (by omega) this
        _ < 256 := by decide)
    omega
theorem flips_b8 {zs : List Int} (h : B8s zs) : ∀ ps : List Nat, B8s (flips zs ps) := fun ps => by
  unfold flips
  induction ps generalizing zs with
  | nil => exact h
  | cons p ps ih => exact ih (flip_b8 h p)
theorem own_keep {w w' : World} {base s : Nat} {e : TypeId} {v : Value} {n : Nat} {xs : List Value} (h : w.ownsRow base e s v n xs) (hk : ∀ (k : Nat) (cur : Array Value), w.heap[k]? = some (Obj.cells cur e (0, 0)) → w'.heap[k]? = w.heap[k]?) : w'.ownsRow base e s v n xs := by
  refine ⟨h.1, ?_⟩
  rcases h.2 with hn | ⟨g, cap, cur, rfl, hb, hg, rest⟩
  · exact .inl hn
  · exact .inr ⟨g, cap, cur, rfl, hb, by rw [hk g _ hg]; exact hg, rest⟩
theorem own_bel {w w' : World} {base s : Nat} {e : TypeId} {v : Value} {n : Nat} {xs : List Value} (h : w.ownsRow base e s v n xs) (hb : Below w.heap.size w w') : w'.ownsRow base e s v n xs :=
  own_keep h fun k cur hk => hb.block k (Array.getElem?_eq_some_iff.1 hk).1
theorem set_own {w : World} {base : Nat} {e : TypeId} {g cap n i : Nat} {xs : List Int} {x : Int} (h : w.ownsRow base e 1 (.slice (some ⟨g, 0, none⟩) n cap) n (u8s xs)) (hi : i < n) :
    (w.setCell ⟨g, i, none⟩ (.int .u8 x)).ownsRow base e 1 (.slice (some ⟨g, 0, none⟩) n cap) n (u8s (xs.set i x)) := by
  refine ⟨by have := h.1; simpa using this, ?_⟩
  rcases h.2 with ⟨h2, h3⟩ | ⟨g', cap', cur, h2, hb, hg, h3, h4, h5, h6⟩
  · omega
  · cases h2
    refine .inr ⟨g, cap, cur.setIfInBounds i (.int .u8 x), rfl, hb, blk_set w g i _ _ _ hg, h3, h4, by simpa using h5, ?_⟩
    rw [Array.toList_setIfInBounds, List.take_set, h6]
    simp [u8s, List.map_set]
theorem own_map {H : Type} {w w' : World} {base s : Nat} {e : TypeId} {v : Value} {n : Nat} {xs : List Value} {P : Program} {k : TypeId} {R : Value → Option (DataW H × List MemPlace)} {b m : Nat} {D : DataW H} (h : w.ownsRow base e s v n xs) (hm : w.ownsMap P k R b m D) (hg : w.grownBy w' (some b)) : w'.ownsRow base e s v n xs :=
  own_keep h fun k' cur hk => by
    have hne : k' ≠ b := by
      rintro rfl
      obtain ⟨es, c, hb, -⟩ := hm
      rw [hb] at hk
      cases hk
    exact hg.block k' (Array.getElem?_eq_some_iff.1 hk).1 (fun e => hne (Option.some.inj e))
theorem blk_map {H : Type} {w w' : World} {g : Nat} {c : Array Value} {T : TypeId} {fr : Nat × Nat} {P : Program} {k : TypeId} {R : Value → Option (DataW H × List MemPlace)} {b m : Nat} {D : DataW H} (h : blk w g = some (.cells c T fr)) (hm : w.ownsMap P k R b m D) (hg : w.grownBy w' (some b)) : blk w' g = some (.cells c T fr) := by
  have hne : g ≠ b := by
    rintro rfl
    obtain ⟨es, cl, hb, -⟩ := hm
    have h2 : blk w g = _ := hb
    rw [h2] at h
    cases h
  exact (hg.block g (blk_lt h) (fun e => hne (Option.some.inj e))).trans h
theorem own_rng {H : Type} {w w' : World} {base s : Nat} {e : TypeId} {v : Value} {n : Nat} {xs : List Value} {P : Program} {k : TypeId} {R : Value → Option (DataW H × List MemPlace)} {b r m cnt : Nat} {D : DataW H} {left : Lit → Bool} (h : w.ownsRow base e s v n xs) (hm : w.ranges P k R b r m D left cnt) (hg : w.grownBy w' (some r)) : w'.ownsRow base e s v n xs :=
  own_keep h fun k' cur hk => by
    have hne : k' ≠ r := by
      rintro rfl
      obtain ⟨es, clock, since, seen, c0, _, _, _, _, hr, _⟩ := hm
      rw [hr] at hk
      cases hk
    exact hg.block k' (Array.getElem?_eq_some_iff.1 hk).1 (fun e => hne (Option.some.inj e))
theorem blk_rng {H : Type} {w w' : World} {g : Nat} {c : Array Value} {T : TypeId} {fr : Nat × Nat} {P : Program} {k : TypeId} {R : Value → Option (DataW H × List MemPlace)} {b r m cnt : Nat} {D : DataW H} {left : Lit → Bool} (h : blk w g = some (.cells c T fr)) (hm : w.ranges P k R b r m D left cnt) (hg : w.grownBy w' (some r)) : blk w' g = some (.cells c T fr) := by
  have hne : g ≠ r := by
    rintro rfl
    obtain ⟨es, clock, since, seen, c0, _, _, _, _, hr, _⟩ := hm
    have h2 : blk w g = _ := hr
    rw [h2] at h
    cases h
  exact (hg.block g (blk_lt h) (fun e => hne (Option.some.inj e))).trans h
theorem bel_none {w w' : World} {B : Nat} (hg : w.grownBy w' none) (hB : B ≤ w.heap.size) : Below B w w' := ((Below.refl B w).grown hg hB (fun j hj => by cases hj))
/-- the cells of a row of bytes of one's own -/
theorem own_cell {w : World} {base : Nat} {e : TypeId} {g cap n i : Nat} {xs : List Int} (h : w.ownsRow base e 1 (.slice (some ⟨g, 0, none⟩) n cap) n (u8s xs)) (hx : xs.length = n) (hi : i < n) : w.cell? ⟨g, i, none⟩ = some (.int .u8 (xs.getD i 0)) ∧ w.frozen? ⟨g, i, none⟩ = false ∧ base ≤ g ∧ g < w.heap.size := by
  rcases h.2 with ⟨h2, h3⟩ | ⟨g', cap', cur, h2, hb, hg, h3, h4, h5, h6⟩
  · omega
  · cases h2
    refine ⟨?_, blk_frozen hg _, hb, blk_lt hg⟩
    rw [blk_cell hg]
    have h7 : (cur.toList.take (n * 1))[i]? = (u8s xs)[i]? := by rw [h6]
    rw [List.getElem?_take, if_pos (by omega), u8s_at xs i (by omega)] at h7
    simpa using h7
theorem one_u8 (l : List Int) : ∀ u ∈ u8s l, u.oneCell' = true := by
  intro u hu
  obtain ⟨z, -, rfl⟩ := List.mem_map.1 hu
  rfl
theorem info_u8 : (Try.prog.info? 5).map (fun i => (i.zero, i.size, i.bytes)) = some (some (.int .u8 0), 1, 1) := by kernel_rfl
theorem underlying_int : Try.prog.underlying 3 = some (.int .i64) := Try.underlying3
theorem law_int : Keyed Try.prog 3 := Maps.int_keyed underlying_int
theorem zero_bool (w : World) : (zeroValue 4).run Try.prog w = .ok (.bool false) w := by rfl
end Go.Proofs.Ytnlppgdkimaddaa.CrcQ

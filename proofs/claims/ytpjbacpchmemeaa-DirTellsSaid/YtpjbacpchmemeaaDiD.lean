/-
  Entries sorted by key.
  A row of entries that grows; Clone; twice.
  overlap: a table of all sectors.
-/
import Derived.Test.YtpjbacpchmemeaaDiG
import Derived.Test.YtpjbacpchmemeaaSort
import Derived.Sort.OwnSortedInts
import Derived.Test.YtpjbacpchmemeaaApp
import Derived.Test.YtpjbacpchmemeaaPgC
import Derived.Lib.SliceRun
import Derived.LoopTactic
namespace Go.Proofs.Ytpjbacpchmemeaa.DiB
open Go.RowKit Rd Go.Proofs.Ytpjbacpchmemeaa.Row Mid PgM PgA PgB DiM DiA DiG
open Go.Sort (SWO PermIn SortedIn HoldsK Holds flatK putRowK putRow putCells grow)
set_option linter.unusedVariables false
set_option linter.unusedSimpArgs false
set_option maxRecDepth 10000
attribute [local go_sem ↓] load_pg store_pg load_en store_en
attribute [local go_sem] one_int pc3 piece36 piece66 run_load_pg run_store_pg run_load_en run_store_en midLoad_eq rowLoad_eq rowStore_eq blk_alloc_at blk_alloc_old blk_drew blk_drewN blk_set_far blk_set_far' blk_grow setRow_alloc_at setRow_alloc_old setRow_drew setRow_drewN blk_grownN
/-- which comes first -/
def cf (d : Int) (p q : En) : Int := cmpV (p.K d) (q.K d)
theorem lt_cf (d : Int) (p q : En) : ltOf (cf d) p q = decide (p.K d < q.K d) := by
  unfold ltOf cf cmpV
  by_cases h : p.K d < q.K d
  · simp [h]
  · by_cases h2 : q.K d < p.K d <;> simp [h, h2]
theorem swo_cf (d : Int) : SWO (ltOf (cf d)) where
  irrefl x := by rw [lt_cf]; simp
  trans x y z h1 h2 := by rw [lt_cf] at *; simp at *; omega
  ntrans x y z h1 h2 := by rw [lt_cf] at *; simp at *; omega
theorem enters_cmp : ∀ args w, (callFunc 29 args).run Try.prog w = .ok (.enter 29 args) w := enters_of Try.func29 (by kernel_rfl) rfl
theorem cmp_lays (d : Int) (bd : Nat) (p q : En) (w : World) (hbd : w.cell? ⟨bd, 0, none⟩ = some (.int .i64 d)) :
    Calls Try.prog 29 #[p.v, q.v, .pointer (some ⟨bd, 0, none⟩)] w fun e w' => e = .returned (.int .i64 (cf d p q)) ∧ G w w' := by
  have CC := Lib.hid (fun W => cmp_g d p.L p.X p.Y q.L q.X q.Y W)
  have E : Hid (cmpV (keyV d p.L p.X p.Y) (keyV d q.L q.X q.Y) = cf d p q) := Lib.hid rfl
  obtain ⟨r, er⟩ : ∃ r, cmpV (keyV d p.L p.X p.Y) (keyV d q.L q.X q.Y) = r := ⟨_, rfl⟩
  rw [er] at CC E
  rw [← E.out]
  clear er E
  obtain ⟨L, X, Y, S, N, M⟩ := p
  obtain ⟨L', X', Y', S', N', M'⟩ := q
  simp only [En.v, En.c] at CC ⊢
  have hbl := block_lt_of_cell hbd
  go_enter Try.func29, Try.ntmps29
  go_upto_region 1 with (fail)
  refine Rd.name_world ?_
  intro w1 hw
  have b1 : blk w1 w.heap.size = some (.cells #[.int .i64 L, .int .i64 X, .int .i64 Y, .int .i64 S, .int .i64 N, .int .u32 M] 39 (0, 0)) := by rw [hw]; exact blk2_0 _ _ _
  have b2 : blk w1 (w.heap.size + 1) = some (.cells #[.int .i64 L', .int .i64 X', .int .i64 Y', .int .i64 S', .int .i64 N', .int .u32 M'] 39 (0, 0)) := by rw [hw]; exact blk2_1 _ _ _
  have L1 : G w w1 := by
    rw [hw]
    exact ((G.refl w).alloc _).alloc _
  have hc : w1.cell? ⟨bd, 0, none⟩ = some (.int .i64 d) := (L1.below.cell (p := ⟨bd, 0, none⟩) hbl).trans hbd
  clear hw hbd
  have l1 := blk_lt b1
  have l2 := blk_lt b2
  go_wp2_with (go_at_call 30; refine (CC.out _).mono ?_; rintro e w2 ⟨rfl, KU⟩)
  go_ret
  exact ⟨rfl, L1.trans KU⟩
/-- a row's cells, as the sort has them -/
theorem flat_ce (ps : List En) : (flatK En.l 6 ps.toArray).toList = ce ps := by
  apply List.ext_getElem?
  intro t
  by_cases ht : t < ps.length * 6
  · have h1 := ce_at (ps := ps) (i := t / 6) (j := t % 6) (by omega) (by omega)
    rw [show t / 6 * 6 + t % 6 = t by omega] at h1
    rw [h1]
    have h2 := Go.Sort.get_flatK En.l 6 ps.toArray t (by simpa using ht)
    have h3 : t < (flatK En.l 6 ps.toArray).size := by simpa using ht
    rw [Array.getElem?_toList, Array.getElem?_eq_getElem h3]
    rw [getElem!_pos _ t h3] at h2
    rw [h2, at_get (by omega)]
    have h5 : t / 6 < ps.length := by omega
    have h6 : t % 6 < (ps[t / 6].l).length := by rw [En.l_len]; omega
    have h4 : ps.toArray[t / 6]! = ps[t / 6] := by simp [h5]
    rw [h4, getElem!_pos (ps[t / 6].l) (t % 6) h6, List.getElem?_eq_getElem h6]
  · rw [List.getElem?_eq_none (by simp; omega), List.getElem?_eq_none (by rw [ce_len]; omega)]
theorem flat_ce' (ps : List En) : flatK En.l 6 ps.toArray = (ce ps).toArray := by
  rw [← flat_ce]
theorem holds_block {w : World} {g : Nat} {cur : Array Value} {e : TypeId} {F : List Value} (hb : w.heap[g]? = some (.cells cur e (0, 0))) (ht : cur.toList.take F.length = F) : Holds id w g 0 F.toArray := by
  intro j hj
  have hj' : j < F.length := by simpa using hj
  refine ⟨?_, by simp [World.frozen?, hb]⟩
  have h1 : (cur.toList.take F.length)[j]? = F[j]? := by rw [ht]
  rw [List.getElem?_take_of_lt hj'] at h1
  simp only [World.cell?, hb, Nat.zero_add]
  simp only [Option.isSome_none, Bool.false_eq_true, if_false]
  rw [← Array.getElem?_toList, h1]
  simp [hj']
theorem heap_sortedK {w : World} {g n : Nat} {os : Array Obj} {cur : Array Value} {e : TypeId} {fr : Nat × Nat} (F : Array Value) (hb : w.heap[g]? = some (.cells cur e fr)) :
    (grow (putRow id (Go.Sort.ahead w n) g 0 F) os).heap[g]? = some (.cells (putCells id 0 F cur) e fr) := by
  have hg : g < w.heap.size := (Array.getElem?_eq_some_iff.1 hb).1
  rw [Go.Sort.heap_grow_old _ _ (by simpa using hg)]
  simp [putRow, Go.Sort.mapBlock, Go.Sort.ahead, Array.getElem?_modify, hb, Go.Sort.onCells]
theorem grownBy_sortedK {w : World} {g n : Nat} {os : Array Obj} (F : Array Value) : w.grownBy (grow (putRow id (Go.Sort.ahead w n) g 0 F) os) (some g) := by
  refine ⟨rfl, rfl, rfl, by simp, fun k hk hne => ?_⟩
  rw [Go.Sort.heap_grow_old _ _ (by simpa using hk)]
  have : g ≠ k := fun e => hne (by rw [e])
  simp [putRow, Go.Sort.mapBlock, Go.Sort.ahead, Array.getElem?_modify, this]
theorem take_putK (cur : Array Value) (F : List Value) (h : F.length ≤ cur.size) : (putCells id 0 F.toArray cur).toList.take F.length = F := by
  apply List.ext_getElem?
  intro j
  by_cases hj : j < F.length
  · rw [List.getElem?_take_of_lt hj, Array.getElem?_toList]
    simp [putCells, hj, show j < cur.size by omega]
  · rw [List.getElem?_take_eq_none (by omega), List.getElem?_eq_none (by omega)]
/-- in order -/
def inK (d : Int) (r : List En) : Prop := r.Pairwise fun p q => p.K d ≤ q.K d
theorem inK_of {d : Int} {a : Array En} (h : SortedIn (ltOf (cf d)) 0 a.size a) : inK d a.toList := by
  refine List.pairwise_iff_getElem.2 fun i j hi hj hij => ?_
  have hi' : i < a.size := by simpa using hi
  have hj' : j < a.size := by simpa using hj
  have := h i j (Nat.zero_le _) hij hj'
  rw [lt_cf, getElem!_pos a i hi', getElem!_pos a j hj'] at this
  have h2 := of_decide_eq_false this
  simp only [Array.getElem_toList]
  omega
theorem sort_own (d : Int) (bd base n : Nat) (v : Value) (r : List En) (w : World) (hown : w.ownsRow base 39 6 v n (ce r)) (hbd : w.cell? ⟨bd, 0, none⟩ = some (.int .i64 d)) (hb : bd < base) (hn : n ≤ 1000000) :
    Calls Try.prog 28 #[v, .func (.func 29) #[] #[.pointer (some ⟨bd, 0, none⟩)]] w fun e w' => e = .returned (.tuple #[]) ∧
      ∃ r', r'.Perm r ∧ inK d r' ∧ w'.ownsRow base 39 6 v n (ce r') ∧ w.grownBy w' v.ownBlock := by
  have hl : r.length = n := by
    have := hown.1
    rw [ce_len] at this
    omega
  rcases hown.2 with ⟨rfl, rfl⟩ | ⟨g, cap, cur, rfl, hbg, hg, hnc, hcm, hcs, htake⟩
  · refine (AnyF.slices_SortFunc_none Try.sortEn none 0 _ w).mono ?_
    rintro e w' ⟨rfl, rfl⟩
    have hr : r = [] := List.eq_nil_of_length_eq_zero hl
    subst hr
    exact ⟨rfl, [], List.Perm.refl _, List.Pairwise.nil, hown, ⟨rfl, rfl, rfl, Nat.le_refl _, fun _ _ _ => rfl⟩⟩
  · have hlt : g < w.heap.size := (Array.getElem?_eq_some_iff.1 hg).1
    have hH : HoldsK En.l 6 w g 0 r.toArray := by
      unfold HoldsK
      rw [flat_ce']
      exact holds_block hg (by rw [hown.1]; exact htake)
    have hcmp : CmpLays Try.prog 29 #[.pointer (some ⟨bd, 0, none⟩)] En.l 6 (cf d) g 0 r.toArray.size w := fun m os dk hs x y => by
      have hc : (sortWorldK En.l 6 w g 0 m dk os).cell? ⟨bd, 0, none⟩ = some (.int .i64 d) := by
        have hbl := block_lt_of_cell hbd
        unfold sortWorldK
        rw [Go.Sort.cell?_grow _ _ _ (by rw [Go.Sort.size_putRowK]; exact hbl), Go.Sort.cell?_putRowK_other _ _ _ _ _ _ _ (by show bd ≠ g; omega)]
        exact hbd
      refine (cmp_lays d bd x y _ hc).mono ?_
      rintro e w' ⟨rfl, ⟨⟨q, os'⟩, h⟩⟩
      exact ⟨rfl, q, os', h⟩
    have hcon := AnyQ.slices_SortFunc Try.sortEn 6 Try.isAgg39 Try.sizeOf39 En.l En.l_len (fun x v hv => x.l_one v hv) (cf d) (swo_cf d) 29 #[.pointer (some ⟨bd, 0, none⟩)] g 0 cap r.toArray w enters_cmp hcmp hH hlt (by rw [List.size_toArray, hl]; omega)
    rw [show r.toArray.size = n by simpa using hl] at hcon
    refine hcon.mono ?_
    rintro e w' ⟨rfl, d', m, os, hp, hs, rfl⟩
    have hsz : d'.size = n := hp.1.trans (by simpa using hl)
    have e1 : d'.extract 0 n = d' := by rw [← hsz]; exact Array.extract_size
    have e2 : r.toArray.extract 0 n = r.toArray := by
      have : n = r.toArray.size := by simpa using hl.symm
      rw [this]; exact Array.extract_size
    have hperm : d'.toList.Perm r := by
      have := hp.2.2
      rwa [e1, e2] at this
    have hfl : flatK En.l 6 d' = (ce d'.toList).toArray := by
      have := flat_ce' d'.toList
      rwa [Array.toArray_toList] at this
    refine ⟨rfl, d'.toList, hperm, inK_of (by rw [hsz]; exact hs), ?_, ?_⟩
    · unfold sortWorldK putRowK
      rw [hfl]
      have hcl : (ce d'.toList).length = n * 6 := by rw [ce_len]; simp [hsz]
      refine ⟨hcl, .inr ⟨g, cap, _, rfl, hbg, heap_sortedK _ hg, hnc, hcm, by simp [putCells, hcs], ?_⟩⟩
      rw [← hcl]
      exact take_putK cur _ (by rw [hcl, hcs]; omega)
    · unfold sortWorldK putRowK
      exact grownBy_sortedK _
end Go.Proofs.Ytpjbacpchmemeaa.DiB

namespace Go.Proofs.Ytpjbacpchmemeaa.DiC
open Go.RowKit Rd Go.Proofs.Ytpjbacpchmemeaa.Row Mid PgM PgA PgB PgC DiM DiA
open Go.Proofs.Ytpjbacpchmemeaa.Num (ret_int ret_bool)
open Go.Proofs.Ytpjbacpchmemeaa.DiM (at_ at_get ce ce_len ce_app ce_one ce_ones)
set_option linter.unusedVariables false
set_option linter.unusedSimpArgs false
set_option maxRecDepth 10000
abbrev Rown (W : World) (base : Nat) (v : Value) (n : Nat) (r : List En) : Prop := W.ownsRow base 39 6 v n (ce r)
theorem Rown.len {W : World} {base n : Nat} {v : Value} {r : List En} (h : Rown W base v n r) : r.length = n := by
  have := h.1
  rw [ce_len] at this
  omega
theorem Rown.below {w w' : World} {base : Nat} {v : Value} {n : Nat} {r : List En} (h : Rown w base v n r) (hb : Below w.heap.size w w') : Rown w' base v n r := by
  refine ⟨h.1, ?_⟩
  rcases h.2 with hn | ⟨g, cap, cur, rfl, h2, hg, rest⟩
  · exact .inl hn
  · refine .inr ⟨g, cap, cur, rfl, h2, ?_, rest⟩
    rw [hb.block g (Array.getElem?_eq_some_iff.1 hg).1]
    exact hg
/-- what it is -/
theorem Rown.is {W : World} {base n : Nat} {v : Value} {r : List En} (h : Rown W base v n r) : (v = .slice none 0 0 ∧ r = [] ∧ n = 0) ∨ ∃ g cap, v = .slice (some ⟨g, 0, none⟩) n cap ∧ base ≤ g ∧ g < W.heap.size ∧ Reads W 6 (some ⟨g, 0, none⟩) n (ce r) := by
  have hl := h.len
  rcases h.2 with ⟨rfl, rfl⟩ | ⟨g, cap, cur, rfl, h2, hg, _⟩
  · exact .inl ⟨rfl, List.eq_nil_of_length_eq_zero hl, rfl⟩
  · exact .inr ⟨g, cap, rfl, h2, (Array.getElem?_eq_some_iff.1 hg).1, Reads.of_owns h⟩
theorem app_en {ops : Array Oper} {rest : List Oper} {o : Oper} {a : Act} {w : World} {Q : Exit → Act → World → Prop} (hgd : o.guard = none) (s x : Operand)
    (ho : o.op = .call { callee := .builtin .append, args := #[s, x], argTypes := #[22, 22] })
    (base : Nat) (v : Value) (m : Nat) (r : List En) (hs : a.eval s = v) (hown : Rown w base v m r)
    (gx : Nat) (cx : Nat) (y : En) (hx : a.eval x = .slice (some ⟨gx, 0, none⟩) 1 cx) (hg : blk w gx = some (.cells y.c 39 (0, 0))) (hm : m ≤ 1000000) (hbase : base ≤ w.heap.size)
    (h : ∀ v' w', Rown w' base v' (m + 1) (r ++ [y]) → w.grownBy w' v.ownBlock → wpList Try.prog ops Q rest (a.put o.dst v') w') : wpList Try.prog ops Q (o :: rest) a w := by
  obtain ⟨i0, hi, hz0, hz1, hz2⟩ := info_parts info_en
  refine App.wpList_append_reads w hgd s x 22 ho base 39 i0 _ 6 48 Try.underlying22 hi hz0 hz1 hz2 rfl (by decide) v m (ce r) hs hown (some ⟨gx, 0, none⟩) 1 cx (ce [y]) hx ?_ ?_ (by unfold maxLen; omega) (by omega) hbase ?_
  · refine ⟨by rw [ce_one]; rfl, Or.inr ⟨gx, 0, rfl, blk_lt hg, fun j hj => ?_⟩⟩
    rw [Nat.zero_add, blk_cell hg, ce_one]
    rw [← En.l_c, List.getElem?_toArray]
  · exact ce_ones _
  · intro v' w' h1 h2
    rw [← ce_app] at h1
    exact h v' w' h1 h2
set_option maxHeartbeats 2000000 in
theorem clone_en (ad : Option Addr) (n c : Nat) (r : List En) (w : World) (hr : Reads w 6 ad n (ce r)) (hn : n ≤ 1000000) (hc0 : ad = none → n = 0) :
    Calls Try.prog 27 #[.slice ad n c] w fun e w' => ∃ v', e = .returned v' ∧ Rown w' w.heap.size v' n r ∧ Below w.heap.size w w' := by
  obtain ⟨i0, hi, hz0, hz1, hz2⟩ := info_parts info_en
  have q22 : ∀ (w : World) (a : Option Addr) (n c n' c' : Nat), (binOp .eql 22 (.slice a n c) (.slice none n' c')).run Try.prog w = .ok (.bool a.isNone) w := fun w a n c n' c' => Lib.run_eql_slice_nil w _ _ a n c n' c' Try.underlying22
  cases ad with
  | none =>
    obtain rfl := hc0 rfl
    have h0 : r = [] := by
      have := hr.1
      rw [ce_len] at this
      exact List.eq_nil_of_length_eq_zero (by omega)
    subst h0
    clear hr
    go_enter Try.func27, Try.ntmps27
    go_wp2
    go_ret
    exact ⟨_, rfl, World.ownsRow_nil _ _ _ _, Below.refl _ _⟩
  | some ad =>
    have hmade := World.ownsRow_made w (e := 39) (size := 6) (base := w.heap.size) #[] 0 (Nat.le_refl _) (by decide) rfl
    have hB : Below w.heap.size w (w.alloc (.cells #[] 39)) := (Below.refl _ _).alloc (Nat.le_refl _) _
    have RA := hr.below hB (Nat.le_refl _)
    clear hr
    go_enter Try.func27, Try.ntmps27
    go_wp2_with (at_builtin; refine App.wpList_append_reads _ rfl (.tmp 5) (.tmp 6) 22 rfl w.heap.size 39 i0 _ 6 48 Try.underlying22 hi hz0 hz1 hz2 rfl (by decide) _ _ _ rfl hmade (some ad) n c (ce r) rfl RA (ce_ones _) (by unfold maxLen; omega) (by omega) (by simp) ?_; intro v3 w3 hown3 hgrow3)
    go_ret
    have L3 := hB.grown hgrow3 (by simp) (fun j hj => (hmade.lt j hj).1)
    exact ⟨_, rfl, by simpa using hown3, L3⟩
theorem ld_en_re {W : World} {c n : Nat} {L : List En} (h : Reads W 6 (some ⟨c, 0, none⟩) n (ce L)) {i : Nat} (hi : i < L.length) (d : Nat) (os : Array Obj) :
    (loadRow 39 (.pointer (some ⟨c, i * 6, none⟩))).run Try.prog (Sort.grow (redrawn W d) os) = .ok (at_ L i).v (Sort.grow (redrawn W d) os) := by
  have := ld_en (h.below (below_regrown W d os) (Nat.le_refl _)) hi
  rwa [Nat.zero_add] at this
theorem ld_pg_re {W : World} {c n : Nat} {L : List En} (h : Reads W 6 (some ⟨c, 0, none⟩) n (ce L)) {i : Nat} (hi : i < L.length) (d : Nat) (os : Array Obj) :
    (loadRow 25 (.pointer (some ⟨c, i * 6, none⟩))).run Try.prog (Sort.grow (redrawn W d) os) = .ok (pg (at_ L i).L (at_ L i).X (at_ L i).Y) (Sort.grow (redrawn W d) os) := by
  have := ld_pgen (h.below (below_regrown W d os) (Nat.le_refl _)) hi
  rwa [Nat.zero_add] at this
/-- has a page of a row the one ahead of it? -/
def twiceB (r : List En) : Bool := (List.range (r.length - 1)).any fun i => decide ((at_ r (i + 1)).P = (at_ r i).P)
theorem twice_yes {r : List En} {i : Nat} (hi : i + 1 < r.length) (h : (at_ r (i + 1)).P = (at_ r i).P) : twiceB r = true :=
  List.any_eq_true.2 ⟨i, by simp; omega, decide_eq_true h⟩
theorem twice_no {r : List En} (h : ∀ i, i + 1 < r.length → (at_ r (i + 1)).P ≠ (at_ r i).P) : twiceB r = false :=
  List.any_eq_false.2 fun i hi => by
    have := h i (by simp at hi; omega)
    simpa using this
attribute [local go_sem ↓] load_pg store_pg load_en store_en eq_pg3
attribute [local go_sem] one_int pc3 piece36 piece66
set_option maxHeartbeats 2000000 in
theorem twice_any (base n : Nat) (v : Value) (r : List En) (w : World) (hv : Rown w base v n r) (hn : n ≤ 1000000) :
    Calls Try.prog 31 #[v] w fun e w' => e = .returned (.bool (twiceB r)) ∧ Below w.heap.size w w' := by
  have hl := hv.len
  obtain ⟨ad, cap, rfl, HA⟩ : ∃ ad cap, v = .slice ad n cap ∧ Hid (r ≠ [] → ∃ g, ad = some ⟨g, 0, none⟩ ∧ g < w.heap.size ∧ Reads w 6 (some ⟨g, 0, none⟩) n (ce r)) := by
    rcases hv.is with ⟨rfl, rfl, rfl⟩ | ⟨g, cap, rfl, _, h2, h3⟩
    · exact ⟨none, 0, rfl, fun h => absurd rfl h⟩
    · exact ⟨some ⟨g, 0, none⟩, cap, rfl, fun _ => ⟨g, rfl, h2, h3⟩⟩
  have HL := Lib.hid hl
  have HT := Lib.hid (fun i => twice_yes (r := r) (i := i))
  have HF := Lib.hid (twice_no (r := r))
  obtain ⟨t, et⟩ : ∃ t, twiceB r = t := ⟨_, rfl⟩
  rw [et] at HT HF ⊢
  clear hv hl et
  go_enter Try.func31, Try.ntmps31
  go_wp2_with fail
  go_loopw [3] (fun i W => ∃ k : Nat, (k = 0 ∨ k + 1 ≤ n) ∧ i = .int .i64 ((k : Int) + 1) ∧ Hid (∀ j, j < k → (at_ r (j + 1)).P ≠ (at_ r j).P) ∧ Below w.heap.size w W) (fun i _ => n - (intOf i).toNat)
  case atStart => exact ⟨0, Or.inl rfl, rfl, fun j hj => absurd hj (Nat.not_lt_zero _), by repeat' (first | (with_reducible exact Below.refl _ _) | (with_reducible refine Rd.below_step ?_ (by assumption)) | (with_reducible refine Rd.below_alloc ?_ _) | (with_reducible refine Rd.below_drewN ?_ _) | (with_reducible refine Below.drew ?_) | (with_reducible refine Below.setCell ?_ ?_ _) | (with_reducible refine Rd.below_setRow ?_ ?_ _) | go_size | (simp only [World.size_alloc]; omega) | omega)⟩
  case round =>
    obtain ⟨k, hk, rfl, HK, hb⟩ := hrel
    rename World => W
    by_cases hlt : k + 1 < n
    · have hlt' : (k : Int) + 1 < (n : Int) := by omega
      have hr : r ≠ [] := by
        have := HL.out
        intro h
        subst h
        simp at this
        omega
      obtain ⟨g, rfl, hg, hR⟩ := HA.out hr
      have hRW := hR.below (by exact hb) (Nat.le_refl _)
      have g1 := ld_pg_re hRW (i := k + 1) (by rw [HL.out]; omega)
      have g2 := ld_pg_re hRW (i := k) (by rw [HL.out]; omega)
      have HG := Lib.hid (show r ≠ [] from hr)
      clear hR hRW hr
      have h0 : (0 : Int) ≤ (k : Int) + 1 := by omega
      have h1 : (k : Int) < (n : Int) := by omega
      have tn : ((k : Int) + 1).toNat = k + 1 := by omega
      go_upto_region 4 with (fail)
      (refine wp_region_quiet_below (by kernel_rfl) (by kernel_rfl) ?_; (repeat (go_big_quiet_step ((fail)))); refine wpQuiet_nil ?_)
      intro w2 hU
      have KU := Rd.below_of_regrown hU
      have L2 : Below w.heap.size w w2 := by repeat' (first | (with_reducible exact Below.refl _ _) | (with_reducible refine Rd.below_step ?_ (by assumption)) | (with_reducible refine Rd.below_alloc ?_ _) | (with_reducible refine Rd.below_drewN ?_ _) | (with_reducible refine Below.drew ?_) | (with_reducible refine Below.setCell ?_ ?_ _) | (with_reducible refine Rd.below_setRow ?_ ?_ _) | go_size | (simp only [World.size_alloc]; omega) | omega)
      clear g1 g2 hU KU
      obtain ⟨q, eq⟩ : ∃ q, eqL [(at_ r (k + 1)).L, (at_ r (k + 1)).X, (at_ r (k + 1)).Y] [(at_ r k).L, (at_ r k).X, (at_ r k).Y] = q := ⟨_, rfl⟩
      rw [eq]
      have EQ := Lib.hid eq
      clear eq
      cases q
      case true =>
        have E := Lib.hid (HT.out k (by rw [HL.out]; exact hlt) (of_decide_eq_true EQ.out))
        go_wp2
        go_ret
        exact ⟨by rw [E.out]; rfl, L2⟩
      case false =>
        have HE := Lib.hid (show (at_ r (k + 1)).P ≠ (at_ r k).P from of_decide_eq_false EQ.out)
        go_wp2
        go_roundw
        case rel => exact ⟨k + 1, by omega, by go_num, fun j hj => by rcases Nat.lt_or_ge j k with h | h; exact HK.out j h; rw [show j = k by omega]; exact HE.out, L2⟩
        case measure => simp [intOf]; omega
    · have hlt' : ¬ (k : Int) + 1 < (n : Int) := by omega
      have E := Lib.hid (HF.out (fun i hi => HK.out i (by have := HL.out; omega)))
      go_wp2
      go_ret
      exact ⟨by rw [E.out]; rfl, by repeat' (first | (with_reducible exact Below.refl _ _) | (with_reducible refine Rd.below_step ?_ (by assumption)) | (with_reducible refine Rd.below_alloc ?_ _) | (with_reducible refine Rd.below_drewN ?_ _) | (with_reducible refine Below.drew ?_) | (with_reducible refine Below.setCell ?_ ?_ _) | (with_reducible refine Rd.below_setRow ?_ ?_ _) | go_size | (simp only [World.size_alloc]; omega) | omega)⟩
end Go.Proofs.Ytpjbacpchmemeaa.DiC

namespace Go.Proofs.Ytpjbacpchmemeaa.DiD
open Go.RowKit Rd Go.Proofs.Ytpjbacpchmemeaa.Row Mid PgM PgA PgB PgC DiM DiA DiC
open Go.Proofs.Ytpjbacpchmemeaa.Num (ret_int ret_bool)
open Go.Proofs.Ytpjbacpchmemeaa.DiM (at_ at_get ce ce_len ce_app ce_one ce_ones)
set_option linter.unusedVariables false
set_option linter.unusedSimpArgs false
set_option maxRecDepth 10000
/-- one lies behind the other -/
def far (p q : En) : Prop := p.S + secV p.N ≤ q.S ∨ q.S + secV q.N ≤ p.S
instance (p q : En) : Decidable (far p q) := by unfold far; infer_instance
def overB (r : List En) : Bool := !decide (r.Pairwise far)
/-- it has a sector -/
def cov (p : En) (s : Nat) : Prop := p.S ≤ (s : Int) ∧ (s : Int) < p.S + secV p.N
instance (p : En) (s : Nat) : Decidable (cov p s) := by unfold cov; infer_instance
/-- what is taken -/
def cv (l : List En) (s : Nat) : Bool := l.any fun p => decide (cov p s)
def cvp (l : List En) (p : En) (t : Nat) (s : Nat) : Bool := cv l s || decide (p.S ≤ (s : Int) ∧ (s : Int) < p.S + t)
theorem cvp_0 (l : List En) (p : En) : cvp l p 0 = cv l := by
  funext s
  unfold cvp
  rw [decide_eq_false (by omega), Bool.or_false]
theorem cvp_all {l : List En} {p : En} {m : Nat} (h : secV p.N = m) : cvp l p m = cv (l ++ [p]) := by
  funext s
  unfold cvp cv
  rw [List.any_append]
  simp only [List.any_cons, List.any_nil, Bool.or_false]
  congr 1
  exact decide_eq_decide.2 (by unfold cov; rw [h])
theorem cvp_step {l : List En} {p : En} {s t : Nat} (h : p.S = s) : (fun j => decide (j = s + t) || cvp l p t j) = cvp l p (t + 1) := by
  funext j
  unfold cvp
  rw [h]
  by_cases h1 : cv l j = true
  · simp [h1]
  · rw [Bool.not_eq_true] at h1
    rw [h1, Bool.false_or, Bool.false_or]
    by_cases h2 : j = s + t
    · rw [decide_eq_true h2, Bool.true_or, decide_eq_true (by omega)]
    · rw [decide_eq_false h2, Bool.false_or]
      by_cases h3 : (s : Int) ≤ j ∧ (j : Int) < s + t
      · rw [decide_eq_true h3, decide_eq_true (by omega)]
      · rw [decide_eq_false h3, decide_eq_false (by omega)]
theorem cv_mem {l : List En} {s : Nat} (h : cv l s = true) : ∃ q ∈ l, cov q s := by
  obtain ⟨q, hq, h⟩ := List.any_eq_true.1 h
  exact ⟨q, hq, of_decide_eq_true h⟩
theorem cv_not {l : List En} {s : Nat} (h : cv l s = false) : ∀ q ∈ l, ¬ cov q s := fun q hq => of_decide_eq_false (by
  have := List.any_eq_false.1 h q hq
  simpa using this)
theorem far_of {p q : En} {s m : Nat} (hs : p.S = s) (hm : secV p.N = m) (h1 : 1 ≤ m) (h : ∀ t, t < m → ¬ cov q (s + t)) (hq : 1 ≤ secV q.N) : far q p := by
  unfold far
  rw [hs, hm]
  rcases (show q.S < (s : Int) + m ∨ (s : Int) + m ≤ q.S by omega) with h2 | h2
  · rcases (show (s : Int) < q.S + secV q.N ∨ q.S + secV q.N ≤ s by omega) with h3 | h3
    · exfalso
      rcases (show (s : Int) < q.S ∨ q.S ≤ s by omega) with h4 | h4
      · refine h (q.S - s).toNat (by omega) ?_
        unfold cov
        omega
      · refine h 0 (by omega) ?_
        unfold cov
        omega
    · exact Or.inl h3
  · exact Or.inr (by omega)
theorem not_far {p q : En} {s t m : Nat} (hs : p.S = s) (hm : secV p.N = m) (ht : t < m) (h : cov q (s + t)) : ¬ far q p := by
  unfold far cov at *
  rw [hs, hm]
  omega
/-- the table -/
def bc (T : Nat → Bool) : Array Value := ((List.range 2048).map fun i => Value.bool (T i)).toArray
theorem bc_at (T : Nat → Bool) {i : Nat} (h : i < 2048) : (bc T)[i]? = some (.bool (T i)) := by simp [bc, h]
theorem bc_set (T : Nat → Bool) {i : Nat} (h : i < 2048) : (bc T).setIfInBounds i (.bool true) = bc (fun j => decide (j = i) || T j) := by
  apply Array.ext_getElem?
  intro j
  rw [Array.getElem?_setIfInBounds]
  by_cases hj : j < 2048
  · rw [bc_at _ hj, bc_at _ hj]
    by_cases e : i = j
    · subst e
      simp [bc, h]
    · rw [if_neg e, decide_eq_false (fun e' => e e'.symm), Bool.false_or]
  · have e : i ≠ j := by omega
    rw [if_neg e, Array.getElem?_eq_none (by simp [bc]; omega), Array.getElem?_eq_none (by simp [bc]; omega)]
def TB (W : World) (g : Nat) (T : Nat → Bool) : Prop := blk W g = some (.cells (bc T) 4 (0, 0))
theorem TB.c {W : World} {g : Nat} {T : Nat → Bool} (h : TB W g T) {i : Nat} (hi : i < 2048) : W.cell? ⟨g, i, none⟩ = some (.bool (T i)) := by rw [blk_cell h]; exact bc_at T hi
theorem TB.f {W : World} {g : Nat} {T : Nat → Bool} (h : TB W g T) (i : Nat) : W.frozen? ⟨g, i, none⟩ = false := blk_frozen h i
theorem TB.set {W : World} {g : Nat} {T : Nat → Bool} (h : TB W g T) {i : Nat} (hi : i < 2048) : TB (W.setCell ⟨g, i, none⟩ (.bool true)) g (fun j => decide (j = i) || T j) := by
  unfold TB at *
  rw [blk_set W g i _ _ _ h, bc_set T hi]
theorem info_bool : (Try.prog.info? 4).map (fun i => (i.zero, i.size, i.bytes)) = some (some (.bool false), 1, 1) := by kernel_rfl
theorem made_bool : madeCells (Value.cells (.bool false)) 2048 = bc (fun _ => false) := by
  apply Array.ext
  · simp [madeCells, bc]
  · intro i h1 h2
    simp only [madeCells, Value.cells, Nat.mod_one, bc, Array.getElem_map, List.getElem_toArray, List.getElem_map]
    show #[Value.bool false][(Array.range 2048)[i]'(by simpa [madeCells] using h1) % 1]! = _
    rw [Nat.mod_one]
    rfl
theorem run_make_tab (w : World) :
    (Instr.makeSlice 80 (.int .i64 2048) (.int .i64 2048)).run Try.prog w = .ok (.slice (some ⟨w.heap.size, 0, none⟩) 2048 2048) (w.alloc (.cells (bc (cv [])) 4)) := by
  obtain ⟨i, hi, hz, hs, hb⟩ := info_parts info_bool
  have hr := run_make (P := Try.prog) w 80 4 i (.bool false) Try.underlying80 hi hz .i64 .i64 (2048 : Int) (2048 : Int) (by omega) (by omega) (by rw [hb]; omega) (by omega)
  simp only [hs, Nat.mul_one, show (2048 : Int).toNat = 2048 from rfl] at hr
  rw [hr, made_bool]
  rfl
theorem alloc_en : Instr.alloc 39 true (.tuple #[]) = allocRow 39 := rfl
theorem run_alloc_en (w : World) : (allocRow 39).run Try.prog w = .ok (.pointer (some ⟨w.heap.size, 0, none⟩)) (w.alloc (.cells En.z.c 39)) := by kernel_rfl
theorem all6 (p : En) : p.c.all (fun x => x.oneCell') 0 6 = true := by simp [En.c, Value.oneCell']
attribute [local go_sem ↓] load_en store_en alloc_en run_make_tab
attribute [local go_sem] run_alloc_en run_store_en rowStore_eq blk_alloc_at blk_alloc_old blk_drew blk_drewN setRow_alloc_at setRow_alloc_old setRow_drew setRow_drewN En.c_size En.c_all all6
theorem ld_en0 {W : World} {c n : Nat} {L : List En} (h : Reads W 6 (some ⟨c, 0, none⟩) n (ce L)) {i : Nat} (hi : i < L.length) :
    (loadRow 39 (.pointer (some ⟨c, i * 6, none⟩))).run Try.prog W = .ok (at_ L i).v W := by
  have := ld_en h hi
  rwa [Nat.zero_add] at this
theorem take_snoc {r : List En} {k : Nat} (h : k < r.length) : r.take (k + 1) = r.take k ++ [at_ r k] := by
  rw [at_get h, List.take_append_getElem h]
set_option maxHeartbeats 4000000 in
theorem overlap_any (base n : Nat) (v : Value) (d : Int) (r : List En) (w : World) (hv : Rown w base v n r) (hn : n ≤ 1000000) (hm : ∀ p ∈ r, mayP d p) :
    Calls Try.prog 32 #[v] w fun e w' => e = .returned (.bool (overB r)) ∧ Below w.heap.size w w' := by
  have hl := hv.len
  obtain ⟨ad, cap, rfl, HA⟩ : ∃ ad cap, v = .slice ad n cap ∧ Hid (r ≠ [] → ∃ g, ad = some ⟨g, 0, none⟩ ∧ g < w.heap.size ∧ Reads w 6 (some ⟨g, 0, none⟩) n (ce r)) := by
    rcases hv.is with ⟨rfl, rfl, rfl⟩ | ⟨g, cap, rfl, _, h2, h3⟩
    · exact ⟨none, 0, rfl, fun h => absurd rfl h⟩
    · exact ⟨some ⟨g, 0, none⟩, cap, rfl, fun _ => ⟨g, rfl, h2, h3⟩⟩
  have HL := Lib.hid hl
  have HM := Lib.hid hm
  have HT := Lib.hid (fun (h : ¬ r.Pairwise far) => (show overB r = true by unfold overB; rw [decide_eq_false h]; rfl))
  have HF := Lib.hid (fun (h : r.Pairwise far) => (show overB r = false by unfold overB; rw [decide_eq_true h]; rfl))
  obtain ⟨res, et⟩ : ∃ t, overB r = t := ⟨_, rfl⟩
  rw [et] at HT HF ⊢
  clear hv hl et hm
  go_enter Try.func32, Try.ntmps32
  go_wp2_with fail
  have HB0 : Hid (TB (w.alloc (.cells (bc (cv [])) 4)) w.heap.size (cv (r.take 0))) := Lib.hid (by rw [List.take_zero]; exact blk_alloc_at _ _ _ rfl)
  go_loopw [10] (fun i W => ∃ k : Nat, k ≤ n ∧ i = .int .i64 (k : Int) ∧ Hid (TB W w.heap.size (cv (r.take k))) ∧ Hid ((r.take k).Pairwise far) ∧ Below w.heap.size w W) (fun i _ => n - (intOf i).toNat)
  case atStart => exact ⟨0, by omega, rfl, HB0, Lib.hid (by rw [List.take_zero]; exact List.Pairwise.nil), by repeat' (first | (with_reducible exact Below.refl _ _) | (with_reducible refine Rd.below_step ?_ (by assumption)) | (with_reducible refine Rd.below_alloc ?_ _) | (with_reducible refine Rd.below_drewN ?_ _) | (with_reducible refine Below.drew ?_) | (with_reducible refine Below.setCell ?_ ?_ _) | (with_reducible refine Rd.below_setRow ?_ ?_ _) | go_size | (simp only [World.size_alloc]; omega) | omega)⟩
  case round =>
    obtain ⟨k, hk, rfl, HK, HP, hb⟩ := hrel
    rename World => W
    clear HB0
    by_cases hlt : k < n
    · have hlt' : (k : Int) < (n : Int) := by omega
      have hkl : k < r.length := by rw [HL.out]; exact hlt
      have hr : r ≠ [] := by intro h; subst h; simp at hkl
      obtain ⟨g, rfl, hg, hR⟩ := HA.out hr
      have hld := ld_en0 (hR.below (by exact hb) (Nat.le_refl _)) hkl
      have hmk := HM.out (at_ r k) (by rw [at_get hkl]; exact List.getElem_mem hkl)
      have HS := Lib.hid (take_snoc hkl)
      obtain ⟨p, ep⟩ : ∃ p, at_ r k = p := ⟨_, rfl⟩
      rw [ep] at hld hmk HS
      clear ep hR hr
      have hgW := blk_lt HK.out
      obtain ⟨s, hs⟩ : ∃ s : Nat, p.S = s := ⟨p.S.toNat, by have := hmk.2.1; omega⟩
      have hsb := secV_bd hmk.2.2.1.1 hmk.2.2.1.2
      obtain ⟨m, hm⟩ : ∃ m : Nat, secV p.N = m := ⟨(secV p.N).toNat, by omega⟩
      have CS := Lib.hid (fun X => sectors_any p.N (by have := hmk.2.2.1; omega) X)
      rw [hm] at CS
      have h1 := hmk.2.2.2
      rw [hs, hm] at h1
      rw [hm] at hsb
      have HSe := Lib.hid hs
      have HMe := Lib.hid hm
      have HKL := Lib.hid hkl
      clear hm hmk hkl hs
      go_upto_region 5 with (fail)
      refine Rd.name_world ?_
      intro w1 hw
      have b1 : blk w1 W.heap.size = some (.cells p.c 39 (0, 0)) := by rw [hw]; exact blk_alloc_at _ _ _ rfl
      have L1 : Below w.heap.size w w1 := by
        rw [hw]
        repeat' (first | (with_reducible exact Below.refl _ _) | (with_reducible refine Rd.below_step ?_ (by assumption)) | (with_reducible refine Rd.below_alloc ?_ _) | (with_reducible refine Rd.below_drewN ?_ _) | (with_reducible refine Below.drew ?_) | (with_reducible refine Below.setCell ?_ ?_ _) | (with_reducible refine Rd.below_setRow ?_ ?_ _) | go_size | (simp only [World.size_alloc]; omega) | omega)
      have HK1 : Hid (TB w1 w.heap.size (cv (r.take k))) := Lib.hid (by rw [hw]; exact (blk_alloc_old _ _ _ hgW).trans HK.out)
      clear hw hld
      have c4 : w1.cell? ⟨W.heap.size, 4, none⟩ = some (.int .i64 p.N) := by rw [blk_cell b1]; rfl
      have B1 := Lib.hid b1
      clear b1
      go_wp2_with (go_at_call 13; refine (CS.out _).mono ?_; rintro e w2 ⟨rfl, hb2⟩)
      have B2 : Hid (blk w2 W.heap.size = some (.cells p.c 39 (0, 0))) := Lib.hid ((blk_below hb2 _ (blk_lt B1.out)).trans B1.out)
      have HK2 : Hid (TB w2 w.heap.size (cvp (r.take k) p 0)) := Lib.hid (by rw [cvp_0]; exact (blk_below hb2 _ (blk_lt HK1.out)).trans HK1.out)
      have L2 : Below w.heap.size w w2 := by repeat' (first | (with_reducible exact Below.refl _ _) | (with_reducible refine Rd.below_step ?_ (by assumption)) | (with_reducible refine Rd.below_alloc ?_ _) | (with_reducible refine Rd.below_drewN ?_ _) | (with_reducible refine Below.drew ?_) | (with_reducible refine Below.setCell ?_ ?_ _) | (with_reducible refine Rd.below_setRow ?_ ?_ _) | go_size | (simp only [World.size_alloc]; omega) | omega)
      clear hb2 c4 HK1 B1
      go_loopw [17] (fun i Z => ∃ t : Nat, t ≤ m ∧ i = .int .i64 (t : Int) ∧ Hid (TB Z w.heap.size (cvp (r.take k) p t)) ∧ Hid (blk Z W.heap.size = some (.cells p.c 39 (0, 0))) ∧ Hid (∀ j, j < t → cv (r.take k) (s + j) = false) ∧ Below w.heap.size w Z) (fun i _ => m - (intOf i).toNat)
      case atStart => exact ⟨0, by omega, rfl, HK2, B2, Lib.hid (fun j hj => absurd hj (Nat.not_lt_zero _)), L2⟩
      case round =>
        obtain ⟨t, ht, rfl, HZ, BZ, HJ, hz⟩ := hrel
        rename World => Z
        clear HK2 B2
        by_cases hlt2 : t < m
        · have hlt2' : (t : Int) < (m : Int) := by omega
          have hcell := HZ.out.c (i := s + t) (by omega)
          have hfr := HZ.out.f (s + t)
          have c3 : Z.cell? ⟨W.heap.size, 3, none⟩ = some (.int .i64 (s : Int)) := by rw [blk_cell BZ.out, ← HSe.out]; rfl
          have hsk : ((s : Int) + (t : Int)) = ((s + t : Nat) : Int) := by omega
          have HT0 : Hid (cvp (r.take k) p t (s + t) = cv (r.take k) (s + t)) := Lib.hid (by unfold cvp; rw [HSe.out, decide_eq_false (by omega), Bool.or_false])
          rw [HT0.out] at hcell
          obtain ⟨q, eq⟩ : ∃ q, cv (r.take k) (s + t) = q := ⟨_, rfl⟩
          rw [eq] at hcell
          have EQ := Lib.hid eq
          clear eq
          obtain ⟨a, ha⟩ : ∃ a, s + t = a := ⟨_, rfl⟩
          rw [ha] at hsk hcell hfr
          have haN : a < 2048 := by omega
          have HAe := Lib.hid ha
          clear ha
          cases q
          case true =>
            obtain ⟨q', hq', hc'⟩ := cv_mem EQ.out
            have E := Lib.hid (HT.out (fun h => by
              have h2 := h.sublist (List.take_sublist (k + 1) r)
              rw [HS.out] at h2
              exact not_far HSe.out HMe.out hlt2 hc' ((List.pairwise_append.1 h2).2.2 q' hq' p (by simp))))
            clear hq' hc'
            go_wp2
            go_ret
            exact ⟨by rw [E.out]; rfl, by repeat' (first | (with_reducible exact Below.refl _ _) | (with_reducible refine Rd.below_step ?_ (by assumption)) | (with_reducible refine Rd.below_alloc ?_ _) | (with_reducible refine Rd.below_drewN ?_ _) | (with_reducible refine Below.drew ?_) | (with_reducible refine Below.setCell ?_ ?_ _) | (with_reducible refine Rd.below_setRow ?_ ?_ _) | go_size | (simp only [World.size_alloc]; omega) | omega)⟩
          case false =>
            go_wp2
            go_roundw
            case rel => exact ⟨t + 1, by omega, by go_num, Lib.hid (by
              rw [← cvp_step HSe.out, HAe.out]
              exact HZ.out.set haN), Lib.hid ((heap_setCell_other _ _ _ _ (by show W.heap.size ≠ w.heap.size; omega)).trans BZ.out), Lib.hid (fun j hj => by rcases Nat.lt_or_ge j t with h | h; exact HJ.out j h; rw [show j = t by omega]; exact EQ.out), by repeat' (first | (with_reducible exact Below.refl _ _) | (with_reducible refine Rd.below_step ?_ (by assumption)) | (with_reducible refine Rd.below_alloc ?_ _) | (with_reducible refine Rd.below_drewN ?_ _) | (with_reducible refine Below.drew ?_) | (with_reducible refine Below.setCell ?_ ?_ _) | (with_reducible refine Rd.below_setRow ?_ ?_ _) | go_size | (simp only [World.size_alloc]; omega) | omega)⟩
            case measure => simp [intOf]; omega
        · obtain rfl : t = m := by omega
          have HN1 : Hid ((r.take (k + 1)).Pairwise far) := Lib.hid (by
            rw [HS.out]
            refine List.pairwise_append.2 ⟨HP.out, List.pairwise_singleton _ _, fun q hq p' hp' => ?_⟩
            obtain rfl : p' = p := by simpa using hp'
            have hqm := HM.out q (List.mem_of_mem_take hq)
            exact far_of HSe.out HMe.out (by omega) (fun j hj => cv_not (HJ.out j hj) q hq) (secV_bd hqm.2.2.1.1 hqm.2.2.1.2).1)
          have HZ1 : Hid (TB Z w.heap.size (cv (r.take (k + 1)))) := Lib.hid (by
            rw [HS.out, ← cvp_all HMe.out]
            exact HZ.out)
          clear HZ BZ HJ
          go_wp2
          go_roundw
          case rel => exact ⟨k + 1, by omega, by go_num, HZ1, HN1, hz⟩
          case measure => simp [intOf]; omega
    · obtain rfl : k = n := by omega
      have E := Lib.hid (HF.out (by
        have := HP.out
        rwa [List.take_of_length_le (by rw [HL.out]; exact Nat.le_refl _)] at this))
      go_wp2
      go_ret
      exact ⟨by rw [E.out]; rfl, by repeat' (first | (with_reducible exact Below.refl _ _) | (with_reducible refine Rd.below_step ?_ (by assumption)) | (with_reducible refine Rd.below_alloc ?_ _) | (with_reducible refine Rd.below_drewN ?_ _) | (with_reducible refine Below.drew ?_) | (with_reducible refine Below.setCell ?_ ?_ _) | (with_reducible refine Rd.below_setRow ?_ ?_ _) | go_size | (simp only [World.size_alloc]; omega) | omega)⟩
end Go.Proofs.Ytpjbacpchmemeaa.DiD

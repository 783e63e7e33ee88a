/-
  The document's own directory: the mathematics of its New.
  The document's own directory: New.
-/
import Derived.Test.YtpjbacpchmemeaaDiX
import Derived.Test.YtpjbacpchmemeaaDiZ
import Derived.Test.YtpjbacpchmemeaaPredU
import Derived.BigGuard
namespace Go.Proofs.Ytpjbacpchmemeaa.DiRa
open Go.RowKit Go.Shelf Rd Go.Proofs.Ytpjbacpchmemeaa.Row Mid PgM DiM DiA DiC DiD DiE DiF DiJ DiX
open Go.Proofs.Ytpjbacpchmemeaa.DiM (at_ at_get ce ce_len ce_app ce_one ce_ones ce_at)
set_option linter.unusedVariables false
set_option linter.unusedSimpArgs false
theorem good_nil {d : Int} (h : 0 ≤ d ∧ d ≤ 3) : good d [] := ⟨h, by simp, List.Pairwise.nil⟩
theorem mem_take {l : List En} {k : Nat} {p : En} (h : p ∈ l.take k) : p ∈ l := List.mem_of_mem_take h
/-- one more -/
theorem good_snoc {d : Int} {l : List En} {k : Nat} (hk : k < l.length) (hg : good d (l.take k)) (hm : mayP d (at_ l k)) (ha : ∀ p ∈ l.take k, apart p (at_ l k)) : good d (l.take (k + 1)) := by
  rw [take_snoc hk]
  refine ⟨hg.1, fun p hp => ?_, List.pairwise_append.2 ⟨hg.2.2, by simp, fun p hp q hq => ?_⟩⟩
  · rcases List.mem_append.1 hp with hp | hp
    · exact hg.2.1 p hp
    · rw [List.mem_singleton.1 hp]; exact hm
  · rw [List.mem_singleton.1 hq]; exact ha p hp
/-- two that have something in common -/
theorem new_conf {d : Int} {l : List En} {k : Nat} (hk : k < l.length) {p : En} (hp : p ∈ l.take k) (h : ¬ apart p (at_ l k)) : newV d l = none := by
  unfold newV
  rw [if_neg]
  intro hg
  have h1 : (l.take (k + 1)).Pairwise apart := hg.2.2.sublist (List.take_sublist _ _)
  rw [take_snoc hk] at h1
  exact h ((List.pairwise_append.1 h1).2.2 p hp _ (by simp))
theorem new_all {d : Int} {l : List En} (h : good d (l.take l.length)) : newV d l = some (srt d (l.take l.length)) := by
  rw [List.take_length] at h ⊢
  unfold newV
  rw [if_pos h]
theorem srt_mem {d : Int} {l : List En} {p : En} : p ∈ srt d l ↔ p ∈ l := (srt_perm d l).mem_iff
/-- its place -/
theorem ins_srt {d : Int} {l : List En} {k q : Nat} (hk : k < l.length) (hg : good d (l.take (k + 1))) (hq : q ≤ k) (h1 : ∀ j, q ≤ j → j < k → (at_ l k).K d < (at_ (srt d (l.take k)) j).K d) (h2 : q = 0 ∨ ¬ (at_ l k).K d < (at_ (srt d (l.take k)) (q - 1)).K d) :
    (srt d (l.take k)).take q ++ at_ l k :: (srt d (l.take k)).drop q = srt d (l.take (k + 1)) := by
  have hl : (srt d (l.take k)).length = k := by rw [srt_len, List.length_take]; omega
  have hg0 : good d (l.take k) := by
    rw [take_snoc hk] at hg
    exact ⟨hg.1, fun p hp => hg.2.1 p (by simp [hp]), (List.pairwise_append.1 hg.2.2).1⟩
  have hb := srt_by hg0
  have hme : mayP d (at_ l k) := hg.2.1 _ (by rw [take_snoc hk]; simp)
  have hne : ∀ p ∈ srt d (l.take k), p.K d ≠ (at_ l k).K d := fun p hp => by
    have hp' := srt_mem.1 hp
    have := hg.2.2
    rw [take_snoc hk] at this
    exact key_ne hg.1 (hg0.2.1 p hp') hme ((List.pairwise_append.1 this).2.2 p hp' _ (by simp)).1
  refine srt_uniq hg ?_ ?_
  · rw [take_snoc hk]
    refine List.Perm.trans ?_ (List.Perm.append_right _ (srt_perm d (l.take k)))
    refine (List.perm_middle).trans ?_
    rw [List.take_append_drop]
    exact (List.perm_append_comm (l₁ := [at_ l k]))
  · generalize hr : srt d (l.take k) = r at *
    have hlow : ∀ p ∈ r.take q, p.K d < (at_ l k).K d := by
      intro p hp
      by_cases h0 : q = 0
      · subst h0; simp at hp
      · have hq1 : q - 1 < r.length := by omega
        have h3 := h2.resolve_left h0
        have h4 := hne _ (show r[q - 1] ∈ r from List.getElem_mem hq1)
        rw [at_get hq1] at h3
        obtain ⟨i, hi, rfl⟩ := List.mem_iff_getElem.1 hp
        rw [List.length_take] at hi
        rw [List.getElem_take]
        rcases Nat.lt_or_ge i (q - 1) with h5 | h5
        · have := List.pairwise_iff_getElem.1 hb i (q - 1) (by omega) hq1 h5
          omega
        · have e : i = q - 1 := by omega
          subst e
          omega
    have hhigh : ∀ p ∈ r.drop q, (at_ l k).K d < p.K d := by
      intro p hp
      obtain ⟨i, hi, rfl⟩ := List.mem_iff_getElem.1 hp
      rw [List.length_drop] at hi
      rw [List.getElem_drop]
      have := h1 (q + i) (by omega) (by omega)
      have e9 : at_ r (q + i) = r[q + i] := at_get (by omega)
      rw [e9] at this
      exact this
    have hb2 : (r.take q ++ r.drop q).Pairwise (fun p q => p.K d < q.K d) := by rw [List.take_append_drop]; exact hb
    have hb3 := List.pairwise_append.1 hb2
    refine List.pairwise_append.2 ⟨hb3.1, List.pairwise_cons.2 ⟨hhigh, hb3.2.1⟩, fun p hp x hx => ?_⟩
    rcases List.mem_cons.1 hx with rfl | hx
    · exact hlow p hp
    · exact hb3.2.2 p hp x hx
end Go.Proofs.Ytpjbacpchmemeaa.DiRa

namespace Go.Proofs.Ytpjbacpchmemeaa.DiRb
open Go.RowKit Go.Shelf Rd Go.Proofs.Ytpjbacpchmemeaa.Row Mid PgM PgA PgB PgC DiM DiA DiC DiD DiE DiF DiJ DiK DiL DiX DiZ0 DiRa
open Go.Proofs.Ytpjbacpchmemeaa.DiM (at_ at_get ce ce_len ce_app ce_one ce_ones ce_at)
set_option linter.unusedVariables false
set_option linter.unusedSimpArgs false
set_option maxRecDepth 10000
attribute [local go_sem ↓] load_pg store_pg load_en store_en alloc_en eq_pg3
attribute [local go_sem] one_int pc3 piece_en piece_p3 DiI.fold_en run_store_pg run_alloc_en run_store_en rowStore_eq blk_alloc_at blk_alloc_old blk_drew blk_drewN blk_set_far blk_set_far' blk_grow setRow_alloc_at setRow_alloc_old setRow_drew setRow_drewN En.c_size En.c_all all6
/-- the document's directory, as it lies -/
def Rf (X : World) (t : Nat) (d : Int) (r : List En) : Prop := ∃ a c, blk X t = some (.cells #[.int .i64 d, .slice a r.length c] 47 (0, 0)) ∧ RdE X a r ∧ r.length ≤ c
theorem Rf.bel {X Y : World} {t : Nat} {d : Int} {r : List En} (h : Rf X t d r) (hb : Below X.heap.size X Y) : Rf Y t d r := by
  obtain ⟨a, c, h1, h2, h3⟩ := h
  exact ⟨a, c, (blk_below hb t (blk_lt h1)).trans h1, h2.bel hb, h3⟩
theorem Rf.lt {X : World} {t : Nat} {d : Int} {r : List En} (h : Rf X t d r) : t < X.heap.size := by
  obtain ⟨a, c, h1, h2, h3⟩ := h
  exact blk_lt h1
def RfO (X : World) (v : Value) (d : Int) (o : Option (List En)) : Prop := match o with
  | none => v = .pointer none
  | some r => ∃ t, v = .pointer (some ⟨t, 0, none⟩) ∧ Rf X t d r
theorem ld_pbox {W : World} {b : Nat} {p : En} (h : blk W b = some (.cells p.c 39 (0, 0))) : (loadRow 25 (.pointer (some ⟨b, 0, none⟩))).run Try.prog W = .ok (pg p.L p.X p.Y) W := by
  rw [run_load_pg, midLoad_eq, h]
  rfl
theorem sectors_may {p : En} {d : Int} (h : mayP d p) (X : World) : Calls Try.prog 14 #[.int .i64 p.N] X fun e w' => e = .returned (.int .i64 (secV p.N)) ∧ Below X.heap.size X w' :=
  rsectors_any p.N (by have := h.2.2.1; omega) X
section
variable {X Y : World}
theorem yields_app_e {ops : Array Oper} {o : Oper} {b : Act} {w : World} {R : Value → World → Prop} (hgd : o.guard = none) (s x : Operand)
    (ho : o.op = .call { callee := .builtin .append, args := #[s, x], argTypes := #[22, 22] })
    (base : Nat) (v : Value) (n : Nat) (r : List En) (hs : b.eval s = v) (hown : Rown w base v n r)
    (ad : Option Addr) (m c : Nat) (r2 : List En) (hx : b.eval x = .slice ad m c) (hr : Reads w 6 ad m (ce r2))
    (h63 : n + m ≤ 1000000) (hbase : base ≤ w.heap.size)
    (h : ∀ v' w', Rown w' base v' (n + m) (r ++ r2) → w.grownBy w' v.ownBlock → R v' w') : Pred.yields Try.prog ops o b w R := by
  obtain ⟨i0, hi, hz0, hz1, hz2⟩ := info_parts info_en
  obtain ⟨v', w', hrun, h2, h3⟩ := App.run_append_reads (P := Try.prog) w base 22 o.type 39 i0 _ 6 48 Try.underlying22 hi hz0 hz1 hz2 rfl (by decide) v n (ce r) hown ad m c (ce r2)
    hr (ce_ones r2) (by unfold maxLen; omega) (by omega) hbase
  rw [← ce_app] at h2
  refine Pred.yields_run (v := v') (w' := w') (Pred.wanted_none hgd) ?_ (h v' w' h2 h3)
  unfold execOp
  simp only [ho, resolve, invoke, builtin, Sem.run_bind, Sem.run_pure, Result.andThen_ok, List.map_toArray, List.map_cons, List.map_nil, hs, hx, hrun]
theorem en_front (a : Option Addr) (N c M : Nat) (y : World) (h : M ≤ c) : (Instr.sliceAt 22 (.slice a N c) none (some (.int .i64 (M : Int))) none).run Try.prog y = .ok (.slice a M c) y := by
  have h0 : (0 : Int) ≤ (M : Int) := by omega
  have h1 : (M : Int) ≤ (c : Int) := by omega
  have h2 := add0 a c
  go_simp
theorem en_back (a : Option Addr) (N c M : Nat) (y : World) (h : M ≤ N) : (Instr.sliceAt 22 (.slice a N c) (some (.int .i64 (M : Int))) none none).run Try.prog y = .ok (.slice (if c = M then a else a.map (·.add (M * 6))) (N - M) (c - M)) y := by
  have h0 : (0 : Int) ≤ (M : Int) := by omega
  have h1 : (M : Int) ≤ (N : Int) := by omega
  go_simp
theorem run_front {o : Oper} {b : Act} {x y : Nat} {a : Option Addr} {N c M : Nat} (ho : o.op = .slice 22 (.tmp x) none (some (.tmp y)) none) (hx : b.tmps[x]?.getD undef = .slice a N c) (hy : b.tmps[y]?.getD undef = .int .i64 (M : Int)) (h : M ≤ c) : (execOp b.eval o).run Try.prog X = .ok (.value (.slice a M c)) X := by
  have hx' : b.eval (.tmp x) = .slice a N c := by simpa [Act.eval] using hx
  have hy' : b.eval (.tmp y) = .int .i64 (M : Int) := by simpa [Act.eval] using hy
  unfold execOp
  simp only [ho, Option.map_some, Option.map_none, hx', hy', Sem.run_bind, en_front a N c M X h, Result.andThen_ok, Sem.run_pure]
theorem run_back {o : Oper} {b : Act} {x y : Nat} {a : Option Addr} {N c M : Nat} (ho : o.op = .slice 22 (.tmp x) (some (.tmp y)) none none) (hx : b.tmps[x]?.getD undef = .slice a N c) (hy : b.tmps[y]?.getD undef = .int .i64 (M : Int)) (h : M ≤ N) : (execOp b.eval o).run Try.prog X = .ok (.value (.slice (if c = M then a else a.map (·.add (M * 6))) (N - M) (c - M))) X := by
  have hx' : b.eval (.tmp x) = .slice a N c := by simpa [Act.eval] using hx
  have hy' : b.eval (.tmp y) = .int .i64 (M : Int) := by simpa [Act.eval] using hy
  unfold execOp
  simp only [ho, Option.map_some, Option.map_none, hx', hy', Sem.run_bind, en_back a N c M X h, Result.andThen_ok, Sem.run_pure]
theorem reads_back {a : Option Addr} {N c M : Nat} {r : List En} (hr : Reads X 6 a N (ce r)) (hN : r.length = N) (h : M ≤ N) (hc : N ≤ c) : Reads X 6 (if c = M then a else a.map (·.add (M * 6))) (N - M) (ce (r.drop M)) := by
  have e : ce r = ce (r.take M) ++ ce (r.drop M) := by rw [← ce_app, List.take_append_drop]
  have l1 : (ce (r.take M)).length = M * 6 := by rw [ce_len, List.length_take]; omega
  obtain ⟨h1, h2⟩ := hr
  refine ⟨by rw [ce_len, List.length_drop, hN], ?_⟩
  rcases h2 with h2 | ⟨b, off, rfl, hlt, hc2⟩
  · exact .inl (by omega)
  · by_cases hcm : c = M
    · exact .inl (by omega)
    · rw [if_neg hcm]
      refine .inr ⟨b, off + M * 6, by simp [Addr.add], hlt, fun i hi => ?_⟩
      rw [ce_len, List.length_drop] at hi
      rw [Nat.add_assoc, hc2 _ (by rw [ce_len]; omega), e, List.getElem?_append_right (by omega), l1, Nat.add_sub_cancel_left]
def KC (C : Array Value) : Nat → World → World → Prop := fun p w w' => p = 0 → ∀ g, blk w g = some (.cells C 39 (0, 0)) → blk w' g = blk w g
def OneC (C : Array Value) : Value → World → Prop := fun u y => ∃ g, u = .slice (some ⟨g, 0, none⟩) 1 1 ∧ blk y g = some (.cells C 39 (0, 0))
theorem onec_stab (C : Array Value) (B m : Nat) : PredU.Stab (KC C) B m (PredU.Til 1 (OneC C)) :=
  PredU.til_stab (fun v w w' ⟨g, h1, h2⟩ hb => ⟨g, h1, (blk_below hb g (blk_lt h2)).trans h2⟩) (fun p v w w' hp ⟨g, h1, h2⟩ hk => ⟨g, h1, (hk.2 (by omega) g h2).trans h2⟩)
def NoneH (lo : Nat) : Value → World → Prop := fun u y => ∃ g, u = .slice (some ⟨g, 0, none⟩) 0 0 ∧ lo ≤ g ∧ blk y g = some (.cells #[] 39 (0, 0))
theorem noneh_below {lo : Nat} {u : Value} (h : NoneH lo u X) (hb : Below X.heap.size X Y) : NoneH lo u Y := by
  obtain ⟨g, h1, h2, h3⟩ := h
  exact ⟨g, h1, h2, (blk_below hb g (blk_lt h3)).trans h3⟩
theorem yields_skip {ops : Array Oper} {o : Oper} {b : Act} {w w' : World} {R : Value → World → Prop} (hw : Region.wanted o (yielded ops b.tmps) = true) (hr : (execOp b.eval o).run Try.prog w = .ok .skip w') (h : R undef w') : Pred.yields Try.prog ops o b w R := by
  unfold Pred.yields; rw [if_pos hw, hr]; exact h
theorem own_head {B e z m i t : Nat} {u v : Value} {xs : List Value} {c : Array Value} (h : X.ownsRow B e z v m xs) (hp : blk X t = some (.cells c 47 (0, 0))) (he : e ≠ 47) : (X.setCell ⟨t, i, none⟩ u).ownsRow B e z v m xs := by
  refine ⟨h.1, h.2.imp id ?_⟩
  rintro ⟨g, cap, cur, e1, e2, e3, e4⟩
  refine ⟨g, cap, cur, e1, e2, ?_, e4⟩
  have hne : g ≠ t := fun e9 => by
    have h7 : X.heap[t]? = _ := hp
    rw [e9, h7] at e3
    cases e3
    exact he rfl
  exact (heap_setCell_other X ⟨t, i, none⟩ g u (by first | exact hne | exact fun e => hne e.symm)).trans e3
theorem reads_front9 {a : Option Addr} {N M : Nat} {r : List En} (hr : Reads X 6 a N (ce r)) (hN : r.length = N) (h : M ≤ N) : Reads X 6 a M (ce (r.take M)) := by
  have e : ce r = ce (r.take M) ++ ce (r.drop M) := by rw [← ce_app, List.take_append_drop]
  have l1 : (ce (r.take M)).length = M * 6 := by rw [ce_len, List.length_take]; omega
  obtain ⟨h1, h2⟩ := hr
  refine ⟨l1, ?_⟩
  rcases h2 with h2 | ⟨b, off, e2, hlt, hc2⟩
  · exact .inl (by omega)
  · refine .inr ⟨b, off, e2, hlt, fun i hi => ?_⟩
    rw [l1] at hi
    rw [hc2 i (by rw [ce_len]; omega), e, List.getElem?_append_left (by omega)]
end
set_option maxHeartbeats 8000000 in
theorem rnew_any (d : Int) (ad : Option Addr) (cap : Nat) (l : List En) (w : World) (hR : RdE w ad l) (hl : l.length ≤ 1000) :
    Calls Try.prog 9 #[.int .i64 d, .slice ad l.length cap] w fun e w' => (∃ v, e = .returned v ∧ RfO w' v d (newV d l)) ∧ Below w.heap.size w w' := by
  have HR := Lib.hid hR
  obtain ⟨n, en⟩ : ∃ n, l.length = n := ⟨_, rfl⟩
  rw [en] at hl ⊢
  have HN := Lib.hid en
  obtain ⟨res, er⟩ : ∃ o, newV d l = o := ⟨_, rfl⟩
  rw [er]
  have ER := Lib.hid er
  clear hR en er
  go_enter Try.func9, Try.ntmps9
  go_wp2_with fail
  refine (rwithin_any d 0 3 _).mono ?_
  rintro e w1 ⟨rfl, hb1⟩
  by_cases hd : 0 ≤ d ∧ d ≤ 3
  case neg =>
    have hdd : decide (0 ≤ d ∧ d ≤ 3) = false := decide_eq_false hd
    have E := Lib.hid (ER.out.symm.trans (new_depth l (show depthB d = false from hdd)))
    rw [hdd]
    go_wp2
    go_ret
    exact ⟨⟨_, rfl, by rw [E.out]; rfl⟩, hb1⟩
  rw [decide_eq_true hd]
  go_upto_region 4 with (fail)
  refine Rd.name_world ?_
  intro w2 hw
  have hz : w2.heap.size = w1.heap.size + 1 := by rw [hw]; simp
  have bT : blk w2 w1.heap.size = some (.cells #[.int .i64 d, .slice none 0 0] 47 (0, 0)) := by rw [hw]; exact blk_alloc_at _ _ _ rfl
  have L2 : Below w.heap.size w w2 := by
    rw [hw]
    repeat' (first | (with_reducible exact Below.refl _ _) | (with_reducible refine Rd.below_step ?_ (by assumption)) | (with_reducible refine Rd.below_alloc ?_ _) | (with_reducible refine Rd.below_drewN ?_ _) | (with_reducible refine Below.drew ?_) | (with_reducible refine Below.setCell ?_ ?_ _) | (with_reducible refine Rd.below_setRow ?_ ?_ _) | go_size | (simp only [World.size_alloc]; omega) | omega)
  have ht := hb1.size
  obtain ⟨t, et⟩ : ∃ t, w1.heap.size = t := ⟨_, rfl⟩
  rw [et] at bT hz ht ⊢
  clear hw hb1 et
  have F0 : Rf w2 t d (srt d (l.take 0)) := ⟨none, 0, bT, ⟨⟨rfl, .inl rfl⟩, fun e => absurd rfl e⟩, Nat.le_refl _⟩
  have HF0 := Lib.hid F0
  clear bT F0
  go_wp2_with fail
  go_loopw [6] (fun i W => ∃ k : Nat, k ≤ n ∧ i = .int .i64 (k : Int) ∧ Hid (good d (l.take k)) ∧ Hid (Rf W t d (srt d (l.take k))) ∧ Below w.heap.size w W) (fun i _ => n - (intOf i).toNat)
  case atStart => exact ⟨0, Nat.zero_le _, rfl, Lib.hid (good_nil hd), HF0, L2⟩
  case round =>
    obtain ⟨k, hk, rfl, HG, HF, hb⟩ := hrel
    rename World => W
    by_cases hlt : k < n
    · have hlt' : (k : Int) < (n : Int) := by omega
      obtain ⟨g, o, rfl⟩ := HR.out.2 (fun e => by have := HN.out; rw [e] at this; simp at this; omega)
      have hkl : k < l.length := by rw [HN.out]; exact hlt
      have hld := ld_en (HR.out.1.below hb (Nat.le_refl _)) hkl
      have HME := Lib.hid (show at_ l k ∈ l by rw [at_get hkl]; exact List.getElem_mem hkl)
      have HST := Lib.hid (fun hm => good_snoc (d := d) hkl HG.out hm)
      have HCF := Lib.hid (fun p hp h => new_conf (d := d) hkl (p := p) hp h)
      have HIN := Lib.hid (fun q hg hq => ins_srt (d := d) (q := q) hkl hg hq)
      obtain ⟨p, ep⟩ : ∃ p, at_ l k = p := ⟨_, rfl⟩
      rw [ep] at hld HME HST HCF HIN
      clear ep
      go_upto_region 8 with (fail)
      refine Rd.name_world ?_
      intro w3 hw
      have b3 : blk w3 W.heap.size = some (.cells p.c 39 (0, 0)) := by rw [hw]; exact blk_alloc_at _ _ _ rfl
      have hW3 : Below W.heap.size W w3 := by
        rw [hw]
        exact (Below.refl _ _).alloc (Nat.le_refl _) _
      obtain ⟨ge, ege⟩ : ∃ ge, W.heap.size = ge := ⟨_, rfl⟩
      rw [ege] at b3 ⊢
      have HF3 := Lib.hid (HF.out.bel hW3)
      have L3 := Rd.below_step hb hW3
      clear hw hld hb ege hW3 HF
      have B3 := Lib.hid b3
      have HM0 := Lib.hid (fun (h : ¬ mayP d p) => ER.out.symm.trans (new_may (d := d) HME.out h))
      have P3 := HF3
      have h1i : decide (1 ≤ p.N) = decide (1 ≤ p.N) := rfl
      have f0 : w3.cell? ⟨ge, 3, none⟩ = some (.int .i64 p.S) := by rw [blk_cell b3]; rfl
      have f1 : w3.cell? ⟨ge, 4, none⟩ = some (.int .i64 p.N) := by rw [blk_cell b3]; rfl
      have gS := Go.cell_regrown f0
      have gN := Go.cell_regrown f1
      have gP : ∀ dd os, (loadRow 25 (.pointer (some ⟨ge, 0, none⟩))).run Try.prog (Sort.grow (redrawn w3 dd) os) = .ok (pg p.L p.X p.Y) (Sort.grow (redrawn w3 dd) os) := fun dd os => ld_pbox ((blk_below (below_regrown w3 dd os) _ (blk_lt b3)).trans b3)
      have CV := Lib.hid (fun X => rvalid_any d p.L p.X p.Y X)
      have CS := Lib.hid (fun X => rwithin_any p.S 2 2047 X)
      have CN := Lib.hid (fun X => rwithin_any p.N 1 4096 X)
      obtain ⟨q1, e1⟩ : ∃ q, validB d p.L p.X p.Y = q := ⟨_, rfl⟩
      obtain ⟨q2, e2⟩ : ∃ q, decide (2 ≤ p.S ∧ p.S ≤ 2047) = q := ⟨_, rfl⟩
      obtain ⟨q3, e3⟩ : ∃ q, decide (1 ≤ p.N ∧ p.N ≤ 4096) = q := ⟨_, rfl⟩
      rw [e1] at CV
      rw [e2] at CS
      rw [e3] at CN
      have E1 := Lib.hid e1
      have E2 := Lib.hid e2
      have E3 := Lib.hid e3
      clear e1 e2 e3 b3 f0 f1 h1i P3
      cases q1
      case false =>
        have E := Lib.hid (HM0.out (fun hm => by have := hm.1.symm.trans E1.out; cases this))
        (refine wp_region_quiet_below (by kernel_rfl) (by kernel_rfl) ?_; (repeat (go_big_quiet_step ((first | (with_reducible exact Calls.regrown_of (CV.out _)) | (with_reducible exact Calls.regrown_of (CS.out _)) | (with_reducible exact Calls.regrown_of (CN.out _)))))); refine wpQuiet_nil ?_)
        intro w4 hU
        have L4 := Rd.below_step L3 (Rd.below_of_regrown hU)
        go_wp2
        go_ret
        exact ⟨⟨_, rfl, by rw [E.out]; rfl⟩, L4⟩
      cases q2
      case false =>
        have E := Lib.hid (HM0.out (fun hm => by have := of_decide_eq_false E2.out; have := hm.2.1; omega))
        (refine wp_region_quiet_below (by kernel_rfl) (by kernel_rfl) ?_; (repeat (go_big_quiet_step ((first | (with_reducible exact Calls.regrown_of (CV.out _)) | (with_reducible exact Calls.regrown_of (CS.out _)) | (with_reducible exact Calls.regrown_of (CN.out _)))))); refine wpQuiet_nil ?_)
        intro w4 hU
        have L4 := Rd.below_step L3 (Rd.below_of_regrown hU)
        go_wp2
        go_ret
        exact ⟨⟨_, rfl, by rw [E.out]; rfl⟩, L4⟩
      cases q3
      case false =>
        have E := Lib.hid (HM0.out (fun hm => by have := of_decide_eq_false E3.out; have := hm.2.2.1; omega))
        (refine wp_region_quiet_below (by kernel_rfl) (by kernel_rfl) ?_; (repeat (go_big_quiet_step ((first | (with_reducible exact Calls.regrown_of (CV.out _)) | (with_reducible exact Calls.regrown_of (CS.out _)) | (with_reducible exact Calls.regrown_of (CN.out _)))))); refine wpQuiet_nil ?_)
        intro w4 hU
        have L4 := Rd.below_step L3 (Rd.below_of_regrown hU)
        go_wp2
        go_ret
        exact ⟨⟨_, rfl, by rw [E.out]; rfl⟩, L4⟩
      have bS := of_decide_eq_true E2.out
      have bN := of_decide_eq_true E3.out
      have bc := secV_bd bN.1 bN.2
      have CC := Lib.hid (fun X => rsectors_any p.N (by omega) X)
      obtain ⟨sc, esc⟩ : ∃ z, secV p.N = z := ⟨_, rfl⟩
      rw [esc] at CC bc
      have ESC := Lib.hid esc
      clear esc
      obtain ⟨pS, epS⟩ : ∃ z, p.S = z := ⟨_, rfl⟩
      obtain ⟨pN, epN⟩ : ∃ z, p.N = z := ⟨_, rfl⟩
      rw [epS] at gS CS bS
      rw [epN] at gN CN CC bN
      have EPS := Lib.hid epS
      have EPN := Lib.hid epN
      clear epS epN
      obtain ⟨q4, e4⟩ : ∃ q, decide (2048 < pS + sc) = q := ⟨_, rfl⟩
      have E4 := Lib.hid e4
      cases q4
      case true =>
        have h4 := of_decide_eq_true e4
        have E := Lib.hid (HM0.out (fun hm => by have h5 := hm.2.2.2; have h6 := ESC.out; have h7 := EPS.out; omega))
        (refine wp_region_quiet_below (by kernel_rfl) (by kernel_rfl) ?_; (repeat (go_big_quiet_step ((first | (with_reducible exact Calls.regrown_of (CV.out _)) | (with_reducible exact Calls.regrown_of (CS.out _)) | (with_reducible exact Calls.regrown_of (CN.out _)) | (with_reducible exact Calls.regrown_of (CC.out _)))))); refine wpQuiet_nil ?_)
        intro w4 hU
        have L4 := Rd.below_step L3 (Rd.below_of_regrown hU)
        go_wp2
        go_ret
        exact ⟨⟨_, rfl, by rw [E.out]; rfl⟩, L4⟩
      have HM := Lib.hid (show mayP d p from ⟨E1.out, by have := EPS.out; omega, by have := EPN.out; omega, by have := of_decide_eq_false E4.out; have h6 := ESC.out; have h7 := EPS.out; omega⟩)
      (refine wp_region_quiet_below (by kernel_rfl) (by kernel_rfl) ?_; (repeat (go_big_quiet_step ((first | (with_reducible exact Calls.regrown_of (CV.out _)) | (with_reducible exact Calls.regrown_of (CS.out _)) | (with_reducible exact Calls.regrown_of (CN.out _)) | (with_reducible exact Calls.regrown_of (CC.out _)))))); refine wpQuiet_nil ?_)
      intro w4 hU
      have hW4 := Rd.below_of_regrown hU
      have L4 := Rd.below_step L3 hW4
      have HF4 := Lib.hid (HF3.out.bel hW4)
      have B4 := Lib.hid ((blk_below hW4 _ (blk_lt B3.out)).trans B3.out)
      clear hU hW4 L3 HF3 B3 gS gN gP CV CS CN e4
      obtain ⟨aL, cL, bT, hRL, hcL⟩ := HF4.out
      have hrk : (srt d (l.take k)).length = k := by rw [srt_len, List.length_take]; omega
      have HSM := Lib.hid (fun i (hi : i < k) => (show at_ (srt d (l.take k)) i ∈ l.take k from srt_mem.1 (by rw [at_get (by rw [hrk]; exact hi)]; exact List.getElem_mem (by rw [hrk]; exact hi))))
      have HGM := Lib.hid (fun i (hi : i < k) => HG.out.2.1 _ (HSM.out i hi))
      have HSA := Lib.hid (fun (h : ∀ i, i < k → apart (at_ (srt d (l.take k)) i) p) => HST.out HM.out (fun q hq => by
        obtain ⟨i, hi, rfl⟩ := List.mem_iff_getElem.1 (srt_mem (d := d).2 hq)
        have := h i (by omega)
        rwa [at_get hi] at this))
      obtain ⟨r, er⟩ : ∃ r, srt d (l.take k) = r := ⟨_, rfl⟩
      rw [er] at hrk HSM HGM HSA HIN bT hRL hcL
      have ERR := Lib.hid er
      rw [hrk] at bT hcL
      have HRK := Lib.hid hrk
      have HRL := Lib.hid hRL
      have BT := Lib.hid bT
      have c1 : w4.cell? ⟨t, 1, none⟩ = some (.slice aL k cL) := by rw [blk_cell bT]; rfl
      have lT := blk_lt bT
      clear hRL hrk er bT HF4 HST HME
      go_wp2_with fail
      clear c1
      go_loopw [9] (fun i Y => ∃ j : Nat, j ≤ k ∧ i = .int .i64 (j : Int) ∧ Hid (∀ i, i < j → apart (at_ r i) p) ∧ Below w4.heap.size w4 Y) (fun i _ => k - (intOf i).toNat)
      case atStart => exact ⟨0, Nat.zero_le _, rfl, Lib.hid (fun i hi => absurd hi (Nat.not_lt_zero _)), Below.refl _ _⟩
      case round =>
        obtain ⟨j, hj, rfl, HA, hb⟩ := hrel
        rename World => Y
        have c1 : Y.cell? ⟨t, 1, none⟩ = some (.slice aL k cL) := by rw [blk_cell ((blk_below hb t lT).trans BT.out)]; rfl
        by_cases hjk : j < k
        · have hjk' : (j : Int) < (k : Int) := by omega
          obtain ⟨g2, o2, rfl⟩ := HRL.out.2 (fun e => by have := HRK.out; rw [e] at this; simp at this; omega)
          have hld := ld_en (HRL.out.bel hb).1 (i := j) (by rw [HRK.out]; exact hjk)
          have HXM := Lib.hid (HGM.out j hjk)
          have HXC := Lib.hid (HCF.out _ (HSM.out j hjk))
          obtain ⟨x, ex⟩ : ∃ x, at_ r j = x := ⟨_, rfl⟩
          rw [ex] at hld HXM HXC
          have EX := Lib.hid ex
          clear ex
          go_upto_region 15 with (fail)
          refine Rd.name_world ?_
          intro w5 hw
          have b5 : blk w5 Y.heap.size = some (.cells x.c 39 (0, 0)) := by rw [hw]; exact blk_alloc_at _ _ _ rfl
          have hY5 : Below Y.heap.size Y w5 := by
            rw [hw]
            exact (Below.refl _ _).alloc (Nat.le_refl _) _
          obtain ⟨gx, egx⟩ : ∃ ge, Y.heap.size = ge := ⟨_, rfl⟩
          have L5 := Rd.below_step hb hY5
          have b5p := (blk_below L5 _ (blk_lt B4.out)).trans B4.out
          rw [egx] at b5 ⊢
          clear hw hld hb hY5 egx c1
          have f1 : w5.cell? ⟨ge, 3, none⟩ = some (.int .i64 p.S) := by rw [blk_cell b5p]; rfl
          have f2 : w5.cell? ⟨ge, 4, none⟩ = some (.int .i64 p.N) := by rw [blk_cell b5p]; rfl
          have f3 : w5.cell? ⟨gx, 3, none⟩ = some (.int .i64 x.S) := by rw [blk_cell b5]; rfl
          have f4 : w5.cell? ⟨gx, 4, none⟩ = some (.int .i64 x.N) := by rw [blk_cell b5]; rfl
          have gS := Go.cell_regrown f1
          have gN := Go.cell_regrown f2
          have gS' := Go.cell_regrown f3
          have gN' := Go.cell_regrown f4
          have gP : ∀ dd os, (loadRow 25 (.pointer (some ⟨ge, 0, none⟩))).run Try.prog (Sort.grow (redrawn w5 dd) os) = .ok (pg p.L p.X p.Y) (Sort.grow (redrawn w5 dd) os) := fun dd os => ld_pbox ((blk_below (below_regrown w5 dd os) _ (blk_lt b5p)).trans b5p)
          have gP' : ∀ dd os, (loadRow 25 (.pointer (some ⟨gx, 0, none⟩))).run Try.prog (Sort.grow (redrawn w5 dd) os) = .ok (pg x.L x.X x.Y) (Sort.grow (redrawn w5 dd) os) := fun dd os => ld_pbox ((blk_below (below_regrown w5 dd os) _ (blk_lt b5)).trans b5)
          have C1 := Lib.hid (fun X => sectors_may HM.out X)
          have C2 := Lib.hid (fun X => sectors_may HXM.out X)
          have bd1 := HM.out.2.1
          have bd2 := HXM.out.2.1
          have bc1 := secV_bd HM.out.2.2.1.1 HM.out.2.2.1.2
          have bc2 := secV_bd HXM.out.2.2.1.1 HXM.out.2.2.1.2
          obtain ⟨pS, e1⟩ : ∃ z, p.S = z := ⟨_, rfl⟩
          obtain ⟨pN, e2⟩ : ∃ z, p.N = z := ⟨_, rfl⟩
          obtain ⟨xS, e3⟩ : ∃ z, x.S = z := ⟨_, rfl⟩
          obtain ⟨xN, e4⟩ : ∃ z, x.N = z := ⟨_, rfl⟩
          obtain ⟨sp, e5⟩ : ∃ z, secV p.N = z := ⟨_, rfl⟩
          obtain ⟨sx, e6⟩ : ∃ z, secV x.N = z := ⟨_, rfl⟩
          have HAP : Hid (apart x p ↔ (x.P ≠ p.P ∧ (xS + sx ≤ pS ∨ pS + sp ≤ xS))) := Lib.hid (by rw [← e1, ← e3, ← e5, ← e6]; rfl)
          rw [e5] at C1 bc1
          rw [e6] at C2 bc2
          rw [e1] at gS bd1
          rw [e3] at gS' bd2
          rw [e2] at gN C1
          rw [e4] at gN' C2
          clear e1 e2 e3 e4 e5 e6 f1 f2 f3 f4 b5 b5p
          obtain ⟨q1, eq1⟩ : ∃ q, eqL [x.L, x.X, x.Y] [p.L, p.X, p.Y] = q := ⟨_, rfl⟩
          have EQ1 : Hid (decide (x.P = p.P) = q1) := Lib.hid eq1
          obtain ⟨q2, eq2⟩ : ∃ q, decide (pS < xS + sx) = q := ⟨_, rfl⟩
          obtain ⟨q3, eq3⟩ : ∃ q, decide (xS < pS + sp) = q := ⟨_, rfl⟩
          have EQ2 := Lib.hid eq2
          have EQ3 := Lib.hid eq3
          cases q1
          case true =>
            have E := Lib.hid (ER.out.symm.trans (HXC.out (fun ha => (HAP.out.1 ha).1 (of_decide_eq_true EQ1.out))))
            (refine wp_region_quiet_below (by kernel_rfl) (by kernel_rfl) ?_; (repeat (go_big_quiet_step ((first | (with_reducible exact Calls.regrown_of (C1.out _)) | (with_reducible exact Calls.regrown_of (C2.out _)))))); refine wpQuiet_nil ?_)
            intro w6 hU
            have L6 := Rd.below_step (L4.trans (L5.mono L4.size)) (Rd.below_of_regrown hU)
            go_wp2
            go_ret
            exact ⟨⟨_, rfl, by rw [E.out]; rfl⟩, L6⟩
          cases q2
          case true =>
            cases q3
            case true =>
              have E := Lib.hid (ER.out.symm.trans (HXC.out (fun ha => by have h1 := (HAP.out.1 ha).2; have h2 := of_decide_eq_true EQ2.out; have h3 := of_decide_eq_true EQ3.out; omega)))
              (refine wp_region_quiet_below (by kernel_rfl) (by kernel_rfl) ?_; (repeat (go_big_quiet_step ((first | (with_reducible exact Calls.regrown_of (C1.out _)) | (with_reducible exact Calls.regrown_of (C2.out _)))))); refine wpQuiet_nil ?_)
              intro w6 hU
              have L6 := Rd.below_step (L4.trans (L5.mono L4.size)) (Rd.below_of_regrown hU)
              go_wp2
              go_ret
              exact ⟨⟨_, rfl, by rw [E.out]; rfl⟩, L6⟩
            case false =>
              have HX2 := Lib.hid (HAP.out.2 ⟨of_decide_eq_false EQ1.out, .inr (by have h3 := of_decide_eq_false EQ3.out; omega)⟩)
              (refine wp_region_quiet_below (by kernel_rfl) (by kernel_rfl) ?_; (repeat (go_big_quiet_step ((first | (with_reducible exact Calls.regrown_of (C1.out _)) | (with_reducible exact Calls.regrown_of (C2.out _)))))); refine wpQuiet_nil ?_)
              intro w6 hU
              have L6 := Rd.below_step L5 (Rd.below_of_regrown hU)
              go_wp2
              go_roundw
              case rel => exact ⟨j + 1, by omega, by go_num, Lib.hid (fun i hi => by
                rcases Nat.lt_or_ge i j with h | h
                · exact HA.out i h
                · rw [show i = j by omega, EX.out]; exact HX2.out), L6⟩
              case measure => simp [intOf]; omega
          case false =>
            have HX2 := Lib.hid (HAP.out.2 ⟨of_decide_eq_false EQ1.out, .inl (by have h3 := of_decide_eq_false EQ2.out; omega)⟩)
            (refine wp_region_quiet_below (by kernel_rfl) (by kernel_rfl) ?_; (repeat (go_big_quiet_step ((first | (with_reducible exact Calls.regrown_of (C1.out _)) | (with_reducible exact Calls.regrown_of (C2.out _)))))); refine wpQuiet_nil ?_)
            intro w6 hU
            have L6 := Rd.below_step L5 (Rd.below_of_regrown hU)
            go_wp2
            go_roundw
            case rel => exact ⟨j + 1, by omega, by go_num, Lib.hid (fun i hi => by
              rcases Nat.lt_or_ge i j with h | h
              · exact HA.out i h
              · rw [show i = j by omega, EX.out]; exact HX2.out), L6⟩
            case measure => simp [intOf]; omega
        · obtain rfl : k = j := by omega
          have hjk' : ¬ (k : Int) < (k : Int) := by omega
          have HG1 := Lib.hid (HSA.out HA.out)
          go_wp2_with fail
          clear c1
          go_loopw [8] (fun i Z => ∃ q : Nat, q ≤ k ∧ i = .int .i64 (q : Int) ∧ Hid (∀ i, q ≤ i → i < k → p.K d < (at_ r i).K d) ∧ Below w4.heap.size w4 Z) (fun i _ => (intOf i).toNat)
          case atStart => exact ⟨k, Nat.le_refl _, rfl, Lib.hid (fun i h1 h2 => absurd h2 (by omega)), hb⟩
          case round =>
            rename World => Y'
            obtain ⟨q, hq, rfl, HQ, hb⟩ := hrel
            rename World => Z
            have c1 : Z.cell? ⟨t, 1, none⟩ = some (.slice aL k cL) := by rw [blk_cell ((blk_below hb t lT).trans BT.out)]; rfl
            have bp := (blk_below hb _ (blk_lt B4.out)).trans B4.out
            have gc := Go.cell_regrown c1
            have gP : ∀ dd os, (loadRow 25 (.pointer (some ⟨ge, 0, none⟩))).run Try.prog (Sort.grow (redrawn Z dd) os) = .ok (pg p.L p.X p.Y) (Sort.grow (redrawn Z dd) os) := fun dd os => ld_pbox ((blk_below (below_regrown Z dd os) _ (blk_lt bp)).trans bp)
            by_cases h0 : 0 < q
            · obtain ⟨m, rfl⟩ : ∃ m, q = m + 1 := ⟨q - 1, by omega⟩
              have hmk : m < k := by omega
              have hmi : (m : Int) < (k : Int) := by omega
              obtain ⟨g2, o2, e2⟩ := HRL.out.2 (fun e => by have := HRK.out; rw [e] at this; simp at this; omega)
              have hrl : Reads Z 6 (some ⟨g2, o2, none⟩) r.length (ce r) := e2 ▸ (HRL.out.bel hb).1
              have gX : ∀ dd os, (loadRow 25 (.pointer (some ⟨g2, o2 + m * 6, none⟩))).run Try.prog (Sort.grow (redrawn Z dd) os) = .ok (pg (at_ r m).L (at_ r m).X (at_ r m).Y) (Sort.grow (redrawn Z dd) os) := fun dd os => ld_pgen (hrl.below (below_regrown Z dd os) (Nat.le_refl _)) (by rw [HRK.out]; exact hmk)
              have CX := Lib.hid (fun X => rkey_any d (at_ r m).L (at_ r m).X (at_ r m).Y X)
              have CP := Lib.hid (fun X => rkey_any d p.L p.X p.Y X)
              obtain ⟨x, ex⟩ : ∃ x, at_ r m = x := ⟨_, rfl⟩
              rw [ex] at gX CX
              have EX := Lib.hid ex
              obtain ⟨kx, ekx⟩ : ∃ z, keyV d x.L x.X x.Y = z := ⟨_, rfl⟩
              obtain ⟨kp, ekp⟩ : ∃ z, keyV d p.L p.X p.Y = z := ⟨_, rfl⟩
              rw [ekx] at CX
              rw [ekp] at CP
              obtain ⟨b9, eb9⟩ : ∃ b, decide (kp < kx) = b := ⟨_, rfl⟩
              have HK : Hid (decide (p.K d < (at_ r m).K d) = b9) := Lib.hid (by rw [ex]; show decide (keyV d p.L p.X p.Y < keyV d x.L x.X x.Y) = b9; rw [ekx, ekp, eb9])
              have hpos : (0 : Int) < (m : Int) + 1 := by omega
              have hposn : decide (0 < (m : Int) + 1) = true := decide_eq_true hpos
              have hwr : wrap64 (((m + 1 : Nat) : Int) - 1) = (m : Int) := by unfold wrap64; omega
              have hwr2 : IntKind.i64.wrap (((m + 1 : Nat) : Int) - 1) = (m : Int) := by rw [IntKind.wrap_i64]; omega
              clear ex ekx ekp hrl
              rw [e2] at c1 gc
              go_upto_region 17 with (fail)
              (refine wp_region_quiet_below (by kernel_rfl) (by kernel_rfl) ?_; (repeat (go_big_quiet_step ((first | (with_reducible exact Calls.regrown_of (CX.out _)) | (with_reducible exact Calls.regrown_of (CP.out _)))))); refine wpQuiet_nil ?_)
              intro w9 hU
              have hZ9 := Rd.below_of_regrown hU
              have L9 := Rd.below_step hb hZ9
              clear hU hZ9 c1 gc gP gX bp CX CP hb
              cases b9
              case true =>
                go_wp2
                go_roundw
                case rel => exact ⟨m, by omega, by go_num, Lib.hid (fun i h1 h2 => by
                  by_cases e : i = m
                  · rw [e]; exact of_decide_eq_true HK.out
                  · exact HQ.out i (by omega) h2), L9⟩
                case measure => simp [intOf]
              case false =>
                have HP := Lib.hid (HIN.out (m + 1) HG1.out hq HQ.out (.inr (by rw [Nat.add_sub_cancel]; have h9 := of_decide_eq_false HK.out; first | exact h9 | omega)))
                obtain ⟨q, eq⟩ : ∃ q, m + 1 = q := ⟨_, rfl⟩
                rw [eq] at HP hq ⊢
                clear hpos hposn hwr hwr2 HK eq eb9 hmi hmk h0
                have BT9 := Lib.hid ((blk_below L9 t lT).trans BT.out)
                have B9 := Lib.hid ((blk_below L9 _ (blk_lt B4.out)).trans B4.out)
                have LW9 : Below w.heap.size w w9 := L4.trans (L9.mono L4.size)
                have hB0 : w.heap.size ≤ w9.heap.size := LW9.size
                have hpl9 := blk_lt BT9.out
                obtain ⟨aT, haT⟩ : ∃ x, (if cL = q then aL else aL.map (·.add (q * 6))) = x := ⟨_, rfl⟩
                have HAT := Lib.hid haT
                have hR9 := (HRL.out.bel L9).1
                rw [HRK.out] at hR9
                have HRF := Lib.hid (And.intro (reads_front9 hR9 HRK.out hq) (haT ▸ reads_back hR9 HRK.out hq hcL))
                clear hR9 haT
                go_upto_region 19 with (fail)
                refine PredU.region_of (W := w9) (KC p.c) (w.heap.size) hB0 [8, 11, 18, 21] [
                    fun y => Below w9.heap.size w9 y,
                    fun y => Below w9.heap.size w9 y,
                    fun y => Below w9.heap.size w9 y,
                    fun y => Below w9.heap.size w9 y,
                    fun y => ∃ v0, w9.heap.size ≤ y.heap.size ∧ Rown y w9.heap.size v0 (k + 1) (r.take q ++ p :: r.drop q) ∧ blk y t = some (.cells #[.int .i64 d, v0] 47 (0, 0)) ∧ ∀ b, b < w9.heap.size → b ≠ t → y.heap[b]? = w9.heap[b]?] [
                    PredU.At 0 (.pointer (some ⟨t, 0, none⟩)),
                    PredU.When 0 (NoneH w9.heap.size),
                    PredU.At 0 (.pointer (some ⟨t, 0, none⟩)),
                    PredU.At 0 (.pointer (some ⟨t, 0, none⟩)),
                    PredU.At 0 (.pointer (some ⟨t, 1, none⟩)),
                    PredU.At 0 (.slice aL k cL),
                    PredU.At 0 (.int .i64 (q : Int)),
                    PredU.At 0 (.slice aL q cL),
                    PredU.When 1 (fun u y => Rown y w9.heap.size u (q) (r.take q)),
                    PredU.At 0 (.agg p.c),
                    PredU.Til 1 (OneC p.c),
                    PredU.When 2 (fun u y => Rown y w9.heap.size u (q + 1) (r.take q ++ [p])),
                    PredU.At 0 (.pointer (some ⟨t, 0, none⟩)),
                    PredU.At 0 (.pointer (some ⟨t, 0, none⟩)),
                    PredU.At 0 (.pointer (some ⟨t, 1, none⟩)),
                    PredU.At 0 (.slice aL k cL),
                    PredU.At 0 (.int .i64 (q : Int)),
                    PredU.At 0 (.slice aT (k - q) (cL - q)),
                    PredU.When 3 (fun u y => Rown y w9.heap.size u (k + 1) (r.take q ++ p :: r.drop q)),
                    PredU.At 0 (.pointer (some ⟨t, 0, none⟩)),
                    PredU.At 0 (.pointer (some ⟨t, 1, none⟩)),
                    PredU.At 0 (undef)] (by kernel_rfl) (by kernel_rfl) (by kernel_rfl) (by decide) (by decide) ?_ ?_ ?_ ?_ ?_ ?_
                · exact ⟨PredU.at_stab _ _ _ _ _, PredU.when_stab _ _ _ _ (fun u y y' h hb => noneh_below h hb), PredU.at_stab _ _ _ _ _, PredU.at_stab _ _ _ _ _, PredU.at_stab _ _ _ _ _, PredU.at_stab _ _ _ _ _, PredU.at_stab _ _ _ _ _, PredU.at_stab _ _ _ _ _, PredU.when_stab _ _ _ _ (fun u y y' h hb => DiC.Rown.below h hb), PredU.at_stab _ _ _ _ _, onec_stab _ _ _, PredU.when_stab _ _ _ _ (fun u y y' h hb => DiC.Rown.below h hb), PredU.at_stab _ _ _ _ _, PredU.at_stab _ _ _ _ _, PredU.at_stab _ _ _ _ _, PredU.at_stab _ _ _ _ _, PredU.at_stab _ _ _ _ _, PredU.at_stab _ _ _ _ _, PredU.when_stab _ _ _ _ (fun u y y' h hb => DiC.Rown.below h hb), PredU.at_stab _ _ _ _ _, PredU.at_stab _ _ _ _ _, PredU.at_stab _ _ _ _ _, trivial⟩
                · intro q hq
                  rcases List.mem_cons.1 hq with rfl | hq
                  · exact fun y y' h hb => h.trans (hb.mono h.size)
                  rcases List.mem_cons.1 hq with rfl | hq
                  · exact fun y y' h hb => h.trans (hb.mono h.size)
                  rcases List.mem_cons.1 hq with rfl | hq
                  · exact fun y y' h hb => h.trans (hb.mono h.size)
                  rcases List.mem_cons.1 hq with rfl | hq
                  · exact fun y y' h hb => h.trans (hb.mono h.size)
                  rcases List.mem_cons.1 hq with rfl | hq
                  · exact fun y y' ⟨u, h0, h1, h2, h3⟩ hb => ⟨u, Nat.le_trans h0 hb.size, DiC.Rown.below h1 hb, (blk_below hb t (blk_lt h2)).trans h2, fun k hk hp => (hb.block k (by omega)).trans (h3 k hk hp)⟩
                  cases hq
                · exact Below.refl _ _
                · refine ⟨.inr ?_, .inr ?_, .inr ?_, .inr ?_, .inr ?_, .inr ?_, .inr ?_, .inr ?_, .inl rfl, .inr ?_, .inr ?_, .inl rfl, .inr ?_, .inr ?_, .inr ?_, .inr ?_, .inr ?_, .inr ?_, .inl rfl, .inr ?_, .inr ?_, .inl rfl, trivial⟩
                  · intro b9 X ph hE hd hn hS hV hI hF
                    have r5 : b9.tmps[5]?.getD undef = .pointer (some ⟨t, 0, none⟩) := (hn 5 (by kernel_rfl)).trans rfl
                    exact Pred.yields_run (v := .pointer (some ⟨t, 0, none⟩)) (Pred.wanted_none rfl) (by go_simp) ⟨Below.refl _ _, rfl, Nat.zero_le _⟩
                  · intro b9 X ph hE hd hn hS hV hI hF
                    have hp0 : ph = 0 := Nat.le_zero.1 (hF 0 8 rfl (Pred.waits_more 8 _ _ (Nat.le_of_ble_eq_true (by kernel_rfl)) (by kernel_rfl)))
                    subst hp0
                    have hb0 : Below w9.heap.size w9 X := hS
                    have hXs := hb0.size
                    exact Pred.yields_run (v := .slice (some ⟨X.heap.size, 0, none⟩) 0 0) (w' := X.alloc (.cells #[] 39)) (Pred.wanted_none rfl) (by go_simp) ⟨(Below.refl _ _).alloc (Nat.le_refl _) _, Nat.zero_le _, fun _ => ⟨X.heap.size, rfl, hXs, blk_alloc_at _ _ _ rfl⟩⟩
                  · intro b9 X ph hE hd hn hS hV hI hF
                    have r5 : b9.tmps[5]?.getD undef = .pointer (some ⟨t, 0, none⟩) := (hn 5 (by kernel_rfl)).trans rfl
                    exact Pred.yields_run (v := .pointer (some ⟨t, 0, none⟩)) (Pred.wanted_none rfl) (by go_simp) ⟨Below.refl _ _, rfl, Nat.zero_le _⟩
                  · intro b9 X ph hE hd hn hS hV hI hF
                    obtain ⟨r125, j125⟩ : PredU.At 0 (.pointer (some ⟨t, 0, none⟩)) (b9.tmps[125]?.getD undef) X ph := hV 2 _ 125 rfl rfl (Pred.waits_near (by kernel_rfl) (by kernel_rfl))
                    exact Pred.yields_run (v := .pointer (some ⟨t, 0, none⟩)) (Pred.wanted_none rfl) (by go_simp) ⟨Below.refl _ _, rfl, Nat.zero_le _⟩
                  · intro b9 X ph hE hd hn hS hV hI hF
                    obtain ⟨r126, j126⟩ : PredU.At 0 (.pointer (some ⟨t, 0, none⟩)) (b9.tmps[126]?.getD undef) X ph := hV 3 _ 126 rfl rfl (Pred.waits_near (by kernel_rfl) (by kernel_rfl))
                    exact Pred.yields_run (v := .pointer (some ⟨t, 1, none⟩)) (Pred.wanted_none rfl) (by go_simp) ⟨Below.refl _ _, rfl, Nat.zero_le _⟩
                  · intro b9 X ph hE hd hn hS hV hI hF
                    obtain ⟨r127, j127⟩ : PredU.At 0 (.pointer (some ⟨t, 1, none⟩)) (b9.tmps[127]?.getD undef) X ph := hV 4 _ 127 rfl rfl (Pred.waits_near (by kernel_rfl) (by kernel_rfl))
                    have hp0 : ph = 0 := Nat.le_zero.1 (hF 0 8 rfl (Pred.waits_more 8 _ _ (Nat.le_of_ble_eq_true (by kernel_rfl)) (by kernel_rfl)))
                    subst hp0
                    have hb0 : Below w9.heap.size w9 X := hS
                    have hXs := hb0.size
                    have z : X.cell? ⟨t, 1, none⟩ = some (.slice aL k cL) := by rw [blk_cell ((blk_below hb0 t (blk_lt BT9.out)).trans BT9.out)]; rfl
                    exact Pred.yields_run (v := .slice aL k cL) (Pred.wanted_none rfl) (by go_simp) ⟨Below.refl _ _, rfl, Nat.zero_le _⟩
                  · intro b9 X ph hE hd hn hS hV hI hF
                    have r8 : b9.tmps[8]?.getD undef = .int .i64 (q : Int) := (hn 8 (by kernel_rfl)).trans rfl
                    exact Pred.yields_run (v := .int .i64 (q : Int)) (Pred.wanted_none rfl) (by go_simp) ⟨Below.refl _ _, rfl, Nat.zero_le _⟩
                  · intro b9 X ph hE hd hn hS hV hI hF
                    obtain ⟨r128, j128⟩ : PredU.At 0 (.slice aL k cL) (b9.tmps[128]?.getD undef) X ph := hV 5 _ 128 rfl rfl (Pred.waits_near (by kernel_rfl) (by kernel_rfl))
                    obtain ⟨r129, j129⟩ : PredU.At 0 (.int .i64 (q : Int)) (b9.tmps[129]?.getD undef) X ph := hV 6 _ 129 rfl rfl (Pred.waits_near (by kernel_rfl) (by kernel_rfl))
                    exact Pred.yields_run (v := .slice aL q cL) (Pred.wanted_none rfl) (run_front (by rfl) r128 r129 (Nat.le_trans hq hcL)) ⟨Below.refl _ _, rfl, Nat.zero_le _⟩
                  · intro b9 X ph hE hd hn hS hV hI hF
                    have r7 : b9.tmps[7]?.getD undef = .pointer (some ⟨ge, 0, none⟩) := (hn 7 (by kernel_rfl)).trans rfl
                    have hp1 : ph ≤ 1 := hF 1 11 rfl (Pred.waits_more 8 _ _ (Nat.le_of_ble_eq_true (by kernel_rfl)) (by kernel_rfl))
                    have hb0 : Below w9.heap.size w9 X := by
                      rcases (show ph = 0 ∨ ph = 1 by omega) with rfl | rfl <;> exact hS
                    have z := ld_box ((blk_below hb0 _ (blk_lt B9.out)).trans B9.out)
                    exact Pred.yields_run (v := .agg p.c) (Pred.wanted_none rfl) (by go_simp) ⟨Below.refl _ _, rfl, Nat.zero_le _⟩
                  · intro b9 X ph hE hd hn hS hV hI hF
                    obtain ⟨r132, j132⟩ : PredU.At 0 (.agg p.c) (b9.tmps[132]?.getD undef) X ph := hV 9 _ 132 rfl rfl (Pred.waits_near (by kernel_rfl) (by kernel_rfl))
                    exact Pred.yields_run (v := .slice (some ⟨X.heap.size, 0, none⟩) 1 1) (w' := X.alloc (.cells p.c 39)) (Pred.wanted_none rfl) (by go_simp) ⟨(Below.refl _ _).alloc (Nat.le_refl _) _, fun _ => ⟨X.heap.size, rfl, blk_alloc_at _ _ _ rfl⟩⟩
                  · intro b9 X ph hE hd hn hS hV hI hF
                    have r5 : b9.tmps[5]?.getD undef = .pointer (some ⟨t, 0, none⟩) := (hn 5 (by kernel_rfl)).trans rfl
                    exact Pred.yields_run (v := .pointer (some ⟨t, 0, none⟩)) (Pred.wanted_none rfl) (by go_simp) ⟨Below.refl _ _, rfl, Nat.zero_le _⟩
                  · intro b9 X ph hE hd hn hS hV hI hF
                    obtain ⟨r135, j135⟩ : PredU.At 0 (.pointer (some ⟨t, 0, none⟩)) (b9.tmps[135]?.getD undef) X ph := hV 12 _ 135 rfl rfl (Pred.waits_near (by kernel_rfl) (by kernel_rfl))
                    exact Pred.yields_run (v := .pointer (some ⟨t, 0, none⟩)) (Pred.wanted_none rfl) (by go_simp) ⟨Below.refl _ _, rfl, Nat.zero_le _⟩
                  · intro b9 X ph hE hd hn hS hV hI hF
                    obtain ⟨r136, j136⟩ : PredU.At 0 (.pointer (some ⟨t, 0, none⟩)) (b9.tmps[136]?.getD undef) X ph := hV 13 _ 136 rfl rfl (Pred.waits_near (by kernel_rfl) (by kernel_rfl))
                    exact Pred.yields_run (v := .pointer (some ⟨t, 1, none⟩)) (Pred.wanted_none rfl) (by go_simp) ⟨Below.refl _ _, rfl, Nat.zero_le _⟩
                  · intro b9 X ph hE hd hn hS hV hI hF
                    obtain ⟨r137, j137⟩ : PredU.At 0 (.pointer (some ⟨t, 1, none⟩)) (b9.tmps[137]?.getD undef) X ph := hV 14 _ 137 rfl rfl (Pred.waits_near (by kernel_rfl) (by kernel_rfl))
                    have hp2 : ph ≤ 2 := hF 2 18 rfl (Pred.waits_more 8 _ _ (Nat.le_of_ble_eq_true (by kernel_rfl)) (by kernel_rfl))
                    have hb0 : Below w9.heap.size w9 X := by
                      rcases (show ph = 0 ∨ ph = 1 ∨ ph = 2 by omega) with rfl | rfl | rfl <;> exact hS
                    have z : X.cell? ⟨t, 1, none⟩ = some (.slice aL k cL) := by rw [blk_cell ((blk_below hb0 t (blk_lt BT9.out)).trans BT9.out)]; rfl
                    exact Pred.yields_run (v := .slice aL k cL) (Pred.wanted_none rfl) (by go_simp) ⟨Below.refl _ _, rfl, Nat.zero_le _⟩
                  · intro b9 X ph hE hd hn hS hV hI hF
                    have r8 : b9.tmps[8]?.getD undef = .int .i64 (q : Int) := (hn 8 (by kernel_rfl)).trans rfl
                    exact Pred.yields_run (v := .int .i64 (q : Int)) (Pred.wanted_none rfl) (by go_simp) ⟨Below.refl _ _, rfl, Nat.zero_le _⟩
                  · intro b9 X ph hE hd hn hS hV hI hF
                    obtain ⟨r138, j138⟩ : PredU.At 0 (.slice aL k cL) (b9.tmps[138]?.getD undef) X ph := hV 15 _ 138 rfl rfl (Pred.waits_near (by kernel_rfl) (by kernel_rfl))
                    obtain ⟨r139, j139⟩ : PredU.At 0 (.int .i64 (q : Int)) (b9.tmps[139]?.getD undef) X ph := hV 16 _ 139 rfl rfl (Pred.waits_near (by kernel_rfl) (by kernel_rfl))
                    exact Pred.yields_run (v := .slice aT (k - q) (cL - q)) (Pred.wanted_none rfl) (Eq.trans (run_back (by rfl) r138 r139 hq) (by rw [HAT.out])) ⟨Below.refl _ _, rfl, Nat.zero_le _⟩
                  · intro b9 X ph hE hd hn hS hV hI hF
                    obtain ⟨r123, j123⟩ : PredU.At 0 (.pointer (some ⟨t, 0, none⟩)) (b9.tmps[123]?.getD undef) X ph := hV 0 _ 123 rfl rfl (Pred.waits_near (by kernel_rfl) (by kernel_rfl))
                    exact Pred.yields_run (v := .pointer (some ⟨t, 0, none⟩)) (Pred.wanted_none rfl) (by go_simp) ⟨Below.refl _ _, rfl, Nat.zero_le _⟩
                  · intro b9 X ph hE hd hn hS hV hI hF
                    obtain ⟨r142, j142⟩ : PredU.At 0 (.pointer (some ⟨t, 0, none⟩)) (b9.tmps[142]?.getD undef) X ph := hV 19 _ 142 rfl rfl (Pred.waits_near (by kernel_rfl) (by kernel_rfl))
                    exact Pred.yields_run (v := .pointer (some ⟨t, 1, none⟩)) (Pred.wanted_none rfl) (by go_simp) ⟨Below.refl _ _, rfl, Nat.zero_le _⟩
                · refine ⟨?_, ?_, ?_, ?_, trivial⟩
                  · refine ⟨_, rfl, fun k hk => (by cases hk), fun b9 X hE hd hn hS hV hI => ?_⟩
                    obtain ⟨j124, r124⟩ : PredU.When 0 (NoneH w9.heap.size) (b9.tmps[124]?.getD undef) X 0 := hV 1 _ 124 rfl rfl (Pred.waits_near (by kernel_rfl) (by kernel_rfl))
                    obtain ⟨r130, j130⟩ : PredU.At 0 (.slice aL q cL) (b9.tmps[130]?.getD undef) X 0 := hV 7 _ 130 rfl rfl (Pred.waits_near (by kernel_rfl) (by kernel_rfl))
                    replace hS : (fun y => Below w9.heap.size w9 y) X := hS
                    obtain ⟨g9, hg9, hlo9, hb9⟩ := r124 rfl
                    have hXs := hS.size
                    have ho9 : Rown X w9.heap.size (.slice (some ⟨g9, 0, none⟩) 0 0) 0 [] := ⟨rfl, .inr ⟨g9, 0, _, rfl, hlo9, hb9, Nat.le_refl _, by decide, rfl, rfl⟩⟩
                    refine yields_app_e rfl (.tmp 124) (.tmp 130) rfl w9.heap.size (.slice (some ⟨g9, 0, none⟩) 0 0) 0 [] (by simpa [Act.eval] using hg9) ho9 aL q cL _ (by simpa [Act.eval] using r130) (HRF.out.1.below hS (Nat.le_refl _)) (by omega) (by omega) ?_
                    intro u y hown hgr
                    rw [Nat.zero_add, List.nil_append] at hown
                    have hbw := OctA.below_grownBy (B := w9.heap.size) hgr (by omega) (fun k hk => by cases hk; exact hlo9)
                    refine ⟨⟨hbw.mono (by omega), fun _ g hg => hgr.block g (blk_lt hg) (fun e => ?_)⟩, hS.trans hbw, Nat.le_refl _, fun _ => hown⟩
                    have e8 : some g = some g9 := e
                    cases e8
                    have e7 := hb9.symm.trans hg
                    simp [En.c] at e7
                  · refine ⟨_, rfl, fun k hk => (by cases hk; exact Pred.waits_near (by kernel_rfl) (by kernel_rfl)), fun b9 X hE hd hn hS hV hI => ?_⟩
                    obtain ⟨j131, r131⟩ : PredU.When 1 (fun u y => Rown y w9.heap.size u (q) (r.take q)) (b9.tmps[131]?.getD undef) X 1 := hV 8 _ 131 rfl rfl (Pred.waits_near (by kernel_rfl) (by kernel_rfl))
                    have r133 : (OneC p.c) (b9.tmps[133]?.getD undef) X := (show PredU.Til 1 (OneC p.c) (b9.tmps[133]?.getD undef) X 1 from hV 10 _ 133 rfl rfl (Pred.waits_near (by kernel_rfl) (by kernel_rfl))) (by omega)
                    replace hS : (fun y => Below w9.heap.size w9 y) X := hS
                    have ho9 := r131 rfl
                    obtain ⟨g9, hg9, hb9⟩ := r133
                    have hXs := hS.size
                    refine yields_app_e rfl (.tmp 131) (.tmp 133) rfl w9.heap.size _ q _ rfl (by simpa [Act.eval] using ho9) (some ⟨g9, 0, none⟩) 1 1 [p] (by simpa [Act.eval] using hg9) (rd_lit (by rw [ce_one, En.l_c]; exact hb9)).1 (by omega) (by omega) ?_
                    intro u y hown hgr
                    have hbw := OctA.below_grownBy (B := w9.heap.size) hgr (by omega) (fun k hk => (ho9.lt k (by simpa [Act.eval] using hk)).1)
                    exact ⟨⟨hbw.mono (by omega), fun e => absurd e (by decide)⟩, hS.trans hbw, Nat.le_refl _, fun _ => hown⟩
                  · refine ⟨_, rfl, fun k hk => (by cases hk; exact Pred.waits_near (by kernel_rfl) (by kernel_rfl)), fun b9 X hE hd hn hS hV hI => ?_⟩
                    obtain ⟨j134, r134⟩ : PredU.When 2 (fun u y => Rown y w9.heap.size u (q + 1) (r.take q ++ [p])) (b9.tmps[134]?.getD undef) X 2 := hV 11 _ 134 rfl rfl (Pred.waits_near (by kernel_rfl) (by kernel_rfl))
                    obtain ⟨r140, j140⟩ : PredU.At 0 (.slice aT (k - q) (cL - q)) (b9.tmps[140]?.getD undef) X 2 := hV 17 _ 140 rfl rfl (Pred.waits_near (by kernel_rfl) (by kernel_rfl))
                    replace hS : (fun y => Below w9.heap.size w9 y) X := hS
                    have ho9 := r134 rfl
                    have hXs := hS.size
                    refine yields_app_e rfl (.tmp 134) (.tmp 140) rfl w9.heap.size _ (q + 1) _ rfl (by simpa [Act.eval] using ho9) aT (k - q) (cL - q) _ (by simpa [Act.eval] using r140) (HRF.out.2.below hS (Nat.le_refl _)) (by omega) (by omega) ?_
                    intro u y hown hgr
                    rw [show q + 1 + (k - q) = k + 1 by omega, List.append_assoc, List.singleton_append] at hown
                    have hbw := OctA.below_grownBy (B := w9.heap.size) hgr (by omega) (fun k hk => (ho9.lt k (by simpa [Act.eval] using hk)).1)
                    exact ⟨⟨hbw.mono (by omega), fun e => absurd e (by decide)⟩, hS.trans hbw, Nat.le_refl _, fun _ => hown⟩
                  · refine ⟨_, rfl, fun k hk => (by cases hk; exact Pred.waits_near (by kernel_rfl) (by kernel_rfl)), fun b9 X hE hd hn hS hV hI => ?_⟩
                    obtain ⟨r143, j143⟩ : PredU.At 0 (.pointer (some ⟨t, 1, none⟩)) (b9.tmps[143]?.getD undef) X 3 := hV 20 _ 143 rfl rfl (Pred.waits_near (by kernel_rfl) (by kernel_rfl))
                    obtain ⟨j141, r141⟩ : PredU.When 3 (fun u y => Rown y w9.heap.size u (k + 1) (r.take q ++ p :: r.drop q)) (b9.tmps[141]?.getD undef) X 3 := hV 18 _ 141 rfl rfl (Pred.waits_near (by kernel_rfl) (by kernel_rfl))
                    replace hS : (fun y => Below w9.heap.size w9 y) X := hS
                    have ho9 := r141 rfl
                    clear r141
                    obtain ⟨u, hu⟩ : ∃ u, b9.tmps[141]?.getD undef = u := ⟨_, rfl⟩
                    rw [hu] at ho9
                    obtain ⟨au, cu, rfl, hu1, hu2⟩ := Rd.owns_val ho9
                    have hpx := (blk_below hS t (blk_lt BT9.out)).trans BT9.out
                    have f1 := blk_frozen hpx 1
                    have cz : X.cell? ⟨t, 1, none⟩ = some (.slice aL k cL) := by rw [blk_cell hpx]; rfl
                    have hpl := blk_lt BT9.out
                    have hXs := hS.size
                    refine yields_skip (w' := X.setCell ⟨t, 1, none⟩ (.slice au (k + 1) cu)) (Pred.wanted_none rfl) (by go_simp) ⟨⟨?_, fun e => absurd e (by decide)⟩, ⟨.slice au (k + 1) cu, by simpa using hXs, own_head ho9 hpx (by decide), blk_set X t 1 _ _ _ hpx, fun k hk hp => ?_⟩, rfl, Nat.zero_le _⟩
                    · exact ⟨rfl, rfl, rfl, by simp, fun k1 h1 => heap_setCell_other _ _ _ _ (by show k1 ≠ t; omega)⟩
                    · exact (heap_setCell_other _ _ _ _ hp).trans (hS.block k hk)
                intro v X hE hS hv
                replace hS : (fun y => ∃ v0, w9.heap.size ≤ y.heap.size ∧ Rown y w9.heap.size v0 (k + 1) (r.take q ++ p :: r.drop q) ∧ blk y t = some (.cells #[.int .i64 d, v0] 47 (0, 0)) ∧ ∀ b, b < w9.heap.size → b ≠ t → y.heap[b]? = w9.heap[b]?) X := hS
                have e0 : v 0 = .pointer (some ⟨t, 0, none⟩) := (hv 0 _ 123 rfl rfl).1
                generalize hg1 : v 1 = vv1
                have e2 : v 2 = .pointer (some ⟨t, 0, none⟩) := (hv 2 _ 125 rfl rfl).1
                have e3 : v 3 = .pointer (some ⟨t, 0, none⟩) := (hv 3 _ 126 rfl rfl).1
                have e4 : v 4 = .pointer (some ⟨t, 1, none⟩) := (hv 4 _ 127 rfl rfl).1
                have e5 : v 5 = .slice aL k cL := (hv 5 _ 128 rfl rfl).1
                have e6 : v 6 = .int .i64 (q : Int) := (hv 6 _ 129 rfl rfl).1
                have e7 : v 7 = .slice aL q cL := (hv 7 _ 130 rfl rfl).1
                generalize hg8 : v 8 = vv8
                have e9 : v 9 = .agg p.c := (hv 9 _ 132 rfl rfl).1
                generalize hg10 : v 10 = vv10
                generalize hg11 : v 11 = vv11
                have e12 : v 12 = .pointer (some ⟨t, 0, none⟩) := (hv 12 _ 135 rfl rfl).1
                have e13 : v 13 = .pointer (some ⟨t, 0, none⟩) := (hv 13 _ 136 rfl rfl).1
                have e14 : v 14 = .pointer (some ⟨t, 1, none⟩) := (hv 14 _ 137 rfl rfl).1
                have e15 : v 15 = .slice aL k cL := (hv 15 _ 138 rfl rfl).1
                have e16 : v 16 = .int .i64 (q : Int) := (hv 16 _ 139 rfl rfl).1
                have e17 : v 17 = .slice aT (k - q) (cL - q) := (hv 17 _ 140 rfl rfl).1
                generalize hg18 : v 18 = vv18
                have e19 : v 19 = .pointer (some ⟨t, 0, none⟩) := (hv 19 _ 142 rfl rfl).1
                have e20 : v 20 = .pointer (some ⟨t, 1, none⟩) := (hv 20 _ 143 rfl rfl).1
                simp only [Pred.putsF_cons, Pred.putsF_nil, Nat.zero_add, Nat.reduceAdd, e0, hg1, e2, e3, e4, e5, e6, e7, hg8, e9, hg10, hg11, e12, e13, e14, e15, e16, e17, hg18, e19, e20, Act.put, List.setIfInBounds_toArray, List.set_cons_zero, List.set_cons_succ]
                clear e0 hg1 e2 e3 e4 e5 e6 e7 hg8 e9 hg10 hg11 e12 e13 e14 e15 e16 e17 hg18 e19 e20 hv
                obtain ⟨v0, hz9, hown9, hhd9, hbl9⟩ := hS
                obtain ⟨a0, c0, rfl, hc0, -⟩ := Rd.owns_val hown9
                have hlen9 := DiC.Rown.len hown9
                rw [HP.out] at hown9 hlen9
                have HF9 : Hid (Rf X t d (srt d (l.take (k + 1)))) := Lib.hid ⟨a0, c0, by rw [hlen9]; exact hhd9, by
                  obtain ⟨a', c', e', hRd⟩ := DiJ.Rown.rd hown9
                  injection e' with e1 e2 e3
                  rw [e1]; exact hRd, by omega⟩
                have LX : Below w.heap.size w X := LW9.trans hE
                clear hown9 hhd9 hbl9 hE
                go_wp2
                go_roundw
                case rel => exact ⟨k + 1, by omega, by go_num, HG1, HF9, LX⟩
                case measure => simp [intOf]; omega
            · have h0i : decide (0 < (q : Int)) = false := decide_eq_false (by omega)
              have h0n : decide (0 < q) = false := decide_eq_false h0
              have HP := Lib.hid (HIN.out q HG1.out hq HQ.out (.inl (by omega)))
              go_upto_region 17 with (fail)
              (refine wp_region_quiet_below (by kernel_rfl) (by kernel_rfl) ?_; (repeat (go_big_quiet_step ((fail)))); refine wpQuiet_nil ?_)
              intro w9 hU
              have hZ9 := Rd.below_of_regrown hU
              have L9 := Rd.below_step hb hZ9
              clear hU hZ9 c1 gc gP bp hb h0i h0n
              have BT9 := Lib.hid ((blk_below L9 t lT).trans BT.out)
              have B9 := Lib.hid ((blk_below L9 _ (blk_lt B4.out)).trans B4.out)
              have LW9 : Below w.heap.size w w9 := L4.trans (L9.mono L4.size)
              have hB0 : w.heap.size ≤ w9.heap.size := LW9.size
              have hpl9 := blk_lt BT9.out
              obtain ⟨aT, haT⟩ : ∃ x, (if cL = q then aL else aL.map (·.add (q * 6))) = x := ⟨_, rfl⟩
              have HAT := Lib.hid haT
              have hR9 := (HRL.out.bel L9).1
              rw [HRK.out] at hR9
              have HRF := Lib.hid (And.intro (reads_front9 hR9 HRK.out hq) (haT ▸ reads_back hR9 HRK.out hq hcL))
              clear hR9 haT
              go_upto_region 19 with (fail)
              refine PredU.region_of (W := w9) (KC p.c) (w.heap.size) hB0 [8, 11, 18, 21] [
                  fun y => Below w9.heap.size w9 y,
                  fun y => Below w9.heap.size w9 y,
                  fun y => Below w9.heap.size w9 y,
                  fun y => Below w9.heap.size w9 y,
                  fun y => ∃ v0, w9.heap.size ≤ y.heap.size ∧ Rown y w9.heap.size v0 (k + 1) (r.take q ++ p :: r.drop q) ∧ blk y t = some (.cells #[.int .i64 d, v0] 47 (0, 0)) ∧ ∀ b, b < w9.heap.size → b ≠ t → y.heap[b]? = w9.heap[b]?] [
                  PredU.At 0 (.pointer (some ⟨t, 0, none⟩)),
                  PredU.When 0 (NoneH w9.heap.size),
                  PredU.At 0 (.pointer (some ⟨t, 0, none⟩)),
                  PredU.At 0 (.pointer (some ⟨t, 0, none⟩)),
                  PredU.At 0 (.pointer (some ⟨t, 1, none⟩)),
                  PredU.At 0 (.slice aL k cL),
                  PredU.At 0 (.int .i64 (q : Int)),
                  PredU.At 0 (.slice aL q cL),
                  PredU.When 1 (fun u y => Rown y w9.heap.size u (q) (r.take q)),
                  PredU.At 0 (.agg p.c),
                  PredU.Til 1 (OneC p.c),
                  PredU.When 2 (fun u y => Rown y w9.heap.size u (q + 1) (r.take q ++ [p])),
                  PredU.At 0 (.pointer (some ⟨t, 0, none⟩)),
                  PredU.At 0 (.pointer (some ⟨t, 0, none⟩)),
                  PredU.At 0 (.pointer (some ⟨t, 1, none⟩)),
                  PredU.At 0 (.slice aL k cL),
                  PredU.At 0 (.int .i64 (q : Int)),
                  PredU.At 0 (.slice aT (k - q) (cL - q)),
                  PredU.When 3 (fun u y => Rown y w9.heap.size u (k + 1) (r.take q ++ p :: r.drop q)),
                  PredU.At 0 (.pointer (some ⟨t, 0, none⟩)),
                  PredU.At 0 (.pointer (some ⟨t, 1, none⟩)),
                  PredU.At 0 (undef)] (by kernel_rfl) (by kernel_rfl) (by kernel_rfl) (by decide) (by decide) ?_ ?_ ?_ ?_ ?_ ?_
              · exact ⟨PredU.at_stab _ _ _ _ _, PredU.when_stab _ _ _ _ (fun u y y' h hb => noneh_below h hb), PredU.at_stab _ _ _ _ _, PredU.at_stab _ _ _ _ _, PredU.at_stab _ _ _ _ _, PredU.at_stab _ _ _ _ _, PredU.at_stab _ _ _ _ _, PredU.at_stab _ _ _ _ _, PredU.when_stab _ _ _ _ (fun u y y' h hb => DiC.Rown.below h hb), PredU.at_stab _ _ _ _ _, onec_stab _ _ _, PredU.when_stab _ _ _ _ (fun u y y' h hb => DiC.Rown.below h hb), PredU.at_stab _ _ _ _ _, PredU.at_stab _ _ _ _ _, PredU.at_stab _ _ _ _ _, PredU.at_stab _ _ _ _ _, PredU.at_stab _ _ _ _ _, PredU.at_stab _ _ _ _ _, PredU.when_stab _ _ _ _ (fun u y y' h hb => DiC.Rown.below h hb), PredU.at_stab _ _ _ _ _, PredU.at_stab _ _ _ _ _, PredU.at_stab _ _ _ _ _, trivial⟩
              · intro q hq
                rcases List.mem_cons.1 hq with rfl | hq
                · exact fun y y' h hb => h.trans (hb.mono h.size)
                rcases List.mem_cons.1 hq with rfl | hq
                · exact fun y y' h hb => h.trans (hb.mono h.size)
                rcases List.mem_cons.1 hq with rfl | hq
                · exact fun y y' h hb => h.trans (hb.mono h.size)
                rcases List.mem_cons.1 hq with rfl | hq
                · exact fun y y' h hb => h.trans (hb.mono h.size)
                rcases List.mem_cons.1 hq with rfl | hq
                · exact fun y y' ⟨u, h0, h1, h2, h3⟩ hb => ⟨u, Nat.le_trans h0 hb.size, DiC.Rown.below h1 hb, (blk_below hb t (blk_lt h2)).trans h2, fun k hk hp => (hb.block k (by omega)).trans (h3 k hk hp)⟩
                cases hq
              · exact Below.refl _ _
              · refine ⟨.inr ?_, .inr ?_, .inr ?_, .inr ?_, .inr ?_, .inr ?_, .inr ?_, .inr ?_, .inl rfl, .inr ?_, .inr ?_, .inl rfl, .inr ?_, .inr ?_, .inr ?_, .inr ?_, .inr ?_, .inr ?_, .inl rfl, .inr ?_, .inr ?_, .inl rfl, trivial⟩
                · intro b9 X ph hE hd hn hS hV hI hF
                  have r5 : b9.tmps[5]?.getD undef = .pointer (some ⟨t, 0, none⟩) := (hn 5 (by kernel_rfl)).trans rfl
                  exact Pred.yields_run (v := .pointer (some ⟨t, 0, none⟩)) (Pred.wanted_none rfl) (by go_simp) ⟨Below.refl _ _, rfl, Nat.zero_le _⟩
                · intro b9 X ph hE hd hn hS hV hI hF
                  have hp0 : ph = 0 := Nat.le_zero.1 (hF 0 8 rfl (Pred.waits_more 8 _ _ (Nat.le_of_ble_eq_true (by kernel_rfl)) (by kernel_rfl)))
                  subst hp0
                  have hb0 : Below w9.heap.size w9 X := hS
                  have hXs := hb0.size
                  exact Pred.yields_run (v := .slice (some ⟨X.heap.size, 0, none⟩) 0 0) (w' := X.alloc (.cells #[] 39)) (Pred.wanted_none rfl) (by go_simp) ⟨(Below.refl _ _).alloc (Nat.le_refl _) _, Nat.zero_le _, fun _ => ⟨X.heap.size, rfl, hXs, blk_alloc_at _ _ _ rfl⟩⟩
                · intro b9 X ph hE hd hn hS hV hI hF
                  have r5 : b9.tmps[5]?.getD undef = .pointer (some ⟨t, 0, none⟩) := (hn 5 (by kernel_rfl)).trans rfl
                  exact Pred.yields_run (v := .pointer (some ⟨t, 0, none⟩)) (Pred.wanted_none rfl) (by go_simp) ⟨Below.refl _ _, rfl, Nat.zero_le _⟩
                · intro b9 X ph hE hd hn hS hV hI hF
                  obtain ⟨r125, j125⟩ : PredU.At 0 (.pointer (some ⟨t, 0, none⟩)) (b9.tmps[125]?.getD undef) X ph := hV 2 _ 125 rfl rfl (Pred.waits_near (by kernel_rfl) (by kernel_rfl))
                  exact Pred.yields_run (v := .pointer (some ⟨t, 0, none⟩)) (Pred.wanted_none rfl) (by go_simp) ⟨Below.refl _ _, rfl, Nat.zero_le _⟩
                · intro b9 X ph hE hd hn hS hV hI hF
                  obtain ⟨r126, j126⟩ : PredU.At 0 (.pointer (some ⟨t, 0, none⟩)) (b9.tmps[126]?.getD undef) X ph := hV 3 _ 126 rfl rfl (Pred.waits_near (by kernel_rfl) (by kernel_rfl))
                  exact Pred.yields_run (v := .pointer (some ⟨t, 1, none⟩)) (Pred.wanted_none rfl) (by go_simp) ⟨Below.refl _ _, rfl, Nat.zero_le _⟩
                · intro b9 X ph hE hd hn hS hV hI hF
                  obtain ⟨r127, j127⟩ : PredU.At 0 (.pointer (some ⟨t, 1, none⟩)) (b9.tmps[127]?.getD undef) X ph := hV 4 _ 127 rfl rfl (Pred.waits_near (by kernel_rfl) (by kernel_rfl))
                  have hp0 : ph = 0 := Nat.le_zero.1 (hF 0 8 rfl (Pred.waits_more 8 _ _ (Nat.le_of_ble_eq_true (by kernel_rfl)) (by kernel_rfl)))
                  subst hp0
                  have hb0 : Below w9.heap.size w9 X := hS
                  have hXs := hb0.size
                  have z : X.cell? ⟨t, 1, none⟩ = some (.slice aL k cL) := by rw [blk_cell ((blk_below hb0 t (blk_lt BT9.out)).trans BT9.out)]; rfl
                  exact Pred.yields_run (v := .slice aL k cL) (Pred.wanted_none rfl) (by go_simp) ⟨Below.refl _ _, rfl, Nat.zero_le _⟩
                · intro b9 X ph hE hd hn hS hV hI hF
                  have r8 : b9.tmps[8]?.getD undef = .int .i64 (q : Int) := (hn 8 (by kernel_rfl)).trans rfl
                  exact Pred.yields_run (v := .int .i64 (q : Int)) (Pred.wanted_none rfl) (by go_simp) ⟨Below.refl _ _, rfl, Nat.zero_le _⟩
                · intro b9 X ph hE hd hn hS hV hI hF
                  obtain ⟨r128, j128⟩ : PredU.At 0 (.slice aL k cL) (b9.tmps[128]?.getD undef) X ph := hV 5 _ 128 rfl rfl (Pred.waits_near (by kernel_rfl) (by kernel_rfl))
                  obtain ⟨r129, j129⟩ : PredU.At 0 (.int .i64 (q : Int)) (b9.tmps[129]?.getD undef) X ph := hV 6 _ 129 rfl rfl (Pred.waits_near (by kernel_rfl) (by kernel_rfl))
                  exact Pred.yields_run (v := .slice aL q cL) (Pred.wanted_none rfl) (run_front (by rfl) r128 r129 (Nat.le_trans hq hcL)) ⟨Below.refl _ _, rfl, Nat.zero_le _⟩
                · intro b9 X ph hE hd hn hS hV hI hF
                  have r7 : b9.tmps[7]?.getD undef = .pointer (some ⟨ge, 0, none⟩) := (hn 7 (by kernel_rfl)).trans rfl
                  have hp1 : ph ≤ 1 := hF 1 11 rfl (Pred.waits_more 8 _ _ (Nat.le_of_ble_eq_true (by kernel_rfl)) (by kernel_rfl))
                  have hb0 : Below w9.heap.size w9 X := by
                    rcases (show ph = 0 ∨ ph = 1 by omega) with rfl | rfl <;> exact hS
                  have z := ld_box ((blk_below hb0 _ (blk_lt B9.out)).trans B9.out)
                  exact Pred.yields_run (v := .agg p.c) (Pred.wanted_none rfl) (by go_simp) ⟨Below.refl _ _, rfl, Nat.zero_le _⟩
                · intro b9 X ph hE hd hn hS hV hI hF
                  obtain ⟨r132, j132⟩ : PredU.At 0 (.agg p.c) (b9.tmps[132]?.getD undef) X ph := hV 9 _ 132 rfl rfl (Pred.waits_near (by kernel_rfl) (by kernel_rfl))
                  exact Pred.yields_run (v := .slice (some ⟨X.heap.size, 0, none⟩) 1 1) (w' := X.alloc (.cells p.c 39)) (Pred.wanted_none rfl) (by go_simp) ⟨(Below.refl _ _).alloc (Nat.le_refl _) _, fun _ => ⟨X.heap.size, rfl, blk_alloc_at _ _ _ rfl⟩⟩
                · intro b9 X ph hE hd hn hS hV hI hF
                  have r5 : b9.tmps[5]?.getD undef = .pointer (some ⟨t, 0, none⟩) := (hn 5 (by kernel_rfl)).trans rfl
                  exact Pred.yields_run (v := .pointer (some ⟨t, 0, none⟩)) (Pred.wanted_none rfl) (by go_simp) ⟨Below.refl _ _, rfl, Nat.zero_le _⟩
                · intro b9 X ph hE hd hn hS hV hI hF
                  obtain ⟨r135, j135⟩ : PredU.At 0 (.pointer (some ⟨t, 0, none⟩)) (b9.tmps[135]?.getD undef) X ph := hV 12 _ 135 rfl rfl (Pred.waits_near (by kernel_rfl) (by kernel_rfl))
                  exact Pred.yields_run (v := .pointer (some ⟨t, 0, none⟩)) (Pred.wanted_none rfl) (by go_simp) ⟨Below.refl _ _, rfl, Nat.zero_le _⟩
                · intro b9 X ph hE hd hn hS hV hI hF
                  obtain ⟨r136, j136⟩ : PredU.At 0 (.pointer (some ⟨t, 0, none⟩)) (b9.tmps[136]?.getD undef) X ph := hV 13 _ 136 rfl rfl (Pred.waits_near (by kernel_rfl) (by kernel_rfl))
                  exact Pred.yields_run (v := .pointer (some ⟨t, 1, none⟩)) (Pred.wanted_none rfl) (by go_simp) ⟨Below.refl _ _, rfl, Nat.zero_le _⟩
                · intro b9 X ph hE hd hn hS hV hI hF
                  obtain ⟨r137, j137⟩ : PredU.At 0 (.pointer (some ⟨t, 1, none⟩)) (b9.tmps[137]?.getD undef) X ph := hV 14 _ 137 rfl rfl (Pred.waits_near (by kernel_rfl) (by kernel_rfl))
                  have hp2 : ph ≤ 2 := hF 2 18 rfl (Pred.waits_more 8 _ _ (Nat.le_of_ble_eq_true (by kernel_rfl)) (by kernel_rfl))
                  have hb0 : Below w9.heap.size w9 X := by
                    rcases (show ph = 0 ∨ ph = 1 ∨ ph = 2 by omega) with rfl | rfl | rfl <;> exact hS
                  have z : X.cell? ⟨t, 1, none⟩ = some (.slice aL k cL) := by rw [blk_cell ((blk_below hb0 t (blk_lt BT9.out)).trans BT9.out)]; rfl
                  exact Pred.yields_run (v := .slice aL k cL) (Pred.wanted_none rfl) (by go_simp) ⟨Below.refl _ _, rfl, Nat.zero_le _⟩
                · intro b9 X ph hE hd hn hS hV hI hF
                  have r8 : b9.tmps[8]?.getD undef = .int .i64 (q : Int) := (hn 8 (by kernel_rfl)).trans rfl
                  exact Pred.yields_run (v := .int .i64 (q : Int)) (Pred.wanted_none rfl) (by go_simp) ⟨Below.refl _ _, rfl, Nat.zero_le _⟩
                · intro b9 X ph hE hd hn hS hV hI hF
                  obtain ⟨r138, j138⟩ : PredU.At 0 (.slice aL k cL) (b9.tmps[138]?.getD undef) X ph := hV 15 _ 138 rfl rfl (Pred.waits_near (by kernel_rfl) (by kernel_rfl))
                  obtain ⟨r139, j139⟩ : PredU.At 0 (.int .i64 (q : Int)) (b9.tmps[139]?.getD undef) X ph := hV 16 _ 139 rfl rfl (Pred.waits_near (by kernel_rfl) (by kernel_rfl))
                  exact Pred.yields_run (v := .slice aT (k - q) (cL - q)) (Pred.wanted_none rfl) (Eq.trans (run_back (by rfl) r138 r139 hq) (by rw [HAT.out])) ⟨Below.refl _ _, rfl, Nat.zero_le _⟩
                · intro b9 X ph hE hd hn hS hV hI hF
                  obtain ⟨r123, j123⟩ : PredU.At 0 (.pointer (some ⟨t, 0, none⟩)) (b9.tmps[123]?.getD undef) X ph := hV 0 _ 123 rfl rfl (Pred.waits_near (by kernel_rfl) (by kernel_rfl))
                  exact Pred.yields_run (v := .pointer (some ⟨t, 0, none⟩)) (Pred.wanted_none rfl) (by go_simp) ⟨Below.refl _ _, rfl, Nat.zero_le _⟩
                · intro b9 X ph hE hd hn hS hV hI hF
                  obtain ⟨r142, j142⟩ : PredU.At 0 (.pointer (some ⟨t, 0, none⟩)) (b9.tmps[142]?.getD undef) X ph := hV 19 _ 142 rfl rfl (Pred.waits_near (by kernel_rfl) (by kernel_rfl))
                  exact Pred.yields_run (v := .pointer (some ⟨t, 1, none⟩)) (Pred.wanted_none rfl) (by go_simp) ⟨Below.refl _ _, rfl, Nat.zero_le _⟩
              · refine ⟨?_, ?_, ?_, ?_, trivial⟩
                · refine ⟨_, rfl, fun k hk => (by cases hk), fun b9 X hE hd hn hS hV hI => ?_⟩
                  obtain ⟨j124, r124⟩ : PredU.When 0 (NoneH w9.heap.size) (b9.tmps[124]?.getD undef) X 0 := hV 1 _ 124 rfl rfl (Pred.waits_near (by kernel_rfl) (by kernel_rfl))
                  obtain ⟨r130, j130⟩ : PredU.At 0 (.slice aL q cL) (b9.tmps[130]?.getD undef) X 0 := hV 7 _ 130 rfl rfl (Pred.waits_near (by kernel_rfl) (by kernel_rfl))
                  replace hS : (fun y => Below w9.heap.size w9 y) X := hS
                  obtain ⟨g9, hg9, hlo9, hb9⟩ := r124 rfl
                  have hXs := hS.size
                  have ho9 : Rown X w9.heap.size (.slice (some ⟨g9, 0, none⟩) 0 0) 0 [] := ⟨rfl, .inr ⟨g9, 0, _, rfl, hlo9, hb9, Nat.le_refl _, by decide, rfl, rfl⟩⟩
                  refine yields_app_e rfl (.tmp 124) (.tmp 130) rfl w9.heap.size (.slice (some ⟨g9, 0, none⟩) 0 0) 0 [] (by simpa [Act.eval] using hg9) ho9 aL q cL _ (by simpa [Act.eval] using r130) (HRF.out.1.below hS (Nat.le_refl _)) (by omega) (by omega) ?_
                  intro u y hown hgr
                  rw [Nat.zero_add, List.nil_append] at hown
                  have hbw := OctA.below_grownBy (B := w9.heap.size) hgr (by omega) (fun k hk => by cases hk; exact hlo9)
                  refine ⟨⟨hbw.mono (by omega), fun _ g hg => hgr.block g (blk_lt hg) (fun e => ?_)⟩, hS.trans hbw, Nat.le_refl _, fun _ => hown⟩
                  have e8 : some g = some g9 := e
                  cases e8
                  have e7 := hb9.symm.trans hg
                  simp [En.c] at e7
                · refine ⟨_, rfl, fun k hk => (by cases hk; exact Pred.waits_near (by kernel_rfl) (by kernel_rfl)), fun b9 X hE hd hn hS hV hI => ?_⟩
                  obtain ⟨j131, r131⟩ : PredU.When 1 (fun u y => Rown y w9.heap.size u (q) (r.take q)) (b9.tmps[131]?.getD undef) X 1 := hV 8 _ 131 rfl rfl (Pred.waits_near (by kernel_rfl) (by kernel_rfl))
                  have r133 : (OneC p.c) (b9.tmps[133]?.getD undef) X := (show PredU.Til 1 (OneC p.c) (b9.tmps[133]?.getD undef) X 1 from hV 10 _ 133 rfl rfl (Pred.waits_near (by kernel_rfl) (by kernel_rfl))) (by omega)
                  replace hS : (fun y => Below w9.heap.size w9 y) X := hS
                  have ho9 := r131 rfl
                  obtain ⟨g9, hg9, hb9⟩ := r133
                  have hXs := hS.size
                  refine yields_app_e rfl (.tmp 131) (.tmp 133) rfl w9.heap.size _ q _ rfl (by simpa [Act.eval] using ho9) (some ⟨g9, 0, none⟩) 1 1 [p] (by simpa [Act.eval] using hg9) (rd_lit (by rw [ce_one, En.l_c]; exact hb9)).1 (by omega) (by omega) ?_
                  intro u y hown hgr
                  have hbw := OctA.below_grownBy (B := w9.heap.size) hgr (by omega) (fun k hk => (ho9.lt k (by simpa [Act.eval] using hk)).1)
                  exact ⟨⟨hbw.mono (by omega), fun e => absurd e (by decide)⟩, hS.trans hbw, Nat.le_refl _, fun _ => hown⟩
                · refine ⟨_, rfl, fun k hk => (by cases hk; exact Pred.waits_near (by kernel_rfl) (by kernel_rfl)), fun b9 X hE hd hn hS hV hI => ?_⟩
                  obtain ⟨j134, r134⟩ : PredU.When 2 (fun u y => Rown y w9.heap.size u (q + 1) (r.take q ++ [p])) (b9.tmps[134]?.getD undef) X 2 := hV 11 _ 134 rfl rfl (Pred.waits_near (by kernel_rfl) (by kernel_rfl))
                  obtain ⟨r140, j140⟩ : PredU.At 0 (.slice aT (k - q) (cL - q)) (b9.tmps[140]?.getD undef) X 2 := hV 17 _ 140 rfl rfl (Pred.waits_near (by kernel_rfl) (by kernel_rfl))
                  replace hS : (fun y => Below w9.heap.size w9 y) X := hS
                  have ho9 := r134 rfl
                  have hXs := hS.size
                  refine yields_app_e rfl (.tmp 134) (.tmp 140) rfl w9.heap.size _ (q + 1) _ rfl (by simpa [Act.eval] using ho9) aT (k - q) (cL - q) _ (by simpa [Act.eval] using r140) (HRF.out.2.below hS (Nat.le_refl _)) (by omega) (by omega) ?_
                  intro u y hown hgr
                  rw [show q + 1 + (k - q) = k + 1 by omega, List.append_assoc, List.singleton_append] at hown
                  have hbw := OctA.below_grownBy (B := w9.heap.size) hgr (by omega) (fun k hk => (ho9.lt k (by simpa [Act.eval] using hk)).1)
                  exact ⟨⟨hbw.mono (by omega), fun e => absurd e (by decide)⟩, hS.trans hbw, Nat.le_refl _, fun _ => hown⟩
                · refine ⟨_, rfl, fun k hk => (by cases hk; exact Pred.waits_near (by kernel_rfl) (by kernel_rfl)), fun b9 X hE hd hn hS hV hI => ?_⟩
                  obtain ⟨r143, j143⟩ : PredU.At 0 (.pointer (some ⟨t, 1, none⟩)) (b9.tmps[143]?.getD undef) X 3 := hV 20 _ 143 rfl rfl (Pred.waits_near (by kernel_rfl) (by kernel_rfl))
                  obtain ⟨j141, r141⟩ : PredU.When 3 (fun u y => Rown y w9.heap.size u (k + 1) (r.take q ++ p :: r.drop q)) (b9.tmps[141]?.getD undef) X 3 := hV 18 _ 141 rfl rfl (Pred.waits_near (by kernel_rfl) (by kernel_rfl))
                  replace hS : (fun y => Below w9.heap.size w9 y) X := hS
                  have ho9 := r141 rfl
                  clear r141
                  obtain ⟨u, hu⟩ : ∃ u, b9.tmps[141]?.getD undef = u := ⟨_, rfl⟩
                  rw [hu] at ho9
                  obtain ⟨au, cu, rfl, hu1, hu2⟩ := Rd.owns_val ho9
                  have hpx := (blk_below hS t (blk_lt BT9.out)).trans BT9.out
                  have f1 := blk_frozen hpx 1
                  have cz : X.cell? ⟨t, 1, none⟩ = some (.slice aL k cL) := by rw [blk_cell hpx]; rfl
                  have hpl := blk_lt BT9.out
                  have hXs := hS.size
                  refine yields_skip (w' := X.setCell ⟨t, 1, none⟩ (.slice au (k + 1) cu)) (Pred.wanted_none rfl) (by go_simp) ⟨⟨?_, fun e => absurd e (by decide)⟩, ⟨.slice au (k + 1) cu, by simpa using hXs, own_head ho9 hpx (by decide), blk_set X t 1 _ _ _ hpx, fun k hk hp => ?_⟩, rfl, Nat.zero_le _⟩
                  · exact ⟨rfl, rfl, rfl, by simp, fun k1 h1 => heap_setCell_other _ _ _ _ (by show k1 ≠ t; omega)⟩
                  · exact (heap_setCell_other _ _ _ _ hp).trans (hS.block k hk)
              intro v X hE hS hv
              replace hS : (fun y => ∃ v0, w9.heap.size ≤ y.heap.size ∧ Rown y w9.heap.size v0 (k + 1) (r.take q ++ p :: r.drop q) ∧ blk y t = some (.cells #[.int .i64 d, v0] 47 (0, 0)) ∧ ∀ b, b < w9.heap.size → b ≠ t → y.heap[b]? = w9.heap[b]?) X := hS
              have e0 : v 0 = .pointer (some ⟨t, 0, none⟩) := (hv 0 _ 123 rfl rfl).1
              generalize hg1 : v 1 = vv1
              have e2 : v 2 = .pointer (some ⟨t, 0, none⟩) := (hv 2 _ 125 rfl rfl).1
              have e3 : v 3 = .pointer (some ⟨t, 0, none⟩) := (hv 3 _ 126 rfl rfl).1
              have e4 : v 4 = .pointer (some ⟨t, 1, none⟩) := (hv 4 _ 127 rfl rfl).1
              have e5 : v 5 = .slice aL k cL := (hv 5 _ 128 rfl rfl).1
              have e6 : v 6 = .int .i64 (q : Int) := (hv 6 _ 129 rfl rfl).1
              have e7 : v 7 = .slice aL q cL := (hv 7 _ 130 rfl rfl).1
              generalize hg8 : v 8 = vv8
              have e9 : v 9 = .agg p.c := (hv 9 _ 132 rfl rfl).1
              generalize hg10 : v 10 = vv10
              generalize hg11 : v 11 = vv11
              have e12 : v 12 = .pointer (some ⟨t, 0, none⟩) := (hv 12 _ 135 rfl rfl).1
              have e13 : v 13 = .pointer (some ⟨t, 0, none⟩) := (hv 13 _ 136 rfl rfl).1
              have e14 : v 14 = .pointer (some ⟨t, 1, none⟩) := (hv 14 _ 137 rfl rfl).1
              have e15 : v 15 = .slice aL k cL := (hv 15 _ 138 rfl rfl).1
              have e16 : v 16 = .int .i64 (q : Int) := (hv 16 _ 139 rfl rfl).1
              have e17 : v 17 = .slice aT (k - q) (cL - q) := (hv 17 _ 140 rfl rfl).1
              generalize hg18 : v 18 = vv18
              have e19 : v 19 = .pointer (some ⟨t, 0, none⟩) := (hv 19 _ 142 rfl rfl).1
              have e20 : v 20 = .pointer (some ⟨t, 1, none⟩) := (hv 20 _ 143 rfl rfl).1
              simp only [Pred.putsF_cons, Pred.putsF_nil, Nat.zero_add, Nat.reduceAdd, e0, hg1, e2, e3, e4, e5, e6, e7, hg8, e9, hg10, hg11, e12, e13, e14, e15, e16, e17, hg18, e19, e20, Act.put, List.setIfInBounds_toArray, List.set_cons_zero, List.set_cons_succ]
              clear e0 hg1 e2 e3 e4 e5 e6 e7 hg8 e9 hg10 hg11 e12 e13 e14 e15 e16 e17 hg18 e19 e20 hv
              obtain ⟨v0, hz9, hown9, hhd9, hbl9⟩ := hS
              obtain ⟨a0, c0, rfl, hc0, -⟩ := Rd.owns_val hown9
              have hlen9 := DiC.Rown.len hown9
              rw [HP.out] at hown9 hlen9
              have HF9 : Hid (Rf X t d (srt d (l.take (k + 1)))) := Lib.hid ⟨a0, c0, by rw [hlen9]; exact hhd9, by
                obtain ⟨a', c', e', hRd⟩ := DiJ.Rown.rd hown9
                injection e' with e1 e2 e3
                rw [e1]; exact hRd, by omega⟩
              have LX : Below w.heap.size w X := LW9.trans hE
              clear hown9 hhd9 hbl9 hE
              go_wp2
              go_roundw
              case rel => exact ⟨k + 1, by omega, by go_num, HG1, HF9, LX⟩
              case measure => simp [intOf]; omega
    · obtain rfl : n = k := by omega
      have hlt' : ¬ (n : Int) < (n : Int) := by omega
      have E := Lib.hid (by
        have hg := HG.out
        have h1 := HN.out
        subst h1
        exact ER.out.symm.trans (new_all hg))
      go_wp2
      go_ret
      have h1 := HN.out
      exact ⟨⟨_, rfl, by rw [E.out, h1]; exact ⟨t, rfl, HF.out⟩⟩, hb⟩
end Go.Proofs.Ytpjbacpchmemeaa.DiRb

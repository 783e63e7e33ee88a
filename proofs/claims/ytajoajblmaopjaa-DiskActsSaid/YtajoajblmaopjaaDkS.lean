/-
  The reference's Up.
-/
import Derived.Test.YtajoajblmaopjaaDkR
namespace Go.Proofs.Ytajoajblmaopjaa.DkS
open Go.RowKit Rd
open Go.Proofs.Ytajoajblmaopjaa.Row hiding cs blk3_0 blk3_1 blk3_2
open Mid DkM DkA DkL DkN DkO DkP DkQ DkR
open DkB (rd z32_len kpS)
open DkC (upN up_dn bitX clS iv iv_app app_int)
open DkG (getD_set H_ up_lens up_step)
open DkH (Bd)
open DkD (newS z32_bd)
set_option linter.unusedVariables false
set_option linter.unusedSimpArgs false
set_option maxRecDepth 10000
variable {X Y : World} {B0 pd bg n : Nat} {s : DS}
/-- the rows for good, behind a loss -/
def uK (ms : Int) : List (Nat × List Int) → Nat → List (List Int) → List (List Int)
  | [], _, K => K
  | x :: t, c, K => uK ms t (c + 1) (if bitX ms c then K.set x.1 x.2 else K)
theorem uK_app (ms : Int) (A B : List (Nat × List Int)) : ∀ (c : Nat) (K : List (List Int)), uK ms (A ++ B) c K = uK ms B (c + A.length) (uK ms A c K) := by
  induction A with
  | nil => intro c K; rfl
  | cons x A ih =>
    intro c K
    show uK ms (A ++ B) (c + 1) _ = uK ms B (c + (A.length + 1)) (uK ms A (c + 1) _)
    rw [ih, show c + 1 + A.length = c + (A.length + 1) by omega]
theorem uK_len (ms : Int) : ∀ (A : List (Nat × List Int)) (c : Nat) (K : List (List Int)), (uK ms A c K).length = K.length
  | [], _, _ => rfl
  | x :: t, c, K => by
    show (uK ms t (c + 1) _).length = _
    rw [uK_len ms t]
    split <;> simp
theorem uK_bd (ms : Int) : ∀ (A : List (Nat × List Int)), (∀ x ∈ A, Bd x.2) → ∀ (c : Nat) (K : List (List Int)), (∀ l ∈ K, Bd l) → ∀ l ∈ uK ms A c K, Bd l
  | [], _, _, _, h => h
  | x :: t, hA, c, K, h => by
    refine uK_bd ms t (fun y hy => hA y (List.mem_cons_of_mem _ hy)) (c + 1) _ (fun l hl => ?_)
    split at hl
    · rcases List.mem_or_eq_of_mem_set hl with h1 | h1
      · exact h l h1
      · rw [h1]; exact hA x (List.mem_cons_self ..)
    · exact h l hl
theorem up_state (s : DS) : ∀ m, m ≤ s.H.length → (upN s m).1.K = uK s.ms (hl (s.H.take m) 0) 0 s.K ∧ (∀ j, j < m → ((upN s m).1.H.getD j (false, [])).1 = false)
  | 0, _ => ⟨rfl, fun j hj => absurd hj (by omega)⟩
  | m + 1, h => by
    obtain ⟨i1, i3⟩ := up_state s m (by omega)
    obtain ⟨j1, -, j3⟩ := up_hl s m (by omega)
    have hm : m < s.H.length := by omega
    have hl8 := (up_lens s m).2
    have hg : H_ s m = s.H[m] := by unfold H_; simp [List.getD, hm]
    have e1 := j3 m (Nat.le_refl _)
    rw [hl_succ hm, uK_app, Nat.zero_add, up_step, e1, hg, ← j1]
    have hset : ∀ (t : List (Bool × List Int)), t = (upN s m).1.H.set m (false, z32) → ∀ j, j < m + 1 → (t.getD j (false, [])).1 = false := fun t ht j hj => by
      rw [ht, getD_set (by omega)]
      by_cases e : j = m
      · rw [if_pos e]
      · rw [if_neg e]; exact i3 j (by omega)
    cases hq : s.H[m].1 with
    | false =>
      simp only [if_neg (show ¬ (false = true) by decide)]
      refine ⟨by rw [i1]; rfl, fun j hj => ?_⟩
      by_cases e : j = m
      · have : H_ (upN s m).1 m = s.H[m] := by rw [e1, hg]
        rw [e, show (upN s m).1.H.getD m (false, []) = s.H[m] from this, hq]
      · exact i3 j (by omega)
    | true =>
      simp only [if_true]
      by_cases hb : bitX s.ms (upN s m).2.1
      · rw [if_pos hb]
        refine ⟨?_, hset _ rfl⟩
        show (upN s m).1.K.set m ((upN s m).1.H.getD m (false, [])).2 = uK s.ms [] 0 (if bitX s.ms (upN s m).2.1 then (uK s.ms (hl (s.H.take m) 0) 0 s.K).set m s.H[m].2 else uK s.ms (hl (s.H.take m) 0) 0 s.K)
        rw [if_pos hb, i1, show (upN s m).1.H.getD m (false, []) = s.H[m] from e1.trans hg]
        rfl
      · rw [if_neg hb]
        refine ⟨?_, hset _ rfl⟩
        show (upN s m).1.K = uK s.ms [] 0 (if bitX s.ms (upN s m).2.1 then (uK s.ms (hl (s.H.take m) 0) 0 s.K).set m s.H[m].2 else (uK s.ms (hl (s.H.take m) 0) 0 s.K))
        rw [if_neg hb, i1]
        rfl
theorem up_hb (s : DS) (h : ∀ x ∈ s.H, Bd x.2) : ∀ m, ∀ x ∈ (upN s m).1.H, Bd x.2
  | 0 => h
  | m + 1 => by
    intro x hx
    rw [up_step] at hx
    split at hx
    · split at hx <;>
      · rcases List.mem_or_eq_of_mem_set hx with h1 | h1
        · exact up_hb s h m x h1
        · rw [h1]; exact ⟨z32_len, z32_bd⟩
    · exact up_hb s h m x hx
/-- what the reference's Up leaves -/
def ruS (s : DS) (n : Nat) : DS := { (upN s n).1 with dn := false, lf := -1 }
theorem rup_not (w : World) (h : Rf w B0 pd bg n s) (hd : s.dn = false) :
    Calls Try.prog 21 #[.pointer (some ⟨pd, 0, none⟩)] w fun e w' => e = .returned (.slice none 0 0) ∧ w = w' := by
  obtain ⟨cb, hv, h1, h2, h3⟩ := h.hd
  have c4 := h1.c4
  rw [hd] at c4
  clear h h1 h2 h3
  go_enter Try.func21, Try.ntmps21
  go_wp2
  go_ret
  exact ⟨rfl, rfl⟩
theorem own_head {B e z m i : Nat} {u v : Value} {xs : List Value} {c : Array Value} (h : X.ownsRow B e z v m xs) (hp : blk X pd = some (.cells c 50 (0, 0))) (he : e ≠ 50) : (X.setCell ⟨pd, i, none⟩ u).ownsRow B e z v m xs := own_keep h fun k hk => heap_setCell_other _ _ _ _ (fun e9 => by
  obtain ⟨cur, h6⟩ := own_type h hk
  have e8 : k = pd := e9
  have h7 : X.heap[pd]? = _ := hp
  rw [e8, h7] at h6
  cases h6
  exact he rfl)
theorem Fr.step {w Z Z' : World} (h : Fr B0 w Z) (hb : Below B0 Z Z') (hk : ∀ k, k < w.heap.size → Z'.heap[k]? = Z.heap[k]?) : Fr B0 w Z' :=
  ⟨h.1.trans hb, fun k cur T h0 h1 h2 h3 => (hk k (blk_lt (show blk w k = _ from h0))).trans (h.2 k cur T h0 h1 h2 h3)⟩
/-- head, rows for good, rows held back -/
def Pt (X : World) (B0 pd bg n cb : Nat) (hv : Value) (s : DS) (K : List (List Int)) (L : List (Nat × List Int)) : Prop := Rh X pd (.slice (some ⟨bg, 0, none⟩) n cb) hv s.lf s.ms s.dn s.wr ∧ BR X B0 bg n cb K ∧ HR X B0 hv L
theorem Pt.keep {cb : Nat} {hv : Value} {K : List (List Int)} {L : List (Nat × List Int)} (h : Pt X B0 pd bg n cb hv s K L) (hs : Same X Y) : Pt Y B0 pd bg n cb hv s K L :=
  ⟨⟨(hs pd _ _ h.1.head (.inl rfl)).trans h.1.head⟩, h.2.1.keep hs.three, h.2.2.keep hs.three⟩
/-- one header more for good -/
theorem Pt.put {cb i : Nat} {hv u : Value} {K : List (List Int)} {L : List (Nat × List Int)} {l : List Int} (h : Pt X B0 pd bg n cb hv s K L) (hi : i < n) (hK : K.length = n) (hu : Oc X B0 u l) : Pt (X.setCell ⟨bg, i, none⟩ u) B0 pd bg n cb hv s (K.set i l) L := by
  have hbt : ∃ cur0, X.heap[bg]? = some (.cells cur0 32 (0, 0)) := by
    obtain ⟨bs, h4, -⟩ := h.2.1
    exact own_type (k := bg) h4 rfl
  obtain ⟨cur0, hbt⟩ := hbt
  have hne : ∀ (j : Nat) (cur : Array Value) (T : TypeId), X.heap[j]? = some (.cells cur T (0, 0)) → T ≠ 32 → (X.setCell ⟨bg, i, none⟩ u).heap[j]? = X.heap[j]? := fun j cur T hj hT => heap_setCell_other _ _ _ _ (fun e => by
    have e9 : j = bg := e
    rw [e9, hbt] at hj
    cases hj
    exact hT rfl)
  refine ⟨⟨(hne pd _ _ h.1.head (by decide)).trans h.1.head⟩, BR.set h.2.1 hi hK hu, ?_⟩
  obtain ⟨hs, h4, h5⟩ := h.2.2
  refine ⟨hs, own_keep h4 fun j hj => ?_, fun j y hy => ?_⟩
  · obtain ⟨cur, hc9⟩ := own_type h4 hj
    exact hne j cur _ hc9 (by decide)
  · obtain ⟨h6, v, h7, h8⟩ := h5 j y hy
    exact ⟨h6, v, h7, h8.keep fun j cur hj => hne j cur _ hj (by decide)⟩
theorem Pt.brow {cb : Nat} {hv : Value} {K : List (List Int)} {L : List (Nat × List Int)} (h : Pt X B0 pd bg n cb hv s K L) (hn : 0 < n) : B0 ≤ bg ∧ n ≤ cb ∧ ∃ cur0, X.heap[bg]? = some (.cells cur0 32 (0, 0)) := by
  obtain ⟨bs, h4, -⟩ := h.2.1
  obtain ⟨g9, c9, e9, h5, -, h6, -, -⟩ := owns_pos h4 hn
  cases e9
  exact ⟨h5, h6, own_type (k := bg) h4 rfl⟩
set_option maxHeartbeats 8000000 in
theorem rup_any (w : World) (h : Rf w B0 pd bg n s) (hd : s.dn = true) :
    Calls Try.prog 21 #[.pointer (some ⟨pd, 0, none⟩)] w fun e w' => (∃ ad c, e = .returned (.slice ad (upN s n).2.2.length c) ∧ Reads w' 1 ad (upN s n).2.2.length (iv (upN s n).2.2)) ∧ Rf w' B0 pd bg n (ruS s n) ∧ Fr B0 w w' := by
  obtain ⟨cb, hv, h1, h2, h3⟩ := h.hd
  have hle := hl_le s.H 0
  obtain ⟨hn1, hn2⟩ := h.small
  have hHl := h.hb.1
  have hv9 : ∃ a c, hv = .slice a (hl s.H 0).length c := by
    obtain ⟨hs, h4, -⟩ := h3
    obtain ⟨a, c, e, -, -⟩ := owns_val h4
    exact ⟨a, c, e⟩
  obtain ⟨ha, hc, rfl⟩ := hv9
  obtain ⟨N, hN⟩ : ∃ N, (hl s.H 0).length = N := ⟨_, rfl⟩
  have hN2 : N ≤ 2048 := by omega
  have HN := Lib.hid hN
  have c4 := h1.c4
  rw [hd] at c4
  rw [hN] at h1 h3
  have hlw := blk_lt h1.head
  have hB0 : B0 ≤ w.heap.size := by have := h.lo; omega
  have H0 : Hid (Pt w B0 pd bg n cb (.slice ha N hc) s s.K (hl s.H 0)) := Lib.hid ⟨h1, h2, h3⟩
  have hRf := Lib.hid h
  clear h h1 h2 h3 hN
  go_enter Try.func21, Try.ntmps21
  go_upto_region 5 with (fail)
  go_loopw [3, 4] (fun v q X => ∃ (k : Nat) (r : List Nat), k ≤ N ∧ r.length ≤ k ∧ q = .int .i64 k ∧ Hid (r = kp s.ms ((hl s.H 0).take k) 0) ∧ Hid (X.ownsRow w.heap.size 3 1 v r.length (iv r)) ∧ Hid (Pt X B0 pd bg n cb (.slice ha N hc) s (uK s.ms ((hl s.H 0).take k) 0 s.K) (hl s.H 0)) ∧ Hid (Fr B0 w X) ∧ w.heap.size ≤ X.heap.size) (fun _ q _ => N - (intOf q).toNat)
  case atStart => exact ⟨0, [], by omega, Nat.le_refl _, rfl, Lib.hid rfl, Lib.hid (World.ownsRow_nil _ _ _ _), H0, Lib.hid (Fr.refl _), Nat.le_refl _⟩
  case round =>
    obtain ⟨k, r, hk, hrk, rfl, HRL, HO, HS, HF, hsz⟩ := hrel
    rename World => Z
    clear H0
    obtain ⟨va, vc, e0, -, -⟩ := owns_val HO.out
    subst e0
    have c1 := HS.out.1.c1
    have c0 := HS.out.1.c0
    have c3 := HS.out.1.c3
    by_cases hkN : k < N
    · have hkN' : (k : Int) < (N : Int) := by omega
      have hlt : k < (hl s.H 0).length := by rw [HN.out]; exact hkN
      obtain ⟨x, hx⟩ : ∃ x, (hl s.H 0)[k] = x := ⟨_, rfl⟩
      have hxk : (hl s.H 0)[k]? = some x := by rw [List.getElem?_eq_getElem hlt, hx]
      have e1 : (hl s.H 0).take (k + 1) = (hl s.H 0).take k ++ [x] := by rw [List.take_add_one, hxk]; rfl
      have hl9 : ((hl s.H 0).take k).length = k := by rw [List.length_take]; omega
      by_cases hbit : bitX s.ms k
      · have hb1 : (bits .and .i64 (s.ms / 2 ^ (k % 32)) 1 == 1) = true := by
          unfold bitX at hbit
          simpa using hbit
        have HR2 : Hid (kp s.ms ((hl s.H 0).take (k + 1)) 0 = r ++ [x.1]) := Lib.hid (by rw [e1, kp_app, ← HRL.out, hl9, Nat.zero_add]; simp [kp, hbit])
        have HK2 : Hid (uK s.ms ((hl s.H 0).take (k + 1)) 0 s.K = (uK s.ms ((hl s.H 0).take k) 0 s.K).set x.1 x.2) := Lib.hid (by rw [e1, uK_app, hl9, Nat.zero_add]; simp [uK, hbit])
        obtain ⟨hg, ch, g, c, e9, x0, x1, hoc⟩ := HR.own HS.out.2.2 hxk
        rw [HN.out] at e9
        cases e9
        obtain ⟨-, hxn⟩ := hl_mem (List.mem_of_getElem? hxk)
        obtain ⟨i, l⟩ := x
        have hi : i < n := by have : i < 0 + s.H.length := hxn; omega
        have hi' : (i : Int) < (n : Int) := by omega
        have hi0 : (0 : Int) ≤ (i : Int) := by omega
        have hk0 : (0 : Int) ≤ (k : Int) := by omega
        obtain ⟨hlo, hcb, cur0, hbt⟩ := HS.out.brow (by omega)
        have fz : Z.drew.frozen? ⟨bg, i, none⟩ = false := blk_frozen (w := Z.drew) (show blk Z.drew bg = _ from hbt) i
        have y0 : Z.drew.cell? ⟨pd, 0, none⟩ = some (.slice (some ⟨bg, 0, none⟩) n cb) := c0
        have y1 : Z.drew.cell? ⟨pd, 1, none⟩ = some (.slice (some ⟨hg, 0, none⟩) N hc) := c1
        have y2 : Z.drew.cell? ⟨hg, k * 2, none⟩ = some (.int .i64 i) := x0
        have y3 : Z.drew.cell? ⟨hg, k * 2 + 1, none⟩ = some (.slice (some ⟨g, 0, none⟩) 32 c) := x1
        have hcell : ∃ v, Z.drew.cell? ⟨bg, i, none⟩ = some v := by
          obtain ⟨-, g7, c7, h7, -⟩ := HS.out.2.1.at hi
          exact ⟨_, h7⟩
        obtain ⟨v9, y4⟩ := hcell
        have hPd : Pt Z.drew B0 pd bg n cb (.slice (some ⟨hg, 0, none⟩) N hc) s (uK s.ms ((hl s.H 0).take k) 0 s.K) (hl s.H 0) := HS.out.keep (fun _ _ _ _ _ => rfl)
        have hO : Oc Z.drew B0 (.slice (some ⟨g, 0, none⟩) 32 c) l := hoc
        have HP1 := Lib.hid (hPd.put (u := .slice (some ⟨g, 0, none⟩) 32 c) hi (by rw [uK_len]; exact hRf.out.kl.1) hO)
        have HF1 : Hid (Fr B0 w (Z.drew.setCell ⟨bg, i, none⟩ (.slice (some ⟨g, 0, none⟩) 32 c))) := Lib.hid (Fr.trans (Fr.trans HF.out (show Fr B0 Z Z.drew from ⟨⟨rfl, rfl, rfl, Nat.le_refl _, fun _ _ => rfl⟩, fun _ _ _ _ _ _ _ => rfl⟩)) (fr_cell (X := Z.drew) (.inr (.inl rfl)) (show Z.drew.heap[bg]? = _ from hbt) hlo))
        have HO1 : Hid ((Z.drew.setCell ⟨bg, i, none⟩ (.slice (some ⟨g, 0, none⟩) 32 c)).ownsRow w.heap.size 3 1 (.slice va r.length vc) r.length (iv r)) := Lib.hid (by
          have hO' : Z.drew.ownsRow w.heap.size 3 1 (.slice va r.length vc) r.length (iv r) := HO.out
          refine own_keep hO' fun j hj => heap_setCell_other _ _ _ _ (fun e => ?_)
          obtain ⟨cur, h6⟩ := own_type hO' hj
          have e9 : j = bg := e
          have hbt' : Z.drew.heap[bg]? = _ := hbt
          rw [e9, hbt'] at h6
          cases h6)
        have hsz1 : w.heap.size ≤ (Z.drew.setCell ⟨bg, i, none⟩ (.slice (some ⟨g, 0, none⟩) 32 c)).heap.size := by simpa using hsz
        rw [HK2.out.symm] at HP1
        have HXK := Lib.hid hxk
        clear hPd hO HS HF HO hoc hbt hx hxk hxn e1 hl9 hbit HRL hsz HK2 x0 x1
        go_upto_region 8 with (fail)
        (refine Reg.quiet_tail 21 (by kernel_rfl) (by kernel_rfl) ?_; simp only [List.take_succ_cons, List.take_zero, List.drop_succ_cons, List.drop_zero]; (repeat go_big_quiet_step (fail)); refine wpQuiet_nil ?_)
        go_upto_region 9 with (fail)
        refine Rd.name_world ?_
        intro Z1 hZ1
        have hZ2 : Z1 = Z.drew.setCell ⟨bg, i, none⟩ (.slice (some ⟨g, 0, none⟩) 32 c) := hZ1
        rw [← hZ2] at HP1 HF1 HO1 hsz1
        clear hZ1 hZ2 y0 y1 y2 y3 y4 fz c0 c1 c3
        obtain ⟨hg9, ch9, g9, c9, e9, x0, -, -⟩ := HR.own HP1.out.2.2 HXK.out
        rw [HN.out] at e9
        cases e9
        have c1 := HP1.out.1.c1
        obtain ⟨o9, ho9⟩ : ∃ o : Obj, o = .cells #[.int .i64 (i : Int)] 3 := ⟨_, rfl⟩
        go_wp2_with (at_builtin; refine app_int rfl (.tmp 49) (.tmp 58) rfl w.heap.size _ _ _ rfl (HO1.out.alloc _) Z1.heap.size 1 i rfl (blk_alloc_at _ _ _ rfl) (by omega) (by simp; omega) ?_; intro v4 w4 ho4 hg4)
        have hA := (Below.refl Z1.heap.size Z1).alloc (Nat.le_refl _) (.cells #[.int .i64 (i : Int)] 3)
        have hS4 : Same Z1 w4 := fun j cur T hj hT => by
          have hlt9 := blk_lt (show blk Z1 j = _ from hj)
          rw [hg4.block j (by have := hA.size; omega) (fun e => by
            obtain ⟨cur2, h9⟩ := own_type HO1.out e.symm
            rw [h9] at hj
            cases hj
            rcases hT with h | h | h | h <;> cases h)]
          exact hA.block j hlt9
        have hBw : Below w.heap.size Z1 w4 := (hA.mono hsz1).grown hg4 (by have := hA.size; omega) (fun j hj => (HO1.out.lt j hj).1)
        exact ⟨⟨k + 1, r ++ [i], by omega, by simp; omega, by go_num, Lib.hid HR2.out.symm, Lib.hid (by rw [List.length_append]; exact ho4), Lib.hid (HP1.out.keep hS4), Lib.hid (Fr.step HF1.out (hBw.mono hB0) (fun j hj => hBw.block j hj)), by have := hBw.size; omega⟩, by simp [intOf]; omega⟩
      · have hb1 : (bits .and .i64 (s.ms / 2 ^ (k % 32)) 1 == 1) = false := by
          unfold bitX at hbit
          simpa using hbit
        have HR2 : Hid (r = kp s.ms ((hl s.H 0).take (k + 1)) 0) := Lib.hid (by rw [e1, kp_app, ← HRL.out, hl9, Nat.zero_add]; simp [kp, hbit])
        have HS2 : Hid (Pt Z B0 pd bg n cb (.slice ha N hc) s (uK s.ms ((hl s.H 0).take (k + 1)) 0 s.K) (hl s.H 0)) := Lib.hid (by rw [e1, uK_app, hl9, Nat.zero_add]; simp only [uK, if_neg hbit]; exact HS.out)
        clear hbit HRL HS hx hxk e1 hl9
        go_wp2
        exact ⟨⟨k + 1, r, by omega, by omega, by go_num, HR2, HO, HS2, HF, hsz⟩, by simp [intOf]; omega⟩
    · obtain rfl : k = N := by omega
      have hhd := HS.out.1.head
      have f1 := HS.out.1.fz 1
      have A1 : Hid (Rh (Z.setCell ⟨pd, 1, none⟩ (.slice none 0 0)) pd (.slice (some ⟨bg, 0, none⟩) n cb) (.slice none 0 0) s.lf s.ms s.dn s.wr) := Lib.hid ⟨blk_set Z pd 1 _ _ _ hhd⟩
      have g4 := A1.out.c4
      have f4 := A1.out.fz 4
      have A2 := Lib.hid (A1.out.set4 false)
      have g2 := A2.out.c2
      have f2 := A2.out.fz 2
      have A3 := Lib.hid (A2.out.set2 (-1))
      have b1 := Lib.hid (show blk Z pd = _ from hhd)
      clear hhd
      go_wp2
      go_ret
      have hRd := Reads.of_owns HO.out
      have hr9 := HRL.out
      rw [List.take_of_length_le (by rw [HN.out]; exact Nat.le_refl _)] at hr9
      have h9 := hRf.out
      obtain ⟨u1, u2, -⟩ := up_hl s n (by omega)
      obtain ⟨u3, u4⟩ := up_state s n (by omega)
      have htk : s.H.take n = s.H := List.take_of_length_le (by omega)
      rw [htk] at u2 u3
      have hnm := up_dn s n
      have hll := up_lens s n
      have hnil : hl (ruS s n).H 0 = [] := hl_none (fun a ha => by
        obtain ⟨j, hj, rfl⟩ := List.getElem_of_mem ha
        have hj' : j < (upN s n).1.H.length := hj
        have h7 := u4 j (by rw [hll.2] at hj'; omega)
        have h8 : (upN s n).1.H[j].1 = false := by simpa [List.getD, hj'] using h7
        exact h8) 0
      have s1 := same3_head (v := .slice none 0 0) (i := 1) b1.out
      have s2 := same3_head (v := .bool false) (i := 4) A1.out.head
      have s3 := same3_head (v := .int .i64 (-1)) (i := 2) A2.out.head
      have hbr := ((HS.out.2.1.keep s1).keep s2).keep s3
      rw [List.take_of_length_le (by rw [HN.out]; exact Nat.le_refl _), ← u3] at hbr
      have hlo := h9.lo
      refine ⟨⟨va, vc, by rw [u2, ← hr9]; rfl, by
          rw [u2, ← hr9]
          exact Reads.of_owns (own_head (own_head (own_head HO.out b1.out (by decide)) A1.out.head (by decide)) A2.out.head (by decide))⟩, ⟨hlo, ⟨cb, .slice none 0 0, ?_, hbr, ?_⟩, h9.small, ⟨by show (upN s n).1.K.length = n; rw [hll.1]; exact h9.kl.1, ?_⟩, ⟨by show (upN s n).1.H.length = n; rw [hll.2]; exact h9.hb.1, up_hb s h9.hb.2 n⟩⟩, ?_⟩
      · show Rh _ pd _ _ (-1) (upN s n).1.ms false (upN s n).1.wr
        rw [hnm.2.1, hnm.2.2.1]
        exact A3.out
      · rw [hnil]
        exact ⟨[], World.ownsRow_nil _ _ _ _, fun j x hx => by simp at hx⟩
      · show ∀ l ∈ (upN s n).1.K, Bd l
        rw [u3]
        exact uK_bd _ _ (hl_bd 0 h9.hb.2) _ _ h9.kl.2
      · exact Fr.trans (Fr.trans (Fr.trans HF.out (fr_cell (.inl rfl) (show Z.heap[pd]? = _ from b1.out) hlo)) (fr_cell (.inl rfl) (show _ from A1.out.head) hlo)) (fr_cell (.inl rfl) (show _ from A2.out.head) hlo)
end Go.Proofs.Ytajoajblmaopjaa.DkS

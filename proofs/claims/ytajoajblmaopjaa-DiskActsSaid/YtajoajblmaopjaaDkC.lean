/-
  New, Fuse, Flush, Up.
-/
import Derived.Test.YtajoajblmaopjaaDkB
import Derived.Test.YtajoajblmaopjaaApp
namespace Go.Proofs.Ytajoajblmaopjaa.DkC
open Go.RowKit Rd Go.Proofs.Ytajoajblmaopjaa.Row Mid DkM DkA DkB
set_option linter.unusedVariables false
set_option linter.unusedSimpArgs false
set_option maxRecDepth 10000
variable {X Y : World} {b kg hg n : Nat} {s : DS}
attribute [local go_sem ↓] load_sec store_sec load_held store_held
theorem hv_at0 (h : Bool × List Int) : (hv h)[0]? = some (.bool h.1) := rfl
theorem hv_get0 (h : Bool × List Int) (hh : 0 < (hv h).length) : (hv h)[0] = .bool h.1 := rfl
theorem hv_len (h : Bool × List Int) : (hv h).length = h.2.length + 1 := by show (us h.2).length + 1 = _; rw [us_len]
attribute [local go_sem] store_new held_new us_size us_len z32_len hv_at0 hv_get0 hv_len
/-! Fuse -/
theorem fuse_any (m mask : Int) (w : World) (h : Dk w b kg hg n s) (hd : s.dn = false) (hm : 0 ≤ m ∧ m ≤ 1048576) :
    Calls Try.prog 15 #[.pointer (some ⟨b, 0, none⟩), .int .i64 m, .int .i64 mask] w fun e w' => e = .returned (.int .i64 0) ∧ Dk w' b kg hg n { s with lf := m, ms := mask } ∧ Tn [b, kg, hg] w w' := by
  have H := Lib.hid h
  have c4 := h.c4
  rw [hd] at c4
  have c2 := h.c2
  have f2 := h.fb 2
  have d0 : decide (m < 0) = false := decide_eq_false (by omega)
  have d1 : decide (1048576 < m) = false := decide_eq_false (by omega)
  have H2 : Hid (Dk (w.setCell ⟨b, 2, none⟩ (.int .i64 m)) b kg hg n { s with lf := m }) := Lib.hid (h.stHead rfl rfl rfl)
  have c3 := H2.out.c3
  have f3 := H2.out.fb 3
  clear h hm hd
  go_enter Try.func15, Try.ntmps15
  go_wp2
  go_ret
  exact ⟨rfl, H2.out.stHead (s' := { s with lf := m, ms := mask }) rfl rfl rfl, (Tn.set _ _ _ (by simp)).trans (Tn.set _ _ _ (by simp))⟩
/-! Flush -/
def flN (s : DS) : Nat → DS
  | 0 => s
  | m + 1 => if ((flN s m).H.getD m (false, [])).1 = true then kpS (flN s m) m else flN s m
theorem fl_nums (s : DS) : ∀ m, (flN s m).lf = s.lf ∧ (flN s m).ms = s.ms ∧ (flN s m).dn = s.dn ∧ (flN s m).wr = s.wr ∧ (flN s m).K.length = s.K.length ∧ (flN s m).H.length = s.H.length
  | 0 => ⟨rfl, rfl, rfl, rfl, rfl, rfl⟩
  | m + 1 => by
    have ih := fl_nums s m
    unfold flN
    split
    · unfold kpS
      simp only [List.length_set]
      exact ih
    · exact ih
theorem rd_kp {s : DS} {i : Nat} (hk : i < s.K.length) (hh : i < s.H.length) (hq : (s.H.getD i (false, [])).1 = true) (j : Nat) : rd (kpS s i) j = rd s j := by
  unfold rd kpS
  simp only
  by_cases e : j = i
  · subst e
    rw [List.getD_eq_getElem?_getD, List.getElem?_set_self hh, List.getD_eq_getElem?_getD (l := s.K.set _ _), List.getElem?_set_self hk, if_pos hq]
    rfl
  · rw [List.getD_eq_getElem?_getD, List.getElem?_set_ne (Ne.symm e), ← List.getD_eq_getElem?_getD, List.getD_eq_getElem?_getD (l := s.K.set _ _), List.getElem?_set_ne (Ne.symm e), ← List.getD_eq_getElem?_getD]
theorem rd_fl {s : DS} (hl : s.K.length = s.H.length) : ∀ m, m ≤ s.H.length → ∀ j, rd (flN s m) j = rd s j
  | 0, _, j => rfl
  | m + 1, h, j => by
    have ih := rd_fl hl m (by omega) j
    have hn := fl_nums s m
    unfold flN
    split
    · rename_i hq
      rw [rd_kp (by rw [hn.2.2.2.2.1]; omega) (by rw [hn.2.2.2.2.2]; omega) hq, ih]
    · exact ih
set_option maxHeartbeats 2000000 in
theorem flush_any (w : World) (h : Dk w b kg hg n s) (hd : s.dn = false) :
    Calls Try.prog 13 #[.pointer (some ⟨b, 0, none⟩)] w fun e w' => e = .returned (.int .i64 0) ∧ Dk w' b kg hg n (flN s n) ∧ Tn [b, kg, hg] w w' := by
  have H := Lib.hid h
  have c4 := h.c4
  rw [hd] at c4
  have c1 := h.c1
  have hn := h.small.2
  clear h
  go_enter Try.func13, Try.ntmps13
  go_wp2_with fail
  clear c1 c4
  go_loopw [18] (fun i X => ∃ k : Nat, k ≤ n ∧ i = .int .i64 k ∧ Hid (Dk X b kg hg n (flN s k)) ∧ Hid (Tn [b, kg, hg] w X)) (fun i _ => n - (intOf i).toNat)
  case atStart => exact ⟨0, by omega, rfl, H, Lib.hid (Tn.refl _ _)⟩
  case round =>
    obtain ⟨k, hk, rfl, HD, HT⟩ := hrel
    rename World => X
    by_cases hlt : k < n
    · have hlt' : (k : Int) < n := by omega
      obtain ⟨q, l, eh⟩ : ∃ q l, (flN s k).H.getD k (false, []) = (q, l) := ⟨_, _, rfl⟩
      have hH := (HD.out.ldH hlt eh).2.1
      have m32 : l.length = 32 := by
        have hiK : k < (flN s k).H.length := by rw [HD.out.hl.1]; exact hlt
        have e9 : (flN s k).H[k] = (q, l) := by rw [← eh]; simp [List.getD, hiK]
        have h9 := HD.out.hl.2 _ (List.getElem_mem hiK)
        rw [e9] at h9; exact h9
      have hst := held_new X
      have HE : Hid (flN s (k + 1) = if q = true then kpS (flN s k) k else flN s k) := Lib.hid (by
        show (if ((flN s k).H.getD k (false, [])).1 = true then kpS (flN s k) k else flN s k) = _
        rw [eh])
      clear eh hst
      have BL := fun o : Obj => (Below.refl X.heap.size X).alloc (Nat.le_refl _) o
      have HBL := Lib.hid BL
      clear BL
      cases q with
      | true =>
        go_wp2_with fail
        refine (keep_any k _ (HD.out.bel (HBL.out _)) hlt).mono ?_
        rintro e X2 ⟨⟨v, rfl⟩, h2, t2⟩
        have H2 : Hid (Dk X2 b kg hg n (flN s (k + 1))) := Lib.hid (by rw [HE.out, if_pos trivial]; exact h2)
        have T2 : Hid (Tn [b, kg, hg] w X2) := Lib.hid ((HT.out.trans (Tn.of_below (HBL.out _))).trans t2)
        clear h2 t2 hH
        go_wp2
        exact ⟨⟨k + 1, by omega, by go_num, H2, T2⟩, by simp [intOf]; omega⟩
      | false =>
        have H2 : Hid (∀ o, Dk (X.alloc o) b kg hg n (flN s (k + 1)) ∧ Tn [b, kg, hg] w (X.alloc o)) := Lib.hid fun o => ⟨by rw [HE.out, if_neg (by decide)]; exact HD.out.bel (HBL.out o), HT.out.trans (Tn.of_below (HBL.out o))⟩
        go_wp2
        exact ⟨⟨k + 1, by omega, by go_num, Lib.hid (H2.out _).1, Lib.hid (H2.out _).2⟩, by simp [intOf]; omega⟩
    · obtain rfl : k = n := by omega
      go_wp2
      go_ret
      exact ⟨rfl, HD.out, HT.out⟩
/-! Up -/
set_option maxHeartbeats 1000000 in
theorem up_not (w : World) (h : Dk w b kg hg n s) (hd : s.dn = false) :
    Calls Try.prog 20 #[.pointer (some ⟨b, 0, none⟩)] w fun e w' => e = .returned (.slice none 0 0) ∧ w = w' := by
  have c4 := h.c4
  rw [hd] at c4
  clear h
  go_enter Try.func20, Try.ntmps20
  go_wp2
  go_ret
  exact ⟨rfl, rfl⟩
def bitX (ms : Int) (c : Nat) : Prop := bits .and .i64 (ms / 2 ^ (c % 32)) 1 = 1
instance (ms : Int) (c : Nat) : Decidable (bitX ms c) := by unfold bitX; infer_instance
def clS (s : DS) (i : Nat) : DS := { s with H := s.H.set i (false, z32) }
/-- kept and not, one behind the other -/
def upN (s : DS) : Nat → DS × Nat × List Nat
  | 0 => (s, 0, [])
  | m + 1 =>
    let t := upN s m
    if (t.1.H.getD m (false, [])).1 = true then (if bitX s.ms t.2.1 then (kpS t.1 m, t.2.1 + 1, t.2.2 ++ [m]) else (clS t.1 m, t.2.1 + 1, t.2.2)) else t
theorem up_dn (s : DS) : ∀ m, (upN s m).1.dn = s.dn ∧ (upN s m).1.ms = s.ms ∧ (upN s m).1.wr = s.wr ∧ (upN s m).1.lf = s.lf
  | 0 => ⟨rfl, rfl, rfl, rfl⟩
  | m + 1 => by
    have ih := up_dn s m
    unfold upN
    simp only
    split
    · split
      · exact ih
      · exact ih
    · exact ih
def iv (r : List Nat) : List Value := r.map fun (x : Nat) => Value.int .i64 (x : Int)
theorem iv_app (r s : List Nat) : iv (r ++ s) = iv r ++ iv s := by simp [iv]
theorem info_int : (Try.prog.info? 3).map (fun i => (i.zero, i.size, i.bytes)) = some (some (.int .i64 0), 1, 8) := by kernel_rfl
theorem app_int {ops : Array Oper} {rest : List Oper} {o : Oper} {a : Act} {w : World} {Q : Exit → Act → World → Prop} (hgd : o.guard = none) (s x : Operand)
    (ho : o.op = .call { callee := .builtin .append, args := #[s, x], argTypes := #[41, 41] })
    (base : Nat) (v : Value) (m : Nat) (r : List Nat) (hs : a.eval s = v) (hown : w.ownsRow base 3 1 v m (iv r))
    (gx : Nat) (cx : Nat) (y : Nat) (hx : a.eval x = .slice (some ⟨gx, 0, none⟩) 1 cx) (hg : blk w gx = some (.cells #[.int .i64 (y : Int)] 3 (0, 0))) (hm : m ≤ 1000000) (hbase : base ≤ w.heap.size)
    (h : ∀ v' w', w'.ownsRow base 3 1 v' (m + 1) (iv (r ++ [y])) → w.grownBy w' v.ownBlock → wpList Try.prog ops Q rest (a.put o.dst v') w') : wpList Try.prog ops Q (o :: rest) a w := by
  obtain ⟨i0, hi, hz0, hz1, hz2⟩ := info_parts info_int
  refine App.wpList_append_reads w hgd s x 41 ho base 3 i0 _ 1 8 Try.underlying41 hi hz0 hz1 hz2 rfl (by decide) v m (iv r) hs hown (some ⟨gx, 0, none⟩) 1 cx (iv [y]) hx ?_ ?_ (by unfold maxLen; omega) (by omega) hbase ?_
  · refine ⟨by simp [iv], Or.inr ⟨gx, 0, rfl, blk_lt hg, fun j hj => ?_⟩⟩
    rw [Nat.zero_add, blk_cell hg]
    simp [iv]
  · intro u hu
    simp only [iv, List.map_cons, List.map_nil, List.mem_singleton] at hu
    subst hu
    rfl
  · intro v' w' h1 h2
    rw [← iv_app] at h1
    exact h v' w' h1 h2
theorem own_tn {X Y : World} {B e s m : Nat} {v : Value} {xs : List Value} {ks : List Nat} (h : X.ownsRow B e s v m xs) (ht : Tn ks X Y) (hk : ∀ k ∈ ks, k < B) : Y.ownsRow B e s v m xs := by
  obtain ⟨h1, h2⟩ := h
  refine ⟨h1, ?_⟩
  rcases h2 with h2 | ⟨g, cap, cur, e1, e2, e3, e4⟩
  · exact Or.inl h2
  · exact Or.inr ⟨g, cap, cur, e1, e2, (ht.2.2 g (Array.getElem?_eq_some_iff.1 e3).1 fun hm => by have := hk g hm; omega).trans e3, e4⟩
theorem Tn.grown {ks : List Nat} {w X Y : World} {row : Option Nat} (h : Tn ks w X) (hg : X.grownBy Y row) (hr : ∀ r, row = some r → w.heap.size ≤ r) : Tn ks w Y :=
  ⟨⟨hg.os.trans h.1.1, hg.tape.trans h.1.2.1, hg.output.trans h.1.2.2⟩, Nat.le_trans h.2.1 hg.size, fun k h1 h2 => (hg.block k (Nat.lt_of_lt_of_le h1 h.2.1) fun e => by have := hr k e.symm; omega).trans (h.2.2 k h1 h2)⟩
set_option maxHeartbeats 4000000 in
theorem up_any (w : World) (h : Dk w b kg hg n s) (hd : s.dn = true) :
    Calls Try.prog 20 #[.pointer (some ⟨b, 0, none⟩)] w fun e w' => (∃ ad c, e = .returned (.slice ad (upN s n).2.2.length c) ∧ Reads w' 1 ad (upN s n).2.2.length (iv (upN s n).2.2) ∧ ∀ a, ad = some a → w.heap.size ≤ a.block) ∧ Dk w' b kg hg n { (upN s n).1 with dn := false, lf := -1, ms := 0 } ∧ Tn [b, kg, hg] w w' := by
  have H := Lib.hid h
  have c4 := h.c4
  rw [hd] at c4
  have c1 := h.c1
  have hn := h.small.2
  have hbl := h.lt
  have HDN := Lib.hid hd
  clear h hd
  go_enter Try.func20, Try.ntmps20
  go_wp2_with fail
  clear c1 c4
  go_loopw [3, 4, 21] (fun v kc i X => ∃ (m c : Nat) (L : List Nat) (t : DS), m ≤ n ∧ c ≤ m ∧ L.length ≤ m ∧ i = .int .i64 m ∧ kc = .int .i64 c ∧ Hid (upN s m = (t, c, L)) ∧ Hid (Dk X b kg hg n t) ∧ Hid (X.ownsRow w.heap.size 3 1 v L.length (iv L)) ∧ Hid (Tn [b, kg, hg] w X)) (fun _ _ i _ => n - (intOf i).toNat)
  case atStart => exact ⟨0, 0, [], s, by omega, by omega, by simp, rfl, rfl, Lib.hid rfl, H, Lib.hid (World.ownsRow_nil _ _ _ _), Lib.hid (Tn.refl _ _)⟩
  case round =>
    obtain ⟨m, c, L, t, hm, hc, hLm, rfl, rfl, HU, HD, HO, HT⟩ := hrel
    rename World => X
    rename Value => v
    obtain ⟨va, vc, rfl, -, -⟩ := owns_val HO.out
    have hnums := up_dn s m
    rw [HU.out] at hnums
    have hms := hnums.2.1
    have HMS := Lib.hid hms
    have hszX := HT.out.2.1
    by_cases hlt : m < n
    · have hlt' : (m : Int) < n := by omega
      obtain ⟨q, l, eh⟩ : ∃ q l, t.H.getD m (false, []) = (q, l) := ⟨_, _, rfl⟩
      have hH := (HD.out.ldH hlt eh).2.1
      have m32 : l.length = 32 := by
        have hiK : m < t.H.length := by rw [HD.out.hl.1]; exact hlt
        have e9 : t.H[m] = (q, l) := by rw [← eh]; simp [List.getD, hiK]
        have h9 := HD.out.hl.2 _ (List.getElem_mem hiK)
        rw [e9] at h9; exact h9
      have HBL : Hid (∀ o : Obj, Below X.heap.size X (X.alloc o)) := Lib.hid fun o => (Below.refl X.heap.size X).alloc (Nat.le_refl _) o
      have HE : Hid (upN s (m + 1) = if q = true then (if bitX s.ms c then (kpS t m, c + 1, L ++ [m]) else (clS t m, c + 1, L)) else (t, c, L)) := Lib.hid (by
        show (if ((upN s m).1.H.getD m (false, [])).1 = true then (if bitX s.ms (upN s m).2.1 then (kpS (upN s m).1 m, (upN s m).2.1 + 1, (upN s m).2.2 ++ [m]) else (clS (upN s m).1 m, (upN s m).2.1 + 1, (upN s m).2.2)) else upN s m) = _
        rw [HU.out]
        simp only [eh])
      have c3 := HD.out.c3
      rw [hms] at c3
      have c1X := HD.out.c1
      have hblX := HD.out.lt
      clear eh hnums hms
      cases q with
      | false =>
        have H2 : Hid (∀ o, Dk (X.alloc o) b kg hg n t ∧ Tn [b, kg, hg] w (X.alloc o) ∧ (X.alloc o).ownsRow w.heap.size 3 1 (.slice va L.length vc) L.length (iv L)) := Lib.hid fun o => ⟨HD.out.bel (HBL.out o), HT.out.trans (Tn.of_below (HBL.out o)), HO.out.alloc _⟩
        have HE2 : Hid (upN s (m + 1) = (t, c, L)) := Lib.hid (by rw [HE.out, if_neg (by decide)])
        go_wp2
        exact ⟨⟨m + 1, c, L, t, by omega, by omega, by omega, by go_num, rfl, HE2, Lib.hid (H2.out _).1, Lib.hid (H2.out _).2.2, Lib.hid (H2.out _).2.1⟩, by simp [intOf]; omega⟩
      | true =>
        by_cases hbit : bitX s.ms c
        · have HE2 : Hid (upN s (m + 1) = (kpS t m, c + 1, L ++ [m])) := Lib.hid (by rw [HE.out, if_pos rfl, if_pos hbit])
          have hb1 : (bits .and .i64 (s.ms / 2 ^ (c % 32)) 1 == 1) = true := by
            unfold bitX at hbit
            simpa using hbit
          clear hbit HE
          go_wp2_with fail
          refine (keep_any m _ (HD.out.bel (HBL.out _)) hlt).mono ?_
          rintro e X2 ⟨⟨v9, rfl⟩, h2, t2⟩
          have H2 := Lib.hid h2
          have T2 : Hid (Tn [b, kg, hg] w X2) := Lib.hid ((HT.out.trans (Tn.of_below (HBL.out _))).trans t2)
          have O2 : Hid (X2.ownsRow w.heap.size 3 1 (.slice va L.length vc) L.length (iv L)) := Lib.hid (own_tn (HO.out.alloc _) t2 (by intro k hk; simp at hk; omega))
          have hszX2 := T2.out.2.1
          clear h2 t2 hH c3 c1X HO HD
          go_upto_region 11 with (fail)
          go_wp2_with (at_builtin; refine app_int rfl (.tmp 41) (.tmp 43) rfl w.heap.size _ _ _ rfl (O2.out.alloc _) X2.heap.size 1 m rfl (blk_alloc_at _ _ _ rfl) (by omega) (by simp; omega) ?_; intro v4 w4 ho4 hg4; obtain ⟨a4, k4, e4, -, -⟩ := owns_val ho4; subst e4; have HO4 := Lib.hid ho4; have hk4 : ∀ k, k ∈ [b, kg, hg] → blk w4 k = blk X2 k := (fun k hk => by simp at hk; exact (hg4.block k (by simp; omega) fun e => by have := (O2.out.lt k e.symm).1; omega).trans (blk_alloc_old _ _ _ (by omega))); have H4 := Lib.hid (H2.out.kept' (hk4 b (by simp)) (hk4 kg (by simp)) (hk4 hg (by simp))); have T4 : Hid (Tn [b, kg, hg] w w4) := Lib.hid (Tn.grown (T2.out.trans (Tn.of_below ((Below.refl _ _).alloc (Nat.le_refl _) _))) hg4 fun r e => (O2.out.lt r e).1); have c19 := H4.out.c1; have sth : (storeRow 68 (.pointer (some ⟨hg, m * 33, none⟩)) (.agg #[.bool false, .int .u8 0, .int .u8 0, .int .u8 0, .int .u8 0, .int .u8 0, .int .u8 0, .int .u8 0, .int .u8 0, .int .u8 0, .int .u8 0, .int .u8 0, .int .u8 0, .int .u8 0, .int .u8 0, .int .u8 0, .int .u8 0, .int .u8 0, .int .u8 0, .int .u8 0, .int .u8 0, .int .u8 0, .int .u8 0, .int .u8 0, .int .u8 0, .int .u8 0, .int .u8 0, .int .u8 0, .int .u8 0, .int .u8 0, .int .u8 0, .int .u8 0, .int .u8 0])).run Try.prog w4 = .ok () (w4.setRow hg (fl (((kpS t m).H.set m (false, z32)).map hv)).toArray) := H4.out.stH (q := false) (l := z32) hlt rfl; clear ho4 hg4 hk4)
          have H5 := H4.out.setHrow (q := false) (l := z32) hlt rfl
          have e5 : (kpS t m).setH m false z32 = kpS t m := by unfold DS.setH kpS; simp
          rw [e5] at H5
          have O5 := own_tn HO4.out (Tn.row (ks := [b, kg, hg]) w4 (g := hg) (fl (((kpS t m).H.set m (false, z32)).map hv)).toArray (by simp)) (by intro k hk; simp at hk; omega)
          refine ⟨⟨m + 1, c + 1, L ++ [m], kpS t m, by omega, by omega, by simp; omega, by go_num, by go_num, HE2, Lib.hid ?_, Lib.hid ?_, Lib.hid (T4.out.trans (Tn.row _ _ (by simp)))⟩, by simp [intOf]; omega⟩
          · first | exact H5 | (rw [List.map_set] at H5; exact H5)
          · rw [List.length_append, List.length_singleton]
            first | exact O5 | (rw [List.map_set] at O5; exact O5)
        · have HE2 : Hid (upN s (m + 1) = (clS t m, c + 1, L)) := Lib.hid (by rw [HE.out, if_pos rfl, if_neg hbit])
          have hb1 : (bits .and .i64 (s.ms / 2 ^ (c % 32)) 1 == 1) = false := by
            unfold bitX at hbit
            simpa using hbit
          have H2 : Hid (∀ o, Dk (X.alloc o) b kg hg n t ∧ Tn [b, kg, hg] w (X.alloc o) ∧ (X.alloc o).ownsRow w.heap.size 3 1 (.slice va L.length vc) L.length (iv L)) := Lib.hid fun o => ⟨HD.out.bel (HBL.out o), HT.out.trans (Tn.of_below (HBL.out o)), HO.out.alloc _⟩
          have sth : ∀ o, (storeRow 68 (.pointer (some ⟨hg, m * 33, none⟩)) (.agg #[.bool false, .int .u8 0, .int .u8 0, .int .u8 0, .int .u8 0, .int .u8 0, .int .u8 0, .int .u8 0, .int .u8 0, .int .u8 0, .int .u8 0, .int .u8 0, .int .u8 0, .int .u8 0, .int .u8 0, .int .u8 0, .int .u8 0, .int .u8 0, .int .u8 0, .int .u8 0, .int .u8 0, .int .u8 0, .int .u8 0, .int .u8 0, .int .u8 0, .int .u8 0, .int .u8 0, .int .u8 0, .int .u8 0, .int .u8 0, .int .u8 0, .int .u8 0, .int .u8 0])).run Try.prog (X.alloc o) = .ok () ((X.alloc o).setRow hg (fl ((t.H.set m (false, z32)).map hv)).toArray) := fun o => (H2.out o).1.stH (q := false) (l := z32) hlt rfl
          clear hbit HE
          go_wp2
          refine ⟨⟨m + 1, c + 1, L, clS t m, by omega, by omega, by omega, by go_num, by go_num, HE2, Lib.hid ?_, Lib.hid ?_, Lib.hid ((H2.out _).2.1.trans (Tn.row _ _ (by simp)))⟩, by simp [intOf]; omega⟩
          · have H5 := (H2.out (.cells (hv (true, l)).toArray 68)).1.setHrow (q := false) (l := z32) hlt rfl
            first | exact H5 | (rw [List.map_set] at H5; exact H5)
          · have O5 := own_tn (H2.out (.cells (hv (true, l)).toArray 68)).2.2 (Tn.row (ks := [b, kg, hg]) _ (g := hg) (fl ((t.H.set m (false, z32)).map hv)).toArray (by simp)) (by intro k hk; simp at hk; omega)
            first | exact O5 | (rw [List.map_set] at O5; exact O5)
    · obtain rfl : m = n := by omega
      have c4 := HD.out.c4
      have f4 := HD.out.fb 4
      have H1 : Hid (Dk (X.setCell ⟨b, 4, none⟩ (.bool false)) b kg hg m { t with dn := false }) := Lib.hid (HD.out.stHead rfl rfl rfl)
      have c2 := H1.out.c2
      have f2 := H1.out.fb 2
      have H2 : Hid (Dk ((X.setCell ⟨b, 4, none⟩ (.bool false)).setCell ⟨b, 2, none⟩ (.int .i64 (-1))) b kg hg m { t with dn := false, lf := -1 }) := Lib.hid (H1.out.stHead rfl rfl rfl)
      have c3 := H2.out.c3
      have f3 := H2.out.fb 3
      have H3 : Hid (Dk (((X.setCell ⟨b, 4, none⟩ (.bool false)).setCell ⟨b, 2, none⟩ (.int .i64 (-1))).setCell ⟨b, 3, none⟩ (.int .i64 0)) b kg hg m { t with dn := false, lf := -1, ms := 0 }) := Lib.hid (H2.out.stHead rfl rfl rfl)
      have HUS : Hid ((upN s m).1 = t ∧ (upN s m).2.2 = L) := Lib.hid (by rw [HU.out]; exact ⟨rfl, rfl⟩)
      have T3 : Hid (Tn [b, kg, hg] X (((X.setCell ⟨b, 4, none⟩ (.bool false)).setCell ⟨b, 2, none⟩ (.int .i64 (-1))).setCell ⟨b, 3, none⟩ (.int .i64 0))) := Lib.hid (((Tn.set _ _ _ (by simp)).trans (Tn.set _ _ _ (by simp))).trans (Tn.set _ _ _ (by simp)))
      go_wp2
      go_ret
      rw [HUS.out.1, HUS.out.2]
      refine ⟨⟨va, ⟨vc, rfl⟩, Reads.of_owns (own_tn HO.out T3.out (by intro k hk; simp at hk; omega)), fun a ea => ?_⟩, H3.out, HT.out.trans T3.out⟩
      exact (HO.out.lt a.block (by rw [ea]; rfl)).1
end Go.Proofs.Ytajoajblmaopjaa.DkC

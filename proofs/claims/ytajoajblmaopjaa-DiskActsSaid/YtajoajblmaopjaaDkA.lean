/-
  A disk in the store; may, keep, New, Len, Writes, Down, Fuse, Read.
-/
import Derived.Test.YtajoajblmaopjaaDkM
import Derived.Test.YtajoajblmaopjaaReg
import Derived.Laws.MakeOwn
import Derived.BigQuiet
import Derived.BigGuard
import Derived.Deep.QuietTactic
namespace Go.Proofs.Ytajoajblmaopjaa.DkA
open Go.RowKit Rd Go.Proofs.Ytajoajblmaopjaa.Row Mid DkM
set_option linter.unusedVariables false
set_option linter.unusedSimpArgs false
set_option maxRecDepth 10000
def us (l : List Int) : List Value := l.map (Value.int .u8)
theorem us_len (l : List Int) : (us l).length = l.length := by simp [us]
def hv (h : Bool × List Int) : List Value := .bool h.1 :: us h.2
def z32 : List Int := List.replicate 32 0
/-- what a disk has: sectors for good, those held back, writes left, mask, down, writes -/
structure DS where
  K : List (List Int)
  H : List (Bool × List Int)
  lf : Int
  ms : Int
  dn : Bool
  wr : Int
structure Dk (X : World) (b kg hg n : Nat) (s : DS) : Prop where
  head : blk X b = some (.cells #[.slice (some ⟨kg, 0, none⟩) n n, .slice (some ⟨hg, 0, none⟩) n n, .int .i64 s.lf, .int .i64 s.ms, .bool s.dn, .int .i64 s.wr] 63 (0, 0))
  kept : blk X kg = some (.cells (fl (s.K.map us)).toArray 66 (0, 0))
  held : blk X hg = some (.cells (fl (s.H.map hv)).toArray 68 (0, 0))
  kl : s.K.length = n ∧ ∀ l ∈ s.K, l.length = 32
  hl : s.H.length = n ∧ ∀ h ∈ s.H, h.2.length = 32
  small : 1 ≤ n ∧ n ≤ 2048
  ne : b ≠ kg ∧ b ≠ hg ∧ kg ≠ hg
variable {X Y : World} {b kg hg n : Nat} {s : DS}
theorem Dk.lt (h : Dk X b kg hg n s) : b < X.heap.size ∧ kg < X.heap.size ∧ hg < X.heap.size := ⟨blk_lt h.head, blk_lt h.kept, blk_lt h.held⟩
theorem Dk.kept' (h : Dk X b kg hg n s) (e1 : Y.heap[b]? = X.heap[b]?) (e2 : Y.heap[kg]? = X.heap[kg]?) (e3 : Y.heap[hg]? = X.heap[hg]?) : Dk Y b kg hg n s :=
  ⟨e1.trans h.head, e2.trans h.kept, e3.trans h.held, h.kl, h.hl, h.small, h.ne⟩
theorem Dk.bel (h : Dk X b kg hg n s) (hb : Below X.heap.size X Y) : Dk Y b kg hg n s := h.kept' (hb.block _ h.lt.1) (hb.block _ h.lt.2.1) (hb.block _ h.lt.2.2)
theorem Dk.c0 (h : Dk X b kg hg n s) : X.cell? ⟨b, 0, none⟩ = some (.slice (some ⟨kg, 0, none⟩) n n) := by rw [blk_cell h.head]; rfl
theorem Dk.c1 (h : Dk X b kg hg n s) : X.cell? ⟨b, 1, none⟩ = some (.slice (some ⟨hg, 0, none⟩) n n) := by rw [blk_cell h.head]; rfl
theorem Dk.c2 (h : Dk X b kg hg n s) : X.cell? ⟨b, 2, none⟩ = some (.int .i64 s.lf) := by rw [blk_cell h.head]; rfl
theorem Dk.c3 (h : Dk X b kg hg n s) : X.cell? ⟨b, 3, none⟩ = some (.int .i64 s.ms) := by rw [blk_cell h.head]; rfl
theorem Dk.c4 (h : Dk X b kg hg n s) : X.cell? ⟨b, 4, none⟩ = some (.bool s.dn) := by rw [blk_cell h.head]; rfl
theorem Dk.c5 (h : Dk X b kg hg n s) : X.cell? ⟨b, 5, none⟩ = some (.int .i64 s.wr) := by rw [blk_cell h.head]; rfl
theorem Dk.fb (h : Dk X b kg hg n s) (k : Nat) : X.frozen? ⟨b, k, none⟩ = false := blk_frozen h.head k
theorem Dk.ku (h : Dk X b kg hg n s) : ∀ l ∈ s.K.map us, l.length = 32 := fun l hl => by
  obtain ⟨x, hx, rfl⟩ := List.mem_map.1 hl
  rw [us_len]; exact h.kl.2 x hx
theorem Dk.hu (h : Dk X b kg hg n s) : ∀ l ∈ s.H.map hv, l.length = 33 := fun l hl => by
  obtain ⟨x, hx, rfl⟩ := List.mem_map.1 hl
  show (us x.2).length + 1 = 33
  rw [us_len, h.hl.2 x hx]
/-! sectors by value -/
theorem load_sec (x : Value) : Instr.loadAt 66 x = loadRow 66 x := rfl
theorem store_sec (x v : Value) : Instr.storeAt 66 x v = storeRow 66 x v := rfl
theorem load_held (x : Value) : Instr.loadAt 68 x = loadRow 68 x := rfl
theorem store_held (x v : Value) : Instr.storeAt 68 x v = storeRow 68 x v := rfl
def secV (l : List Int) : Value := .agg (us l).toArray
def heldV (h : Bool × List Int) : Value := .agg (hv h).toArray
theorem us_one (l : List Int) : (us l).toArray.all (fun x => x.oneCell') = true := by
  rw [Array.all_eq_true]
  intro i hi
  simp [us]
  rfl
theorem hv_one (h : Bool × List Int) : (hv h).toArray.all (fun x => x.oneCell') = true := by
  rw [Array.all_eq_true]
  intro i hi
  cases i with
  | zero => rfl
  | succ i => simp [hv, us]; rfl
theorem ld_mid {t m : Nat} {d : TypeDesc} (hu : Try.prog.underlying t = some d) (hd : d.isRow = true) (hi : (Try.prog.info? t).map (·.size) = some m) {W : World} {g o : Nat} {c : List Value} {t' : TypeId} {fr : Nat × Nat} (h : blk W g = some (.cells c.toArray t' fr)) (hl : o + m ≤ c.length) :
    (loadRow t (.pointer (some ⟨g, o, none⟩))).run Try.prog W = .ok (.agg ((c.drop o).take m).toArray) W := by
  rw [run_loadMid hu hd hi, midLoad_eq, h]
  simp only
  rw [if_pos (by simpa using hl)]
  congr 2
  unfold piece
  rw [List.extract_toArray, List.extract_eq_take_drop, show o + m - o = m by omega]
theorem st_mid {t m : Nat} (hi : (Try.prog.info? t).map (·.size) = some m) (h0 : 0 < m) {W : World} {g o : Nat} {c v : List Value} {t' : TypeId} (h : blk W g = some (.cells c.toArray t' (0, 0))) (hl : o + m ≤ c.length) (hv : v.length = m) (h1 : v.toArray.all (fun x => x.oneCell') = true) :
    (storeRow t (.pointer (some ⟨g, o, none⟩)) (.agg v.toArray)).run Try.prog W = .ok () (W.setRow g (pst c o v).toArray) := by
  rw [run_storeMid hi h0, midStore_eq, h]
  simp only
  rw [if_pos ⟨by simpa using hl, by simpa using hv, h1⟩, paste_pst _ _ _ (by omega)]
theorem Dk.ldK (h : Dk X b kg hg n s) {i : Nat} {l : List Int} (hi : i < n) (e : s.K.getD i [] = l) : (loadRow 66 (.pointer (some ⟨kg, i * 32, none⟩))).run Try.prog X = .ok (secV l) X := by
  have hiK : i < s.K.length := by rw [h.kl.1]; exact hi
  have hp := fl_piece h.ku (i := i) (o := 0) (m := 32) (by simpa using hiK) (by omega)
  have hL := fl_len h.ku
  rw [ld_mid (m := 32) Try.underlying66 rfl (by kernel_rfl) h.kept (by rw [hL, List.length_map, h.kl.1]; omega)]
  rw [Nat.add_zero] at hp
  rw [hp, List.drop_zero, List.getElem_map, List.take_of_length_le (by rw [us_len, h.kl.2 _ (List.getElem_mem _)]; omega)]
  have : s.K[i] = l := by rw [← e]; simp [List.getD, hiK]
  rw [this]; rfl
theorem Dk.ldH (h : Dk X b kg hg n s) {i : Nat} {q : Bool} {l : List Int} (hi : i < n) (e : s.H.getD i (false, []) = (q, l)) :
    (loadRow 66 (.pointer (some ⟨hg, i * 33 + 1, none⟩))).run Try.prog X = .ok (secV l) X ∧ (loadRow 68 (.pointer (some ⟨hg, i * 33, none⟩))).run Try.prog X = .ok (heldV (q, l)) X ∧ X.cell? ⟨hg, i * 33, none⟩ = some (.bool q) ∧ X.frozen? ⟨hg, i * 33, none⟩ = false := by
  have hiH : i < s.H.length := by rw [h.hl.1]; exact hi
  have hE : s.H[i] = (q, l) := by rw [← e]; simp [List.getD, hiH]
  have h32 := h.hl.2 _ (List.getElem_mem hiH)
  rw [hE] at h32
  have hL := fl_len h.hu
  have hm : (s.H.map hv)[i]'(by simpa using hiH) = hv (q, l) := by rw [List.getElem_map, hE]
  refine ⟨?_, ?_, ?_, blk_frozen h.held _⟩
  · have hp := fl_piece h.hu (i := i) (o := 1) (m := 32) (by simpa using hiH) (by omega)
    rw [ld_mid (m := 32) Try.underlying66 rfl (by kernel_rfl) h.held (by rw [hL, List.length_map, h.hl.1]; omega), hp, hm]
    show _ = Result.ok (Value.agg (us l).toArray) X
    rw [show hv (q, l) = Value.bool q :: us l from rfl, List.drop_succ_cons, List.drop_zero, List.take_of_length_le (by rw [us_len]; exact Nat.le_of_eq h32)]
  · have hp := fl_piece h.hu (i := i) (o := 0) (m := 33) (by simpa using hiH) (by omega)
    rw [Nat.add_zero] at hp
    rw [ld_mid (m := 33) Try.underlying68 rfl (by kernel_rfl) h.held (by rw [hL, List.length_map, h.hl.1]; omega), hp, hm, List.drop_zero, List.take_of_length_le (by show (us l).length + 1 ≤ 33; rw [us_len]; have : l.length = 32 := h32; omega)]
    rfl
  · have hp := fl_at h.hu (i := i) (j := 0) (by simpa using hiH) (by omega)
    rw [Nat.add_zero] at hp
    rw [blk_cell h.held, List.getElem?_toArray, hp, hm]
    rfl
def DS.setK (s : DS) (i : Nat) (l : List Int) : DS := { s with K := s.K.set i l }
def DS.setH (s : DS) (i : Nat) (q : Bool) (l : List Int) : DS := { s with H := s.H.set i (q, l) }
theorem Dk.stK (h : Dk X b kg hg n s) {i : Nat} {l : List Int} (hi : i < n) (hl : l.length = 32) :
    (storeRow 66 (.pointer (some ⟨kg, i * 32, none⟩)) (secV l)).run Try.prog X = .ok () (X.setRow kg (fl ((s.K.set i l).map us)).toArray) ∧ Dk (X.setRow kg (fl ((s.K.set i l).map us)).toArray) b kg hg n (s.setK i l) := by
  have hiK : i < s.K.length := by rw [h.kl.1]; exact hi
  have hL := fl_len h.ku
  have hp := fl_pst h.ku (i := i) (o := 0) (v := us l) (by simpa using hiK) (by rw [us_len]; omega)
  rw [pst_whole (by rw [us_len, hl, List.getElem_map, us_len, h.kl.2 _ (List.getElem_mem _)]), ← List.map_set, Nat.add_zero] at hp
  constructor
  · have := st_mid (t := 66) (m := 32) (by kernel_rfl) (by omega) h.kept (o := i * 32) (v := us l) (by rw [hL, List.length_map, h.kl.1]; omega) (by rw [us_len]; exact hl) (us_one l)
    rw [hp] at this
    exact this
  · refine ⟨(setRow_other _ _ _ _ h.ne.1).trans h.head, row_at h.kept, (setRow_other _ _ _ _ h.ne.2.2.symm).trans h.held, ⟨by show (s.K.set i l).length = n; rw [List.length_set]; exact h.kl.1, fun x hx => ?_⟩, h.hl, h.small, h.ne⟩
    rcases List.mem_or_eq_of_mem_set hx with hx | hx
    · exact h.kl.2 x hx
    · rw [hx]; exact hl
theorem Dk.setHrow (h : Dk X b kg hg n s) {i : Nat} {q : Bool} {l : List Int} (hi : i < n) (hl : l.length = 32) : Dk (X.setRow hg (fl ((s.H.set i (q, l)).map hv)).toArray) b kg hg n (s.setH i q l) := by
  refine ⟨(setRow_other _ _ _ _ h.ne.2.1).trans h.head, (setRow_other _ _ _ _ h.ne.2.2).trans h.kept, row_at h.held, h.kl, ⟨by show (s.H.set i (q, l)).length = n; rw [List.length_set]; exact h.hl.1, fun x hx => ?_⟩, h.small, h.ne⟩
  rcases List.mem_or_eq_of_mem_set hx with hx | hx
  · exact h.hl.2 x hx
  · rw [hx]; exact hl
theorem Dk.stH (h : Dk X b kg hg n s) {i : Nat} {q : Bool} {l : List Int} (hi : i < n) (hl : l.length = 32) :
    (storeRow 68 (.pointer (some ⟨hg, i * 33, none⟩)) (heldV (q, l))).run Try.prog X = .ok () (X.setRow hg (fl ((s.H.set i (q, l)).map hv)).toArray) := by
  have hiH : i < s.H.length := by rw [h.hl.1]; exact hi
  have hL := fl_len h.hu
  have hp := fl_pst h.hu (i := i) (o := 0) (v := hv (q, l)) (by simpa using hiH) (by show 0 + ((us l).length + 1) ≤ 33; rw [us_len]; omega)
  rw [pst_whole (by show (us l).length + 1 = _; rw [us_len, hl, List.getElem_map]; show _ = (us _).length + 1; rw [us_len, h.hl.2 _ (List.getElem_mem _)]), ← List.map_set, Nat.add_zero] at hp
  have := st_mid (t := 68) (m := 33) (by kernel_rfl) (by omega) h.held (o := i * 33) (v := hv (q, l)) (by rw [hL, List.length_map, h.hl.1]; omega) (by show (us l).length + 1 = 33; rw [us_len]; omega) (hv_one _)
  rw [hp] at this
  exact this
/-- the flag of one that is held -/
theorem Dk.stI (h : Dk X b kg hg n s) {i : Nat} {q q' : Bool} {l : List Int} (hi : i < n) (e : s.H.getD i (false, []) = (q, l)) :
    Dk (X.setCell ⟨hg, i * 33, none⟩ (.bool q')) b kg hg n (s.setH i q' l) := by
  have hiH : i < s.H.length := by rw [h.hl.1]; exact hi
  have hE : s.H[i] = (q, l) := by rw [← e]; simp [List.getD, hiH]
  have h32 := h.hl.2 _ (List.getElem_mem hiH)
  rw [hE] at h32
  have hp := fl_pst h.hu (i := i) (o := 0) (v := [Value.bool q']) (by simpa using hiH) (by simp)
  have hm : (s.H.map hv)[i]'(by simpa using hiH) = hv (q, l) := by rw [List.getElem_map, hE]
  have hx : pst (hv (q, l)) 0 [Value.bool q'] = hv (q', l) := by simp [pst, hv]
  rw [hm, hx, ← List.map_set, Nat.add_zero] at hp
  have hL := fl_len h.hu
  have hlt : i * 33 < (fl (s.H.map hv)).length := by rw [hL, List.length_map, h.hl.1]; omega
  rw [setCell_setRow h.held]
  have e2 : ((fl (s.H.map hv)).toArray.setIfInBounds (i * 33) (.bool q')) = (fl ((s.H.set i (q', l)).map hv)).toArray := by
    rw [List.setIfInBounds_toArray, one_set hlt, hp]
  rw [e2]
  exact h.setHrow hi h32
/-- the head's numbers -/
theorem Dk.stHead (h : Dk X b kg hg n s) {k : Nat} {v : Value} {s' : DS} (hK : s'.K = s.K) (hH : s'.H = s.H)
    (hc : (#[Value.slice (some ⟨kg, 0, none⟩) n n, .slice (some ⟨hg, 0, none⟩) n n, .int .i64 s.lf, .int .i64 s.ms, .bool s.dn, .int .i64 s.wr] : Array Value).setIfInBounds k v = #[.slice (some ⟨kg, 0, none⟩) n n, .slice (some ⟨hg, 0, none⟩) n n, .int .i64 s'.lf, .int .i64 s'.ms, .bool s'.dn, .int .i64 s'.wr]) :
    Dk (X.setCell ⟨b, k, none⟩ v) b kg hg n s' := by
  have := blk_set X b k v _ _ h.head
  rw [hc] at this
  refine ⟨this, ?_, ?_, by rw [hK]; exact h.kl, by rw [hH]; exact h.hl, h.small, h.ne⟩
  · rw [hK]; exact (heap_setCell_other X ⟨b, k, none⟩ kg v (fun e => h.ne.1 (by have : kg = b := e; exact this.symm))).trans h.kept
  · rw [hH]; exact (heap_setCell_other X ⟨b, k, none⟩ hg v (fun e => h.ne.2.1 (by have : hg = b := e; exact this.symm))).trans h.held
attribute [local go_sem ↓] load_sec store_sec load_held store_held
/-! may -/
def mayE (n : Nat) (dn : Bool) (i : Int) : Int := if dn = true then 7 else if 0 ≤ i ∧ i < n then 0 else 1
theorem may_any (i : Int) (w : World) (h : Dk w b kg hg n s) :
    Calls Try.prog 28 #[.pointer (some ⟨b, 0, none⟩), .int .i64 i] w fun e w' => e = .returned (.int .i64 (mayE n s.dn i)) ∧ w = w' := by
  have c0 := h.c0
  have c4 := h.c4
  have hn := h.small.2
  obtain ⟨dn, hdn⟩ : ∃ d, s.dn = d := ⟨_, rfl⟩
  rw [hdn] at c4 ⊢
  clear h hdn
  cases dn with
  | true =>
    go_enter Try.func28, Try.ntmps28
    go_wp2
    go_ret
    exact ⟨rfl, rfl⟩
  | false =>
    by_cases h0 : i < 0
    · have d0 : decide (i < 0) = true := decide_eq_true h0
      have hR : mayE n false i = 1 := by unfold mayE; rw [if_neg (by decide), if_neg (by omega)]
      go_enter Try.func28, Try.ntmps28
      go_wp2
      go_ret
      exact ⟨by first | rfl | (rw [hR]; done) | (rw [hR]; rfl), rfl⟩
    · have d0 : decide (i < 0) = false := decide_eq_false h0
      by_cases h1 : (n : Int) ≤ i
      · have d1 : decide ((n : Int) ≤ i) = true := decide_eq_true h1
        have hR : mayE n false i = 1 := by unfold mayE; rw [if_neg (by decide), if_neg (by omega)]
        go_enter Try.func28, Try.ntmps28
        go_wp2
        go_ret
        exact ⟨by first | rfl | (rw [hR]; done) | (rw [hR]; rfl), rfl⟩
      · have d1 : decide ((n : Int) ≤ i) = false := decide_eq_false h1
        have hR : mayE n false i = 0 := by unfold mayE; rw [if_neg (by decide), if_pos (by omega)]
        go_enter Try.func28, Try.ntmps28
        go_wp2
        go_ret
        exact ⟨by first | rfl | (rw [hR]; done) | (rw [hR]; rfl), rfl⟩
theorem may_nil (i : Int) (w : World) :
    Calls Try.prog 28 #[.pointer none, .int .i64 i] w fun e w' => e = .returned (.int .i64 7) ∧ w = w' := by
  go_enter Try.func28, Try.ntmps28
  go_wp2
  go_ret
  exact ⟨rfl, rfl⟩
/-! Len, Writes, Down -/
theorem len_any (w : World) (h : Dk w b kg hg n s) :
    Calls Try.prog 26 #[.pointer (some ⟨b, 0, none⟩)] w fun e w' => e = .returned (.int .i64 n) ∧ w = w' := by
  have c0 := h.c0
  have hn := h.small.2
  clear h
  go_enter Try.func26, Try.ntmps26
  go_wp2
  go_ret
  exact ⟨rfl, rfl⟩
theorem writes_any (w : World) (h : Dk w b kg hg n s) :
    Calls Try.prog 25 #[.pointer (some ⟨b, 0, none⟩)] w fun e w' => e = .returned (.int .i64 s.wr) ∧ w = w' := by
  have c5 := h.c5
  clear h
  go_enter Try.func25, Try.ntmps25
  go_wp2
  go_ret
  exact ⟨rfl, rfl⟩
theorem down_any (w : World) (h : Dk w b kg hg n s) :
    Calls Try.prog 24 #[.pointer (some ⟨b, 0, none⟩)] w fun e w' => e = .returned (.bool s.dn) ∧ w = w' := by
  have c4 := h.c4
  obtain ⟨dn, hdn⟩ : ∃ d, s.dn = d := ⟨_, rfl⟩
  rw [hdn] at c4 ⊢
  clear h hdn
  go_enter Try.func24, Try.ntmps24
  go_wp2
  go_ret
  exact ⟨rfl, rfl⟩
theorem down_nil (w : World) :
    Calls Try.prog 24 #[.pointer none] w fun e w' => e = .returned (.bool false) ∧ w = w' := by
  go_enter Try.func24, Try.ntmps24
  go_wp2
  go_ret
  exact ⟨rfl, rfl⟩
end Go.Proofs.Ytajoajblmaopjaa.DkA

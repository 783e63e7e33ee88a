/-
  What comes and goes: the mathematics.
-/
import Derived.Test.YtikoajlncdcbcaaTbF
namespace Go.Proofs.Ytikoajlncdcbcaa.TbG
open Go.RowKit Rd Go.Proofs.Ytikoajlncdcbcaa.Row Mid PgM PgA PgB PgC TbA TbB TbC TbD TbE TbF
set_option linter.unusedVariables false
set_option linter.unusedSimpArgs false
set_option maxRecDepth 10000
theorem key_front {d L X Y : Int} (h : validB d L X Y = true) : frontV d L ≤ keyV d L X Y ∧ keyV d L X Y < frontV d L + sd d L * sd d L := by
  rw [keyV_yes h]
  obtain ⟨⟨h1, h2⟩, ⟨h3, h4⟩, ⟨h5, h6⟩, ⟨h7, h8⟩⟩ := valid_yes h
  obtain ⟨s, es⟩ : ∃ s, sd d L = s := ⟨_, rfl⟩
  have b := sd_bd h3 h4 h2
  rw [es] at h6 h8 b ⊢
  have hs : s = 1 ∨ s = 2 ∨ s = 3 ∨ s = 4 ∨ s = 5 ∨ s = 6 ∨ s = 7 ∨ s = 8 := by omega
  rcases hs with rfl | rfl | rfl | rfl | rfl | rfl | rfl | rfl <;> omega
theorem front_mono {d l : Int} {j : Nat} : ∀ (m : Nat), 0 ≤ l → l + m + 1 ≤ d → d ≤ 3 → frontV d (l + m + 1) + sd d (l + m + 1) * sd d (l + m + 1) ≤ frontV d l := by
  intro m
  induction m with
  | zero =>
    intro h0 h1 h2
    have := front_step (d := d) (l := l + 1) (by omega) (by omega) h2
    rw [show l + 1 - 1 = l by omega] at this
    rw [show l + ((0 : Nat) : Int) + 1 = l + 1 by omega]
    omega
  | succ m ih =>
    intro h0 h1 h2
    have h3 := ih h0 (by omega) h2
    have := front_step (d := d) (l := l + m + 1 + 1) (by omega) (by omega) h2
    rw [show l + m + 1 + 1 - 1 = l + m + 1 by omega] at this
    have hb : 0 ≤ sd d (l + m + 1) * sd d (l + m + 1) := by
      have b := sd_bd (d := d) (l := l + m + 1) (by omega) (by omega) h2
      exact Int.mul_nonneg (by omega) (by omega)
    rw [show l + ((m + 1 : Nat) : Int) + 1 = l + m + 1 + 1 by omega]
    omega
theorem order_L {d L X Y L' X' Y' : Int} {i k : Nat} (h : keyV d L X Y = (i : Int)) (h' : keyV d L' X' Y' = (k : Int)) (hl : L < L') : k < i := by
  have v := key_valid h
  have v' := key_valid h'
  have f := key_front v
  have f' := key_front v'
  obtain ⟨⟨h1, h2⟩, ⟨h3, h4⟩, _, _⟩ := valid_yes v
  obtain ⟨_, ⟨h5, h6⟩, _, _⟩ := valid_yes v'
  obtain ⟨m, hm⟩ : ∃ m : Nat, L' = L + m + 1 := ⟨(L' - L - 1).toNat, by omega⟩
  have := front_mono (j := 0) (d := d) (l := L) m h3 (by omega) h2
  rw [← hm] at this
  omega
theorem key_inj {n : Nat} {L X Y L' X' Y' : Int} (hn : n ≤ 3) (h : validB n L X Y = true) (h' : validB n L' X' Y' = true) (e : keyV n L X Y = keyV n L' X' Y') : L = L' ∧ X = X' ∧ Y = Y' := by
  obtain ⟨i, ei, -⟩ := key_in hn h
  obtain ⟨i', ei', -⟩ := key_in hn h'
  have hL : L = L' := by
    rcases Int.lt_trichotomy L L' with a | a | a
    · have := order_L ei ei' a
      omega
    · exact a
    · have := order_L ei' ei a
      omega
  subst hL
  rw [keyV_yes h, keyV_yes h'] at e
  obtain ⟨⟨h1, h2⟩, ⟨h3, h4⟩, ⟨h5, h6⟩, ⟨h7, h8⟩⟩ := valid_yes h
  obtain ⟨-, -, ⟨k5, k6⟩, ⟨k7, k8⟩⟩ := valid_yes h'
  obtain ⟨s, es⟩ : ∃ s, sd n L = s := ⟨_, rfl⟩
  have b := sd_bd h3 h4 h2
  rw [es] at h6 h8 k6 k8 b e
  have hs : s = 1 ∨ s = 2 ∨ s = 3 ∨ s = 4 ∨ s = 5 ∨ s = 6 ∨ s = 7 ∨ s = 8 := by omega
  rcases hs with rfl | rfl | rfl | rfl | rfl | rfl | rfl | rfl <;> exact ⟨rfl, by omega, by omega⟩
/-- the page a level up is a page -/
theorem up_valid {n m : Nat} {X Y : Int} {k : Nat} (hn : n ≤ 3) (hv : validB n m X Y = true) (h1 : m ≤ k) (h2 : k ≤ n) : validB n (PgM.g (upV n m X Y k) 0) (PgM.g (upV n m X Y k) 1) (PgM.g (upV n m X Y k) 2) = true := by
  obtain ⟨e, -⟩ := up_L hv h1 h2
  have eu : upV n m X Y k = [(k : Int), X / (2 ^ ((k : Int) - m).toNat : Nat), Y / (2 ^ ((k : Int) - m).toNat : Nat)] := by
    unfold upV
    rw [if_pos e]
  rw [eu]
  obtain ⟨-, -, ⟨h5, h6⟩, ⟨h7, h8⟩⟩ := valid_yes hv
  have hsd : sd n m = sd n k * ((2 ^ ((k : Int) - m).toNat : Nat) : Int) := by
    unfold sd
    rw [← Int.natCast_mul, ← Nat.pow_add]
    congr 2
    omega
  rw [hsd] at h6 h8
  have hp : (0 : Int) < ((2 ^ ((k : Int) - m).toNat : Nat) : Int) := by
    have := Nat.two_pow_pos ((k : Int) - m).toNat
    omega
  refine valid_mk ⟨⟨by omega, by omega⟩, ⟨?_, ?_⟩, ⟨?_, ?_⟩, ?_, ?_⟩
  · show (0 : Int) ≤ (k : Int); omega
  · show (k : Int) ≤ (n : Int); omega
  · exact Int.ediv_nonneg h5 (by omega)
  · exact Int.ediv_lt_of_lt_mul hp h6
  · exact Int.ediv_nonneg h7 (by omega)
  · exact Int.ediv_lt_of_lt_mul hp h8
theorem look_uniq {n m : Nat} {bs : List Bool} {X Y : Int} (hn : n ≤ 3) (hm : m ≤ n) (hv : validB n m X Y = true) (hr : bs.getD 0 false = true) {s : Nat} (h1 : m ≤ s) (h2 : s ≤ n)
    (ht : thereP n bs (upV n m X Y s) = true) (hno : ∀ k : Nat, m ≤ k → k < s → thereP n bs (upV n m X Y k) = false) : lookV n bs m X Y = (upV n m X Y s, true) := by
  obtain ⟨s', g1, g2, g3, g4, g5⟩ := look_fact hn hm hv hr
  have : s = s' := by
    rcases Nat.lt_trichotomy s s' with a | a | a
    · have := g5 s h1 a
      rw [ht] at this; cases this
    · exact a
    · have := hno s' g1 a
      rw [g4] at this; cases this
  rw [this]
  exact g3
/-- one more is there -/
theorem there_set {n : Nat} {bs : List Bool} {L X Y P0 P1 P2 : Int} {kq : Nat} (hn : n ≤ 3) (hl : kq < bs.length) (hv : validB n L X Y = true) (hp : validB n P0 P1 P2 = true) (hk : keyV n P0 P1 P2 = (kq : Int)) :
    thereV n (bs.set kq true) L X Y = (thereV n bs L X Y || decide ([L, X, Y] = [P0, P1, P2])) := by
  unfold thereV
  rw [hv, Bool.true_and, Bool.true_and]
  obtain ⟨i, ei, -⟩ := key_in hn hv
  rw [ei]
  show (bs.set kq true).getD i false = (bs.getD i false || _)
  by_cases hik : i = kq
  · subst hik
    obtain ⟨e1, e2, e3⟩ := key_inj hn hv hp (ei.trans hk.symm)
    subst e1 e2 e3
    have h1 : (bs.set i true).getD i false = true := by
      rw [List.getD_eq_getElem?_getD, List.getElem?_set_self hl]; rfl
    rw [h1, decide_eq_true rfl, Bool.or_true]
  · have hne : ¬ [L, X, Y] = [P0, P1, P2] := fun e => by
      injection e with e1 e; injection e with e2 e; injection e with e3 e
      subst e1 e2 e3
      rw [ei] at hk
      exact hik (by omega)
    rw [decide_eq_false hne, Bool.or_false, List.getD_eq_getElem?_getD, List.getElem?_set_ne (Ne.symm hik), ← List.getD_eq_getElem?_getD]
/-- what comes is found for all that is in it, unless something finer is -/
theorem look_comes {n m : Nat} {bs : List Bool} {X Y P1 P2 : Int} {pl kq : Nat} (hn : n ≤ 3) (hm : m ≤ n) (hv : validB n m X Y = true) (hr : bs.getD 0 false = true) (hl : kq < bs.length) (hp : validB n pl P1 P2 = true) (hk : keyV n pl P1 P2 = (kq : Int)) {s : Nat} (h1 : m ≤ s) (h2 : s ≤ n)
    (ht : thereP n bs (upV n m X Y s) = true) (hno : ∀ k : Nat, m ≤ k → k < s → thereP n bs (upV n m X Y k) = false) :
    lookV n (bs.set kq true) m X Y = if upB n m X Y pl = true ∧ upV n m X Y pl = [(pl : Int), P1, P2] ∧ pl < s then ([(pl : Int), P1, P2], true) else (upV n m X Y s, true) := by
  have hr' := root_kept hr kq
  have T : ∀ k : Nat, m ≤ k → k ≤ n → thereP n (bs.set kq true) (upV n m X Y k) = (thereP n bs (upV n m X Y k) || decide (upV n m X Y k = [(pl : Int), P1, P2])) := fun k a b => by
    have := there_set (bs := bs) hn hl (up_valid hn hv a b) hp hk
    unfold thereP
    rw [this, ← three (upV_len n m X Y k)]
  by_cases hc : upB n m X Y pl = true ∧ upV n m X Y pl = [(pl : Int), P1, P2] ∧ pl < s
  · rw [if_pos hc]
    have hmp : m ≤ pl ∧ pl ≤ n := by
      have hb := hc.1
      unfold upB at hb
      rw [hv, Bool.true_and] at hb
      have := of_decide_eq_true hb
      omega
    rw [← hc.2.1]
    refine look_uniq hn hm hv hr' hmp.1 hmp.2 ?_ fun k a b => ?_
    · rw [T pl hmp.1 hmp.2, hc.2.1, decide_eq_true rfl, Bool.or_true]
    · rw [T k a (by omega), hno k a (by omega), Bool.false_or]
      refine decide_eq_false fun e => ?_
      have := (up_L hv a (by omega)).2
      rw [e] at this
      have : (pl : Int) = (k : Int) := this
      omega
  · rw [if_neg hc]
    refine look_uniq hn hm hv hr' h1 h2 ?_ fun k a b => ?_
    · rw [T s h1 h2, ht, Bool.true_or]
    · rw [T k a (by omega), hno k a b, Bool.false_or]
      refine decide_eq_false fun e => hc ?_
      have h3 := up_L hv a (by omega : k ≤ n)
      have h4 := h3.2
      rw [e] at h4
      have h5 : (pl : Int) = (k : Int) := h4
      have h6 : pl = k := by omega
      subst h6
      exact ⟨h3.1, e, b⟩
theorem set_back {bs : List Bool} {k : Nat} (h : bs.getD k false = false) (hk : k < bs.length) : (bs.set k true).set k false = bs := by
  rw [List.set_set]
  refine List.ext_getElem (by simp) fun i h1 h2 => ?_
  by_cases e : i = k
  · subst e
    rw [List.getElem_set_self]
    rw [List.getD_eq_getElem?_getD, List.getElem?_eq_getElem hk] at h
    exact h.symm
  · rw [List.getElem_set_ne (Ne.symm e)]
end Go.Proofs.Ytikoajlncdcbcaa.TbG

/-
  QueueOrder: the mathematics.
-/
import Derived.Test.YtpbdgkjlmijipaaQuQ
namespace Go.Proofs.Ytpbdgkjlmijipaa.QuS0
open Go.RowKit Go.Shelf Rd Go.Proofs.Ytpbdgkjlmijipaa.Row Mid PgM PgA PgB PgC QuA QuB QuC QuD QuE QuF QuG QuH QuI QuN QuO
open PgN (keyL)
set_option linter.unusedVariables false
set_option linter.unusedSimpArgs false
set_option maxRecDepth 10000
/-- how much a page is wanted; 0, if it does not wait -/
def hadV (r : PgM.Row) (pg : List Int) : Int := r.foldl (fun m y => if pgOf y = pg then PgM.g y 3 else m) 0
theorem had_step {r : PgM.Row} {pg : List Int} {k : Nat} (hk : k < r.length) : hadV (r.take (k + 1)) pg = if pgOf (at_ r k) = pg then PgM.g (at_ r k) 3 else hadV (r.take k) pg := by
  rw [take_at hk]
  unfold hadV
  rw [List.foldl_append]
  rfl
theorem had_gen {pg : List Int} : ∀ (r : PgM.Row) (m : Int), r.Pairwise (fun a b => pgOf a ≠ pgOf b) → ((∀ y ∈ r, pgOf y ≠ pg) → r.foldl (fun m y => if pgOf y = pg then PgM.g y 3 else m) m = m) ∧ ∀ y ∈ r, pgOf y = pg → r.foldl (fun m y => if pgOf y = pg then PgM.g y 3 else m) m = PgM.g y 3 := by
  intro r
  induction r with
  | nil => intro m _; exact ⟨fun _ => rfl, fun y hy => absurd hy (by simp)⟩
  | cons x r ih =>
    intro m h
    have hp := List.pairwise_cons.1 h
    constructor
    · intro hn
      rw [List.foldl_cons, if_neg (hn x (List.mem_cons_self ..))]
      exact (ih m hp.2).1 fun y hy => hn y (List.mem_cons_of_mem _ hy)
    · intro y hy e
      rw [List.foldl_cons]
      rcases List.mem_cons.1 hy with rfl | hy
      · rw [if_pos e]
        exact (ih _ hp.2).1 fun z hz e2 => hp.1 z hz (by rw [e, e2])
      · exact (ih _ hp.2).2 y hy e
theorem had_no {d : Nat} {r : PgM.Row} (h : Inv d r) {pg : List Int} (hn : ∀ y ∈ r, pgOf y ≠ pg) : hadV r pg = 0 := (had_gen r 0 h.pages).1 hn
theorem had_yes {d : Nat} {r : PgM.Row} (h : Inv d r) {pg y : List Int} (hy : y ∈ r) (e : pgOf y = pg) : hadV r pg = PgM.g y 3 := (had_gen r 0 h.pages).2 y hy e
theorem max_had {d : Nat} {r : PgM.Row} (h : Inv d r) (pg : List Int) {n : Int} (hn : 1 ≤ n) : maxN r pg n = max n (hadV r pg) := by
  by_cases hx : ∃ y ∈ r, pgOf y = pg
  · obtain ⟨y, hy, e⟩ := hx
    rw [had_yes h hy e, ← (rest_keep h.pages pg n).2]
    have hlt : idxP r pg < r.length := by
      unfold idxP
      rcases Nat.lt_or_ge ((r.takeWhile fun y => !(decide (pgOf y = pg))).length) r.length with h1 | h1
      · exact h1
      · exfalso
        have e1 : r.takeWhile (fun y => !(decide (pgOf y = pg))) = r := (List.takeWhile_prefix _).eq_of_length (Nat.le_antisymm (List.takeWhile_prefix _).length_le h1)
        rw [← e1] at hy
        have := mem_tw (f := fun y => !(decide (pgOf y = pg))) hy
        simp [e] at this
    unfold numV
    rw [if_pos hlt]
    have hf : pgOf (at_ r (idxP r pg)) = pg := by
      have : (!(decide (pgOf (at_ r (idxP r pg)) = pg))) = false := takeWhile_at (f := fun y => !(decide (pgOf y = pg))) hlt
      simpa using this
    have hm : at_ r (idxP r pg) ∈ r := by rw [at_eq hlt]; exact List.getElem_mem _
    have e1 := had_yes h hm hf
    have e2 := had_yes h hy e
    rw [← e1, e2]
  · have hno : ∀ y ∈ r, pgOf y ≠ pg := fun y hy e => hx ⟨y, hy, e⟩
    rw [had_no h hno, ← (rest_keep h.pages pg n).2]
    have hlt : ¬ idxP r pg < r.length := by
      unfold idxP
      rw [takeWhile_whole (fun y hy => by simp [hno y hy])]
      omega
    unfold numV
    rw [if_neg hlt]
    omega
theorem had_bd {d : Nat} {r : PgM.Row} (h : Inv d r) (pg : List Int) : 0 ≤ hadV r pg := by
  by_cases hx : ∃ y ∈ r, pgOf y = pg
  · obtain ⟨y, hy, e⟩ := hx
    rw [had_yes h hy e]
    have := (h.all y hy).pos
    omega
  · rw [had_no h fun y hy e => hx ⟨y, hy, e⟩]
    exact Int.le_refl _
/-- what an Add tells -/
structure Told (most d : Nat) (r : PgM.Row) (pg : List Int) (n : Int) : Prop where
  ok : errQ most d r pg n = 0 → hadV (newQ most d r pg n) pg = max (hadV r pg) n
  full : errQ most d r pg n = 6 → hadV r pg = 0 ∧ hadV (newQ most d r pg n) pg = 0 ∧ (newQ most d r pg n).length = most
  err : errQ most d r pg n = 0 ∨ errQ most d r pg n = 6
  one : (outQ most d r pg n).length ≤ 1
  had : hadV r pg ≠ 0 → (outQ most d r pg n).length = 0
theorem told {d most : Nat} (hd : d ≤ 3) {r : PgM.Row} (h : Inv d r) (hm : r.length ≤ most) {pg : List Int} (hg : pg.length = 3) (hv : validB d (PgM.g pg 0) (PgM.g pg 1) (PgM.g pg 2) = true) {n : Int} (hn : 1 ≤ n) : Told most d r pg n := by
  have hinv := all_inv hd h hg hv hn
  obtain ⟨e1, e2⟩ := rest_keep h.pages pg n
  obtain ⟨hw, hp⟩ := new_w h hg hv hn
  have hmh := max_had h pg hn
  have hwin : [PgM.g pg 0, PgM.g pg 1, PgM.g pg 2, maxN r pg n] ∈ allA d r pg n := by
    unfold allA insV
    rw [e2]
    exact List.mem_append_right _ (List.mem_cons_self ..)
  have hall : hadV (allA d r pg n) pg = max (hadV r pg) n := by
    rw [had_yes hinv hwin hp]
    show maxN r pg n = _
    omega
  by_cases ho : (allA d r pg n).length ≤ most
  · have eo : outQ most d r pg n = [] := by unfold outQ; rw [if_pos ho]
    have ee : errQ most d r pg n = 0 := by unfold errQ; rw [if_pos ho]
    have en : newQ most d r pg n = allA d r pg n := by unfold newQ; rw [List.take_of_length_le ho]
    exact ⟨fun _ => by rw [en]; exact hall, fun e => by rw [ee] at e; exact absurd e (by decide), .inl ee, by rw [eo]; simp, fun _ => by rw [eo]; rfl⟩
  · have ho' : most < (allA d r pg n).length := by omega
    obtain ⟨hl1, hl2, hl3⟩ := over_len h hm ho'
    have hno : ∀ y ∈ r, pgOf y ≠ pg := fun y hy => by rw [← hl3] at hy; exact keep_ne hy
    have hh := had_no h hno
    have hrl : r.length = most := by rw [← hl3]; exact hl2
    by_cases hpe : pgOf (at_ (allA d r pg n) most) = pg
    · have ee : errQ most d r pg n = 6 := by unfold errQ; rw [if_neg ho, if_pos hpe]
      have eo : outQ most d r pg n = [] := by unfold outQ; rw [if_neg ho, if_pos hpe]
      have en : newQ most d r pg n = r := last_own hd h hm hg hv hn ho' hpe
      exact ⟨fun e => by rw [ee] at e; exact absurd e (by decide), fun _ => ⟨hh, by rw [en]; exact hh, by rw [en]; exact hrl⟩, .inr ee, by rw [eo]; simp, fun _ => by rw [eo]; rfl⟩
    · have ee : errQ most d r pg n = 0 := by unfold errQ; rw [if_neg ho, if_neg hpe]
      have eo : outQ most d r pg n = [pgOf (at_ (allA d r pg n) most)] := by unfold outQ; rw [if_neg ho, if_neg hpe]
      refine ⟨fun _ => ?_, fun e => by rw [ee] at e; exact absurd e (by decide), .inl ee, by rw [eo]; simp, fun e => absurd hh e⟩
      have hin : [PgM.g pg 0, PgM.g pg 1, PgM.g pg 2, maxN r pg n] ∈ newQ most d r pg n := by
        have e9 : allA d r pg n = newQ most d r pg n ++ [at_ (allA d r pg n) most] := by
          unfold newQ
          rw [← take_at (by omega), List.take_of_length_le (by omega)]
        rw [e9] at hwin
        rcases List.mem_append.1 hwin with h1 | h1
        · exact h1
        · exact absurd (by rw [← List.mem_singleton.1 h1]; exact hp) hpe
      have h9 : hadV (newQ most d r pg n) pg = maxN r pg n := had_yes (hinv.take most) hin hp
      rw [h9]
      omega
theorem RwAt.cells {X : World} {b o : Nat} {r : PgM.Row} (h : RwAt X (some ⟨b, o, none⟩) r) {i : Nat} (hi : i < r.length) : b < X.heap.size ∧ ∀ j, j < 4 → X.cell? ⟨b, o + i * 4 + j, none⟩ = some (.int .i64 (PgM.g (at_ r i) j)) := by
  obtain ⟨b', o', c, e, h1, h2, h3, -⟩ := h.row hi
  injection e with e
  injection e with e1 e2
  subst e1
  subst e2
  refine ⟨blk_lt h1, fun j hj => ?_⟩
  obtain ⟨x0, x1, x2, x3, ex⟩ := len4 (h.1 (at_ r i) (by rw [at_eq hi]; exact List.getElem_mem _))
  rw [blk_cell h1, ex]
  rw [ex] at h3
  have h4 := congrArg (fun z => z[j]?) h3
  simp only [Mid.piece, Array.getElem?_extract] at h4
  rw [if_pos (by omega)] at h4
  rw [h4]
  match j, hj with
  | 0, _ => rfl
  | 1, _ => rfl
  | 2, _ => rfl
  | 3, _ => rfl
theorem RwAt.some {X : World} {ad : Option Addr} {r : PgM.Row} (h : RwAt X ad r) (hr : r ≠ []) : ∃ b o, ad = .some ⟨b, o, none⟩ := by
  rcases h.2 with h2 | ⟨b, o, c, e, _⟩
  · exact absurd h2 hr
  · exact ⟨b, o, e⟩
end Go.Proofs.Ytpbdgkjlmijipaa.QuS0

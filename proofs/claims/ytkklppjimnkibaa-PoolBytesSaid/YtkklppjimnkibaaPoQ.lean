/-
  A pool: who was used last (mathematics of PoolKeeps).
  PoolKeeps: pages that lie in blocks of pages; the walk's parts.
-/
import Derived.Test.YtkklppjimnkibaaPoM
import Derived.Test.YtkklppjimnkibaaPoL
import Derived.Test.YtkklppjimnkibaaInts
namespace Go.Proofs.Ytkklppjimnkibaa.PoP
open PgM PgC LrM PgN PoM
set_option linter.unusedVariables false
set_option linter.unusedSimpArgs false
/-- who was used last, once each -/
structure Kp (n : Nat) (R : List Ent) (r : List Int) (b : List Int) (last : PgM.Row) : Prop where
  row : ∃ S, R = (r, b) :: S ∧ S.map Prod.fst = last
  nd : last.Nodup
  nr : r ∉ last
  len : last.length + 1 ≤ n
def fl1 (last : PgM.Row) (g : List Int) : PgM.Row := last.filter (fun x => decide (x ≠ g)) ++ [g]
/-- the law's last -/
def nextL (n : Nat) (last : PgM.Row) (g : List Int) : PgM.Row := if (fl1 last g).length ≤ n - 1 then fl1 last g else (fl1 last g).drop ((fl1 last g).length - n + 1)
variable {n : Nat} {R : List Ent} {r b b' g : List Int} {last : PgM.Row}
theorem ix_cons {e : Ent} {S : List Ent} {v : List Int} (h : e.1 ≠ v) : ixR (e :: S) v = (ixR S v).map (· + 1) := by
  unfold ixR
  rw [List.findIdx?_cons, if_neg (by simpa using h)]
theorem fil_not {last : PgM.Row} {g : List Int} (h : g ∉ last) : last.filter (fun x => decide (x ≠ g)) = last := by
  rw [List.filter_eq_self]
  exact fun x hx => decide_eq_true fun e => h (e ▸ hx)
namespace Kp
theorem has (h : Kp n R r b last) (hg : g ≠ r) : hasR R g = decide (g ∈ last) := by
  obtain ⟨S, rfl, rfl⟩ := h.row
  unfold hasR
  rw [ix_cons (fun e => hg e.symm), Option.isSome_map]
  by_cases hm : g ∈ S.map Prod.fst
  · rw [decide_eq_true hm]
    cases hx : ixR S g with
    | some _ => rfl
    | none =>
      obtain ⟨e, he, hv⟩ := List.mem_map.1 hm
      exact absurd hv (ix_none.1 hx e he)
  · rw [decide_eq_false hm, ix_none.2 fun e he hv => hm (List.mem_map.2 ⟨e, he, hv⟩)]
    rfl
theorem root (h : Kp n R r b last) : hasR R r = true ∧ bytesR R r = b := by
  obtain ⟨S, rfl, rfl⟩ := h.row
  have : ixR ((r, b) :: S) r = some 0 := by unfold ixR; rw [List.findIdx?_cons]; simp
  unfold hasR bytesR
  rw [this]
  exact ⟨rfl, rfl⟩
theorem rlen (h : Kp n R r b last) : R.length = last.length + 1 := by
  obtain ⟨S, rfl, rfl⟩ := h.row
  simp
/-- a page that is there is put there, used -/
theorem had (h : Kp n R r b last) (hg : g ≠ r) (hm : g ∈ last) : Kp n (touchR (putR n R g b') g) r b (nextL n last g) ∧ goneR n R g = [] ∧ codeR n R g = 0 ∧ nextL n last g = fl1 last g ∧ hasR (putR n R g b') g = true := by
  obtain ⟨S, rfl, hS⟩ := h.row
  obtain ⟨e, he, hv⟩ := List.mem_map.1 (hS ▸ hm)
  obtain ⟨P, T, rfl⟩ := List.append_of_mem he
  have hnd := h.nd
  rw [← hS, List.map_append, List.map_cons, List.nodup_append] at hnd
  obtain ⟨n1, n2, n3⟩ := hnd
  have hP : ∀ x ∈ P, x.1 ≠ g := fun x hx e' => n3 x.1 (List.mem_map.2 ⟨x, hx, rfl⟩) e.1 List.mem_cons_self (e'.trans hv.symm)
  have hT : ∀ x ∈ T, x.1 ≠ g := fun x hx e' => (List.nodup_cons.1 n2).1 (List.mem_map.2 ⟨x, hx, e'.trans hv.symm⟩)
  have ei : ixR ((r, b) :: (P ++ e :: T)) g = some (P.length + 1) := by
    rw [ix_cons (fun e => hg e.symm), ← hv, ix_app (fun x hx => hv ▸ hP x hx)]; rfl
  have ep : putR n ((r, b) :: (P ++ e :: T)) g b' = (r, b) :: (P ++ (g, b') :: T) := by
    unfold putR
    rw [ei]
    simp only [List.set_cons_succ]
    rw [set_app]
  have ei' : ixR ((r, b) :: (P ++ (g, b') :: T)) g = some (P.length + 1) := by
    rw [ix_cons (fun e => hg e.symm)]
    have := ix_app (P := P) (S := T) (e := (g, b')) hP
    rw [this]; rfl
  have et : touchR ((r, b) :: (P ++ (g, b') :: T)) g = (r, b) :: (P ++ T ++ [(g, b')]) := by
    unfold touchR
    rw [ei']
    simp only [List.eraseIdx_cons_succ]
    rw [erase_app]
    have : ent ((r, b) :: (P ++ (g, b') :: T)) (P.length + 1) = (g, b') := by
      have := ent_app ((r, b) :: P) T (g, b')
      exact this
    rw [this]
    rfl
  have ef : fl1 last g = (P ++ T).map Prod.fst ++ [g] := by
    unfold fl1
    rw [← hS, List.map_append, List.map_cons, hv, filter_split' hP hT, List.map_append]
  have hlen : (fl1 last g).length = last.length := by rw [ef, ← hS]; simp <;> omega
  have hn := h.len
  have en : nextL n last g = fl1 last g := by unfold nextL; rw [if_pos (by omega)]
  refine ⟨?_, ?_, ?_, en, ?_⟩
  · rw [ep, et, en, ef]
    refine ⟨⟨P ++ T ++ [(g, b')], rfl, by simp⟩, ?_, ?_, by rw [← ef, hlen]; exact hn⟩
    · rw [List.nodup_append]
      refine ⟨?_, by simp, fun x hx y hy e' => ?_⟩
      · rw [List.map_append, List.nodup_append]
        exact ⟨n1, (List.nodup_cons.1 n2).2, fun x hx y hy => n3 x hx y (List.mem_cons_of_mem _ hy)⟩
      · rw [List.mem_singleton.1 hy] at e'
        obtain ⟨z, hz, hzx⟩ := List.mem_map.1 hx
        rcases List.mem_append.1 hz with hz | hz
        · exact hP z hz (hzx.trans e')
        · exact hT z hz (hzx.trans e')
    · intro hx
      rcases List.mem_append.1 hx with hx | hx
      · refine h.nr (hS ▸ ?_)
        obtain ⟨z, hz, hzx⟩ := List.mem_map.1 hx
        refine List.mem_map.2 ⟨z, ?_, hzx⟩
        rcases List.mem_append.1 hz with hz | hz
        · exact List.mem_append_left _ hz
        · exact List.mem_append_right _ (List.mem_cons_of_mem _ hz)
      · exact hg (List.mem_singleton.1 hx).symm
  · unfold goneR; rw [ei]
  · unfold codeR; rw [ei]
  · rw [ep]; unfold hasR; rw [ei']; rfl
where
  filter_split' {P T : List Ent} (hP : ∀ x ∈ P, x.1 ≠ g) (hT : ∀ x ∈ T, x.1 ≠ g) : (P.map Prod.fst ++ g :: T.map Prod.fst).filter (fun x => decide (x ≠ g)) = P.map Prod.fst ++ T.map Prod.fst := by
    rw [List.filter_append, List.filter_cons, if_neg (by simp)]
    rw [List.filter_eq_self.2, List.filter_eq_self.2]
    · intro x hx
      obtain ⟨z, hz, hzx⟩ := List.mem_map.1 hx
      exact decide_eq_true fun e => hT z hz (hzx.trans e)
    · intro x hx
      obtain ⟨z, hz, hzx⟩ := List.mem_map.1 hx
      exact decide_eq_true fun e => hP z hz (hzx.trans e)
/-- a page that was not there -/
theorem new (h : Kp n R r b last) (hn2 : 2 ≤ n) (hg : g ≠ r) (hm : g ∉ last) : Kp n (touchR (putR n R g b') g) r b (nextL n last g) ∧ goneR n R g = (if last.length + 1 < n then [] else [last.getD 0 []]) ∧ codeR n R g = 0 ∧ fl1 last g = last ++ [g] ∧ nextL n last g = (if last.length + 1 < n then last ++ [g] else last.drop 1 ++ [g]) ∧ hasR (putR n R g b') g = true := by
  have hr := h.rlen
  obtain ⟨S, rfl, hS⟩ := h.row
  have hSg : ∀ x ∈ S, x.1 ≠ g := fun x hx e => hm (hS ▸ List.mem_map.2 ⟨x, hx, e⟩)
  have ei : ixR ((r, b) :: S) g = none := by
    rw [ix_cons (fun e => hg e.symm), ix_none.2 hSg]; rfl
  have ef : fl1 last g = last ++ [g] := by unfold fl1; rw [fil_not hm]
  have hlen := h.len
  have hSl : S.length = last.length := by rw [← hS]; simp
  -- what is put at the end stays there
  have key : ∀ Q : List Ent, (∀ x ∈ Q, x.1 ≠ g) → touchR ((r, b) :: (Q ++ [(g, b')])) g = (r, b) :: (Q ++ [(g, b')]) ∧ hasR ((r, b) :: (Q ++ [(g, b')])) g = true := by
    intro Q hQ
    have ej : ixR ((r, b) :: (Q ++ [(g, b')])) g = some (Q.length + 1) := by
      rw [ix_cons (fun e => hg e.symm)]
      have := ix_app (P := Q) (S := []) (e := (g, b')) hQ
      rw [this]; rfl
    constructor
    · unfold touchR
      rw [ej]
      simp only [List.eraseIdx_cons_succ]
      rw [erase_app]
      have : ent ((r, b) :: (Q ++ [(g, b')])) (Q.length + 1) = (g, b') := by
        have := ent_app ((r, b) :: Q) [] (g, b')
        exact this
      rw [this]
      simp
    · unfold hasR; rw [ej]; rfl
  by_cases hlt : last.length + 1 < n
  · have en : nextL n last g = last ++ [g] := by unfold nextL; rw [if_pos (by rw [ef]; simp; omega), ef]
    have ep : putR n ((r, b) :: S) g b' = (r, b) :: (S ++ [(g, b')]) := by
      unfold putR; rw [ei]; simp only; rw [if_pos (by omega)]; rfl
    obtain ⟨k1, k2⟩ := key S hSg
    refine ⟨?_, ?_, ?_, ef, by rw [en, if_pos hlt], by rw [ep]; exact k2⟩
    · rw [ep, k1, en]
      refine ⟨⟨_, rfl, by rw [List.map_append, hS]; rfl⟩, ?_, ?_, by simp; omega⟩
      · rw [List.nodup_append]
        exact ⟨h.nd, by simp, fun x hx y hy e => hm (by rw [List.mem_singleton.1 hy] at e; exact e ▸ hx)⟩
      · intro hx
        rcases List.mem_append.1 hx with hx | hx
        · exact h.nr hx
        · exact hg (List.mem_singleton.1 hx).symm
    · unfold goneR; rw [ei]; simp only; rw [if_pos (by omega), if_pos hlt]
    · unfold codeR; rw [ei]; simp only; rw [if_pos (by omega)]
  · cases S with
    | nil => simp at hSl; omega
    | cons s S =>
      have hl2 : last.length = S.length + 1 := by rw [← hSl]; rfl
      have hn' : n = last.length + 1 := by omega
      have ed : last.drop 1 = S.map Prod.fst := by rw [← hS]; rfl
      have en : nextL n last g = last.drop 1 ++ [g] := by
        unfold nextL
        rw [if_neg (by rw [ef]; simp; omega), ef, show (last ++ [g]).length - n + 1 = 1 by simp; omega, List.drop_append_of_le_length (by omega)]
      have hc1 : ¬ ((r, b) :: s :: S).length < n := by simp at hr ⊢; omega
      have hc2 : ¬ ((r, b) :: s :: S).length < 2 := by simp
      have ep : putR n ((r, b) :: s :: S) g b' = (r, b) :: (S ++ [(g, b')]) := by
        unfold putR; rw [ei]; simp only; rw [if_neg hc1, if_neg hc2]; rfl
      obtain ⟨k1, k2⟩ := key S (fun x hx => hSg x (List.mem_cons_of_mem _ hx))
      have hsub : ∀ x, x ∈ last.drop 1 → x ∈ last := fun x hx => List.mem_of_mem_drop hx
      refine ⟨?_, ?_, ?_, ef, by rw [en, if_neg hlt], by rw [ep]; exact k2⟩
      · rw [ep, k1, en]
        refine ⟨⟨_, rfl, by rw [List.map_append, ed]; rfl⟩, ?_, ?_, by simp; omega⟩
        · rw [List.nodup_append]
          exact ⟨h.nd.sublist (List.drop_sublist _ _), by simp, fun x hx y hy e => hm (by rw [List.mem_singleton.1 hy] at e; exact e ▸ hsub x hx)⟩
        · intro hx
          rcases List.mem_append.1 hx with hx | hx
          · exact h.nr (hsub _ hx)
          · exact hg (List.mem_singleton.1 hx).symm
      · unfold goneR; rw [ei]; simp only; rw [if_neg hc1, if_neg hc2, if_neg hlt, ← hS]; rfl
      · unfold codeR; rw [ei]; simp only; rw [if_neg hc1, if_neg hc2]
end Kp
theorem kp_start {n : Nat} (hn : 1 ≤ n) (r b : List Int) : Kp n [(r, b)] r b [] := ⟨⟨[], rfl, rfl⟩, List.nodup_nil, by simp, by simpa using hn⟩
theorem kp_one {R : List Ent} {r b g : List Int} {last : PgM.Row} (h : Kp 1 R r b last) (hg : g ≠ r) : last = [] ∧ R = [(r, b)] ∧ codeR 1 R g = 6 ∧ ixR R g = none := by
  have h1 := h.len
  have e : last = [] := List.length_eq_zero_iff.1 (by omega)
  subst e
  obtain ⟨S, rfl, hS⟩ := h.row
  have e : S = [] := by simpa using hS
  subst e
  have ei : ixR [(r, b)] g = none := by rw [ix_cons (fun e => hg e.symm)]; rfl
  refine ⟨rfl, rfl, ?_, ei⟩
  unfold codeR
  rw [ei]
  rfl
end Go.Proofs.Ytkklppjimnkibaa.PoP

namespace Go.Proofs.Ytkklppjimnkibaa.PoQ
open Go.RowKit Go.Shelf Rd Go.Proofs.Ytkklppjimnkibaa.Row Mid LrM LrA PgM PgA PgB PgC PgN PoM PoA PoB PoE PoH PoI PoJ PoK PoL PoP
open Go.Proofs.Ytkklppjimnkibaa.PoD (us us_len By dataL data_len data_B data_any)
open Go.Proofs.Ytkklppjimnkibaa.Num (ret_int ret_bool)
open Go.Proofs.Ytkklppjimnkibaa.MpE (owns_mono)
open It (get_lt)
open Ints (i64s In64)
set_option linter.unusedVariables false
set_option linter.unusedSimpArgs false
set_option maxRecDepth 10000
variable {lo : Lo} {pb gw n d : Nat} {Bb : Nat → Prop} {R : List Ent}
/-- a row of pages in a block of pages -/
structure PgT (X : World) (ad : Option Addr) (row : PgM.Row) : Prop where
  pg : PgAt X ad row
  ty : ∀ a, ad = some a → ∃ cur, X.heap[a.block]? = some (.cells cur 35 (0, 0))
theorem PgT.same {X Y : World} {ad : Option Addr} {row : PgM.Row} (h : PgT X ad row) (hk : ∀ a, ad = some a → Y.heap[a.block]? = X.heap[a.block]?) : PgT Y ad row := by
  refine ⟨⟨h.pg.1, ?_⟩, fun a ea => ?_⟩
  · rcases h.pg.2 with e | ⟨b, o, e, hl, hc⟩
    · exact .inl e
    · refine .inr ⟨b, o, e, ?_, fun i hi j hj => ?_⟩
      · obtain ⟨cur, hcur⟩ := h.ty _ e
        exact get_lt ((hk _ e).trans hcur)
      · rw [← hc i hi j hj]
        unfold World.cell?
        rw [show Y.heap[b]? = X.heap[b]? from hk _ e]
  · obtain ⟨cur, hcur⟩ := h.ty a ea
    exact ⟨cur, (hk a ea).trans hcur⟩
theorem PgT.bel {X Y : World} {ad : Option Addr} {row : PgM.Row} (h : PgT X ad row) (hb : Below X.heap.size X Y) : PgT Y ad row := h.same fun a ea => by
  obtain ⟨cur, hcur⟩ := h.ty a ea
  exact hb.block _ (get_lt hcur)
theorem PgT.pf {X Y : World} {ad : Option Addr} {row : PgM.Row} (h : PgT X ad row) (hp : Pl X lo Bb pb gw n d R) (hf : PF lo gw X Y) : PgT Y ad row := h.same fun a ea => by
  obtain ⟨cur, hcur⟩ := h.ty a ea
  obtain ⟨lb, lg, v, sl, o, wl, ⟨rs, hl, hq, hsl⟩, h2⟩ := hp
  exact hf.u8 hcur (by decide) (hq.gw_int hcur (by decide))
theorem PgT.nil (X : World) : PgT X none [] := ⟨⟨fun v hv => (by cases hv), .inl rfl⟩, fun a e => (by cases e)⟩
theorem pgt_own {W : World} {base : Nat} {n : Nat} {ad : Option Addr} {cap : Nat} {r : PgM.Row} (h : W.ownsRow base 35 3 (.slice ad n cap) n (fl r)) (hr : ∀ v ∈ r, v.length = 3) : PgT W ad r := by
  refine ⟨(pgAt_owns h hr).2, fun a ea => ?_⟩
  obtain ⟨c, hc, _⟩ := own_pos' h (k := a.block) (by rw [ea]; rfl)
  exact ⟨c, hc⟩
/-- the page at a place -/
theorem PgT.at {X : World} {ad : Option Addr} {row : PgM.Row} (h : PgT X ad row) {i : Nat} (hi : i < row.length) : ∃ b o cur, ad = some ⟨b, o, none⟩ ∧ blk X b = some (.cells cur 35 (0, 0)) ∧ o + i * 3 + 3 ≤ cur.size ∧ Mid.piece cur (o + i * 3) 3 = #[.int .i64 (PgM.g (at_ row i) 0), .int .i64 (PgM.g (at_ row i) 1), .int .i64 (PgM.g (at_ row i) 2)] := by
  rcases h.pg.2 with e | ⟨b, o, e, hl, hc⟩
  · rw [e] at hi; cases hi
  · obtain ⟨cur, hcur⟩ := h.ty _ e
    have hat : ∀ j, j < 3 → cur[o + i * 3 + j]? = some (.int .i64 (PgM.g (at_ row i) j)) := fun j hj => by
      have := hc i hi j hj
      rw [blk_cell (show blk X b = _ from hcur)] at this
      exact this
    have hsz : o + i * 3 + 3 ≤ cur.size := by
      have := (Array.getElem?_eq_some_iff.1 (hat 2 (by omega))).1
      omega
    refine ⟨b, o, cur, e, hcur, hsz, ?_⟩
    apply Array.ext_getElem?
    intro j
    unfold Mid.piece
    rw [Array.getElem?_extract]
    by_cases hj : j < 3
    · rw [if_pos (by omega), hat j hj]
      rcases (show j = 0 ∨ j = 1 ∨ j = 2 by omega) with rfl | rfl | rfl <;> rfl
    · rw [if_neg (by omega)]
      simp
      omega
theorem PgT.three {X : World} {ad : Option Addr} {row : PgM.Row} (h : PgT X ad row) {i : Nat} (hi : i < row.length) : ∃ x0 x1 x2, at_ row i = [x0, x1, x2] := len3 (h.pg.1 _ (by rw [at_eq hi]; exact List.getElem_mem _))
/-- all but the front -/
theorem PgT.drop {X : World} {b o : Nat} {row : PgM.Row} (h : PgT X (some ⟨b, o, none⟩) row) (k : Nat) : PgT X (some ⟨b, o + k * 3, none⟩) (row.drop k) := by
  refine ⟨⟨fun v hv => h.pg.1 v (List.mem_of_mem_drop hv), ?_⟩, fun a ea => ?_⟩
  · rcases h.pg.2 with e | ⟨b', o', e, hl, hc⟩
    · exact .inl (by rw [e]; simp)
    · injection e with e
      injection e with e1 e2
      subst e1 e2
      refine .inr ⟨b, o + k * 3, rfl, hl, fun i hi j hj => ?_⟩
      rw [List.length_drop] at hi
      have := hc (k + i) (by omega) j hj
      rw [show o + (k + i) * 3 + j = o + k * 3 + i * 3 + j by omega] at this
      rw [this]
      congr 3
      unfold at_
      rw [List.getD_eq_getElem?_getD, List.getD_eq_getElem?_getD, List.getElem?_drop]
  · injection ea with ea
    subst ea
    exact h.ty ⟨b, o, none⟩ rfl
end Go.Proofs.Ytkklppjimnkibaa.PoQ

/-
  Entries of a directory, rows of them: the mathematics.
-/
import Derived.Test.YtpjbacpchmemeaaDkM
import Derived.Test.YtpjbacpchmemeaaPgN
namespace Go.Proofs.Ytpjbacpchmemeaa.DiM
open Go.RowKit Rd Go.Proofs.Ytpjbacpchmemeaa.Row Mid DkM PgM PgN
set_option linter.unusedVariables false
set_option linter.unusedSimpArgs false
set_option maxRecDepth 10000
/-- an entry -/
@[ext] structure En where
  L : Int
  X : Int
  Y : Int
  S : Int
  N : Int
  M : Int
deriving DecidableEq, Inhabited
def En.z : En := ⟨0, 0, 0, 0, 0, 0⟩
def En.c (p : En) : Array Value := #[.int .i64 p.L, .int .i64 p.X, .int .i64 p.Y, .int .i64 p.S, .int .i64 p.N, .int .u32 p.M]
def En.l (p : En) : List Value := [.int .i64 p.L, .int .i64 p.X, .int .i64 p.Y, .int .i64 p.S, .int .i64 p.N, .int .u32 p.M]
abbrev En.v (p : En) : Value := .agg p.c
/-- its sum is one -/
def En.B (p : En) : Prop := 0 ≤ p.M ∧ p.M ≤ 4294967295
theorem En.zB : En.z.B := by unfold En.B En.z; simp
theorem En.l_len (p : En) : p.l.length = 6 := rfl
theorem En.l_c (p : En) : p.l.toArray = p.c := rfl
theorem En.c_l (p : En) : p.c.toList = p.l := rfl
theorem En.l_one (p : En) : ∀ u ∈ p.l, u.oneCell' = true := by intro u hu; simp [En.l] at hu; rcases hu with rfl | rfl | rfl | rfl | rfl | rfl <;> rfl
theorem En.c_all (p : En) : p.c.all (fun x => x.oneCell') = true := by simp [En.c, Value.oneCell']
theorem En.c_size (p : En) : p.c.size = 6 := rfl
theorem En.v_inj {p q : En} (h : p.v = q.v) : p = q := by
  simp only [En.v, En.c, Value.agg.injEq, Array.mk.injEq, List.cons.injEq, Value.int.injEq, true_and, and_true] at h
  obtain ⟨h1, h2, h3, h4, h5, h6⟩ := h
  exact En.ext h1 h2 h3 h4 h5 h6
/-- a row's cells -/
def ce (ps : List En) : List Value := fl (ps.map En.l)
theorem ce_ls (ps : List En) : ∀ l ∈ ps.map En.l, l.length = 6 := by intro l hl; obtain ⟨p, _, rfl⟩ := List.mem_map.1 hl; rfl
theorem ce_len (ps : List En) : (ce ps).length = ps.length * 6 := by unfold ce; rw [fl_len (ce_ls ps), List.length_map]
theorem ce_app (a b : List En) : ce (a ++ b) = ce a ++ ce b := by unfold ce; rw [List.map_append, fl_app]
theorem ce_one (p : En) : ce [p] = p.l := by simp [ce, fl]
theorem ce_ones (ps : List En) : ∀ u ∈ ce ps, u.oneCell' = true := by
  intro u hu
  unfold ce fl at hu
  obtain ⟨l, hl, hu⟩ := List.mem_flatten.1 hu
  obtain ⟨p, _, rfl⟩ := List.mem_map.1 hl
  exact p.l_one u hu
/-- number i of a row -/
def at_ (ps : List En) (i : Nat) : En := ps.getD i En.z
theorem at_get {ps : List En} {i : Nat} (h : i < ps.length) : at_ ps i = ps[i] := by unfold at_; simp [List.getD, h]
theorem at_out {ps : List En} {i : Nat} (h : ps.length ≤ i) : at_ ps i = En.z := by unfold at_; rw [List.getD_eq_getElem?_getD, List.getElem?_eq_none h]; rfl
theorem ce_at {ps : List En} {i j : Nat} (hi : i < ps.length) (hj : j < 6) : (ce ps)[i * 6 + j]? = (at_ ps i).l[j]? := by
  unfold ce
  rw [fl_at (ce_ls ps) (by simpa using hi) hj, List.getElem_map, at_get hi]
def RB (ps : List En) : Prop := ∀ p ∈ ps, p.B
theorem RB.at {ps : List En} (h : RB ps) (i : Nat) : (at_ ps i).B := by
  rcases Nat.lt_or_ge i ps.length with h1 | h1
  · rw [at_get h1]; exact h _ (List.getElem_mem h1)
  · rw [at_out h1]; exact En.zB
/-- the page -/
def En.P (p : En) : List Int := [p.L, p.X, p.Y]
/-- how many sectors some bytes need -/
def secV (n : Int) : Int := if n < 1 then 0 else (n - 1) / 32 + 1
theorem secV_bd {n : Int} (h : 1 ≤ n) (h2 : n ≤ 4096) : 1 ≤ secV n ∧ secV n ≤ 128 := by
  unfold secV
  rw [if_neg (by omega)]
  omega
def En.K (d : Int) (p : En) : Int := keyV d p.L p.X p.Y
/-- may an entry be, the others not asked? -/
def mayP (d : Int) (p : En) : Prop := validB d p.L p.X p.Y = true ∧ (2 ≤ p.S ∧ p.S < 2048) ∧ (1 ≤ p.N ∧ p.N ≤ 4096) ∧ p.S + secV p.N ≤ 2048
instance (d : Int) (p : En) : Decidable (mayP d p) := by unfold mayP; infer_instance
def mayB (d : Int) (p : En) : Bool := decide (mayP d p)
/-- nothing in common -/
def apart (p q : En) : Prop := p.P ≠ q.P ∧ (p.S + secV p.N ≤ q.S ∨ q.S + secV q.N ≤ p.S)
instance (p q : En) : Decidable (apart p q) := by unfold apart; infer_instance
theorem apart_comm {p q : En} (h : apart p q) : apart q p := ⟨fun e => h.1 e.symm, h.2.symm⟩
/-- entries that may be a directory -/
def good (d : Int) (l : List En) : Prop := (0 ≤ d ∧ d ≤ 3) ∧ (∀ p ∈ l, mayP d p) ∧ l.Pairwise apart
instance (d : Int) (l : List En) : Decidable (good d l) := by unfold good; infer_instance
theorem good_perm {d : Int} {l m : List En} (h : l.Perm m) (hg : good d l) : good d m :=
  ⟨hg.1, fun p hp => hg.2.1 p (h.mem_iff.2 hp), (h.pairwise_iff (fun {a b} h => apart_comm h)).1 hg.2.2⟩
theorem good_iff {d : Int} {l m : List En} (h : l.Perm m) : good d l ↔ good d m := ⟨good_perm h, good_perm h.symm⟩
/-- by key -/
def byK (d : Int) (l : List En) : Prop := l.Pairwise fun p q => p.K d < q.K d
/-- the one order of them -/
theorem byK_uniq {d : Int} : ∀ {l m : List En}, l.Perm m → byK d l → byK d m → l = m
  | [], m, h, _, _ => (h.symm.eq_nil).symm
  | p :: l, [], h, _, _ => absurd h.eq_nil (by simp)
  | p :: l, q :: m, h, h1, h2 => by
    have e : p = q := by
      have a1 : p = q ∨ p ∈ m := by simpa using h.mem_iff.1 (List.mem_cons_self ..)
      have a2 : q = p ∨ q ∈ l := by simpa using h.mem_iff.2 (List.mem_cons_self ..)
      rcases a1 with a1 | a1
      · exact a1
      · rcases a2 with a2 | a2
        · exact a2.symm
        · have b1 := (List.pairwise_cons.1 h1).1 q a2
          have b2 := (List.pairwise_cons.1 h2).1 p a1
          omega
    subst e
    rw [byK_uniq (h.cons_inv) (List.pairwise_cons.1 h1).2 (List.pairwise_cons.1 h2).2]
/-- the entries of a directory, by key -/
def insK (d : Int) (p : En) : List En → List En
  | [] => [p]
  | q :: l => if p.K d < q.K d then p :: q :: l else q :: insK d p l
def srt (d : Int) : List En → List En
  | [] => []
  | p :: l => insK d p (srt d l)
theorem insK_perm (d : Int) (p : En) : ∀ l, (insK d p l).Perm (p :: l)
  | [] => List.Perm.refl _
  | q :: l => by
    unfold insK
    split
    · exact List.Perm.refl _
    · exact ((insK_perm d p l).cons q).trans (List.Perm.swap p q l)
theorem srt_perm (d : Int) : ∀ l, (srt d l).Perm l
  | [] => List.Perm.refl _
  | p :: l => (insK_perm d p _).trans ((srt_perm d l).cons p)
theorem insK_by {d : Int} {p : En} : ∀ {l : List En}, byK d l → (∀ q ∈ l, p.K d ≠ q.K d) → byK d (insK d p l)
  | [], _, _ => by simp [insK, byK]
  | q :: l, h, hn => by
    have h1 := List.pairwise_cons.1 h
    have hq := hn q (List.mem_cons_self ..)
    unfold insK
    split
    · rename_i hlt
      refine List.pairwise_cons.2 ⟨fun r hr => ?_, h⟩
      rcases List.mem_cons.1 hr with rfl | hr
      · exact hlt
      · have := h1.1 r hr
        omega
    · refine List.pairwise_cons.2 ⟨fun r hr => ?_, insK_by h1.2 (fun r hr => hn r (List.mem_cons_of_mem _ hr))⟩
      have hr' := (insK_perm d p l).mem_iff.1 hr
      rcases List.mem_cons.1 hr' with rfl | hr'
      · omega
      · exact h1.1 r hr'
/-- keys of pages that differ differ -/
theorem key_ne {d : Int} {p q : En} (hd : 0 ≤ d ∧ d ≤ 3) (hp : mayP d p) (hq : mayP d q) (h : p.P ≠ q.P) : p.K d ≠ q.K d := by
  intro e
  obtain ⟨n, rfl⟩ : ∃ n : Nat, d = n := ⟨d.toNat, by omega⟩
  have := key_inj (n := n) (by omega) hp.1 hq.1 e
  exact h (by unfold En.P; rw [this.1, this.2.1, this.2.2])
theorem srt_by {d : Int} : ∀ {l : List En}, good d l → byK d (srt d l)
  | [], _ => List.Pairwise.nil
  | p :: l, h => by
    have h2 := List.pairwise_cons.1 h.2.2
    refine insK_by (srt_by ⟨h.1, fun q hq => h.2.1 q (List.mem_cons_of_mem _ hq), h2.2⟩) fun q hq => ?_
    have hq' := (srt_perm d l).mem_iff.1 hq
    exact key_ne h.1 (h.2.1 p (List.mem_cons_self ..)) (h.2.1 q (List.mem_cons_of_mem _ hq')) (h2.1 q hq').1
theorem srt_uniq {d : Int} {l m : List En} (hg : good d l) (h : m.Perm l) (hm : byK d m) : m = srt d l :=
  byK_uniq (h.trans (srt_perm d l).symm) hm (srt_by hg)
theorem srt_eq {d : Int} {l m : List En} (hg : good d l) (h : m.Perm l) : srt d m = srt d l :=
  srt_uniq hg ((srt_perm d m).trans h) (srt_by (good_perm h.symm hg))
theorem srt_len (d : Int) (l : List En) : (srt d l).length = l.length := (srt_perm d l).length_eq
theorem srt_B {d : Int} {l : List En} (h : RB l) : RB (srt d l) := fun p hp => h p ((srt_perm d l).mem_iff.1 hp)
/-- an answer: the entries of the directory, or none -/
def newV (d : Int) (l : List En) : Option (List En) := if good d l then some (srt d l) else none
theorem newV_perm {d : Int} {l m : List En} (h : m.Perm l) : newV d m = newV d l := by
  unfold newV
  by_cases hg : good d l
  · rw [if_pos hg, if_pos ((good_iff h).2 hg), srt_eq hg h]
  · rw [if_neg hg, if_neg (fun h' => hg ((good_iff h).1 h'))]
end Go.Proofs.Ytpjbacpchmemeaa.DiM

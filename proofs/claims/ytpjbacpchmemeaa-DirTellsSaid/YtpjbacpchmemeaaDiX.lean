/-
  What calls say of a directory; what the document fixes.
-/
import Derived.Test.YtpjbacpchmemeaaDiW
import Derived.Test.YtpjbacpchmemeaaDiP
import Derived.Test.YtpjbacpchmemeaaRds
import Derived.Great.BuildSlice
namespace Go.Proofs.Ytpjbacpchmemeaa.DiX
open Go.RowKit Go.Shelf Rd Go.Proofs.Ytpjbacpchmemeaa.Row Mid PgM PgA PgB PgC DiM DiA DiC DiD DiE DiF DiJ DiK DiL DiN DiO DiP DiQ DiU DiV DiW OctA OctB
open Go.Proofs.Ytpjbacpchmemeaa.DiM (at_ at_get ce ce_len ce_app ce_one ce_ones ce_at)
open Go.Proofs.Ytpjbacpchmemeaa.DiI (cutV cut_all cut_take)
open Go.Proofs.Ytpjbacpchmemeaa.Rds (Rds rds_stab reads_ext)
open Go.Proofs.Ytpjbacpchmemeaa.Pred (Is is_stab Stab)
set_option linter.unusedVariables false
set_option linter.unusedSimpArgs false
set_option maxRecDepth 10000
/-- a slice that leads to these entries -/
def SE (r : List En) : Value → World → Prop := fun u X => ∃ a c, u = .slice a r.length c ∧ RdE X a r ∧ r.length ≤ c
theorem rde_ext {B : Nat} {X Y : World} {a : Option Addr} {r : List En} (h : RdE X a r) (he : Pred.Ext B X Y) : RdE Y a r := ⟨reads_ext he h.1 (by omega), h.2⟩
theorem se_stab (r : List En) : Stab (SE r) := fun u X Y B ⟨a, c, h1, h2, h3⟩ hb => ⟨a, c, h1, rde_ext h2 hb, h3⟩
theorem SE.of {X : World} {base n : Nat} {v : Value} {r : List En} (h : Rown X base v n r) : SE r v X := by
  obtain ⟨a, c, h1, h2⟩ := Rown.rd h
  subst h1
  obtain ⟨a', c', e, h3, _⟩ := Rd.owns_val h
  injection e with _ e1 e2
  exact ⟨a, c, rfl, h2, by omega⟩
/-- the front of a slice -/
theorem front_id {a : Option Addr} {X : World} {s n : Nat} {cs : List Value} (h : Reads X s a n cs) : a.map (·.add 0) = a := by
  rcases h.2 with h | ⟨b, o, e, _⟩
  · cases a with
    | none => rfl
    | some p => cases p; rfl
  · rw [e]; rfl
theorem add0 (a : Option Addr) (c : Nat) : (if c = 0 then a else a.map (·.add 0)) = a := by
  cases a with
  | none => simp
  | some p =>
    obtain ⟨b, o, e⟩ := p
    cases e <;> simp [Addr.add]
instance (r : List En) : Decidable (RB r) := by unfold RB En.B; infer_instance
/-- a directory that stands: its entries are ones -/
structure DB (X : World) (b : Nat) (d : Int) (r : List En) : Prop where
  dr : Dr X b d r
  bd : RB r
  few : r.length ≤ 10000
theorem DB.below {X Y : World} {b : Nat} {d : Int} {r : List En} (h : DB X b d r) (hb : Below X.heap.size X Y) : DB Y b d r := ⟨h.dr.below hb, h.bd, h.few⟩
theorem rd_lit {Y : World} {g : Nat} {l : List En} (h : blk Y g = some (.cells (ce l).toArray 39 (0, 0))) : RdE Y (some ⟨g, 0, none⟩) l := by
  refine ⟨⟨ce_len l, .inr ⟨g, 0, rfl, blk_lt h, fun j hj => ?_⟩⟩, fun _ => ⟨g, 0, rfl⟩⟩
  rw [Nat.zero_add, blk_cell h, List.getElem?_toArray]
def c2 (p q : En) : Array Value := (ce [p, q]).toArray
theorem fold_two (p q : En) : Array.foldl (fun (cs : Array Value) (x : Value × Nat) => cs.setIfInBounds (6 + x.snd) x.fst) (Array.foldl (fun (cs : Array Value) (x : Value × Nat) => cs.setIfInBounds x.snd x.fst) #[.int .i64 0, .int .i64 0, .int .i64 0, .int .i64 0, .int .i64 0, .int .u32 0, .int .i64 0, .int .i64 0, .int .i64 0, .int .i64 0, .int .i64 0, .int .u32 0] p.c.zipIdx 0 6) q.c.zipIdx 0 6 = c2 p q := by kernel_rfl
theorem info_en2 : ∃ ie, Try.prog.info? 39 = some ie ∧ ie.zero = some En.z.v ∧ ie.size = 6 := by
  have h := info_en
  cases h2 : Try.prog.info? 39 with
  | none => rw [h2] at h; cases h
  | some ie =>
    rw [h2] at h
    simp only [Option.map_some, Option.some.injEq, Prod.mk.injEq] at h
    exact ⟨ie, rfl, h.1, h.2.1⟩
theorem run_lit2 (p q : En) (w : World) : (Instr.buildSlice 22 2 #[(0, .agg p.c), (1, .agg q.c)]).run Try.prog w = .ok (.slice (some ⟨w.heap.size, 0, none⟩) 2 2) (w.alloc (.cells (c2 p q) 39)) := by
  obtain ⟨ie, h1, h2, h3⟩ := info_en2
  refine run_buildSlice w _ 39 2 _ _ ie En.z.v Try.underlying22 h1 h2 (by rw [h3]; decide) (by rw [h3]; decide) ?_
  rw [h3]
  kernel_rfl
theorem run_lit1 (p : En) (w : World) : (Instr.buildSlice 22 1 #[(0, .agg p.c)]).run Try.prog w = .ok (.slice (some ⟨w.heap.size, 0, none⟩) 1 1) (w.alloc (.cells p.c 39)) := by
  obtain ⟨ie, h1, h2, h3⟩ := info_en2
  refine run_buildSlice w _ 39 1 _ _ ie En.z.v Try.underlying22 h1 h2 (by rw [h3]; decide) (by rw [h3]; decide) ?_
  rw [h3]
  kernel_rfl
theorem fold_sz (p : En) : (Array.foldl (fun (cs : Array Value) (x : Value × Nat) => cs.setIfInBounds x.snd x.fst) #[.int .i64 0, .int .i64 0, .int .i64 0, .int .i64 0, .int .i64 0, .int .u32 0, .int .i64 0, .int .i64 0, .int .i64 0, .int .i64 0, .int .i64 0, .int .u32 0] p.c.zipIdx 0 6).size = 12 := by kernel_rfl
theorem rd_two (X : World) (p q : En) : RdE (X.alloc (.cells (c2 p q) 39)) (some ⟨X.heap.size, 0, none⟩) [p, q] := rd_lit (blk_alloc_at _ _ _ rfl)
theorem rd_one (X : World) (p : En) : RdE (X.alloc (.cells p.c 39)) (some ⟨X.heap.size, 0, none⟩) [p] := rd_lit (by rw [blk_alloc_at _ _ _ rfl, ce_one, En.l_c])
theorem all_db {X : World} {b : Nat} {d : Int} {r : List En} (h : DB X b d r) (m : Int) :
    Calls Try.prog 20 #[.pointer (some ⟨b, 0, none⟩), .int .i64 m] X fun e Y => (∃ v, e = .returned v ∧ SE (cutV r m) v Y) ∧ Below X.heap.size X Y := by
  obtain ⟨v, hv⟩ := DiF.Dr.v h.dr
  refine (DiI.lall_any _ r (fun Z => Dv Z b d v r) X (fun b0 => all_seq b0 b d v r) (fun Z hZ => hv.below hZ) (by have := h.few; omega) m).mono ?_
  rintro e Y ⟨⟨u, he, hu⟩, hb⟩
  exact ⟨⟨u, he, SE.of hu⟩, hb⟩
theorem bytes_db {X : World} {b : Nat} {d : Int} {r : List En} (h : DB X b d r) :
    Calls Try.prog 21 #[.pointer (some ⟨b, 0, none⟩)] X fun e Y => (∃ a c, e = .returned (.slice a (10 * r.length) c) ∧ 10 * r.length ≤ c ∧ Reads Y 1 a (10 * r.length) (u8s (dirB d r))) ∧ Below X.heap.size X Y := by
  obtain ⟨v, hv⟩ := DiF.Dr.v h.dr
  refine (bytes_any b d v r X hv h.dr.good.2.1 h.bd h.few).mono ?_
  rintro e Y ⟨⟨u, he, hu⟩, hb⟩
  obtain ⟨a, c, rfl, hc, _⟩ := Rd.owns_val hu
  exact ⟨⟨a, c, he, hc, Reads.of_owns hu⟩, hb⟩
theorem len_db {X : World} {b : Nat} {d : Int} {r : List En} (h : DB X b d r) :
    Calls Try.prog 22 #[.pointer (some ⟨b, 0, none⟩)] X fun e Y => e = .returned (.int .i64 r.length) ∧ X = Y := by
  obtain ⟨v, hv⟩ := DiF.Dr.v h.dr
  exact len_any b d v r X hv
theorem get_db {X : World} {b : Nat} {d : Int} {r : List En} (h : DB X b d r) (x y z : Int) :
    Calls Try.prog 15 #[.pointer (some ⟨b, 0, none⟩), pg x y z] X fun e Y => e = .returned (.tuple #[((getO r [x, y, z]).getD En.z).v, .bool (getO r [x, y, z]).isSome]) ∧ Below X.heap.size X Y := by
  obtain ⟨v, hv⟩ := DiF.Dr.v h.dr
  exact get_any b d v r x y z X hv
theorem get_ok {X : World} {b : Nat} {d : Int} {r : List En} {p : En} (h : DB X b d r) (x y z : Int) (hp : getO r [x, y, z] = some p) :
    Calls Try.prog 15 #[.pointer (some ⟨b, 0, none⟩), pg x y z] X fun e Y => e = .returned (.tuple #[p.v, .bool true]) ∧ Below X.heap.size X Y := by
  have := get_db h x y z
  rw [hp] at this
  exact this
/-- what New and With and Decode give -/
def DbO (X : World) (v : Value) (d : Int) (o : Option (List En)) : Prop := match o with
  | none => v = .pointer none
  | some r => ∃ b, v = .pointer (some ⟨b, 0, none⟩) ∧ DB X b d r
theorem db_of {X : World} {v : Value} {d : Int} {l : List En} (h : DrO X v d (newV d l)) (hB : RB l) (hl : l.length ≤ 10000) : DbO X v d (newV d l) := by
  cases e : newV d l with
  | none => rw [e] at h; exact h
  | some r =>
    rw [e] at h
    obtain ⟨b, h1, h2⟩ := h
    exact ⟨b, h1, h2, new_B e hB, by rw [new_len e]; exact hl⟩
theorem new_db (d : Int) (ad : Option Addr) (cap : Nat) (l : List En) (X : World) (hR : RdE X ad l) (hB : RB l) (hl : l.length ≤ 10000) :
    Calls Try.prog 8 #[.int .i64 d, .slice ad l.length cap] X fun e Y => (∃ v, e = .returned (.tuple #[v, .int .i64 (if (newV d l).isSome then 0 else 1)]) ∧ DbO Y v d (newV d l)) ∧ Below X.heap.size X Y := by
  refine (new_any d ad l.length cap l X hR.1 (by omega) (fun h => ?_)).mono ?_
  · cases l with
    | nil => rfl
    | cons p l =>
      obtain ⟨g, o, e⟩ := hR.2 (by simp)
      rw [h] at e
      cases e
  · rintro e Y ⟨⟨v, he, hv⟩, hb⟩
    exact ⟨⟨v, he, db_of hv hB hl⟩, hb⟩
theorem keep_B {l r : List En} (h : RB l) (h2 : RB r) : RB (l ++ keepP l r) := fun p hp => by
  rcases List.mem_append.1 hp with hp | hp
  · exact h p hp
  · exact h2 p (List.mem_filter.1 hp).1
theorem with_db {X : World} {b : Nat} {d : Int} {r : List En} (h : DB X b d r) (ad : Option Addr) (cap : Nat) (l : List En) (hR : RdE X ad l) (hB : RB l) (hl : l.length + r.length ≤ 10000) :
    Calls Try.prog 17 #[.pointer (some ⟨b, 0, none⟩), .slice ad l.length cap] X fun e Y => (∃ v, e = .returned (.tuple #[v, .int .i64 (if (newV d (l ++ keepP l r)).isSome then 0 else 1)]) ∧ DbO Y v d (newV d (l ++ keepP l r))) ∧ Below X.heap.size X Y := by
  obtain ⟨v, hv⟩ := DiF.Dr.v h.dr
  refine (with_any b d v r l ad cap X hv hR (fun h => ?_) (by omega) (by omega)).mono ?_
  · cases l with
    | nil => rfl
    | cons p l =>
      obtain ⟨g, o, e⟩ := hR.2 (by simp)
      rw [h] at e
      cases e
  · rintro e Y ⟨⟨v, he, hv⟩, hb⟩
    exact ⟨⟨v, he, db_of hv (keep_B hB h.bd) (by have := keepP_len l r; rw [List.length_append]; omega)⟩, hb⟩
theorem dec_is {d : Int} {zs : List Int} {s : List En} (h : decV d zs = some s) (hz : B8s zs) : RB s ∧ s.length = zs.length / 10 := by
  unfold decV at h
  split at h
  · split at h
    · cases h
    · rename_i l hl
      split at h
      · cases h
      · rename_i s' hs
        split at h
        · injection h with h
          subst h
          unfold rdO at hl
          split at hl
          · injection hl with hl
            have e : l = rdL d zs (zs.length / 10) := by rw [← hl, pcs_eq, List.map_map]; rfl
            refine ⟨new_B hs (by rw [e]; exact rdL_B hz _), by rw [new_len hs, e, rdL_len]⟩
          · cases hl
        · cases h
  · cases h
theorem dec_db (d : Int) (ad : Option Addr) (zs : List Int) (cap : Nat) (w : World) (hR : Reads w 1 ad zs.length (u8s zs)) (hz : B8s zs) (hn : zs.length ≤ 100000) (hc : zs.length ≤ cap) :
    Calls Try.prog 10 #[.int .i64 d, .slice ad zs.length cap] w fun e w' => (∃ v, e = .returned (.tuple #[v, .int .i64 (if (decV d zs).isSome then 0 else if depthB d = true then 3 else 1)]) ∧ DbO w' v d (decV d zs)) ∧ Below w.heap.size w w' := by
  refine (dec_any d ad zs cap w hR hz hn hc).mono ?_
  rintro e Y ⟨⟨v, he, hv⟩, hb⟩
  refine ⟨⟨v, he, ?_⟩, hb⟩
  cases e : decV d zs with
  | none => rw [e] at hv; exact hv
  | some s =>
    rw [e] at hv
    obtain ⟨b, h1, h2⟩ := hv
    have h3 := dec_is e hz
    exact ⟨b, h1, h2, h3.1, by rw [h3.2]; omega⟩
theorem new_ok {d : Int} {l r : List En} (hn : newV d l = some r) (ad : Option Addr) (cap : Nat) (X : World) (hR : RdE X ad l) (hB : RB l) (hl : l.length ≤ 10000) :
    Calls Try.prog 8 #[.int .i64 d, .slice ad l.length cap] X fun e Y => (∃ b, e = .returned (.tuple #[.pointer (some ⟨b, 0, none⟩), .int .i64 0]) ∧ DB Y b d r) ∧ Below X.heap.size X Y := by
  refine (new_db d ad cap l X hR hB hl).mono ?_
  rw [hn]
  rintro e Y ⟨⟨v, he, b, rfl, hD⟩, hb⟩
  exact ⟨⟨b, he, hD⟩, hb⟩
theorem new_not {d : Int} {l : List En} (hn : newV d l = none) (ad : Option Addr) (cap : Nat) (X : World) (hR : RdE X ad l) (hB : RB l) (hl : l.length ≤ 10000) :
    Calls Try.prog 8 #[.int .i64 d, .slice ad l.length cap] X fun e Y => e = .returned (.tuple #[.pointer none, .int .i64 1]) ∧ Below X.heap.size X Y := by
  refine (new_db d ad cap l X hR hB hl).mono ?_
  rw [hn]
  rintro e Y ⟨⟨v, he, hv⟩, hb⟩
  have hv : v = .pointer none := hv
  exact ⟨by rw [he, hv]; rfl, hb⟩
theorem with_ok {d : Int} {l r s : List En} (hn : newV d (l ++ keepP l r) = some s) {X : World} {b : Nat} (h : DB X b d r) (ad : Option Addr) (cap : Nat) (hR : RdE X ad l) (hB : RB l) (hl : l.length + r.length ≤ 10000) :
    Calls Try.prog 17 #[.pointer (some ⟨b, 0, none⟩), .slice ad l.length cap] X fun e Y => (∃ b2, e = .returned (.tuple #[.pointer (some ⟨b2, 0, none⟩), .int .i64 0]) ∧ DB Y b2 d s) ∧ Below X.heap.size X Y := by
  refine (with_db h ad cap l hR hB hl).mono ?_
  rw [hn]
  rintro e Y ⟨⟨v, he, b2, rfl, hD⟩, hb⟩
  exact ⟨⟨b2, he, hD⟩, hb⟩
theorem with_not {d : Int} {l r : List En} (hn : newV d (l ++ keepP l r) = none) {X : World} {b : Nat} (h : DB X b d r) (ad : Option Addr) (cap : Nat) (hR : RdE X ad l) (hB : RB l) (hl : l.length + r.length ≤ 10000) :
    Calls Try.prog 17 #[.pointer (some ⟨b, 0, none⟩), .slice ad l.length cap] X fun e Y => e = .returned (.tuple #[.pointer none, .int .i64 1]) ∧ Below X.heap.size X Y := by
  refine (with_db h ad cap l hR hB hl).mono ?_
  rw [hn]
  rintro e Y ⟨⟨v, he, hv⟩, hb⟩
  have hv : v = .pointer none := hv
  exact ⟨by rw [he, hv]; rfl, hb⟩
theorem dec_ok {d : Int} {zs : List Int} {r : List En} (hn : decV d zs = some r) (ad : Option Addr) (n cap : Nat) (X : World) (hR : Reads X 1 ad n (u8s zs)) (hz : B8s zs) (hl : n ≤ 100000) (hc : n ≤ cap) :
    Calls Try.prog 10 #[.int .i64 d, .slice ad n cap] X fun e Y => (∃ b, e = .returned (.tuple #[.pointer (some ⟨b, 0, none⟩), .int .i64 0]) ∧ DB Y b d r) ∧ Below X.heap.size X Y := by
  obtain rfl : zs.length = n := by have := hR.1; simpa using this
  refine (dec_db d ad zs cap X hR hz hl hc).mono ?_
  rw [hn]
  rintro e Y ⟨⟨v, he, b, rfl, hD⟩, hb⟩
  exact ⟨⟨b, he, hD⟩, hb⟩
theorem dec_not {d : Int} {zs : List Int} (hn : decV d zs = none) (hd : depthB d = true) (ad : Option Addr) (n cap : Nat) (X : World) (hR : Reads X 1 ad n (u8s zs)) (hz : B8s zs) (hl : n ≤ 100000) (hc : n ≤ cap) :
    Calls Try.prog 10 #[.int .i64 d, .slice ad n cap] X fun e Y => e = .returned (.tuple #[.pointer none, .int .i64 3]) ∧ Below X.heap.size X Y := by
  obtain rfl : zs.length = n := by have := hR.1; simpa using this
  refine (dec_db d ad zs cap X hR hz hl hc).mono ?_
  rw [hn]
  rintro e Y ⟨⟨v, he, hv⟩, hb⟩
  have hv : v = .pointer none := hv
  exact ⟨by rw [he, hv, hd]; rfl, hb⟩
/-- a directory's bytes are read as it -/
theorem dec_back {d : Int} {r : List En} (hg : good d r) (hk : byK d r) (hB : RB r) : decV d (dirB d r) = some r := by
  have hn : newV d r = some r := by
    unfold newV
    rw [if_pos hg]
    exact congrArg some (srt_uniq hg (List.Perm.refl _) hk).symm
  exact dec_yes (by have := hg.1; unfold depthB; simp; omega) (by rw [dirB_len]; omega) (rd_back hg.2.1 hB) hn rfl
end Go.Proofs.Ytpjbacpchmemeaa.DiX

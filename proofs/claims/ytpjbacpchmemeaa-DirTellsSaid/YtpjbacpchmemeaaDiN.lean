/-
  An entry out of ten bytes.
-/
import Derived.Test.YtpjbacpchmemeaaDiF
import Derived.Test.YtpjbacpchmemeaaPgF
import Derived.Test.YtpjbacpchmemeaaOctB
namespace Go.Proofs.Ytpjbacpchmemeaa.DiN
open Go.RowKit Rd Go.Proofs.Ytpjbacpchmemeaa.Row Mid PgM PgA PgB PgC DiM DiA DiC DiD DiE OctA OctB
open Go.Proofs.Ytpjbacpchmemeaa.PgF (atV atB at_any)
open Go.Proofs.Ytpjbacpchmemeaa.Num (ret_int ret_bool)
open Go.Proofs.Ytpjbacpchmemeaa.DiM (at_ at_get ce ce_len ce_app ce_one ce_ones ce_at)
set_option linter.unusedVariables false
set_option linter.unusedSimpArgs false
set_option maxRecDepth 10000
theorem u8s_len (zs : List Int) : (u8s zs).length = zs.length := by simp [u8s]
theorem reads_sub {X : World} {g o n : Nat} {zs : List Int} (h : Reads X 1 (some ⟨g, o, none⟩) n (u8s zs)) {i m : Nat} (him : i + m ≤ zs.length) : Reads X 1 (some ⟨g, o + i, none⟩) m (u8s ((zs.drop i).take m)) := by
  have hl : ((zs.drop i).take m).length = m := by rw [List.length_take, List.length_drop]; omega
  refine ⟨by rw [u8s_len, hl, Nat.mul_one], ?_⟩
  rcases h.2 with h2 | ⟨b, o', e, hb, hc⟩
  · left
    have := h.1
    rw [u8s_len] at this
    omega
  · cases e
    refine .inr ⟨g, o + i, rfl, hb, fun j hj => ?_⟩
    rw [u8s_len, hl] at hj
    have h1 := hc (i + j) (by rw [u8s_len]; omega)
    rw [← Nat.add_assoc] at h1
    rw [h1, u8s_at _ _ (by omega), u8s_at _ _ (by rw [hl]; exact hj)]
    congr 2
    simp only [List.getD_eq_getElem?_getD]
    rw [List.getElem?_take_of_lt hj, List.getElem?_drop]
/-- the number in some of them -/
def nm (zs : List Int) (i m : Nat) : Nat := getN ((zs.drop i).take m)
theorem nm_lt {zs : List Int} (h : B8s zs) (i m : Nat) : nm zs i m < 256 ^ m := by
  unfold nm
  have h1 : B8s ((zs.drop i).take m) := fun z hz => h z (List.mem_of_mem_drop (List.mem_of_mem_take hz))
  have := getN_lt ((zs.drop i).take m).length h1 (Nat.le_refl _)
  rw [List.take_length] at this
  exact Nat.lt_of_lt_of_le this (Nat.pow_le_pow_right (by omega) (by rw [List.length_take]; omega))
/-- is there such a page? -/
def enB (d : Int) (zs : List Int) : Bool := atB d (nm zs 0 2 : Nat)
def enP (d : Int) (zs : List Int) : List Int := atV d (nm zs 0 2 : Nat)
def enV (d : Int) (zs : List Int) : En := ⟨PgM.g (enP d zs) 0, PgM.g (enP d zs) 1, PgM.g (enP d zs) 2, (nm zs 2 2 : Nat), (nm zs 4 2 : Nat), (nm zs 6 4 : Nat)⟩
theorem at3 (d k : Int) : (atV d k).length = 3 := by
  unfold PgF.atV
  split
  · rename_i h
    have := all_len d
    rw [PgM.at_eq (by omega)]
    exact three_all d _ (List.getElem_mem _)
  · rfl
theorem ret_en2 {fn : Func} {R : Ending → World → Prop} {a : Act} {W : World} {p q : Tmp} (h : fn.results = #[.cell p 39, .tmp q]) (g : Nat) (e : En) (hp : a.tmps.getD p undef = .pointer (some ⟨g, 0, none⟩))
    (hg : blk W g = some (.cells e.c 39 (0, 0))) (hd : a.defers = []) (hR : R (.returned (.tuple #[e.v, a.tmps.getD q undef])) W) : bodyPost Try.prog fn R .ret a W :=
  bodyPost_ret (results_row2 h _ _ g _ _ _ _ hp hg Try.underlying39 rfl (by rw [En.c_size]; kernel_rfl)) hd hR
attribute [local go_sem ↓] load_pg store_pg load_en store_en alloc_en
attribute [local go_sem] one_int pc3 run_load_pg run_store_pg run_alloc_en run_load_en run_store_en midLoad_eq rowLoad_eq rowStore_eq blk_alloc_at blk_alloc_old blk_drew blk_drewN blk_set_far blk_set_far' blk_grow setRow_alloc_at setRow_alloc_old setRow_drew setRow_drewN En.c_size En.c_all all6
set_option maxHeartbeats 2000000 in
theorem entry_any (d : Int) (g o cap : Nat) (zs : List Int) (w : World) (hr : Reads w 1 (some ⟨g, o, none⟩) 10 (u8s zs)) (hz : B8s zs) (hc : 10 ≤ cap) :
    Calls Try.prog 36 #[.int .i64 d, .slice (some ⟨g, o, none⟩) 10 cap] w fun e w' => (enB d zs = true → e = .returned (.tuple #[(enV d zs).v, .bool true])) ∧ (enB d zs = false → e = .returned (.tuple #[En.z.v, .bool false])) ∧ Below w.heap.size w w' := by
  have hl : zs.length = 10 := by
    have := hr.1
    rw [u8s_len] at this
    omega
  have hB : ∀ i m, B8s ((zs.drop i).take m) := fun i m z hz' => hz z (List.mem_of_mem_drop (List.mem_of_mem_take hz'))
  have C0 := Lib.hid (fun X (hX : Below w.heap.size w X) c => get_any (some ⟨g, o, none⟩) 2 c _ X (reads_sub (hr.below hX (Nat.le_refl _)) (i := 0) (m := 2) (by omega)) (hB 0 2) (by omega))
  have C2 := Lib.hid (fun X (hX : Below w.heap.size w X) c => get_any (some ⟨g, o + 2, none⟩) 2 c _ X (reads_sub (hr.below hX (Nat.le_refl _)) (i := 2) (m := 2) (by omega)) (hB 2 2) (by omega))
  have C4 := Lib.hid (fun X (hX : Below w.heap.size w X) c => get_any (some ⟨g, o + 4, none⟩) 2 c _ X (reads_sub (hr.below hX (Nat.le_refl _)) (i := 4) (m := 2) (by omega)) (hB 4 2) (by omega))
  have C6 := Lib.hid (fun X (hX : Below w.heap.size w X) c => get_any (some ⟨g, o + 6, none⟩) 4 c _ X (reads_sub (hr.below hX (Nat.le_refl _)) (i := 6) (m := 4) (by omega)) (hB 6 4) (by omega))
  have CA := Lib.hid (fun X => at_any d (nm zs 0 2 : Nat) X)
  have E0 : Hid (enB d zs = atB d (nm zs 0 2 : Nat)) := Lib.hid rfl
  have l6 := nm_lt hz 6 4
  have EV : Hid (∀ x0 x1 x2, atV d (nm zs 0 2 : Nat) = [x0, x1, x2] → enV d zs = ⟨x0, x1, x2, (nm zs 2 2 : Nat), (nm zs 4 2 : Nat), (nm zs 6 4 : Nat)⟩) := Lib.hid (fun x0 x1 x2 h => by unfold enV enP; rw [h]; rfl)
  obtain ⟨x0, x1, x2, ex⟩ := len3 (at3 d (nm zs 0 2 : Nat))
  have EV2 := Lib.hid (EV.out _ _ _ ex)
  rw [ex] at CA
  clear EV ex hB hr hz hl
  change Hid (∀ X, Below w.heap.size w X → ∀ c : Nat, Calls Try.prog 54 #[.slice (some ⟨g, o, none⟩) (2 : Nat) c] X fun e w' => e = .returned (.int .i64 (nm zs 0 2 : Nat)) ∧ Below X.heap.size X w') at C0
  change Hid (∀ X, Below w.heap.size w X → ∀ c : Nat, Calls Try.prog 54 #[.slice (some ⟨g, o + 2, none⟩) (2 : Nat) c] X fun e w' => e = .returned (.int .i64 (nm zs 2 2 : Nat)) ∧ Below X.heap.size X w') at C2
  change Hid (∀ X, Below w.heap.size w X → ∀ c : Nat, Calls Try.prog 54 #[.slice (some ⟨g, o + 4, none⟩) (2 : Nat) c] X fun e w' => e = .returned (.int .i64 (nm zs 4 2 : Nat)) ∧ Below X.heap.size X w') at C4
  change Hid (∀ X, Below w.heap.size w X → ∀ c : Nat, Calls Try.prog 54 #[.slice (some ⟨g, o + 6, none⟩) (4 : Nat) c] X fun e w' => e = .returned (.int .i64 (nm zs 6 4 : Nat)) ∧ Below X.heap.size X w') at C6
  obtain ⟨n0, e0⟩ : ∃ n, nm zs 0 2 = n := ⟨_, rfl⟩
  obtain ⟨n2, e2⟩ : ∃ n, nm zs 2 2 = n := ⟨_, rfl⟩
  obtain ⟨n4, e4⟩ : ∃ n, nm zs 4 2 = n := ⟨_, rfl⟩
  obtain ⟨n6, e6⟩ : ∃ n, nm zs 6 4 = n := ⟨_, rfl⟩
  rw [e0] at C0 CA E0
  rw [e2] at C2 EV2
  rw [e4] at C4 EV2
  rw [e6] at C6 EV2 l6
  obtain ⟨q, eq⟩ : ∃ q, atB d (n0 : Nat) = q := ⟨_, rfl⟩
  rw [eq] at CA E0
  clear e0 e2 e4 e6 eq
  go_enter Try.func36, Try.ntmps36
  go_upto_region 2 with (first | (go_at_call 54; refine (C0.out _ (by repeat' (first | (with_reducible exact Below.refl _ _) | (with_reducible refine Rd.below_step ?_ (by assumption)) | (with_reducible refine Rd.below_alloc ?_ _) | (with_reducible refine Rd.below_drewN ?_ _) | (with_reducible refine Below.drew ?_) | (with_reducible refine Below.setCell ?_ ?_ _) | (with_reducible refine Rd.below_setRow ?_ ?_ _) | go_size | (simp only [World.size_alloc]; omega) | omega)) _).mono ?_; rintro e w1 ⟨rfl, hb1⟩) | (go_at_call 53; refine (CA.out _).mono ?_; rintro e w2 ⟨rfl, hb2⟩))
  have b1 : blk w1 w.heap.size = some (.cells En.z.c 39 (0, 0)) := (blk_below hb1 _ (by simp)).trans (blk_alloc_at _ _ _ rfl)
  have b2 : blk w2 w.heap.size = some (.cells En.z.c 39 (0, 0)) := (blk_below hb2 _ (blk_lt b1)).trans b1
  have l2 := blk_lt b2
  have L2 : Below w.heap.size w w2 := by repeat' (first | (with_reducible exact Below.refl _ _) | (with_reducible refine Rd.below_step ?_ (by assumption)) | (with_reducible refine Rd.below_alloc ?_ _) | (with_reducible refine Rd.below_drewN ?_ _) | (with_reducible refine Below.drew ?_) | (with_reducible refine Below.setCell ?_ ?_ _) | (with_reducible refine Rd.below_setRow ?_ ?_ _) | go_size | (simp only [World.size_alloc]; omega) | omega)
  clear b1 hb1 hb2
  refine Rd.name_world ?_
  intro w3 hw
  have b3 : blk w3 w.heap.size = some (.cells En.z.c 39 (0, 0)) := by rw [hw]; exact (blk_alloc_old _ _ _ l2).trans b2
  have p3 : blk w3 w2.heap.size = some (.cells #[.int .i64 x0, .int .i64 x1, .int .i64 x2] 25 (0, 0)) := by rw [hw]; exact blk_alloc_at _ _ _ rfl
  have L3 : Below w.heap.size w w3 := by
    rw [hw]
    repeat' (first | (with_reducible exact Below.refl _ _) | (with_reducible refine Rd.below_step ?_ (by assumption)) | (with_reducible refine Rd.below_alloc ?_ _) | (with_reducible refine Rd.below_drewN ?_ _) | (with_reducible refine Below.drew ?_) | (with_reducible refine Below.setCell ?_ ?_ _) | (with_reducible refine Rd.below_setRow ?_ ?_ _) | go_size | (simp only [World.size_alloc]; omega) | omega)
  have hne : w.heap.size ≠ w2.heap.size := by omega
  clear hw b2 L2 CA C0
  cases q
  case false =>
    go_wp2
    refine ret_en2 rfl w.heap.size En.z rfl ?_ rfl ⟨fun h => ?_, fun h => rfl, ?_⟩
    · exact blk_setRow_of b3 _
    · rw [E0.out] at h; cases h
    · repeat' (first | (with_reducible exact Below.refl _ _) | (with_reducible refine Rd.below_step ?_ (by assumption)) | (with_reducible refine Rd.below_alloc ?_ _) | (with_reducible refine Rd.below_drewN ?_ _) | (with_reducible refine Below.drew ?_) | (with_reducible refine Below.setCell ?_ ?_ _) | (with_reducible refine Rd.below_setRow ?_ ?_ _) | go_size | (simp only [World.size_alloc]; omega) | omega)
  case true =>
    have lp := blk_lt p3
    have lb := blk_lt b3
    have h6 : ((n6 : Nat) : Int) < 4294967296 := by omega
    have L4 : ∀ X, Below w3.heap.size w3 X → Below w.heap.size w X := fun X h => Rd.below_step L3 h
    go_upto_region 4 with (fail)
    (refine Reg.below_tail 12 (by kernel_rfl) (by kernel_rfl) ?_; simp only [List.take_succ_cons, List.take_zero, List.drop_succ_cons, List.drop_zero]; (repeat (go_big_quiet_step ((first | (with_reducible exact Calls.regrown_of (C2.out _ (L4 _ (below_regrown _ _ _)) _)) | (with_reducible exact Calls.regrown_of (C4.out _ (L4 _ (below_regrown _ _ _)) _)) | (with_reducible exact Calls.regrown_of (C6.out _ (L4 _ (below_regrown _ _ _)) _)))))); refine wpQuiet_nil ?_)
    intro w5 hU
    have KU := Rd.below_of_regrown hU
    have b5 : blk w5 w.heap.size = some (.cells En.z.c 39 (0, 0)) := (blk_below KU _ lb).trans b3
    have L5 : Below w.heap.size w w5 := L4 _ KU
    clear hU KU b3 p3 L3 L4
    go_wp2
    refine ret_en2 rfl w.heap.size ⟨x0, x1, x2, (n2 : Nat), (n4 : Nat), (n6 : Nat)⟩ rfl ?_ rfl ⟨fun h => ?_, fun h => ?_, ?_⟩
    · exact blk_setRow_of b5 _
    · rw [EV2.out]; rfl
    · rw [E0.out] at h; cases h
    · repeat' (first | (with_reducible exact Below.refl _ _) | (with_reducible refine Rd.below_step ?_ (by assumption)) | (with_reducible refine Rd.below_alloc ?_ _) | (with_reducible refine Rd.below_drewN ?_ _) | (with_reducible refine Below.drew ?_) | (with_reducible refine Below.setCell ?_ ?_ _) | (with_reducible refine Rd.below_setRow ?_ ?_ _) | go_size | (simp only [World.size_alloc]; omega) | omega)
end Go.Proofs.Ytpjbacpchmemeaa.DiN

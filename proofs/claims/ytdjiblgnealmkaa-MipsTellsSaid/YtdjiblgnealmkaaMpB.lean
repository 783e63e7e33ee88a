/-
  At.
-/
import Derived.Test.YtdjiblgnealmkaaMpA
namespace Go.Proofs.Ytdjiblgnealmkaa.MpB
open Go.RowKit Rd Go.Proofs.Ytdjiblgnealmkaa.Row Mid DkM HueA MpM MpA
set_option linter.unusedVariables false
set_option linter.unusedSimpArgs false
set_option maxRecDepth 10000
variable {X Y : World} {b D : Nat} {wr : Bool} {ps : List Px}
theorem ld_regrown {W : World} {c off n : Nat} {L : List Px} (h : Reads W 4 (some ⟨c, off, none⟩) n (cp L)) {i : Nat} (hi : i < L.length) (d : Nat) (os : Array Obj) :
    (loadRow 39 (.pointer (some ⟨c, off + i * 4, none⟩))).run Try.prog (Sort.grow (redrawn W d) os) = .ok (at_ L i).v (Sort.grow (redrawn W d) os) :=
  ld_px (h.below (below_regrown W d os) (Nat.le_refl _)) hi
theorem ld_regrown0 {W : World} {c n : Nat} {L : List Px} (h : Reads W 4 (some ⟨c, 0, none⟩) n (cp L)) {i : Nat} (hi : i < L.length) (d : Nat) (os : Array Obj) :
    (loadRow 39 (.pointer (some ⟨c, i * 4, none⟩))).run Try.prog (Sort.grow (redrawn W d) os) = .ok (at_ L i).v (Sort.grow (redrawn W d) os) := by
  have := ld_regrown h hi d os
  rwa [Nat.zero_add] at this
theorem reg_of_eq {f : FuncId} {args : Array Value} {w : World} {d : Nat} {os : Array Obj} {v : Value} (h : Calls Try.prog f args (Sort.grow (redrawn w d) os) fun e w' => e = .returned v ∧ Sort.grow (redrawn w d) os = w') :
    Calls Try.prog f args (Sort.grow (redrawn w d) os) fun e w'' => e = .returned v ∧ ∃ p : Regrown, w'' = Sort.grow (redrawn w p.d) p.os :=
  Calls.regrown_of (h.mono fun e w' ⟨he, hw⟩ => ⟨he, by rw [← hw]; exact Below.refl _ _⟩)
attribute [local go_sem ↓] load_col store_col alloc_col
attribute [local go_sem] run_alloc_col run_store_col rowStore_eq blk_alloc_at blk_alloc_old blk_drew blk_drewN blk_set_far blk_set_far' blk_grow setRow_alloc_at setRow_alloc_old setRow_drew setRow_drewN Px.c_size Px.c_all
theorem c_all4 (p : Px) : p.c.all (fun x => x.oneCell') 0 4 = true := by simp [Px.c, Value.oneCell']
attribute [local go_sem] c_all4
theorem info_col : (Try.prog.info? 39).map (·.size) = some 4 := by kernel_rfl
theorem ret_px {fn : Func} {R : Ending → World → Prop} {a : Act} {W : World} {p : Tmp} (h : fn.results = #[.cell p 39]) (g : Nat) (c : Px) (hp : a.tmps.getD p undef = .pointer (some ⟨g, 0, none⟩))
    (hg : blk W g = some (.cells c.c 39 (0, 0))) (hd : a.defers = []) (hR : R (.returned c.v) W) : bodyPost Try.prog fn R .ret a W :=
  bodyPost_ret (results_row1 h _ _ g _ _ _ _ hp hg Try.underlying39 rfl (by rw [info_col]; rfl)) hd hR
set_option maxHeartbeats 8000000 in
theorem At_any (l x y : Int) (w : World) (h : Pyr w b D wr ps) (hx : I64 x) (hy : I64 y) :
    Calls Try.prog 17 #[.pointer (some ⟨b, 0, none⟩), .int .i64 l, .int .i64 x, .int .i64 y] w fun e w' => e = .returned (atP ps D wr l x y).v ∧ Below w.heap.size w w' := by
  have hblt := h.lt
  by_cases hl : 0 ≤ l ∧ l ≤ D
  · obtain ⟨k, rfl⟩ : ∃ k : Nat, l = k := ⟨l.toNat, by omega⟩
    have hR : atP ps D wr k x y = at_ (lev ps D k) ((sd (D - k) * along wr (sd (D - k)) y + along wr (sd (D - k)) x).toNat) := by unfold atP; rw [if_pos hl, Int.toNat_natCast]
    have hlD : k ≤ D := by omega
    have hd := h.d3
    have CH := Lib.hid fun X (hX : Pyr X b D wr ps) => (decide_eq_true hl ▸ has_any (k : Int) X hX : Calls Try.prog _ _ X fun e w' => e = .returned (.bool true) ∧ X = w')
    obtain ⟨n, hn⟩ : ∃ n, n = sd (D - k) := ⟨_, rfl⟩
    have CS := Lib.hid fun X (hX : Pyr X b D wr ps) => (szE_in hlD ▸ Size_any (k : Int) X hX : Calls Try.prog _ _ X fun e w' => e = .returned (.int .i64 (sd (D - k))) ∧ X = w')
    have CA := Lib.hid fun z X (hX : Pyr X b D wr ps) (hz : I64 z) => along_any k z X hX hlD hz
    rw [← hn] at CS CA hR
    have hn0 : 0 < n := by rw [hn]; have := sd_pos (D - k); omega
    obtain ⟨ax, hax⟩ : ∃ ax : Nat, along wr n x = ax := ⟨(along wr n x).toNat, by have := along_bd hn0 wr x; omega⟩
    obtain ⟨ay, hay⟩ : ∃ ay : Nat, along wr n y = ay := ⟨(along wr n y).toNat, by have := along_bd hn0 wr y; omega⟩
    have bx := along_bd hn0 wr x
    have by' := along_bd hn0 wr y
    rw [hax] at bx
    rw [hay] at by'
    rw [hax, hay, show ((n : Int) * ay + ax) = ((n * ay + ax : Nat) : Int) by push_cast; rfl, Int.toNat_natCast] at hR
    rw [hR]
    have hn1 : 4 ≤ n := by rw [hn]; exact sd_pos _
    have hn2 : n ≤ 32 := by rw [hn]; exact sd_le (by omega)
    have hax' : ax < n := by omega
    have hay' : ay < n := by omega
    have hin : n * ay + ax < n * n := by
      have h9 : n * (ay + 1) ≤ n * n := Nat.mul_le_mul_left n (by omega)
      rw [Nat.mul_add] at h9
      omega
    have hsq := sq_le hn2
    have hLv : ∃ c cap, (w.alloc (.cells Px.z.c 39)).cell? ⟨b, 2, none⟩ = none → True := ⟨0, 0, fun _ => trivial⟩
    obtain ⟨p, hp⟩ : ∃ p, n * ay = p := ⟨_, rfl⟩
    have hp' : (n : Int) * (ay : Int) = (p : Int) := by exact_mod_cast hp
    rw [hp] at hin ⊢
    clear hLv hR bx by' hl hp
    go_enter Try.func17, Try.ntmps17
    go_wp2_with fail
    refine (CH.out _ (h.below (by repeat' (first | (with_reducible exact Below.refl _ _) | (with_reducible refine Rd.below_step ?_ (by assumption)) | (with_reducible refine Rd.below_alloc ?_ _) | (with_reducible refine Rd.below_drewN ?_ _) | (with_reducible refine Below.drew ?_) | (with_reducible refine Below.setCell ?_ ?_ _) | (with_reducible refine Rd.below_setRow ?_ ?_ _) | go_size | (simp only [World.size_alloc]; omega) | omega)))).mono ?_
    rintro e _ ⟨rfl, rfl⟩
    go_upto_region 3 with (fail)
    refine Rd.name_world ?_
    intro W hW
    have hP : Pyr W b D wr ps := by rw [hW]; exact h.below (by repeat' (first | (with_reducible exact Below.refl _ _) | (with_reducible refine Rd.below_step ?_ (by assumption)) | (with_reducible refine Rd.below_alloc ?_ _) | (with_reducible refine Rd.below_drewN ?_ _) | (with_reducible refine Below.drew ?_) | (with_reducible refine Below.setCell ?_ ?_ _) | (with_reducible refine Rd.below_setRow ?_ ?_ _) | go_size | (simp only [World.size_alloc]; omega) | omega))
    have L0 : Below w.heap.size w W := by rw [hW]; repeat' (first | (with_reducible exact Below.refl _ _) | (with_reducible refine Rd.below_step ?_ (by assumption)) | (with_reducible refine Rd.below_alloc ?_ _) | (with_reducible refine Rd.below_drewN ?_ _) | (with_reducible refine Below.drew ?_) | (with_reducible refine Below.setCell ?_ ?_ _) | (with_reducible refine Rd.below_setRow ?_ ?_ _) | go_size | (simp only [World.size_alloc]; omega) | omega)
    have hB : blk W w.heap.size = some (.cells Px.z.c 39 (0, 0)) := by rw [hW]; first | exact blk_alloc_at _ _ _ rfl | (simp only [blk_drew, blk_drewN]; exact blk_alloc_at _ _ _ rfl)
    clear hW
    obtain ⟨g, cap, c2, hg, hc1, hc2, hL⟩ := hP.c2
    obtain ⟨c, cap', d0, hc, hcc, hcm, hr⟩ := hL k (by omega)
    rw [← hn] at d0 hr hcc
    rw [Int.toNat_natCast] at d0
    have g2 := Go.cell_regrown c2
    have g3 := Go.cell_regrown d0
    have g4 := ld_regrown0 hr (i := p + ax) (by rw [lev_len h.len, ← hn]; exact hin)
    have hnH := Lib.hid hn
    obtain ⟨q, hq⟩ : ∃ q, n * n = q := ⟨_, rfl⟩
    rw [hq] at hin hsq d0 hr g3 hcc
    have hin' : (p : Int) + ax < (q : Int) := by exact_mod_cast hin
    clear hn hq
    have hlD' : (k : Int) < (D : Int) + 1 := by omega
    (refine Reg.below_tail 22 (by kernel_rfl) (by kernel_rfl) ?_; simp only [List.take_succ_cons, List.take_zero, List.drop_succ_cons, List.drop_zero]; (repeat (go_big_quiet_step ((first | (exact reg_of_eq (CS.out _ (hP.regrown _ _))) | (refine reg_of_eq (v := .int .i64 (ax : Int)) ?_; rw [← hax]; with_reducible exact CA.out _ _ (hP.regrown _ _) hx) | (refine reg_of_eq (v := .int .i64 (ay : Int)) ?_; rw [← hay]; with_reducible exact CA.out _ _ (hP.regrown _ _) hy))))); refine wpQuiet_nil ?_)
    intro w3 hU
    have KU := Rd.below_of_regrown hU
    have hB3 := (blk_below KU _ (blk_lt hB)).trans hB
    have L3 : Below w.heap.size w w3 := by repeat' (first | (with_reducible exact Below.refl _ _) | (with_reducible refine Rd.below_step ?_ (by assumption)) | (with_reducible refine Rd.below_alloc ?_ _) | (with_reducible refine Rd.below_drewN ?_ _) | (with_reducible refine Below.drew ?_) | (with_reducible refine Below.setCell ?_ ?_ _) | (with_reducible refine Rd.below_setRow ?_ ?_ _) | go_size | (simp only [World.size_alloc]; omega) | omega)
    have s3 := L3.size
    clear hU g2 g3 g4
    go_wp2
    exact ret_px rfl w.heap.size (at_ (lev ps D k) (p + ax)) rfl (blk_setRow_of hB3 _) rfl ⟨rfl, by repeat' (first | (with_reducible exact Below.refl _ _) | (with_reducible refine Rd.below_step ?_ (by assumption)) | (with_reducible refine Rd.below_alloc ?_ _) | (with_reducible refine Rd.below_drewN ?_ _) | (with_reducible refine Below.drew ?_) | (with_reducible refine Below.setCell ?_ ?_ _) | (with_reducible refine Rd.below_setRow ?_ ?_ _) | go_size | (simp only [World.size_alloc]; omega) | omega)⟩
  · have CH := Lib.hid fun X (hX : Pyr X b D wr ps) => (decide_eq_false hl ▸ has_any l X hX : Calls Try.prog _ _ X fun e w' => e = .returned (.bool false) ∧ X = w')
    have hR : atP ps D wr l x y = Px.z := by unfold atP; rw [if_neg hl]
    rw [hR]
    clear hR hl
    go_enter Try.func17, Try.ntmps17
    go_wp2_with fail
    refine (CH.out _ (h.below (by repeat' (first | (with_reducible exact Below.refl _ _) | (with_reducible refine Rd.below_step ?_ (by assumption)) | (with_reducible refine Rd.below_alloc ?_ _) | (with_reducible refine Rd.below_drewN ?_ _) | (with_reducible refine Below.drew ?_) | (with_reducible refine Below.setCell ?_ ?_ _) | (with_reducible refine Rd.below_setRow ?_ ?_ _) | go_size | (simp only [World.size_alloc]; omega) | omega)))).mono ?_
    rintro e _ ⟨rfl, rfl⟩
    go_wp2
    exact ret_px rfl w.heap.size Px.z rfl (blk_alloc_at _ _ _ rfl) rfl ⟨rfl, by repeat' (first | (with_reducible exact Below.refl _ _) | (with_reducible refine Rd.below_step ?_ (by assumption)) | (with_reducible refine Rd.below_alloc ?_ _) | (with_reducible refine Rd.below_drewN ?_ _) | (with_reducible refine Below.drew ?_) | (with_reducible refine Below.setCell ?_ ?_ _) | (with_reducible refine Rd.below_setRow ?_ ?_ _) | go_size | (simp only [World.size_alloc]; omega) | omega)⟩
end Go.Proofs.Ytdjiblgnealmkaa.MpB

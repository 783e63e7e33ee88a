/-
  The document's ReadDir: the mathematics.
  The document's ReadDir: the walk.
-/
import Derived.Test.YtpjbacpchmemeaaDiZ
import Derived.Test.YtpjbacpchmemeaaDiRb
import Derived.Test.YtpjbacpchmemeaaRefA
namespace Go.Proofs.Ytpjbacpchmemeaa.DiRg
open Go.RowKit Go.Shelf Rd Go.Proofs.Ytpjbacpchmemeaa.Row Mid PgM PgN DiM DiA DiC DiD DiE DiF DiJ DiN DiQ DiV DiW DiX DiZ0 OctA OctB
open Go.Proofs.Ytpjbacpchmemeaa.PgF (atV atB)
open Go.Proofs.Ytpjbacpchmemeaa.PgC (len3)
open Go.Proofs.Ytpjbacpchmemeaa.DiM (at_ at_get ce ce_len ce_app ce_one ce_ones ce_at)
set_option linter.unusedVariables false
set_option linter.unusedSimpArgs false
theorem byts_get2 {a b : Int} (ha : 0 ≤ a ∧ a ≤ 255) (hb : 0 ≤ b ∧ b ≤ 255) : byts ((getN [a, b] : Nat) : Int) 2 = [a, b] := by
  simp only [byts, getN, List.foldl_cons, List.foldl_nil, byt, Nat.zero_mul, Nat.zero_add]
  simp
  omega
theorem byts_get4 {a b c d : Int} (ha : 0 ≤ a ∧ a ≤ 255) (hb : 0 ≤ b ∧ b ≤ 255) (hc : 0 ≤ c ∧ c ≤ 255) (hd : 0 ≤ d ∧ d ≤ 255) : byts ((getN [a, b, c, d] : Nat) : Int) 4 = [a, b, c, d] := by
  simp only [byts, getN, List.foldl_cons, List.foldl_nil, byt, Nat.zero_mul, Nat.zero_add]
  simp
  omega
/-- the key of a piece -/
def kyN (zs : List Int) (i : Nat) : Nat := nm (pc zs i) 0 2
theorem en_key {d : Int} {zs : List Int} (h : enB d zs = true) : (enV d zs).K d = (nm zs 0 2 : Nat) ∧ mayB d (enV d zs) = mayB d (enV d zs) := by
  refine ⟨?_, rfl⟩
  have hc := of_decide_eq_true (show decide (0 ≤ ((nm zs 0 2 : Nat) : Int) ∧ ((nm zs 0 2 : Nat) : Int) < countV d) = true from h)
  have hl := all_len d
  have hd : depthB d = true := by
    cases e : depthB d with
    | true => rfl
    | false => have := count_no e; omega
  have hdy := depth_yes hd
  obtain ⟨n, rfl⟩ : ∃ n : Nat, d = n := ⟨d.toNat, by omega⟩
  obtain ⟨x0, x1, x2, e1, e2⟩ := page_key (n := n) (i := nm zs 0 2) (by omega) (by omega)
  have hp : enP n zs = [x0, x1, x2] := by
    unfold enP PgF.atV
    rw [if_pos hc, Int.toNat_natCast, e1]
  unfold En.K enV
  rw [hp]
  exact e2
theorem en_page {d : Int} {zs : List Int} {n : Nat} (hn : d = n) (h : nm zs 0 2 < (allV d).length) : ∃ x0 x1 x2, PgM.at_ (allV d) (nm zs 0 2) = [x0, x1, x2] ∧ enB d zs = true ∧ enV d zs = ⟨x0, x1, x2, (nm zs 2 2 : Nat), (nm zs 4 2 : Nat), (nm zs 6 4 : Nat)⟩ := by
  have hl := all_len d
  have hc : 0 ≤ ((nm zs 0 2 : Nat) : Int) ∧ ((nm zs 0 2 : Nat) : Int) < countV d := by omega
  obtain ⟨x0, x1, x2, ex⟩ := len3 (three_all d (PgM.at_ (allV d) (nm zs 0 2)) (by rw [PgM.at_eq h]; exact List.getElem_mem _))
  refine ⟨x0, x1, x2, ex, decide_eq_true hc, ?_⟩
  have hp : enP d zs = [x0, x1, x2] := by
    unfold enP PgF.atV
    rw [if_pos hc, Int.toNat_natCast, ex]
  unfold enV
  rw [hp]
  rfl
theorem en_no {d : Int} {zs : List Int} (h : ¬ nm zs 0 2 < (allV d).length) : enB d zs = false := by
  have hl := all_len d
  exact decide_eq_false (fun hc => h (by omega))
/-- an entry's bytes are the piece -/
theorem en_bytes {d : Int} {zs : List Int} (hl : zs.length = 10) (hz : B8s zs) (h : enB d zs = true) : entB d (enV d zs) = zs := by
  match zs, hl, hz with
  | [z0, z1, z2, z3, z4, z5, z6, z7, z8, z9], _, hz =>
    unfold entB
    rw [(en_key h).1]
    show byts ((getN [z0, z1] : Nat) : Int) 2 ++ byts ((getN [z2, z3] : Nat) : Int) 2 ++ byts ((getN [z4, z5] : Nat) : Int) 2 ++ byts ((getN [z6, z7, z8, z9] : Nat) : Int) 4 = _
    rw [byts_get2 (hz z0 (by simp)) (hz z1 (by simp)), byts_get2 (hz z2 (by simp)) (hz z3 (by simp)), byts_get2 (hz z4 (by simp)) (hz z5 (by simp)), byts_get4 (hz z6 (by simp)) (hz z7 (by simp)) (hz z8 (by simp)) (hz z9 (by simp))]
    rfl
theorem rdL_bytes {d : Int} {zs : List Int} (hz : B8s zs) : ∀ k, 10 * k ≤ zs.length → (∀ j, j < k → enB d (pc zs j) = true) → dirB d (rdL d zs k) = zs.take (10 * k)
  | 0, _, _ => by simp [rdL, dirB]
  | k + 1, hk, h => by
    rw [rdL_succ, dirB_app, dirB_one, rdL_bytes hz k (by omega) (fun j hj => h j (by omega)), en_bytes (by unfold pc; rw [List.length_take, List.length_drop]; omega) (pc_bd hz k) (h k (by omega))]
    unfold pc
    rw [show 10 * (k + 1) = 10 * k + 10 by omega, List.take_add]
/-- keys that come in order -/
theorem read_yes {d : Int} {zs : List Int} {n : Nat} (hz : B8s zs) (hl : zs.length = 10 * n) (hd : depthB d = true) (he : ∀ j, j < n → enB d (pc zs j) = true) (hi : ∀ i j, i < j → j < n → kyN zs i < kyN zs j) : decV d zs = newV d (rdL d zs n) := by
  have hrd : rdO d zs = some (rdL d zs n) := by
    have := rd_yes (d := d) (zs := zs) (fun k hk => he k (by omega))
    rwa [show zs.length / 10 = n by omega] at this
  cases e : newV d (rdL d zs n) with
  | none => exact dec_new hrd e
  | some s =>
    have hs := new_some e
    have hby : byK d (rdL d zs n) := by
      refine List.pairwise_iff_getElem.2 fun i j h1 h2 hij => ?_
      rw [rdL_len] at h1 h2
      have ki := (en_key (he i h1)).1
      have kj := (en_key (he j h2)).1
      have := hi i j hij h2
      simp only [rdL, List.getElem_map, List.getElem_range]
      unfold kyN at this
      omega
    have hsl : s = rdL d zs n := by rw [hs.2]; exact (srt_uniq hs.1 (List.Perm.refl _) hby).symm
    rw [hsl]
    exact dec_yes hd (by omega) hrd (by rw [e, hsl]) (by rw [rdL_bytes hz n (by omega) he, ← hl, List.take_length])
/-- keys that don't -/
theorem read_no {d : Int} {zs : List Int} {n i : Nat} (hz : B8s zs) (hl : zs.length = 10 * n) (hi : i + 1 < n) (h : kyN zs (i + 1) ≤ kyN zs i) : decV d zs = none := by
  cases e : decV d zs with
  | none => rfl
  | some s =>
    exfalso
    have hB := (dec_is e hz).1
    unfold decV at e
    split at e
    · split at e
      · cases e
      · rename_i l hlr
        split at e
        · cases e
        · rename_i s' hs
          split at e
          · rename_i hdir
            injection e with e
            subst e
            have hg := new_some hs
            have hgp : good d s' := good_perm (hg.2 ▸ (srt_perm d l).symm) hg.1
            have h1 := rd_back (d := d) hgp.2.1 hB
            rw [hdir] at h1
            have hby : byK d s' := by rw [hg.2]; exact srt_by hg.1
            unfold rdO at h1
            split at h1
            · rename_i hall
              injection h1 with h1
              rw [show zs.length / 10 = n by omega, pcs_eq] at hall h1
              have ha : ∀ j, j < n → enB d (pc zs j) = true := fun j hj => List.all_eq_true.1 hall _ (List.mem_map.2 ⟨j, by simpa using hj, rfl⟩)
              have h2 : s' = rdL d zs n := by rw [← h1, List.map_map]; rfl
              rw [h2] at hby
              have h3 := List.pairwise_iff_getElem.1 hby i (i + 1) (by rw [rdL_len]; omega) (by rw [rdL_len]; omega) (by omega)
              simp only [rdL, List.getElem_map, List.getElem_range] at h3
              have ki := (en_key (ha i (by omega))).1
              have kj := (en_key (ha (i + 1) hi)).1
              unfold kyN at h
              omega
            · cases h1
          · cases e
    · cases e
end Go.Proofs.Ytpjbacpchmemeaa.DiRg

namespace Go.Proofs.Ytpjbacpchmemeaa.DiRh
open Go.RowKit Go.Shelf Rd Go.Proofs.Ytpjbacpchmemeaa.Row Mid PgM PgA PgB PgC DiM DiA DiC DiD DiE DiF DiJ DiK DiL DiN DiQ DiV DiW DiX DiZ0 DiRb DiRg OctA OctB
open Go.Proofs.Ytpjbacpchmemeaa.DiM (at_ at_get ce ce_len ce_app ce_one ce_ones ce_at)
set_option linter.unusedVariables false
set_option linter.unusedSimpArgs false
set_option maxRecDepth 100000
attribute [local go_sem ↓] load_pg store_pg load_en store_en alloc_en eq_pg3
attribute [local go_sem] one_int pc3 piece_en piece_p3 DiI.fold_en run_store_pg run_alloc_en run_store_en rowStore_eq blk_alloc_at blk_alloc_old blk_drew blk_drewN blk_set_far blk_set_far' blk_grow setRow_alloc_at setRow_alloc_old setRow_drew setRow_drewN En.c_size En.c_all all6
theorem ld_pgs9 {X : World} {b o : Nat} {row : PgM.Row} (h : PgAt X (some ⟨b, o, none⟩) row) {i : Nat} (hi : i < row.length) {x y z : Int} (e : PgM.at_ row i = [x, y, z]) :
    (loadRow 25 (.pointer (some ⟨b, o + i * 3, none⟩))).run Try.prog X = .ok (pg x y z) X := by
  rcases h.2 with h2 | ⟨b', o', e', _, hc⟩
  · rw [h2] at hi
    cases hi
  · cases e'
    exact run_loadAt_mid (P := Try.prog) X b (o + i * 3) 25 [.int .i64 x, .int .i64 y, .int .i64 z] _ (fun j v hj => by
      have hj4 : j < 3 := (List.getElem?_eq_some_iff.1 hj).1
      rw [hc i hi j hj4, e]
      rcases (show j = 0 ∨ j = 1 ∨ j = 2 by omega) with rfl | rfl | rfl <;> exact hj) Try.underlying25 rfl (by kernel_rfl)
set_option maxHeartbeats 8000000 in
theorem rread_any (d : Int) (ad : Option Addr) (zs : List Int) (cap : Nat) (w : World) (hR : Reads w 1 ad zs.length (u8s zs)) (hz : B8s zs) (hn : zs.length ≤ 1000) (hc : zs.length ≤ cap) :
    Calls Try.prog 11 #[.int .i64 d, .slice ad zs.length cap] w fun e w' => (∃ v, e = .returned v ∧ RfO w' v d (decV d zs)) ∧ Below w.heap.size w w' := by
  have HR := Lib.hid hR
  have HZ := Lib.hid hz
  obtain ⟨res, er⟩ : ∃ o, decV d zs = o := ⟨_, rfl⟩
  rw [er]
  have ER := Lib.hid er
  obtain ⟨n, en⟩ : ∃ n, zs.length = n := ⟨_, rfl⟩
  rw [en] at hn hc HR ⊢
  have EN := Lib.hid en
  clear hR hz er en
  have hal := all_len d
  go_enter Try.func11, Try.ntmps11
  go_wp2_with fail
  refine (rpages_any d _).mono ?_
  rintro e w1 ⟨⟨ap, cp, rfl, hcp, -, hpg⟩, hb1⟩
  have HP := Lib.hid hpg
  clear hpg
  cases qd : depthB d
  case false =>
    have h0 : (allV d).length = 0 := by have := count_no qd; omega
    have E := Lib.hid (ER.out.symm.trans (dec_depth zs qd))
    have e0 : (((allV d).length : Int) == 0) = true := by rw [h0]; rfl
    clear hal
    go_wp2
    go_ret
    exact ⟨⟨_, rfl, by rw [E.out]; rfl⟩, hb1⟩
  have hpos := count_yes qd
  have hdy := depth_yes qd
  have QD := Lib.hid qd
  obtain ⟨np, enp⟩ : ∃ n, (allV d).length = n := ⟨_, rfl⟩
  have hnp : 1 ≤ np := by omega
  have hnp2 : np ≤ 85 := by
    obtain ⟨m, rfl⟩ : ∃ m : Nat, d = m := ⟨d.toNat, by omega⟩
    rw [← enp]
    rcases PgN.n4 (n := m) (by omega) with rfl | rfl | rfl | rfl <;> decide +kernel
  rw [enp] at hcp ⊢
  have ENP := Lib.hid enp
  clear enp hal hpos qd
  have e0 : ((np : Int) == 0) = false := by rw [beq_eq_false_iff_ne]; omega
  have hrem : (n : Int).tmod 10 = ((n % 10 : Nat) : Int) := by rw [Int.tmod_eq_emod_of_nonneg (by omega)]; omega
  obtain ⟨q, hq⟩ : ∃ q, n % 10 = q := ⟨_, rfl⟩
  rw [hq] at hrem
  by_cases h0 : q = 0
  case neg =>
    have hq0 : ((q : Int) == 0) = false := by rw [beq_eq_false_iff_ne]; omega
    have E := Lib.hid (ER.out.symm.trans (dec_mod d (zs := zs) (by rw [EN.out, hq]; exact h0)))
    clear hq
    go_wp2
    go_ret
    exact ⟨⟨_, rfl, by rw [E.out]; rfl⟩, hb1⟩
  subst h0
  obtain ⟨m, hm⟩ : ∃ m, n = 10 * m := ⟨n / 10, by omega⟩
  have HM : Hid (n = 10 * m ∧ n / 10 = m ∧ m ≤ 100) := Lib.hid ⟨hm, by omega, by omega⟩
  clear hm hq
  obtain ⟨bp, op, rfl⟩ : ∃ b o, ap = some ⟨b, o, none⟩ := by
    rcases HP.out.2 with h | ⟨b, o, e, _⟩
    · have := ENP.out
      rw [h] at this
      simp at this
      omega
    · exact ⟨b, o, e⟩
  go_wp2_with fail
  go_loopw [6, 7, 8] (fun v lv i W => ∃ k : Nat, k ≤ m ∧ i = .int .i64 (10 * (k : Int)) ∧ (∃ la : Int, lv = .int .i64 la ∧ -1 ≤ la ∧ la ≤ 100 ∧ Hid ((k = 0 → la = -1) ∧ (0 < k → la = (kyN zs (k - 1) : Nat)))) ∧ Hid (∀ j, j < k → enB d (pc zs j) = true) ∧ Hid (∀ i j, i < j → j < k → kyN zs i < kyN zs j) ∧ Hid (Rown W w1.heap.size v k (rdL d zs k)) ∧ Below w1.heap.size w1 W) (fun _ _ i _ => n - (intOf i).toNat)
  case atStart => exact ⟨0, Nat.zero_le _, rfl, ⟨-1, rfl, by omega, by omega, Lib.hid ⟨fun _ => rfl, fun h => absurd h (Nat.lt_irrefl _)⟩⟩, Lib.hid (fun j hj => absurd hj (Nat.not_lt_zero _)), Lib.hid (fun i j _ hj => absurd hj (Nat.not_lt_zero _)), Lib.hid (World.ownsRow_nil _ _ _ _), Below.refl _ _⟩
  case round =>
    obtain ⟨k, hk, rfl, ⟨la, rfl, hla1, hla2, HLA⟩, HK, HI, HW, hb⟩ := hrel
    rename World => W
    rename Value => v
    have LW : Below w.heap.size w W := hb1.trans (hb.mono hb1.size)
    have sW := hb.size
    obtain ⟨av, cv, rfl, hcv⟩ := Rd.owns_val HW.out
    clear hcv
    by_cases hlt : k < m
    · have hlt' : 10 * (k : Int) < (n : Int) := by have := HM.out.1; omega
      have hcap : 10 * k + 10 ≤ n := by have := HM.out.1; omega
      obtain ⟨g, o, rfl⟩ : ∃ g o, ad = some ⟨g, o, none⟩ := by
        rcases HR.out.2 with h | ⟨g, o, h, _⟩
        · omega
        · exact ⟨g, o, h⟩
      have hpl : (pc zs k).length = 10 := by unfold pc; rw [List.length_take, List.length_drop, EN.out]; omega
      have RP := Lib.hid (reads_sub (HR.out.below LW (Nat.le_refl _)) (i := 10 * k) (m := 10) (by rw [EN.out]; omega))
      have HPB := Lib.hid (pc_bd HZ.out k)
      have C0 := Lib.hid (fun c X (hX : Below w.heap.size w X) => RefA.num_any (some ⟨g, o + 10 * k + 0, none⟩) 2 c _ X (reads_sub (reads_sub (HR.out.below hX (Nat.le_refl _)) (i := 10 * k) (m := 10) (by rw [EN.out]; omega)) (i := 0) (m := 2) (by show 0 + 2 ≤ (pc zs k).length; omega)) (fun z hz => HPB.out z (List.mem_of_mem_drop (List.mem_of_mem_take hz))) (by omega))
      change Hid (∀ (c : Nat) X, Below w.heap.size w X → Calls Try.prog 38 #[.slice (some ⟨g, o + 10 * k, none⟩) (2 : Nat) c] X fun e w' => e = .returned (.int .i64 ((kyN zs k : Nat) : Int)) ∧ Below X.heap.size X w') at C0
      obtain ⟨ky, eky⟩ : ∃ z, kyN zs k = z := ⟨_, rfl⟩
      rw [eky] at C0
      have EKY := Lib.hid eky
      have hkb : ky < 65536 := by have := nm_lt (pc_bd HZ.out k) 0 2; rw [← eky]; exact this
      clear eky
      by_cases h1 : np ≤ ky
      · have h1i : (np : Int) ≤ (ky : Int) := by omega
        have E := Lib.hid (ER.out.symm.trans (dec_rd (d := d) (rd_no (k := k) (by rw [EN.out, HM.out.2.1]; exact hlt) (en_no (by rw [ENP.out]; have := EKY.out; unfold kyN at this; omega)))))
        go_wp2_with (go_at_call 38; refine (C0.out _ _ LW).mono ?_; rintro e w3 ⟨rfl, hb3⟩)
        go_ret
        exact ⟨⟨_, rfl, by rw [E.out]; rfl⟩, Rd.below_step LW hb3⟩
      have h1i : ¬ (np : Int) ≤ (ky : Int) := by omega
      by_cases h2 : (ky : Int) ≤ la
      · have hk0 : 0 < k := by
          rcases Nat.eq_zero_or_pos k with h | h
          · have := HLA.out.1 h; omega
          · exact h
        have hla := HLA.out.2 hk0
        have E := Lib.hid (ER.out.symm.trans (read_no (d := d) (n := m) (i := k - 1) HZ.out (by rw [EN.out, HM.out.1]) (by omega) (by rw [show k - 1 + 1 = k by omega, EKY.out]; omega)))
        clear hla
        go_wp2_with (go_at_call 38; refine (C0.out _ _ LW).mono ?_; rintro e w3 ⟨rfl, hb3⟩)
        go_ret
        exact ⟨⟨_, rfl, by rw [E.out]; rfl⟩, Rd.below_step LW hb3⟩
      have C2 := Lib.hid (fun c X (hX : Below w.heap.size w X) => RefA.num_any (some ⟨g, o + 10 * k + 2, none⟩) 2 c _ X (reads_sub (reads_sub (HR.out.below hX (Nat.le_refl _)) (i := 10 * k) (m := 10) (by rw [EN.out]; omega)) (i := 2) (m := 2) (by show 2 + 2 ≤ (pc zs k).length; omega)) (fun z hz => HPB.out z (List.mem_of_mem_drop (List.mem_of_mem_take hz))) (by omega))
      have C4 := Lib.hid (fun c X (hX : Below w.heap.size w X) => RefA.num_any (some ⟨g, o + 10 * k + 4, none⟩) 2 c _ X (reads_sub (reads_sub (HR.out.below hX (Nat.le_refl _)) (i := 10 * k) (m := 10) (by rw [EN.out]; omega)) (i := 4) (m := 2) (by show 4 + 2 ≤ (pc zs k).length; omega)) (fun z hz => HPB.out z (List.mem_of_mem_drop (List.mem_of_mem_take hz))) (by omega))
      have C6 := Lib.hid (fun c X (hX : Below w.heap.size w X) => RefA.num_any (some ⟨g, o + 10 * k + 6, none⟩) 4 c _ X (reads_sub (reads_sub (HR.out.below hX (Nat.le_refl _)) (i := 10 * k) (m := 10) (by rw [EN.out]; omega)) (i := 6) (m := 4) (by show 6 + 4 ≤ (pc zs k).length; omega)) (fun z hz => HPB.out z (List.mem_of_mem_drop (List.mem_of_mem_take hz))) (by omega))
      obtain ⟨dn, hdn⟩ : ∃ dn : Nat, d = dn := ⟨d.toNat, by omega⟩
      obtain ⟨x0, x1, x2, ex, heb, hev⟩ := en_page (zs := pc zs k) hdn (by rw [ENP.out]; have := EKY.out; unfold kyN at this; omega)
      have l6 := nm_lt (pc_bd HZ.out k) 6 4
      change Hid (∀ (c : Nat) X, Below w.heap.size w X → Calls Try.prog 38 #[.slice (some ⟨g, o + 10 * k + 2, none⟩) (2 : Nat) c] X fun e w' => e = .returned (.int .i64 ((nm (pc zs k) 2 2 : Nat) : Int)) ∧ Below X.heap.size X w') at C2
      change Hid (∀ (c : Nat) X, Below w.heap.size w X → Calls Try.prog 38 #[.slice (some ⟨g, o + 10 * k + 4, none⟩) (2 : Nat) c] X fun e w' => e = .returned (.int .i64 ((nm (pc zs k) 4 2 : Nat) : Int)) ∧ Below X.heap.size X w') at C4
      change Hid (∀ (c : Nat) X, Below w.heap.size w X → Calls Try.prog 38 #[.slice (some ⟨g, o + 10 * k + 6, none⟩) (4 : Nat) c] X fun e w' => e = .returned (.int .i64 ((nm (pc zs k) 6 4 : Nat) : Int)) ∧ Below X.heap.size X w') at C6
      have hst := rdL_succ d zs k
      obtain ⟨n2, e2⟩ : ∃ z, nm (pc zs k) 2 2 = z := ⟨_, rfl⟩
      obtain ⟨n4, e4⟩ : ∃ z, nm (pc zs k) 4 2 = z := ⟨_, rfl⟩
      obtain ⟨n6, e6⟩ : ∃ z, nm (pc zs k) 6 4 = z := ⟨_, rfl⟩
      rw [e2] at C2 hev
      rw [e4] at C4 hev
      rw [e6] at C6 hev l6
      simp only [Nat.reducePow] at l6
      obtain ⟨p, epp⟩ : ∃ p : En, (⟨x0, x1, x2, (n2 : Nat), (n4 : Nat), (n6 : Nat)⟩ : En) = p := ⟨_, rfl⟩
      have hpc : (#[.int .i64 x0, .int .i64 x1, .int .i64 x2, .int .i64 n2, .int .i64 n4, .int .u32 n6] : Array Value) = p.c := by rw [← epp]; rfl
      rw [hev, epp] at hst
      have HST := Lib.hid hst
      have HK1 : Hid (∀ j, j < k + 1 → enB d (pc zs j) = true) := Lib.hid (fun j hj => by
        rcases Nat.lt_or_ge j k with h | h
        · exact HK.out j h
        · rw [show j = k by omega]; exact heb)
      have HI1 : Hid (∀ i j, i < j → j < k + 1 → kyN zs i < kyN zs j) := Lib.hid (fun i j hij hj => by
        rcases Nat.lt_or_ge j k with h | h
        · exact HI.out i j hij h
        · have ejk : j = k := by omega
          subst ejk
          have h0k : 0 < j := by omega
          have h9 := HLA.out.2 h0k
          have h8 := EKY.out
          rcases Nat.lt_or_ge i (j - 1) with h7 | h7
          · have := HI.out i (j - 1) h7 (by omega)
            omega
          · have : i = j - 1 := by omega
            subst this
            omega)
      have HX0 := Lib.hid (show PgM.at_ (allV d) ky = [x0, x1, x2] by rw [← EKY.out]; exact ex)
      have hw6 : IntKind.u32.wrap (n6 : Int) = (n6 : Int) := IntWalk.u32_in _ (by omega)
      clear ex heb hev e2 e4 e6 epp hst hdn
      go_upto_region 13 with (go_at_call 38; refine (C0.out _ _ LW).mono ?_; rintro e w3 ⟨rfl, hb3⟩)
      have L3 := Rd.below_step LW hb3
      have L31 := Rd.below_step hb hb3
      have HP3 := Lib.hid (HP.out.below (B := 0) (hb.trans (hb3.mono hb.size)))
      have HO3 := Lib.hid (DiC.Rown.below HW.out hb3)
      have s3 := L31.size
      have hkn : (ky : Int) < (np : Int) := by omega
      clear hb3 hb HW HK HI HLA
      have hbw : w1.heap.size ≤ w3.heap.size := s3
      have sw9 : w.heap.size ≤ w1.heap.size := hb1.size
      refine PredT.region_of (W := w3) (w1.heap.size) hbw [29] [
          fun y => Below w3.heap.size w3 y,
          fun _ => True] [
          PredT.At 0 (.slice av k cv),
          PredT.At 0 (.slice (some ⟨bp, op, none⟩) np cp),
          PredT.At 0 (.int .i64 (ky : Int)),
          PredT.At 0 (.pointer (some ⟨bp, op + ky * 3, none⟩)),
          PredT.At 0 (.agg #[.int .i64 x0, .int .i64 x1, .int .i64 x2]),
          PredT.At 0 (.slice (some ⟨g, o, none⟩) n cap),
          PredT.At 0 (.int .i64 (10 * (k : Int))),
          PredT.At 0 (.int .i64 (10 * (k : Int) + 2)),
          PredT.At 0 (.int .i64 (10 * (k : Int))),
          PredT.At 0 (.int .i64 (10 * (k : Int) + 4)),
          PredT.At 0 (.slice (some ⟨g, o + 10 * k + 2, none⟩) 2 (cap - (10 * k + 2))),
          PredT.At 0 (.int .i64 (n2 : Int)),
          PredT.At 0 (.slice (some ⟨g, o, none⟩) n cap),
          PredT.At 0 (.int .i64 (10 * (k : Int))),
          PredT.At 0 (.int .i64 (10 * (k : Int) + 4)),
          PredT.At 0 (.int .i64 (10 * (k : Int))),
          PredT.At 0 (.int .i64 (10 * (k : Int) + 6)),
          PredT.At 0 (.slice (some ⟨g, o + 10 * k + 4, none⟩) 2 (cap - (10 * k + 4))),
          PredT.At 0 (.int .i64 (n4 : Int)),
          PredT.At 0 (.slice (some ⟨g, o, none⟩) n cap),
          PredT.At 0 (.int .i64 (10 * (k : Int))),
          PredT.At 0 (.int .i64 (10 * (k : Int) + 6)),
          PredT.At 0 (.int .i64 (10 * (k : Int))),
          PredT.At 0 (.int .i64 (10 * (k : Int) + 10)),
          PredT.At 0 (.slice (some ⟨g, o + 10 * k + 6, none⟩) 4 (cap - (10 * k + 6))),
          PredT.At 0 (.int .i64 (n6 : Int)),
          PredT.At 0 (.int .u32 (n6 : Int)),
          PredT.At 0 (.agg p.c),
          PredT.When 0 (OneC p.c),
          PredT.When 1 (fun u y => Rown y w1.heap.size u (k + 1) (rdL d zs (k + 1))),
          PredT.When 1 (fun u y => Rown y w1.heap.size u (k + 1) (rdL d zs (k + 1)))] (by kernel_rfl) (by kernel_rfl) (by kernel_rfl) (by decide) (by decide) ?_ ?_ ?_ ?_ ?_ ?_
      · exact ⟨PredT.at_stab _ _ _ _, PredT.at_stab _ _ _ _, PredT.at_stab _ _ _ _, PredT.at_stab _ _ _ _, PredT.at_stab _ _ _ _, PredT.at_stab _ _ _ _, PredT.at_stab _ _ _ _, PredT.at_stab _ _ _ _, PredT.at_stab _ _ _ _, PredT.at_stab _ _ _ _, PredT.at_stab _ _ _ _, PredT.at_stab _ _ _ _, PredT.at_stab _ _ _ _, PredT.at_stab _ _ _ _, PredT.at_stab _ _ _ _, PredT.at_stab _ _ _ _, PredT.at_stab _ _ _ _, PredT.at_stab _ _ _ _, PredT.at_stab _ _ _ _, PredT.at_stab _ _ _ _, PredT.at_stab _ _ _ _, PredT.at_stab _ _ _ _, PredT.at_stab _ _ _ _, PredT.at_stab _ _ _ _, PredT.at_stab _ _ _ _, PredT.at_stab _ _ _ _, PredT.at_stab _ _ _ _, PredT.at_stab _ _ _ _, PredT.when_stab _ _ _ (fun u y y' ⟨g9, h1, h2⟩ hb => ⟨g9, h1, (blk_below hb g9 (blk_lt h2)).trans h2⟩), PredT.when_stab _ _ _ (fun u y y' h hb => DiC.Rown.below h hb), PredT.when_stab _ _ _ (fun u y y' h hb => DiC.Rown.below h hb), trivial⟩
      · intro q hq
        rcases List.mem_cons.1 hq with rfl | hq
        · exact fun y y' h hb => h.trans (hb.mono h.size)
        rcases List.mem_cons.1 hq with rfl | hq
        · exact fun _ _ _ _ => trivial
        cases hq
      · exact Below.refl _ _
      · refine ⟨.inr ?_, .inr ?_, .inr ?_, .inr ?_, .inr ?_, .inr ?_, .inr ?_, .inr ?_, .inr ?_, .inr ?_, .inr ?_, .inr ?_, .inr ?_, .inr ?_, .inr ?_, .inr ?_, .inr ?_, .inr ?_, .inr ?_, .inr ?_, .inr ?_, .inr ?_, .inr ?_, .inr ?_, .inr ?_, .inr ?_, .inr ?_, .inr ?_, .inr ?_, .inl rfl, .inr ?_, trivial⟩
        · intro b9 X ph hE hd hn hS hV hI hF
          have r6 : b9.tmps[6]?.getD undef = .slice av k cv := (hI 30 _ 6 rfl rfl (by kernel_rfl)).trans rfl
          exact Pred.yields_run (v := .slice av k cv) (Pred.wanted_none rfl) (by go_simp) ⟨Below.refl _ _, rfl, Nat.zero_le _⟩
        · intro b9 X ph hE hd hn hS hV hI hF
          have r5 : b9.tmps[5]?.getD undef = .slice (some ⟨bp, op, none⟩) np cp := (hn 5 (by kernel_rfl)).trans rfl
          exact Pred.yields_run (v := .slice (some ⟨bp, op, none⟩) np cp) (Pred.wanted_none rfl) (by go_simp) ⟨Below.refl _ _, rfl, Nat.zero_le _⟩
        · intro b9 X ph hE hd hn hS hV hI hF
          have r9 : b9.tmps[9]?.getD undef = .int .i64 (ky : Int) := (hn 9 (by kernel_rfl)).trans rfl
          exact Pred.yields_run (v := .int .i64 (ky : Int)) (Pred.wanted_none rfl) (by go_simp) ⟨Below.refl _ _, rfl, Nat.zero_le _⟩
        · intro b9 X ph hE hd hn hS hV hI hF
          obtain ⟨r44, j44⟩ : PredT.At 0 (.slice (some ⟨bp, op, none⟩) np cp) (b9.tmps[44]?.getD undef) X ph := hV 1 _ 44 rfl rfl (Pred.waits_near (by kernel_rfl) (by kernel_rfl))
          obtain ⟨r45, j45⟩ : PredT.At 0 (.int .i64 (ky : Int)) (b9.tmps[45]?.getD undef) X ph := hV 2 _ 45 rfl rfl (Pred.waits_near (by kernel_rfl) (by kernel_rfl))
          exact Pred.yields_run (v := .pointer (some ⟨bp, op + ky * 3, none⟩)) (Pred.wanted_none rfl) (by go_simp) ⟨Below.refl _ _, rfl, Nat.zero_le _⟩
        · intro b9 X ph hE hd hn hS hV hI hF
          obtain ⟨r46, j46⟩ : PredT.At 0 (.pointer (some ⟨bp, op + ky * 3, none⟩)) (b9.tmps[46]?.getD undef) X ph := hV 3 _ 46 rfl rfl (Pred.waits_near (by kernel_rfl) (by kernel_rfl))
          have hp0 : ph = 0 := Nat.le_zero.1 (hF 0 29 rfl (Pred.waits_more 12 _ _ (Nat.le_of_ble_eq_true (by kernel_rfl)) (by kernel_rfl)))
          subst hp0
          have hb0 : Below w3.heap.size w3 X := hS
          have z := ld_pgs9 (HP3.out.below (B := 0) hb0) (i := ky) (by rw [ENP.out]; omega) HX0.out
          exact Pred.yields_run (v := .agg #[.int .i64 x0, .int .i64 x1, .int .i64 x2]) (Pred.wanted_none rfl) (by go_simp) ⟨Below.refl _ _, rfl, Nat.zero_le _⟩
        · intro b9 X ph hE hd hn hS hV hI hF
          have r1 : b9.tmps[1]?.getD undef = .slice (some ⟨g, o, none⟩) n cap := (hn 1 (by kernel_rfl)).trans rfl
          exact Pred.yields_run (v := .slice (some ⟨g, o, none⟩) n cap) (Pred.wanted_none rfl) (by go_simp) ⟨Below.refl _ _, rfl, Nat.zero_le _⟩
        · intro b9 X ph hE hd hn hS hV hI hF
          have r8 : b9.tmps[8]?.getD undef = .int .i64 (10 * (k : Int)) := (hn 8 (by kernel_rfl)).trans rfl
          exact Pred.yields_run (v := .int .i64 (10 * (k : Int))) (Pred.wanted_none rfl) (by go_simp) ⟨Below.refl _ _, rfl, Nat.zero_le _⟩
        · intro b9 X ph hE hd hn hS hV hI hF
          obtain ⟨r49, j49⟩ : PredT.At 0 (.int .i64 (10 * (k : Int))) (b9.tmps[49]?.getD undef) X ph := hV 6 _ 49 rfl rfl (Pred.waits_near (by kernel_rfl) (by kernel_rfl))
          have hwr : IntKind.i64.wrap (10 * (k : Int) + 2) = 10 * (k : Int) + 2 := IntWalk.i64_in _ (by omega)
          exact Pred.yields_run (v := .int .i64 (10 * (k : Int) + 2)) (Pred.wanted_none rfl) (by go_simp) ⟨Below.refl _ _, rfl, Nat.zero_le _⟩
        · intro b9 X ph hE hd hn hS hV hI hF
          have r8 : b9.tmps[8]?.getD undef = .int .i64 (10 * (k : Int)) := (hn 8 (by kernel_rfl)).trans rfl
          exact Pred.yields_run (v := .int .i64 (10 * (k : Int))) (Pred.wanted_none rfl) (by go_simp) ⟨Below.refl _ _, rfl, Nat.zero_le _⟩
        · intro b9 X ph hE hd hn hS hV hI hF
          obtain ⟨r51, j51⟩ : PredT.At 0 (.int .i64 (10 * (k : Int))) (b9.tmps[51]?.getD undef) X ph := hV 8 _ 51 rfl rfl (Pred.waits_near (by kernel_rfl) (by kernel_rfl))
          have hwr : IntKind.i64.wrap (10 * (k : Int) + 4) = 10 * (k : Int) + 4 := IntWalk.i64_in _ (by omega)
          exact Pred.yields_run (v := .int .i64 (10 * (k : Int) + 4)) (Pred.wanted_none rfl) (by go_simp) ⟨Below.refl _ _, rfl, Nat.zero_le _⟩
        · intro b9 X ph hE hd hn hS hV hI hF
          obtain ⟨r48, j48⟩ : PredT.At 0 (.slice (some ⟨g, o, none⟩) n cap) (b9.tmps[48]?.getD undef) X ph := hV 5 _ 48 rfl rfl (Pred.waits_near (by kernel_rfl) (by kernel_rfl))
          obtain ⟨r50, j50⟩ : PredT.At 0 (.int .i64 (10 * (k : Int) + 2)) (b9.tmps[50]?.getD undef) X ph := hV 7 _ 50 rfl rfl (Pred.waits_near (by kernel_rfl) (by kernel_rfl))
          obtain ⟨r52, j52⟩ : PredT.At 0 (.int .i64 (10 * (k : Int) + 4)) (b9.tmps[52]?.getD undef) X ph := hV 9 _ 52 rfl rfl (Pred.waits_near (by kernel_rfl) (by kernel_rfl))
          have q1 : (0 : Int) ≤ 10 * (k : Int) + 4 := by omega
          have q2 : 10 * (k : Int) + 4 ≤ (cap : Int) := by omega
          have q3 : (0 : Int) ≤ 10 * (k : Int) + 2 := by omega
          have q4 : 10 * (k : Int) + 2 ≤ max (10 * (k : Int) + 4) 0 := by omega
          have q5 : (10 * (k : Int) + 2).toNat = 10 * k + 2 := by omega
          have q6 : (10 * (k : Int) + 4).toNat = 10 * k + 4 := by omega
          have q7 : ¬ cap = 10 * k + 2 := by omega
          have q8 : 10 * k + 4 - (10 * k + 2) = 2 := by omega
          have q9 : o + (10 * k + 2) = o + 10 * k + 2 := by omega
          exact Pred.yields_run (v := .slice (some ⟨g, o + 10 * k + 2, none⟩) 2 (cap - (10 * k + 2))) (Pred.wanted_none rfl) (by go_simp) ⟨Below.refl _ _, rfl, Nat.zero_le _⟩
        · intro b9 X ph hE hd hn hS hV hI hF
          obtain ⟨r53, j53⟩ : PredT.At 0 (.slice (some ⟨g, o + 10 * k + 2, none⟩) 2 (cap - (10 * k + 2))) (b9.tmps[53]?.getD undef) X ph := hV 10 _ 53 rfl rfl (Pred.waits_near (by kernel_rfl) (by kernel_rfl))
          refine Pred.yields_call (f := 38) (args := #[.slice (some ⟨g, o + 10 * k + 2, none⟩) 2 (cap - (10 * k + 2))]) (Pred.wanted_none rfl) (by go_simp) ?_
          exact (C2.out _ X (L3.trans (hE.mono sw9))).mono fun e y9 ⟨he, hb9⟩ => ⟨_, he, hb9, rfl, Nat.zero_le _⟩
        · intro b9 X ph hE hd hn hS hV hI hF
          have r1 : b9.tmps[1]?.getD undef = .slice (some ⟨g, o, none⟩) n cap := (hn 1 (by kernel_rfl)).trans rfl
          exact Pred.yields_run (v := .slice (some ⟨g, o, none⟩) n cap) (Pred.wanted_none rfl) (by go_simp) ⟨Below.refl _ _, rfl, Nat.zero_le _⟩
        · intro b9 X ph hE hd hn hS hV hI hF
          have r8 : b9.tmps[8]?.getD undef = .int .i64 (10 * (k : Int)) := (hn 8 (by kernel_rfl)).trans rfl
          exact Pred.yields_run (v := .int .i64 (10 * (k : Int))) (Pred.wanted_none rfl) (by go_simp) ⟨Below.refl _ _, rfl, Nat.zero_le _⟩
        · intro b9 X ph hE hd hn hS hV hI hF
          obtain ⟨r56, j56⟩ : PredT.At 0 (.int .i64 (10 * (k : Int))) (b9.tmps[56]?.getD undef) X ph := hV 13 _ 56 rfl rfl (Pred.waits_near (by kernel_rfl) (by kernel_rfl))
          have hwr : IntKind.i64.wrap (10 * (k : Int) + 4) = 10 * (k : Int) + 4 := IntWalk.i64_in _ (by omega)
          exact Pred.yields_run (v := .int .i64 (10 * (k : Int) + 4)) (Pred.wanted_none rfl) (by go_simp) ⟨Below.refl _ _, rfl, Nat.zero_le _⟩
        · intro b9 X ph hE hd hn hS hV hI hF
          have r8 : b9.tmps[8]?.getD undef = .int .i64 (10 * (k : Int)) := (hn 8 (by kernel_rfl)).trans rfl
          exact Pred.yields_run (v := .int .i64 (10 * (k : Int))) (Pred.wanted_none rfl) (by go_simp) ⟨Below.refl _ _, rfl, Nat.zero_le _⟩
        · intro b9 X ph hE hd hn hS hV hI hF
          obtain ⟨r58, j58⟩ : PredT.At 0 (.int .i64 (10 * (k : Int))) (b9.tmps[58]?.getD undef) X ph := hV 15 _ 58 rfl rfl (Pred.waits_near (by kernel_rfl) (by kernel_rfl))
          have hwr : IntKind.i64.wrap (10 * (k : Int) + 6) = 10 * (k : Int) + 6 := IntWalk.i64_in _ (by omega)
          exact Pred.yields_run (v := .int .i64 (10 * (k : Int) + 6)) (Pred.wanted_none rfl) (by go_simp) ⟨Below.refl _ _, rfl, Nat.zero_le _⟩
        · intro b9 X ph hE hd hn hS hV hI hF
          obtain ⟨r55, j55⟩ : PredT.At 0 (.slice (some ⟨g, o, none⟩) n cap) (b9.tmps[55]?.getD undef) X ph := hV 12 _ 55 rfl rfl (Pred.waits_near (by kernel_rfl) (by kernel_rfl))
          obtain ⟨r57, j57⟩ : PredT.At 0 (.int .i64 (10 * (k : Int) + 4)) (b9.tmps[57]?.getD undef) X ph := hV 14 _ 57 rfl rfl (Pred.waits_near (by kernel_rfl) (by kernel_rfl))
          obtain ⟨r59, j59⟩ : PredT.At 0 (.int .i64 (10 * (k : Int) + 6)) (b9.tmps[59]?.getD undef) X ph := hV 16 _ 59 rfl rfl (Pred.waits_near (by kernel_rfl) (by kernel_rfl))
          have q1 : (0 : Int) ≤ 10 * (k : Int) + 6 := by omega
          have q2 : 10 * (k : Int) + 6 ≤ (cap : Int) := by omega
          have q3 : (0 : Int) ≤ 10 * (k : Int) + 4 := by omega
          have q4 : 10 * (k : Int) + 4 ≤ max (10 * (k : Int) + 6) 0 := by omega
          have q5 : (10 * (k : Int) + 4).toNat = 10 * k + 4 := by omega
          have q6 : (10 * (k : Int) + 6).toNat = 10 * k + 6 := by omega
          have q7 : ¬ cap = 10 * k + 4 := by omega
          have q8 : 10 * k + 6 - (10 * k + 4) = 2 := by omega
          have q9 : o + (10 * k + 4) = o + 10 * k + 4 := by omega
          exact Pred.yields_run (v := .slice (some ⟨g, o + 10 * k + 4, none⟩) 2 (cap - (10 * k + 4))) (Pred.wanted_none rfl) (by go_simp) ⟨Below.refl _ _, rfl, Nat.zero_le _⟩
        · intro b9 X ph hE hd hn hS hV hI hF
          obtain ⟨r60, j60⟩ : PredT.At 0 (.slice (some ⟨g, o + 10 * k + 4, none⟩) 2 (cap - (10 * k + 4))) (b9.tmps[60]?.getD undef) X ph := hV 17 _ 60 rfl rfl (Pred.waits_near (by kernel_rfl) (by kernel_rfl))
          refine Pred.yields_call (f := 38) (args := #[.slice (some ⟨g, o + 10 * k + 4, none⟩) 2 (cap - (10 * k + 4))]) (Pred.wanted_none rfl) (by go_simp) ?_
          exact (C4.out _ X (L3.trans (hE.mono sw9))).mono fun e y9 ⟨he, hb9⟩ => ⟨_, he, hb9, rfl, Nat.zero_le _⟩
        · intro b9 X ph hE hd hn hS hV hI hF
          have r1 : b9.tmps[1]?.getD undef = .slice (some ⟨g, o, none⟩) n cap := (hn 1 (by kernel_rfl)).trans rfl
          exact Pred.yields_run (v := .slice (some ⟨g, o, none⟩) n cap) (Pred.wanted_none rfl) (by go_simp) ⟨Below.refl _ _, rfl, Nat.zero_le _⟩
        · intro b9 X ph hE hd hn hS hV hI hF
          have r8 : b9.tmps[8]?.getD undef = .int .i64 (10 * (k : Int)) := (hn 8 (by kernel_rfl)).trans rfl
          exact Pred.yields_run (v := .int .i64 (10 * (k : Int))) (Pred.wanted_none rfl) (by go_simp) ⟨Below.refl _ _, rfl, Nat.zero_le _⟩
        · intro b9 X ph hE hd hn hS hV hI hF
          obtain ⟨r63, j63⟩ : PredT.At 0 (.int .i64 (10 * (k : Int))) (b9.tmps[63]?.getD undef) X ph := hV 20 _ 63 rfl rfl (Pred.waits_near (by kernel_rfl) (by kernel_rfl))
          have hwr : IntKind.i64.wrap (10 * (k : Int) + 6) = 10 * (k : Int) + 6 := IntWalk.i64_in _ (by omega)
          exact Pred.yields_run (v := .int .i64 (10 * (k : Int) + 6)) (Pred.wanted_none rfl) (by go_simp) ⟨Below.refl _ _, rfl, Nat.zero_le _⟩
        · intro b9 X ph hE hd hn hS hV hI hF
          have r8 : b9.tmps[8]?.getD undef = .int .i64 (10 * (k : Int)) := (hn 8 (by kernel_rfl)).trans rfl
          exact Pred.yields_run (v := .int .i64 (10 * (k : Int))) (Pred.wanted_none rfl) (by go_simp) ⟨Below.refl _ _, rfl, Nat.zero_le _⟩
        · intro b9 X ph hE hd hn hS hV hI hF
          obtain ⟨r65, j65⟩ : PredT.At 0 (.int .i64 (10 * (k : Int))) (b9.tmps[65]?.getD undef) X ph := hV 22 _ 65 rfl rfl (Pred.waits_near (by kernel_rfl) (by kernel_rfl))
          have hwr : IntKind.i64.wrap (10 * (k : Int) + 10) = 10 * (k : Int) + 10 := IntWalk.i64_in _ (by omega)
          exact Pred.yields_run (v := .int .i64 (10 * (k : Int) + 10)) (Pred.wanted_none rfl) (by go_simp) ⟨Below.refl _ _, rfl, Nat.zero_le _⟩
        · intro b9 X ph hE hd hn hS hV hI hF
          obtain ⟨r62, j62⟩ : PredT.At 0 (.slice (some ⟨g, o, none⟩) n cap) (b9.tmps[62]?.getD undef) X ph := hV 19 _ 62 rfl rfl (Pred.waits_near (by kernel_rfl) (by kernel_rfl))
          obtain ⟨r64, j64⟩ : PredT.At 0 (.int .i64 (10 * (k : Int) + 6)) (b9.tmps[64]?.getD undef) X ph := hV 21 _ 64 rfl rfl (Pred.waits_near (by kernel_rfl) (by kernel_rfl))
          obtain ⟨r66, j66⟩ : PredT.At 0 (.int .i64 (10 * (k : Int) + 10)) (b9.tmps[66]?.getD undef) X ph := hV 23 _ 66 rfl rfl (Pred.waits_near (by kernel_rfl) (by kernel_rfl))
          have q1 : (0 : Int) ≤ 10 * (k : Int) + 10 := by omega
          have q2 : 10 * (k : Int) + 10 ≤ (cap : Int) := by omega
          have q3 : (0 : Int) ≤ 10 * (k : Int) + 6 := by omega
          have q4 : 10 * (k : Int) + 6 ≤ max (10 * (k : Int) + 10) 0 := by omega
          have q5 : (10 * (k : Int) + 6).toNat = 10 * k + 6 := by omega
          have q6 : (10 * (k : Int) + 10).toNat = 10 * k + 10 := by omega
          have q7 : ¬ cap = 10 * k + 6 := by omega
          have q8 : 10 * k + 10 - (10 * k + 6) = 4 := by omega
          have q9 : o + (10 * k + 6) = o + 10 * k + 6 := by omega
          exact Pred.yields_run (v := .slice (some ⟨g, o + 10 * k + 6, none⟩) 4 (cap - (10 * k + 6))) (Pred.wanted_none rfl) (by go_simp) ⟨Below.refl _ _, rfl, Nat.zero_le _⟩
        · intro b9 X ph hE hd hn hS hV hI hF
          obtain ⟨r67, j67⟩ : PredT.At 0 (.slice (some ⟨g, o + 10 * k + 6, none⟩) 4 (cap - (10 * k + 6))) (b9.tmps[67]?.getD undef) X ph := hV 24 _ 67 rfl rfl (Pred.waits_near (by kernel_rfl) (by kernel_rfl))
          refine Pred.yields_call (f := 38) (args := #[.slice (some ⟨g, o + 10 * k + 6, none⟩) 4 (cap - (10 * k + 6))]) (Pred.wanted_none rfl) (by go_simp) ?_
          exact (C6.out _ X (L3.trans (hE.mono sw9))).mono fun e y9 ⟨he, hb9⟩ => ⟨_, he, hb9, rfl, Nat.zero_le _⟩
        · intro b9 X ph hE hd hn hS hV hI hF
          obtain ⟨r68, j68⟩ : PredT.At 0 (.int .i64 (n6 : Int)) (b9.tmps[68]?.getD undef) X ph := hV 25 _ 68 rfl rfl (Pred.waits_near (by kernel_rfl) (by kernel_rfl))
          exact Pred.yields_run (v := .int .u32 (n6 : Int)) (Pred.wanted_none rfl) (by go_simp) ⟨Below.refl _ _, rfl, Nat.zero_le _⟩
        · intro b9 X ph hE hd hn hS hV hI hF
          obtain ⟨r47, j47⟩ : PredT.At 0 (.agg #[.int .i64 x0, .int .i64 x1, .int .i64 x2]) (b9.tmps[47]?.getD undef) X ph := hV 4 _ 47 rfl rfl (Pred.waits_near (by kernel_rfl) (by kernel_rfl))
          obtain ⟨r54, j54⟩ : PredT.At 0 (.int .i64 (n2 : Int)) (b9.tmps[54]?.getD undef) X ph := hV 11 _ 54 rfl rfl (Pred.waits_near (by kernel_rfl) (by kernel_rfl))
          obtain ⟨r61, j61⟩ : PredT.At 0 (.int .i64 (n4 : Int)) (b9.tmps[61]?.getD undef) X ph := hV 18 _ 61 rfl rfl (Pred.waits_near (by kernel_rfl) (by kernel_rfl))
          obtain ⟨r69, j69⟩ : PredT.At 0 (.int .u32 (n6 : Int)) (b9.tmps[69]?.getD undef) X ph := hV 26 _ 69 rfl rfl (Pred.waits_near (by kernel_rfl) (by kernel_rfl))
          exact Pred.yields_run (v := .agg p.c) (Pred.wanted_none rfl) (by go_simp) ⟨Below.refl _ _, rfl, Nat.zero_le _⟩
        · intro b9 X ph hE hd hn hS hV hI hF
          obtain ⟨r70, j70⟩ : PredT.At 0 (.agg p.c) (b9.tmps[70]?.getD undef) X ph := hV 27 _ 70 rfl rfl (Pred.waits_near (by kernel_rfl) (by kernel_rfl))
          have hp0 : ph = 0 := Nat.le_zero.1 (hF 0 29 rfl (Pred.waits_more 12 _ _ (Nat.le_of_ble_eq_true (by kernel_rfl)) (by kernel_rfl)))
          subst hp0
          have hb0 : Below w3.heap.size w3 X := hS
          exact Pred.yields_run (v := .slice (some ⟨X.heap.size, 0, none⟩) 1 1) (w' := X.alloc (.cells p.c 39)) (Pred.wanted_none rfl) (by go_simp) ⟨(Below.refl _ _).alloc (Nat.le_refl _) _, Nat.zero_le _, fun _ => ⟨X.heap.size, rfl, blk_alloc_at _ _ _ rfl⟩⟩
        · intro b9 X ph hE hd hn hS hV hI hF
          obtain ⟨j72, r72⟩ : PredT.When 1 (fun u y => Rown y w1.heap.size u (k + 1) (rdL d zs (k + 1))) (b9.tmps[72]?.getD undef) X ph := hV 29 _ 72 rfl rfl (Pred.waits_near (by kernel_rfl) (by kernel_rfl))
          have hown := r72
          exact Pred.yields_run (v := b9.tmps[72]?.getD undef) (Pred.wanted_none rfl) (by go_simp) ⟨Below.refl _ _, j72, hown⟩
      · refine ⟨?_, trivial⟩
        · refine ⟨_, rfl, fun k hk => (by cases hk), fun b9 X hE hd hn hS hV hI => ?_⟩
          obtain ⟨r43, j43⟩ : PredT.At 0 (.slice av k cv) (b9.tmps[43]?.getD undef) X 0 := hV 0 _ 43 rfl rfl (Pred.waits_near (by kernel_rfl) (by kernel_rfl))
          obtain ⟨j71, r71⟩ : PredT.When 0 (OneC p.c) (b9.tmps[71]?.getD undef) X 0 := hV 28 _ 71 rfl rfl (Pred.waits_near (by kernel_rfl) (by kernel_rfl))
          replace hS : (fun y => Below w3.heap.size w3 y) X := hS
          obtain ⟨g9, hg9, hb9⟩ := r71 rfl
          have hXs := hS.size
          refine yields_app_e rfl (.tmp 43) (.tmp 71) rfl w1.heap.size _ k _ (by simpa [Act.eval] using r43) (DiC.Rown.below HO3.out hS) (some ⟨g9, 0, none⟩) 1 1 [p] (by simpa [Act.eval] using hg9) (rd_lit (by rw [ce_one, En.l_c]; exact hb9)).1 (by omega) (by omega) ?_
          intro u y hown hgr
          have hbq := OctA.below_grownBy (B := w1.heap.size) hgr (by omega) (fun k hk => ((DiC.Rown.below HO3.out hS).lt k hk).1)
          exact ⟨hbq, trivial, Nat.le_refl _, fun _ => by rw [HST.out]; exact hown⟩
      intro v X hE hS hv
      replace hS : (fun _ => True) X := hS
      have e0 : v 0 = .slice av k cv := (hv 0 _ 43 rfl rfl).1
      have e1 : v 1 = .slice (some ⟨bp, op, none⟩) np cp := (hv 1 _ 44 rfl rfl).1
      have e2 : v 2 = .int .i64 (ky : Int) := (hv 2 _ 45 rfl rfl).1
      have e3 : v 3 = .pointer (some ⟨bp, op + ky * 3, none⟩) := (hv 3 _ 46 rfl rfl).1
      have e4 : v 4 = .agg #[.int .i64 x0, .int .i64 x1, .int .i64 x2] := (hv 4 _ 47 rfl rfl).1
      have e5 : v 5 = .slice (some ⟨g, o, none⟩) n cap := (hv 5 _ 48 rfl rfl).1
      have e6 : v 6 = .int .i64 (10 * (k : Int)) := (hv 6 _ 49 rfl rfl).1
      have e7 : v 7 = .int .i64 (10 * (k : Int) + 2) := (hv 7 _ 50 rfl rfl).1
      have e8 : v 8 = .int .i64 (10 * (k : Int)) := (hv 8 _ 51 rfl rfl).1
      have e9 : v 9 = .int .i64 (10 * (k : Int) + 4) := (hv 9 _ 52 rfl rfl).1
      have e10 : v 10 = .slice (some ⟨g, o + 10 * k + 2, none⟩) 2 (cap - (10 * k + 2)) := (hv 10 _ 53 rfl rfl).1
      have e11 : v 11 = .int .i64 (n2 : Int) := (hv 11 _ 54 rfl rfl).1
      have e12 : v 12 = .slice (some ⟨g, o, none⟩) n cap := (hv 12 _ 55 rfl rfl).1
      have e13 : v 13 = .int .i64 (10 * (k : Int)) := (hv 13 _ 56 rfl rfl).1
      have e14 : v 14 = .int .i64 (10 * (k : Int) + 4) := (hv 14 _ 57 rfl rfl).1
      have e15 : v 15 = .int .i64 (10 * (k : Int)) := (hv 15 _ 58 rfl rfl).1
      have e16 : v 16 = .int .i64 (10 * (k : Int) + 6) := (hv 16 _ 59 rfl rfl).1
      have e17 : v 17 = .slice (some ⟨g, o + 10 * k + 4, none⟩) 2 (cap - (10 * k + 4)) := (hv 17 _ 60 rfl rfl).1
      have e18 : v 18 = .int .i64 (n4 : Int) := (hv 18 _ 61 rfl rfl).1
      have e19 : v 19 = .slice (some ⟨g, o, none⟩) n cap := (hv 19 _ 62 rfl rfl).1
      have e20 : v 20 = .int .i64 (10 * (k : Int)) := (hv 20 _ 63 rfl rfl).1
      have e21 : v 21 = .int .i64 (10 * (k : Int) + 6) := (hv 21 _ 64 rfl rfl).1
      have e22 : v 22 = .int .i64 (10 * (k : Int)) := (hv 22 _ 65 rfl rfl).1
      have e23 : v 23 = .int .i64 (10 * (k : Int) + 10) := (hv 23 _ 66 rfl rfl).1
      have e24 : v 24 = .slice (some ⟨g, o + 10 * k + 6, none⟩) 4 (cap - (10 * k + 6)) := (hv 24 _ 67 rfl rfl).1
      have e25 : v 25 = .int .i64 (n6 : Int) := (hv 25 _ 68 rfl rfl).1
      have e26 : v 26 = .int .u32 (n6 : Int) := (hv 26 _ 69 rfl rfl).1
      have e27 : v 27 = .agg p.c := (hv 27 _ 70 rfl rfl).1
      generalize hg28 : v 28 = vv28
      generalize hg29 : v 29 = vv29
      have HPR : Rown X w1.heap.size (v 30) (k + 1) (rdL d zs (k + 1)) := (hv 30 _ 6 rfl rfl).2 rfl
      generalize hg30 : v 30 = vv30 at HPR
      simp only [Pred.putsF_cons, Pred.putsF_nil, Nat.zero_add, Nat.reduceAdd, e0, e1, e2, e3, e4, e5, e6, e7, e8, e9, e10, e11, e12, e13, e14, e15, e16, e17, e18, e19, e20, e21, e22, e23, e24, e25, e26, e27, hg28, hg29, hg30, Act.put, List.setIfInBounds_toArray, List.set_cons_zero, List.set_cons_succ]
      clear e0 e1 e2 e3 e4 e5 e6 e7 e8 e9 e10 e11 e12 e13 e14 e15 e16 e17 e18 e19 e20 e21 e22 e23 e24 e25 e26 e27 hg28 hg29 hg30 hv
      have LX : Below w1.heap.size w1 X := L31.trans hE
      have HP9 := Lib.hid HPR
      clear hE hS HPR
      go_wp2
      go_roundw
      case rel => exact ⟨k + 1, by omega, by go_num, ⟨(ky : Int), rfl, by omega, by omega, Lib.hid ⟨fun h => by omega, fun _ => by rw [Nat.add_sub_cancel, EKY.out]⟩⟩, HK1, HI1, HP9, LX⟩
      case measure => simp [intOf]; omega
    · obtain rfl : k = m := by omega
      have hlt' : ¬ 10 * (k : Int) < (n : Int) := by have := HM.out.1; omega
      have E := Lib.hid (ER.out.symm.trans (read_yes (n := k) HZ.out (by rw [EN.out, HM.out.1]) QD.out HK.out HI.out))
      have hrl := rdL_len d zs k
      obtain ⟨l, el⟩ : ∃ l, rdL d zs k = l := ⟨_, rfl⟩
      rw [el] at E HW hrl
      have hrd := DiC.Rown.is HW.out
      obtain ⟨a', c', e', hRd⟩ := DiJ.Rown.rd HW.out
      injection e' with e1 e2 e3
      subst e1 e3
      have hm4 := HM.out.2.2
      have CN := Lib.hid (rnew_any d av cv l W hRd (by omega))
      rw [hrl] at CN
      clear hRd hrd HW el HK HI HLA e2
      have hdec : decide (10 * (k : Int) < (n : Int)) = false := decide_eq_false hlt'
      go_wp2_with (go_at_call 9; refine CN.out.mono ?_; rintro e w3 ⟨⟨u, rfl, hu⟩, hb3⟩)
      go_ret
      exact ⟨⟨_, rfl, by rw [E.out]; exact hu⟩, Rd.below_step LW hb3⟩
end Go.Proofs.Ytpjbacpchmemeaa.DiRh

/-
  Pack.
-/
import Derived.Test.YtminaamfelcajaaLzM
import Derived.Test.YtminaamfelcajaaMaI
import Derived.WalkMore
namespace Go.Proofs.Ytminaamfelcajaa.LzA
open Go.RowKit Rd Go.Proofs.Ytminaamfelcajaa.Row OctA MaM MaA MaB MaD MaE MaF MaI BitA BitB BitC BitD LzM
set_option linter.unusedVariables false
set_option linter.unusedSimpArgs false
set_option maxRecDepth 10000
theorem wr_new (w : World) : Wr (w.alloc (.cells #[.slice none 0 0, .int .i64 0] 39)) w.heap.size (.slice none 0 0) [] :=
  ⟨⟨blk_alloc_at _ _ _ rfl, World.ownsRow_nil _ _ _ _⟩, fun b hb => by cases hb⟩
theorem wr_below {w w' : World} {p : Nat} {v : Value} {l : List Nat} (h : Wr w p v l) (hb : Below w.heap.size w w') : Wr w' p v l :=
  ⟨⟨(hb.block p (blk_lt h.1.1)).trans h.1.1, keep_own h.1.2 fun k hk => hb.block k (h.1.2.lt k hk).2⟩, h.2⟩
/-- a writer beside a finder -/
structure Ps (w X : World) (p f : Nat) (ba : Option Addr) (cb g : Nat) (l : List Int) (v : Value) (acc : List Nat) : Prop where
  wr : Wr X p v acc
  fx : Fx X f ba cb g l
  far : ∀ k, v.ownBlock = some k → (Value.slice ba l.length cb).ownBlock ≠ some k
  below : Below w.heap.size w X
  lo : w.heap.size ≤ p
theorem Ps.bel {w X Y : World} {p f : Nat} {ba : Option Addr} {cb g : Nat} {l : List Int} {v : Value} {acc : List Nat} (h : Ps w X p f ba cb g l v acc) (hb : Below X.heap.size X Y) : Ps w Y p f ba cb g l v acc :=
  ⟨wr_below h.wr hb, h.fx.bel hb, h.far, h.below.trans (hb.mono h.below.size), h.lo⟩
theorem own_ty {w : World} {base s : Nat} {e : TypeId} {v : Value} {n : Nat} {xs : List Value} (h : w.ownsRow base e s v n xs) {k : Nat} (hk : v.ownBlock = some k) : ∃ cur : Array Value, w.heap[k]? = some (Obj.cells cur e (0, 0)) := by
  rcases h.2 with ⟨rfl, _⟩ | ⟨g, cap, cur, rfl, hb, hg, rest⟩
  · cases hk
  · cases hk; exact ⟨cur, hg⟩
theorem Ps.turn {w X Y : World} {p f : Nat} {ba : Option Addr} {cb g : Nat} {l : List Int} {v v' : Value} {acc acc' : List Nat} (h : Ps w X p f ba cb g l v acc) (hw : Wr Y p v' acc') (hf : Fr X Y p v v') : Ps w Y p f ba cb g l v' acc' := by
  obtain ⟨lo, ho⟩ := h.fx.own
  have kp : ∀ (k : Nat) (c : Array Value) (T : TypeId), blk X k = some (.cells c T (0, 0)) → T ≠ 39 → T ≠ 5 → blk Y k = blk X k := fun k c T hk h1 h2 => by
    refine hf.block k (blk_lt hk) (ne_of_type hk h.wr.1.1 h1) fun e => ?_
    obtain ⟨cur, hc⟩ := own_ty h.wr.1.2 e.symm
    exact ne_of_type hk (show blk X k = _ from hc) h2 rfl
  refine ⟨hw, ⟨⟨(kp _ _ _ h.fx.hd.head (by decide) (by decide)).trans h.fx.hd.head, h.fx.hd.cap, h.fx.hd.big⟩, ⟨lo, keep_own ho fun k hk => ?_⟩, (kp _ _ _ h.fx.bfr (by decide) (by decide)).trans h.fx.bfr⟩, fun k hk e => ?_, h.below.trans ((hf.below (Nat.le_of_lt (blk_lt h.wr.1.1)) fun k hk => by have := (h.wr.1.2.lt k hk).1; omega).mono h.lo), h.lo⟩
  · obtain ⟨cur, hc⟩ := own_ty ho hk
    exact hf.block k (blk_lt (show blk X k = _ from hc)) (ne_of_type (show blk X k = _ from hc) h.wr.1.1 (by decide)) fun e => h.far k e.symm hk
  · rcases hf.row with e2 | ⟨q, e2, hq⟩
    · exact h.far k (e2 ▸ hk) e
    · rw [e2] at hk
      cases hk
      have := (ho.lt k e).2
      omega
theorem ps_put {w X : World} {p f : Nat} {ba : Option Addr} {cb g : Nat} {l : List Int} {v : Value} {acc : List Nat} (h : Ps w X p f ba cb g l v acc) (x n : Nat) (hn : n ≤ 32) (hx : x < 2 ^ n) (hl : acc.length ≤ 90000) :
    Calls Try.prog 16 #[.pointer (some ⟨p, 0, none⟩), .int .i64 x, .int .i64 n] X fun e w' => ∃ v', e = .returned (.int .i64 0) ∧ Ps w w' p f ba cb g l v' (acc ++ putL x n) :=
  (put_ok p v acc x n X h.wr hn hx hl).mono fun e w' ⟨v', he, hw, hf⟩ => ⟨v', he, h.turn hw hf⟩
theorem pack_long (ai : Option Addr) (n c : Nat) (w : World) (hn : 65535 < n) :
    Calls Try.prog 8 #[.slice ai n c] w fun e w' => e = .returned (.tuple #[.slice none 0 0, .int .i64 1]) ∧ Below w.heap.size w w' := by
  have hn' : (65535 : Int) < (n : Int) := by omega
  go_enter Try.func8, Try.ntmps8
  go_wp2_with fail
  go_step3
  go_wp2_with fail
  (try rw [Exit.noGoto_ret])
  go_ret2
  exact ⟨rfl, Below.refl _ _⟩
set_option maxHeartbeats 4000000 in
theorem pack_any (ai : Option Addr) (c : Nat) (l : List Int) (w : World) (hr : Reads w 1 ai l.length (us l)) (hb : By l) (hl : l.length ≤ 5000) :
    Calls Try.prog 8 #[.slice ai l.length c] w fun e w' => (∃ v, e = .returned (.tuple #[v, .int .i64 0]) ∧ w'.ownsRow w.heap.size 5 1 v (pack (packB l)).length (u8s (pack (packB l)))) ∧ Below w.heap.size w w' := by
  have HR := Lib.hid hr
  have HBY := Lib.hid hb
  obtain ⟨n, hn⟩ : ∃ n, l.length = n := ⟨_, rfl⟩
  have HN := Lib.hid hn
  rw [hn] at hl ⊢
  have hn' : ¬ (65535 : Int) < (n : Int) := by omega
  clear hr hb hn
  go_enter Try.func8, Try.ntmps8
  go_wp2_with fail
  go_step3
  go_upto_region 4 with (fail)
  refine Rd.name_world ?_
  intro W hW
  have HW : Hid (Wr W w.heap.size (.slice none 0 0) []) := Lib.hid (by rw [hW]; exact wr_new w)
  have HB0 : Hid (Below w.heap.size w W) := Lib.hid (by rw [hW]; exact (Below.refl _ _).alloc (Nat.le_refl _) _)
  obtain ⟨p, hp⟩ : ∃ p, w.heap.size = p := ⟨_, rfl⟩
  have HP := Lib.hid hp
  rw [hp] at HW ⊢
  clear hW hp
  go_wp2_with fail
  refine (put_ok p (.slice none 0 0) [] n 16 W HW.out (by decide) (by omega) (by decide)).mono ?_
  rintro e W1 ⟨v1, rfl, hw1, hf1⟩
  have HW1 := Lib.hid hw1
  have HB1 : Hid (Below w.heap.size w W1) := Lib.hid (HB0.out.trans ((hf1.below (Nat.le_of_lt (blk_lt HW.out.1.1)) (fun k hk => by cases hk)).mono (by rw [HP.out]; exact Nat.le_refl _)))
  have CN := new_any ai c l W1 (HR.out.below HB1.out (Nat.le_refl _)) HBY.out (by rw [HN.out]; omega)
  rw [HN.out] at CN
  have HCN := Lib.hid CN
  clear hw1 hf1 HW HB0 CN
  go_wp2_with fail
  refine HCN.out.mono ?_
  rintro e W2 ⟨f, ba, cb, g, rfl, hst⟩
  have HS0 : Hid (Ps w W2 p f ba cb g l v1 (putL n 16)) := Lib.hid ⟨wr_below HW1.out hst.below, MaF.St.fx hst, fun k hk e => by
    have h1 := (hst.own.lt k e).1
    have h2 := (HW1.out.1.2.lt k hk).2
    omega, HB1.out.trans (hst.below.mono HB1.out.size), by rw [HP.out]; exact Nat.le_refl _⟩
  clear hst HCN HW1 HB1
  go_wp2_with fail
  go_step3
  go_wp2_with fail
  go_loopw [6] (fun i X => ∃ (a : Nat) (v : Value) (acc : List Nat), a ≤ n ∧ i = .int .i64 a ∧ Hid (Ps w X p f ba cb g l v acc) ∧ Hid (∃ fu, l.length - a ≤ fu ∧ acc ++ packF l fu a = packB l)) (fun i _ => n - (intOf i).toNat)
  case atStart => exact ⟨0, v1, _, by omega, rfl, HS0, Lib.hid ⟨l.length, by omega, by rw [← HN.out]; rfl⟩⟩
  case round =>
    clear HS0
    obtain ⟨a, v, acc, ha9, rfl, HS, HE⟩ := hrel
    rename World => X
    have hacc : acc.length ≤ 50000 := by
      obtain ⟨fu, -, e⟩ := HE.out
      have h1 := packB_len l
      rw [← e, List.length_append, HN.out] at h1
      omega
    by_cases hlt : a < n
    · have hlt' : (a : Int) < (n : Int) := by omega
      obtain ⟨fu, hfu, hpe⟩ : ∃ fu, l.length - nextA l a ≤ fu ∧ (acc ++ stepB l a) ++ packF l fu (nextA l a) = packB l := by
        obtain ⟨fu, h1, e⟩ := HE.out
        have h2 := HN.out
        obtain ⟨f', rfl⟩ : ∃ f', fu = f' + 1 := ⟨fu - 1, by omega⟩
        have h3 := next_bd (l := l) (a := a) (by omega)
        refine ⟨f', by omega, ?_⟩
        rw [List.append_assoc, ← e]
        congr 1
        exact (if_pos (by omega)).symm
      have HPE := Lib.hid (And.intro hfu hpe)
      have HNB := Lib.hid (next_bd (l := l) (a := a) (by rw [HN.out]; exact hlt))
      clear hfu hpe HE
      go_wp2_with fail
      refine (at_le HS.out.fx a (by rw [HN.out]; exact ha9) (by rw [HN.out]; omega)).mono ?_
      rintro e W3 ⟨rfl, hb3⟩
      have HS3 := Lib.hid (HS.out.bel hb3)
      obtain ⟨r, hr⟩ : ∃ r, best l a (all l a) = r := ⟨_, rfl⟩
      obtain ⟨d, m⟩ := r
      rw [hr]
      have HBS : Hid (bst l a = (d, m)) := Lib.hid hr
      clear hb3 hr HS
      by_cases hm : m = 0
      · subst hm
        have hsb : stepB l a = putL 0 1 ++ putL (l.getD a 0).toNat 8 := if_pos (by rw [HBS.out])
        have hna : nextA l a = a + 1 := if_pos (by rw [HBS.out])
        rw [hsb, hna, ← List.append_assoc] at HPE
        clear hsb hna HNB
        go_wp2_with fail
        refine (ps_put HS3.out 0 1 (by decide) (by decide) (by omega)).mono ?_
        rintro e W4 ⟨v4, rfl, hs4⟩
        have HS4 := Lib.hid hs4
        have hr4 := HR.out.below hs4.below (Nat.le_refl _)
        rw [HN.out] at hr4
        obtain ⟨pb, po, rfl, hpb, hcc⟩ := cell_u8 hr4 HN.out (by omega)
        have k1 := hcc a hlt
        obtain ⟨z, hz⟩ : ∃ z : Nat, l.getD a 0 = z := ⟨(l.getD a 0).toNat, by have := HBY.out.at_ a; omega⟩
        have hz8 : z < 256 := by have := HBY.out.at_ a; omega
        rw [hz] at k1
        rw [show (l.getD a 0).toNat = z by omega] at HPE
        clear hs4 hr4 hcc hz
        go_wp2_with fail
        refine (ps_put HS4.out z 8 (by decide) (by omega) (by rw [List.length_append, putL_length]; omega)).mono ?_
        rintro e W5 ⟨v5, rfl, hs5⟩
        have HS5 := Lib.hid hs5
        clear hs5 k1
        go_wp2
        exact ⟨⟨a + 1, v5, _, by omega, by go_num, HS5, Lib.hid ⟨fu, HPE.out.1, HPE.out.2⟩⟩, by simp [intOf]; omega⟩
      · have hm' : (0 : Int) < (m : Int) := by omega
        have h0 : (bst l a).2 ≠ 0 := by rw [HBS.out]; exact hm
        obtain ⟨d', m', e0, h1, h2, h3, h4, h5, h6, -, -⟩ := best_is h0
        obtain ⟨-, -, h9, -⟩ := all_mat h1
        rw [show best l a (all l a) = (d, m) from HBS.out] at e0
        injection e0 with e1 e2
        subst e1 e2
        have hsb : stepB l a = putL 1 1 ++ putL (d - 1) 12 ++ putL (m - 3) 8 := by unfold stepB; rw [if_neg h0, HBS.out]
        have hna : nextA l a = a + m := by unfold nextA; rw [if_neg h0, HBS.out]
        rw [hsb, hna, ← List.append_assoc, ← List.append_assoc] at HPE
        rw [HN.out] at h6
        obtain ⟨d1, hd1⟩ : ∃ d1 : Nat, (d : Int) - 1 = d1 := ⟨d - 1, by omega⟩
        obtain ⟨m3, hm3⟩ : ∃ m3 : Nat, (m : Int) - 3 = m3 := ⟨m - 3, by omega⟩
        rw [show d - 1 = d1 by omega, show m - 3 = m3 by omega] at HPE
        have hd2 : d1 < 4096 := by omega
        have hm4 : m3 < 256 := by omega
        clear hsb hna HNB h0 h1 h9
        go_wp2_with fail
        refine (ps_put HS3.out 1 1 (by decide) (by decide) (by omega)).mono ?_
        rintro e W4 ⟨v4, rfl, hs4⟩
        have HS4 := Lib.hid hs4
        clear hs4
        go_wp2_with fail
        refine (ps_put HS4.out d1 12 (by decide) (by omega) (by rw [List.length_append, putL_length]; omega)).mono ?_
        rintro e W5 ⟨v5, rfl, hs5⟩
        have HS5 := Lib.hid hs5
        clear hs5
        go_wp2_with fail
        refine (ps_put HS5.out m3 8 (by decide) (by omega) (by rw [List.length_append, List.length_append, putL_length, putL_length]; omega)).mono ?_
        rintro e W6 ⟨v6, rfl, hs6⟩
        have HS6 := Lib.hid hs6
        clear hs6
        go_wp2
        exact ⟨⟨a + m, v6, _, by omega, by go_num, HS6, Lib.hid ⟨fu, HPE.out.1, HPE.out.2⟩⟩, by simp [intOf]; omega⟩
    · obtain rfl : a = n := by omega
      have hE : acc = packB l := by
        obtain ⟨fu, h1, e⟩ := HE.out
        rw [packF_end (by rw [HN.out]; exact Nat.le_refl _), List.append_nil] at e
        exact e
      subst hE
      go_wp2_with fail
      refine (bytes_any p v _ X HS.out.wr (by omega)).mono ?_
      rintro e W7 ⟨v7, rfl, hown, hb7⟩
      have HO := Lib.hid (own_mono hown HS.out.below.size)
      have HB7 := Lib.hid (HS.out.below.trans (hb7.mono HS.out.below.size))
      clear hown hb7
      go_wp2_with fail
      (try rw [Exit.noGoto_ret])
      go_ret2
      exact ⟨⟨v7, rfl, HO.out⟩, HB7.out⟩
end Go.Proofs.Ytminaamfelcajaa.LzA

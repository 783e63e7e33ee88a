/-
  Three bits that are turned in a head of 32 bytes: its sum is no longer right.
-/
import Derived.Test.YtbicgcnlijgjmaaCrcX
import Derived.Test.YtbicgcnlijgjmaaOctB
namespace Go.Proofs.Ytbicgcnlijgjmaa.Syn
open Go.RowKit Rd CrcA CrcB CrcC CrcX
open OctA (byt byts byts_len byts_bd)
open OctB (getN)
set_option linter.unusedVariables false
set_option linter.unusedSimpArgs false
set_option maxRecDepth 100000
/-- the sum of the first 28, and what stands behind them -/
def syn (zs : List Int) : Nat := onV 0 (zs.take 28) ^^^ getN (zs.drop 28)
def zero32 : List Int := List.replicate 32 0
/-- one bit -/
def bitV (k : Nat) : Nat := 2 ^ (k % 8)
theorem bitV_lt (k : Nat) : bitV k < 256 := by
  have h : 2 ^ (k % 8) ≤ 2 ^ 7 := Nat.pow_le_pow_right (by omega) (by omega)
  exact Nat.lt_of_le_of_lt h (by decide)
def unit (k : Nat) : List Int := zero32.set (k / 8) (bitV k : Int)
theorem zero32_b8 : B8s zero32 := rep_b8 32
theorem unit_b8 (k : Nat) : B8s (unit k) := by
  intro z hz
  rcases List.mem_or_eq_of_mem_set hz with h | rfl
  · exact zero32_b8 z h
  · have := bitV_lt k
    omega
theorem unit_len (k : Nat) : (unit k).length = 32 := by simp [unit, zero32]
theorem byte_xor {a b x y : Nat} (hx : x < 256) (hy : y < 256) : (a ^^^ b) * 256 + (x ^^^ y) = (a * 256 + x) ^^^ (b * 256 + y) := by
  have hxy : x ^^^ y < 2 ^ 8 := Nat.xor_lt_two_pow (n := 8) (by omega) (by omega)
  apply Nat.eq_of_testBit_eq
  intro i
  have e1 : ∀ (a x : Nat), x < 2 ^ 8 → (a * 256 + x).testBit i = if i < 8 then x.testBit i else a.testBit (i - 8) := fun a x hx => by
    rw [Nat.mul_comm, show 256 = 2 ^ 8 from rfl, Nat.testBit_two_pow_mul_add a hx]
  rw [Nat.testBit_xor, e1 _ _ hxy, e1 a x (by omega), e1 b y (by omega), Nat.testBit_xor, Nat.testBit_xor]
  split <;> rfl
theorem getN_xor : ∀ (xs ys : List Int) (c d : Nat), xs.length = ys.length → B8s xs → B8s ys →
    (xorL xs ys).foldl (fun n z => n * 256 + z.toNat) (c ^^^ d) = xs.foldl (fun n z => n * 256 + z.toNat) c ^^^ ys.foldl (fun n z => n * 256 + z.toNat) d
  | [], [], c, d, _, _, _ => rfl
  | x :: xs, y :: ys, c, d, h, hx, hy => by
    have ih := getN_xor xs ys (c * 256 + x.toNat) (d * 256 + y.toNat) (by simpa using h) (fun z hz => hx z (by simp [hz])) (fun z hz => hy z (by simp [hz]))
    have b1 := hx x (by simp)
    have b2 := hy y (by simp)
    rw [← byte_xor (by omega) (by omega)] at ih
    exact ih
theorem xorL_take (xs ys : List Int) (k : Nat) : (xorL xs ys).take k = xorL (xs.take k) (ys.take k) := by simp [xorL, List.zip, List.take_zipWith, List.map_zipWith]
theorem xorL_drop (xs ys : List Int) (k : Nat) : (xorL xs ys).drop k = xorL (xs.drop k) (ys.drop k) := by simp [xorL, List.zip, List.drop_zipWith, List.map_zipWith]
def z28 : Nat := onV 0 (List.replicate 28 0)
theorem xor_mix (a b c d e : Nat) : (a ^^^ b ^^^ c) ^^^ (d ^^^ e) = (a ^^^ d) ^^^ (b ^^^ e) ^^^ c := by
  apply Nat.eq_of_testBit_eq
  intro i
  simp only [Nat.testBit_xor]
  cases a.testBit i <;> cases b.testBit i <;> cases c.testBit i <;> cases d.testBit i <;> cases e.testBit i <;> rfl
theorem syn_xor {xs ys : List Int} (hx : xs.length = 32) (hy : ys.length = 32) (bx : B8s xs) (hb : B8s ys) : syn (xorL xs ys) = syn xs ^^^ syn ys ^^^ z28 := by
  unfold syn
  rw [xorL_take, xorL_drop, onV_xor (by simp [hx, hy]) (fun z hz => bx z (List.mem_of_mem_take hz)) (fun z hz => hb z (List.mem_of_mem_take hz))]
  have h := getN_xor (xs.drop 28) (ys.drop 28) 0 0 (by simp [hx, hy]) (fun z hz => bx z (List.mem_of_mem_drop hz)) (fun z hz => hb z (List.mem_of_mem_drop hz))
  rw [show getN (xorL (xs.drop 28) (ys.drop 28)) = getN (xs.drop 28) ^^^ getN (ys.drop 28) from h, xor_mix]
  rw [show (xs.take 28).length = 28 by simp [hx]]
  rfl
/-- what one bit does to it -/
def sk (k : Nat) : Nat := syn (unit k) ^^^ z28
def SL : List Nat := [28704029, 57408058, 114816116, 229632232, 459264464, 918528928, 1837057856, 3674115712, 1854675777, 3709351554, 1631677253, 3263354506, 1584704341, 3169408682, 2728635157, 2654359659, 3877480087, 357190511, 714381022, 1428762044, 2857524088, 2413146289, 3302647587, 1388693511, 2777387022, 2422613597, 4223486715, 738956215, 1477912430, 2955824860, 3140328441, 2905223603, 2166711591, 3644574735, 1762041439, 3524082878, 2137751357, 4275502714, 652016309, 1304032618, 2608065236, 3986084841, 6070675, 12141350, 24282700, 48565400, 97130800, 194261600, 388523200, 777046400, 1554092800, 3108185600, 2851555905, 2292159171, 3394118599, 1340948943, 2681897886, 3838050685, 318309563, 636619126, 1273238252, 2546476504, 4108406257, 850632099, 1701264198, 3402528396, 1324215129, 2648430258, 3771116325, 452743179, 905486358, 1810972716, 3621945432, 1957955313, 3915910626, 161553797, 323107594, 646215188, 1292430376, 2584860752, 4015175393, 97807235, 195614470, 391228940, 782457880, 1564915760, 3129831520, 2926306945, 2275855171, 3560739015, 1929914319, 3859828638, 391223677, 782447354, 1564894708, 3129789416, 2926088593, 2275419491, 3560000647, 1930665807, 3861331614, 390036349, 780072698, 1560145396, 3120290792, 2827399569, 2323408227, 3481914503, 1147313999, 2294627998, 3405478781, 1317531835, 2635063670, 3782132909, 430739227, 861478454, 1722956908, 3445913816, 1102706673, 2205413346, 3717650821, 1616688459, 3233376918, 1510200173, 3020400346, 3011398645, 3180171691, 2691310871, 2611301487, 3963330207, 50740095, 101480190, 202960380, 405920760, 811841520, 1623683040, 3247366080, 1483520449, 2967040898, 3133399365, 2935407819, 2258407383, 3595049455, 2011248031, 4022496062, 83218493, 166436986, 332873972, 665747944, 1331495888, 2662991776, 3859089665, 393942083, 787884166, 1575768332, 3151536664, 2898281073, 2196865699, 3734110983, 1716846671, 3433693342, 1109723005, 2219446010, 3555007413, 2092642603, 4185285206, 698204909, 1396409818, 2792819636, 2543784233, 4098827283, 871321191, 1742642382, 3485284764, 1141601657, 2283203314, 3411858341, 1304994059, 2609988118, 3964895853, 64357019, 128714038, 257428076, 514856152, 1029712304, 2059424608, 4118849216, 812665793, 1625331586, 3250663172, 1492342857, 2984685714, 3099354981, 2852767883, 2405603159, 3316918511, 1343838111, 2687676222, 2601801789, 3982079547, 29518391, 59036782, 118073564, 236147128, 472294256, 944588512, 1889177024, 3778354048, 421212481, 842424962, 1684849924, 3369699848, 1254232657, 2508465314, 4034481925, 998479947, 1996959894, 3993919788, 124634137, 249268274, 498536548, 997073096, 1994146192, 3988292384, 16777216, 33554432, 67108864, 134217728, 268435456, 536870912, 1073741824, 2147483648, 65536, 131072, 262144, 524288, 1048576, 2097152, 4194304, 8388608, 256, 512, 1024, 2048, 4096, 8192, 16384, 32768, 1, 2, 4, 8, 16, 32, 64, 128]
theorem sk_all : ((List.range 256).map sk == SL) = true := by decide +kernel
theorem sk_at {k : Nat} (h : k < 256) : SL[k]? = some (sk k) := by
  rw [← eq_of_beq sk_all]
  simp [h]
def MP : Nat := 703187
def mask : Nat := SL.foldl (fun m s => m ||| (1 <<< (s % MP))) 0
def tb (x : Nat) : Bool := Nat.beq ((mask >>> (x % MP)) % 2) 1
def pairsOK : List Nat → Bool
  | [] => true
  | s :: l => l.all (fun t => !tb (s ^^^ t)) && pairsOK l
theorem pairs_all : pairsOK SL = true := by decide +kernel
theorem ones_all : SL.all tb = true := by decide +kernel
theorem none_zero : SL.all (fun s => s != 0) = true := by decide +kernel
theorem pairs_spec : ∀ {l : List Nat}, pairsOK l = true → ∀ (i j s t : Nat), i < j → l[i]? = some s → l[j]? = some t → tb (s ^^^ t) = false
  | [], _, i, j, s, t, _, h, _ => by simp at h
  | x :: l, h, 0, j + 1, s, t, _, hi, hj => by
    simp only [pairsOK, Bool.and_eq_true, List.all_eq_true] at h
    simp at hi hj
    subst hi
    have := h.1 t (List.mem_of_getElem? hj)
    simpa using this
  | x :: l, h, i + 1, j + 1, s, t, hij, hi, hj => by
    simp only [pairsOK, Bool.and_eq_true] at h
    exact pairs_spec h.2 i j s t (by omega) (by simpa using hi) (by simpa using hj)
theorem pair_ne {i j k : Nat} (hi : i < 256) (hj : j < 256) (hk : k < 256) (hij : i ≠ j) : sk i ^^^ sk j ≠ sk k := by
  intro e
  have h1 : tb (sk k) = true := List.all_eq_true.1 ones_all _ (List.mem_of_getElem? (sk_at hk))
  rcases Nat.lt_or_gt_of_ne hij with h | h
  · have := pairs_spec pairs_all i j _ _ h (sk_at hi) (sk_at hj)
    rw [e, h1] at this; cases this
  · have := pairs_spec pairs_all j i _ _ h (sk_at hj) (sk_at hi)
    rw [Nat.xor_comm, e, h1] at this; cases this
theorem three_ne {i j k : Nat} (hi : i < 256) (hj : j < 256) (hk : k < 256) : sk i ^^^ sk j ^^^ sk k ≠ 0 := by
  have nz : ∀ k, k < 256 → sk k ≠ 0 := fun k hk => by
    have := List.all_eq_true.1 none_zero _ (List.mem_of_getElem? (sk_at hk))
    simpa using this
  intro e
  by_cases hij : i = j
  · subst hij
    rw [Nat.xor_self, Nat.zero_xor] at e
    exact nz k hk e
  · refine pair_ne hi hj hk hij ?_
    have := congrArg (fun x => x ^^^ sk k) e
    simp only [Nat.xor_assoc, Nat.xor_self, Nat.xor_zero, Nat.zero_xor] at this
    exact this
/-- a bit that is turned -/
def flip (zs : List Int) (k : Nat) : List Int := xorL zs (unit k)
theorem flip_len {zs : List Int} (h : zs.length = 32) (k : Nat) : (flip zs k).length = 32 := xorL_len h (unit_len k)
theorem flip_b8 {zs : List Int} (h : B8s zs) (k : Nat) : B8s (flip zs k) := xorL_b8 h (unit_b8 k)
theorem flip_syn {zs : List Int} (h : zs.length = 32) (hb : B8s zs) (k : Nat) : syn (flip zs k) = syn zs ^^^ sk k := by
  unfold flip
  rw [syn_xor h (unit_len k) hb (unit_b8 k), Nat.xor_assoc]; rfl
theorem flips_syn {zs : List Int} (h : zs.length = 32) (hb : B8s zs) (h0 : syn zs = 0) (i j k : Nat) (hi : i < 256) (hj : j < 256) (hk : k < 256) : syn (flip (flip (flip zs i) j) k) ≠ 0 := by
  rw [flip_syn (flip_len (flip_len h i) j) (flip_b8 (flip_b8 hb i) j), flip_syn (flip_len h i) (flip_b8 hb i), flip_syn h hb, h0, Nat.zero_xor]
  exact three_ne hi hj hk
theorem flip_set {zs : List Int} (h : zs.length = 32) (hb : B8s zs) (k : Nat) (hk : k < 256) : flip zs k = zs.set (k / 8) (((zs.getD (k / 8) 0).toNat ^^^ bitV k : Nat) : Int) := by
  apply List.ext_getElem?
  intro i
  by_cases hi : i < 32
  · have h1 : i < zs.length := by omega
    have h2 : i < (unit k).length := by rw [unit_len]; omega
    have hz := hb _ (List.getElem_mem h1)
    rw [List.getElem?_eq_getElem (by rw [flip_len h]; exact hi), List.getElem?_eq_getElem (by simp; exact h1)]
    simp only [flip, xorL, List.getElem_map, List.getElem_zip, unit, List.getElem_set]
    by_cases hik : k / 8 = i
    · subst hik
      simp [h1, List.getD]
    · simp only [if_neg hik, zero32, List.getElem_replicate, Int.toNat_zero, Nat.xor_zero, Option.some.injEq]
      omega
  · rw [List.getElem?_eq_none (by rw [flip_len h]; omega), List.getElem?_eq_none (by simp; omega)]
/-- what is written has none -/
theorem getN_byts {v : Nat} (h : v < 4294967296) : getN (byts v 4) = v := by
  simp only [byts, byt, getN, List.foldl_cons, List.foldl_nil, Nat.pow_zero, Nat.zero_mul, Nat.zero_add]
  simp only [show (256 : Nat) ^ 3 = 16777216 from rfl, show (256 : Nat) ^ 2 = 65536 from rfl, Nat.pow_one]
  omega
theorem syn_written {bs : List Int} (hl : bs.length = 28) (hb : B8s bs) : syn (bs ++ byts (onV 0 bs : Nat) 4) = 0 := by
  have hv : onV 0 bs < 4294967296 := by
    unfold onV
    omega
  unfold syn
  rw [List.take_append_of_le_length (by omega), List.take_of_length_le (by omega), List.drop_append_of_le_length (by omega), List.drop_of_length_le (by omega), List.nil_append, getN_byts hv, Nat.xor_self]
end Go.Proofs.Ytbicgcnlijgjmaa.Syn

/-
  codec's functions, and the document's answers for them: contracts over this translation. What entry.Right, marlstoneref03.Right and entry.byKeyAndSeq answer: contracts over this translation. What entry.byKeyAndSeq answers, and the comparison's laws: a contract over this translation.
-/
import Derived.Test.YtecacjddggljgaaDoorProg
import Derived.WalkKit
import Derived.WalkSpells
import Derived.WalkLawsBesides
import Derived.Lib.Walk
import Derived.Lib.AppendStr
import Derived.OpenShut
import Derived.Deep.QuietTactic
import Derived.BigQuiet
import Derived.Laws.AppendOwnNone
import Derived.Lib.MinMax
import Derived.Deep.RegionHeld3
import Derived.Shelf.SlSortCmp.InsertionK
import Derived.Shelf.Small.Strs
namespace Go.Proofs.YtecacjddggljgaaDoor
open Go.RowKit
/-- The bytes of v, by sevens (fuel: how many may follow the first one). -/
def enc : Nat → Nat → List UInt8
  | 0, v => [UInt8.ofNat v]
  | f + 1, v => if v < 128 then [UInt8.ofNat v] else UInt8.ofNat (v % 128 + 128) :: enc f (v / 128)
def putB (v : Nat) : List UInt8 := enc 9 v
/-- What bytes tell, from place i on, x gathered so far. -/
def getF (i x : Nat) : List UInt8 → Nat × Nat × Bool
  | [] => (0, 0, false)
  | c :: cs =>
    if i = 9 ∧ 1 < c.toNat then (0, 0, false)
    else if 128 ≤ c.toNat then getF (i + 1) (x + c.toNat % 128 * 128 ^ i) cs
    else if c.toNat = 0 ∧ 0 < i then (0, 0, false)
    else (x + c.toNat % 128 * 128 ^ i, i + 1, true)
def getB (bs : List UInt8) : Nat × Nat × Bool := getF 0 0 bs
theorem enc_ne (f v : Nat) : enc f v ≠ [] := by
  cases f <;> simp [enc]
  split <;> simp
theorem enc_pos (f v : Nat) : 1 ≤ (enc f v).length := by
  have := List.length_pos_iff.2 (enc_ne f v)
  omega
theorem enc_le : ∀ (f v : Nat), (enc f v).length ≤ f + 1
  | 0, v => by simp [enc]
  | f + 1, v => by
    unfold enc
    split
    · simp
    · have := enc_le f (v / 128)
      simp; omega
theorem putB_le (v : Nat) : (putB v).length ≤ 10 := enc_le 9 v
theorem putB_pos (v : Nat) : 1 ≤ (putB v).length := enc_pos 9 v
theorem enc_fuel : ∀ (f v : Nat), v < 128 ^ (f + 1) → enc (f + 1) v = enc f v
  | 0, v, h => by
    have : v < 128 := by simpa using h
    simp [enc, this]
  | f + 1, v, h => by
    rw [enc]
    split
    · rename_i h1; simp [enc, h1]
    · rename_i h1
      have h2 : v / 128 < 128 ^ (f + 1) := by
        rw [Nat.pow_succ] at h
        exact Nat.div_lt_of_lt_mul (by rw [Nat.mul_comm]; exact h)
      rw [enc_fuel f (v / 128) h2]
      simp [enc, h1]
theorem putB_small (v : Nat) (h : v < 128) : putB v = [UInt8.ofNat v] := by simp [putB, enc, h]
theorem putB_more (v : Nat) (h : 128 ≤ v) (h2 : v < 18446744073709551616) : putB v = UInt8.ofNat (v % 128 + 128) :: putB (v / 128) := by
  have e : putB (v / 128) = enc 8 (v / 128) := enc_fuel 8 (v / 128) (by simp; omega)
  rw [e, putB, enc, if_neg (by omega)]
theorem toNat_ofNat (v : Nat) (h : v < 256) : (UInt8.ofNat v).toNat = v := by
  simp [UInt8.toNat_ofNat']
  omega
theorem get_enc_gen : ∀ (f i x v : Nat) (more : List UInt8), i + f = 9 → v < 2 * 128 ^ f → (i = 0 ∨ v ≠ 0) →
    getF i x (enc f v ++ more) = (x + v * 128 ^ i, i + (enc f v).length, true)
  | 0, i, x, v, more, hi, hv, h0 => by
    have hi9 : i = 9 := by omega
    subst hi9
    have hv2 : v < 2 := by simpa using hv
    have e := toNat_ofNat v (by omega)
    have hne : v ≠ 0 := by omega
    have h1 : ¬ (9 = 9 ∧ 1 < (UInt8.ofNat v).toNat) := by rw [e]; omega
    have h2 : ¬ (128 ≤ (UInt8.ofNat v).toNat) := by rw [e]; omega
    have h3 : ¬ ((UInt8.ofNat v).toNat = 0 ∧ 0 < 9) := by rw [e]; omega
    rw [enc, List.singleton_append, getF, if_neg h1, if_neg h2, if_neg h3, e, Nat.mod_eq_of_lt (by omega)]
    rfl
  | f + 1, i, x, v, more, hi, hv, h0 => by
    by_cases hs : v < 128
    · have e := toNat_ofNat v (by omega)
      have h1 : ¬ (i = 9 ∧ 1 < (UInt8.ofNat v).toNat) := by omega
      have h2 : ¬ (128 ≤ (UInt8.ofNat v).toNat) := by rw [e]; omega
      have h3 : ¬ ((UInt8.ofNat v).toNat = 0 ∧ 0 < i) := by rw [e]; omega
      rw [enc, if_pos hs, List.singleton_append, getF, if_neg h1, if_neg h2, if_neg h3, e, Nat.mod_eq_of_lt (by omega)]
      rfl
    · have e := toNat_ofNat (v % 128 + 128) (by omega)
      have h1 : ¬ (i = 9 ∧ 1 < (UInt8.ofNat (v % 128 + 128)).toNat) := by omega
      have h2 : 128 ≤ (UInt8.ofNat (v % 128 + 128)).toNat := by rw [e]; omega
      have hq : v / 128 < 2 * 128 ^ f := by
        rw [Nat.pow_succ] at hv
        exact Nat.div_lt_of_lt_mul (by rw [Nat.mul_comm 128, Nat.mul_assoc]; exact hv)
      have ih := get_enc_gen f (i + 1) (x + (v % 128 + 128) % 128 * 128 ^ i) (v / 128) more (by omega) hq (.inr (by omega))
      rw [enc, if_neg hs, List.cons_append, getF, if_neg h1, if_pos h2, e, ih]
      have hm : (v % 128 + 128) % 128 = v % 128 := by omega
      have hval : x + (v % 128 + 128) % 128 * 128 ^ i + v / 128 * 128 ^ (i + 1) = x + v * 128 ^ i := by
        rw [hm, Nat.pow_succ, Nat.mul_comm (128 ^ i) 128, ← Nat.mul_assoc, Nat.add_assoc, ← Nat.add_mul]
        congr 2
        omega
      rw [hval, List.length_cons]
      congr 2
      omega
/-- What is put is got. -/
theorem getB_putB (v : Nat) (hv : v < 18446744073709551616) (more : List UInt8) : getB (putB v ++ more) = (v, (putB v).length, true) := by
  have h := get_enc_gen 9 0 0 v more (by omega) (by omega) (.inl rfl)
  simpa [getB, putB] using h
/-- Bytes that tell a number are the bytes of that number; no beginning of them tells one. -/
theorem get_once_gen : ∀ (l : List UInt8) (i x v n : Nat), i ≤ 9 → getF i x l = (v, n, true) →
    ∃ u, v = x + u * 128 ^ i ∧ u < 2 * 128 ^ (9 - i) ∧ i < n ∧ n ≤ i + l.length ∧ l.take (n - i) = enc (9 - i) u ∧ (0 < i → u ≠ 0) ∧
      ∀ j, j < n - i → getF i x (l.take j) = (0, 0, false)
  | [], i, x, v, n, hi, h => by simp [getF] at h
  | c :: cs, i, x, v, n, hi, h => by
    have hc : c.toNat < 256 := c.toNat_lt
    rw [getF] at h
    split at h
    · simp at h
    · rename_i h1
      split at h
      · rename_i h2
        have hi8 : i ≤ 8 := by omega
        obtain ⟨u, hv, hu, hn, hl, ht, hz, hj⟩ := get_once_gen cs (i + 1) _ v n (by omega) h
        have hu0 := hz (by omega)
        have e9 : 9 - i = (9 - (i + 1)) + 1 := by omega
        have hdiv : (c.toNat % 128 + u * 128) / 128 = u := by omega
        have hmod : (c.toNat % 128 + u * 128) % 128 + 128 = c.toNat := by omega
        refine ⟨c.toNat % 128 + u * 128, ?_, ?_, by omega, by simp; omega, ?_, fun _ => by omega, ?_⟩
        · rw [hv, Nat.pow_succ, Nat.mul_comm (128 ^ i) 128, ← Nat.mul_assoc, Nat.add_assoc, ← Nat.add_mul]
        · rw [e9, Nat.pow_succ, ← Nat.mul_assoc]; omega
        · rw [e9, enc, if_neg (by omega), hdiv, hmod, ← ht]
          have : n - i = (n - (i + 1)) + 1 := by omega
          rw [this, List.take_succ_cons]
          congr 1
          exact (UInt8.ofNat_toNat (x := c)).symm
        · intro j hj'
          cases j with
          | zero => simp [getF]
          | succ j =>
            rw [List.take_succ_cons, getF, if_neg h1, if_pos h2]
            exact hj j (by omega)
      · rename_i h2
        split at h
        · simp at h
        · rename_i h3
          simp only [Prod.mk.injEq, and_true] at h
          obtain ⟨hv, hn⟩ := h
          have hcm : c.toNat % 128 = c.toNat := Nat.mod_eq_of_lt (by omega)
          refine ⟨c.toNat, by rw [← hv, hcm], ?_, by omega, by simp; omega, ?_, fun hi0 hz => h3 ⟨hz, hi0⟩, ?_⟩
          · by_cases hi9 : i = 9
            · subst hi9; simp; omega
            · have : 128 ^ 1 ≤ 128 ^ (9 - i) := Nat.pow_le_pow_right (by omega) (by omega)
              simp only [Nat.pow_one] at this
              omega
          · have hn1 : n - i = 1 := by omega
            rw [hn1]
            have hc' : UInt8.ofNat c.toNat = c := UInt8.ofNat_toNat (x := c)
            cases hf : 9 - i with
            | zero => simp [enc, hc']
            | succ f => simp [enc, hc', show c.toNat < 128 by omega]
          · intro j hj'
            have : j = 0 := by omega
            subst this
            simp [getF]
theorem getB_once (l : List UInt8) (v n : Nat) (h : getB l = (v, n, true)) :
    v < 18446744073709551616 ∧ 1 ≤ n ∧ n ≤ l.length ∧ l.take n = putB v ∧ ∀ j, j < n → getB (l.take j) = (0, 0, false) := by
  obtain ⟨u, hv, hu, hn, hl, ht, _, hj⟩ := get_once_gen l 0 0 v n (by omega) h
  have e : v = u := by simpa using hv
  subst e
  exact ⟨by simpa using hu, by omega, by omega, by simpa [putB] using ht, fun j hj' => hj j (by omega)⟩
/-- Where there is no number all is zero. -/
theorem getF_no : ∀ (l : List UInt8) (i x v n : Nat), getF i x l = (v, n, false) → v = 0 ∧ n = 0
  | [], i, x, v, n, h => by simp [getF] at h; omega
  | c :: cs, i, x, v, n, h => by
    rw [getF] at h
    split at h
    · simp at h; omega
    · split at h
      · exact getF_no cs _ _ v n h
      · split at h
        · simp at h; omega
        · simp at h
theorem getB_no (l : List UInt8) (v n : Nat) (h : getB l = (v, n, false)) : v = 0 ∧ n = 0 := getF_no l 0 0 v n h
/-! ### How many bytes -/
def sz (v : Nat) : Nat := (putB v).length
theorem sz_small (v : Nat) (h : v < 128) : sz v = 1 := by simp [sz, putB_small v h]
theorem sz_more (v : Nat) (h : 128 ≤ v) (h2 : v < 18446744073709551616) : sz v = sz (v / 128) + 1 := by simp [sz, putB_more v h h2]
theorem enc_mono : ∀ (f v w : Nat), v ≤ w → (enc f v).length ≤ (enc f w).length
  | 0, v, w, _ => by simp [enc]
  | f + 1, v, w, h => by
    by_cases hv : v < 128
    · have := enc_pos (f + 1) w
      simp [enc, hv] at this ⊢
      exact this
    · have hw : ¬ w < 128 := by omega
      simp only [enc, hv, hw, if_false, List.length_cons]
      have := enc_mono f (v / 128) (w / 128) (Nat.div_le_div_right h)
      omega
theorem sz_mono (v w : Nat) (h : v ≤ w) : sz v ≤ sz w := enc_mono 9 v w h
theorem sz_pos (v : Nat) : 1 ≤ sz v := putB_pos v
theorem sz_le (v : Nat) : sz v ≤ 10 := putB_le v
theorem ret_i64 {a b : Int} (h : a = b) : Ending.returned (.int .i64 a) = .returned (.int .i64 b) := by rw [h]
/-- The slice whose elements are the bytes bs. -/
def Bytes (w : World) (ao : Option Addr) (len : Nat) (bs : List UInt8) : Prop :=
  bs.length = len ∧ ∀ i c, bs[i]? = some c → ∃ x, ao = some x ∧ w.cell? (x.add i) = some (.int .u8 c.toNat)
theorem drop_at (bs : List UInt8) (k : Nat) (h : k < bs.length) : bs.drop k = bs[k] :: bs.drop (k + 1) := List.drop_eq_getElem_cons h
theorem getF_step (i x : Nat) (c : UInt8) (cs : List UInt8) : getF i x (c :: cs) =
    if i = 9 ∧ 1 < c.toNat then (0, 0, false)
    else if 128 ≤ c.toNat then getF (i + 1) (x + c.toNat % 128 * 128 ^ i) cs
    else if c.toNat = 0 ∧ 0 < i then (0, 0, false)
    else (x + c.toNat % 128 * 128 ^ i, i + 1, true) := rfl
theorem and_127 (n : Nat) : n &&& 127 = n % 128 := Nat.and_two_pow_sub_one_eq_mod n 7
theorem andNot_128 (c : UInt8) : bits .andNot .u8 (c.toNat : Int) 128 = ((c.toNat % 128 : Nat) : Int) := by
  have := u8_andNot_nat c.toNat 128 c.toNat_lt (by decide)
  simpa [and_127] using this
theorem pow_128 (k : Nat) : 128 ^ k = 2 ^ (7 * k) := by rw [Nat.pow_mul]
/-- 'x | uint64(c &^ 0x80) << (7*i)' is a sum. -/
theorem or_step (X k c : Nat) (hk : k ≤ 9) (hX : X < 128 ^ k) (hc : c < 256) (h9 : k = 9 → c ≤ 1) :
    bits .or .u64 (X : Int) (IntKind.u64.wrap ((c : Int) % 128 * 2 ^ (7 * k))) = ((X + c % 128 * 128 ^ k : Nat) : Int) ∧ X + c % 128 * 128 ^ k < 128 ^ (k + 1) ∧ X + c % 128 * 128 ^ k < 18446744073709551616 := by
  have hw1 : (c : Int) % 128 = ((c % 128 : Nat) : Int) := by omega
  have hlt : c % 128 * 128 ^ k < 18446744073709551616 ∧ X + c % 128 * 128 ^ k < 18446744073709551616 ∧ X < 18446744073709551616 := by
    by_cases h : k = 9
    · subst h
      have := h9 rfl
      simp only [Nat.reducePow] at hX ⊢
      omega
    · have h8 : 128 ^ k ≤ 128 ^ 8 := Nat.pow_le_pow_right (by omega) (by omega)
      have hm : c % 128 * 128 ^ k ≤ 127 * 128 ^ 8 := Nat.mul_le_mul (by omega) h8
      simp only [Nat.reducePow] at h8 hm
      omega
  have ecast : ((c % 128 : Nat) : Int) * 2 ^ (7 * k) = ((c % 128 * 128 ^ k : Nat) : Int) := by
    rw [pow_128]; simp
  have hw2 : IntKind.u64.wrap ((c % 128 * 128 ^ k : Nat) : Int) = ((c % 128 * 128 ^ k : Nat) : Int) := IntWalk.u64_in _ ⟨by omega, by omega⟩
  have hor : X ||| c % 128 * 128 ^ k = X + c % 128 * 128 ^ k := by
    rw [pow_128] at hX ⊢
    have := Nat.two_pow_add_eq_or_of_lt hX (c % 128)
    rw [Nat.or_comm, Nat.mul_comm (c % 128), ← this, Nat.add_comm]
  refine ⟨?_, ?_, hlt.2.1⟩
  · rw [hw1, ecast, hw2, u64_or_nat _ _ hlt.2.2 hlt.1, hor]
  · rw [Nat.pow_succ]
    have : c % 128 * 128 ^ k ≤ 127 * 128 ^ k := Nat.mul_le_mul_right _ (by omega)
    omega
theorem tup3 {a a' b b' : Int} {p p' : Bool} (h1 : a = a') (h2 : b = b') (h3 : p = p') :
    Ending.returned (.tuple #[.int .u64 a, .int .i64 b, .bool p]) = .returned (.tuple #[.int .u64 a', .int .i64 b', .bool p']) := by rw [h1, h2, h3]
set_option maxRecDepth 100000 in
set_option maxHeartbeats 400000 in
theorem get_cells (b off len cap : Nat) (bs : List UInt8) (w : World) (hl : bs.length = len) (hmax : len ≤ 9223372036854775807)
    (hc : ∀ k (h : k < bs.length), w.cell? ⟨b, off + k, none⟩ = some (.int .u8 (bs[k].toNat : Int))) :
    Calls Tryd.prog 140 #[.slice (some ⟨b, off, none⟩) len cap] w fun e w' =>
      e = .returned (.tuple #[.int .u64 (getB bs).1, .int .i64 (getB bs).2.1, .bool (getB bs).2.2]) ∧ w' = w := by
  go_enter Tryd.func140, Tryd.ntmps140
  go_wp2
  go_loop [5, 10] (fun x i => ∃ (k X : Nat), k ≤ len ∧ k ≤ 9 ∧ i = .int .i64 k ∧ x = .int .u64 X ∧ X < 128 ^ k ∧ getB bs = getF k X (bs.drop k)) (fun _ i => len - (intOf i).toNat)
  case atStart => exact ⟨0, 0, by omega, by omega, rfl, rfl, by omega, rfl⟩
  case round =>
    obtain ⟨k, X, hk, hk9, rfl, rfl, hX, hd⟩ := hrel
    by_cases hlt : k < len
    · obtain ⟨c, hcd⟩ : ∃ c, c = bs[k] := ⟨_, rfl⟩
      have hcell : w.cell? ⟨b, off + k, none⟩ = some (.int .u8 (c.toNat : Int)) := by rw [hcd]; exact hc k (by omega)
      have HD : Hid (getB bs = getF k X (c :: bs.drop (k + 1))) := by show _ = _; rw [hd, hcd, ← drop_at]
      have hc256 : c.toNat < 256 := c.toNat_lt
      have HO : Hid ((k = 9 → c.toNat ≤ 1) → bits .or .u64 (X : Int) (IntKind.u64.wrap ((c.toNat : Int) % 128 * 2 ^ (7 * k))) = ((X + c.toNat % 128 * 128 ^ k : Nat) : Int) ∧ X + c.toNat % 128 * 128 ^ k < 128 ^ (k + 1) ∧ X + c.toNat % 128 * 128 ^ k < 18446744073709551616) :=
        fun h => or_step X k c.toNat hk9 hX hc256 h
      have hand := andNot_128 c
      clear hd hc hcd hX
      by_cases hk : k = 9
      · subst hk
        by_cases h1 : 1 < c.toNat
        · have HV : Hid (getB bs = (0, 0, false)) := by show _ = _; rw [HD.out, getF_step, if_pos ⟨rfl, h1⟩]
          clear HD HO
          go_wp2
          go_ret3
          exact ⟨tup3 (by rw [HV.out]; rfl) (by rw [HV.out]; rfl) (by rw [HV.out]), rfl⟩
        · by_cases h0 : c.toNat = 0
          · have HV : Hid (getB bs = (0, 0, false)) := by show _ = _; rw [HD.out, getF_step, if_neg (by omega), if_neg (by omega), if_pos ⟨h0, by omega⟩]
            clear HD HO
            go_wp2
            go_ret3
            exact ⟨tup3 (by rw [HV.out]; rfl) (by rw [HV.out]; rfl) (by rw [HV.out]), rfl⟩
          · have HV : Hid (getB bs = (X + c.toNat % 128 * 128 ^ 9, 9 + 1, true)) := by show _ = _; rw [HD.out, getF_step, if_neg (by omega), if_neg (by omega), if_neg (by omega)]
            have HE' : Hid (bits .or .u64 (X : Int) ((c.toNat : Int) % 128 * 9223372036854775808) = ((X + c.toNat % 128 * 128 ^ 9 : Nat) : Int)) := by
              have h := (HO.out (by omega)).1
              rw [show (2 : Int) ^ (7 * 9) = 9223372036854775808 from by decide, IntWalk.u64_in _ ⟨by omega, by omega⟩] at h
              exact h
            clear HD HO
            have hb : (((c.toNat : Int)) == 0) = false := by simp; omega
            go_wp2
            go_ret3
            exact ⟨tup3 (by rw [HV.out]; exact HE'.out) (by rw [HV.out]; rfl) (by rw [HV.out]), rfl⟩
      · by_cases h128 : 128 ≤ c.toNat
        · have HV : Hid (getB bs = getF (k + 1) (X + c.toNat % 128 * 128 ^ k) (bs.drop (k + 1))) := by show _ = _; rw [HD.out, getF_step, if_neg (by omega), if_pos h128]
          have HE : Hid (_ ∧ _ ∧ _) := HO.out (by omega)
          clear HD HO
          go_wp2
          go_round
          case rel => exact ⟨k + 1, X + c.toNat % 128 * 128 ^ k, by omega, by omega, by go_num, by rw [HE.out.1], HE.out.2.1, HV.out⟩
          case measure => simp [intOf]; omega
        · by_cases h0 : c.toNat = 0 ∧ 0 < k
          · have HV : Hid (getB bs = (0, 0, false)) := by show _ = _; rw [HD.out, getF_step, if_neg (by omega), if_neg (by omega), if_pos h0]
            obtain ⟨h0, hk0⟩ := h0
            clear HD HO
            go_wp2
            go_ret3
            exact ⟨tup3 (by rw [HV.out]; rfl) (by rw [HV.out]; rfl) (by rw [HV.out]), rfl⟩
          · have HV : Hid (getB bs = (X + c.toNat % 128 * 128 ^ k, k + 1, true)) := by show _ = _; rw [HD.out, getF_step, if_neg (by omega), if_neg (by omega), if_neg h0]
            have HE : Hid (_ ∧ _ ∧ _) := HO.out (by omega)
            clear HD HO
            by_cases hc0 : c.toNat = 0
            · have hk0 : k < 1 := by omega
              have hc1 : c.toNat < 1 := by omega
              have HE0 : Hid (bits .or .u64 (X : Int) (IntKind.u64.wrap 0) = ((X + c.toNat % 128 * 128 ^ k : Nat) : Int)) := by
                have h := HE.out.1
                rw [show (c.toNat : Int) % 128 * 2 ^ (7 * k) = 0 from by rw [hc0]; simp] at h
                exact h
              clear h0 hc0
              go_wp2
              go_ret3
              exact ⟨tup3 (by rw [HV.out]; exact HE0.out) (by rw [HV.out]; rfl) (by rw [HV.out]), rfl⟩
            · have hb : (((c.toNat : Int)) == 0) = false := by simp; omega
              go_wp2
              go_ret3
              exact ⟨tup3 (by rw [HV.out]; exact HE.out.1) (by rw [HV.out]; rfl) (by rw [HV.out]), rfl⟩
    · have HV : Hid (getB bs = (0, 0, false)) := by show _ = _; rw [hd, List.drop_eq_nil_of_le (by omega)]; rfl
      clear hd hc
      go_wp2
      go_ret3
      exact ⟨tup3 (by rw [HV.out]; rfl) (by rw [HV.out]; rfl) (by rw [HV.out]), rfl⟩
set_option maxRecDepth 100000 in
set_option maxHeartbeats 400000 in
theorem get_none (ao : Option Addr) (cap : Nat) (w : World) :
    Calls Tryd.prog 140 #[.slice ao 0 cap] w fun e w' => e = .returned (.tuple #[.int .u64 0, .int .i64 0, .bool false]) ∧ w' = w := by
  go_enter Tryd.func140, Tryd.ntmps140
  go_wp2
  refine wp_loop_rounds 1 ?_
  rw [rounds_succ]
  go_wp2
  go_ret3
  exact ⟨rfl, rfl⟩
theorem bytes_at {w : World} {ao : Option Addr} {len : Nat} {bs : List UInt8} (h : Bytes w ao len bs) (hp : 0 < len) :
    ∃ b off, ao = some ⟨b, off, none⟩ ∧ ∀ k (hk : k < bs.length), w.cell? ⟨b, off + k, none⟩ = some (.int .u8 (bs[k].toNat : Int)) := by
  obtain ⟨hl, hc⟩ := h
  obtain ⟨x, hx, hx0⟩ := hc 0 _ (List.getElem?_eq_getElem (by omega))
  subst hx
  obtain ⟨b, off, spot⟩ := x
  have hspot : spot = none := by simpa [Addr.add] using World.cell?_spot hx0
  subst hspot
  refine ⟨b, off, rfl, fun k hk => ?_⟩
  obtain ⟨y, hy, hc'⟩ := hc k _ (List.getElem?_eq_getElem hk)
  cases hy
  rw [Addr.add_lit] at hc'
  exact hc'
/-- codec.Get, of whatever bytes. -/
theorem get_any (ao : Option Addr) (len cap : Nat) (bs : List UInt8) (w : World) (h : Bytes w ao len bs) (hmax : len ≤ 9223372036854775807) :
    Calls Tryd.prog 140 #[.slice ao len cap] w fun e w' =>
      e = .returned (.tuple #[.int .u64 (getB bs).1, .int .i64 (getB bs).2.1, .bool (getB bs).2.2]) ∧ w' = w := by
  by_cases hp : 0 < len
  · obtain ⟨b, off, rfl, hc⟩ := bytes_at h hp
    exact get_cells b off len cap bs w h.1 hmax hc
  · have hl : len = 0 := by omega
    subst hl
    have hb : bs = [] := List.eq_nil_of_length_eq_zero h.1
    subst hb
    exact get_none ao cap w
set_option maxHeartbeats 400000 in
theorem alone_any (ao : Option Addr) (n cap : Nat) (w : World) (hn : n ≤ cap) (hcap : cap ≤ 9223372036854775807) (h0 : ao = none → cap = 0) :
    Calls Tryd.prog 118 #[.slice ao n cap] w fun e w' => e = .returned (.slice ao n n) ∧ w' = w := by
  cases ao with
  | none =>
    obtain rfl := h0 rfl
    obtain rfl : n = 0 := by omega
    go_enter Tryd.func118, Tryd.ntmps118
    go_wp2
    go_ret
    exact ⟨rfl, rfl⟩
  | some x =>
    clear h0
    go_enter Tryd.func118, Tryd.ntmps118
    go_wp2
    go_ret
    exact ⟨rfl, rfl⟩
theorem info5 : (Tryd.prog.info? 5).map (fun i => (i.zero, i.size, i.bytes)) = some (some (.int .u8 0), 1, 1) := by kernel_rfl
/-- Bytes as cells. -/
def cellsOf (bs : List UInt8) : List Value := bs.map fun b => Value.int .u8 b.toNat
theorem cellsOf_length (bs : List UInt8) : (cellsOf bs).length = bs.length := by simp [cellsOf]
theorem cellsOf_append (a b : List UInt8) : cellsOf (a ++ b) = cellsOf a ++ cellsOf b := by simp [cellsOf]
theorem cellsOf_one (bs : List UInt8) : ∀ u ∈ cellsOf bs, u.oneCell' = true := by
  intro u hu
  simp only [cellsOf, List.mem_map] at hu
  obtain ⟨b, _, rfl⟩ := hu
  rfl
theorem cellsOf_at {bs : List UInt8} {j : Nat} {u : Value} (h : (cellsOf bs)[j]? = some u) : ∃ c, bs[j]? = some c ∧ u = .int .u8 c.toNat := by
  simp only [cellsOf, List.getElem?_map, Option.map_eq_some_iff] at h
  obtain ⟨c, hc, rfl⟩ := h
  exact ⟨c, hc, rfl⟩
theorem ownsRow_mono {w : World} {B B' : Nat} {e : TypeId} {size : Nat} {v : Value} {n : Nat} {xs : List Value} (h : w.ownsRow B e size v n xs) (hB : B' ≤ B) : w.ownsRow B' e size v n xs := by
  obtain ⟨h1, h2⟩ := h
  refine ⟨h1, ?_⟩
  rcases h2 with h2 | ⟨g, cap, cur, hv, hg, r⟩
  · exact .inl h2
  · exact .inr ⟨g, cap, cur, hv, by omega, r⟩
/-- A slice that is bs, and that may be appended to: it has no room, or is the call's own. -/
def Buf (w : World) (base : Nat) (v : Value) (bs : List UInt8) : Prop :=
  (∃ ao, v = .slice ao bs.length bs.length ∧ Bytes w ao bs.length bs) ∨ w.ownsRow base 5 1 v bs.length (cellsOf bs)
theorem Buf.alloc {w : World} {base : Nat} {v : Value} {bs : List UInt8} (h : Buf w base v bs) (o : Obj) : Buf (w.alloc o) base v bs := by
  rcases h with ⟨ao, hv, hl, hc⟩ | h
  · refine .inl ⟨ao, hv, hl, fun i c hi => ?_⟩
    obtain ⟨x, hx, hcell⟩ := hc i c hi
    refine ⟨x, hx, ?_⟩
    rw [← hcell]
    exact World.cell?_of_block (Below.heap_alloc _ _ _ (by have := World.block_lt_of_cell? w _ hcell; exact this))
  · exact .inr (h.alloc o)
theorem wpList_append_buf {ops : Array Oper} {rest : List Oper} {o : Oper} {a : Act} {Q : Exit → Act → World → Prop} (w : World)
    (hg : o.guard = none) (s x : Operand) (hop : o.op = Op.call { callee := Callee.builtin Builtin.append, args := #[s, x], argTypes := #[27, 27] })
    (base : Nat) (v : Value) (bs : List UInt8) (hs : a.eval s = v) (hbuf : Buf w base v bs) (hbase : base ≤ w.heap.size)
    (ad : Addr) (m c : Nat) (news : List UInt8) (hx : a.eval x = .slice (some ad) m c) (hn : news.length = m) (hm : 0 < m) (hc : ∀ j u, (cellsOf news)[j]? = some u → w.cell? (ad.add j) = some u)
    (hb : bs.length + m ≤ 140737488355328)
    (hK : ∀ v' w', w'.ownsRow base 5 1 v' (bs ++ news).length (cellsOf (bs ++ news)) → Below base w w' → wpList Tryd.prog ops Q rest (a.put o.dst v') w') :
    wpList Tryd.prog ops Q (o :: rest) a w := by
  obtain ⟨i0, hi, hz0, hz1, hz2⟩ := info_parts info5
  have hlen : (bs ++ news).length = bs.length + m := by simp [hn]
  rw [hlen] at hK
  simp only [cellsOf_append] at hK
  rcases hbuf with ⟨ao, hv, hl, hcells⟩ | hown
  · subst hv
    refine wpList_append_grows w hg s x 27 hop 5 i0 (.int .u8 0) 1 1 Tryd.underlying27 hi hz0 hz1 hz2 rfl (by decide) ao bs.length bs.length (cellsOf bs) hs ?_ (by rw [cellsOf_length]; omega) ?_ ad m c (cellsOf news) hx (by rw [cellsOf_length]; omega) hc (cellsOf_one news) (by omega) (by unfold maxLen; omega) (by omega) ?_
    · intro h0
      subst h0
      cases bs with
      | nil => simp
      | cons b t =>
        obtain ⟨x, hx, _⟩ := hcells 0 b (by simp)
        cases hx
    · intro b hb j u hu
      obtain ⟨c, hc, rfl⟩ := cellsOf_at hu
      obtain ⟨x, hx, hcell⟩ := hcells j c hc
      rw [hb] at hx
      cases hx
      exact hcell
    · intro v' w' h1 h2
      exact hK v' w' (ownsRow_mono h1 hbase) ((Below.refl _ _).grown h2 hbase (fun k hk => by cases hk))
  · refine wpList_append_own w hg s x 27 hop base 5 i0 (.int .u8 0) 1 1 Tryd.underlying27 hi hz0 hz1 hz2 rfl (by decide) v bs.length (cellsOf bs) hs hown ad m c (cellsOf news) hx (by rw [cellsOf_length]; omega) hc (cellsOf_one news) (by unfold maxLen; omega) (by omega) hbase ?_
    intro v' w' h1 h2 _
    exact hK v' w' h1 ((Below.refl _ _).grown h2 hbase (fun k hk => (hown.lt k hk).1))
theorem or_128 (u : Nat) : bits .or .u8 ((u : Int) % 256) 128 = ((UInt8.ofNat (u % 128 + 128)).toNat : Int) := by
  have h := u8_or_nat (u % 256) 128 (by omega) (by decide)
  have e : ((u : Int) % 256) = ((u % 256 : Nat) : Int) := by omega
  have h2 : u % 256 ||| 128 = u % 128 + 128 := by
    have hd : ∀ n : Fin 256, n.val ||| 128 = n.val % 128 + 128 := by decide +kernel
    have := hd ⟨u % 256, by omega⟩
    simp only at this
    omega
  rw [e, toNat_ofNat _ (by omega), ← h2]
  exact h
set_option maxHeartbeats 400000 in
set_option maxRecDepth 100000 in
theorem put_any (ao : Option Addr) (n cap : Nat) (bs : List UInt8) (v : Nat) (w : World) (hn : n ≤ cap) (hcap : cap ≤ 9223372036854775807) (h0 : ao = none → cap = 0) (hb : Bytes w ao n bs) (hv : v < 18446744073709551616) (hbig : n ≤ 140737488355000) :
    Calls Tryd.prog 89 #[.slice ao n cap, .int .u64 v] w fun e w' => ∃ v', e = .returned v' ∧ w'.ownsRow w.heap.size 5 1 v' (bs ++ putB v).length (cellsOf (bs ++ putB v)) ∧ Below w.heap.size w w' := by
  go_enter Tryd.func89, Tryd.ntmps89
  go_wp2_with fail
  refine (alone_any ao n cap w hn hcap h0).mono ?_
  rintro e w' ⟨rfl, rfl⟩
  go_wp2
  go_loopw [1, 5] (fun x o wr => ∃ (u : Nat) (done : List UInt8), x = .int .u64 u ∧ u < 18446744073709551616 ∧ putB v = done ++ putB u ∧ Buf wr w'.heap.size o (bs ++ done) ∧ Below w'.heap.size w' wr) (fun x _ _ => (intOf x).toNat)
  case atStart => exact ⟨v, [], rfl, hv, rfl, .inl ⟨ao, by rw [List.append_nil, hb.1], by rw [List.append_nil, hb.1]; exact hb⟩, Below.refl _ _⟩
  case round =>
    obtain ⟨u, done, rfl, hu, hp, hbuf, hbel⟩ := hrel
    have HP : Hid (putB v = done ++ putB u) := hp
    have hbl : bs.length ≤ n := by rw [hb.1]; exact Nat.le_refl _
    clear hp hb h0
    have hlen : (bs ++ done).length ≤ 140737488355010 := by
      have h1 := putB_le v
      rw [HP.out, List.length_append] at h1
      rw [List.length_append]; omega
    have hsize := hbel.size
    by_cases hlt : 128 ≤ u
    · obtain ⟨c, hcd⟩ : ∃ c : UInt8, c = UInt8.ofNat (u % 128 + 128) := ⟨_, rfl⟩
      have hor : bits .or .u8 ((u : Int) % 256) 128 = (c.toNat : Int) := by rw [hcd]; exact or_128 u
      have HP2 : Hid (putB v = done ++ [c] ++ putB (u / 128)) := by
        show _ = _
        rw [HP.out, putB_more u hlt hu, hcd, List.append_assoc]; rfl
      clear HP hcd
      go_wp2_with (at_builtin; refine wpList_append_buf _ rfl (.tmp 10) (.tmp 14) rfl w'.heap.size _ (bs ++ done) rfl (hbuf.alloc _) ?hb ⟨wr.heap.size, 0, none⟩ 1 1 [c] rfl rfl (by decide) ?hc ?hlen ?_)
      case hb => simp; omega
      case hc => exact cell_one_new _ _ _
      case hlen => omega
      intro v' w1 hown' hbel'
      have hbelA : Below w'.heap.size w' w1 := (hbel.alloc hsize _).trans hbel'
      clear hbuf hbel hbel'
      go_wp2
      go_roundw
      case rel => exact ⟨u / 128, done ++ [c], by go_num, by omega, HP2.out, .inr (by rw [List.length_append, List.length_append]; exact hown'), hbelA⟩
      case measure => simp [intOf]; omega
    · obtain ⟨c, hcd⟩ : ∃ c : UInt8, c = UInt8.ofNat u := ⟨_, rfl⟩
      have HC : Hid (c.toNat = u) := by show _ = _; rw [hcd]; exact toNat_ofNat u (by omega)
      have HP2 : Hid (putB v = done ++ [c]) := by
        show _ = _
        rw [HP.out, putB_small u (by omega), hcd]
      clear HP hcd
      go_wp2_with (at_builtin; refine wpList_append_buf _ rfl (.tmp 18) (.tmp 21) rfl w'.heap.size _ (bs ++ done) rfl (hbuf.alloc _) ?hb ⟨wr.heap.size, 0, none⟩ 1 1 [c] rfl rfl (by decide) ?hc ?hlen ?_)
      case hb => simp; omega
      case hc => rw [← HC.out]; exact cell_one_new _ _ _
      case hlen => omega
      intro v' w1 hown' hbel'
      have hbelA : Below w'.heap.size w' w1 := (hbel.alloc hsize _).trans hbel'
      clear hbuf hbel hbel'
      go_wp2
      go_ret
      exact ⟨v', rfl, by rw [HP2.out, List.length_append, List.length_append]; exact hown', hbelA⟩
/-- The bytes of a string. -/
def strB (s : ByteArray) : List UInt8 := s.data.toList
theorem strB_length (s : ByteArray) : (strB s).length = s.size := by simp [strB]
/-- The bytes of a text. -/
def textB (s : List UInt8) : List UInt8 := putB s.length ++ s
set_option maxRecDepth 100000 in
set_option maxHeartbeats 400000 in
theorem putText_any (ao : Option Addr) (n cap : Nat) (bs : List UInt8) (s : ByteArray) (w : World) (hn : n ≤ cap) (hcap : cap ≤ 9223372036854775807) (h0 : ao = none → cap = 0) (hb : Bytes w ao n bs) (hbig : n + s.size ≤ 140737488355000) :
    Calls Tryd.prog 88 #[.slice ao n cap, .string s] w fun e w' => ∃ v', e = .returned v' ∧ w'.ownsRow w.heap.size 5 1 v' (bs ++ textB (strB s)).length (cellsOf (bs ++ textB (strB s))) ∧ Below w.heap.size w w' := by
  obtain ⟨i0, hi, hz0, hz1, hz2⟩ := info_parts info5
  go_enter Tryd.func88, Tryd.ntmps88
  go_wp2_with fail
  refine (put_any ao n cap bs s.size w hn hcap h0 hb (by omega) (by omega)).mono ?_
  rintro e w' ⟨v1, rfl, hown, hbel⟩
  have hl1 := putB_le s.size
  have hbl : bs.length ≤ n := by rw [hb.1]; exact Nat.le_refl _
  have hsz := hbel.size
  go_wp2_with (at_builtin; refine Lib.wpList_append_own_string _ rfl (.tmp 9) (.tmp 10) 27 9 rfl w.heap.size 5 i0 Tryd.underlying27 Tryd.underlying9 hi hz0 hz1 hz2 _ _ _ rfl hown s rfl ?h63 ?hby hsz ?_)
  case h63 => unfold maxLen; rw [List.length_append]; omega
  case hby => rw [List.length_append]; omega
  intro v' w2 hown2 hgrow _
  have hbel2 := hbel.grown hgrow hsz (fun k hk => (hown.lt k hk).1)
  go_wp2
  go_ret
  refine ⟨v', rfl, ?_, hbel2⟩
  have e1 : (bs ++ textB (strB s)).length = (bs ++ putB s.size).length + s.size := by simp [textB, strB_length]; omega
  have e2 : cellsOf (bs ++ textB (strB s)) = cellsOf (bs ++ putB s.size) ++ Lib.strCells s := by
    simp only [textB, strB_length, ← List.append_assoc]
    rw [cellsOf_append (bs ++ putB s.size)]; rfl
  rw [e1, e2, List.length_append]
  exact hown2
theorem foldl_push (bs : List UInt8) : ∀ s : ByteArray, (bs.map (fun b => (b.toNat : Int))).foldl (fun r n => r.push (UInt8.ofNat n.toNat)) s = ⟨s.data ++ bs.toArray⟩ := by
  induction bs with
  | nil => intro s; simp
  | cons b t ih =>
    intro s
    rw [List.map_cons, List.foldl_cons, ih]
    have hb : UInt8.ofNat ((b.toNat : Int)).toNat = b := by simp
    rw [hb]
    show ByteArray.mk (s.data.push b ++ t.toArray) = _
    simp
theorem foldl_bytes (bs : List UInt8) : (bs.map (fun b => (b.toNat : Int))).foldl (fun r n => r.push (UInt8.ofNat n.toNat)) ByteArray.empty = ⟨bs.toArray⟩ := by
  rw [foldl_push]
  show ByteArray.mk (#[] ++ bs.toArray) = _
  simp
/-- 'string(b)'. -/
theorem str_bytes {w : World} {ao : Option Addr} {n : Nat} {bs : List UInt8} (cap : Nat) (h : Bytes w ao n bs) :
    (convert 27 9 (.slice ao n cap)).run Tryd.prog w = .ok (.string ⟨bs.toArray⟩) w := by
  rw [run_convert_bytes_string w 27 9 5 _ _ _ Tryd.underlying27 Tryd.underlying5 Tryd.underlying9]
  cases ao with
  | none =>
    have hb : bs = [] := by
      cases bs with
      | nil => rfl
      | cons b t =>
        obtain ⟨x, hx, _⟩ := h.2 0 b (by simp)
        cases hx
    subst hb
    simp [Conv.bytesToString]
    rfl
  | some x =>
    have hl := run_loadCells_list (P := Tryd.prog) (w := w) x (cellsOf bs) (fun j u hu => by
      obtain ⟨c, hc, rfl⟩ := cellsOf_at hu
      obtain ⟨y, hy, hcell⟩ := h.2 j c hc
      cases hy
      exact hcell)
    rw [cellsOf_length, h.1] at hl
    have e : cellsOf bs = (bs.map fun b => (b.toNat : Int)).map (Value.int .u8) := by simp [cellsOf]
    rw [e] at hl
    rw [run_bytesToString w x n cap _ hl, foldl_bytes]
theorem own_bytes {w : World} {base : Nat} {v : Value} {n : Nat} {bs : List UInt8} (h : w.ownsRow base 5 1 v n (cellsOf bs)) :
    ∃ ao cap, v = .slice ao n cap ∧ Bytes w ao n bs ∧ (ao = none → cap = 0) ∧ n ≤ cap ∧ cap ≤ maxLen ∧ n = bs.length ∧ (∀ x, ao = some x → base ≤ x.block ∧ x.block < w.heap.size) := by
  have hlen : n = bs.length := by have := h.1; rw [cellsOf_length] at this; omega
  rcases h.2 with ⟨rfl, h0⟩ | ⟨g, cap, cur, rfl, hb, hg, hn, hm, hs, ht⟩
  · subst h0
    have : bs = [] := List.eq_nil_of_length_eq_zero hlen.symm
    subst this
    exact ⟨none, 0, rfl, ⟨rfl, fun i c hi => by simp at hi⟩, fun _ => rfl, Nat.le_refl _, by simp [maxLen], rfl, fun x hx => by cases hx⟩
  · refine ⟨_, cap, rfl, ⟨hlen.symm, fun i c hi => ⟨_, rfl, ?_⟩⟩, fun h => (by cases h), hn, hm, hlen, fun x hx => ?_⟩
    · exact h.cells (g := g) rfl i _ (by simp [cellsOf, hi])
    · cases hx
      exact ⟨hb, (Array.getElem?_eq_some_iff.1 hg).1⟩
theorem bytes_below {w w' : World} {B : Nat} {ao : Option Addr} {n : Nat} {bs : List UInt8} (h : Bytes w ao n bs) (hb : Below B w w') (hB : ∀ x, ao = some x → x.block < B) : Bytes w' ao n bs := by
  refine ⟨h.1, fun i c hi => ?_⟩
  obtain ⟨x, hx, hc⟩ := h.2 i c hi
  refine ⟨x, hx, ?_⟩
  have hblk : (x.add i).block = x.block := by unfold Addr.add; split <;> rfl
  rw [hb.cell (p := x.add i) (by rw [hblk]; exact hB x hx)]
  exact hc
theorem bytes_nil (w : World) : Bytes w none 0 [] := ⟨rfl, fun i c hi => by simp at hi⟩
/-- Two bytes that were written out. -/
theorem bytes_two (w : World) (a b : UInt8) : Bytes (w.alloc (.cells #[.int .u8 (a.toNat : Int), .int .u8 (b.toNat : Int)] 5)) (some ⟨w.heap.size, 0, none⟩) 2 [a, b] := by
  refine ⟨rfl, fun i c hi => ⟨_, rfl, ?_⟩⟩
  match i, hi with
  | 0, hi => simp at hi; subst hi; simp [Addr.add]
  | 1, hi => simp at hi; subst hi; simp [Addr.add]
  | n + 2, hi => simp at hi
theorem bytes_kept {w w' : World} {B : Nat} {ao : Option Addr} {n : Nat} {bs : List UInt8} (h : Bytes w ao n bs) (hb : Below B w w') (hB : w.heap.size ≤ B) : Bytes w' ao n bs := by
  refine ⟨h.1, fun i c hi => ?_⟩
  obtain ⟨x, hx, hc⟩ := h.2 i c hi
  refine ⟨x, hx, ?_⟩
  have hlt := World.block_lt_of_cell? w _ hc
  rw [hb.cell (p := x.add i) (by omega)]
  exact hc
theorem bytes_take {w : World} {ao : Option Addr} {n : Nat} {bs : List UInt8} (h : Bytes w ao n bs) (k : Nat) (hk : k ≤ n) : Bytes w ao k (bs.take k) := by
  refine ⟨by rw [List.length_take, h.1]; omega, fun i c hi => ?_⟩
  rw [List.getElem?_take] at hi
  split at hi
  · exact h.2 i c hi
  · cases hi
theorem row_bytes {w : World} {a : Option Addr} {len cap : Nat} {zs : List Int}
    (h : (a = none ∧ len = 0 ∧ cap = 0 ∧ zs = []) ∨
      ∃ x, a = some x ∧ len ≤ cap ∧ cap ≤ maxLen ∧ zs.length = cap ∧ (∀ i, i < zs.length → w.cell? (x.add i) = some (.int .u8 (zs.getD i 0))) ∧ ∀ n ∈ zs, (Lit.int .u8 n).wf = true) :
    ∃ bs, Bytes w a len bs ∧ (a = none → cap = 0) ∧ len ≤ cap ∧ cap ≤ 9223372036854775807 := by
  rcases h with ⟨rfl, rfl, rfl, rfl⟩ | ⟨x, rfl, hl, hm, hz, hc, hw⟩
  · exact ⟨[], bytes_nil w, fun _ => rfl, Nat.le_refl _, by omega⟩
  · refine ⟨(zs.take len).map (fun z => UInt8.ofNat z.toNat), ⟨by simp; omega, fun i c hi => ⟨x, rfl, ?_⟩⟩, fun h => (by cases h), hl, by unfold maxLen at hm; omega⟩
    simp only [List.getElem?_map, Option.map_eq_some_iff] at hi
    obtain ⟨z, hz1, rfl⟩ := hi
    rw [List.getElem?_take] at hz1
    split at hz1
    · rename_i hil
      have hmem : z ∈ zs := List.mem_of_getElem? hz1
      have hb := bounds_u8 (hw z hmem)
      rw [hc i (by omega)]
      have hg : zs.getD i 0 = z := by rw [List.getD_eq_getElem?_getD, hz1]; rfl
      rw [hg, toNat_ofNat z.toNat (by omega), Int.toNat_of_nonneg hb.1]
    · cases hz1
/-- What bytes tell as a text. -/
def textOf (bs : List UInt8) : List UInt8 × Nat × Bool :=
  if (getB bs).2.2 = false ∨ bs.length - (getB bs).2.1 < (getB bs).1 then ([], 0, false)
  else ((bs.drop (getB bs).2.1).take (getB bs).1, (getB bs).2.1 + (getB bs).1, true)
theorem bytes_drop {w : World} {b off : Nat} {n : Nat} {bs : List UInt8} (h : Bytes w (some ⟨b, off, none⟩) n bs) (k : Nat) : Bytes w (some ⟨b, off + k, none⟩) (n - k) (bs.drop k) := by
  refine ⟨by rw [List.length_drop, h.1], fun i c hi => ⟨_, rfl, ?_⟩⟩
  rw [List.getElem?_drop] at hi
  obtain ⟨x, hx, hc⟩ := h.2 (k + i) c hi
  cases hx
  rw [Addr.add_lit] at hc ⊢
  rw [Nat.add_assoc]
  exact hc
set_option maxRecDepth 100000 in
set_option maxHeartbeats 400000 in
theorem text_no (ao : Option Addr) (len cap : Nat) (bs : List UInt8) (w : World) (hb : Bytes w ao len bs) (hmax : len ≤ 9223372036854775807)
    (hno : (getB bs).2.2 = false) :
    Calls Tryd.prog 141 #[.slice ao len cap] w fun e w' => e = .returned (.tuple #[.string ⟨#[]⟩, .int .i64 0, .bool false]) ∧ w' = w := by
  have hg := get_any ao len cap bs w hb hmax
  rw [hno] at hg
  have HG := hg
  clear hno hg
  go_enter Tryd.func141, Tryd.ntmps141
  go_wp2_with fail
  refine HG.mono ?_
  rintro e w2 ⟨rfl, rfl⟩
  go_wp2
  go_ret3
  exact ⟨rfl, rfl⟩
set_option maxRecDepth 100000 in
set_option maxHeartbeats 400000 in
theorem text_short (b off : Nat) (len cap : Nat) (bs : List UInt8) (v n : Nat) (w : World) (hb : Bytes w (some ⟨b, off, none⟩) len bs) (hmax : len ≤ 9223372036854775807)
    (hyes : getB bs = (v, n, true)) (hshort : len - n < v) :
    Calls Tryd.prog 141 #[.slice (some ⟨b, off, none⟩) len cap] w fun e w' => e = .returned (.tuple #[.string ⟨#[]⟩, .int .i64 0, .bool false]) ∧ w' = w := by
  obtain ⟨hv, hn1, hn2, _, _⟩ := getB_once bs v n hyes
  have hn3 : n ≤ len := by have := hb.1; omega
  have HG := get_any (some ⟨b, off, none⟩) len cap bs w hb hmax
  rw [hyes] at HG
  clear hyes
  have h1 : (len : Int) - (n : Int) < (v : Int) := by omega
  go_enter Tryd.func141, Tryd.ntmps141
  go_wp2_with fail
  refine HG.mono ?_
  rintro e w2 ⟨rfl, rfl⟩
  go_wp2
  go_ret3
  exact ⟨rfl, rfl⟩
set_option maxRecDepth 100000 in
set_option maxHeartbeats 400000 in
theorem text_yes (b off : Nat) (len cap : Nat) (bs : List UInt8) (v n : Nat) (w : World) (hb : Bytes w (some ⟨b, off, none⟩) len bs) (hlc : len ≤ cap) (hmax : cap ≤ 9223372036854775807)
    (hyes : getB bs = (v, n, true)) (hfit : v ≤ len - n) :
    Calls Tryd.prog 141 #[.slice (some ⟨b, off, none⟩) len cap] w fun e w' => e = .returned (.tuple #[.string ⟨((bs.drop n).take v).toArray⟩, .int .i64 ((n + v : Nat) : Int), .bool true]) ∧ w' = w := by
  obtain ⟨hv, hn1, hn2, _, _⟩ := getB_once bs v n hyes
  have hn3 : n ≤ len := by have := hb.1; omega
  have HG := get_any (some ⟨b, off, none⟩) len cap bs w hb (by omega)
  rw [hyes] at HG
  clear hyes
  have h1 : (v : Int) ≤ (len : Int) - (n : Int) := by omega
  have hsA := str_bytes (cap - n) (bytes_take (bytes_drop hb n) v hfit)
  by_cases hcn : n < cap
  · clear hb
    go_enter Tryd.func141, Tryd.ntmps141
    go_wp2_with fail
    refine HG.mono ?_
    rintro e w2 ⟨rfl, rfl⟩
    go_wp2
    go_ret3
    exact ⟨rfl, rfl⟩
  · have hv0 : v = 0 := by omega
    have hcap : cap = n := by omega
    subst hv0
    subst hcap
    have hsB := str_bytes 0 (show Bytes w (some ⟨b, off, none⟩) 0 [] from ⟨rfl, fun i c hi => by simp at hi⟩)
    clear hb hsA
    go_enter Tryd.func141, Tryd.ntmps141
    go_wp2_with fail
    refine HG.mono ?_
    rintro e w2 ⟨rfl, rfl⟩
    go_wp2
    go_ret3
    exact ⟨rfl, rfl⟩
/-- codec.Text, of whatever bytes. -/
theorem text_any (ao : Option Addr) (len cap : Nat) (bs : List UInt8) (w : World) (hb : Bytes w ao len bs) (hlc : len ≤ cap) (hmax : cap ≤ 9223372036854775807) :
    Calls Tryd.prog 141 #[.slice ao len cap] w fun e w' => e = .returned (.tuple #[.string ⟨(textOf bs).1.toArray⟩, .int .i64 (textOf bs).2.1, .bool (textOf bs).2.2]) ∧ w' = w := by
  by_cases hno : (getB bs).2.2 = false
  · rw [show textOf bs = ([], 0, false) from by unfold textOf; rw [if_pos (.inl hno)]]
    exact text_no ao len cap bs w hb (by omega) hno
  · have hyes : getB bs = ((getB bs).1, (getB bs).2.1, true) := by
      have : (getB bs).2.2 = true := by simpa using hno
      rw [← this]
    have hl := hb.1
    have hp : 0 < len := by
      have := getB_once bs _ _ hyes
      omega
    obtain ⟨b, off, rfl, _⟩ := bytes_at hb hp
    by_cases hs : len - (getB bs).2.1 < (getB bs).1
    · rw [show textOf bs = ([], 0, false) from by unfold textOf; rw [if_pos (.inr (by rw [hl]; exact hs))]]
      exact text_short b off len cap bs _ _ w hb (by omega) hyes hs
    · rw [show textOf bs = ((bs.drop (getB bs).2.1).take (getB bs).1, (getB bs).2.1 + (getB bs).1, true) from by
        unfold textOf; rw [if_neg (by rw [hl]; exact fun h => h.elim hno hs)]]
      exact text_yes b off len cap bs _ _ w hb hlc hmax hyes (by omega)
theorem bel_drewN {B : Nat} {w w' : World} (h : Below B w w') : ∀ n, Below B w (w'.drewN n)
  | 0 => h
  | n + 1 => (bel_drewN h n).drew
theorem textOf_textB (s more : List UInt8) (hs : s.length < 18446744073709551616) : textOf (textB s ++ more) = (s, (textB s).length, true) := by
  have hg : getB (textB s ++ more) = (s.length, (putB s.length).length, true) := by
    rw [textB, List.append_assoc]; exact getB_putB s.length hs (s ++ more)
  have hd : (textB s ++ more).drop (putB s.length).length = s ++ more := by
    rw [textB, List.append_assoc, List.drop_left]
  unfold textOf
  rw [hg, if_neg (by simp [textB])]
  simp only [hd, List.take_left]
  simp [textB]
/-- 'append(own, more...)'. -/
theorem wpList_append_bytes {ops : Array Oper} {rest : List Oper} {o : Oper} {a : Act} {Q : Exit → Act → World → Prop} (w : World)
    (hg : o.guard = none) (s x : Operand) (hop : o.op = Op.call { callee := Callee.builtin Builtin.append, args := #[s, x], argTypes := #[27, 27] })
    (base : Nat) (v : Value) (n : Nat) (bs : List UInt8) (hs : a.eval s = v) (hown : w.ownsRow base 5 1 v n (cellsOf bs)) (hbase : base ≤ w.heap.size)
    (ao : Option Addr) (m c : Nat) (ms : List UInt8) (hx : a.eval x = .slice ao m c) (hm : Bytes w ao m ms) (h0 : ao = none → c = 0)
    (hb : n + m ≤ 140737488355328)
    (hK : ∀ v' w', w'.ownsRow base 5 1 v' (bs ++ ms).length (cellsOf (bs ++ ms)) → Below base w w' → wpList Tryd.prog ops Q rest (a.put o.dst v') w') :
    wpList Tryd.prog ops Q (o :: rest) a w := by
  obtain ⟨i0, hi, hz0, hz1, hz2⟩ := info_parts info5
  have hn : n = bs.length := by have := hown.1; rw [cellsOf_length] at this; omega
  have hml := hm.1
  cases ao with
  | none =>
    have hms : ms = [] := by
      cases ms with
      | nil => rfl
      | cons b t =>
        obtain ⟨y, hy, _⟩ := hm.2 0 b (by simp)
        cases hy
    subst hms
    obtain rfl := h0 rfl
    have hm0 : m = 0 := by simpa using hml.symm
    subst hm0
    refine wpList_append_own_none hg s x 27 hop base 5 i0 1 Tryd.underlying27 hi v n (cellsOf bs) hs hown hx ?_
    exact hK v w (by rw [List.append_nil, ← hn]; exact hown) (Below.refl _ _)
  | some ad =>
    refine wpList_append_own w hg s x 27 hop base 5 i0 (.int .u8 0) 1 1 Tryd.underlying27 hi hz0 hz1 hz2 rfl (by decide) v n (cellsOf bs) hs hown ad m c (cellsOf ms) hx (by rw [cellsOf_length]; omega) ?_ (cellsOf_one ms) (by unfold maxLen; omega) (by omega) hbase ?_
    · intro j u hu
      obtain ⟨c, hc, rfl⟩ := cellsOf_at hu
      obtain ⟨y, hy, hcell⟩ := hm.2 j c hc
      cases hy
      exact hcell
    · intro v' w' h1 h2 _
      refine hK v' w' ?_ ((Below.refl _ _).grown h2 hbase (fun k hk => (hown.lt k hk).1))
      rw [List.length_append, hml, ← hn, cellsOf_append]
      exact h1
/-- The same, for a reader: the new slice written out, its numbers letters. -/
theorem wpList_append_read {ops : Array Oper} {rest : List Oper} {o : Oper} {a : Act} {Q : Exit → Act → World → Prop} (w : World)
    (hg : o.guard = none) (s x : Operand) (hop : o.op = Op.call { callee := Callee.builtin Builtin.append, args := #[s, x], argTypes := #[27, 27] })
    (base : Nat) (v : Value) (n : Nat) (bs : List UInt8) (hs : a.eval s = v) (hown : w.ownsRow base 5 1 v n (cellsOf bs)) (hbase : base ≤ w.heap.size)
    (ao : Option Addr) (m c : Nat) (ms : List UInt8) (hx : a.eval x = .slice ao m c) (hm : Bytes w ao m ms) (h0 : ao = none → c = 0)
    (hb : n + m ≤ 140737488355328)
    (hK : ∀ ao' n' c' w', Bytes w' ao' n' (bs ++ ms) → n' ≤ c' → c' ≤ 9223372036854775807 → n' ≤ n + m → Below base w w' → wpList Tryd.prog ops Q rest (a.put o.dst (.slice ao' n' c')) w') :
    wpList Tryd.prog ops Q (o :: rest) a w := by
  refine wpList_append_bytes w hg s x hop base v n bs hs hown hbase ao m c ms hx hm h0 hb ?_
  intro v' w' hown' hbel'
  obtain ⟨ao3, c3, rfl, hb3, _, hlc3, hcm3, _, _⟩ := own_bytes hown'
  have hn : n = bs.length := by have := hown.1; rw [cellsOf_length] at this; omega
  have hml := hm.1
  exact hK ao3 _ c3 w' hb3 hlc3 (by unfold maxLen at hcm3; omega) (by rw [List.length_append]; omega) hbel'
theorem put_own (v : Nat) (w : World) (hv : v < 18446744073709551616) : Calls Tryd.prog 89 #[.slice none 0 0, .int .u64 v] w fun e w' =>
    ∃ ao c, e = .returned (.slice ao (sz v) c) ∧ w'.ownsRow w.heap.size 5 1 (.slice ao (sz v) c) (sz v) (cellsOf (putB v)) ∧ Below w.heap.size w w' := by
  refine (put_any none 0 0 [] v w (by omega) (by omega) (fun _ => rfl) (bytes_nil w) hv (by omega)).mono ?_
  rintro e w' ⟨v', rfl, hown, hbel⟩
  rw [List.nil_append] at hown
  obtain ⟨ao, cap, rfl, hb, _⟩ := own_bytes hown
  exact ⟨ao, cap, rfl, hown, hbel⟩
theorem putText_own (s : ByteArray) (t : Nat) (ht : (textB (strB s)).length = t) (w : World) (hs : s.size ≤ 140737488355000) : Calls Tryd.prog 88 #[.slice none 0 0, .string s] w fun e w' =>
    ∃ ao c, e = .returned (.slice ao t c) ∧ w'.ownsRow w.heap.size 5 1 (.slice ao t c) t (cellsOf (textB (strB s))) ∧ Below w.heap.size w w' := by
  refine (putText_any none 0 0 [] s w (by omega) (by omega) (fun _ => rfl) (bytes_nil w) (by omega)).mono ?_
  rintro e w' ⟨v', rfl, hown, hbel⟩
  rw [List.nil_append, ht] at hown
  obtain ⟨ao, cap, rfl, hb, _⟩ := own_bytes hown
  exact ⟨ao, cap, rfl, hown, hbel⟩
theorem get_put (ao : Option Addr) (n cap v : Nat) (ms : List UInt8) (w : World) (h : Bytes w ao n (putB v ++ ms)) (hv : v < 18446744073709551616) (hn : n ≤ 9223372036854775807) :
    Calls Tryd.prog 140 #[.slice ao n cap] w fun e w' => e = .returned (.tuple #[.int .u64 v, .int .i64 (sz v), .bool true]) ∧ w' = w := by
  have hg := get_any ao n cap _ w h hn
  rw [getB_putB v hv ms] at hg
  exact hg
theorem text_put (ao : Option Addr) (n cap : Nat) (s ms : List UInt8) (t : Nat) (ht : (textB s).length = t) (w : World) (h : Bytes w ao n (textB s ++ ms)) (hs : s.length < 18446744073709551616) (hn : n ≤ cap) (hcap : cap ≤ 9223372036854775807) :
    Calls Tryd.prog 141 #[.slice ao n cap] w fun e w' => e = .returned (.tuple #[.string ⟨s.toArray⟩, .int .i64 t, .bool true]) ∧ w' = w := by
  have hg := text_any ao n cap _ w h hn hcap
  rw [textOf_textB s ms hs, ht] at hg
  exact hg
theorem str_drop (s : ByteArray) (k : Nat) (h : k < s.size) : (strB s).drop k = s[k] :: (strB s).drop (k + 1) := by
  have h2 : k < (strB s).length := by rw [strB_length]; exact h
  rw [List.drop_eq_getElem_cons h2]
  rfl
set_option maxRecDepth 100000 in
set_option maxHeartbeats 400000 in
theorem refGet_any (s : ByteArray) (w : World) (hs : s.size ≤ 9223372036854775807) :
    Calls Tryd.prog 109 #[.string s] w fun e w' =>
      e = .returned (.tuple #[.int .u64 (getB (strB s)).1, .int .i64 (getB (strB s)).2.1, .bool (getB (strB s)).2.2]) ∧ w' = w := by
  go_enter Tryd.func109, Tryd.ntmps109
  go_wp2
  go_loop [5, 6] (fun x i => ∃ (k X : Nat), k ≤ s.size ∧ k ≤ 9 ∧ i = .int .i64 k ∧ x = .int .u64 X ∧ X < 128 ^ k ∧ getB (strB s) = getF k X ((strB s).drop k)) (fun _ i => s.size - (intOf i).toNat)
  case atStart => exact ⟨0, 0, by omega, by omega, rfl, rfl, by omega, rfl⟩
  case round =>
    obtain ⟨k, X, hk, hk9, rfl, rfl, hX, hd⟩ := hrel
    by_cases hlt : k < s.size
    · have HD : Hid (getB (strB s) = getF k X (s[k] :: (strB s).drop (k + 1))) := by show _ = _; rw [hd, ← str_drop]
      have hc256 : s[k].toNat < 256 := s[k].toNat_lt
      have HO : Hid ((k = 9 → s[k].toNat ≤ 1) → bits .or .u64 (X : Int) (IntKind.u64.wrap ((s[k].toNat : Int) % 128 * 2 ^ (7 * k))) = ((X + s[k].toNat % 128 * 128 ^ k : Nat) : Int) ∧ X + s[k].toNat % 128 * 128 ^ k < 128 ^ (k + 1) ∧ X + s[k].toNat % 128 * 128 ^ k < 18446744073709551616) :=
        fun h => or_step X k s[k].toNat hk9 hX hc256 h
      clear hd hX
      by_cases hk : k = 9
      · subst hk
        by_cases h1 : 1 < s[9].toNat
        · have HV : Hid (getB (strB s) = (0, 0, false)) := by show _ = _; rw [HD.out, getF_step, if_pos ⟨rfl, h1⟩]
          clear HD HO
          go_wp2
          go_ret3
          exact ⟨tup3 (by rw [HV.out]; rfl) (by rw [HV.out]; rfl) (by rw [HV.out]), rfl⟩
        · by_cases h0 : s[9].toNat = 0
          · have HV : Hid (getB (strB s) = (0, 0, false)) := by show _ = _; rw [HD.out, getF_step, if_neg (by omega), if_neg (by omega), if_pos ⟨h0, by omega⟩]
            clear HD HO
            go_wp2
            go_ret3
            exact ⟨tup3 (by rw [HV.out]; rfl) (by rw [HV.out]; rfl) (by rw [HV.out]), rfl⟩
          · have HV : Hid (getB (strB s) = (X + s[9].toNat % 128 * 128 ^ 9, 9 + 1, true)) := by show _ = _; rw [HD.out, getF_step, if_neg (by omega), if_neg (by omega), if_neg (by omega)]
            have HE' : Hid (bits .or .u64 (X : Int) ((s[9].toNat : Int) % 128 * 9223372036854775808) = ((X + s[9].toNat % 128 * 128 ^ 9 : Nat) : Int)) := by
              have h := (HO.out (by omega)).1
              rw [show (2 : Int) ^ (7 * 9) = 9223372036854775808 from by decide, IntWalk.u64_in _ ⟨by omega, by omega⟩] at h
              exact h
            clear HD HO
            have hb : (((s[9].toNat : Int)) == 0) = false := by simp; omega
            go_wp2
            go_ret3
            exact ⟨tup3 (by rw [HV.out]; exact HE'.out) (by rw [HV.out]; rfl) (by rw [HV.out]), rfl⟩
      · by_cases h128 : 128 ≤ s[k].toNat
        · have HV : Hid (getB (strB s) = getF (k + 1) (X + s[k].toNat % 128 * 128 ^ k) ((strB s).drop (k + 1))) := by show _ = _; rw [HD.out, getF_step, if_neg (by omega), if_pos h128]
          have HE : Hid (_ ∧ _ ∧ _) := HO.out (by omega)
          clear HD HO
          go_wp2
          go_round
          case rel => exact ⟨k + 1, X + s[k].toNat % 128 * 128 ^ k, by omega, by omega, by go_num, by rw [HE.out.1], HE.out.2.1, HV.out⟩
          case measure => simp [intOf]; omega
        · by_cases h0 : s[k].toNat = 0 ∧ 0 < k
          · have HV : Hid (getB (strB s) = (0, 0, false)) := by show _ = _; rw [HD.out, getF_step, if_neg (by omega), if_neg (by omega), if_pos h0]
            obtain ⟨h0, hk0⟩ := h0
            clear HD HO
            go_wp2
            go_ret3
            exact ⟨tup3 (by rw [HV.out]; rfl) (by rw [HV.out]; rfl) (by rw [HV.out]), rfl⟩
          · have HV : Hid (getB (strB s) = (X + s[k].toNat % 128 * 128 ^ k, k + 1, true)) := by show _ = _; rw [HD.out, getF_step, if_neg (by omega), if_neg (by omega), if_neg h0]
            have HE : Hid (_ ∧ _ ∧ _) := HO.out (by omega)
            clear HD HO
            by_cases hk0 : 0 < k
            · have hb : (((s[k].toNat : Int)) == 0) = false := by simp; omega
              clear h0
              go_wp2
              go_ret3
              exact ⟨tup3 (by rw [HV.out]; exact HE.out.1) (by rw [HV.out]; rfl) (by rw [HV.out]), rfl⟩
            · have hk1 : k < 1 := by omega
              clear h0 hk0
              go_wp2
              go_ret3
              exact ⟨tup3 (by rw [HV.out]; exact HE.out.1) (by rw [HV.out]; rfl) (by rw [HV.out]), rfl⟩
    · have HV : Hid (getB (strB s) = (0, 0, false)) := by show _ = _; rw [hd, List.drop_eq_nil_of_le (by rw [strB_length]; omega)]; rfl
      clear hd
      go_wp2
      go_ret3
      exact ⟨tup3 (by rw [HV.out]; rfl) (by rw [HV.out]; rfl) (by rw [HV.out]), rfl⟩
theorem str_mk (s : ByteArray) : s = ⟨(strB s).toArray⟩ := by
  cases s
  simp [strB]
theorem strB_mk (l : List UInt8) : strB ⟨l.toArray⟩ = l := by simp [strB]
theorem extract_strB (s : ByteArray) (a v : Nat) : s.extract a (a + v) = ⟨(((strB s).drop a).take v).toArray⟩ := by
  have h := ByteArray.extract_mk (strB s) a (a + v)
  rw [← str_mk s, Nat.add_sub_cancel_left] at h
  exact h
set_option maxRecDepth 100000 in
set_option maxHeartbeats 400000 in
theorem refText_any (s : ByteArray) (w : World) (hs : s.size ≤ 9223372036854775807) :
    Calls Tryd.prog 110 #[.string s] w fun e w' =>
      e = .returned (.tuple #[.string ⟨(textOf (strB s)).1.toArray⟩, .int .i64 (textOf (strB s)).2.1, .bool (textOf (strB s)).2.2]) ∧ w' = w := by
  have hl := strB_length s
  by_cases hno : (getB (strB s)).2.2 = false
  · rw [show textOf (strB s) = ([], 0, false) from by unfold textOf; rw [if_pos (.inl hno)]]
    have HG := refGet_any s w hs
    rw [hno] at HG
    clear hno hl
    go_enter Tryd.func110, Tryd.ntmps110
    go_wp2_with fail
    refine HG.mono ?_
    rintro e w2 ⟨rfl, rfl⟩
    go_wp2
    go_ret3
    exact ⟨rfl, rfl⟩
  · have hyes : getB (strB s) = ((getB (strB s)).1, (getB (strB s)).2.1, true) := by
      have : (getB (strB s)).2.2 = true := by simpa using hno
      rw [← this]
    generalize (getB (strB s)).1 = v at hyes
    generalize (getB (strB s)).2.1 = n at hyes
    obtain ⟨hv, hn1, hn2, _, _⟩ := getB_once _ v n hyes
    have hn3 : n ≤ s.size := by omega
    have HG := refGet_any s w hs
    rw [hyes] at HG
    by_cases hsh : s.size - n < v
    · rw [show textOf (strB s) = ([], 0, false) from by unfold textOf; rw [hyes]; rw [if_pos (.inr (by rw [hl]; exact hsh))]]
      have h1 : (s.size : Int) - (n : Int) < (v : Int) := by omega
      clear hyes hno hl
      go_enter Tryd.func110, Tryd.ntmps110
      go_wp2_with fail
      refine HG.mono ?_
      rintro e w2 ⟨rfl, rfl⟩
      go_wp2
      go_ret3
      exact ⟨rfl, rfl⟩
    · rw [show textOf (strB s) = (((strB s).drop n).take v, n + v, true) from by
        unfold textOf; rw [hyes]; rw [if_neg (by rw [hl]; simp; omega)]]
      have h1 : (v : Int) ≤ (s.size : Int) - (n : Int) := by omega
      rw [← extract_strB s n v]
      clear hyes hno hl
      go_enter Tryd.func110, Tryd.ntmps110
      go_wp2_with fail
      refine HG.mono ?_
      rintro e w2 ⟨rfl, rfl⟩
      go_wp2
      go_ret3
      exact ⟨rfl, rfl⟩
/-- One byte that was written out. -/
theorem bytes_one (w : World) (a : UInt8) : Bytes (w.alloc (.cells #[.int .u8 (a.toNat : Int)] 5)) (some ⟨w.heap.size, 0, none⟩) 1 [a] := by
  refine ⟨rfl, fun i c hi => ⟨_, rfl, ?_⟩⟩
  match i, hi with
  | 0, hi => simp at hi; subst hi; simp [Addr.add]
  | n + 1, hi => simp at hi
set_option maxRecDepth 100000 in
set_option maxHeartbeats 400000 in
theorem refPut_any (s : ByteArray) (v : Nat) (w : World) (hv : v < 18446744073709551616) (hs : s.size ≤ 4611686018427387904) :
    Calls Tryd.prog 102 #[.string s, .int .u64 v] w fun e w' => e = .returned (.string ⟨(strB s ++ putB v).toArray⟩) ∧ Below w.heap.size w w' := by
  go_enter Tryd.func102, Tryd.ntmps102
  go_wp2
  go_loopw [0, 1] (fun t x wr => ∃ (u : Nat) (done : List UInt8), x = .int .u64 u ∧ u < 18446744073709551616 ∧ putB v = done ++ putB u ∧ t = .string ⟨(strB s ++ done).toArray⟩ ∧ Below w.heap.size w wr) (fun _ x _ => (intOf x).toNat)
  case atStart => exact ⟨v, [], rfl, hv, rfl, by rw [List.append_nil, ← str_mk], Below.refl _ _⟩
  case round =>
    obtain ⟨u, done, rfl, hu, hp, rfl, hbel⟩ := hrel
    obtain ⟨t, ht⟩ : ∃ t : ByteArray, t = ⟨(strB s ++ done).toArray⟩ := ⟨_, rfl⟩
    have hts : t.size ≤ 4611686018427387914 := by
      have h1 := putB_le v
      rw [hp, List.length_append] at h1
      have h2 := strB_length s
      rw [ht]
      show (strB s ++ done).toArray.size ≤ _
      rw [List.size_toArray, List.length_append]
      omega
    rw [← ht]
    have HP : Hid (putB v = done ++ putB u) := hp
    have HT : Hid (t = ⟨(strB s ++ done).toArray⟩) := ht
    have hsize := hbel.size
    clear hp ht
    by_cases hlt : 128 ≤ u
    · obtain ⟨c, hcd⟩ : ∃ c : UInt8, c = UInt8.ofNat (u % 128 + 128) := ⟨_, rfl⟩
      have hcn : (u : Int) % 128 + 128 = (c.toNat : Int) := by rw [hcd, toNat_ofNat _ (by omega)]; omega
      have HP2 : Hid (putB v = done ++ [c] ++ putB (u / 128)) := by
        show _ = _
        rw [HP.out, putB_more u hlt hu, hcd, List.append_assoc]; rfl
      obtain ⟨q, hq⟩ : ∃ q : ByteArray, q = ⟨[c].toArray⟩ := ⟨_, rfl⟩
      have hqs : q.size ≤ 1 := by rw [hq]; exact Nat.le_refl _
      have HQ : Hid (t ++ q = ⟨(strB s ++ (done ++ [c])).toArray⟩) := by
        show _ = _
        rw [HT.out, hq, ByteArray.mk_append_mk, List.append_assoc]
      have hcv := str_bytes 1 (bytes_one wr c)
      rw [← hq, ← hcn] at hcv
      have hbelA : Below w.heap.size w (wr.alloc (.cells #[.int .u8 ((u : Int) % 128 + 128)] 5)) := hbel.alloc hsize _
      clear HP HT hcd hcn hq
      go_wp2
      go_roundw
      case rel => exact ⟨u / 128, done ++ [c], by go_num, by omega, HP2.out, by rw [HQ.out], hbelA⟩
      case measure => simp [intOf]; omega
    · obtain ⟨c, hcd⟩ : ∃ c : UInt8, c = UInt8.ofNat u := ⟨_, rfl⟩
      have hcn : (u : Int) = (c.toNat : Int) := by rw [hcd, toNat_ofNat _ (by omega)]
      have HP2 : Hid (putB v = done ++ [c]) := by
        show _ = _
        rw [HP.out, putB_small u (by omega), hcd]
      obtain ⟨q, hq⟩ : ∃ q : ByteArray, q = ⟨[c].toArray⟩ := ⟨_, rfl⟩
      have hqs : q.size ≤ 1 := by rw [hq]; exact Nat.le_refl _
      have HQ : Hid (t ++ q = ⟨(strB s ++ (done ++ [c])).toArray⟩) := by
        show _ = _
        rw [HT.out, hq, ByteArray.mk_append_mk, List.append_assoc]
      have hcv := str_bytes 1 (bytes_one wr c)
      rw [← hq, ← hcn] at hcv
      have hbelA : Below w.heap.size w (wr.alloc (.cells #[.int .u8 (u : Int)] 5)) := hbel.alloc hsize _
      clear HP HT hcd hcn hq
      go_wp2
      go_ret
      exact ⟨by rw [HP2.out, ← HQ.out]; rfl, hbelA⟩
set_option maxRecDepth 100000 in
set_option maxHeartbeats 400000 in
theorem refPutText_any (s t : ByteArray) (w : World) (hs : s.size ≤ 4611686018427387904) (ht : t.size ≤ 2305843009213693952) :
    Calls Tryd.prog 101 #[.string s, .string t] w fun e w' => e = .returned (.string ⟨(strB s ++ textB (strB t)).toArray⟩) ∧ Below w.heap.size w w' := by
  have hl := putB_le t.size
  have HP := refPut_any s t.size w (by omega) hs
  have hsz : (⟨(strB s ++ putB t.size).toArray⟩ : ByteArray).size ≤ 4611686018427387914 := by
    show (strB s ++ putB t.size).toArray.size ≤ _
    rw [List.size_toArray, List.length_append, strB_length]
    omega
  have HQ : Hid ((⟨(strB s ++ putB t.size).toArray⟩ : ByteArray) ++ t = ⟨(strB s ++ textB (strB t)).toArray⟩) := by
    show _ = _
    rw [textB, strB_length, ← List.append_assoc]
    rw [str_mk t, strB_mk, ByteArray.mk_append_mk]
    rfl
  generalize (⟨(strB s ++ putB t.size).toArray⟩ : ByteArray) = q at *
  go_enter Tryd.func101, Tryd.ntmps101
  go_wp2_with fail
  refine HP.mono ?_
  rintro e w' ⟨rfl, hbel⟩
  go_wp2
  go_ret
  exact ⟨by rw [← HQ.out]; rfl, hbel⟩
/-- An empty slice that was written out. -/
theorem own_empty (w : World) : (w.alloc (.cells #[] 5)).ownsRow w.heap.size 5 1 (.slice (some ⟨w.heap.size, 0, none⟩) 0 0) 0 (cellsOf []) :=
  World.ownsRow_made w #[] 0 (Nat.le_refl _) (by unfold maxLen; omega) rfl
theorem bel_alloc (w : World) (o : Obj) : Below w.heap.size w (w.alloc o) := (Below.refl _ _).alloc (Nat.le_refl _) _
theorem own_shape {w : World} {base : Nat} {v : Value} {n : Nat} {xs : List Value} (h : w.ownsRow base 5 1 v n xs) (hn : 0 < n) :
    ∃ g c, v = .slice (some ⟨g, 0, none⟩) n c ∧ base ≤ g ∧ g < w.heap.size ∧ n ≤ c ∧ c ≤ 9223372036854775807 := by
  rcases h.2 with ⟨rfl, h0⟩ | ⟨g, cap, cur, rfl, hb, hg, hn, hm, hs, ht⟩
  · omega
  · exact ⟨g, cap, rfl, hb, (Array.getElem?_eq_some_iff.1 hg).1, hn, by unfold maxLen at hm; omega⟩
theorem own_below {w w' : World} {B base : Nat} {e : TypeId} {size : Nat} {v : Value} {n : Nat} {xs : List Value} (h : w.ownsRow base e size v n xs) (hb : Below B w w') (hB : w.heap.size ≤ B) : w'.ownsRow base e size v n xs := by
  refine ⟨h.1, ?_⟩
  rcases h.2 with hn | ⟨g, cap, cur, rfl, hbg, hg, r⟩
  · exact .inl hn
  · have hlt := (Array.getElem?_eq_some_iff.1 hg).1
    exact .inr ⟨g, cap, cur, rfl, hbg, by rw [hb.block g (by omega)]; exact hg, r⟩
theorem own_row_bytes {w : World} {base g m c : Nat} {bs : List UInt8} (h : w.ownsRow base 5 1 (.slice (some ⟨g, 0, none⟩) m c) m (cellsOf bs)) : Bytes w (some ⟨g, 0, none⟩) m bs := by
  obtain ⟨ao', c', he, hb', _⟩ := own_bytes h
  cases he
  exact hb'
theorem bytes_drew1 {w : World} {ao : Option Addr} {n : Nat} {bs : List UInt8} (h : Bytes w ao n bs) : Bytes w.drew ao n bs := bytes_kept h (Below.drew (Below.refl w.heap.size w)) (Nat.le_refl _)
theorem put_shape (ao : Option Addr) (n cap : Nat) (bs : List UInt8) (v : Nat) (m : Nat) (hm : (bs ++ putB v).length = m) (w : World) (hn : n ≤ cap) (hcap : cap ≤ 9223372036854775807) (h0 : ao = none → cap = 0) (hb : Bytes w ao n bs) (hv : v < 18446744073709551616) (hbig : n ≤ 140737488355000) :
    Calls Tryd.prog 89 #[.slice ao n cap, .int .u64 v] w fun e w' => ∃ g c, e = .returned (.slice (some ⟨g, 0, none⟩) m c) ∧ w'.ownsRow w.heap.size 5 1 (.slice (some ⟨g, 0, none⟩) m c) m (cellsOf (bs ++ putB v)) ∧ w.heap.size ≤ g ∧ g < w'.heap.size ∧ Below w.heap.size w w' := by
  refine (put_any ao n cap bs v w hn hcap h0 hb hv hbig).mono ?_
  rintro e w' ⟨v', rfl, hown, hbel⟩
  rw [hm] at hown
  have hp := putB_pos v
  obtain ⟨g, c, rfl, h1, h2, h3, h4⟩ := own_shape hown (by rw [← hm, List.length_append]; omega)
  exact ⟨g, c, rfl, hown, h1, h2, hbel⟩
theorem putText_shape (ao : Option Addr) (n cap : Nat) (bs : List UInt8) (s : ByteArray) (m : Nat) (hm : (bs ++ textB (strB s)).length = m) (w : World) (hn : n ≤ cap) (hcap : cap ≤ 9223372036854775807) (h0 : ao = none → cap = 0) (hb : Bytes w ao n bs) (hbig : n + s.size ≤ 140737488355000) :
    Calls Tryd.prog 88 #[.slice ao n cap, .string s] w fun e w' => ∃ g c, e = .returned (.slice (some ⟨g, 0, none⟩) m c) ∧ w'.ownsRow w.heap.size 5 1 (.slice (some ⟨g, 0, none⟩) m c) m (cellsOf (bs ++ textB (strB s))) ∧ w.heap.size ≤ g ∧ g < w'.heap.size ∧ Below w.heap.size w w' := by
  refine (putText_any ao n cap bs s w hn hcap h0 hb hbig).mono ?_
  rintro e w' ⟨v', rfl, hown, hbel⟩
  rw [hm] at hown
  have hp := putB_pos (strB s).length
  obtain ⟨g, c, rfl, h1, h2, h3, h4⟩ := own_shape hown (by rw [← hm, List.length_append, textB, List.length_append]; omega)
  exact ⟨g, c, rfl, hown, h1, h2, hbel⟩
/-- 'append([]byte{}, b...)' for a reader who may append to it: as 'wpList_append_read', and what a nil one would be. -/
theorem wpList_append_copy {ops : Array Oper} {rest : List Oper} {o : Oper} {a : Act} {Q : Exit → Act → World → Prop} (w : World)
    (hg : o.guard = none) (s x : Operand) (hop : o.op = Op.call { callee := Callee.builtin Builtin.append, args := #[s, x], argTypes := #[27, 27] })
    (base : Nat) (v : Value) (hs : a.eval s = v) (hown : w.ownsRow base 5 1 v 0 (cellsOf [])) (hbase : base ≤ w.heap.size)
    (ao : Option Addr) (m c : Nat) (ms : List UInt8) (hx : a.eval x = .slice ao m c) (hm : Bytes w ao m ms) (h0 : ao = none → c = 0)
    (hb : m ≤ 140737488355328)
    (hK : ∀ ao' c' w', Bytes w' ao' m ms → m ≤ c' → c' ≤ 9223372036854775807 → (ao' = none → c' = 0) → Below base w w' → wpList Tryd.prog ops Q rest (a.put o.dst (.slice ao' m c')) w') :
    wpList Tryd.prog ops Q (o :: rest) a w := by
  refine wpList_append_bytes w hg s x hop base v 0 [] hs hown hbase ao m c ms hx hm h0 (by omega) ?_
  intro v' w' hown' hbel'
  rw [List.nil_append, hm.1] at hown'
  obtain ⟨ao3, c3, rfl, hb3, h03, hlc3, hcm3, _, _⟩ := own_bytes hown'
  exact hK ao3 c3 w' hb3 hlc3 (by unfold maxLen at hcm3; omega) h03 hbel'
end Go.Proofs.YtecacjddggljgaaDoor
namespace Go.Proofs.YtecacjddggljgaaDoor
open Go.RowKit Go.Sort
/-- An entry. -/
structure E where
  key : ByteArray
  value : ByteArray
  del : Bool
  seq : Int
def encE (e : E) : List Value := [.string e.key, .string e.value, .bool e.del, .int .i64 e.seq]
def rightB (e : E) : Bool := decide (1 ≤ e.key.size ∧ e.key.size ≤ 128 ∧ e.value.size ≤ 1024 ∧ (e.del = true → e.value.size = 0) ∧ 1 ≤ e.seq ∧ e.seq ≤ 1099511627776)
theorem size_zero (s : ByteArray) : (s.size = 0) ↔ s = ByteArray.empty := by
  constructor
  · intro h; cases s with | mk d => simp [ByteArray.size] at h; subst h; rfl
  · intro h; subst h; rfl
set_option maxRecDepth 100000 in
set_option maxHeartbeats 1000000 in
theorem right_any (k v : ByteArray) (d : Bool) (q : Int) (w : World) (hk : k.size ≤ 9223372036854775807) (hv : v.size ≤ 9223372036854775807) :
    Calls Tryd.prog 62 #[.agg #[.string k, .string v, .bool d, .int .i64 q]] w fun r w' => r = .returned (.bool (rightB ⟨k, v, d, q⟩)) ∧ Below w.heap.size w w' := by
  obtain ⟨r, HR⟩ : ∃ r, Hid (rightB ⟨k, v, d, q⟩ = r) := ⟨_, rfl⟩
  rw [HR.out]
  by_cases a1 : 1 ≤ k.size
  · have b1 : (1 : Int) ≤ (k.size : Int) := by omega
    by_cases a2 : k.size ≤ 128
    · have b2 : (k.size : Int) ≤ 128 := by omega
      by_cases a3 : v.size ≤ 1024
      · have b3 : (v.size : Int) ≤ 1024 := by omega
        by_cases a4 : d = true → v.size = 0
        · have hd : d = false ∨ (d = true ∧ v = ByteArray.empty) := by
            cases d with
            | false => exact .inl rfl
            | true => exact .inr ⟨rfl, (size_zero v).1 (a4 rfl)⟩
          by_cases a5 : 1 ≤ q
          · by_cases a6 : q ≤ 1099511627776
            · have hr : r = true := by rw [← HR.out]; simp only [rightB, decide_eq_true_eq]; exact ⟨a1, a2, a3, a4, a5, a6⟩
              subst hr
              clear HR a4
              rcases hd with rfl | ⟨rfl, rfl⟩ <;> (go_enter Tryd.func62, Tryd.ntmps62; go_wp2; go_ret; exact ⟨rfl, bel_alloc _ _⟩)
            · have hr : r = false := by rw [← HR.out]; simp only [rightB, decide_eq_false_iff_not]; exact fun h => a6 h.2.2.2.2.2
              subst hr
              clear HR a4
              rcases hd with rfl | ⟨rfl, rfl⟩ <;> (go_enter Tryd.func62, Tryd.ntmps62; go_wp2; go_ret; exact ⟨rfl, bel_alloc _ _⟩)
          · have hr : r = false := by rw [← HR.out]; simp only [rightB, decide_eq_false_iff_not]; exact fun h => a5 h.2.2.2.2.1
            subst hr
            clear HR a4
            rcases hd with rfl | ⟨rfl, rfl⟩ <;> (go_enter Tryd.func62, Tryd.ntmps62; go_wp2; go_ret; exact ⟨rfl, bel_alloc _ _⟩)
        · have hr : r = false := by rw [← HR.out]; simp only [rightB, decide_eq_false_iff_not]; exact fun h => a4 h.2.2.2.1
          have hd : d = true := by cases d with | true => rfl | false => exact absurd (fun h => by cases h) a4
          subst hd
          have hve : (v.toList == []) = false := by
            have h0 : v.size ≠ 0 := fun h => a4 (fun _ => h)
            cases v with
            | mk data =>
              simp only [beq_eq_false_iff_ne, ne_eq]
              intro h
              apply h0
              have := congrArg List.length h
              simp [ByteArray.toList_eq] at this
              simpa [ByteArray.size] using this
          subst hr
          clear HR a4
          go_enter Tryd.func62, Tryd.ntmps62
          go_wp2
          go_ret
          exact ⟨rfl, bel_alloc _ _⟩
      · have b3 : ¬ ((v.size : Int) ≤ 1024) := by omega
        have hr : r = false := by rw [← HR.out]; simp only [rightB, decide_eq_false_iff_not]; exact fun h => a3 h.2.2.1
        subst hr
        clear HR
        go_enter Tryd.func62, Tryd.ntmps62
        go_wp2
        go_ret
        exact ⟨rfl, bel_alloc _ _⟩
    · have b2 : ¬ ((k.size : Int) ≤ 128) := by omega
      have hr : r = false := by rw [← HR.out]; simp only [rightB, decide_eq_false_iff_not]; exact fun h => a2 h.2.1
      subst hr
      clear HR
      go_enter Tryd.func62, Tryd.ntmps62
      go_wp2
      go_ret
      exact ⟨rfl, bel_alloc _ _⟩
  · have b1 : ¬ ((1 : Int) ≤ (k.size : Int)) := by omega
    have hr : r = false := by rw [← HR.out]; simp only [rightB, decide_eq_false_iff_not]; exact fun h => a1 h.1
    subst hr
    clear HR
    go_enter Tryd.func62, Tryd.ntmps62
    go_wp2
    go_ret
    exact ⟨rfl, bel_alloc _ _⟩
set_option maxRecDepth 100000 in
set_option maxHeartbeats 1000000 in
theorem refRight_any (k v : ByteArray) (d : Bool) (q : Int) (w : World) (hk : k.size ≤ 9223372036854775807) (hv : v.size ≤ 9223372036854775807) :
    Calls Tryd.prog 71 #[.agg #[.string k, .string v, .bool d, .int .i64 q]] w fun r w' => r = .returned (.bool (rightB ⟨k, v, d, q⟩)) ∧ Below w.heap.size w w' := by
  obtain ⟨r, HR⟩ : ∃ r, Hid (rightB ⟨k, v, d, q⟩ = r) := ⟨_, rfl⟩
  rw [HR.out]
  by_cases a1 : 1 ≤ k.size
  · have b1 : (1 : Int) ≤ (k.size : Int) := by omega
    by_cases a2 : k.size ≤ 128
    · have b2 : (k.size : Int) ≤ 128 := by omega
      by_cases a3 : v.size ≤ 1024
      · have b3 : (v.size : Int) ≤ 1024 := by omega
        by_cases a4 : d = true → v.size = 0
        · have hd : d = false ∨ (d = true ∧ v = ByteArray.empty) := by
            cases d with
            | false => exact .inl rfl
            | true => exact .inr ⟨rfl, (size_zero v).1 (a4 rfl)⟩
          by_cases a5 : 1 ≤ q
          · by_cases a6 : q ≤ 1099511627776
            · have hr : r = true := by rw [← HR.out]; simp only [rightB, decide_eq_true_eq]; exact ⟨a1, a2, a3, a4, a5, a6⟩
              subst hr
              clear HR a4
              rcases hd with rfl | ⟨rfl, rfl⟩ <;> (go_enter Tryd.func71, Tryd.ntmps71; go_wp2; go_ret; exact ⟨rfl, bel_alloc _ _⟩)
            · have hr : r = false := by rw [← HR.out]; simp only [rightB, decide_eq_false_iff_not]; exact fun h => a6 h.2.2.2.2.2
              subst hr
              clear HR a4
              rcases hd with rfl | ⟨rfl, rfl⟩ <;> (go_enter Tryd.func71, Tryd.ntmps71; go_wp2; go_ret; exact ⟨rfl, bel_alloc _ _⟩)
          · have hr : r = false := by rw [← HR.out]; simp only [rightB, decide_eq_false_iff_not]; exact fun h => a5 h.2.2.2.2.1
            subst hr
            clear HR a4
            rcases hd with rfl | ⟨rfl, rfl⟩ <;> (go_enter Tryd.func71, Tryd.ntmps71; go_wp2; go_ret; exact ⟨rfl, bel_alloc _ _⟩)
        · have hr : r = false := by rw [← HR.out]; simp only [rightB, decide_eq_false_iff_not]; exact fun h => a4 h.2.2.2.1
          have hd : d = true := by cases d with | true => rfl | false => exact absurd (fun h => by cases h) a4
          subst hd
          have hve : (v.toList == []) = false := by
            have h0 : v.size ≠ 0 := fun h => a4 (fun _ => h)
            cases v with
            | mk data =>
              simp only [beq_eq_false_iff_ne, ne_eq]
              intro h
              apply h0
              have := congrArg List.length h
              simp [ByteArray.toList_eq] at this
              simpa [ByteArray.size] using this
          subst hr
          clear HR a4
          go_enter Tryd.func71, Tryd.ntmps71
          go_wp2
          go_ret
          exact ⟨rfl, bel_alloc _ _⟩
      · have b3 : ¬ ((v.size : Int) ≤ 1024) := by omega
        have hr : r = false := by rw [← HR.out]; simp only [rightB, decide_eq_false_iff_not]; exact fun h => a3 h.2.2.1
        subst hr
        clear HR
        go_enter Tryd.func71, Tryd.ntmps71
        go_wp2
        go_ret
        exact ⟨rfl, bel_alloc _ _⟩
    · have b2 : ¬ ((k.size : Int) ≤ 128) := by omega
      have hr : r = false := by rw [← HR.out]; simp only [rightB, decide_eq_false_iff_not]; exact fun h => a2 h.2.1
      subst hr
      clear HR
      go_enter Tryd.func71, Tryd.ntmps71
      go_wp2
      go_ret
      exact ⟨rfl, bel_alloc _ _⟩
  · have b1 : ¬ ((1 : Int) ≤ (k.size : Int)) := by omega
    have hr : r = false := by rw [← HR.out]; simp only [rightB, decide_eq_false_iff_not]; exact fun h => a1 h.1
    subst hr
    clear HR
    go_enter Tryd.func71, Tryd.ntmps71
    go_wp2
    go_ret
    exact ⟨rfl, bel_alloc _ _⟩
/-- Two strings, byte by byte. -/
def cmpS (a b : ByteArray) : Int := Lib.compareBytes a.data.toList b.data.toList
def cmpI (x y : Int) : Int := if x < y then -1 else if y < x then 1 else 0
def cmpE (a b : E) : Int := if cmpS a.key b.key ≠ 0 then cmpS a.key b.key else cmpI a.seq b.seq
set_option maxRecDepth 100000 in
theorem cmpString_any (a b : ByteArray) (w : World) : Calls Tryd.prog 130 #[.string a, .string b] w fun e w' => e = .returned (.int .i64 (cmpS a b)) ∧ w' = w := by
  go_enter Tryd.func130, Tryd.ntmps130
  go_wp2
  rw [run_callFunc_extern Tryd.func143 (by kernel_rfl) (by kernel_rfl) (by kernel_rfl) (e := Extern.BytealgCompare.compare) (by kernel_rfl), Lib.run_compareString]
  simp only [Result.andThen]
  rw [Oper.upon_value]
  go_wp2
  go_ret
  exact ⟨rfl, rfl⟩
theorem compareS_any (a b : ByteArray) (w : World) : Calls Tryd.prog 115 #[.string a, .string b] w fun e w' => e = .returned (.int .i64 (cmpS a b)) ∧ w' = w := by
  go_enter Tryd.func115, Tryd.ntmps115
  go_wp2_with fail
  refine (cmpString_any a b _).mono ?_
  rintro e w' ⟨rfl, hw⟩
  subst hw
  go_wp2
  go_ret
  exact ⟨rfl, rfl⟩
set_option maxHeartbeats 1000000 in
theorem compareI_any (x y : Int) (w : World) : Calls Tryd.prog 116 #[.int .i64 x, .int .i64 y] w fun e w' => e = .returned (.int .i64 (cmpI x y)) ∧ w' = w := by
  by_cases h1 : x < y
  · have HC : Hid (cmpI x y = -1) := by show _ = _; rw [cmpI, if_pos h1]
    rw [HC.out]
    go_enter Tryd.func116, Tryd.ntmps116
    go_wp2
    go_ret
    exact ⟨rfl, rfl⟩
  · by_cases h2 : y < x
    · have HC : Hid (cmpI x y = 1) := by show _ = _; rw [cmpI, if_neg h1, if_pos h2]
      rw [HC.out]
      go_enter Tryd.func116, Tryd.ntmps116
      go_wp2
      go_ret
      exact ⟨rfl, rfl⟩
    · have HC : Hid (cmpI x y = 0) := by show _ = _; rw [cmpI, if_neg h1, if_neg h2]
      rw [HC.out]
      go_enter Tryd.func116, Tryd.ntmps116
      go_wp2
      go_ret
      exact ⟨rfl, rfl⟩
set_option maxHeartbeats 1000000 in
theorem or_any (g : Nat) (u v : Int) (w : World) (h0 : w.cell? ⟨g, 0, none⟩ = some (.int .i64 u)) (h1 : w.cell? ⟨g, 1, none⟩ = some (.int .i64 v)) :
    Calls Tryd.prog 114 #[.slice (some ⟨g, 0, none⟩) 2 2] w fun e w' => e = .returned (.int .i64 (if u ≠ 0 then u else v)) ∧ w' = w := by
  by_cases hu : u = 0
  · subst hu
    rw [if_neg (by simp)]
    by_cases hv : v = 0
    · subst hv
      go_enter Tryd.func114, Tryd.ntmps114
      go_wp2
      refine wp_loop_rounds 3 ?_
      rw [rounds_succ]
      go_wp2
      rw [rounds_succ]
      go_wp2
      rw [rounds_succ]
      go_wp2
      go_ret
      exact ⟨rfl, rfl⟩
    · have hv' : (v == 0) = false := by simpa using hv
      have hv2 : (v != 0) = true := by simpa using hv
      go_enter Tryd.func114, Tryd.ntmps114
      go_wp2
      refine wp_loop_rounds 2 ?_
      rw [rounds_succ]
      go_wp2
      rw [rounds_succ]
      go_wp2
      go_ret
      exact ⟨rfl, rfl⟩
  · rw [if_pos hu]
    have hu' : (u == 0) = false := by simpa using hu
    have hu2 : (u != 0) = true := by simpa using hu
    go_enter Tryd.func114, Tryd.ntmps114
    go_wp2
    refine wp_loop_rounds 1 ?_
    rw [rounds_succ]
    go_wp2
    go_ret
    exact ⟨rfl, rfl⟩
end Go.Proofs.YtecacjddggljgaaDoor
namespace Go.Proofs.YtecacjddggljgaaDoor
open Go.RowKit Go.Sort
theorem heap_alloc_get (w : World) (o : Obj) (i : Nat) : (w.alloc o).heap[i]? = if i = w.heap.size then some o else w.heap[i]? := by
  show (w.heap.push o)[i]? = _
  rw [Array.getElem?_push]
theorem pair_cell (u v : Value) (t : TypeId) (W : World) (g : Nat) (hg : g = W.heap.size) :
    (W.alloc (Obj.cells #[u, v] t)).drew.cell? ⟨g, 0, none⟩ = some u ∧ (W.alloc (Obj.cells #[u, v] t)).drew.cell? ⟨g, 1, none⟩ = some v := by
  have h : (W.alloc (Obj.cells #[u, v] t)).drew.heap[g]? = some (.cells #[u, v] t) := by
    show (W.alloc _).heap[g]? = _
    rw [heap_alloc_get, if_pos hg]
  exact ⟨by rw [cell_of_row _ _ _ _ _ _ h]; rfl, by rw [cell_of_row _ _ _ _ _ _ h]; rfl⟩
set_option maxRecDepth 100000 in
set_option maxHeartbeats 1000000 in
/-- byKeyAndSeq: two blocks and one more are laid, and it may draw. -/
theorem byKey_any (a b : E) (w : World) : Calls Tryd.prog 84 #[.agg (encE a).toArray, .agg (encE b).toArray] w fun e w' => e = .returned (.int .i64 (cmpE a b)) ∧ ∃ q os', w' = grow (w.drewN q) os' := by
  obtain ⟨k1, v1, d1, q1⟩ := a
  obtain ⟨k2, v2, d2, q2⟩ := b
  obtain ⟨c, HC⟩ : ∃ c, Hid (c = cmpS k1 k2) := ⟨_, rfl⟩
  obtain ⟨i, HI⟩ : ∃ i, Hid (i = cmpI q1 q2) := ⟨_, rfl⟩
  have HE : Hid (cmpE ⟨k1, v1, d1, q1⟩ ⟨k2, v2, d2, q2⟩ = if c ≠ 0 then c else i) := by show _ = _; rw [cmpE, HC.out, HI.out]
  rw [HE.out]
  obtain ⟨r, HR⟩ : ∃ r, Hid ((if c ≠ 0 then c else i) = r) := ⟨_, rfl⟩
  rw [HR.out]
  have HO : Hid (∀ g w, w.cell? ⟨g, 0, none⟩ = some (.int .i64 c) → w.cell? ⟨g, 1, none⟩ = some (.int .i64 i) → Calls Tryd.prog 114 #[.slice (some ⟨g, 0, none⟩) 2 2] w fun e w' => e = .returned (.int .i64 r) ∧ w' = w) := by
    show ∀ g w, _ → _ → _
    intro g w h0 h1; rw [← HR.out]; exact or_any g c i w h0 h1
  have C1 := fun w => compareS_any k1 k2 w
  have C2 := fun w => compareI_any q1 q2 w
  rw [← HC.out] at C1
  rw [← HI.out] at C2
  have HC1 : Hid (_) := C1
  have HC2 : Hid (_) := C2
  clear C1 C2
  simp only [encE]
  go_enter Tryd.func84, Tryd.ntmps84
  go_wp2_with fail
  go_region_held3 (fun w' => w'.cell? ⟨w.heap.size, 0, none⟩ = some (.string k1) ∧ w'.cell? ⟨w.heap.size + 1, 0, none⟩ = some (.string k2) ∧ w'.cell? ⟨w.heap.size, 3, none⟩ = some (.int .i64 q1) ∧ w'.cell? ⟨w.heap.size + 1, 3, none⟩ = some (.int .i64 q2)) (first | assumption | go_keep) (first | (go_at_call 115; refine (HC1.out _).mono ?_; rintro e w' ⟨rfl, rfl⟩) | (go_at_call 116; refine (HC2.out _).mono ?_; rintro e w' ⟨rfl, rfl⟩) | (go_at_call 114; refine (HO.out _ _ (pair_cell _ _ _ _ _ (by simp)).1 (pair_cell _ _ _ _ _ (by simp)).2).mono ?_; rintro e w' ⟨rfl, rfl⟩))
  all_goals go_wp2
  all_goals go_ret
  all_goals exact ⟨rfl, 1, _, by rw [alloc_eq_grow, alloc_eq_grow, alloc_eq_grow, grow_grow, grow_grow]; rfl⟩
variable [Inhabited E]
theorem byKeyLays (blk off size : Nat) (w : World) : CmpLays Tryd.prog 84 #[] encE 4 cmpE blk off size w :=
  fun _ _ _ _ x y => byKey_any x y _
end Go.Proofs.YtecacjddggljgaaDoor

/-
  What codec.Get answers, of any bytes: a contract over this translation.
-/
import Derived.Test.YtlomimhildbkoaaSize
namespace Go.Proofs.Ytlomimhildbkoaa
open Go.RowKit

/-- The slice whose elements are the bytes bs. -/
def Bytes (w : World) (ao : Option Addr) (len : Nat) (bs : List UInt8) : Prop :=
  bs.length = len ∧ ∀ i c, bs[i]? = some c → ∃ x, ao = some x ∧ w.cell? (x.add i) = some (.int .u8 c.toNat)

theorem drop_at (bs : List UInt8) (k : Nat) (h : k < bs.length) : bs.drop k = bs[k] :: bs.drop (k + 1) := List.drop_eq_getElem_cons h

theorem getF_step (i x : Nat) (c : UInt8) (cs : List UInt8) : getF i x (c :: cs) =
    if i = 9 ∧ 1 < c.toNat then (0, 0, false)
    else if 128 ≤ c.toNat then getF (i + 1) (x + c.toNat % 128 * 128 ^ i) cs
    else if c.toNat = 0 ∧ 0 < i then (0, 0, false)
    else (x + c.toNat % 128 * 128 ^ i, i + 1, true) := rfl

theorem and_127 (n : Nat) : n &&& 127 = n % 128 := Nat.and_two_pow_sub_one_eq_mod n 7
theorem andNot_128 (c : UInt8) : bits .andNot .u8 (c.toNat : Int) 128 = ((c.toNat % 128 : Nat) : Int) := by
  have := u8_andNot_nat c.toNat 128 c.toNat_lt (by decide)
  simpa [and_127] using this

theorem pow_128 (k : Nat) : 128 ^ k = 2 ^ (7 * k) := by rw [Nat.pow_mul]

/-- 'x | uint64(c &^ 0x80) << (7*i)' is a sum. -/
theorem or_step (X k c : Nat) (hk : k ≤ 9) (hX : X < 128 ^ k) (hc : c < 256) (h9 : k = 9 → c ≤ 1) :
    bits .or .u64 (X : Int) (IntKind.u64.wrap ((c : Int) % 128 * 2 ^ (7 * k))) = ((X + c % 128 * 128 ^ k : Nat) : Int) ∧ X + c % 128 * 128 ^ k < 128 ^ (k + 1) ∧ X + c % 128 * 128 ^ k < 18446744073709551616 := by
  have hw1 : (c : Int) % 128 = ((c % 128 : Nat) : Int) := by omega
  have hlt : c % 128 * 128 ^ k < 18446744073709551616 ∧ X + c % 128 * 128 ^ k < 18446744073709551616 ∧ X < 18446744073709551616 := by
    by_cases h : k = 9
    · subst h
      have := h9 rfl
      simp only [Nat.reducePow] at hX ⊢
      omega
    · have h8 : 128 ^ k ≤ 128 ^ 8 := Nat.pow_le_pow_right (by omega) (by omega)
      have hm : c % 128 * 128 ^ k ≤ 127 * 128 ^ 8 := Nat.mul_le_mul (by omega) h8
      simp only [Nat.reducePow] at h8 hm
      omega
  have ecast : ((c % 128 : Nat) : Int) * 2 ^ (7 * k) = ((c % 128 * 128 ^ k : Nat) : Int) := by
    rw [pow_128]; simp
  have hw2 : IntKind.u64.wrap ((c % 128 * 128 ^ k : Nat) : Int) = ((c % 128 * 128 ^ k : Nat) : Int) := IntWalk.u64_in _ ⟨by omega, by omega⟩
  have hor : X ||| c % 128 * 128 ^ k = X + c % 128 * 128 ^ k := by
    rw [pow_128] at hX ⊢
    have := Nat.two_pow_add_eq_or_of_lt hX (c % 128)
    rw [Nat.or_comm, Nat.mul_comm (c % 128), ← this, Nat.add_comm]
  refine ⟨?_, ?_, hlt.2.1⟩
  · rw [hw1, ecast, hw2, u64_or_nat _ _ hlt.2.2 hlt.1, hor]
  · rw [Nat.pow_succ]
    have : c % 128 * 128 ^ k ≤ 127 * 128 ^ k := Nat.mul_le_mul_right _ (by omega)
    omega

theorem tup3 {a a' b b' : Int} {p p' : Bool} (h1 : a = a') (h2 : b = b') (h3 : p = p') :
    Ending.returned (.tuple #[.int .u64 a, .int .i64 b, .bool p]) = .returned (.tuple #[.int .u64 a', .int .i64 b', .bool p']) := by rw [h1, h2, h3]

set_option maxRecDepth 100000 in
set_option maxHeartbeats 400000 in
theorem get_cells (b off len cap : Nat) (bs : List UInt8) (w : World) (hl : bs.length = len) (hmax : len ≤ 9223372036854775807)
    (hc : ∀ k (h : k < bs.length), w.cell? ⟨b, off + k, none⟩ = some (.int .u8 (bs[k].toNat : Int))) :
    Calls Try.prog 18 #[.slice (some ⟨b, off, none⟩) len cap] w fun e w' =>
      e = .returned (.tuple #[.int .u64 (getB bs).1, .int .i64 (getB bs).2.1, .bool (getB bs).2.2]) ∧ w' = w := by
  go_enter Try.func18, Try.ntmps18
  go_wp2
  go_loop [5, 10] (fun x i => ∃ (k X : Nat), k ≤ len ∧ k ≤ 9 ∧ i = .int .i64 k ∧ x = .int .u64 X ∧ X < 128 ^ k ∧ getB bs = getF k X (bs.drop k)) (fun _ i => len - (intOf i).toNat)
  case atStart => exact ⟨0, 0, by omega, by omega, rfl, rfl, by omega, rfl⟩
  case round =>
    obtain ⟨k, X, hk, hk9, rfl, rfl, hX, hd⟩ := hrel
    by_cases hlt : k < len
    · obtain ⟨c, hcd⟩ : ∃ c, c = bs[k] := ⟨_, rfl⟩
      have hcell : w.cell? ⟨b, off + k, none⟩ = some (.int .u8 (c.toNat : Int)) := by rw [hcd]; exact hc k (by omega)
      have HD : Hid (getB bs = getF k X (c :: bs.drop (k + 1))) := by show _ = _; rw [hd, hcd, ← drop_at]
      have hc256 : c.toNat < 256 := c.toNat_lt
      have HO : Hid ((k = 9 → c.toNat ≤ 1) → bits .or .u64 (X : Int) (IntKind.u64.wrap ((c.toNat : Int) % 128 * 2 ^ (7 * k))) = ((X + c.toNat % 128 * 128 ^ k : Nat) : Int) ∧ X + c.toNat % 128 * 128 ^ k < 128 ^ (k + 1) ∧ X + c.toNat % 128 * 128 ^ k < 18446744073709551616) :=
        fun h => or_step X k c.toNat hk9 hX hc256 h
      have hand := andNot_128 c
      clear hd hc hcd hX
      by_cases hk : k = 9
      · subst hk
        by_cases h1 : 1 < c.toNat
        · have HV : Hid (getB bs = (0, 0, false)) := by show _ = _; rw [HD.out, getF_step, if_pos ⟨rfl, h1⟩]
          clear HD HO
          go_wp2
          go_ret3
          exact ⟨tup3 (by rw [HV.out]; rfl) (by rw [HV.out]; rfl) (by rw [HV.out]), rfl⟩
        · by_cases h0 : c.toNat = 0
          · have HV : Hid (getB bs = (0, 0, false)) := by show _ = _; rw [HD.out, getF_step, if_neg (by omega), if_neg (by omega), if_pos ⟨h0, by omega⟩]
            clear HD HO
            go_wp2
            go_ret3
            exact ⟨tup3 (by rw [HV.out]; rfl) (by rw [HV.out]; rfl) (by rw [HV.out]), rfl⟩
          · have HV : Hid (getB bs = (X + c.toNat % 128 * 128 ^ 9, 9 + 1, true)) := by show _ = _; rw [HD.out, getF_step, if_neg (by omega), if_neg (by omega), if_neg (by omega)]
            have HE' : Hid (bits .or .u64 (X : Int) ((c.toNat : Int) % 128 * 9223372036854775808) = ((X + c.toNat % 128 * 128 ^ 9 : Nat) : Int)) := by
              have h := (HO.out (by omega)).1
              rw [show (2 : Int) ^ (7 * 9) = 9223372036854775808 from by decide, IntWalk.u64_in _ ⟨by omega, by omega⟩] at h
              exact h
            clear HD HO
            have hb : (((c.toNat : Int)) == 0) = false := by simp; omega
            go_wp2
            go_ret3
            exact ⟨tup3 (by rw [HV.out]; exact HE'.out) (by rw [HV.out]; rfl) (by rw [HV.out]), rfl⟩
      · by_cases h128 : 128 ≤ c.toNat
        · have HV : Hid (getB bs = getF (k + 1) (X + c.toNat % 128 * 128 ^ k) (bs.drop (k + 1))) := by show _ = _; rw [HD.out, getF_step, if_neg (by omega), if_pos h128]
          have HE : Hid (_ ∧ _ ∧ _) := HO.out (by omega)
          clear HD HO
          go_wp2
          go_round
          case rel => exact ⟨k + 1, X + c.toNat % 128 * 128 ^ k, by omega, by omega, by go_num, by rw [HE.out.1], HE.out.2.1, HV.out⟩
          case measure => simp [intOf]; omega
        · by_cases h0 : c.toNat = 0 ∧ 0 < k
          · have HV : Hid (getB bs = (0, 0, false)) := by show _ = _; rw [HD.out, getF_step, if_neg (by omega), if_neg (by omega), if_pos h0]
            obtain ⟨h0, hk0⟩ := h0
            clear HD HO
            go_wp2
            go_ret3
            exact ⟨tup3 (by rw [HV.out]; rfl) (by rw [HV.out]; rfl) (by rw [HV.out]), rfl⟩
          · have HV : Hid (getB bs = (X + c.toNat % 128 * 128 ^ k, k + 1, true)) := by show _ = _; rw [HD.out, getF_step, if_neg (by omega), if_neg (by omega), if_neg h0]
            have HE : Hid (_ ∧ _ ∧ _) := HO.out (by omega)
            clear HD HO
            by_cases hc0 : c.toNat = 0
            · have hk0 : k < 1 := by omega
              have hc1 : c.toNat < 1 := by omega
              have HE0 : Hid (bits .or .u64 (X : Int) (IntKind.u64.wrap 0) = ((X + c.toNat % 128 * 128 ^ k : Nat) : Int)) := by
                have h := HE.out.1
                rw [show (c.toNat : Int) % 128 * 2 ^ (7 * k) = 0 from by rw [hc0]; simp] at h
                exact h
              clear h0 hc0
              go_wp2
              go_ret3
              exact ⟨tup3 (by rw [HV.out]; exact HE0.out) (by rw [HV.out]; rfl) (by rw [HV.out]), rfl⟩
            · have hb : (((c.toNat : Int)) == 0) = false := by simp; omega
              go_wp2
              go_ret3
              exact ⟨tup3 (by rw [HV.out]; exact HE.out.1) (by rw [HV.out]; rfl) (by rw [HV.out]), rfl⟩
    · have HV : Hid (getB bs = (0, 0, false)) := by show _ = _; rw [hd, List.drop_eq_nil_of_le (by omega)]; rfl
      clear hd hc
      go_wp2
      go_ret3
      exact ⟨tup3 (by rw [HV.out]; rfl) (by rw [HV.out]; rfl) (by rw [HV.out]), rfl⟩

set_option maxRecDepth 100000 in
set_option maxHeartbeats 400000 in
theorem get_none (ao : Option Addr) (cap : Nat) (w : World) :
    Calls Try.prog 18 #[.slice ao 0 cap] w fun e w' => e = .returned (.tuple #[.int .u64 0, .int .i64 0, .bool false]) ∧ w' = w := by
  go_enter Try.func18, Try.ntmps18
  go_wp2
  refine wp_loop_rounds 1 ?_
  rw [rounds_succ]
  go_wp2
  go_ret3
  exact ⟨rfl, rfl⟩

theorem bytes_at {w : World} {ao : Option Addr} {len : Nat} {bs : List UInt8} (h : Bytes w ao len bs) (hp : 0 < len) :
    ∃ b off, ao = some ⟨b, off, none⟩ ∧ ∀ k (hk : k < bs.length), w.cell? ⟨b, off + k, none⟩ = some (.int .u8 (bs[k].toNat : Int)) := by
  obtain ⟨hl, hc⟩ := h
  obtain ⟨x, hx, hx0⟩ := hc 0 _ (List.getElem?_eq_getElem (by omega))
  subst hx
  obtain ⟨b, off, spot⟩ := x
  have hspot : spot = none := by simpa [Addr.add] using World.cell?_spot hx0
  subst hspot
  refine ⟨b, off, rfl, fun k hk => ?_⟩
  obtain ⟨y, hy, hc'⟩ := hc k _ (List.getElem?_eq_getElem hk)
  cases hy
  rw [Addr.add_lit] at hc'
  exact hc'

/-- codec.Get, of whatever bytes. -/
theorem get_any (ao : Option Addr) (len cap : Nat) (bs : List UInt8) (w : World) (h : Bytes w ao len bs) (hmax : len ≤ 9223372036854775807) :
    Calls Try.prog 18 #[.slice ao len cap] w fun e w' =>
      e = .returned (.tuple #[.int .u64 (getB bs).1, .int .i64 (getB bs).2.1, .bool (getB bs).2.2]) ∧ w' = w := by
  by_cases hp : 0 < len
  · obtain ⟨b, off, rfl, hc⟩ := bytes_at h hp
    exact get_cells b off len cap bs w h.1 hmax hc
  · have hl : len = 0 := by omega
    subst hl
    have hb : bs = [] := List.eq_nil_of_length_eq_zero h.1
    subst hb
    exact get_none ao cap w
end Go.Proofs.Ytlomimhildbkoaa

/-
  What sum's CRC and its reference answer: contracts over this translation.
-/
import Derived.Test.YtaejcclepahefaaCodec
import Derived.Lib.BitFns
import Derived.Laws.BitsAllLaws
namespace Go.Proofs.Ytaejcclepahefaa
open Go.RowKit
theorem ret_u32 {a b : Int} (h : a = b) : Ending.returned (.int .u32 a) = .returned (.int .u32 b) := by rw [h]
theorem w_lt (x : UInt32) : x.toNat < 4294967296 := x.toNat_lt
theorem w_xor (x y : UInt32) : bits .xor .u32 (x.toNat : Int) (y.toNat : Int) = ((x ^^^ y).toNat : Int) := by
  rw [u32_xor_nat _ _ (w_lt x) (w_lt y), UInt32.toNat_xor]
theorem w_or (x y : UInt32) : bits .or .u32 (x.toNat : Int) (y.toNat : Int) = ((x ||| y).toNat : Int) := by
  rw [u32_or_nat _ _ (w_lt x) (w_lt y), UInt32.toNat_or]
theorem w_and (x y : UInt32) : bits .and .u32 (x.toNat : Int) (y.toNat : Int) = ((x &&& y).toNat : Int) := by
  rw [u32_and_nat _ _ (w_lt x) (w_lt y), UInt32.toNat_and]
theorem w_not (x : UInt32) : bits .xor .u32 IntKind.u32.max (x.toNat : Int) = ((~~~ x).toNat : Int) := by
  have hm : IntKind.u32.max = (((-1 : UInt32).toNat : Nat) : Int) := by decide
  rw [hm, w_xor, UInt32.neg_one_xor]
theorem w_shr (x : UInt32) (n : UInt32) (p : Nat) (hn : n.toNat < 32) (hp : 2 ^ n.toNat = p) : (x.toNat : Int) / (p : Int) = ((x >>> n).toNat : Int) := by
  rw [UInt32.toNat_shiftRight, Nat.mod_eq_of_lt hn, Nat.shiftRight_eq_div_pow, hp]; omega
theorem run_index_str (s : ByteArray) (k : Nat) (c : UInt8) (z : Int) (hz : z = (k : Int)) (h : s.data.toList[k]? = some c) (w : World) : (Instr.index 9 (.string s) (.int .i64 z)).run Try.prog w = .ok (.int .u8 (c.toNat : Int)) w := by
  subst hz
  obtain ⟨hk, hc⟩ := List.getElem?_eq_some_iff.1 h
  have hk' : k < s.size := by simpa using hk
  have hs : s[k] = c := by rw [← hc]; rfl
  have e1 : (0 : Int) ≤ (k : Int) ∧ (k : Int) < (s.size : Int) := by omega
  have e2 : k < s.size := hk'
  unfold Instr.index
  simp [Sem.run_bind, asIntOf, run_underlying Try.underlying9 w, e2, hs]
/-- The check. -/
def crcStep (c : UInt32) : UInt32 := c >>> 1 ^^^ (0xedb88320 &&& -(c &&& 1))
def crcSteps (c : UInt32) : Nat → UInt32
  | 0 => c
  | k + 1 => crcStep (crcSteps c k)
def crcOf : UInt32 → List UInt8 → UInt32
  | c, [] => c
  | c, x :: t => crcOf (crcSteps (c ^^^ x.toUInt32) 8) t
def crcB (l : List UInt8) : UInt32 := ~~~ crcOf 0xffffffff l
theorem crcOf_snoc (c : UInt32) (l : List UInt8) (x : UInt8) : crcOf c (l ++ [x]) = crcSteps (crcOf c l ^^^ x.toUInt32) 8 := by
  induction l generalizing c with
  | nil => rfl
  | cons a t ih => simp only [List.cons_append, crcOf, ih]
theorem crc_num (c : UInt32) : bits .xor .u32 ((c.toNat : Int) / (2 : Int)) (bits .and .u32 3988292384 (IntKind.u32.wrap (-(bits .and .u32 (c.toNat : Int) 1)))) = ((crcStep c).toNat : Int) := by
  have h1 : bits .and .u32 (c.toNat : Int) 1 = ((c &&& 1).toNat : Int) := w_and c 1
  have h2 : IntKind.u32.wrap (-((c &&& 1).toNat : Int)) = ((-(c &&& 1)).toNat : Int) := by
    have := (c &&& 1).toNat_lt
    rw [IntKind.wrap_u32', UInt32.toNat_neg]; simp only [UInt32.size]; omega
  have h3 : bits .and .u32 3988292384 ((-(c &&& 1)).toNat : Int) = ((0xedb88320 &&& -(c &&& 1)).toNat : Int) := w_and 0xedb88320 _
  have h4 : (c.toNat : Int) / (2 : Int) = ((c >>> 1).toNat : Int) := w_shr c 1 2 (by decide) (by decide)
  rw [h1, h2, h3, h4, w_xor]; rfl
set_option maxRecDepth 100000 in
set_option maxHeartbeats 1000000 in
theorem crc_any (ao : Option Addr) (n cap : Nat) (bs : List UInt8) (w : World) (hb : Bytes w ao n bs) (hcap : n ≤ 9223372036854774000) :
    Calls Try.prog 87 #[.slice ao n cap] w fun e w' => e = .returned (.int .u32 (crcB bs).toNat) ∧ w' = w := by
  have hbl := hb.1
  obtain ⟨c0, HC0⟩ : ∃ c0 : UInt32, Hid (c0 = 0xffffffff) := ⟨_, rfl⟩
  have hc0 : (4294967295 : Int) = (c0.toNat : Int) := by rw [HC0.out]; rfl
  go_enter Try.func87, Try.ntmps87
  go_wp2
  rw [hc0]
  go_loop [3, 8] (fun c t => ∃ i : Nat, i ≤ n ∧ t = .int .i64 i ∧ c = .int .u32 (crcOf c0 (bs.take i)).toNat) (fun _ t => (n - intOf t).toNat)
  case atStart => exact ⟨0, by omega, rfl, rfl⟩
  case round =>
    obtain ⟨i, hi, rfl, rfl⟩ := hrel
    by_cases hin : i < n
    · obtain ⟨x, hx⟩ : ∃ x, bs[i]? = some x := ⟨bs[i]'(by omega), by simp⟩
      obtain ⟨a, rfl, hcell⟩ := hb.2 i x hx
      have HT : Hid (bs.take (i + 1) = bs.take i ++ [x]) := by show _ = _; rw [List.take_add_one, hx]; rfl
      have hxl := x.toNat_lt
      generalize hcq : crcOf c0 (bs.take i) = c at *
      have HCQ : Hid (crcOf c0 (bs.take i) = c) := hcq
      clear hb hx hcq
      have HY : Hid (bits .xor .u32 (c.toNat : Int) (x.toNat : Int) = ((c ^^^ x.toUInt32).toNat : Int)) := by
        show _ = _
        rw [← w_xor, UInt8.toNat_toUInt32]
      go_wp2
      rw [HY.out]
      clear HY
      generalize hyq : c ^^^ x.toUInt32 = y at *
      go_loop [3, 16] (fun c t => ∃ k : Nat, k ≤ 8 ∧ t = .int .i64 k ∧ c = .int .u32 (crcSteps y k).toNat) (fun _ t => (8 - intOf t).toNat)
      case atStart => exact ⟨0, by omega, rfl, rfl⟩
      case round =>
        obtain ⟨k, hk, rfl, rfl⟩ := hrel
        by_cases hk8 : k < 8
        · have HN : Hid (_ = _) := crc_num (crcSteps y k)
          have HS : Hid (crcStep (crcSteps y k) = crcSteps y (k + 1)) := rfl
          generalize crcSteps y k = z at *
          have hzl := z.toNat_lt
          go_wp2
          go_round
          case rel => exact ⟨k + 1, by omega, by go_num, by rw [← HS.out]; exact congrArg _ HN.out⟩
          case measure => simp [intOf]; omega
        · have hk' : k = 8 := by omega
          have HC2 : Hid (crcOf c0 (bs.take (i + 1)) = crcSteps y k) := by show _ = _; rw [HT.out, crcOf_snoc, HCQ.out, hyq, hk']
          generalize crcSteps y k = z at *
          go_wp2
          go_round
          case rel => exact ⟨i + 1, by omega, by go_num, by rw [HC2.out]⟩
          case measure => simp [intOf]; omega
    · have hi' : i = n := by omega
      have HF : Hid (crcOf c0 (bs.take i) = crcOf c0 bs) := by show _ = _; rw [List.take_of_length_le (by omega)]
      have HC3 : Hid (crcB bs = ~~~ crcOf c0 bs) := by show _ = _; rw [HC0.out]; rfl
      rw [HF.out] at *
      generalize crcOf c0 bs = z at *
      have HN : Hid (_ = _) := w_not z
      go_wp2
      go_ret
      rw [HC3.out]
      exact ⟨ret_u32 HN.out, rfl⟩
theorem crc_even (c : UInt32) (h : c.toNat % 2 = 0) : ((crcStep c).toNat : Int) = (c.toNat : Int) / (2 : Int) := by
  have h1 : c &&& 1 = 0 := by
    apply UInt32.toNat_inj.1; rw [UInt32.toNat_and]
    show c.toNat &&& 1 = 0
    rw [Nat.and_one_is_mod, h]
  have : crcStep c = c >>> 1 := by rw [crcStep, h1]; simp
  rw [this]; exact (w_shr c 1 2 (by decide) (by decide)).symm
theorem crc_odd (c : UInt32) (h : c.toNat % 2 = 1) : ((crcStep c).toNat : Int) = bits .xor .u32 ((c.toNat : Int) / (2 : Int)) 3988292384 := by
  have h1 : c &&& 1 = 1 := by
    apply UInt32.toNat_inj.1; rw [UInt32.toNat_and]
    show c.toNat &&& 1 = 1
    rw [Nat.and_one_is_mod, h]
  have : crcStep c = c >>> 1 ^^^ 0xedb88320 := by rw [crcStep, h1]; congr 1
  have e : (c.toNat : Int) / (2 : Int) = ((c >>> 1).toNat : Int) := w_shr c 1 2 (by decide) (by decide)
  rw [this, e]
  exact (w_xor (c >>> 1) 0xedb88320).symm
set_option maxRecDepth 100000 in
set_option maxHeartbeats 1000000 in
theorem refCRC_any (s : ByteArray) (w : World) (hs : s.size ≤ 9223372036854774000) :
    Calls Try.prog 89 #[.string s] w fun e w' => e = .returned (.int .u32 (crcB (strB s)).toNat) ∧ w' = w := by
  have hbl := strB_length s
  obtain ⟨c0, HC0⟩ : ∃ c0 : UInt32, Hid (c0 = 0xffffffff) := ⟨_, rfl⟩
  have hc0 : (4294967295 : Int) = (c0.toNat : Int) := by rw [HC0.out]; rfl
  go_enter Try.func89, Try.ntmps89
  go_wp2
  rw [hc0]
  go_loop [3, 4] (fun c t => ∃ i : Nat, i ≤ s.size ∧ t = .int .i64 i ∧ c = .int .u32 (crcOf c0 ((strB s).take i)).toNat) (fun _ t => (s.size - intOf t).toNat)
  case atStart => exact ⟨0, by omega, rfl, rfl⟩
  case round =>
    obtain ⟨i, hi, rfl, rfl⟩ := hrel
    by_cases hin : i < s.size
    · obtain ⟨x, hx⟩ : ∃ x, (strB s)[i]? = some x := ⟨(strB s)[i]'(by omega), by simp⟩
      have HT : Hid ((strB s).take (i + 1) = (strB s).take i ++ [x]) := by show _ = _; rw [List.take_add_one, hx]; rfl
      have hidx : ∀ w, (Instr.index 9 (.string s) (.int .i64 (i : Int))).run Try.prog w = .ok (.int .u8 (x.toNat : Int)) w := run_index_str s i x _ rfl hx
      have hxl := x.toNat_lt
      generalize hcq : crcOf c0 ((strB s).take i) = c at *
      have HCQ : Hid (crcOf c0 ((strB s).take i) = c) := hcq
      clear hx hcq
      have HY : Hid (bits .xor .u32 (c.toNat : Int) (x.toNat : Int) = ((c ^^^ x.toUInt32).toNat : Int)) := by
        show _ = _
        rw [← w_xor, UInt8.toNat_toUInt32]
      go_wp2
      rw [HY.out]
      clear HY
      generalize hyq : c ^^^ x.toUInt32 = y at *
      go_loop [3, 5] (fun c t => ∃ k : Nat, k ≤ 8 ∧ t = .int .i64 k ∧ c = .int .u32 (crcSteps y k).toNat) (fun _ t => (8 - intOf t).toNat)
      case atStart => exact ⟨0, by omega, rfl, rfl⟩
      case round =>
        obtain ⟨k, hk, rfl, rfl⟩ := hrel
        by_cases hk8 : k < 8
        · have HS : Hid (crcStep (crcSteps y k) = crcSteps y (k + 1)) := rfl
          rcases Nat.mod_two_eq_zero_or_one (crcSteps y k).toNat with hp | hp
          · have HN := crc_even _ hp
            rw [HS.out] at HN
            have HN' : Hid (_ = _) := HN
            have hm : (((crcSteps y k).toNat : Int)).tmod 2 = 0 := by rw [Int.tmod_eq_emod_of_nonneg (by omega)]; omega
            have hd : (((crcSteps y k).toNat : Int)).tdiv 2 = ((crcSteps y k).toNat : Int) / 2 := Int.tdiv_eq_ediv_of_nonneg (by omega)
            have hlt := (crcSteps y k).toNat_lt
            generalize crcSteps y k = v at *
            clear HN hp
            go_wp2
            go_round
            case rel => exact ⟨k + 1, by omega, by go_num, by rw [HN'.out]⟩
            case measure => simp [intOf]; omega
          · have HN := crc_odd _ hp
            rw [HS.out] at HN
            have HN' : Hid (_ = _) := HN
            have hm : (((crcSteps y k).toNat : Int)).tmod 2 = 1 := by rw [Int.tmod_eq_emod_of_nonneg (by omega)]; omega
            have hd : (((crcSteps y k).toNat : Int)).tdiv 2 = ((crcSteps y k).toNat : Int) / 2 := Int.tdiv_eq_ediv_of_nonneg (by omega)
            have hlt := (crcSteps y k).toNat_lt
            generalize crcSteps y k = v at *
            clear HN hp
            go_wp2
            go_round
            case rel => exact ⟨k + 1, by omega, by go_num, by rw [HN'.out]⟩
            case measure => simp [intOf]; omega
        · obtain rfl : k = 8 := by omega
          have HF : Hid (crcOf c0 ((strB s).take (i + 1)) = crcSteps y 8) := by
            show _ = _
            rw [HT.out, crcOf_snoc, HCQ.out, hyq]
          generalize crcSteps y 8 = v at *
          clear hidx
          go_wp2
          go_round
          case rel => exact ⟨i + 1, by omega, by go_num, by rw [HF.out]⟩
          case measure => simp [intOf]; omega
    · have HF : Hid (crcB (strB s) = ~~~ crcOf c0 ((strB s).take i)) := by
        show _ = _
        rw [List.take_of_length_le (by omega), HC0.out]; rfl
      generalize crcOf c0 ((strB s).take i) = v at *
      have HX : Hid (bits .xor .u32 (v.toNat : Int) (c0.toNat : Int) = ((~~~ v).toNat : Int)) := by
        show _ = _
        rw [w_xor, HC0.out]
        congr 2
        rw [UInt32.xor_comm]; exact UInt32.neg_one_xor
      go_wp2
      go_ret
      exact ⟨ret_u32 (HX.out.trans (by rw [HF.out])), rfl⟩
end Go.Proofs.Ytaejcclepahefaa

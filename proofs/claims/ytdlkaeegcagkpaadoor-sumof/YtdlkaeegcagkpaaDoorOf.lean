/-
  What sum.Of and sum.CRC answer: contracts over this translation.
-/
import Derived.Test.YtdlkaeegcagkpaaDoorSum
namespace Go.Proofs.YtdlkaeegcagkpaaDoor
open Go.RowKit
theorem shaB_length (all : List UInt8) : (shaB all).length = 32 := by
  rw [shaB, ← digFill_all]; exact digFill_length _ 8 (by omega)
set_option maxRecDepth 100000 in
set_option maxHeartbeats 1000000 in
theorem write_nil (b : Nat) (ao : Option Addr) (cap : Nat) (w : World) :
    Calls Tryd.prog 19 #[.pointer (some ⟨b, 0, none⟩), .slice ao 0 cap] w fun e w' => e = .returned (.tuple #[]) ∧ w' = w := by
  go_enter Tryd.func19, Tryd.ntmps19
  go_wp2
  go_loopw [1] (fun x wr => x = .slice ao 0 cap ∧ wr = w) (fun _ _ => 0)
  case atStart => exact ⟨rfl, rfl⟩
  case round =>
    obtain ⟨rfl, rfl⟩ := hrel
    go_wp2
    go_end0
    exact ⟨rfl, rfl⟩
theorem bytes_or {w : World} {ao : Option Addr} {n : Nat} {bs : List UInt8} (hb : Bytes w ao n bs) : (∀ x, ao = some x → x.block < w.heap.size) ∨ bs = [] := by
  cases hq : bs with
  | nil => exact .inr rfl
  | cons c t =>
    refine .inl (fun x hx => ?_)
    obtain ⟨y, hy, hc⟩ := hb.2 0 c (by rw [hq]; rfl)
    rw [hx] at hy; cases hy
    exact World.block_lt_of_cell? w _ hc
/-- Write, of whatever came in ahead of the Hash. -/
theorem write_old (b B : Nat) (all bs : List UInt8) (ao : Option Addr) (n cap : Nat) (w : World) (hH : HH w b all) (hb : Bytes w ao n bs) (hne : (∀ x, ao = some x → x.block < B) ∨ bs = []) (hB : B ≤ b) (hnc : n ≤ cap) (hcap : cap ≤ 9223372036854775807)
    (hK : WW w 0 ks) (hb0 : 0 < b) (hbs : b < w.heap.size) (hbig : all.length + n < 9223372036854775807) :
    Calls Tryd.prog 19 #[.pointer (some ⟨b, 0, none⟩), .slice ao n cap] w fun e w' => e = .returned (.tuple #[]) ∧ HH w' b (all ++ bs) ∧ Chg b w w' := by
  rcases hne with hne | rfl
  · exact write_any b all bs ao n cap w hH hb (fun x hx => by have := hne x hx; omega) hnc hcap hK hb0 hbs hbig
  · obtain rfl : n = 0 := hb.1.symm
    refine (write_nil b ao cap w).mono ?_
    rintro e w' ⟨rfl, rfl⟩
    exact ⟨rfl, by rw [List.append_nil]; exact hH, Chg.refl _ _⟩
set_option maxRecDepth 100000 in
set_option maxHeartbeats 1000000 in
theorem of_any (ao : Option Addr) (n cap : Nat) (bs : List UInt8) (w : World) (hb : Bytes w ao n bs) (hnc : n ≤ cap) (hcap : cap ≤ 9223372036854774000) (hK : WW w 0 ks) (h0 : 0 < w.heap.size) :
    Calls Tryd.prog 10 #[.slice ao n cap] w fun e w' => e = .returned (.agg (cellsOf (shaB bs)).toArray) ∧ Below w.heap.size w w' := by
  obtain ⟨D, HD⟩ : ∃ D, Hid (D = (cellsOf (shaB bs)).toArray) := ⟨_, rfl⟩
  have hDs : D.size = 32 := by rw [HD.out, List.size_toArray, cellsOf_length, shaB_length]
  have hD1 : D.all (·.oneCell') = true := by rw [HD.out]; exact all_oneCell_toArray (cellsOf_one _)
  rw [← HD.out]
  have hor := bytes_or hb
  have hbl := hb.1
  go_enter Tryd.func10, Tryd.ntmps10
  go_wp2_with fail
  obtain ⟨A, HA⟩ : ∃ A : Array Value, Hid (A = (cellsOf (List.replicate 32 0)).toArray) := ⟨_, rfl⟩
  have hA : A.size = 32 := by rw [HA.out]; rfl
  refine (new_any _).mono ?_
  rintro e w1 ⟨b, rfl, hb1, hb2, hH, hbel1⟩
  have hbelA : Below w.heap.size w w1 := (bel_alloc _ _).trans (hbel1.mono (by simp))
  have hsz : w.heap.size + 1 ≤ b := by simpa using hb1
  have hres : w1.heap[w.heap.size]? = some (.cells A 25) := by
    rw [HA.out]; exact (hbel1.block _ (by simp)).trans (heap_alloc_new _ _)
  have hbw := bytes_kept hb hbelA (Nat.le_refl _)
  have hK1 := hK.below hbelA h0
  clear hbel1 hb1 hb hK
  generalize hn : w.heap.size = r at *
  have HOR : Hid ((∀ x, ao = some x → x.block < r) ∨ bs = []) := hor
  clear hor HA
  go_wp2_with fail
  refine (write_old b r [] bs ao n cap w1 hH hbw HOR.out (by omega) hnc (by omega) hK1 (by omega) hb2 (by simp; omega)).mono ?_
  rintro e w2 ⟨rfl, hH2, hchg⟩
  rw [List.nil_append] at hH2
  have hs2 := hchg.size
  have hK2 := hK1.chg hchg (by omega) (by omega)
  have hres2 := (hchg.block r (by omega) (by omega)).trans hres
  have hbel2 : Below r w w2 := hbelA.trans (hchg.below (by omega) (by omega))
  clear hres hK1 hbw hchg hbelA
  go_wp2_with fail
  refine (sum_any b bs w2 hH2 hK2 (by omega) (by omega) (by omega)).mono ?_
  rintro e w3 ⟨rfl, hbel3⟩
  rw [← HD.out]
  have hres3 := (hbel3.block r (by omega)).trans hres2
  have hbelF : Below r w w3 := hbel2.trans (hbel3.mono (by omega))
  clear hres2 hK2 hH2 hbel3 hbel2 HD
  go_wp2_with (refine wpList_store_row rfl 25 (.tmp 2) (.tmp 9) rfl r D rfl rfl 25 A hres3 ?hs2 ?ho hD1 ?_)
  case hs2 => rw [size25, hDs]
  case ho => rw [hA, hDs]
  refine bodyPost_ret (results_cell_row rfl _ _ r 25 D (0, 0) _ rfl (setRow_heap _ _ _ _ _ _ hres3) Tryd.underlying25 rfl (by rw [size25, hDs])) rfl ?_
  exact ⟨rfl, by rw [hn]; exact below_setRow hbelF (Nat.le_refl _) _⟩

/-- The check. -/
def crcStep (c : UInt32) : UInt32 := c >>> 1 ^^^ (0xedb88320 &&& -(c &&& 1))
def crcSteps (c : UInt32) : Nat → UInt32
  | 0 => c
  | k + 1 => crcStep (crcSteps c k)
def crcOf : UInt32 → List UInt8 → UInt32
  | c, [] => c
  | c, x :: t => crcOf (crcSteps (c ^^^ x.toUInt32) 8) t
def crcB (l : List UInt8) : UInt32 := ~~~ crcOf 0xffffffff l
theorem crcOf_snoc (c : UInt32) (l : List UInt8) (x : UInt8) : crcOf c (l ++ [x]) = crcSteps (crcOf c l ^^^ x.toUInt32) 8 := by
  induction l generalizing c with
  | nil => rfl
  | cons a t ih => simp only [List.cons_append, crcOf, ih]
theorem crc_num (c : UInt32) : bits .xor .u32 ((c.toNat : Int) / (2 : Int)) (bits .and .u32 3988292384 (IntKind.u32.wrap (-(bits .and .u32 (c.toNat : Int) 1)))) = ((crcStep c).toNat : Int) := by
  have h1 : bits .and .u32 (c.toNat : Int) 1 = ((c &&& 1).toNat : Int) := w_and c 1
  have h2 : IntKind.u32.wrap (-((c &&& 1).toNat : Int)) = ((-(c &&& 1)).toNat : Int) := by
    have := (c &&& 1).toNat_lt
    rw [IntKind.wrap_u32', UInt32.toNat_neg]; simp only [UInt32.size]; omega
  have h3 : bits .and .u32 3988292384 ((-(c &&& 1)).toNat : Int) = ((0xedb88320 &&& -(c &&& 1)).toNat : Int) := w_and 0xedb88320 _
  have h4 : (c.toNat : Int) / (2 : Int) = ((c >>> 1).toNat : Int) := w_shr c 1 2 (by decide) (by decide)
  rw [h1, h2, h3, h4, w_xor]; rfl
set_option maxRecDepth 100000 in
set_option maxHeartbeats 1000000 in
theorem crc_any (ao : Option Addr) (n cap : Nat) (bs : List UInt8) (w : World) (hb : Bytes w ao n bs) (hcap : n ≤ 9223372036854774000) :
    Calls Tryd.prog 14 #[.slice ao n cap] w fun e w' => e = .returned (.int .u32 (crcB bs).toNat) ∧ w' = w := by
  have hbl := hb.1
  obtain ⟨c0, HC0⟩ : ∃ c0 : UInt32, Hid (c0 = 0xffffffff) := ⟨_, rfl⟩
  have hc0 : (4294967295 : Int) = (c0.toNat : Int) := by rw [HC0.out]; rfl
  go_enter Tryd.func14, Tryd.ntmps14
  go_wp2
  rw [hc0]
  go_loop [3, 8] (fun c t => ∃ i : Nat, i ≤ n ∧ t = .int .i64 i ∧ c = .int .u32 (crcOf c0 (bs.take i)).toNat) (fun _ t => (n - intOf t).toNat)
  case atStart => exact ⟨0, by omega, rfl, rfl⟩
  case round =>
    obtain ⟨i, hi, rfl, rfl⟩ := hrel
    by_cases hin : i < n
    · obtain ⟨x, hx⟩ : ∃ x, bs[i]? = some x := ⟨bs[i]'(by omega), by simp⟩
      obtain ⟨a, rfl, hcell⟩ := hb.2 i x hx
      have HT : Hid (bs.take (i + 1) = bs.take i ++ [x]) := by show _ = _; rw [List.take_add_one, hx]; rfl
      have hxl := x.toNat_lt
      generalize hcq : crcOf c0 (bs.take i) = c at *
      have HCQ : Hid (crcOf c0 (bs.take i) = c) := hcq
      clear hb hx hcq
      have HY : Hid (bits .xor .u32 (c.toNat : Int) (x.toNat : Int) = ((c ^^^ x.toUInt32).toNat : Int)) := by
        show _ = _
        rw [← w_xor, UInt8.toNat_toUInt32]
      go_wp2
      rw [HY.out]
      clear HY
      generalize hyq : c ^^^ x.toUInt32 = y at *
      go_loop [3, 16] (fun c t => ∃ k : Nat, k ≤ 8 ∧ t = .int .i64 k ∧ c = .int .u32 (crcSteps y k).toNat) (fun _ t => (8 - intOf t).toNat)
      case atStart => exact ⟨0, by omega, rfl, rfl⟩
      case round =>
        obtain ⟨k, hk, rfl, rfl⟩ := hrel
        by_cases hk8 : k < 8
        · have HN : Hid (_ = _) := crc_num (crcSteps y k)
          have HS : Hid (crcStep (crcSteps y k) = crcSteps y (k + 1)) := rfl
          generalize crcSteps y k = z at *
          have hzl := z.toNat_lt
          go_wp2
          go_round
          case rel => exact ⟨k + 1, by omega, by go_num, by rw [← HS.out]; exact congrArg _ HN.out⟩
          case measure => simp [intOf]; omega
        · have hk' : k = 8 := by omega
          have HC2 : Hid (crcOf c0 (bs.take (i + 1)) = crcSteps y k) := by show _ = _; rw [HT.out, crcOf_snoc, HCQ.out, hyq, hk']
          generalize crcSteps y k = z at *
          go_wp2
          go_round
          case rel => exact ⟨i + 1, by omega, by go_num, by rw [HC2.out]⟩
          case measure => simp [intOf]; omega
    · have hi' : i = n := by omega
      have HF : Hid (crcOf c0 (bs.take i) = crcOf c0 bs) := by show _ = _; rw [List.take_of_length_le (by omega)]
      have HC3 : Hid (crcB bs = ~~~ crcOf c0 bs) := by show _ = _; rw [HC0.out]; rfl
      rw [HF.out] at *
      generalize crcOf c0 bs = z at *
      have HN : Hid (_ = _) := w_not z
      go_wp2
      go_ret
      rw [HC3.out]
      exact ⟨ret_u32 HN.out, rfl⟩
end Go.Proofs.YtdlkaeegcagkpaaDoor

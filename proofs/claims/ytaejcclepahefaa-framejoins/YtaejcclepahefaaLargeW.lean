/-
  The statement FrameLarge, walked.
-/
import Derived.Test.YtaejcclepahefaaJoinM
import Derived.Test.YtaejcclepahefaaArgs
namespace Go.Proofs.Ytaejcclepahefaa
open Go.RowKit
theorem i64_and3 (n : Int) : bits .and .i64 n 3 = n % 4 := by
  have hm : (BitVec.ofInt 64 3).toNat = 2 ^ 2 - 1 := by decide
  have key : (BitVec.ofInt 64 n &&& BitVec.ofInt 64 3).toNat = (n % ((2 ^ 64 : Nat) : Int)).toNat % 2 ^ 2 := by
    rw [BitVec.toNat_and, BitVec.toNat_ofInt, hm, Nat.and_two_pow_sub_one_eq_mod]
  show IntKind.i64.wrap ((BitVec.ofInt 64 n &&& BitVec.ofInt 64 3).toNat : Nat) = n % 4
  rw [key, IntKind.wrap_i64]
  omega
theorem fill_set (S k : Nat) (f : UInt8) (h : k < S) : (cellsOf (List.replicate k f ++ List.replicate (S - k) 0)).set k (.int .u8 (f.toNat : Int)) = cellsOf (List.replicate (k + 1) f ++ List.replicate (S - (k + 1)) 0) := by
  unfold cellsOf
  rw [← List.map_set (f := fun b : UInt8 => Value.int .u8 (b.toNat : Int)) (a := f)]
  congr 1
  rw [List.set_append_right _ _ (by simp), List.length_replicate, Nat.sub_self]
  obtain ⟨m, hm⟩ : ∃ m, S - k = m + 1 := ⟨S - k - 1, by omega⟩
  rw [hm, List.replicate_succ, List.set_cons_zero, show S - (k + 1) = m by omega, List.replicate_succ']
  simp
theorem big_next : nextF [0, 1, 0, 1] = ([], 0, 2) := by kernel_rfl
theorem own_zeros (w : World) (S : Nat) (hS : S ≤ 100000) : (w.alloc (.cells (zrow S) 5)).ownsRow w.heap.size 5 1 (.slice (some ⟨w.heap.size, 0, none⟩) S S) S (cellsOf (List.replicate S 0)) := by
  refine ⟨by rw [cellsOf_length]; simp, .inr ⟨w.heap.size, S, zrow S, rfl, Nat.le_refl _, World.alloc_heap_new w _, Nat.le_refl _, by unfold maxLen; omega, by rw [zrow_cells]; simp [cellsOf], by rw [zrow_cells]; simp [cellsOf]⟩⟩
set_option maxRecDepth 100000 in
set_option maxHeartbeats 4000000 in
theorem large_walk (n : Int) (f : UInt8) (w : World) :
    Calls Try.prog 15 #[.int .i64 n, .int .u8 (f.toNat : Int)] w fun e w' => e = .returned (.bool true) ∧ Below w.heap.size w w' := by
  obtain ⟨S, hS⟩ : ∃ S : Nat, 65534 + n % 4 = (S : Int) := ⟨(65534 + n % 4).toNat, by omega⟩
  have hS1 : 65534 ≤ S := by omega
  have hS2 : S ≤ 65537 := by omega
  have hand := i64_and3 n
  obtain ⟨q, hq⟩ : ∃ q : Int, n % 4 = q := ⟨_, rfl⟩
  rw [hq] at hS hand
  have hadd : wrap64 (65534 + q) = (S : Int) := by unfold wrap64; omega
  clear hq hS
  go_enter Try.func15, Try.ntmps15
  go_wp2_with fail
  refine (shown_any w).mono ?_
  rintro e w1 ⟨rfl, hb1⟩
  have HB1 : Hid (Below w.heap.size w w1) := hb1
  have hmk := make_zeros S (by omega) w1
  have HZ : Hid ((w1.alloc (.cells (zrow S) 5)).ownsRow w1.heap.size 5 1 (.slice (some ⟨w1.heap.size, 0, none⟩) S S) S (cellsOf (List.replicate S 0))) := own_zeros w1 S (by omega)
  have HZB : Hid (Below w1.heap.size w1 (w1.alloc (.cells (zrow S) 5))) := bel_alloc _ _
  clear hb1
  go_wp2_with fail
  simp only [hadd]
  clear hmk hand hadd
  generalize w1.alloc (.cells (zrow S) 5) = w2 at *
  go_loopw [8] (fun i wr => ∃ (k : Nat), k ≤ S ∧ i = .int .i64 k ∧ wr.ownsRow w1.heap.size 5 1 (.slice (some ⟨w1.heap.size, 0, none⟩) S S) S (cellsOf (List.replicate k f ++ List.replicate (S - k) 0)) ∧ Below w1.heap.size w1 wr) (fun i _ => S - (intOf i).toNat)
  case atStart => exact ⟨0, by omega, rfl, by simpa using HZ.out, HZB.out⟩
  case round =>
    clear HZ HZB
    obtain ⟨k, hk, rfl, hxr, hbr⟩ := hrel
    by_cases hlt : k < S
    · obtain ⟨u0, hu0⟩ : ∃ u0, wr.cell? ⟨w1.heap.size, k, none⟩ = some u0 := by
        rw [hxr.cellAt k (by omega)]
        exact ⟨_, List.getElem?_eq_getElem (by rw [hxr.1]; omega)⟩
      have hfz := hxr.frozenAt k
      have hst := (hxr.stored k (.int .u8 (f.toNat : Int))).1
      rw [fill_set S k f hlt] at hst
      have HST : Hid _ := hst
      have HBK : Hid (Below w1.heap.size w1 (wr.setCell ⟨w1.heap.size, k, none⟩ (.int .u8 (f.toNat : Int)))) := hbr.setCell (Nat.le_refl _) _
      clear hxr hbr hst
      go_wp2
      go_roundw
      case rel => exact ⟨k + 1, by omega, by go_num, HST.out, HBK.out⟩
      case measure => simp [intOf]; omega
    · obtain rfl : k = S := by omega
      have hlt' : ¬ (k : Int) < (k : Int) := by omega
      rw [Nat.sub_self, List.replicate_zero, List.append_nil] at hxr
      obtain ⟨bd, hbd⟩ : ∃ bd, List.replicate k f = bd := ⟨_, rfl⟩
      rw [hbd] at hxr
      have HBL : Hid (bd.length = k) := by show _ = _; rw [← hbd]; simp
      have HBY : Hid (Bytes wr (some ⟨w1.heap.size, 0, none⟩) k bd) := own_row_bytes hxr
      have HBW : Hid (Below w.heap.size w wr) := HB1.out.trans (hbr.mono HB1.out.size)
      have FB : Hid (SV.fine ⟨some ⟨w1.heap.size, 0, none⟩, k, k, bd⟩) := ⟨(fun h => by cases h), Nat.le_refl _, (by show k ≤ 9223372036854775807; omega)⟩
      clear hbd hxr hbr HB1
      by_cases hbig : 65536 < k
      · have HP : Hid _ := put_large ⟨none, 0, 0, []⟩ ⟨some ⟨w1.heap.size, 0, none⟩, k, k, bd⟩ wr hbig
        have hbig' : (65536 : Int) < (k : Int) := by omega
        go_wp2_with fail
        refine Calls.mono HP.out ?_
        rintro e w3 ⟨rfl, rfl⟩
        go_wp2_with fail
        go_ret
        exact ⟨rfl, HBW.out⟩
      · have hbig' : ¬ (65536 : Int) < (k : Int) := by omega
        obtain ⟨K, hK⟩ : ∃ K, 8 + k = K := ⟨_, rfl⟩
        have HP : Hid _ := put_nil ⟨some ⟨w1.heap.size, 0, none⟩, k, k, bd⟩ K wr HBY.out FB.out (by show k ≤ 65536; omega) hK
        go_wp2_with fail
        refine Calls.mono HP.out ?_
        rintro e w3 ⟨g, c, rfl, hown, ⟨q1, q2⟩, -, hb3⟩
        have hNF : nextF (frameB bd) = (bd, 8 + bd.length, 0) := by
          have := next_frame bd [] (by rw [HBL.out]; omega); rwa [List.append_nil] at this
        have HN := next_ok ⟨some ⟨g, 0, none⟩, K, c, frameB bd⟩ k w3 (own_row_bytes hown) ⟨(fun h => by cases h), q1, q2⟩ (by simp only [hNF]) (by simp only [hNF]; exact HBL.out)
        simp only [hNF] at HN
        have HNN : Hid _ := HN
        have HB3 : Hid (Below w.heap.size w w3) := HBW.out.trans (hb3.mono HBW.out.size)
        have HBY3 : Hid (Bytes w3 (some ⟨w1.heap.size, 0, none⟩) k bd) := bytes_kept HBY.out hb3 (Nat.le_refl _)
        clear HP HN hown hb3 hNF HBW HBY
        go_wp2_with fail
        refine Calls.mono HNN.out ?_
        rintro e w4 ⟨xo, xc, rfl, hown4, hb4⟩
        have HB4 : Hid (Below w.heap.size w w4) := HB3.out.trans (hb4.mono HB3.out.size)
        have HBY4 : Hid (Bytes w4 (some ⟨w1.heap.size, 0, none⟩) k bd) := bytes_kept HBY3.out hb4 (Nat.le_refl _)
        have HX4 : Hid (Bytes w4 xo k bd) := by
          obtain ⟨ao3, c3, e3, hb3, -⟩ := own_bytes hown4; cases e3; exact hb3
        obtain ⟨W5, hW5⟩ : ∃ W, w4.alloc (Obj.cells #[.int .u8 0, .int .u8 1, .int .u8 0, .int .u8 1] 5) = W := ⟨_, rfl⟩
        have bz : Bytes W5 (some ⟨w4.heap.size, 0, none⟩) 4 [0, 1, 0, 1] := by
          rw [← hW5]; exact block_bytes (bs := [0, 1, 0, 1]) (t := 5) (fr := (0, 0)) (World.alloc_heap_new w4 _)
        have hn5 := next_no ⟨some ⟨w4.heap.size, 0, none⟩, 4, 4, [0, 1, 0, 1]⟩ W5 bz ⟨(fun h => by cases h), Nat.le_refl _, (by show 4 ≤ 9223372036854775807; omega)⟩ (by simp only [big_next]; decide)
        simp only [big_next] at hn5
        have H5 : Hid _ := hn5
        have hb45 : Below w4.heap.size w4 W5 := by rw [← hW5]; exact bel_alloc _ _
        have HB5 : Hid (Below w.heap.size w W5) := HB4.out.trans (hb45.mono HB4.out.size)
        have HBY5 : Hid (Bytes W5 (some ⟨w1.heap.size, 0, none⟩) k bd) := bytes_kept HBY4.out hb45 (Nat.le_refl _)
        have HX5 : Hid (Bytes W5 xo k bd) := bytes_kept HX4.out hb45 (Nat.le_refl _)
        clear hown4 hb4 HNN bz hn5 hb45 HB4 HBY4 HX4 HB3 HBY3
        go_wp2_with fail
        refine Calls.mono H5.out ?_
        rintro e w6 ⟨yo, yc, rfl, -, hb6⟩
        have HB6 : Hid (Below w.heap.size w w6) := HB5.out.trans (hb6.mono HB5.out.size)
        have c1 := str_bS k (bytes_kept HBY5.out hb6 (Nat.le_refl _))
        have c2 := str_bS xc (bytes_kept HX5.out hb6 (Nat.le_refl _))
        have hadd8 : wrap64 ((k : Int) + 8) = 8 + (k : Int) := by unfold wrap64; omega
        clear hb6 H5 HBY5 HX5 HB5
        go_wp2_with fail
        go_ret
        exact ⟨rfl, HB6.out⟩
theorem u8_nat {f : Int} (hf : (Lit.int .u8 f).wf = true) : f = ((UInt8.ofNat f.toNat).toNat : Int) := by
  have hb := bounds_u8 hf
  rw [toNat_ofNat f.toNat (by omega), Int.toNat_of_nonneg hb.1]
theorem large_any (n f : Int) (hf : (Lit.int .u8 f).wf = true) (w : World) :
    Calls Try.prog 15 #[.int .i64 n, .int .u8 f] w fun e w' => e = .returned (.bool true) ∧ Below w.heap.size w w' := by
  rw [u8_nat hf]; exact large_walk n _ w
end Go.Proofs.Ytaejcclepahefaa

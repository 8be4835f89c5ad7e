/-
  What the document's answers marlstoneref02.CRC and marlstoneref02.Hex answer: contracts over this translation.
-/
import Derived.Test.YtdlkaeegcagkpaaDoorAppend
import Derived.Test.YtdlkaeegcagkpaaDoorDigits
namespace Go.Proofs.YtdlkaeegcagkpaaDoor
open Go.RowKit
def strB (s : ByteArray) : List UInt8 := s.data.toList
theorem strB_length (s : ByteArray) : (strB s).length = s.size := by simp [strB]
theorem strB_mk (l : List UInt8) : strB ⟨l.toArray⟩ = l := by simp [strB]
theorem crc_even (c : UInt32) (h : c.toNat % 2 = 0) : ((crcStep c).toNat : Int) = (c.toNat : Int) / (2 : Int) := by
  have h1 : c &&& 1 = 0 := by
    apply UInt32.toNat_inj.1; rw [UInt32.toNat_and]
    show c.toNat &&& 1 = 0
    rw [Nat.and_one_is_mod, h]
  have : crcStep c = c >>> 1 := by rw [crcStep, h1]; simp
  rw [this]; exact (w_shr c 1 2 (by decide) (by decide)).symm
theorem crc_odd (c : UInt32) (h : c.toNat % 2 = 1) : ((crcStep c).toNat : Int) = bits .xor .u32 ((c.toNat : Int) / (2 : Int)) 3988292384 := by
  have h1 : c &&& 1 = 1 := by
    apply UInt32.toNat_inj.1; rw [UInt32.toNat_and]
    show c.toNat &&& 1 = 1
    rw [Nat.and_one_is_mod, h]
  have : crcStep c = c >>> 1 ^^^ 0xedb88320 := by rw [crcStep, h1]; congr 1
  have e : (c.toNat : Int) / (2 : Int) = ((c >>> 1).toNat : Int) := w_shr c 1 2 (by decide) (by decide)
  rw [this, e]
  exact (w_xor (c >>> 1) 0xedb88320).symm
set_option maxRecDepth 100000 in
set_option maxHeartbeats 1000000 in
theorem refCRC_any (s : ByteArray) (w : World) (hs : s.size ≤ 9223372036854774000) :
    Calls Tryd.prog 15 #[.string s] w fun e w' => e = .returned (.int .u32 (crcB (strB s)).toNat) ∧ w' = w := by
  have hbl := strB_length s
  obtain ⟨c0, HC0⟩ : ∃ c0 : UInt32, Hid (c0 = 0xffffffff) := ⟨_, rfl⟩
  have hc0 : (4294967295 : Int) = (c0.toNat : Int) := by rw [HC0.out]; rfl
  go_enter Tryd.func15, Tryd.ntmps15
  go_wp2
  rw [hc0]
  go_loop [3, 4] (fun c t => ∃ i : Nat, i ≤ s.size ∧ t = .int .i64 i ∧ c = .int .u32 (crcOf c0 ((strB s).take i)).toNat) (fun _ t => (s.size - intOf t).toNat)
  case atStart => exact ⟨0, by omega, rfl, rfl⟩
  case round =>
    obtain ⟨i, hi, rfl, rfl⟩ := hrel
    by_cases hin : i < s.size
    · obtain ⟨x, hx⟩ : ∃ x, (strB s)[i]? = some x := ⟨(strB s)[i]'(by omega), by simp⟩
      have HT : Hid ((strB s).take (i + 1) = (strB s).take i ++ [x]) := by show _ = _; rw [List.take_add_one, hx]; rfl
      have hidx : ∀ w, (Instr.index 9 (.string s) (.int .i64 (i : Int))).run Tryd.prog w = .ok (.int .u8 (x.toNat : Int)) w := run_index_str s i x _ rfl hx
      have hxl := x.toNat_lt
      generalize hcq : crcOf c0 ((strB s).take i) = c at *
      have HCQ : Hid (crcOf c0 ((strB s).take i) = c) := hcq
      clear hx hcq
      have HY : Hid (bits .xor .u32 (c.toNat : Int) (x.toNat : Int) = ((c ^^^ x.toUInt32).toNat : Int)) := by
        show _ = _
        rw [← w_xor, UInt8.toNat_toUInt32]
      go_wp2
      rw [HY.out]
      clear HY
      generalize hyq : c ^^^ x.toUInt32 = y at *
      go_loop [3, 5] (fun c t => ∃ k : Nat, k ≤ 8 ∧ t = .int .i64 k ∧ c = .int .u32 (crcSteps y k).toNat) (fun _ t => (8 - intOf t).toNat)
      case atStart => exact ⟨0, by omega, rfl, rfl⟩
      case round =>
        obtain ⟨k, hk, rfl, rfl⟩ := hrel
        by_cases hk8 : k < 8
        · have HS : Hid (crcStep (crcSteps y k) = crcSteps y (k + 1)) := rfl
          rcases Nat.mod_two_eq_zero_or_one (crcSteps y k).toNat with hp | hp
          · have HN := crc_even _ hp
            rw [HS.out] at HN
            have HN' : Hid (_ = _) := HN
            have hm : (((crcSteps y k).toNat : Int)).tmod 2 = 0 := by rw [Int.tmod_eq_emod_of_nonneg (by omega)]; omega
            have hd : (((crcSteps y k).toNat : Int)).tdiv 2 = ((crcSteps y k).toNat : Int) / 2 := Int.tdiv_eq_ediv_of_nonneg (by omega)
            have hlt := (crcSteps y k).toNat_lt
            generalize crcSteps y k = v at *
            clear HN hp
            go_wp2
            go_round
            case rel => exact ⟨k + 1, by omega, by go_num, by rw [HN'.out]⟩
            case measure => simp [intOf]; omega
          · have HN := crc_odd _ hp
            rw [HS.out] at HN
            have HN' : Hid (_ = _) := HN
            have hm : (((crcSteps y k).toNat : Int)).tmod 2 = 1 := by rw [Int.tmod_eq_emod_of_nonneg (by omega)]; omega
            have hd : (((crcSteps y k).toNat : Int)).tdiv 2 = ((crcSteps y k).toNat : Int) / 2 := Int.tdiv_eq_ediv_of_nonneg (by omega)
            have hlt := (crcSteps y k).toNat_lt
            generalize crcSteps y k = v at *
            clear HN hp
            go_wp2
            go_round
            case rel => exact ⟨k + 1, by omega, by go_num, by rw [HN'.out]⟩
            case measure => simp [intOf]; omega
        · obtain rfl : k = 8 := by omega
          have HF : Hid (crcOf c0 ((strB s).take (i + 1)) = crcSteps y 8) := by
            show _ = _
            rw [HT.out, crcOf_snoc, HCQ.out, hyq]
          generalize crcSteps y 8 = v at *
          clear hidx
          go_wp2
          go_round
          case rel => exact ⟨i + 1, by omega, by go_num, by rw [HF.out]⟩
          case measure => simp [intOf]; omega
    · have HF : Hid (crcB (strB s) = ~~~ crcOf c0 ((strB s).take i)) := by
        show _ = _
        rw [List.take_of_length_le (by omega), HC0.out]; rfl
      generalize crcOf c0 ((strB s).take i) = v at *
      have HX : Hid (bits .xor .u32 (v.toNat : Int) (c0.toNat : Int) = ((~~~ v).toNat : Int)) := by
        show _ = _
        rw [w_xor, HC0.out]
        congr 2
        rw [UInt32.xor_comm]; exact UInt32.neg_one_xor
      go_wp2
      go_ret
      exact ⟨ret_u32 (HX.out.trans (by rw [HF.out])), rfl⟩
theorem one_cell (w : World) (c : UInt8) (v1 : Value) (h1 : v1 = .int .u8 (c.toNat : Int)) : ∀ j u, (cellsOf [c])[j]? = some u → (w.alloc (.cells #[v1] 5)).cell? (Addr.add ⟨w.heap.size, 0, none⟩ j) = some u := by
  subst h1
  intro j u hu
  rw [Addr.add_lit, Nat.zero_add, cell_of_row _ _ j _ 5 (0, 0) (heap_alloc_new _ _)]
  simpa [cellsOf] using hu
set_option maxRecDepth 100000 in
set_option maxHeartbeats 1000000 in
theorem refHex_any (d : List UInt8) (w : World) (hd : d.length = 32) :
    Calls Tryd.prog 17 #[.agg (cellsOf d).toArray] w fun e w' => e = .returned (.string ⟨(hexB d).toArray⟩) ∧ Below w.heap.size w w' := by
  go_enter Tryd.func17, Tryd.ntmps17
  go_wp2_with fail
  refine wp_gen (fun w1 => Below w.heap.size w w1 ∧ w1.heap[w.heap.size]? = some (.cells (cellsOf d).toArray 25) ∧ w1.ownsRow (w.heap.size + 1) 5 1 (.slice (some ⟨w.heap.size + 1, 0, none⟩) 0 0) 0 (cellsOf []) ∧ w.heap.size + 2 ≤ w1.heap.size) ⟨(bel_alloc _ _).trans ((bel_alloc _ _).mono (by simp)), (heap_alloc_old _ _ (by simp)).trans (heap_alloc_new _ _), by have := own_empty (w.alloc (.cells (cellsOf d).toArray 25)); simpa using this, by simp⟩ ?_
  rintro w1 ⟨hbel1, hblk1, hown1, hs1⟩
  generalize hn : w.heap.size = n at *
  go_loopw [3, 4] (fun s t wr => ∃ (i : Nat) (v : Value), i ≤ 64 ∧ t = .int .i64 i ∧ v = s ∧ wr.ownsRow (n + 1) 5 1 v i (cellsOf ((hexB d).take i)) ∧ Below (n + 1) w1 wr) (fun _ t _ => (64 - intOf t).toNat)
  case atStart => exact ⟨0, _, by omega, rfl, rfl, hown1, Below.refl _ _⟩
  case round =>
    obtain ⟨i, v, hi, rfl, rfl, hown, hb⟩ := hrel
    have hbs := hb.size
    by_cases hi64 : i < 64
    · obtain ⟨c, hx⟩ : ∃ c, d[i / 2]? = some c := ⟨d[i / 2]'(by omega), by simp⟩
      have hcl := c.toNat_lt
      obtain ⟨x0, x1⟩ := hexB_at d (i / 2) c hx
      have hlen : ((hexB d).take i).length = i := by rw [List.length_take, hexB_length, hd]; omega
      have hlen2 : ((hexB d).take (i + 1)).length = i + 1 := by rw [List.length_take, hexB_length, hd]; omega
      have hown' : wr.ownsRow (n + 1) 5 1 v ((hexB d).take i).length (cellsOf ((hexB d).take i)) := by rw [hlen]; exact hown
      have hcell : wr.cell? ⟨n, i / 2, none⟩ = some (.int .u8 c.toNat) := by
        rw [cell_of_row wr n (i / 2) _ _ _ ((hb.block n (by omega)).trans hblk1)]; simp [cellsOf, hx]
      have hquo : (i : Int).tdiv 2 = ((i / 2 : Nat) : Int) := by rw [Int.tdiv_eq_ediv_of_nonneg (by omega)]; omega
      have hj0 : (0 : Int) ≤ ((i / 2 : Nat) : Int) := by omega
      have hj32 : ((i / 2 : Nat) : Int) < 32 := by omega
      have hdq : (c.toNat : Int).tdiv 16 = (c.toNat : Int) / 16 := Int.tdiv_eq_ediv_of_nonneg (by omega)
      have hdr : (c.toNat : Int).tmod 16 = (c.toNat : Int) % 16 := Int.tmod_eq_emod_of_nonneg (by omega)
      clear hx
      rcases Nat.mod_two_eq_zero_or_one i with hpar | hpar
      · obtain ⟨q, hq⟩ : ∃ q, c.toNat / 16 = q := ⟨_, rfl⟩
        have hqi : (c.toNat : Int) / 16 = (q : Int) := by omega
        have hmod : (i : Int).tmod 2 = 0 := by rw [Int.tmod_eq_emod_of_nonneg (by omega)]; omega
        have hq16 : q < 16 := by omega
        have HSTEP : Hid ((hexB d).take i ++ [hexd q] = (hexB d).take (i + 1)) := by
          show _ = _
          rw [List.take_add_one, show i = 2 * (i / 2) by omega, x0, hq]; rfl
        have HQ : Hid (c.toNat / 16 = q) := hq
        clear hq x0 x1 hpar
        by_cases hq10 : q < 10
        · have hq10' : (q : Int) < 10 := by omega
          have HNUM : Hid ((48 : Int) + (q : Int) = ((hexd q).toNat : Int)) := by show _ = _; rw [hexd_num q (by omega), if_pos hq10]; omega
          go_wp2_with (at_builtin; refine wpList_append_buf _ rfl (.tmp 26) (.tmp 29) rfl (n + 1) v ((hexB d).take i) rfl (Buf.alloc (.inr hown') _) (by simp; omega) ⟨wr.heap.size, 0, none⟩ 1 1 [hexd q] rfl rfl (by omega) (one_cell wr (hexd q) _ (by rw [← HNUM.out])) (by rw [hlen]; omega) ?_)
          intro v2 w2 hown2 hbel2
          rw [HSTEP.out] at hown2
          have hb2 : Below (n + 1) w1 w2 := (hb.alloc (by omega) _).trans hbel2
          try rw [hlen2] at hown2
          clear hown hown' hbel2 hb hcell
          go_wp2
          go_roundw
          case rel => exact ⟨i + 1, v2, by omega, by go_num, rfl, hown2, hb2⟩
          case measure => simp [intOf]; omega
        · have hq10' : ¬ ((q : Int) < 10) := by omega
          have HNUM : Hid ((97 : Int) + (q : Int) - 10 = ((hexd q).toNat : Int)) := by show _ = _; rw [hexd_num q (by omega), if_neg hq10]; omega
          go_wp2_with (at_builtin; refine wpList_append_buf _ rfl (.tmp 31) (.tmp 35) rfl (n + 1) v ((hexB d).take i) rfl (Buf.alloc (.inr hown') _) (by simp; omega) ⟨wr.heap.size, 0, none⟩ 1 1 [hexd q] rfl rfl (by omega) (one_cell wr (hexd q) _ (by rw [← HNUM.out])) (by rw [hlen]; omega) ?_)
          intro v2 w2 hown2 hbel2
          rw [HSTEP.out] at hown2
          have hb2 : Below (n + 1) w1 w2 := (hb.alloc (by omega) _).trans hbel2
          try rw [hlen2] at hown2
          clear hown hown' hbel2 hb hcell
          go_wp2
          go_roundw
          case rel => exact ⟨i + 1, v2, by omega, by go_num, rfl, hown2, hb2⟩
          case measure => simp [intOf]; omega
      · obtain ⟨q, hq⟩ : ∃ q, c.toNat % 16 = q := ⟨_, rfl⟩
        have hqi : (c.toNat : Int) % 16 = (q : Int) := by omega
        have hmod : (i : Int).tmod 2 = 1 := by rw [Int.tmod_eq_emod_of_nonneg (by omega)]; omega
        have hq16 : q < 16 := by omega
        have HSTEP : Hid ((hexB d).take i ++ [hexd q] = (hexB d).take (i + 1)) := by
          show _ = _
          rw [List.take_add_one, show i = 2 * (i / 2) + 1 by omega, x1, hq]; rfl
        have HQ : Hid (c.toNat % 16 = q) := hq
        clear hq x0 x1 hpar
        by_cases hq10 : q < 10
        · have hq10' : (q : Int) < 10 := by omega
          have HNUM : Hid ((48 : Int) + (q : Int) = ((hexd q).toNat : Int)) := by show _ = _; rw [hexd_num q (by omega), if_pos hq10]; omega
          go_wp2_with (at_builtin; refine wpList_append_buf _ rfl (.tmp 26) (.tmp 29) rfl (n + 1) v ((hexB d).take i) rfl (Buf.alloc (.inr hown') _) (by simp; omega) ⟨wr.heap.size, 0, none⟩ 1 1 [hexd q] rfl rfl (by omega) (one_cell wr (hexd q) _ (by rw [← HNUM.out])) (by rw [hlen]; omega) ?_)
          intro v2 w2 hown2 hbel2
          rw [HSTEP.out] at hown2
          have hb2 : Below (n + 1) w1 w2 := (hb.alloc (by omega) _).trans hbel2
          try rw [hlen2] at hown2
          clear hown hown' hbel2 hb hcell
          go_wp2
          go_roundw
          case rel => exact ⟨i + 1, v2, by omega, by go_num, rfl, hown2, hb2⟩
          case measure => simp [intOf]; omega
        · have hq10' : ¬ ((q : Int) < 10) := by omega
          have HNUM : Hid ((97 : Int) + (q : Int) - 10 = ((hexd q).toNat : Int)) := by show _ = _; rw [hexd_num q (by omega), if_neg hq10]; omega
          go_wp2_with (at_builtin; refine wpList_append_buf _ rfl (.tmp 31) (.tmp 35) rfl (n + 1) v ((hexB d).take i) rfl (Buf.alloc (.inr hown') _) (by simp; omega) ⟨wr.heap.size, 0, none⟩ 1 1 [hexd q] rfl rfl (by omega) (one_cell wr (hexd q) _ (by rw [← HNUM.out])) (by rw [hlen]; omega) ?_)
          intro v2 w2 hown2 hbel2
          rw [HSTEP.out] at hown2
          have hb2 : Below (n + 1) w1 w2 := (hb.alloc (by omega) _).trans hbel2
          try rw [hlen2] at hown2
          clear hown hown' hbel2 hb hcell
          go_wp2
          go_roundw
          case rel => exact ⟨i + 1, v2, by omega, by go_num, rfl, hown2, hb2⟩
          case measure => simp [intOf]; omega
    · obtain rfl : i = 64 := by omega
      rw [List.take_of_length_le (by rw [hexB_length, hd]; omega)] at hown
      obtain ⟨ao, cap, rfl, hby, y1, y2, y3, y4, y5⟩ := own_bytes hown
      clear y1 y2 y3 y4 y5
      have hstr := str_bytes cap hby
      have hbn : Below n w wr := hbel1.trans (hb.mono (by omega))
      clear hown hby hb hblk1 hown1
      go_wp2
      go_ret
      exact ⟨rfl, by rw [hn]; exact hbn⟩
end Go.Proofs.YtdlkaeegcagkpaaDoor

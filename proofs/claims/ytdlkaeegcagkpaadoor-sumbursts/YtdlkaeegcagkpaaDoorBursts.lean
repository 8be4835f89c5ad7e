/-
  What marlstonelaw02.SumBursts answers: a contract over this translation.
-/
import Derived.Test.YtdlkaeegcagkpaaDoorAppend
import Derived.Test.YtdlkaeegcagkpaaDoorCrc
namespace Go.Proofs.YtdlkaeegcagkpaaDoor
open Go.RowKit
def byteOf (turn i : Nat) : UInt8 := UInt8.ofNat (turn / 2 ^ (8 * i) % 256)
def turnB (bs : List UInt8) (at_ turn : Nat) : Nat → List UInt8
  | 0 => bs
  | k + 1 => (turnB bs at_ turn k).set (at_ + k) (bs.getD (at_ + k) 0 ^^^ byteOf turn k)
theorem turnB_length (bs : List UInt8) (a t : Nat) : ∀ k, (turnB bs a t k).length = bs.length
  | 0 => rfl
  | k + 1 => by rw [turnB, List.length_set, turnB_length bs a t k]
theorem turnB_later (bs : List UInt8) (a t : Nat) : ∀ k j, a + k ≤ j → (turnB bs a t k).getD j 0 = bs.getD j 0
  | 0, _, _ => rfl
  | k + 1, j, h => by
    rw [turnB, List.getD, List.getElem?_set_ne (by omega)]
    exact turnB_later bs a t k j (by omega)
theorem turnB_four (p r : List UInt8) (a b c d : UInt8) (t : Nat) : turnB (p ++ ([a, b, c, d] ++ r)) p.length t 4 = p ++ ([a ^^^ byteOf t 0, b ^^^ byteOf t 1, c ^^^ byteOf t 2, d ^^^ byteOf t 3] ++ r) := by
  have h0 : (p ++ ([a, b, c, d] ++ r)).getD (p.length + 0) 0 = a := by simp
  have h1 : (p ++ ([a, b, c, d] ++ r)).getD (p.length + 1) 0 = b := by simp
  have h2 : (p ++ ([a, b, c, d] ++ r)).getD (p.length + 2) 0 = c := by simp
  have h3 : (p ++ ([a, b, c, d] ++ r)).getD (p.length + 3) 0 = d := by simp
  simp only [turnB, h0, h1, h2, h3]
  simp
theorem turn_zero (t : Nat) (ht : t < 4294967296) (h0 : byteOf t 0 = 0) (h1 : byteOf t 1 = 0) (h2 : byteOf t 2 = 0) (h3 : byteOf t 3 = 0) : t = 0 := by
  have k : ∀ i, byteOf t i = 0 → t / 2 ^ (8 * i) % 256 = 0 := fun i h => by
    have := congrArg UInt8.toNat h
    rw [byteOf, toNat_ofNat _ (by omega)] at this
    simpa using this
  have a0 := k 0 h0; have a1 := k 1 h1; have a2 := k 2 h2; have a3 := k 3 h3
  simp at a0 a1 a2 a3
  omega
theorem split_four (bs : List UInt8) (A : Nat) (h : A + 4 ≤ bs.length) : ∃ p a b c d r, bs = p ++ ([a, b, c, d] ++ r) ∧ p.length = A := by
  have e : bs = bs.take A ++ bs.drop A := (List.take_append_drop A bs).symm
  match hd : bs.drop A with
  | a :: b :: c :: d :: r => exact ⟨bs.take A, a, b, c, d, r, by rw [hd] at e; simpa using e, by simp; omega⟩
  | [] => have := congrArg List.length hd; simp at this; omega
  | [_] => have := congrArg List.length hd; simp at this; omega
  | [_, _] => have := congrArg List.length hd; simp at this; omega
  | [_, _, _] => have := congrArg List.length hd; simp at this; omega
theorem burst_ne (bs : List UInt8) (A t : Nat) (h : A + 4 ≤ bs.length) (ht : t < 4294967296) (h0 : t ≠ 0) : crcB bs ≠ crcB (turnB bs A t 4) := by
  obtain ⟨p, a, b, c, d, r, rfl, rfl⟩ := split_four bs A h
  rw [turnB_four]
  intro he
  obtain ⟨e0, e1, e2, e3⟩ := crc_burst p r _ _ _ _ _ _ _ _ he
  have z : ∀ x y : UInt8, x = x ^^^ y → y = 0 := fun x y h => by
    have : x ^^^ x = x ^^^ (x ^^^ y) := congrArg (x ^^^ ·) h
    rw [← UInt8.xor_assoc] at this
    simpa using this.symm
  exact h0 (turn_zero t ht (z _ _ e0) (z _ _ e1) (z _ _ e2) (z _ _ e3))
theorem xor_num (x : UInt8) (t i : Nat) : bits .xor .u8 (x.toNat : Int) ((t : Int) / 2 ^ (8 * i) % 256) = ((x ^^^ byteOf t i).toNat : Int) := by
  have : (t : Int) / 2 ^ (8 * i) % 256 = ((t / 2 ^ (8 * i) % 256 : Nat) : Int) := by simp
  rw [this, u8_xor_nat _ _ x.toNat_lt (by omega), UInt8.toNat_xor, byteOf, toNat_ofNat _ (by omega)]
theorem block_pre {w : World} {g : Nat} {bs : List UInt8} {R : List Value} {t : TypeId} {fr : Nat × Nat} (h : w.heap[g]? = some (.cells (cellsOf bs ++ R).toArray t fr)) : Bytes w (some ⟨g, 0, none⟩) bs.length bs := by
  refine ⟨rfl, fun i c hi => ⟨_, rfl, ?_⟩⟩
  have hl : i < (cellsOf bs).length := by rw [cellsOf_length]; exact (List.getElem?_eq_some_iff.1 hi).1
  rw [Addr.add_lit, Nat.zero_add, cell_of_row w g i _ t fr h, List.getElem?_toArray, List.getElem?_append_left hl]
  simp [cellsOf, hi]
set_option maxRecDepth 100000 in
set_option maxHeartbeats 1000000 in
theorem bursts_walk (ao : Option Addr) (n cap : Nat) (bs : List UInt8) (z : Int) (turn : Nat) (w : World) (hb : Bytes w ao n bs) (hnil : ao = none → cap = 0) (hnc : n ≤ cap) (hcap : cap ≤ 140737488351232) (hK : WW w 0 ks) (h0 : 0 < w.heap.size)
    (ha1 : -9223372036854775808 ≤ z) (ha2 : z ≤ 9223372036854775807) (ht : turn < 4294967296) :
    Calls Tryd.prog 7 #[.slice ao n cap, .int .i64 z, .int .u32 turn] w fun e w' => e = .returned (.bool true) ∧ Below w.heap.size w w' := by
  have hbl := hb.1
  by_cases hsm : n < 4 ∨ turn = 0
  · by_cases h4 : n < 4
    · have h4' : (n : Int) < 4 := by omega
      go_enter Tryd.func7, Tryd.ntmps7
      go_wp2_with fail
      refine (shown_any _ hK h0).mono ?_
      rintro e w1 ⟨rfl, hbel1⟩
      go_wp2
      go_ret
      exact ⟨rfl, hbel1⟩
    · obtain rfl : turn = 0 := by omega
      have h4' : ¬ ((n : Int) < 4) := by omega
      go_enter Tryd.func7, Tryd.ntmps7
      go_wp2_with fail
      refine (shown_any _ hK h0).mono ?_
      rintro e w1 ⟨rfl, hbel1⟩
      go_wp2
      go_ret
      exact ⟨rfl, hbel1⟩
  obtain ⟨h4, ht0⟩ : 4 ≤ n ∧ 0 < turn := by omega
  clear hsm
  by_cases hz : z < 0
  · obtain ⟨Z, rfl⟩ : ∃ Z : Nat, z = -(Z : Int) - 1 := ⟨(-(z + 1)).toNat, by omega⟩
    obtain ⟨A, HA⟩ : ∃ A, Hid (A = Z % (n - 3)) := ⟨_, rfl⟩
    have hA : A + 4 ≤ n := by rw [HA.out]; have := Nat.mod_lt Z (show 0 < n - 3 by omega); omega
    have hmod : (Z : Int).tmod ((n : Int) - 3) = (A : Int) := by
      rw [HA.out, show (n : Int) - 3 = ((n - 3 : Nat) : Int) by omega, Int.tmod_eq_emod_of_nonneg (by omega)]; rfl
    have h3 : (((n : Int) - 3) == 0) = false := by simp; omega
    have h4' : ¬ ((n : Int) < 4) := by omega
    have ht' : (((turn : Nat) : Int) == 0) = false := by simp; omega
    go_enter Tryd.func7, Tryd.ntmps7
    go_wp2_with fail
    refine (shown_any _ hK h0).mono ?_
    rintro e w1 ⟨rfl, hbel1⟩
    have hs1 := hbel1.size
    have hb1 := bytes_kept hb hbel1 (Nat.le_refl _)
    have hb2 := bytes_kept hb1 (bel_alloc w1 (.cells #[] 5)) (Nat.le_refl _)
    have hown := own_empty w1
    clear hK hb
    go_wp2_with (at_builtin; refine wpList_append_bytes _ rfl (.tmp 29) (.tmp 30) rfl w1.heap.size _ 0 [] rfl hown ?hbase ao n cap bs rfl hb2 hnil ?hbb ?_)
    case hbase => simp
    case hbb => omega
    intro v w2 hown2 hbel2
    obtain ⟨g, c, R, rfl, hg1, hg2, hc1, hc2, hblk⟩ := own_cells hown2 (by omega)
    have hB2 : Below w1.heap.size w1 w2 := (bel_alloc w1 _).trans hbel2
    have hb3 := bytes_kept hb1 hB2 (Nat.le_refl _)
    have hB : Below w.heap.size w w2 := hbel1.trans (hB2.mono hbel1.size)
    have HOR : Hid ((∀ x, ao = some x → x.block < w1.heap.size) ∨ bs = []) := bytes_or hb1
    clear hown hb2 hbel2 hB2 hb1 hbel1 hown2
    generalize hq1 : w1.heap.size = q1 at *
    go_wp2_with fail
    go_loopw [9] (fun t wr => ∃ i : Nat, i ≤ 4 ∧ t = .int .i64 i ∧ Below q1 w2 wr ∧ wr.heap[g]? = some (.cells (cellsOf (turnB bs A turn i) ++ R).toArray 5)) (fun t _ => (4 - intOf t).toNat)
    case atStart => exact ⟨0, by omega, rfl, Below.refl _ _, hblk⟩
    case round =>
      obtain ⟨i, hi, rfl, hbr, hwr⟩ := hrel
      by_cases hi4 : i < 4
      · have hlen : (turnB bs A turn i).length = n := by rw [turnB_length, hbl]
        have hcell : wr.cell? ⟨g, A + i, none⟩ = some (.int .u8 ((bs.getD (A + i) 0).toNat)) := by
          rw [cell_of_row wr g (A + i) _ _ _ hwr]
          have h1 : A + i < (cellsOf (turnB bs A turn i)).length := by rw [cellsOf_length]; omega
          simp only [List.getElem?_toArray]
          rw [List.getElem?_append_left h1, ← turnB_later bs A turn i (A + i) (by omega)]
          have := cellsOf_getD (turnB bs A turn i) (A + i) (by omega)
          simpa using this
        have hfz := frozen_of_row wr g (A + i) _ _ hwr
        have HNEW : Hid (((cellsOf (turnB bs A turn i) ++ R).set (A + i) (.int .u8 (bs.getD (A + i) 0 ^^^ byteOf turn i).toNat)) = cellsOf (turnB bs A turn (i + 1)) ++ R) := by
          show _ = _
          rw [List.set_append_left _ _ (by rw [cellsOf_length]; omega), turnB]
          simp [cellsOf, List.map_set]
        have hx := xor_num (bs.getD (A + i) 0) turn i
        generalize bs.getD (A + i) 0 = x at *
        have hxl := x.toNat_lt
        have e1 : (A : Int) + (i : Int) < (n : Int) := by omega
        have e2 : (0 : Int) ≤ (A : Int) + (i : Int) := by omega
        have e3 : 8 * (i : Int) < 32 := by omega
        have hset := fun v => set_list wr g (A + i) _ 5 v hwr
        clear hblk
        go_wp2_with fail
        refine ⟨⟨i + 1, by omega, by go_num, below_setRow hbr hg1 _, ?_⟩, by simp [intOf]; omega⟩
        rw [← UInt8.toNat_xor, HNEW.out]
        exact setRow_heap wr g _ _ 5 _ hwr
      · obtain rfl : i = 4 := by omega
        have hao : ∀ x, ao = some x → x.block < q1 := by
          rcases HOR.out with h | h
          · exact h
          · subst h; simp at hbl; omega
        have hby := bytes_below hb3 hbr hao
        have hcy : Bytes wr (some ⟨g, 0, none⟩) n (turnB bs A turn 4) := by
          have := block_pre hwr
          rw [turnB_length, hbl] at this
          exact this
        have hne := burst_ne bs A turn (by omega) ht (by omega)
        obtain ⟨c1, hc1⟩ : ∃ c, crcB bs = c := ⟨_, rfl⟩
        obtain ⟨c2, hc2⟩ : ∃ c, crcB (turnB bs A turn 4) = c := ⟨_, rfl⟩
        rw [hc1, hc2] at hne
        have hne' : ((c1.toNat : Int) != (c2.toNat : Int)) = true := by
          simp only [bne_iff_ne, ne_eq]
          intro h; exact hne (UInt32.toNat_inj.1 (by omega))
        have hbf : Below w.heap.size w wr := hB.trans (hbr.mono (by omega))
        have HC1 : Hid (crcB bs = c1) := hc1
        have HC2 : Hid (crcB (turnB bs A turn 4) = c2) := hc2
        clear hc1 hc2 hwr hblk hb3 hbr hB
        go_wp2_with fail
        refine (crc_any ao n cap bs wr hby (by omega)).mono ?_
        rintro e w3 ⟨rfl, rfl⟩
        rw [HC1.out]
        go_wp2_with fail
        refine (crc_any _ n c _ _ hcy (by omega)).mono ?_
        rintro e w3 ⟨rfl, rfl⟩
        rw [HC2.out]
        go_wp2
        go_ret
        exact ⟨rfl, hbf⟩
  · obtain ⟨Z, rfl⟩ : ∃ Z : Nat, z = (Z : Int) := ⟨z.toNat, by omega⟩
    obtain ⟨A, HA⟩ : ∃ A, Hid (A = Z % (n - 3)) := ⟨_, rfl⟩
    have hA : A + 4 ≤ n := by rw [HA.out]; have := Nat.mod_lt Z (show 0 < n - 3 by omega); omega
    have hmod : (Z : Int).tmod ((n : Int) - 3) = (A : Int) := by
      rw [HA.out, show (n : Int) - 3 = ((n - 3 : Nat) : Int) by omega, Int.tmod_eq_emod_of_nonneg (by omega)]; rfl
    have h3 : (((n : Int) - 3) == 0) = false := by simp; omega
    have h4' : ¬ ((n : Int) < 4) := by omega
    have ht' : (((turn : Nat) : Int) == 0) = false := by simp; omega
    go_enter Tryd.func7, Tryd.ntmps7
    go_wp2_with fail
    refine (shown_any _ hK h0).mono ?_
    rintro e w1 ⟨rfl, hbel1⟩
    have hs1 := hbel1.size
    have hb1 := bytes_kept hb hbel1 (Nat.le_refl _)
    have hb2 := bytes_kept hb1 (bel_alloc w1 (.cells #[] 5)) (Nat.le_refl _)
    have hown := own_empty w1
    clear hK hb
    go_wp2_with (at_builtin; refine wpList_append_bytes _ rfl (.tmp 29) (.tmp 30) rfl w1.heap.size _ 0 [] rfl hown ?hbase ao n cap bs rfl hb2 hnil ?hbb ?_)
    case hbase => simp
    case hbb => omega
    intro v w2 hown2 hbel2
    obtain ⟨g, c, R, rfl, hg1, hg2, hc1, hc2, hblk⟩ := own_cells hown2 (by omega)
    have hB2 : Below w1.heap.size w1 w2 := (bel_alloc w1 _).trans hbel2
    have hb3 := bytes_kept hb1 hB2 (Nat.le_refl _)
    have hB : Below w.heap.size w w2 := hbel1.trans (hB2.mono hbel1.size)
    have HOR : Hid ((∀ x, ao = some x → x.block < w1.heap.size) ∨ bs = []) := bytes_or hb1
    clear hown hb2 hbel2 hB2 hb1 hbel1 hown2
    generalize hq1 : w1.heap.size = q1 at *
    go_wp2_with fail
    go_loopw [9] (fun t wr => ∃ i : Nat, i ≤ 4 ∧ t = .int .i64 i ∧ Below q1 w2 wr ∧ wr.heap[g]? = some (.cells (cellsOf (turnB bs A turn i) ++ R).toArray 5)) (fun t _ => (4 - intOf t).toNat)
    case atStart => exact ⟨0, by omega, rfl, Below.refl _ _, hblk⟩
    case round =>
      obtain ⟨i, hi, rfl, hbr, hwr⟩ := hrel
      by_cases hi4 : i < 4
      · have hlen : (turnB bs A turn i).length = n := by rw [turnB_length, hbl]
        have hcell : wr.cell? ⟨g, A + i, none⟩ = some (.int .u8 ((bs.getD (A + i) 0).toNat)) := by
          rw [cell_of_row wr g (A + i) _ _ _ hwr]
          have h1 : A + i < (cellsOf (turnB bs A turn i)).length := by rw [cellsOf_length]; omega
          simp only [List.getElem?_toArray]
          rw [List.getElem?_append_left h1, ← turnB_later bs A turn i (A + i) (by omega)]
          have := cellsOf_getD (turnB bs A turn i) (A + i) (by omega)
          simpa using this
        have hfz := frozen_of_row wr g (A + i) _ _ hwr
        have HNEW : Hid (((cellsOf (turnB bs A turn i) ++ R).set (A + i) (.int .u8 (bs.getD (A + i) 0 ^^^ byteOf turn i).toNat)) = cellsOf (turnB bs A turn (i + 1)) ++ R) := by
          show _ = _
          rw [List.set_append_left _ _ (by rw [cellsOf_length]; omega), turnB]
          simp [cellsOf, List.map_set]
        have hx := xor_num (bs.getD (A + i) 0) turn i
        generalize bs.getD (A + i) 0 = x at *
        have hxl := x.toNat_lt
        have e1 : (A : Int) + (i : Int) < (n : Int) := by omega
        have e2 : (0 : Int) ≤ (A : Int) + (i : Int) := by omega
        have e3 : 8 * (i : Int) < 32 := by omega
        have hset := fun v => set_list wr g (A + i) _ 5 v hwr
        clear hblk
        go_wp2_with fail
        refine ⟨⟨i + 1, by omega, by go_num, below_setRow hbr hg1 _, ?_⟩, by simp [intOf]; omega⟩
        rw [← UInt8.toNat_xor, HNEW.out]
        exact setRow_heap wr g _ _ 5 _ hwr
      · obtain rfl : i = 4 := by omega
        have hao : ∀ x, ao = some x → x.block < q1 := by
          rcases HOR.out with h | h
          · exact h
          · subst h; simp at hbl; omega
        have hby := bytes_below hb3 hbr hao
        have hcy : Bytes wr (some ⟨g, 0, none⟩) n (turnB bs A turn 4) := by
          have := block_pre hwr
          rw [turnB_length, hbl] at this
          exact this
        have hne := burst_ne bs A turn (by omega) ht (by omega)
        obtain ⟨c1, hc1⟩ : ∃ c, crcB bs = c := ⟨_, rfl⟩
        obtain ⟨c2, hc2⟩ : ∃ c, crcB (turnB bs A turn 4) = c := ⟨_, rfl⟩
        rw [hc1, hc2] at hne
        have hne' : ((c1.toNat : Int) != (c2.toNat : Int)) = true := by
          simp only [bne_iff_ne, ne_eq]
          intro h; exact hne (UInt32.toNat_inj.1 (by omega))
        have hbf : Below w.heap.size w wr := hB.trans (hbr.mono (by omega))
        have HC1 : Hid (crcB bs = c1) := hc1
        have HC2 : Hid (crcB (turnB bs A turn 4) = c2) := hc2
        clear hc1 hc2 hwr hblk hb3 hbr hB
        go_wp2_with fail
        refine (crc_any ao n cap bs wr hby (by omega)).mono ?_
        rintro e w3 ⟨rfl, rfl⟩
        rw [HC1.out]
        go_wp2_with fail
        refine (crc_any _ n c _ _ hcy (by omega)).mono ?_
        rintro e w3 ⟨rfl, rfl⟩
        rw [HC2.out]
        go_wp2
        go_ret
        exact ⟨rfl, hbf⟩
end Go.Proofs.YtdlkaeegcagkpaaDoor

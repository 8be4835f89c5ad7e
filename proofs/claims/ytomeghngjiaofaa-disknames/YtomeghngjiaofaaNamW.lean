/-
  DiskNames, its walk.
-/
import Derived.Test.YtomeghngjiaofaaNamM
namespace Go.Proofs.Ytomeghngjiaofaa
open Go.RowKit
set_option maxRecDepth 100000 in
set_option maxHeartbeats 400000 in
theorem names_walk (s : ByteArray) (w : World) (hs : s.size ≤ maxLen) : Calls Try.prog 8 #[.string s] w fun e w' => e = .returned (.bool true) ∧ Below w.heap.size w w' := by
  have kc1 := fun (w : World) => Lib.run_convert_bytes_const (P := Try.prog) w 28 5 #[.int .u8 120] 1 1 Try.underlying28 Try.underlying5
  simp only [List.size_toArray, List.length_cons, List.length_nil, Nat.reduceAdd] at kc1
  have HS : Hid (s.size ≤ maxLen) := hs
  clear hs
  go_enter Try.func8, Try.ntmps8
  go_wp2_with fail
  refine (shown_any w).mono ?_
  rintro e w1 ⟨rfl, hb1⟩
  have HB1 : Hid (Below w.heap.size w w1) := hb1
  clear hb1
  go_wp2_with fail
  refine (new_at 100 100 w1 (by rfl) (by decide)).mono ?_
  rintro e w2 ⟨g, rfl, hBg, hd2, hb2⟩
  have HB2 : Hid (Below w1.heap.size w1 w2) := hb2
  have HD2 : Hid (DiskAt (fun k => w1.heap.size ≤ k) w2 g nz 0) := hd2
  clear hd2 hb2 hBg
  cases hbad : badName s with
  | true =>
    have HBAD : Hid (badName s = true) := hbad
    by_cases hlen : s.size < 1
    · have h1 : ¬ (1 : Int) ≤ (s.size : Int) := by omega
      clear hbad hlen
      go_wp2_with fail
      have hc2 := create_at HD2.out (by decide) s HS.out
      rw [nb1 HBAD.out] at hc2
      refine hc2.mono ?_
      rintro e w3 ⟨rfl, hd, ho⟩
      have HB3 : Hid (Below w1.heap.size w1 w3) := HB2.out.trans (ho.below (fun _ e => e) HB2.out.size)
      have HD3 : Hid (DiskAt (fun k => w1.heap.size ≤ k) w3 g nz 1) := hd.back1 (fun _ e => Nat.le_trans HB2.out.size e)
      clear hd ho hc2 HB2 HD2  
      go_wp2_with fail
      have hr3 := read_at HD3.out s HS.out (by decide)
      rw [nb2 HBAD.out] at hr3
      refine hr3.mono ?_
      rintro e w4 ⟨v, rfl, -, hb⟩
      have HB4 : Hid (Below w1.heap.size w1 w4) := HB3.out.trans (hb.mono HB3.out.size)
      have HD4 : Hid (DiskAt (fun k => w1.heap.size ≤ k) w4 g nz 1) := HD3.out.grown hb
      clear hb hr3 HB3 HD3
      go_wp2_with fail
      have hc4 := append_at HD4.out (by decide) s HS.out none 0 0 [] (bytes_nil _) (fun ad h => by cases h) (by decide) (.inr (by decide))
      rw [nb3 HBAD.out] at hc4
      refine hc4.mono ?_
      rintro e w5 ⟨rfl, hd, ho⟩
      have HB5 : Hid (Below w1.heap.size w1 w5) := HB4.out.trans (ho.below (fun _ e => e) HB4.out.size)
      have HD5 : Hid (DiskAt (fun k => w1.heap.size ≤ k) w5 g nz 2) := hd.back1 (fun _ e => Nat.le_trans HB4.out.size e)
      clear hd ho hc4 HB4 HD4  
      go_wp2_with fail
      have hc5 := sync_at HD5.out (by decide) s HS.out
      rw [nb4 HBAD.out] at hc5
      refine hc5.mono ?_
      rintro e w6 ⟨rfl, hd, ho⟩
      have HB6 : Hid (Below w1.heap.size w1 w6) := HB5.out.trans (ho.below (fun _ e => e) HB5.out.size)
      have HD6 : Hid (DiskAt (fun k => w1.heap.size ≤ k) w6 g nz 3) := hd.back1 (fun _ e => Nat.le_trans HB5.out.size e)
      clear hd ho hc5 HB5 HD5  
      go_wp2_with fail
      have hc6 := rename_at HD6.out (by decide) s sA HS.out (by decide)
      rw [nb5 (.inl HBAD.out)] at hc6
      refine hc6.mono ?_
      rintro e w7 ⟨rfl, hd, ho⟩
      have HB7 : Hid (Below w1.heap.size w1 w7) := HB6.out.trans (ho.below (fun _ e => e) HB6.out.size)
      have HD7 : Hid (DiskAt (fun k => w1.heap.size ≤ k) w7 g nz 4) := hd.back1 (fun _ e => Nat.le_trans HB6.out.size e)
      clear hd ho hc6 HB6 HD6  
      go_wp2_with fail
      have hc7 := rename_at HD7.out (by decide) sA s (by decide) HS.out
      rw [nb5 (.inr HBAD.out)] at hc7
      refine hc7.mono ?_
      rintro e w8 ⟨rfl, hd, ho⟩
      have HB8 : Hid (Below w1.heap.size w1 w8) := HB7.out.trans (ho.below (fun _ e => e) HB7.out.size)
      have HD8 : Hid (DiskAt (fun k => w1.heap.size ≤ k) w8 g nz 5) := hd.back1 (fun _ e => Nat.le_trans HB7.out.size e)
      clear hd ho hc7 HB7 HD7  
      go_wp2_with fail
      have hc8 := delete_at HD8.out (by decide) s HS.out
      rw [nb6 HBAD.out] at hc8
      refine hc8.mono ?_
      rintro e w9 ⟨rfl, hd, ho⟩
      have HB9 : Hid (Below w1.heap.size w1 w9) := HB8.out.trans (ho.below (fun _ e => e) HB8.out.size)
      have HD9 : Hid (DiskAt (fun k => w1.heap.size ≤ k) w9 g nz 6) := hd.back1 (fun _ e => Nat.le_trans HB8.out.size e)
      clear hd ho hc8 HB8 HD8  
      go_wp2_with fail
      have hl9 := list_at HD9.out (by decide)
      rw [nb7] at hl9
      refine hl9.mono ?_
      rintro e w10 ⟨v2, rfl, hrow, hb⟩
      obtain ⟨lo, lc, rfl, -, -, -⟩ := row_facts hrow
      have HBE : Hid (Below w.heap.size w w10) := HB1.out.trans ((HB9.out.trans (hb.mono HB9.out.size)).mono HB1.out.size)
      clear hb hl9 hrow HB9 HD9
      simp only [List.length_nil]
      go_wp2_with fail
      go_ret
      exact ⟨rfl, HBE.out⟩
    · have h1 : (1 : Int) ≤ (s.size : Int) := by omega
      have h2 : ¬ (s.size : Int) ≤ 64 := by
        unfold badName at hbad
        rw [decide_eq_false hlen, Bool.false_or, decide_eq_true_eq] at hbad
        omega
      have h3 : decide ((s.size : Int) ≤ 64) = false := decide_eq_false h2
      clear hbad hlen h2
      go_wp2_with fail
      have hc2 := create_at HD2.out (by decide) s HS.out
      rw [nb1 HBAD.out] at hc2
      refine hc2.mono ?_
      rintro e w3 ⟨rfl, hd, ho⟩
      have HB3 : Hid (Below w1.heap.size w1 w3) := HB2.out.trans (ho.below (fun _ e => e) HB2.out.size)
      have HD3 : Hid (DiskAt (fun k => w1.heap.size ≤ k) w3 g nz 1) := hd.back1 (fun _ e => Nat.le_trans HB2.out.size e)
      clear hd ho hc2 HB2 HD2  
      go_wp2_with fail
      have hr3 := read_at HD3.out s HS.out (by decide)
      rw [nb2 HBAD.out] at hr3
      refine hr3.mono ?_
      rintro e w4 ⟨v, rfl, -, hb⟩
      have HB4 : Hid (Below w1.heap.size w1 w4) := HB3.out.trans (hb.mono HB3.out.size)
      have HD4 : Hid (DiskAt (fun k => w1.heap.size ≤ k) w4 g nz 1) := HD3.out.grown hb
      clear hb hr3 HB3 HD3
      go_wp2_with fail
      have hc4 := append_at HD4.out (by decide) s HS.out none 0 0 [] (bytes_nil _) (fun ad h => by cases h) (by decide) (.inr (by decide))
      rw [nb3 HBAD.out] at hc4
      refine hc4.mono ?_
      rintro e w5 ⟨rfl, hd, ho⟩
      have HB5 : Hid (Below w1.heap.size w1 w5) := HB4.out.trans (ho.below (fun _ e => e) HB4.out.size)
      have HD5 : Hid (DiskAt (fun k => w1.heap.size ≤ k) w5 g nz 2) := hd.back1 (fun _ e => Nat.le_trans HB4.out.size e)
      clear hd ho hc4 HB4 HD4  
      go_wp2_with fail
      have hc5 := sync_at HD5.out (by decide) s HS.out
      rw [nb4 HBAD.out] at hc5
      refine hc5.mono ?_
      rintro e w6 ⟨rfl, hd, ho⟩
      have HB6 : Hid (Below w1.heap.size w1 w6) := HB5.out.trans (ho.below (fun _ e => e) HB5.out.size)
      have HD6 : Hid (DiskAt (fun k => w1.heap.size ≤ k) w6 g nz 3) := hd.back1 (fun _ e => Nat.le_trans HB5.out.size e)
      clear hd ho hc5 HB5 HD5  
      go_wp2_with fail
      have hc6 := rename_at HD6.out (by decide) s sA HS.out (by decide)
      rw [nb5 (.inl HBAD.out)] at hc6
      refine hc6.mono ?_
      rintro e w7 ⟨rfl, hd, ho⟩
      have HB7 : Hid (Below w1.heap.size w1 w7) := HB6.out.trans (ho.below (fun _ e => e) HB6.out.size)
      have HD7 : Hid (DiskAt (fun k => w1.heap.size ≤ k) w7 g nz 4) := hd.back1 (fun _ e => Nat.le_trans HB6.out.size e)
      clear hd ho hc6 HB6 HD6  
      go_wp2_with fail
      have hc7 := rename_at HD7.out (by decide) sA s (by decide) HS.out
      rw [nb5 (.inr HBAD.out)] at hc7
      refine hc7.mono ?_
      rintro e w8 ⟨rfl, hd, ho⟩
      have HB8 : Hid (Below w1.heap.size w1 w8) := HB7.out.trans (ho.below (fun _ e => e) HB7.out.size)
      have HD8 : Hid (DiskAt (fun k => w1.heap.size ≤ k) w8 g nz 5) := hd.back1 (fun _ e => Nat.le_trans HB7.out.size e)
      clear hd ho hc7 HB7 HD7  
      go_wp2_with fail
      have hc8 := delete_at HD8.out (by decide) s HS.out
      rw [nb6 HBAD.out] at hc8
      refine hc8.mono ?_
      rintro e w9 ⟨rfl, hd, ho⟩
      have HB9 : Hid (Below w1.heap.size w1 w9) := HB8.out.trans (ho.below (fun _ e => e) HB8.out.size)
      have HD9 : Hid (DiskAt (fun k => w1.heap.size ≤ k) w9 g nz 6) := hd.back1 (fun _ e => Nat.le_trans HB8.out.size e)
      clear hd ho hc8 HB8 HD8  
      go_wp2_with fail
      have hl9 := list_at HD9.out (by decide)
      rw [nb7] at hl9
      refine hl9.mono ?_
      rintro e w10 ⟨v2, rfl, hrow, hb⟩
      obtain ⟨lo, lc, rfl, -, -, -⟩ := row_facts hrow
      have HBE : Hid (Below w.heap.size w w10) := HB1.out.trans ((HB9.out.trans (hb.mono HB9.out.size)).mono HB1.out.size)
      clear hb hl9 hrow HB9 HD9
      simp only [List.length_nil]
      go_wp2_with fail
      go_ret
      exact ⟨rfl, HBE.out⟩
  | false =>
    have HGOOD : Hid (badName s = false) := hbad
    have hl : ¬ s.size < 1 ∧ ¬ 64 < s.size := by
      unfold badName at hbad
      simpa using hbad
    have h1 : (1 : Int) ≤ (s.size : Int) := by omega
    have h2 : (s.size : Int) ≤ 64 := by omega
    clear hbad hl
    go_wp2_with fail
    have hc2 := create_at HD2.out (by decide) s HS.out
    rw [nm1 HGOOD.out] at hc2
    refine hc2.mono ?_
    rintro e w3 ⟨rfl, hd, ho⟩
    have HB3 : Hid (Below w1.heap.size w1 w3) := HB2.out.trans (ho.below (fun _ e => e) HB2.out.size)
    have HD3 : Hid (DiskAt (fun k => w1.heap.size ≤ k) w3 g (n1 s) 1) := hd.back1 (fun _ e => Nat.le_trans HB2.out.size e)
    clear hd ho hc2 HB2 HD2  
    go_wp2_with fail
    have hc3 := create_at HD3.out (by decide) s HS.out
    rw [nm2 HGOOD.out] at hc3
    refine hc3.mono ?_
    rintro e w4 ⟨rfl, hd, ho⟩
    have HB4 : Hid (Below w1.heap.size w1 w4) := HB3.out.trans (ho.below (fun _ e => e) HB3.out.size)
    have HD4 : Hid (DiskAt (fun k => w1.heap.size ≤ k) w4 g (n1 s) 2) := hd.back1 (fun _ e => Nat.le_trans HB3.out.size e)
    clear hd ho hc3 HB3 HD3  
    go_wp2_with fail
    have hby4 : Bytes (w4.alloc (.cells #[.int .u8 120] 5 (1, 2))) (some ⟨w4.heap.size, 0, none⟩) 1 [120] := const_bytes w4 [120] (1, 2)
    have hc4 := append_at (HD4.out.now.grown (bel_alloc w4 (.cells #[.int .u8 120] 5 (1, 2)))) (by decide) s HS.out (some ⟨w4.heap.size, 0, none⟩) 1 1 [120] hby4 (fun ad h => by cases h; exact fun e => absurd e.2 (Nat.lt_irrefl _)) (by decide) (.inr (by show usedL (n1 s).L + 1 ≤ _; simp [n1, usedL]))
    rw [nm3 HGOOD.out] at hc4
    refine hc4.mono ?_
    rintro e w5 ⟨rfl, hd, ho⟩
    have HB5 : Hid (Below w1.heap.size w1 w5) := (HB4.out.alloc HB4.out.size _).trans (ho.thin.below (fun _ e => e) (Nat.le_trans HB4.out.size (bel_alloc _ _).size))
    have HD5 : Hid (DiskAt (fun k => w1.heap.size ≤ k) w5 g (n2 s) 3) := hd.back (bel_alloc _ _).size (fun _ e => Nat.le_trans HB4.out.size e)
    clear hd ho hc4 hby4 HB4 HD4
    go_wp2_with fail
    have hr5 := read_at HD5.out s HS.out (by show usedL (n2 s).L ≤ _; simp [n2, usedL])
    rw [nm4 HGOOD.out] at hr5
    refine hr5.mono ?_
    rintro e w6 ⟨v, rfl, hown, hb⟩
    obtain ⟨ro, rc, rfl, hby, -⟩ := own_bytes hown
    have HBY : Hid (Bytes w6 ro 1 [120]) := hby
    have HB6 : Hid (Below w1.heap.size w1 w6) := HB5.out.trans (hb.mono HB5.out.size)
    have HD6 : Hid (DiskAt (fun k => w1.heap.size ≤ k) w6 g (n2 s) 3) := HD5.out.grown hb
    clear hb hr5 HB5 HD5 hown hby
    go_wp2_with fail
    have hl6 := list_at HD6.out (by decide)
    rw [nm5] at hl6
    refine hl6.mono ?_
    rintro e w7 ⟨v2, rfl, hrow, hb⟩
    obtain ⟨gl, lc, rfl, hcell⟩ := row_one hrow
    have t1 := str_bytes rc (bytes_kept HBY.out hb (Nat.le_refl _))
    have HB7 : Hid (Below w1.heap.size w1 w7) := HB6.out.trans (hb.mono HB6.out.size)
    have HD7 : Hid (DiskAt (fun k => w1.heap.size ≤ k) w7 g (n2 s) 3) := HD6.out.grown hb
    clear hb hl6 HB6 HD6 hrow HBY
    by_cases hsa : s = sA
    · have hne : ¬ s = sB := by rw [hsa]; decide
      have HNE : Hid (¬ s = sB) := hne
      subst hsa
      clear hne
      have HO2 : Hid (badName sB = false) := by show _ = _; decide
      go_wp2_with fail
      have hc7 := rename_at HD7.out (by decide) sA sB HS.out (by decide)
      rw [nm6 HGOOD.out HO2.out HNE.out] at hc7
      refine hc7.mono ?_
      rintro e w8 ⟨rfl, hd, ho⟩
      have HB8 : Hid (Below w1.heap.size w1 w8) := HB7.out.trans (ho.below (fun _ e => e) HB7.out.size)
      have HD8 : Hid (DiskAt (fun k => w1.heap.size ≤ k) w8 g (n2 sB) 4) := hd.back1 (fun _ e => Nat.le_trans HB7.out.size e)
      clear hd ho hc7 HB7 HD7  t1 hcell
      go_wp2_with fail
      have hc8 := rename_at HD8.out (by decide) sA sB HS.out (by decide)
      rw [nm7 HGOOD.out HO2.out HNE.out] at hc8
      refine hc8.mono ?_
      rintro e w9 ⟨rfl, hd, ho⟩
      have HB9 : Hid (Below w1.heap.size w1 w9) := HB8.out.trans (ho.below (fun _ e => e) HB8.out.size)
      have HD9 : Hid (DiskAt (fun k => w1.heap.size ≤ k) w9 g (n2 sB) 5) := hd.back1 (fun _ e => Nat.le_trans HB8.out.size e)
      clear hd ho hc8 HB8 HD8  
      go_wp2_with fail
      have hc9 := rename_at HD9.out (by decide) sB sA (by decide) HS.out
      rw [nm6 HO2.out HGOOD.out (fun e => HNE.out e.symm)] at hc9
      refine hc9.mono ?_
      rintro e w10 ⟨rfl, hd, ho⟩
      have HB10 : Hid (Below w1.heap.size w1 w10) := HB9.out.trans (ho.below (fun _ e => e) HB9.out.size)
      have HD10 : Hid (DiskAt (fun k => w1.heap.size ≤ k) w10 g (n2 sA) 6) := hd.back1 (fun _ e => Nat.le_trans HB9.out.size e)
      clear hd ho hc9 HB9 HD9  
      go_wp2_with fail
      have hc10 := delete_at HD10.out (by decide) sA HS.out
      rw [nm8 HGOOD.out] at hc10
      refine hc10.mono ?_
      rintro e w11 ⟨rfl, hd, ho⟩
      have HB11 : Hid (Below w1.heap.size w1 w11) := HB10.out.trans (ho.below (fun _ e => e) HB10.out.size)
      have HD11 : Hid (DiskAt (fun k => w1.heap.size ≤ k) w11 g n3 7) := hd.back1 (fun _ e => Nat.le_trans HB10.out.size e)
      clear hd ho hc10 HB10 HD10  
      go_wp2_with fail
      have hc11 := delete_at HD11.out (by decide) sA HS.out
      rw [nm9 HGOOD.out] at hc11
      refine hc11.mono ?_
      rintro e w12 ⟨rfl, hd, ho⟩
      have HB12 : Hid (Below w1.heap.size w1 w12) := HB11.out.trans (ho.below (fun _ e => e) HB11.out.size)
      have HD12 : Hid (DiskAt (fun k => w1.heap.size ≤ k) w12 g n3 8) := hd.back1 (fun _ e => Nat.le_trans HB11.out.size e)
      clear hd ho hc11 HB11 HD11  
      go_wp2_with fail
      have hl12 := list_at HD12.out (by decide)
      rw [nm10] at hl12
      refine hl12.mono ?_
      rintro e w13 ⟨v3, rfl, hrow, hb⟩
      obtain ⟨lo, lc2, rfl, -, -, -⟩ := row_facts hrow
      have HB13 : Hid (Below w1.heap.size w1 w13) := HB12.out.trans (hb.mono HB12.out.size)
      have HD13 : Hid (DiskAt (fun k => w1.heap.size ≤ k) w13 g n3 8) := HD12.out.grown hb
      clear hb hl12 hrow HB12 HD12
      simp only [List.length_nil]
      go_wp2_with fail
      refine (used_at HD13.out).mono ?_
      rintro e w14 ⟨rfl, rfl⟩
      go_wp2_with fail
      go_ret
      exact ⟨rfl, HB1.out.trans (HB13.out.mono HB1.out.size)⟩
    · have HNE : Hid (¬ s = sA) := hsa
      have hq2 : (s.toList == [97]) = false := by have h5 := str_eq s sA; rw [decide_eq_false hsa] at h5; rw [show sA.toList = [97] by rw [ByteArray.toList_eq]] at h5; exact h5
      clear hsa
      have HO2 : Hid (badName sA = false) := by show _ = _; decide
      go_wp2_with fail
      have hc7 := rename_at HD7.out (by decide) s sA HS.out (by decide)
      rw [nm6 HGOOD.out HO2.out HNE.out] at hc7
      refine hc7.mono ?_
      rintro e w8 ⟨rfl, hd, ho⟩
      have HB8 : Hid (Below w1.heap.size w1 w8) := HB7.out.trans (ho.below (fun _ e => e) HB7.out.size)
      have HD8 : Hid (DiskAt (fun k => w1.heap.size ≤ k) w8 g (n2 sA) 4) := hd.back1 (fun _ e => Nat.le_trans HB7.out.size e)
      clear hd ho hc7 HB7 HD7  t1 hcell
      go_wp2_with fail
      have hc8 := rename_at HD8.out (by decide) s sA HS.out (by decide)
      rw [nm7 HGOOD.out HO2.out HNE.out] at hc8
      refine hc8.mono ?_
      rintro e w9 ⟨rfl, hd, ho⟩
      have HB9 : Hid (Below w1.heap.size w1 w9) := HB8.out.trans (ho.below (fun _ e => e) HB8.out.size)
      have HD9 : Hid (DiskAt (fun k => w1.heap.size ≤ k) w9 g (n2 sA) 5) := hd.back1 (fun _ e => Nat.le_trans HB8.out.size e)
      clear hd ho hc8 HB8 HD8  
      go_wp2_with fail
      have hc9 := rename_at HD9.out (by decide) sA s (by decide) HS.out
      rw [nm6 HO2.out HGOOD.out (fun e => HNE.out e.symm)] at hc9
      refine hc9.mono ?_
      rintro e w10 ⟨rfl, hd, ho⟩
      have HB10 : Hid (Below w1.heap.size w1 w10) := HB9.out.trans (ho.below (fun _ e => e) HB9.out.size)
      have HD10 : Hid (DiskAt (fun k => w1.heap.size ≤ k) w10 g (n2 s) 6) := hd.back1 (fun _ e => Nat.le_trans HB9.out.size e)
      clear hd ho hc9 HB9 HD9  
      go_wp2_with fail
      have hc10 := delete_at HD10.out (by decide) s HS.out
      rw [nm8 HGOOD.out] at hc10
      refine hc10.mono ?_
      rintro e w11 ⟨rfl, hd, ho⟩
      have HB11 : Hid (Below w1.heap.size w1 w11) := HB10.out.trans (ho.below (fun _ e => e) HB10.out.size)
      have HD11 : Hid (DiskAt (fun k => w1.heap.size ≤ k) w11 g n3 7) := hd.back1 (fun _ e => Nat.le_trans HB10.out.size e)
      clear hd ho hc10 HB10 HD10  
      go_wp2_with fail
      have hc11 := delete_at HD11.out (by decide) s HS.out
      rw [nm9 HGOOD.out] at hc11
      refine hc11.mono ?_
      rintro e w12 ⟨rfl, hd, ho⟩
      have HB12 : Hid (Below w1.heap.size w1 w12) := HB11.out.trans (ho.below (fun _ e => e) HB11.out.size)
      have HD12 : Hid (DiskAt (fun k => w1.heap.size ≤ k) w12 g n3 8) := hd.back1 (fun _ e => Nat.le_trans HB11.out.size e)
      clear hd ho hc11 HB11 HD11  
      go_wp2_with fail
      have hl12 := list_at HD12.out (by decide)
      rw [nm10] at hl12
      refine hl12.mono ?_
      rintro e w13 ⟨v3, rfl, hrow, hb⟩
      obtain ⟨lo, lc2, rfl, -, -, -⟩ := row_facts hrow
      have HB13 : Hid (Below w1.heap.size w1 w13) := HB12.out.trans (hb.mono HB12.out.size)
      have HD13 : Hid (DiskAt (fun k => w1.heap.size ≤ k) w13 g n3 8) := HD12.out.grown hb
      clear hb hl12 hrow HB12 HD12
      simp only [List.length_nil]
      go_wp2_with fail
      refine (used_at HD13.out).mono ?_
      rintro e w14 ⟨rfl, rfl⟩
      go_wp2_with fail
      go_ret
      exact ⟨rfl, HB1.out.trans (HB13.out.mono HB1.out.size)⟩
end Go.Proofs.Ytomeghngjiaofaa

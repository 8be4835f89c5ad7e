/-
  Bytes are a file, or none: what the law TableParses answers, for any arguments.
-/
import Derived.Test.YtcgjhopfdpaocaaDoorTbRg
namespace Go.Proofs.YtcgjhopfdpaocaaDoor
open Go.RowKit Go.Sort Go.Shelf
set_option linter.unusedSectionVars false
variable [Inhabited E] [DecidableEq E]
theorem isFile_one {bs : List UInt8} {l l2 : List E} (h1 : IsFile bs l) (h2 : IsFile bs l2) : l2 = l := h1.2.2 l2 h2.1 h2.2.1
theorem getT_one {bs : List UInt8} {key : ByteArray} {e e2 : Ending} (h1 : GetT bs key e) (h2 : GetT bs key e2) : e2 = e := by
  rcases h1 with ⟨a1, a2⟩ | ⟨l, a1, a2⟩
  · rcases h2 with ⟨b1, -⟩ | ⟨l2, -, b2⟩
    · rw [a1, b1]
    · exact absurd b2.2.1 (a2 l2 b2.1)
  · rcases h2 with ⟨-, b2⟩ | ⟨l2, b1, b2⟩
    · exact absurd a2.2.1 (b2 l a2.1)
    · rw [a1, b1, isFile_one a2 b2]
theorem getT_form {bs : List UInt8} {key : ByteArray} {e : Ending} (h : GetT bs key e) : ∃ k v d q b n, e = .returned (.tuple #[.agg #[.string k, .string v, .bool d, .int .i64 q], .bool b, .int .i64 n]) := by
  rcases h with ⟨rfl, -⟩ | ⟨l, rfl, -⟩
  · exact ⟨ByteArray.empty, ByteArray.empty, false, 0, false, 2, rfl⟩
  · obtain ⟨k, v, d, q, hg⟩ := getVT_bool l key
    exact ⟨k, v, d, q, isIn key l, 0, by rw [hg]⟩
set_option maxRecDepth 100000 in
set_option maxHeartbeats 4000000 in
theorem parsesT_walk (ao : Option Addr) (n c : Nat) (bs : List UInt8) (key : ByteArray) (w : World) (hb : Bytes w ao n bs) (h0 : ao = none → c = 0) (hnc : n ≤ c) (hK : Sm.WW w 1 Sm.ks) (hz0 : 1 < w.heap.size) :
    Calls Tryd.prog 4 #[.slice ao n c, .string key] w fun e w' => e = .returned (.bool true) ∧ Below w.heap.size w w' := by
  go_enter Tryd.func4, Tryd.ntmps4
  go_wp2_with fail
  refine (shownT_any w hK hz0).mono ?_
  rintro e w1 ⟨rfl, hb1⟩
  obtain ⟨m, hm⟩ : ∃ m, m = min n 8000 := ⟨_, rfl⟩
  have hmz : min ((n : Nat) : Int) 8000 = (m : Int) := by omega
  have hmc : (m : Int) ≤ (c : Int) := by omega
  have hm8 : m ≤ 8000 := by omega
  have hby : Bytes w1 ao m (bs.take m) := bytes_take (bytes_kept hb hb1 (Nat.le_refl _)) m (by omega)
  obtain ⟨xs, HXS⟩ : ∃ x, Hid (bs.take m = x) := ⟨_, rfl⟩
  rw [HXS.out] at hby
  have HBY : Hid (∀ W, Below w1.heap.size w1 W → Bytes W ao m xs) := fun W hW => bytes_kept hby hW (Nat.le_refl _)
  have hxl : xs.length = m := hby.1
  have HXL : Hid (xs.length = m) := hxl
  have HB1 : Hid (Below w.heap.size w w1) := hb1
  have HO0 : Hid ((w1.alloc (.cells #[] 5)).ownsRow w1.heap.size 5 1 (.slice (some ⟨w1.heap.size, 0, none⟩) 0 0) 0 (cellsOf [])) := own_empty w1
  have H00 : Hid (ao = none → c = 0) := h0
  clear hb hm hK hz0 hb1 h0 hby hxl hnc
  go_upto_region 4 with (at_builtin; refine wpList_append_bytes _ rfl (.tmp 24) (.tmp 25) rfl w1.heap.size _ 0 [] rfl HO0.out (by simp) ao m c xs rfl (HBY.out _ (bel_alloc _ _)) H00.out (by omega) ?_; intro v2 w2 hown2 hb2; rw [List.nil_append, HXL.out] at hown2; have HO2 : Hid (w2.ownsRow w1.heap.size 5 1 v2 m (cellsOf xs)) := hown2; have HB2 : Hid (Below w1.heap.size w1 w2) := (bel_alloc w1 _).trans hb2; clear hown2 hb2)
  obtain ⟨o2, c2, hv2, hby2, h02, hlc2, hcm2, -, hlow2⟩ := own_bytes HO2.out
  subst hv2
  unfold maxLen at hcm2
  have HA : Hid (∀ W, Below w2.heap.size w2 W → SV.at ⟨o2, m, c2, xs⟩ W.heap.size W) := fun W hW => ⟨bytes_kept hby2 hW (Nat.le_refl _), ⟨h02, hlc2, hcm2⟩, fun y hy _ => Nat.lt_of_lt_of_le (hlow2 y hy).2 hW.size⟩
  have HCP : Hid _ := parseT_any ⟨o2, m, c2, xs⟩ w2 (HA.out w2 (Below.refl _ _)) (by show m ≤ 1000000; omega)
  clear hby2 h02 hlc2 hcm2 hlow2
  go_wp2_with fail
  refine Calls.mono HCP.out ?_
  rintro e w3 ⟨he, hb3⟩
  have HB3 : Hid (Below w2.heap.size w2 w3) := hb3
  have HB13 : Hid (Below w1.heap.size w1 w3) := HB2.out.trans (hb3.mono HB2.out.size)
  obtain ⟨S, HS⟩ : ∃ S, Hid (bStr xs = S) := ⟨_, rfl⟩
  have HCV : Hid (∀ W, Below w1.heap.size w1 W → (convert 25 9 (.slice ao m c)).run Tryd.prog W = .ok (.string S) W) := fun W hW => by
    have := str_bytes c (HBY.out W hW)
    rw [← HS.out]; exact this
  have HCW : Hid (∀ W, Below w2.heap.size w2 W → (convert 25 9 (.slice o2 m c2)).run Tryd.prog W = .ok (.string S) W) := fun W hW => by
    have := str_bytes c2 (HA.out W hW).1
    rw [← HS.out]; exact this
  have HCR : Hid (∀ W, Calls Tryd.prog 22 #[.string S] W fun e w' => ParT W.heap.size xs e w' ∧ Below W.heap.size W w') := fun W => by
    have := refParseT_any xs W (by rw [HXL.out]; exact hm8)
    rw [HS.out] at this; exact this
  have HCG : Hid (∀ W, Calls Tryd.prog 24 #[.string S, .string key] W fun e w' => GetT xs key e ∧ Below W.heap.size W w') := fun W => by
    have := refGetT_any xs key W (by rw [HXL.out]; exact hm8)
    rw [HS.out] at this; exact this
  clear hb3 HCP
  have HP : Hid (∃ (o3 : Option Addr) (l3 c3 : Nat) (fs : List E) (er : Int), e = .returned (.tuple #[.slice o3 l3 c3, .int .i64 er]) ∧ l3 ≤ 64 ∧ EntsV w3 o3 l3 fs ∧ (er = 2 ∧ fs = [] ∧ NoFile xs ∨ er = 0 ∧ IsFile xs fs)) := by
    show ∃ _, _
    rcases he with ⟨h1, h2⟩ | ⟨g, cc, l, h1, h2, h3⟩
    · exact ⟨none, 0, 0, [], 2, h1, by omega, ⟨rfl, fun h => absurd h (by omega)⟩, .inl ⟨rfl, rfl, h2⟩⟩
    · obtain ⟨a', c', hv, hEV⟩ := own_entsV h3 rfl
      cases hv
      exact ⟨some ⟨g, 0, none⟩, l.length, cc, l, 0, h1, (fit_len h2.1).2, hEV, .inr ⟨rfl, h2⟩⟩
  clear he
  obtain ⟨o3, l3, c3, fs, er, rfl, hl3, hE3, hr3⟩ := HP.out
  have HE3 : Hid (EntsV w3 o3 l3 fs) := hE3
  have HR3 : Hid _ := hr3
  have hcv := HCV.out w3 HB13.out
  clear HP hE3 hr3
  go_wp2_with fail
  refine (HCR.out _).mono ?_
  rintro e w4 ⟨he, hb4⟩
  have HB4 : Hid (Below w2.heap.size w2 w4) := HB3.out.trans (hb4.mono HB3.out.size)
  have HE4 : Hid (EntsV w4 o3 l3 fs) := HE3.out.below hb4 (Nat.le_refl _)
  have HQ : Hid (∃ (o4 : Option Addr) (c4 : Nat), e = .returned (.tuple #[.slice o4 l3 c4, .int .i64 er]) ∧ EntsV w4 o4 l3 fs) := by
    show ∃ _, _
    rcases he with ⟨h1, h2⟩ | ⟨g, cc, l, h1, h2, h3⟩
    · rcases HR3.out with ⟨h4, h5, -⟩ | ⟨-, h5⟩
      · subst h5
        have := HE3.out.1
        simp only [List.length_nil] at this
        subst this
        exact ⟨none, 0, by rw [h1, h4], ⟨rfl, fun h => absurd h (by omega)⟩⟩
      · exact absurd h5.2.1 (h2 fs h5.1)
    · rcases HR3.out with ⟨-, -, h5⟩ | ⟨h4, h5⟩
      · exact absurd h2.2.1 (h5 l h2.1)
      · obtain rfl := isFile_one h5 h2
        obtain ⟨a', c', hv, hEV⟩ := own_entsV h3 rfl
        cases hv
        have := HE3.out.1
        subst this
        exact ⟨some ⟨g, 0, none⟩, cc, by rw [h1, h4], hEV⟩
  clear he hb4 hcv
  obtain ⟨o4, c4, rfl, hE4'⟩ := HQ.out
  have CSM := same_any o3 l3 c3 fs o4 l3 c4 fs w4 HE4.out hE4' (by omega) (by omega)
  rw [show decide (fs = fs) = true from decide_eq_true rfl] at CSM
  have HCS : Hid _ := CSM
  clear CSM hE4' HQ
  go_wp2_with fail
  refine Calls.mono HCS.out ?_
  rintro e w5 ⟨rfl, hb5⟩
  have HB5 : Hid (Below w2.heap.size w2 w5) := HB4.out.trans (hb5.mono HB4.out.size)
  have HCT : Hid _ := getT_any ⟨o2, m, c2, xs⟩ key w5 (HA.out w5 HB5.out) (by show m ≤ 1000000; omega)
  clear hb5 HCS
  go_wp2_with fail
  refine Calls.mono HCT.out ?_
  rintro e w6 ⟨he, hb6⟩
  have HG6 : Hid (GetT xs key e) := he
  obtain ⟨k1, v1, d1, q1, b1, n1, rfl⟩ := getT_form he
  have HB6 : Hid (Below w2.heap.size w2 w6) := HB5.out.trans (hb6.mono HB5.out.size)
  have hcv6 : ∀ o, (convert 25 9 (.slice ao m c)).run Tryd.prog (w6.alloc o) = .ok (.string S) (w6.alloc o) := fun o => HCV.out _ (HB2.out.trans ((HB6.out.trans ((bel_alloc w6 o).mono HB6.out.size)).mono HB2.out.size))
  clear he hb6 HCT
  go_wp2_with fail
  refine (HCG.out _).mono ?_
  rintro e w7 ⟨he, hb7⟩
  obtain rfl := getT_one HG6.out he
  have hX : w7.heap[w6.heap.size]? = some (.cells #[.string k1, .string v1, .bool d1, .int .i64 q1] 51 (0, 0)) := by rw [hb7.block _ (by simp)]; exact heap_alloc_new w6 _
  have HX : Hid _ := hX
  have HB7 : Hid (Below w2.heap.size w2 w7) := HB6.out.trans (((bel_alloc w6 _).trans (hb7.mono (by simp))).mono HB6.out.size)
  have a0 : ∀ o, (w7.alloc o).cell? ⟨w6.heap.size, 0, none⟩ = some (.string k1) := fun o => bel_cell (bel_alloc w7 o) (Nat.le_refl _) (by simp [World.cell?, HX.out])
  have a1 : ∀ o, (w7.alloc o).cell? ⟨w6.heap.size, 1, none⟩ = some (.string v1) := fun o => bel_cell (bel_alloc w7 o) (Nat.le_refl _) (by simp [World.cell?, HX.out])
  have a2 : ∀ o, (w7.alloc o).cell? ⟨w6.heap.size, 2, none⟩ = some (.bool d1) := fun o => bel_cell (bel_alloc w7 o) (Nat.le_refl _) (by simp [World.cell?, HX.out])
  have a3 : ∀ o, (w7.alloc o).cell? ⟨w6.heap.size, 3, none⟩ = some (.int .i64 q1) := fun o => bel_cell (bel_alloc w7 o) (Nat.le_refl _) (by simp [World.cell?, HX.out])
  have hcv7 : ∀ o, (convert 25 9 (.slice ao m c)).run Tryd.prog (w7.alloc o) = .ok (.string S) (w7.alloc o) := fun o => HCV.out _ (HB2.out.trans ((HB7.out.trans ((bel_alloc w7 o).mono HB7.out.size)).mono HB2.out.size))
  have hcw7 : ∀ o, (convert 25 9 (.slice o2 m c2)).run Tryd.prog (w7.alloc o) = .ok (.string S) (w7.alloc o) := fun o => HCW.out _ (HB7.out.trans ((bel_alloc w7 o).mono HB7.out.size))
  have HFIN : Hid (∀ o, Below w.heap.size w (w7.alloc o)) := fun o => HB1.out.trans ((HB2.out.trans ((HB7.out.trans ((bel_alloc w7 o).mono HB7.out.size)).mono HB2.out.size)).mono HB1.out.size)
  have hg := guard23
  have hEQ := fun W => equal23 k1 v1 d1 q1 k1 v1 d1 q1 W
  simp only [decide_true] at hEQ
  clear he hb7 hX hcv6
  cases b1 <;> (go_wp2; go_ret; exact ⟨rfl, HFIN.out _⟩)
end Go.Proofs.YtcgjhopfdpaocaaDoor

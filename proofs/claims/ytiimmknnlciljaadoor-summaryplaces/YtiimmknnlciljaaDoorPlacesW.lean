/-
  Which tables may have what: what the law SummaryPlaces answers, for any arguments.
-/
import Derived.Test.YtiimmknnlciljaaDoorSuJ
import Derived.Test.YtiimmknnlciljaaDoorAloneW
namespace Go.Proofs.YtiimmknnlciljaaDoor
open Go.RowKit Go.Sort Go.Shelf
set_option linter.unusedSectionVars false
variable [Inhabited E] [DecidableEq E]
set_option maxRecDepth 100000 in
set_option maxHeartbeats 16000000 in
theorem places_walk (ao : Option Addr) (n c : Nat) (ts : List Tb) (key hi : ByteArray) (w : World) (hT : TabsV w ao n ts) (hS : SmallT ts) (hnc : n ≤ c) (hc : c ≤ 9223372036854775807) (_ho : ao = none → c = 0) (hK : Sm.WW w 0 Sm.ks) (hz0 : 0 < w.heap.size) :
    Calls Tryd.prog 5 #[.slice ao n c, .string key, .string hi] w fun e w' => e = .returned (.bool true) ∧ Below w.heap.size w w' := by
  have C1 : Hid _ := shown_any w hK hz0
  have CF : Hid (∀ W, Below w.heap.size w W → Calls Tryd.prog 12 #[.slice ao n c, .int .i64 60] W fun e w' => ∃ v', e = .returned v' ∧ w'.ownsRow W.heap.size 51 36 v' (fewT 60 ts).length (flatT (fewT 60 ts)) ∧ Below W.heap.size W w') := fun W hW => few_any ao n c 60 ts W (hT.below hW (Nat.le_refl _)) hS (by omega) (by omega)
  obtain ⟨L, HL⟩ : ∃ L, Hid (fewT 60 ts = L) := ⟨_, rfl⟩
  have HSM : Hid (L.length ≤ 60) := by
    show _ ≤ _
    rw [← HL.out, fewT_len]; omega
  rw [HL.out] at CF
  clear hT hS hnc hc hK hz0 HL
  go_enter Tryd.func5, Tryd.ntmps5
  go_wp2_with fail
  refine Calls.mono C1.out ?_
  rintro e w1 ⟨rfl, hb1⟩
  have HB1 : Hid (Below w.heap.size w w1) := hb1
  clear hb1 C1
  go_wp2_with fail
  refine (CF.out w1 HB1.out).mono ?_
  rintro e w2 ⟨v2, rfl, hown2, hb2⟩
  obtain ⟨a2, c2, rfl, hT2, -, -, -, -⟩ := own_tabsV hown2
  have HB2 : Hid (Below w.heap.size w w2) := HB1.out.trans (hb2.mono HB1.out.size)
  obtain ⟨n2, HN2⟩ : ∃ n, Hid (L.length = n) := ⟨_, rfl⟩
  rw [HN2.out] at hT2 ⊢
  have HT2 : Hid (TabsV w2 a2 n2 L) := hT2
  have hn60 : n2 ≤ 1000 := by have := HSM.out; rw [HN2.out] at this; omega
  obtain ⟨P, HP⟩ : ∃ P, Hid (plc (covP key) L n2 = P) := ⟨_, rfl⟩
  obtain ⟨O, HO⟩ : ∃ P, Hid (plc (ovP key hi) L n2 = P) := ⟨_, rfl⟩
  have hPl : P.length ≤ 1000 := by rw [← HP.out]; have := plc_len (covP key) L n2; omega
  have hOl : O.length ≤ 1000 := by rw [← HO.out]; have := plc_len (ovP key hi) L n2; omega
  have CA : Hid (∀ W, Below w2.heap.size w2 W → Calls Tryd.prog 23 #[.slice a2 n2 c2, .string key] W fun e w' => ∃ v, e = .returned v ∧ w'.ownsRow W.heap.size 3 1 v P.length (cellsI P) ∧ Below W.heap.size W w') := fun W hW => by have := covering_any a2 n2 c2 L key W (HT2.out.below hW (Nat.le_refl _)) hn60; rw [HP.out] at this; exact this
  have CB : Hid (∀ W, Below w2.heap.size w2 W → Calls Tryd.prog 24 #[.slice a2 n2 c2, .string key] W fun e w' => ∃ v, e = .returned v ∧ w'.ownsRow W.heap.size 3 1 v P.length (cellsI P) ∧ Below W.heap.size W w') := fun W hW => by have := refCovering_any a2 n2 c2 L key W (HT2.out.below hW (Nat.le_refl _)) hn60; rw [HP.out] at this; exact this
  have CC : Hid (∀ W, Below w2.heap.size w2 W → Calls Tryd.prog 25 #[.slice a2 n2 c2, .string key, .string hi] W fun e w' => ∃ v, e = .returned v ∧ w'.ownsRow W.heap.size 3 1 v O.length (cellsI O) ∧ Below W.heap.size W w') := fun W hW => by have := overlapping_any a2 n2 c2 L key hi W (HT2.out.below hW (Nat.le_refl _)) hn60; rw [HO.out] at this; exact this
  have CD : Hid (∀ W, Below w2.heap.size w2 W → Calls Tryd.prog 26 #[.slice a2 n2 c2, .string key, .string hi] W fun e w' => ∃ v, e = .returned v ∧ w'.ownsRow W.heap.size 3 1 v O.length (cellsI O) ∧ Below W.heap.size W w') := fun W hW => by have := refOverlapping_any a2 n2 c2 L key hi W (HT2.out.below hW (Nat.le_refl _)) hn60; rw [HO.out] at this; exact this
  clear hown2 hT2 hb2 CF
  go_wp2_with fail
  refine (CA.out w2 (Below.refl _ _)).mono ?_
  rintro e w3 ⟨v3, rfl, hown3, hb3⟩
  obtain ⟨a3, c3, rfl, hI3, -⟩ := own_intsV hown3
  have HB3 : Hid (Below w2.heap.size w2 w3) := hb3
  have HI3 : Hid (IntsV w3 a3 P.length P) := hI3
  clear hown3 hb3 hI3 CA
  go_wp2_with fail
  refine (CB.out w3 HB3.out).mono ?_
  rintro e w4 ⟨v4, rfl, hown4, hb4⟩
  obtain ⟨a4, c4, rfl, hI4, -⟩ := own_intsV hown4
  have HB4 : Hid (Below w2.heap.size w2 w4) := HB3.out.trans (hb4.mono HB3.out.size)
  have CS : Hid _ := sameInts_any a3 P.length c3 P a4 c4 w4 (IntsV.keep HI3.out hb4) hI4 (by omega)
  clear hown4 hb4 hI4 CB
  go_wp2_with fail
  refine Calls.mono CS.out ?_
  rintro e w5 ⟨rfl, hb5⟩
  have HB5 : Hid (Below w2.heap.size w2 w5) := HB4.out.trans (hb5.mono HB4.out.size)
  clear hb5 CS HI3
  go_wp2_with fail
  refine (CC.out w5 HB5.out).mono ?_
  rintro e w6 ⟨v6, rfl, hown6, hb6⟩
  obtain ⟨a6, c6, rfl, hI6, -⟩ := own_intsV hown6
  have HB6 : Hid (Below w2.heap.size w2 w6) := HB5.out.trans (hb6.mono HB5.out.size)
  have HI6 : Hid (IntsV w6 a6 O.length O) := hI6
  clear hown6 hb6 hI6 CC
  go_wp2_with fail
  refine (CD.out w6 HB6.out).mono ?_
  rintro e w7 ⟨v7, rfl, hown7, hb7⟩
  obtain ⟨a7, c7, rfl, hI7, -⟩ := own_intsV hown7
  have HB7 : Hid (Below w2.heap.size w2 w7) := HB6.out.trans (hb7.mono HB6.out.size)
  have CS : Hid _ := sameInts_any a6 O.length c6 O a7 c7 w7 (IntsV.keep HI6.out hb7) hI7 (by omega)
  clear hown7 hb7 hI7 CD
  go_wp2_with fail
  refine Calls.mono CS.out ?_
  rintro e w8 ⟨rfl, hb8⟩
  have HB8 : Hid (Below w2.heap.size w2 w8) := HB7.out.trans (hb8.mono HB7.out.size)
  clear hb8 CS HI6
  go_wp2
  go_ret
  exact ⟨rfl, HB2.out.trans (HB8.out.mono HB2.out.size)⟩
end Go.Proofs.YtiimmknnlciljaaDoor

/-
  There is one summary of each list: what the law SummaryOnce answers, for any arguments.
-/
import Derived.Test.YtiimmknnlciljaaDoorSuS
namespace Go.Proofs.YtiimmknnlciljaaDoor
open Go.RowKit Go.Sort Go.Shelf
set_option linter.unusedSectionVars false
variable [Inhabited E] [DecidableEq E]
theorem mk_beq (l : List UInt8) : (ByteArray.toList ⟨l.toArray⟩ == ByteArray.toList ⟨l.toArray⟩) = true := by simp
set_option maxRecDepth 100000 in
set_option maxHeartbeats 8000000 in
theorem once_core (ao : Option Addr) (n m c : Nat) (bs : List UInt8) (w : World) (hb : Bytes w ao m bs) (h0 : ao = none → c = 0) (hnc : n ≤ c) (hc : c ≤ 9223372036854775807) (hm : m = min n 5000) (hnone : ao = none → n = 0) (hK : Sm.WW w 0 Sm.ks) (hz0 : 0 < w.heap.size) :
    Calls Tryd.prog 7 #[.slice ao n c] w fun e w' => e = .returned (.bool true) ∧ Below w.heap.size w w' := by
  have C1 : Hid _ := shown_any w hK hz0
  have C2 : Hid (∀ W, Below w.heap.size w W → Calls Tryd.prog 20 #[.slice ao m c] W fun e w' => ∃ v, e = .returned (.tuple #[v, .int .i64 (if parseOk bs then 0 else 2)]) ∧ PV (parseOk bs) W.heap.size w' v (rdL bs false).1 ∧ Below W.heap.size W w') := fun W hW => parse_any ao m c bs W (bytes_kept hb hW (Nat.le_refl _)) h0 (by omega) hc
  have HB : Hid (Bytes w ao m bs) := hb
  have HMIN : Hid (min (n : Int) 5000 = (m : Int)) := by show _ = _; omega
  have hmc : (m : Int) ≤ (c : Int) := by omega
  have HL : Hid (SmallT (rdL bs false).1 ∧ (rdL bs false).1.length ≤ 512) := ⟨rdL_small bs false (by rw [hb.1]; omega), rdL_len bs false⟩
  have HONE : Hid (parseOk bs = true → rightT (rdL bs false).1 ∧ sumB (rdL bs false).1 = bs) := fun h => parse_once h
  obtain ⟨L, HLL⟩ : ∃ L, Hid ((rdL bs false).1 = L) := ⟨_, rfl⟩
  rw [HLL.out] at C2 HL HONE
  obtain ⟨ok, HOK⟩ : ∃ L, Hid (parseOk bs = L) := ⟨_, rfl⟩
  rw [HOK.out] at C2 HONE
  have hmin := HMIN.out
  have HS : Hid (∀ W, Below w.heap.size w W → (convert 25 9 (.slice ao m c)).run Tryd.prog W = .ok (.string ⟨bs.toArray⟩) W) := fun W hW => str_bytes c (bytes_kept hb hW (Nat.le_refl _))
  have HC0 : Hid (ao = none → c = 0) := h0
  clear hb h0 hnc hc hK hz0 HLL HOK hm
  have HNN : Hid (ao = none → n = 0) := hnone
  clear hnone
  cases ao with
  | none =>
    obtain rfl := HNN.out rfl
    obtain rfl : m = 0 := by omega
    obtain rfl := HC0.out rfl
    have hmin0 : min (0 : Int) 5000 = 0 := by decide
    clear hmin
    go_enter Tryd.func7, Tryd.ntmps7
    go_wp2_with fail
    refine Calls.mono C1.out ?_
    rintro e w1 ⟨rfl, hb1⟩
    have HB1 : Hid (Below w.heap.size w w1) := hb1
    clear hb1 C1
    go_wp2_with fail
    refine (C2.out w1 HB1.out).mono ?_
    rintro e w2 ⟨v2, rfl, hpv, hb2⟩
    have HB2 : Hid (Below w.heap.size w w2) := HB1.out.trans (hb2.mono HB1.out.size)
    have HPV : Hid (PV ok w1.heap.size w2 v2 L) := hpv
    clear hb2 hpv C2
    cases ok with
    | false =>
      obtain rfl := HPV.out.2 rfl
      go_wp2
      go_ret
      exact ⟨rfl, HB2.out⟩
    | true =>
      have hown := HPV.out.1 rfl
      obtain ⟨hr, hs⟩ := HONE.out rfl
      obtain ⟨a2, c2, rfl, hT2, -, -, -, -⟩ := own_tabsV hown
      have hrt : rightTB L = true := rightTB_iff.2 hr
      have C3 : Hid _ := bytes14_any a2 L.length c2 L w2 hT2 HL.out.1 (by have := HL.out.2; omega)
      rw [hrt, hs] at C3
      have HT2 : Hid (TabsV w2 a2 L.length L) := hT2
      have HRT : Hid (rightTB L = true) := hrt
      clear hown hT2 hr hs hrt HPV HONE
      go_wp2_with fail
      refine Calls.mono C3.out ?_
      rintro e w3 ⟨v3, rfl, hyb, hb3⟩
      have HB3 : Hid (Below w.heap.size w w3) := HB2.out.trans (hb3.mono HB2.out.size)
      have hown3 := hyb.1 rfl
      obtain ⟨a3, c3, rfl, hby3, -, -, -, -, -⟩ := own_bytes hown3
      have hcv3 := str_bytes c3 hby3
      have hcvb := HS.out w3 HB3.out
      have C4 : Hid _ := right14_any a2 L.length c2 L w3 (HT2.out.keep hb3) HL.out.1 (by have := HL.out.2; omega)
      rw [HRT.out] at C4
      have hbq := mk_beq bs
      clear hown3 hby3 hyb hb3 C3
      go_wp2_with fail
      refine Calls.mono C4.out ?_
      rintro e w4 ⟨rfl, hb4⟩
      have HB4 : Hid (Below w.heap.size w w4) := HB3.out.trans (hb4.mono HB3.out.size)
      clear hb4 C4
      go_wp2
      go_ret
      exact ⟨rfl, HB4.out⟩
  | some x =>
    go_enter Tryd.func7, Tryd.ntmps7
    go_wp2_with fail
    refine Calls.mono C1.out ?_
    rintro e w1 ⟨rfl, hb1⟩
    have HB1 : Hid (Below w.heap.size w w1) := hb1
    clear hb1 C1
    go_wp2_with fail
    refine (C2.out w1 HB1.out).mono ?_
    rintro e w2 ⟨v2, rfl, hpv, hb2⟩
    have HB2 : Hid (Below w.heap.size w w2) := HB1.out.trans (hb2.mono HB1.out.size)
    have HPV : Hid (PV ok w1.heap.size w2 v2 L) := hpv
    clear hb2 hpv C2
    cases ok with
    | false =>
      obtain rfl := HPV.out.2 rfl
      go_wp2
      go_ret
      exact ⟨rfl, HB2.out⟩
    | true =>
      have hown := HPV.out.1 rfl
      obtain ⟨hr, hs⟩ := HONE.out rfl
      obtain ⟨a2, c2, rfl, hT2, -, -, -, -⟩ := own_tabsV hown
      have hrt : rightTB L = true := rightTB_iff.2 hr
      have C3 : Hid _ := bytes14_any a2 L.length c2 L w2 hT2 HL.out.1 (by have := HL.out.2; omega)
      rw [hrt, hs] at C3
      have HT2 : Hid (TabsV w2 a2 L.length L) := hT2
      have HRT : Hid (rightTB L = true) := hrt
      clear hown hT2 hr hs hrt HPV HONE
      go_wp2_with fail
      refine Calls.mono C3.out ?_
      rintro e w3 ⟨v3, rfl, hyb, hb3⟩
      have HB3 : Hid (Below w.heap.size w w3) := HB2.out.trans (hb3.mono HB2.out.size)
      have hown3 := hyb.1 rfl
      obtain ⟨a3, c3, rfl, hby3, -, -, -, -, -⟩ := own_bytes hown3
      have hcv3 := str_bytes c3 hby3
      have hcvb := HS.out w3 HB3.out
      have C4 : Hid _ := right14_any a2 L.length c2 L w3 (HT2.out.keep hb3) HL.out.1 (by have := HL.out.2; omega)
      rw [HRT.out] at C4
      have hbq := mk_beq bs
      clear hown3 hby3 hyb hb3 C3
      go_wp2_with fail
      refine Calls.mono C4.out ?_
      rintro e w4 ⟨rfl, hb4⟩
      have HB4 : Hid (Below w.heap.size w w4) := HB3.out.trans (hb4.mono HB3.out.size)
      clear hb4 C4
      go_wp2
      go_ret
      exact ⟨rfl, HB4.out⟩
theorem bytes_none {w : World} {ao : Option Addr} {n : Nat} {bs : List UInt8} (h : Bytes w ao n bs) : ao = none → n = 0 := fun ha => by
  subst ha
  cases bs with
  | nil => have := h.1; simpa using this.symm
  | cons b t => obtain ⟨x, hx, _⟩ := h.2 0 b (by simp); cases hx
theorem once_walk (ao : Option Addr) (n c : Nat) (bs : List UInt8) (w : World) (hb : Bytes w ao n bs) (h0 : ao = none → c = 0) (hnc : n ≤ c) (hc : c ≤ 9223372036854775807) (hK : Sm.WW w 0 Sm.ks) (hz0 : 0 < w.heap.size) :
    Calls Tryd.prog 7 #[.slice ao n c] w fun e w' => e = .returned (.bool true) ∧ Below w.heap.size w w' :=
  once_core ao n (min n 5000) c (bs.take (min n 5000)) w (bytes_take hb _ (by omega)) h0 hnc hc rfl (bytes_none hb) hK hz0
end Go.Proofs.YtiimmknnlciljaaDoor

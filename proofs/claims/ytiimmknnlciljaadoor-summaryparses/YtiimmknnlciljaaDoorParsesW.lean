/-
  Parse answers as the document's own: what the law SummaryParses answers, for any arguments.
-/
import Derived.Test.YtiimmknnlciljaaDoorSuRp
import Derived.Test.YtiimmknnlciljaaDoorOnceW
import Derived.Test.YtiimmknnlciljaaDoorSuE
namespace Go.Proofs.YtiimmknnlciljaaDoor
open Go.RowKit Go.Sort Go.Shelf
set_option linter.unusedSectionVars false
variable [Inhabited E] [DecidableEq E]
set_option maxRecDepth 100000 in
set_option maxHeartbeats 16000000 in
theorem parses_core (ao : Option Addr) (n m c : Nat) (bs : List UInt8) (w : World) (hb : Bytes w ao m bs) (h0 : ao = none → c = 0) (hnc : n ≤ c) (hm : m = min n 5000) (hnone : ao = none → n = 0) (hK : Sm.WW w 0 Sm.ks) (hz0 : 0 < w.heap.size) :
    Calls Tryd.prog 4 #[.slice ao n c] w fun e w' => e = .returned (.bool true) ∧ Below w.heap.size w w' := by
  have C1 : Hid _ := shown_any w hK hz0
  have HB : Hid (Bytes w ao m bs) := hb
  have HMIN : Hid (min (n : Int) 5000 = (m : Int)) := by show _ = _; omega
  have hmc : (m : Int) ≤ (c : Int) := by omega
  have hm5 : m ≤ 5000 := by omega
  have HSZ : Hid ((⟨bs.toArray⟩ : ByteArray).size ≤ 5000) := by
    show bs.toArray.size ≤ 5000
    rw [List.size_toArray, hb.1]; exact hm5
  have HLEN : Hid ((rdL bs false).1.length ≤ 512) := rdL_len bs false
  obtain ⟨L, HLL⟩ : ∃ L, Hid ((rdL bs false).1 = L) := ⟨_, rfl⟩
  rw [HLL.out] at HLEN
  obtain ⟨ok, HOK⟩ : ∃ L, Hid (parseOk bs = L) := ⟨_, rfl⟩
  obtain ⟨er, HER⟩ : ∃ er : Int, Hid ((if ok then (0 : Int) else 2) = er) := ⟨_, rfl⟩
  have hmin := HMIN.out
  have HS : Hid (∀ W, Below w.heap.size w W → (convert 25 9 (.slice ao m c)).run Tryd.prog W = .ok (.string ⟨bs.toArray⟩) W) := fun W hW => str_bytes c (bytes_kept hb hW (Nat.le_refl _))
  have HC0 : Hid (ao = none → c = 0) := h0
  have HNN : Hid (ao = none → n = 0) := hnone
  clear hb h0 hnc hK hz0 hm hnone
  cases ao with
  | none =>
    obtain rfl := HNN.out rfl
    obtain rfl : m = 0 := by omega
    obtain rfl := HC0.out rfl
    have hmin0 : min (0 : Int) 5000 = 0 := by decide
    clear hmin
    go_enter Tryd.func4, Tryd.ntmps4
    go_wp2_with fail
    refine Calls.mono C1.out ?_
    rintro e w1 ⟨rfl, hb1⟩
    have HB1 : Hid (Below w.heap.size w w1) := hb1
    clear hb1 C1
    go_wp2_with (at_builtin; refine wpList_append_copy _ rfl (.tmp 16) (.tmp 17) rfl w1.heap.size _ rfl (own_empty w1) (by simp) none 0 0 bs rfl (bytes_kept HB.out (HB1.out.trans ((bel_alloc w1 _).mono HB1.out.size)) (Nat.le_refl _)) (fun _ => rfl) (by omega) ?_)
    intro a2 c2 w2 hby2 hc2 h02 hb2
    have hmc2 : 0 ≤ c2 := Nat.zero_le _
    have HB2 : Hid (Below w.heap.size w w2 ∧ Bytes w2 a2 0 bs) := ⟨HB1.out.trans (((bel_alloc w1 _).trans hb2).mono HB1.out.size), hby2⟩
    have C2 : Hid _ := parse_any a2 0 c2 bs w2 hby2 h02 hmc2 hc2
    rw [HOK.out, HLL.out, HER.out] at C2
    clear hby2 hmc2 hc2 h02 hb2
    go_wp2_with fail
    refine Calls.mono C2.out ?_
    rintro e w3 ⟨v3, rfl, hpv3, hb3⟩
    have HB3 : Hid (Below w.heap.size w w3 ∧ Below w2.heap.size w2 w3) := ⟨HB2.out.1.trans (hb3.mono HB2.out.1.size), hb3⟩
    have HP3 : Hid (PV ok w2.heap.size w3 v3 L) := hpv3
    clear hpv3 hb3 C2
    have hcvb := HS.out w3 HB3.out.1
    have C3 : Hid _ := refParse14_any ⟨bs.toArray⟩ w3 HSZ.out
    rw [strB_mk, HOK.out, HLL.out, HER.out] at C3
    go_wp2_with fail
    refine Calls.mono C3.out ?_
    rintro e w4 ⟨v4, rfl, hpv4, hb4⟩
    have HB4 : Hid (Below w.heap.size w w4 ∧ Below w2.heap.size w2 w4 ∧ Below w3.heap.size w3 w4) := ⟨HB3.out.1.trans (hb4.mono HB3.out.1.size), HB3.out.2.trans (hb4.mono HB3.out.2.size), hb4⟩
    have HP4 : Hid (PV ok w3.heap.size w4 v4 L) := hpv4
    clear hpv4 hb4 C3 hcvb
    have hbq := mk_beq bs
    cases ok with
    | false =>
      obtain rfl : er = 2 := HER.out.symm
      obtain rfl := HP3.out.2 rfl
      obtain rfl := HP4.out.2 rfl
      have C4 : Hid _ := sameT_any none 0 0 [] none 0 0 [] w4 (tabsV_nil w4 none) (tabsV_nil w4 none) (by omega) (by omega)
      rw [sameTB_yes rfl] at C4
      go_wp2_with fail
      refine Calls.mono C4.out ?_
      rintro e w5 ⟨rfl, hb5⟩
      have HB5 : Hid (Below w.heap.size w w5 ∧ Below w2.heap.size w2 w5) := ⟨HB4.out.1.trans (hb5.mono HB4.out.1.size), HB4.out.2.1.trans (hb5.mono HB4.out.2.1.size)⟩
      clear hb5 C4
      have hcv1 := HS.out w5 HB5.out.1
      have hcv2 := str_bytes c2 (bytes_kept HB2.out.2 HB5.out.2 (Nat.le_refl _))
      go_wp2
      go_ret
      exact ⟨rfl, HB5.out.1⟩
    | true =>
      obtain rfl : er = 0 := HER.out.symm
      obtain ⟨a3, c3, rfl, hT3, -, -, -, -⟩ := own_tabsV (HP3.out.1 rfl)
      obtain ⟨a4, c4, rfl, hT4, -, -, -, -⟩ := own_tabsV (HP4.out.1 rfl)
      have hLL := HLEN.out
      have C4 : Hid _ := sameT_any a3 L.length c3 L a4 L.length c4 L w4 (hT3.keep HB4.out.2.2) hT4 (by omega) (by omega)
      rw [sameTB_yes rfl] at C4
      clear hT3 hT4 hLL HP3 HP4
      go_wp2_with fail
      refine Calls.mono C4.out ?_
      rintro e w5 ⟨rfl, hb5⟩
      have HB5 : Hid (Below w.heap.size w w5 ∧ Below w2.heap.size w2 w5) := ⟨HB4.out.1.trans (hb5.mono HB4.out.1.size), HB4.out.2.1.trans (hb5.mono HB4.out.2.1.size)⟩
      clear hb5 C4
      have hcv1 := HS.out w5 HB5.out.1
      have hcv2 := str_bytes c2 (bytes_kept HB2.out.2 HB5.out.2 (Nat.le_refl _))
      go_wp2
      go_ret
      exact ⟨rfl, HB5.out.1⟩
  | some x =>
    go_enter Tryd.func4, Tryd.ntmps4
    go_wp2_with fail
    refine Calls.mono C1.out ?_
    rintro e w1 ⟨rfl, hb1⟩
    have HB1 : Hid (Below w.heap.size w w1) := hb1
    clear hb1 C1
    go_wp2_with (at_builtin; refine wpList_append_copy _ rfl (.tmp 16) (.tmp 17) rfl w1.heap.size _ rfl (own_empty w1) (by simp) (some x) m c bs rfl (bytes_kept HB.out (HB1.out.trans ((bel_alloc w1 _).mono HB1.out.size)) (Nat.le_refl _)) (fun h => by cases h) (by omega) ?_)
    intro a2 c2 w2 hby2 hmc2 hc2 h02 hb2
    have HB2 : Hid (Below w.heap.size w w2 ∧ Bytes w2 a2 m bs) := ⟨HB1.out.trans (((bel_alloc w1 _).trans hb2).mono HB1.out.size), hby2⟩
    have C2 : Hid _ := parse_any a2 m c2 bs w2 hby2 h02 hmc2 hc2
    rw [HOK.out, HLL.out, HER.out] at C2
    clear hby2 hmc2 hc2 h02 hb2
    go_wp2_with fail
    refine Calls.mono C2.out ?_
    rintro e w3 ⟨v3, rfl, hpv3, hb3⟩
    have HB3 : Hid (Below w.heap.size w w3 ∧ Below w2.heap.size w2 w3) := ⟨HB2.out.1.trans (hb3.mono HB2.out.1.size), hb3⟩
    have HP3 : Hid (PV ok w2.heap.size w3 v3 L) := hpv3
    clear hpv3 hb3 C2
    have hcvb := HS.out w3 HB3.out.1
    have C3 : Hid _ := refParse14_any ⟨bs.toArray⟩ w3 HSZ.out
    rw [strB_mk, HOK.out, HLL.out, HER.out] at C3
    go_wp2_with fail
    refine Calls.mono C3.out ?_
    rintro e w4 ⟨v4, rfl, hpv4, hb4⟩
    have HB4 : Hid (Below w.heap.size w w4 ∧ Below w2.heap.size w2 w4 ∧ Below w3.heap.size w3 w4) := ⟨HB3.out.1.trans (hb4.mono HB3.out.1.size), HB3.out.2.trans (hb4.mono HB3.out.2.size), hb4⟩
    have HP4 : Hid (PV ok w3.heap.size w4 v4 L) := hpv4
    clear hpv4 hb4 C3 hcvb
    have hbq := mk_beq bs
    cases ok with
    | false =>
      obtain rfl : er = 2 := HER.out.symm
      obtain rfl := HP3.out.2 rfl
      obtain rfl := HP4.out.2 rfl
      have C4 : Hid _ := sameT_any none 0 0 [] none 0 0 [] w4 (tabsV_nil w4 none) (tabsV_nil w4 none) (by omega) (by omega)
      rw [sameTB_yes rfl] at C4
      go_wp2_with fail
      refine Calls.mono C4.out ?_
      rintro e w5 ⟨rfl, hb5⟩
      have HB5 : Hid (Below w.heap.size w w5 ∧ Below w2.heap.size w2 w5) := ⟨HB4.out.1.trans (hb5.mono HB4.out.1.size), HB4.out.2.1.trans (hb5.mono HB4.out.2.1.size)⟩
      clear hb5 C4
      have hcv1 := HS.out w5 HB5.out.1
      have hcv2 := str_bytes c2 (bytes_kept HB2.out.2 HB5.out.2 (Nat.le_refl _))
      go_wp2
      go_ret
      exact ⟨rfl, HB5.out.1⟩
    | true =>
      obtain rfl : er = 0 := HER.out.symm
      obtain ⟨a3, c3, rfl, hT3, -, -, -, -⟩ := own_tabsV (HP3.out.1 rfl)
      obtain ⟨a4, c4, rfl, hT4, -, -, -, -⟩ := own_tabsV (HP4.out.1 rfl)
      have hLL := HLEN.out
      have C4 : Hid _ := sameT_any a3 L.length c3 L a4 L.length c4 L w4 (hT3.keep HB4.out.2.2) hT4 (by omega) (by omega)
      rw [sameTB_yes rfl] at C4
      clear hT3 hT4 hLL HP3 HP4
      go_wp2_with fail
      refine Calls.mono C4.out ?_
      rintro e w5 ⟨rfl, hb5⟩
      have HB5 : Hid (Below w.heap.size w w5 ∧ Below w2.heap.size w2 w5) := ⟨HB4.out.1.trans (hb5.mono HB4.out.1.size), HB4.out.2.1.trans (hb5.mono HB4.out.2.1.size)⟩
      clear hb5 C4
      have hcv1 := HS.out w5 HB5.out.1
      have hcv2 := str_bytes c2 (bytes_kept HB2.out.2 HB5.out.2 (Nat.le_refl _))
      go_wp2
      go_ret
      exact ⟨rfl, HB5.out.1⟩
theorem parses_walk (ao : Option Addr) (n c : Nat) (bs : List UInt8) (w : World) (hb : Bytes w ao n bs) (h0 : ao = none → c = 0) (hnc : n ≤ c) (_hc : c ≤ 9223372036854775807) (hK : Sm.WW w 0 Sm.ks) (hz0 : 0 < w.heap.size) :
    Calls Tryd.prog 4 #[.slice ao n c] w fun e w' => e = .returned (.bool true) ∧ Below w.heap.size w w' :=
  parses_core ao n (min n 5000) c (bs.take (min n 5000)) w (bytes_take hb _ (by omega)) h0 hnc rfl (bytes_none hb) hK hz0
end Go.Proofs.YtiimmknnlciljaaDoor

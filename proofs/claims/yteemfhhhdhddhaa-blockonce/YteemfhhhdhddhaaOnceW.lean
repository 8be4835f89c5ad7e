/-
  The statement BlockOnce, walked.
-/
import Derived.Test.YteemfhhhdhddhaaParB
import Derived.Test.YteemfhhhdhddhaaSmallB
import Derived.Test.YteemfhhhdhddhaaArgs
namespace Go.Proofs.Yteemfhhhdhddhaa
open Go.RowKit Go.Sort Go.Shelf
set_option linter.unusedSectionVars false
variable [Inhabited E] [DecidableEq E]
set_option maxRecDepth 100000 in
set_option maxHeartbeats 4000000 in
theorem once_walk (ao : Option Addr) (n c : Nat) (bs : List UInt8) (w : World) (hb : Bytes w ao n bs) (h0 : ao = none → c = 0) (hnc : n ≤ c) (hc : c ≤ 9223372036854775807) :
    Calls Try.prog 14 #[.slice ao n c] w fun e w' => e = .returned (.bool true) ∧ Below w.heap.size w w' := by
  obtain ⟨m, hm⟩ : ∃ m, m = min n 5000 := ⟨_, rfl⟩
  have hz : min (n : Int) 5000 = (m : Int) := by omega
  have hmc : (m : Int) ≤ (c : Int) := by omega
  have hmn : m ≤ n := by omega
  have hm5 : m ≤ 5000 := by omega
  clear hm
  have HBT : Hid (Bytes w ao m (bs.take m)) := bytes_take hb m hmn
  obtain ⟨cs, HCS⟩ : ∃ cs, Hid (bs.take m = cs) := ⟨_, rfl⟩
  rw [HCS.out] at HBT
  have H0 : Hid _ := h0
  clear hb h0
  go_enter Try.func14, Try.ntmps14
  go_wp2_with fail
  refine (shown4_any w).mono ?_
  rintro e w1 ⟨rfl, hb1⟩
  have HB1 : Hid _ := hb1
  have CP := parseb_any ao m c cs w1 (bytes_kept HBT.out hb1 (Nat.le_refl _)) (by omega) hc (by omega)
  have HCP : Hid _ := CP
  clear CP hb1
  go_wp2_with fail
  refine Calls.mono HCP.out ?_
  rintro e w2 ⟨hb2, he⟩
  have HB2 : Hid (Below w.heap.size w w2) := HB1.out.trans (hb2.mono HB1.out.size)
  clear hb2 HCP
  rcases he with ⟨rfl, hno⟩ | ⟨l, ao', c', rfl, hIB, hEV, hl, hcl⟩
  · clear hno
    go_wp2
    go_ret
    exact ⟨rfl, HB2.out⟩
  · have hlen := fit_len hIB.1
    have HALL : Hid (l.all rightB = true) := fit_all hIB.1
    have HIB : Hid (IsBlock cs l) := hIB
    obtain ⟨L, HLL⟩ : ∃ L, Hid (l.length = L) := ⟨_, rfl⟩
    have HEV : Hid (EntsV w2 ao' l.length l) := hEV
    rw [HLL.out] at hl HEV hlen ⊢
    clear hIB hEV
    go_wp2_with fail
    go_loopw [6] (fun x wr => ∃ i : Nat, x = .int .i64 i ∧ i ≤ L ∧ Hid (Below w2.heap.size w2 wr)) (fun x _ => L - (intOf x).toNat)
    case atStart => exact ⟨0, rfl, Nat.zero_le _, Below.refl _ _⟩
    case round =>
      obtain ⟨i, rfl, hi, HBR⟩ := hrel
      by_cases hlt : i < L
      · have hltz := lt_z hlt
        have HE2 : Hid (EntsV wr ao' L l) := HEV.out.below HBR.out (Nat.le_refl _)
        obtain ⟨b, off, hao, hEn⟩ := HE2.out.2 (Nat.lt_of_le_of_lt (Nat.zero_le _) hlt)
        subst hao
        obtain ⟨k0, v0, d0, q0, HX⟩ : ∃ k0 v0 d0 q0, Hid (l[i]! = E.mk k0 v0 d0 q0) := ⟨_, _, _, _, rfl⟩
        obtain ⟨c0, c1, c2, c3⟩ := ents_four hEn i (by rw [HLL.out]; exact hlt) HX.out
        have hri := take_right HALL.out i (by rw [HLL.out]; exact hlt)
        rw [HX.out] at hri
        have hsz := right_parts hri
        have CR := right_any k0 v0 d0 q0 wr (by have := hsz.1; simp only at this; omega) (by have := hsz.2.1; simp only at this; omega)
        rw [hri] at CR
        have HCR : Hid _ := CR
        clear CR hri hsz hEn
        go_wp2_with fail
        refine Calls.mono HCR.out ?_
        rintro e w3 ⟨rfl, hb3⟩
        have HB3 : Hid (Below w2.heap.size w2 w3) := HBR.out.trans (hb3.mono HBR.out.size)
        clear hb3
        go_wp2
        go_roundw
        case rel => exact ⟨i + 1, by go_num, hlt, HB3⟩
        case measure => simp [intOf]; omega
      · have hltz := nlt_z hlt
        have HE2 : Hid (EntsV wr ao' L l) := HEV.out.below HBR.out (Nat.le_refl _)
        have CB := blockBytes_some ao' L c' l wr HE2.out (right_small HALL.out) HIB.out.1
        rw [HIB.out.2.1] at CB
        have HCB : Hid _ := CB
        have hLz1 : (1 : Int) ≤ (L : Int) := by omega
        have hLz2 : (L : Int) ≤ 64 := by omega
        clear CB
        go_wp2_with fail
        refine Calls.mono HCB.out ?_
        rintro e w3 ⟨v3, rfl, hown3, hb3⟩
        obtain ⟨ao3, c3, rfl, hby3, -, -, -, -, -⟩ := own_bytes hown3
        have HB3 : Hid (Below w2.heap.size w2 w3) := HBR.out.trans (hb3.mono HBR.out.size)
        have hsA := str_bytes c3 hby3
        have hsB := str_bytes c (bytes_kept HBT.out (HB2.out.trans (HB3.out.mono HB2.out.size)) (Nat.le_refl _))
        have CS := sorted_any ao' L c' l w3 (HE2.out.below hb3 (Nat.le_refl _)) (by omega)
        have hso : sortedB l = true := by have := HIB.out.1; unfold fitB at this; simp only [Bool.and_eq_true] at this; exact this.2
        rw [hso] at CS
        have HCS2 : Hid _ := CS
        clear CS hso hown3 hb3 hby3
        go_wp2_with fail
        refine Calls.mono HCS2.out ?_
        rintro e w4 ⟨rfl, hb4⟩
        have HB4 : Hid (Below w.heap.size w w4) := HB2.out.trans ((HB3.out.trans (hb4.mono HB3.out.size)).mono HB2.out.size)
        clear hb4
        go_wp2
        go_ret
        exact ⟨rfl, HB4.out⟩
end Go.Proofs.Yteemfhhhdhddhaa

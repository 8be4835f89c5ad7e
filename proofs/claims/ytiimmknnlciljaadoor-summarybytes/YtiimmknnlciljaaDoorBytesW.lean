/-
  A list is right, or not, and has its bytes and digest: what the law SummaryBytes answers, for any arguments.
-/
import Derived.Test.YtiimmknnlciljaaDoorSuRd
import Derived.Test.YtiimmknnlciljaaDoorSuE
import Derived.Test.YtiimmknnlciljaaDoorAloneW
namespace Go.Proofs.YtiimmknnlciljaaDoor
open Go.RowKit Go.Sort Go.Shelf
set_option linter.unusedSectionVars false
variable [Inhabited E] [DecidableEq E]
theorem yb_bytes {r : Bool} {B : Nat} {w : World} {v : Value} {bs : List UInt8} (h : YB r B w v bs) : ∃ a n c, v = .slice a n c ∧ Bytes w a n (if r then bs else []) := by
  cases r with
  | true =>
    obtain ⟨a, c, rfl, hb, -⟩ := own_bytes (h.1 rfl)
    exact ⟨a, _, c, rfl, hb⟩
  | false =>
    obtain rfl := h.2 rfl
    exact ⟨none, 0, 0, rfl, bytes_nil w⟩
set_option maxRecDepth 100000 in
set_option maxHeartbeats 16000000 in
theorem bytes_walk (ao : Option Addr) (n c : Nat) (ts : List Tb) (z : Int) (w : World) (hT : TabsV w ao n ts) (hS : SmallT ts) (hnc : n ≤ c) (hc : c ≤ 9223372036854775807) (_ho : ao = none → c = 0) (hz : -9223372036854775808 ≤ z ∧ z ≤ 9223372036854775807) (hK : Sm.WW w 0 Sm.ks) (hz0 : 0 < w.heap.size) :
    Calls Tryd.prog 3 #[.slice ao n c, .int .i64 z] w fun e w' => e = .returned (.bool true) ∧ Below w.heap.size w w' := by
  have HK : Hid (∀ W, Below w.heap.size w W → Sm.WW W 0 Sm.ks ∧ 0 < W.heap.size) := fun W hW => ⟨hK.below hW hz0, by have := hW.size; omega⟩
  have HZ : Hid (-9223372036854775808 ≤ z ∧ z ≤ 9223372036854775807) := hz
  have C1 : Hid _ := shown_any w hK hz0
  have CF : Hid (∀ W, Below w.heap.size w W → Calls Tryd.prog 12 #[.slice ao n c, .int .i64 60] W fun e w' => ∃ v', e = .returned v' ∧ w'.ownsRow W.heap.size 51 36 v' (fewT 60 ts).length (flatT (fewT 60 ts)) ∧ Below W.heap.size W w') := fun W hW => few_any ao n c 60 ts W (hT.below hW (Nat.le_refl _)) hS (by omega) (by omega)
  obtain ⟨L, HL⟩ : ∃ L, Hid (fewT 60 ts = L) := ⟨_, rfl⟩
  have HSM : Hid (SmallT L ∧ L.length ≤ 60) := by
    show _ ∧ _
    rw [← HL.out]
    exact ⟨fewT_small 60 ts, by rw [fewT_len]; omega⟩
  rw [HL.out] at CF
  clear hT hS hnc hc hz hK hz0 HL
  go_enter Tryd.func3, Tryd.ntmps3
  go_wp2_with fail
  refine Calls.mono C1.out ?_
  rintro e w1 ⟨rfl, hb1⟩
  have HB1 : Hid (Below w.heap.size w w1) := hb1
  clear hb1 C1
  go_wp2_with fail
  refine (CF.out w1 HB1.out).mono ?_
  rintro e w2 ⟨v2, rfl, hown2, hb2⟩
  obtain ⟨a2, c2, rfl, hT2, hn2, -, -, -⟩ := own_tabsV hown2
  have HB2 : Hid (Below w.heap.size w w2) := HB1.out.trans (hb2.mono HB1.out.size)
  obtain ⟨n2, HN2⟩ : ∃ n, Hid (L.length = n) := ⟨_, rfl⟩
  rw [HN2.out] at hT2 ⊢
  have hn60 : n2 ≤ 60 := by rw [← HN2.out]; exact HSM.out.2
  have HT2 : Hid (TabsV w2 a2 n2 L) := hT2
  have HC2 : Hid (a2 = none → c2 = 0) := hn2
  clear hown2 hT2 hn2 hb2 CF
  go_wp2_with (at_builtin; refine wpList_append_tabs _ rfl (.tmp 19) (.tmp 20) rfl w2.heap.size _ 0 [] rfl (own_emptyT w2) (by simp) a2 n2 c2 L rfl (HT2.out.keep (bel_alloc w2 _)) HC2.out (by omega) ?_)
  intro v3 w3 hown3 hb3
  obtain ⟨a3, c3, rfl, hT3, -, -, -, -⟩ := own_tabsV hown3
  have HB3 : Hid (Below w2.heap.size w2 w3) := (bel_alloc w2 _).trans hb3
  rw [HN2.out] at hT3 ⊢
  have HT3 : Hid (TabsV w3 a3 n2 L) := hT3
  have HT3L : Hid (TabsV w3 a2 n2 L) := HT2.out.keep HB3.out
  have HW3 : Hid (Below w.heap.size w w3) := HB2.out.trans (HB3.out.mono HB2.out.size)
  clear hown3 hT3 hb3 HT2 HB3
  obtain ⟨r, HR⟩ : ∃ r, Hid (rightTB L = r) := ⟨_, rfl⟩
  obtain ⟨er, HER⟩ : ∃ er : Int, Hid ((if r then (0 : Int) else 1) = er) := ⟨_, rfl⟩
  obtain ⟨D, HD⟩ : ∃ D, Hid (digB z L = D) := ⟨_, rfl⟩
  have HDL : Hid (D.length = 32) := by show _ = _; rw [← HD.out]; exact digB_len z L
  obtain ⟨bs, HBS⟩ : ∃ b : List UInt8, Hid ((if r then sumB L else []) = b) := ⟨_, rfl⟩
  have HSR : Hid ((if r then mkS (sumB L) else ByteArray.empty) = mkS bs) := by
    show _ = _; rw [← HBS.out]; cases r <;> rfl
  have hle : n2 ≤ 9223372036854775807 := by omega
  have K1 : Hid _ := bytes14_any a3 n2 c3 L w3 HT3.out HSM.out.1 hle
  have K2 : Hid (∀ W, Below w3.heap.size w3 W → Calls Tryd.prog 14 #[.slice a2 n2 c2] W fun e w' => e = .returned (.tuple #[.string (mkS bs), .int .i64 er]) ∧ Below W.heap.size W w') := fun W hW => by
    have h := refBytes14_any a2 n2 c2 L W (HT3L.out.keep hW) HSM.out.1 hle
    rw [HR.out, HER.out, HSR.out] at h; exact h
  have K3 : Hid (∀ W, Below w3.heap.size w3 W → Calls Tryd.prog 15 #[.int .i64 z, .slice a3 n2 c3] W fun e w' => e = .returned (.tuple #[.agg (cellsOf D).toArray, .int .i64 er]) ∧ Below W.heap.size W w') := fun W hW => by
    have hw := HW3.out.trans (hW.mono HW3.out.size)
    have h := digest14_any z a3 n2 c3 L W (HT3.out.keep hW) HSM.out.1 hle (HK.out W hw).1 (HK.out W hw).2 HZ.out
    rw [HR.out, HER.out, HD.out] at h; exact h
  have K4 : Hid (∀ W, Below w3.heap.size w3 W → Calls Tryd.prog 16 #[.int .i64 z, .slice a2 n2 c2] W fun e w' => e = .returned (.tuple #[.agg (cellsOf D).toArray, .int .i64 er]) ∧ Below W.heap.size W w') := fun W hW => by
    have h := refDigest14_any z a2 n2 c2 L W (HT3L.out.keep hW) HSM.out.1 hn60 HZ.out
    rw [HR.out, HER.out, HD.out] at h; exact h
  have K5 : Hid (∀ W, Below w3.heap.size w3 W → Calls Tryd.prog 17 #[.slice a3 n2 c3, .slice a2 n2 c2] W fun e w' => e = .returned (.bool true) ∧ Below W.heap.size W w') := fun W hW => by
    have h := sameT_any a3 n2 c3 L a2 n2 c2 L W (HT3.out.keep hW) (HT3L.out.keep hW) (by omega) (by omega)
    rw [sameTB_yes rfl] at h; exact h
  have K6 : Hid (∀ W, Below w3.heap.size w3 W → Calls Tryd.prog 18 #[.slice a3 n2 c3] W fun e w' => e = .returned (.bool r) ∧ Below W.heap.size W w') := fun W hW => by
    have h := right14_any a3 n2 c3 L W (HT3.out.keep hW) HSM.out.1 hle
    rw [HR.out] at h; exact h
  have K7 : Hid (∀ W, Below w3.heap.size w3 W → Calls Tryd.prog 19 #[.slice a2 n2 c2] W fun e w' => e = .returned (.bool r) ∧ Below W.heap.size W w') := fun W hW => by
    have h := refRight14_any a2 n2 c2 L W (HT3L.out.keep hW) HSM.out.1 hle
    rw [HR.out] at h; exact h
  rw [HR.out, HER.out] at K1
  clear hn60 hle
  go_wp2_with fail
  refine Calls.mono K1.out ?_
  rintro e w4 ⟨v4, rfl, hyb, hb4⟩
  obtain ⟨a4, n4, c4, rfl, hby4⟩ := yb_bytes hyb
  rw [HBS.out] at hby4
  have HBY : Hid (Bytes w4 a4 n4 bs) := hby4
  have HB4 : Hid (Below w3.heap.size w3 w4) := hb4
  clear hyb hby4 hb4 K1
  go_wp2_with fail
  refine (K2.out _ HB4.out).mono ?_
  rintro e w5 ⟨rfl, hb5⟩
  have HB5 : Hid (Below w3.heap.size w3 w5 ∧ Below w4.heap.size w4 w5) := ⟨HB4.out.trans (hb5.mono HB4.out.size), hb5⟩
  clear hb5 K2
  go_wp2_with fail
  refine (K3.out _ HB5.out.1).mono ?_
  rintro e w6 ⟨rfl, hb6⟩
  have HB6 : Hid (Below w3.heap.size w3 w6 ∧ Below w4.heap.size w4 w6) := ⟨HB5.out.1.trans (hb6.mono HB5.out.1.size), HB5.out.2.trans (hb6.mono HB5.out.2.size)⟩
  clear hb6 K3
  go_wp2_with (refine wpList_store_dig _ rfl (.tmp 11) (.tmp 36) rfl w6.heap.size rfl D HDL.out rfl _ (heap_alloc_new w6 _) rfl ?_)
  intro w7 hd7 hc7
  have HB7 : Hid (Below w3.heap.size w3 w7 ∧ Below w4.heap.size w4 w7) := by
    have h3 : Below w6.heap.size w6 w7 := (bel_alloc w6 _).trans (hc7.below (Nat.le_refl _) (by simp))
    exact ⟨HB6.out.1.trans (h3.mono HB6.out.1.size), HB6.out.2.trans (h3.mono HB6.out.2.size)⟩
  have HD7 : Hid (w7.heap[w6.heap.size]? = some (.cells (cellsOf D).toArray 32 (0, 0))) := hd7
  clear hd7 hc7
  go_wp2_with fail
  refine (K4.out _ HB7.out.1).mono ?_
  rintro e w8 ⟨rfl, hb8⟩
  have HB8 : Hid (Below w3.heap.size w3 w8 ∧ Below w4.heap.size w4 w8) := ⟨HB7.out.1.trans (hb8.mono HB7.out.1.size), HB7.out.2.trans (hb8.mono HB7.out.2.size)⟩
  have HD8 : Hid (w8.heap[w6.heap.size]? = some (.cells (cellsOf D).toArray 32 (0, 0))) := (hb8.block _ (Array.getElem?_eq_some_iff.1 HD7.out).1).trans HD7.out
  clear hb8 K4
  go_wp2_with (refine wpList_store_dig _ rfl (.tmp 13) (.tmp 42) rfl w8.heap.size rfl D HDL.out rfl _ (heap_alloc_new w8 _) rfl ?_)
  intro w9 hd9 hc9
  have h39 : Below w8.heap.size w8 w9 := (bel_alloc w8 _).trans (hc9.below (Nat.le_refl _) (by simp))
  have HB9 : Hid (Below w3.heap.size w3 w9 ∧ Below w4.heap.size w4 w9) := ⟨HB8.out.1.trans (h39.mono HB8.out.1.size), HB8.out.2.trans (h39.mono HB8.out.2.size)⟩
  have HE9 : Hid (w9.heap[w8.heap.size]? = some (.cells (cellsOf D).toArray 32 (0, 0))) := hd9
  have HD9 : Hid (w9.heap[w6.heap.size]? = some (.cells (cellsOf D).toArray 32 (0, 0))) := (h39.block _ (Array.getElem?_eq_some_iff.1 HD8.out).1).trans HD8.out
  clear hd9 hc9 h39
  go_wp2_with fail
  refine (K5.out _ HB9.out.1).mono ?_
  rintro e w10 ⟨rfl, hb10⟩
  have HB10 : Hid (Below w3.heap.size w3 w10 ∧ Below w4.heap.size w4 w10) := ⟨HB9.out.1.trans (hb10.mono HB9.out.1.size), HB9.out.2.trans (hb10.mono HB9.out.2.size)⟩
  have HE10 : Hid (w10.heap[w8.heap.size]? = some (.cells (cellsOf D).toArray 32 (0, 0))) := (hb10.block _ (Array.getElem?_eq_some_iff.1 HE9.out).1).trans HE9.out
  have HD10 : Hid (w10.heap[w6.heap.size]? = some (.cells (cellsOf D).toArray 32 (0, 0))) := (hb10.block _ (Array.getElem?_eq_some_iff.1 HD9.out).1).trans HD9.out
  have hcv : (convert 25 9 (.slice a4 n4 c4)).run Tryd.prog w10 = .ok (.string (mkS bs)) w10 := str_bytes c4 (bytes_kept HBY.out HB10.out.2 (Nat.le_refl _))
  have heq : ∀ w, (Op.equalIn 10000 32 (.agg (cellsOf D).toArray) (.agg (cellsOf D).toArray)).run Tryd.prog w = .ok true w := fun w => by
    have h := run_equalIn_bytes (P := Tryd.prog) w 9998 32 5 32 Tryd.underlying32 Tryd.underlying5 Sm.sizeOf5 D D HDL.out HDL.out
    rw [beq_self_eq_true] at h
    exact h
  have HIR : Hid ((Tryd.prog.info? 32).map (·.size) = some (cellsOf D).toArray.size) := dig_szA HDL.out
  obtain ⟨cr, HCR⟩ : ∃ c, Hid ((cellsOf D).toArray = c) := ⟨_, rfl⟩
  rw [HCR.out] at HE10 HD10 HIR heq
  have hsb : ((mkS bs).toList == (mkS bs).toList) = true := beq_self_eq_true _
  have hg32 := Sm.guard24
  generalize mkS bs = sb at hcv hsb
  clear hb10 K5 HBY HE9 HD9 HD8 HD7
  go_wp2_with (first | (refine Sm.wpList_load_rowG (by rfl) 32 (.tmp 11) rfl w6.heap.size rfl 32 cr (0, 0) _ HD10.out Tryd.underlying32 rfl HIR.out ?_) | (refine Sm.wpList_load_rowG (by rfl) 32 (.tmp 13) rfl w8.heap.size rfl 32 cr (0, 0) _ HE10.out Tryd.underlying32 rfl HIR.out ?_))
  refine (K6.out _ HB10.out.1).mono ?_
  rintro e w11 ⟨rfl, hb11⟩
  have HB11 : Hid (Below w3.heap.size w3 w11) := HB10.out.1.trans (hb11.mono HB10.out.1.size)
  clear hb11 K6
  go_wp2_with fail
  refine (K7.out _ HB11.out).mono ?_
  rintro e w12 ⟨rfl, hb12⟩
  have HB12 : Hid (Below w3.heap.size w3 w12) := HB11.out.trans (hb12.mono HB11.out.size)
  clear hb12 K7
  cases r with
  | false =>
    go_wp2
    go_ret
    exact ⟨rfl, HW3.out.trans (HB12.out.mono HW3.out.size)⟩
  | true =>
    go_wp2
    go_ret
    exact ⟨rfl, HW3.out.trans (HB12.out.mono HW3.out.size)⟩
end Go.Proofs.YtiimmknnlciljaaDoor

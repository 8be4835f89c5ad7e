/-
  There is one file of each list: what the law TableOnce answers, for any arguments.
-/
import Derived.Test.YtcgjhopfdpaocaaDoorTbS
namespace Go.Proofs.YtcgjhopfdpaocaaDoor
open Go.RowKit Go.Sort Go.Shelf
set_option linter.unusedSectionVars false
variable [Inhabited E] [DecidableEq E]
theorem bytes_lt {w : World} {ao : Option Addr} {n : Nat} {bs : List UInt8} (h : Bytes w ao n bs) (y : Addr) (hy : ao = some y) (hn : 0 < n) : y.block < w.heap.size := by
  obtain ⟨b, off, h1, h2⟩ := bytes_at h hn
  rw [hy] at h1
  cases h1
  obtain ⟨c, hc⟩ : ∃ c, bs[0]? = some c := ⟨bs[0]'(by have := h.1; omega), List.getElem?_eq_getElem _⟩
  obtain ⟨x, hx, hcell⟩ := h.2 0 c hc
  rw [hy] at hx
  cases hx
  have := World.block_lt_of_cell? w _ hcell
  simpa [Addr.add] using this
set_option maxRecDepth 100000 in
set_option maxHeartbeats 4000000 in
theorem onceT_walk (ao : Option Addr) (n c : Nat) (bs : List UInt8) (w : World) (hb : Bytes w ao n bs) (h0 : ao = none → c = 0) (hnc : n ≤ c) (hc : c ≤ 9223372036854775807) (hK : Sm.WW w 1 Sm.ks) (hz0 : 1 < w.heap.size) :
    Calls Tryd.prog 6 #[.slice ao n c] w fun e w' => e = .returned (.bool true) ∧ Below w.heap.size w w' := by
  go_enter Tryd.func6, Tryd.ntmps6
  go_wp2_with fail
  refine (shownT_any w hK hz0).mono ?_
  rintro e w1 ⟨rfl, hb1⟩
  obtain ⟨m, hm⟩ : ∃ m, m = min n 8000 := ⟨_, rfl⟩
  have hmz : min ((n : Nat) : Int) 8000 = (m : Int) := by omega
  have hmc : (m : Int) ≤ (c : Int) := by omega
  have HA : Hid (SV.at ⟨ao, m, c, bs.take m⟩ w1.heap.size w1) := ⟨bytes_take (bytes_kept hb hb1 (Nat.le_refl _)) m (by omega), ⟨h0, (by show m ≤ c; omega), hc⟩, fun y hy hp => Nat.lt_of_lt_of_le (bytes_lt hb y hy (by have : 0 < m := hp; omega)) hb1.size⟩
  have HCP : Hid _ := parseT_any ⟨ao, m, c, bs.take m⟩ w1 HA.out (by show m ≤ 1000000; omega)
  have HB1 : Hid (Below w.heap.size w w1) := hb1
  clear hb hm hK hz0 hb1 h0
  go_wp2_with fail
  refine Calls.mono HCP.out ?_
  rintro e w2 ⟨he, hb2⟩
  have HB2 : Hid (Below w1.heap.size w1 w2) := hb2
  clear hb2 HCP
  rcases he with ⟨rfl, hno⟩ | ⟨g, c2, l, rfl, hIF, hown⟩
  · clear hno
    go_wp2
    go_ret
    exact ⟨rfl, HB1.out.trans (HB2.out.mono HB1.out.size)⟩
  · have HIF : Hid (IsFile (bs.take m) l) := hIF
    obtain ⟨g', c', hv, hE, -, hgl, hnc2, -⟩ := own_shapeT hown (fit_len hIF.1).1
    injection hv with e1 e2 e3
    injection e1 with e1
    injection e1 with e1
    subst e1
    subst e3
    have hEV : EntsV w2 (some ⟨g, 0, none⟩) l.length l := ⟨rfl, fun _ => ⟨g, 0, rfl, hE⟩⟩
    have CB := tableBytes_some g 0 l.length c2 l w2 hEV hnc2 hIF.1 hgl
    have hfl := (fileB_len hIF.1).2
    rw [hIF.2.1] at CB hfl
    have HCB : Hid _ := CB
    have HEV : Hid (EntsV w2 (some ⟨g, 0, none⟩) l.length l) := hEV
    have hl64 := (fit_len hIF.1).2
    have HSM : Hid (Small l) := right_small (fit_all hIF.1)
    have HFT : Hid (fitB l = true) := hIF.1
    obtain ⟨L, HL⟩ : ∃ L, Hid (l.length = L) := ⟨_, rfl⟩
    simp only [HL.out]
    rw [HL.out] at HCB HEV hl64
    have hml := HA.out.1.1
    simp only at hml
    rw [hml] at HCB hfl
    clear hIF hown hE hgl hnc2 e2 hEV CB hml
    go_wp2_with fail
    refine Calls.mono HCB.out ?_
    rintro e w3 ⟨v3, rfl, hown3, hb3⟩
    obtain ⟨g3, c3, rfl, -, -, -, -⟩ := own_shape hown3 (by omega)
    have hby3 := own_row_bytes hown3
    have hcv1 : (convert 25 9 (.slice (some ⟨g3, 0, none⟩) m c3)).run Tryd.prog w3 = .ok (.string ⟨(bs.take m).toArray⟩) w3 := str_bytes c3 hby3
    have hcv2 : (convert 25 9 (.slice ao m c)).run Tryd.prog w3 = .ok (.string ⟨(bs.take m).toArray⟩) w3 := str_bytes c (bytes_kept (bytes_kept HA.out.1 HB2.out (Nat.le_refl _)) hb3 (Nat.le_refl _))
    obtain ⟨st, HST⟩ : ∃ s : ByteArray, Hid ((⟨(bs.take m).toArray⟩ : ByteArray) = s) := ⟨_, rfl⟩
    rw [HST.out] at hcv1 hcv2
    have CF := fitT_any (some ⟨g, 0, none⟩) L c2 l w3 (HEV.out.below hb3 (Nat.le_refl _)) HSM.out (by omega)
    rw [HFT.out] at CF
    have HCF : Hid _ := CF
    have HB3 : Hid (Below w.heap.size w w3) := HB1.out.trans ((HB2.out.trans (hb3.mono HB2.out.size)).mono HB1.out.size)
    clear hown3 hby3 hb3 CF HCB hfl
    go_wp2_with fail
    refine Calls.mono HCF.out ?_
    rintro e w4 ⟨rfl, hb4⟩
    have HB4 : Hid (Below w.heap.size w w4) := HB3.out.trans (hb4.mono HB3.out.size)
    clear hb4 hcv1 hcv2
    go_wp2
    go_ret
    exact ⟨rfl, HB4.out⟩
end Go.Proofs.YtcgjhopfdpaocaaDoor

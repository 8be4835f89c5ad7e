/-
  What tablesAt, slices.Min and slices.Max answer: contracts over this translation.
-/
import Derived.Test.YtnkbhojflcckmaaPkI
namespace Go.Proofs.Ytnkbhojflcckmaa
open Go.RowKit
set_option linter.unusedSectionVars false
/-- The tables at these places. -/
def tabsAt (ts : List Tb) (l : List Nat) : List Tb := l.map fun j => ts.getD j zT
theorem tabsAt_snoc (ts : List Tb) (l : List Nat) (i : Nat) (h : i < l.length) : tabsAt ts (l.take (i + 1)) = tabsAt ts (l.take i) ++ [ts.getD (l.getD i 0) zT] := by
  unfold tabsAt
  rw [List.take_succ_eq_append_getElem h, List.map_append, List.map_singleton]
  congr 3
  rw [List.getD_eq_getElem?_getD, List.getElem?_eq_getElem h]; rfl
set_option maxRecDepth 100000 in
set_option maxHeartbeats 8000000 in
theorem tablesAt_any (ao : Option Addr) (n c : Nat) (ts : List Tb) (bo : Option Addr) (m d : Nat) (l : List Nat) (w : World) (hE : TabsV w ao n ts) (hI : IntsV w bo m l) (hn : n ≤ 1000) (hm : m ≤ 1000) (hl : ∀ j ∈ l, j < n) :
    Calls Try.prog 21 #[.slice ao n c, .slice bo m d] w fun e w' => ∃ v, e = .returned v ∧ w'.ownsRow w.heap.size 32 36 v m (flatT (tabsAt ts l)) ∧ Below w.heap.size w w' := by
  have HE : Hid _ := hE
  have HI : Hid _ := hI
  have HLB : Hid _ := hl
  clear hE hI hl
  go_enter Try.func21, Try.ntmps21
  go_wp2
  go_loopw [5, 7, 10] (fun o _ x wr => ∃ i : Nat, x = .int .i64 i ∧ i ≤ m ∧ wr.ownsRow w.heap.size 32 36 o (tabsAt ts (l.take i)).length (flatT (tabsAt ts (l.take i))) ∧ Below w.heap.size w wr) (fun _ _ x _ => m - (intOf x).toNat)
  case atStart => exact ⟨0, rfl, by omega, World.ownsRow_nil _ _ _ _, Below.refl _ _⟩
  case round =>
    obtain ⟨i, rfl, hin, hown, hbel⟩ := hrel
    by_cases hlt : i < m
    · have hltz : (i : Int) < (m : Int) := by omega
      have hil : i < l.length := by have := HI.out.1; omega
      obtain ⟨k, HK⟩ : ∃ k, Hid (l.getD i 0 = k) := ⟨_, rfl⟩
      have hkn : k < n := by
        have h1 := HLB.out l[i] (List.getElem_mem hil)
        have h2 := HK.out
        rw [List.getD_eq_getElem?_getD, List.getElem?_eq_getElem hil] at h2
        simp only [Option.getD_some] at h2
        omega
      have hknz : (k : Int) < (n : Int) := by omega
      obtain ⟨bi, offi, hbo, hci⟩ := (IntsV.keep HI.out hbel).2 (by omega)
      have ci := hci i hlt
      rw [HK.out] at ci
      obtain ⟨b, off, hao, hEn⟩ := HE.out.2 (by omega)
      have hln := HE.out.1
      have HRX : Hid (wr.rangeAt b (off + k * 36) (encT (ts.getD k zT))) := tabs_range (hEn.below hbel (Nat.le_refl _)) k (by omega) rfl
      have HSU : Hid _ := tabsAt_snoc ts l i hil
      rw [HK.out] at HSU
      obtain ⟨x, HX⟩ : ∃ x, Hid (ts.getD k zT = x) := ⟨_, rfl⟩
      rw [HX.out] at HRX HSU
      obtain ⟨L, HLI⟩ : ∃ L, Hid (tabsAt ts (l.take i) = L) := ⟨_, rfl⟩
      have hl1000 : L.length ≤ 1000 := by rw [← HLI.out]; simp [tabsAt]; omega
      rw [HLI.out] at hown HSU
      have HOW : Hid _ := And.intro hown hbel
      subst hao hbo
      clear hEn hown hbel hln hci hil hkn
      have HO5 : Hid ((wr.alloc (.cells (encT x).toArray 32)).ownsRow w.heap.size 32 36 u5 L.length (flatT L)) := HOW.out.1.alloc _
      have HS5 : Hid (w.heap.size ≤ (wr.alloc (.cells (encT x).toArray 32)).heap.size) := by show _ ≤ _; have := HOW.out.2.size; simp; omega
      have HT5 : Hid (TabsV (wr.alloc (.cells (encT x).toArray 32)) (some ⟨wr.heap.size, 0, none⟩) 1 [x]) := tabsV_one wr x
      go_wp2_with (first | (refine wpList_load_mid rfl 32 (.tmp 17) rfl b (off + k * 36) rfl (encT x) _ HRX.out Try.underlying32 rfl (sizeT x) ?_) | (refine wpList_build_tab _ rfl (.tmp 18) rfl x rfl ?_) | (at_builtin; refine wpList_append_tabs _ rfl (.tmp 14) (.tmp 19) rfl w.heap.size _ L.length L rfl HO5.out HS5.out (some ⟨wr.heap.size, 0, none⟩) 1 1 [x] rfl HT5.out (fun h => by cases h) (by omega) ?_))
      intro v6 w6 hown6 hb6
      have HN : Hid _ := And.intro hown6 ((HOW.out.2.alloc HOW.out.2.size _).trans hb6)
      clear hown6 hb6
      go_wp2
      go_roundw
      case rel => exact ⟨i + 1, by go_num, by omega, by rw [HSU.out]; simpa using HN.out.1, HN.out.2⟩
      case measure => simp [intOf]; omega
    · have hltz : ¬ (i : Int) < (m : Int) := by omega
      obtain rfl : i = m := by omega
      have HO : Hid _ := And.intro hown hbel
      have HAL : Hid (l.take i = l ∧ (tabsAt ts l).length = i) := ⟨List.take_of_length_le (by have := HI.out.1; omega), by simp [tabsAt, HI.out.1]⟩
      clear hown hbel
      go_wp2
      go_ret
      exact ⟨u5, rfl, by have h1 := HO.out.1; rw [HAL.out.1, HAL.out.2] at h1; exact h1, HO.out.2⟩
/-! ### The least and the greatest string -/
def minS (a b : ByteArray) : ByteArray := if cmpS b a < 0 then b else a
def maxS (a b : ByteArray) : ByteArray := if cmpS a b < 0 then b else a
end Go.Proofs.Ytnkbhojflcckmaa

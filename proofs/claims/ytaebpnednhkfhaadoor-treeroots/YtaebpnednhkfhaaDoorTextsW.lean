/-
  What marlstoneref05.Texts and marlstonelaw05.still answer: contracts over this translation.
-/
import Derived.Test.YtaebpnednhkfhaaDoorRefA
import Derived.Test.YtaebpnednhkfhaaDoorPartV
namespace Go.Proofs.YtaebpnednhkfhaaDoor
open Go.RowKit
theorem info9 : (Tryd.prog.info? 9).map (fun i => (i.zero, i.size, i.bytes)) = some (some (.string ⟨#[]⟩), 1, 16) := by kernel_rfl
/-- The texts of leaves. -/
def strs (ls : List LV) : List ByteArray := ls.map fun p => ⟨p.bs.toArray⟩
def strC (ss : List ByteArray) : List Value := ss.map .string
/-- A row of texts. -/
def StrV (w : World) (ao : Option Addr) (n c : Nat) (ss : List ByteArray) : Prop := ss.length = n ∧ n ≤ c ∧ c ≤ 9223372036854775807 ∧ (0 < n → ∃ b off, ao = some ⟨b, off, none⟩ ∧ ∀ i s, ss[i]? = some s → w.cell? ⟨b, off + i, none⟩ = some (.string s))
theorem StrV.below {w w' : World} {B n c : Nat} {ao : Option Addr} {ss : List ByteArray} (h : StrV w ao n c ss) (hb : Below B w w') (hB : w.heap.size ≤ B) : StrV w' ao n c ss :=
  ⟨h.1, h.2.1, h.2.2.1, fun hp => by obtain ⟨b, off, h1, h2⟩ := h.2.2.2 hp; exact ⟨b, off, h1, fun i s hs => bel_cell2 hb hB (h2 i s hs)⟩⟩
theorem StrV.take {w : World} {b off n c : Nat} {ss : List ByteArray} (h : StrV w (some ⟨b, off, none⟩) n c ss) (k : Nat) (hk : k ≤ n) : StrV w (some ⟨b, off, none⟩) k c (ss.take k) := by
  refine ⟨by rw [List.length_take, h.1]; omega, Nat.le_trans hk h.2.1, h.2.2.1, fun hp => ⟨b, off, rfl, ?_⟩⟩
  obtain ⟨b', off', h1, h2⟩ := h.2.2.2 (by omega)
  cases h1
  intro i s hs
  rw [List.getElem?_take] at hs
  split at hs
  · exact h2 i s hs
  · cases hs
theorem StrV.drop {w : World} {b off n c : Nat} {ss : List ByteArray} (h : StrV w (some ⟨b, off, none⟩) n c ss) (k : Nat) (hk : k < n) : StrV w (some ⟨b, off + k, none⟩) (n - k) (c - k) (ss.drop k) := by
  refine ⟨by rw [List.length_drop, h.1], by have := h.2.1; omega, by have := h.2.2.1; omega, fun hp => ⟨b, off + k, rfl, ?_⟩⟩
  obtain ⟨b', off', h1, h2⟩ := h.2.2.2 (by omega)
  cases h1
  intro i s hs
  rw [List.getElem?_drop] at hs
  rw [show off + k + i = off + (k + i) by omega]
  exact h2 _ s hs
theorem str_of_own {w : World} {base : Nat} {v : Value} {ss : List ByteArray} (h : w.ownsRow base 9 1 v ss.length (strC ss)) : ∃ ao c, v = .slice ao ss.length c ∧ StrV w ao ss.length c ss := by
  obtain ⟨hl, ⟨rfl, h0⟩ | ⟨g, cap, cur, rfl, hg, hh, hc, hm, hs, ht⟩⟩ := h
  · exact ⟨none, 0, by rw [h0], rfl, by omega, by omega, fun h => by omega⟩
  · refine ⟨some ⟨g, 0, none⟩, cap, rfl, rfl, hc, by unfold maxLen at hm; omega, fun _ => ⟨g, 0, rfl, fun i p hi => ?_⟩⟩
    rw [Nat.zero_add, cell_of_row w g i _ _ _ hh]
    have e : (cur.toList.take (ss.length * 1))[i]? = some (Value.string p) := by rw [ht, strC, List.getElem?_map, hi]; rfl
    rw [List.getElem?_take] at e
    split at e
    · simpa using e
    · cases e
theorem strs_len (ls : List LV) : (strs ls).length = ls.length := by unfold strs; simp
theorem strs_at {ls : List LV} {i : Nat} {p : LV} (h : ls[i]? = some p) : (strs ls)[i]? = some ⟨p.bs.toArray⟩ := by unfold strs; rw [List.getElem?_map, h]; rfl
set_option maxRecDepth 100000 in
set_option maxHeartbeats 4000000 in
theorem texts_any (ao : Option Addr) (n c : Nat) (ls : List LV) (w : World) (hL : LeavesV w ao n c ls) (hn : n ≤ 1000) :
    Calls Tryd.prog 22 #[.slice ao n c] w fun e w' => ∃ ao' c', e = .returned (.slice ao' n c') ∧ StrV w' ao' n c' (strs ls) ∧ Below w.heap.size w w' := by
  obtain ⟨i0, hi, hz0, hz1, hz2⟩ := info_parts info9
  have HI : Hid (Tryd.prog.info? 9 = some i0 ∧ i0.zero = some (.string ⟨#[]⟩) ∧ i0.size = 1 ∧ i0.bytes = 16) := ⟨hi, hz0, hz1, hz2⟩
  have HL : Hid (LeavesV w ao n c ls) := hL
  have HN : Hid (n ≤ 1000) := hn
  clear hL hn hi hz0 hz1 hz2
  go_enter Tryd.func22, Tryd.ntmps22
  go_wp2_with fail
  have HO0 : Hid ((w.alloc (.cells #[] 9)).ownsRow w.heap.size 9 1 (.slice (some ⟨w.heap.size, 0, none⟩) 0 0) 0 (strC [])) := World.ownsRow_made w #[] 0 (Nat.le_refl _) (by unfold maxLen; omega) rfl
  have HB0 : Hid (Below w.heap.size w (w.alloc (.cells #[] 9))) := bel_alloc _ _
  go_loopw [3, 4] (fun s3 s4 wr => ∃ (k : Nat), s4 = .int .i64 k ∧ k ≤ n ∧ Hid (wr.ownsRow w.heap.size 9 1 s3 k (strC ((strs ls).take k))) ∧ Hid (Below w.heap.size w wr)) (fun _ x _ => n - (intOf x).toNat)
  case atStart => exact ⟨0, rfl, Nat.zero_le _, HO0, HB0⟩
  case round =>
    obtain ⟨k, rfl, hk, HO, HBE⟩ := hrel
    by_cases hlt : k < n
    case neg =>
      have hkz : ¬ (k : Int) < (n : Int) := by omega
      have HSV : Hid (∃ ao c, u3 = .slice ao n c ∧ StrV wr ao n c (strs ls)) := by
        have h := HO.out
        have hl : (strs ls).length = n := by rw [strs_len]; exact HL.out.1
        rw [List.take_of_length_le (by rw [hl]; omega), show k = (strs ls).length by rw [hl]; omega] at h
        have h2 := str_of_own h
        rw [hl] at h2
        exact h2
      obtain ⟨ao', c', hv, hs⟩ := HSV.out
      obtain rfl := hv
      have HS : Hid (StrV wr ao' n c' (strs ls)) := hs
      clear hk hlt hs HSV
      go_wp2_with fail
      go_ret
      exact ⟨_, _, rfl, HS.out, HBE.out⟩
    case pos =>
      have hkz : (k : Int) < (n : Int) := by omega
      obtain ⟨b, off, rfl, hAt⟩ := HL.out.2.2.2 (by omega)
      obtain ⟨⟨pao, pn, pc, pb⟩, HP⟩ : ∃ p, Hid (ls[k]? = some p) := ⟨_, List.getElem?_eq_getElem (by have := HL.out.1; omega)⟩
      obtain ⟨c1, hby, -, -⟩ := (hAt.below HBE.out (Nat.le_refl _)) k _ HP.out
      have hstr := str_bytes pc hby
      obtain ⟨q, HQ⟩ : ∃ q : ByteArray, Hid ((⟨pb.toArray⟩ : ByteArray) = q) := ⟨_, rfl⟩
      dsimp only at hstr c1
      rw [HQ.out] at hstr
      have HC3 : Hid (∀ j u, [Value.string q][j]? = some u → (wr.alloc (.cells #[.string q] 9)).cell? ((⟨wr.heap.size, 0, none⟩ : Addr).add j) = some u) := fun j u hu => by
        rw [Addr.add_lit, cell_of_row _ _ _ _ _ _ (heap_alloc_new wr _)]
        simpa using hu
      have HO3 : Hid ((wr.alloc (.cells #[.string q] 9)).ownsRow w.heap.size 9 1 u3 k (strC ((strs ls).take k))) := own_below HO.out (bel_alloc wr _) (Nat.le_refl _)
      have HSZ3 : Hid (w.heap.size ≤ (wr.alloc (.cells #[.string q] 9)).heap.size) := Nat.le_trans HBE.out.size (bel_alloc wr _).size
      clear hby hAt hk
      go_wp2_with (at_builtin; refine wpList_append_own _ rfl (.tmp 12) (.tmp 18) 27 rfl w.heap.size 9 i0 _ 1 16 Tryd.underlying27 HI.out.1 HI.out.2.1 HI.out.2.2.1 HI.out.2.2.2 rfl (by decide) u3 k (strC ((strs ls).take k)) rfl HO3.out ⟨wr.heap.size, 0, none⟩ 1 1 [.string q] rfl rfl HC3.out (fun u hu => by rw [List.mem_singleton] at hu; rw [hu]; rfl) (by have := HN.out; unfold maxLen; omega) (by have := HN.out; omega) HSZ3.out ?_)
      intro v4 w4 hown4 hgr4 _
      have HO4 : Hid (w4.ownsRow w.heap.size 9 1 v4 (k + 1) (strC ((strs ls).take (k + 1)))) := by
        have e : strC ((strs ls).take (k + 1)) = strC ((strs ls).take k) ++ [.string q] := by
          rw [List.take_add_one, strs_at HP.out, ← HQ.out]; simp [strC]
        show World.ownsRow _ _ _ _ _ _ _
        rw [e]; exact hown4
      have HB4 : Hid (Below w.heap.size w w4) := (HBE.out.trans ((bel_alloc wr _).mono HBE.out.size)).trans ((Below.refl _ _).grown hgr4 HSZ3.out (fun k hk => (HO3.out.lt k hk).1))
      have hn1 := HN.out
      clear hown4 hgr4 hstr c1
      go_wp2_with fail
      refine ⟨⟨k + 1, rfl, by omega, HO4, HB4⟩, ?_⟩
      simp [intOf]
      omega
set_option maxRecDepth 100000 in
set_option maxHeartbeats 4000000 in
theorem still_any (ao : Option Addr) (n c : Nat) (ls : List LV) (ao2 : Option Addr) (c2 : Nat) (w : World) (hL : LeavesV w ao n c ls) (hS : StrV w ao2 n c2 (strs ls)) (hn : n ≤ 1000) :
    Calls Tryd.prog 32 #[.slice ao n c, .slice ao2 n c2] w fun e w' => e = .returned (.bool true) ∧ Below w.heap.size w w' := by
  have HL : Hid (LeavesV w ao n c ls) := hL
  have HT : Hid (StrV w ao2 n c2 (strs ls)) := hS
  have HN : Hid (n ≤ 1000) := hn
  clear hL hS hn
  go_enter Tryd.func32, Tryd.ntmps32
  go_wp2_with fail
  go_loopw [5] (fun s5 wr => ∃ (k : Nat), s5 = .int .i64 k ∧ k ≤ n ∧ Hid (Below w.heap.size w wr)) (fun x _ => n - (intOf x).toNat)
  case atStart => exact ⟨0, rfl, Nat.zero_le _, Below.refl _ _⟩
  case round =>
    obtain ⟨k, rfl, hk, HBE⟩ := hrel
    by_cases hlt : k < n
    case neg =>
      have hkz : ¬ (k : Int) < (n : Int) := by omega
      clear hk hlt
      go_wp2_with fail
      go_ret
      exact ⟨rfl, HBE.out⟩
    case pos =>
      have hkz : (k : Int) < (n : Int) := by omega
      obtain ⟨b, off, rfl, hAt⟩ := HL.out.2.2.2 (by omega)
      obtain ⟨b2, off2, rfl, hAt2⟩ := HT.out.2.2.2 (by omega)
      obtain ⟨⟨pao, pn, pc, pb⟩, HP⟩ : ∃ p, Hid (ls[k]? = some p) := ⟨_, List.getElem?_eq_getElem (by have := HL.out.1; omega)⟩
      obtain ⟨q, HQ⟩ : ∃ q : ByteArray, Hid ((⟨pb.toArray⟩ : ByteArray) = q) := ⟨_, rfl⟩
      have HS : Hid (∀ W, Below w.heap.size w W → W.cell? ⟨b, off + k, none⟩ = some (.slice pao pn pc) ∧ (convert 36 9 (.slice pao pn pc)).run Tryd.prog W = .ok (.string q) W ∧ W.cell? ⟨b2, off2 + k, none⟩ = some (.string q)) := fun W hW => by
        obtain ⟨c1, hby, -, -⟩ := (hAt.below hW (Nat.le_refl _)) k _ HP.out
        refine ⟨c1, by rw [← HQ.out]; exact str_bytes pc hby, bel_cell2 hW (Nat.le_refl _) (by rw [← HQ.out]; exact hAt2 k _ (strs_at HP.out))⟩
      clear hAt hAt2 hk
      go_upto_region 4 with fail
      refine wp_region_held_drew (S := fun W => W.cell? ⟨b, off + k, none⟩ = some (.slice pao pn pc) ∧ (convert 36 9 (.slice pao pn pc)).run Tryd.prog W = .ok (.string q) W ∧ W.cell? ⟨b2, off2 + k, none⟩ = some (.string q)) (by kernel_rfl) (HS.out _ (Below.drew HBE.out)) (fun hS => ?_)
      refine wpAnyH_take (i := 0) (v := ?_) rfl (by kernel_rfl) (by kernel_rfl) (by kernel_rfl) (fun _ _ _ h => h) (Or.inl ⟨by rfl, ?_⟩) (by assumption) ?_
      rotate_left
      · (intro w hSw; (try dsimp only at hSw); go_simp; try with_reducible rfl)
      simp only [Act.put, List.getElem_toArray, List.getElem_cons_zero, List.setIfInBounds_toArray, List.set_cons_zero, List.set_cons_succ]
      refine wpAnyH_take (i := 1) (v := ?_) rfl (by kernel_rfl) (by kernel_rfl) (by kernel_rfl) (fun _ _ _ h => h) (Or.inl ⟨by rfl, ?_⟩) (by assumption) ?_
      rotate_left
      · (intro w hSw; (try dsimp only at hSw); go_simp; try with_reducible rfl)
      simp only [Act.put, List.getElem_toArray, List.getElem_cons_zero, List.getElem_cons_succ, List.setIfInBounds_toArray, List.set_cons_zero, List.set_cons_succ]
      refine wpAnyH_take (i := 2) (v := ?_) rfl (by kernel_rfl) (by kernel_rfl) (by kernel_rfl) (fun _ _ _ h => h) (Or.inl ⟨by rfl, ?_⟩) (by assumption) ?_
      rotate_left
      · (intro w hSw; (try dsimp only at hSw); go_simp; try with_reducible rfl)
      simp only [Act.put, List.getElem_toArray, List.getElem_cons_zero, List.getElem_cons_succ, List.setIfInBounds_toArray, List.set_cons_zero, List.set_cons_succ]
      refine wpAnyH_take (i := 3) (v := ?_) rfl (by kernel_rfl) (by kernel_rfl) (by kernel_rfl) (fun _ _ _ h => h) (Or.inl ⟨by rfl, ?_⟩) (by assumption) ?_
      rotate_left
      · (intro w hSw; (try dsimp only at hSw); go_simp; try with_reducible rfl)
      simp only [Act.put, List.getElem_toArray, List.getElem_cons_zero, List.getElem_cons_succ, List.setIfInBounds_toArray, List.set_cons_zero, List.set_cons_succ]
      refine wpAnyH_take (i := 4) (v := ?_) rfl (by kernel_rfl) (by kernel_rfl) (by kernel_rfl) (fun _ _ _ h => h) (Or.inl ⟨by rfl, ?_⟩) (by assumption) ?_
      rotate_left
      · (intro w hSw; (try dsimp only at hSw); go_simp; try with_reducible rfl)
      simp only [Act.put, List.getElem_toArray, List.getElem_cons_zero, List.getElem_cons_succ, List.setIfInBounds_toArray, List.set_cons_zero, List.set_cons_succ]
      refine wpAnyH_take (i := 5) (v := ?_) rfl (by kernel_rfl) (by kernel_rfl) (by kernel_rfl) (fun _ _ _ h => h) (Or.inl ⟨by rfl, ?_⟩) (by assumption) ?_
      rotate_left
      · (intro w hSw; (try dsimp only at hSw); go_simp; try with_reducible rfl)
      simp only [Act.put, List.getElem_toArray, List.getElem_cons_zero, List.getElem_cons_succ, List.setIfInBounds_toArray, List.set_cons_zero, List.set_cons_succ]
      refine wpAnyH_take (i := 6) (v := ?_) rfl (by kernel_rfl) (by kernel_rfl) (by kernel_rfl) (fun _ _ _ h => h) (Or.inl ⟨by rfl, ?_⟩) (by assumption) ?_
      rotate_left
      · (intro w hSw; (try dsimp only at hSw); go_simp; try with_reducible rfl)
      simp only [Act.put, List.getElem_toArray, List.getElem_cons_zero, List.getElem_cons_succ, List.setIfInBounds_toArray, List.set_cons_zero, List.set_cons_succ]
      refine wpAnyH_take (i := 7) (v := ?_) rfl (by kernel_rfl) (by kernel_rfl) (by kernel_rfl) (fun _ _ _ h => h) (Or.inl ⟨by rfl, ?_⟩) (by assumption) ?_
      rotate_left
      · (intro w hSw; (try dsimp only at hSw); go_simp; try with_reducible rfl)
      simp only [Act.put, List.getElem_toArray, List.getElem_cons_zero, List.getElem_cons_succ, List.setIfInBounds_toArray, List.set_cons_zero, List.set_cons_succ]
      refine wpAnyH_take (i := 8) (v := ?_) rfl (by kernel_rfl) (by kernel_rfl) (by kernel_rfl) (fun _ _ _ h => h) (Or.inl ⟨by rfl, ?_⟩) (by assumption) ?_
      rotate_left
      · (intro w hSw; (try dsimp only at hSw); go_simp; try with_reducible rfl)
      simp only [Act.put, List.getElem_toArray, List.getElem_cons_zero, List.getElem_cons_succ, List.setIfInBounds_toArray, List.set_cons_zero, List.set_cons_succ]
      refine wpAnyH_take (i := 9) (v := ?_) rfl (by kernel_rfl) (by kernel_rfl) (by kernel_rfl) (fun _ _ _ h => h) (Or.inl ⟨by rfl, ?_⟩) (by assumption) ?_
      rotate_left
      · (intro w hSw; (try dsimp only at hSw); go_simp; try with_reducible rfl)
      simp only [Act.put, List.getElem_toArray, List.getElem_cons_zero, List.getElem_cons_succ, List.setIfInBounds_toArray, List.set_cons_zero, List.set_cons_succ]
      refine wpAnyH_done (by kernel_rfl) ?_ _
      clear hS
      have HBD : Hid (Below w.heap.size w wr.drew) := Below.drew HBE.out
      have hn1 := HN.out
      go_wp2_with fail
      refine ⟨⟨k + 1, rfl, by omega, HBD⟩, ?_⟩
      simp [intOf]
      omega
end Go.Proofs.YtaebpnednhkfhaaDoor

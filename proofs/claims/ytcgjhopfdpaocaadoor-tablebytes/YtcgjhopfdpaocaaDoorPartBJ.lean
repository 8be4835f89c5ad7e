/-
  What the document's Parse answers: a contract over this translation. What the document's Bytes answers: a contract over this translation.
-/
import Derived.Test.YtcgjhopfdpaocaaDoorPartAG
import Derived.Test.YtcgjhopfdpaocaaDoorPartAH
import Derived.Deep.DeepCutAuto
namespace Go.Proofs.YtcgjhopfdpaocaaDoor
open Go.RowKit Go.Sort Go.Shelf
set_option linter.unusedSectionVars false
variable [Inhabited E] [DecidableEq E]
theorem size_from (s : ByteArray) (c : Nat) : (s.extract c s.size).size ≤ s.size := by
  simp [ByteArray.size_extract]
theorem parseOf_cons (t : UInt8) (r : List UInt8) (ht : 1 < t.toNat) : parseOf (t :: r) = none := by
  simp [parseOf, readOf, ht]
theorem parseOf_get {t : UInt8} {r : List UInt8} {v n : Nat} (hg : getB r = (v, n, false)) : parseOf (t :: r) = none := by
  have : readOf (t :: r) = none := by simp [readOf, hg]
  simp [parseOf, this]
theorem wrap64_big {v : Nat} (h : v < 18446744073709551616) (h2 : 1099511627776 < v) : ¬ (1 ≤ wrap64 (v : Int) ∧ wrap64 (v : Int) ≤ 1099511627776) := by
  unfold wrap64; omega
theorem right_seq {e : E} (h : rightB e = true) : 1 ≤ e.seq ∧ e.seq ≤ 1099511627776 := by
  simp only [rightB, decide_eq_true_eq] at h
  exact ⟨h.2.2.2.2.1, h.2.2.2.2.2⟩
theorem parseOf_big {t : UInt8} {r : List UInt8} {v n : Nat} {ok : Bool} (hg : getB r = (v, n, ok)) (hv : v < 18446744073709551616) (h2 : 1099511627776 < v) : parseOf (t :: r) = none := by
  unfold parseOf
  cases h : readOf (t :: r) with
  | none => rfl
  | some xn =>
    obtain ⟨x, m⟩ := xn
    have hx : x.seq = wrap64 (v : Int) := by
      simp only [readOf, hg] at h
      split at h
      · cases h
      · split at h
        · cases h
        · split at h
          · cases h
          · split at h
            · cases h; rfl
            · split at h
              · cases h
              · cases h; rfl
    have : rightB x = false := by
      cases hr : rightB x with
      | false => rfl
      | true => exact absurd (hx ▸ right_seq hr) (wrap64_big hv h2)
    simp [this]
theorem parseOf_text {t : UInt8} {r : List UInt8} {v n : Nat} {ok : Bool} {k : List UInt8} {m : Nat} (hg : getB r = (v, n, ok)) (ht : textOf (r.drop n) = (k, m, false)) : parseOf (t :: r) = none := by
  have : readOf (t :: r) = none := by simp [readOf, hg, ht]
  simp [parseOf, this]
theorem textOf_short (l : List UInt8) : (textOf l).1.length ≤ l.length := by
  unfold textOf
  split
  · simp
  · simp only [List.length_take, List.length_drop]; omega
end Go.Proofs.YtcgjhopfdpaocaaDoor
namespace Go.Proofs.YtcgjhopfdpaocaaDoor
open Go.RowKit Go.Sort Go.Shelf
set_option linter.unusedSectionVars false
variable [Inhabited E] [DecidableEq E]
theorem strsize (l : List UInt8) : (⟨l.toArray⟩ : ByteArray).size = l.length := by simp [ByteArray.size]
set_option maxRecDepth 100000 in
set_option maxHeartbeats 4000000 in
theorem refBytes_any (k v : ByteArray) (d : Bool) (q : Int) (w : World) (hk : k.size ≤ 9223372036854775807) (hv : v.size ≤ 9223372036854775807) :
    Calls Tryd.prog 42 #[.agg #[.string k, .string v, .bool d, .int .i64 q]] w fun e w' => e = .returned (.string ⟨(bytesB ⟨k, v, d, q⟩).toArray⟩) ∧ Below w.heap.size w w' := by
  obtain ⟨r, HR⟩ : ∃ r, Hid (rightB ⟨k, v, d, q⟩ = r) := ⟨_, rfl⟩
  obtain ⟨out, HOUT⟩ : ∃ o, Hid ((⟨(bytesB ⟨k, v, d, q⟩).toArray⟩ : ByteArray) = o) := ⟨_, rfl⟩
  rw [HOUT.out]
  have CR := fun w => refRight_any k v d q w hk hv
  rw [HR.out] at CR
  have HC : Hid _ := CR
  clear CR
  go_enter Tryd.func42, Tryd.ntmps42
  go_wp2_with fail
  refine (HC.out _).mono ?_
  rintro e w1 ⟨rfl, hbel⟩
  have hblk : w1.heap[w.heap.size]? = some (Obj.cells #[.string k, .string v, .bool d, .int .i64 q] 51) := by rw [hbel.block _ (by simp), heap_alloc_get, if_pos rfl]
  have hB1 : Below w.heap.size w w1 := (bel_alloc w _).trans (hbel.mono (by simp))
  have hsz1 : w.heap.size < w1.heap.size := by have := hbel.size; simp at this; omega
  have b0 : w1.cell? ⟨w.heap.size, 0, none⟩ = some (.string k) := by rw [cell_of_row _ _ _ _ _ _ hblk]; rfl
  have b1 : w1.cell? ⟨w.heap.size, 1, none⟩ = some (.string v) := by rw [cell_of_row _ _ _ _ _ _ hblk]; rfl
  have b2 : w1.cell? ⟨w.heap.size, 2, none⟩ = some (.bool d) := by rw [cell_of_row _ _ _ _ _ _ hblk]; rfl
  have b3 : w1.cell? ⟨w.heap.size, 3, none⟩ = some (.int .i64 q) := by rw [cell_of_row _ _ _ _ _ _ hblk]; rfl
  clear hblk hbel HC
  have HB1 : Hid _ := hB1
  clear hB1
  cases r with
  | false =>
    have HN : Hid (out = ⟨#[]⟩) := by show _ = _; rw [← HOUT.out, bytesB, HR.out]; rfl
    clear HOUT
    go_wp2
    go_ret
    exact ⟨by rw [HN.out]; try rfl, HB1.out⟩
  | true =>
    obtain ⟨h1, h2, qn, h3, h4, h5⟩ := right_parts HR.out
    simp only at h1 h2 h3
    subst h3
    have hwr : IntKind.u64.wrap (qn : Int) = qn := by rw [IntKind.wrap_u64]; omega
    have HS : Hid (∀ W, Below w1.heap.size w1 W → W.cell? ⟨w.heap.size, 0, none⟩ = some (.string k) ∧ W.cell? ⟨w.heap.size, 1, none⟩ = some (.string v) ∧ W.cell? ⟨w.heap.size, 3, none⟩ = some (.int .i64 (qn : Int))) := by
      show ∀ _, _
      intro W hW
      exact ⟨bel_cell hW (Nat.le_refl _) b0, bel_cell hW (Nat.le_refl _) b1, bel_cell hW (Nat.le_refl _) b3⟩
    have h6 := putB_le qn
    have h7 := putB_le (strB k).length
    have h8 := strB_length k
    cases d with
    | true =>
      obtain ⟨q0, HQ0⟩ : ∃ s, Hid ((⟨[(1 : UInt8)].toArray⟩ : ByteArray) = s) := ⟨_, rfl⟩
      have HQB : Hid (strB q0 = [1]) := by show _ = _; rw [← HQ0.out, strB_mk]
      have hq0 : q0.size ≤ 1 := by rw [← HQ0.out]; exact Nat.le_refl _
      obtain ⟨s1, HS1⟩ : ∃ s, Hid ((⟨(strB q0 ++ putB qn).toArray⟩ : ByteArray) = s) := ⟨_, rfl⟩
      have hs1 : s1.size ≤ 20 := by rw [← HS1.out, strsize, HQB.out, List.length_append, List.length_singleton]; omega
      obtain ⟨s2, HS2⟩ : ∃ s, Hid ((⟨(strB s1 ++ textB (strB k)).toArray⟩ : ByteArray) = s) := ⟨_, rfl⟩
      have hs2 : s2.size ≤ 1000 := by rw [← HS2.out, strsize, List.length_append, strB_length, textB, List.length_append]; omega
      have HPUT : Hid (∀ W, Calls Tryd.prog 37 #[.string q0, .int .u64 (qn : Int)] W fun e w' => e = .returned (.string s1) ∧ Below W.heap.size W w') := by
        show ∀ _, _
        intro W
        rw [← HS1.out]
        exact refPut_any q0 qn W (by omega) (by omega)
      have HTX : Hid (∀ W, Calls Tryd.prog 38 #[.string s1, .string k] W fun e w' => e = .returned (.string s2) ∧ Below W.heap.size W w') := by
        show ∀ _, _
        intro W
        rw [← HS2.out]
        exact refPutText_any s1 k W (by omega) (by omega)
      have HOT : Hid (out = s2) := by show _ = _; rw [← HOUT.out, bytesB, HR.out, ← HS2.out, ← HS1.out, strB_mk, HQB.out]; rfl
      have hcv : (convert 25 9 (.slice (some ⟨w1.heap.size, 0, none⟩) 1 1)).run Tryd.prog (w1.alloc (.cells #[.int .u8 1] 5)).drew = .ok (.string q0) (w1.alloc (.cells #[.int .u8 1] 5)).drew := by
        have := str_bytes 1 (bytes_drew1 (bytes_one w1 1))
        rw [HQ0.out] at this
        exact this
      clear HOUT HR HS1 HS2 HQB HQ0 h6 h7 h8
      go_upto_region 5 with fail
      refine wp_region_noPanic ?_
      refine wp_region_held_drew (S := fun w' => w'.cell? ⟨w.heap.size, 0, none⟩ = some (.string k) ∧ w'.cell? ⟨w.heap.size, 1, none⟩ = some (.string v) ∧ w'.cell? ⟨w.heap.size, 3, none⟩ = some (.int .i64 (qn : Int))) (by kernel_rfl) (HS.out _ (Below.drew (Below.refl _ _))) (fun hHeld => ?_)
      refine wpAnyH_take (i := 2) (v := ?_) rfl (by kernel_rfl) (by kernel_rfl) (by kernel_rfl) (fun _ _ _ h => h) (Or.inl ⟨by rfl, ?_⟩) (by assumption) ?_
      rotate_left
      · (intro w hSw; (try dsimp only at hSw); go_simp; try with_reducible rfl)
      simp only [Act.put, List.getElem_toArray, List.getElem_cons_zero, List.getElem_cons_succ, List.setIfInBounds_toArray, List.set_cons_zero, List.set_cons_succ]
      refine wpAnyH_take (i := 3) (v := ?_) rfl (by kernel_rfl) (by kernel_rfl) (by kernel_rfl) (fun _ _ _ h => h) (Or.inl ⟨by rfl, ?_⟩) (by assumption) ?_
      rotate_left
      · (intro w hSw; (try dsimp only at hSw); go_simp; try with_reducible rfl)
      simp only [Act.put, List.getElem_toArray, List.getElem_cons_zero, List.getElem_cons_succ, List.setIfInBounds_toArray, List.set_cons_zero, List.set_cons_succ]
      refine wpAnyH_take (i := 4) (v := ?_) rfl (by kernel_rfl) (by kernel_rfl) (by kernel_rfl) (fun _ _ _ h => h) (Or.inl ⟨by rfl, ?_⟩) (by assumption) ?_
      rotate_left
      · (intro w hSw; (try dsimp only at hSw); go_simp; try with_reducible rfl)
      simp only [Act.put, List.getElem_toArray, List.getElem_cons_zero, List.getElem_cons_succ, List.setIfInBounds_toArray, List.set_cons_zero, List.set_cons_succ]
      refine wpAnyH_take (i := 6) (v := ?_) rfl (by kernel_rfl) (by kernel_rfl) (by kernel_rfl) (fun _ _ _ h => h) (Or.inl ⟨by rfl, ?_⟩) (by assumption) ?_
      rotate_left
      · (intro w hSw; (try dsimp only at hSw); go_simp; try with_reducible rfl)
      simp only [Act.put, List.getElem_toArray, List.getElem_cons_zero, List.getElem_cons_succ, List.setIfInBounds_toArray, List.set_cons_zero, List.set_cons_succ]
      refine wpAnyH_take (i := 7) (v := ?_) rfl (by kernel_rfl) (by kernel_rfl) (by kernel_rfl) (fun _ _ _ h => h) (Or.inl ⟨by rfl, ?_⟩) (by assumption) ?_
      rotate_left
      · (intro w hSw; (try dsimp only at hSw); go_simp; try with_reducible rfl)
      simp only [Act.put, List.getElem_toArray, List.getElem_cons_zero, List.getElem_cons_succ, List.setIfInBounds_toArray, List.set_cons_zero, List.set_cons_succ]
      refine wpAnyH_ready (rs := [0]) (by kernel_rfl) (by simp) ?_
      refine AllReadyH.cons rfl (fun K hK => ?_) ?_
      rotate_left
      · exact AllReadyH.nil
      go_simp
      refine hK.out _ _ (HS.out _ (Below.drew (bel_alloc w1 _))) (fun hHeld2 => ?_)
      clear hK K
      refine wpAnyH_ready (rs := [1]) (by kernel_rfl) (by simp) ?_
      refine AllReadyH.cons rfl (fun K hK => ?_) ?_
      rotate_left
      · exact AllReadyH.nil
      go_simp
      refine hK.out _ _ (HS.out _ (Below.drew (bel_alloc w1 _))) (fun hHeld2 => ?_)
      clear hK K
      refine wpAnyH_ready (rs := [5]) (by kernel_rfl) (by simp) ?_
      refine AllReadyH.cons rfl (fun K hK => ?_) ?_
      rotate_left
      · exact AllReadyH.nil
      go_simp
      refine (HPUT.out _).mono ?_
      rintro e w5 ⟨rfl, hb5⟩
      have hB5 : Below w1.heap.size w1 w5 := (Below.drew (bel_alloc w1 (.cells #[.int .u8 1] 5))).trans (hb5.mono (Below.drew (bel_alloc w1 (.cells #[.int .u8 1] 5))).size)
      clear hb5
      go_wp2_with fail
      refine hK.out _ _ (HS.out _ hB5) (fun hHeld2 => ?_)
      clear hK K
      refine wpAnyH_ready (rs := [8]) (by kernel_rfl) (by simp) ?_
      refine AllReadyH.cons rfl (fun K hK => ?_) ?_
      rotate_left
      · exact AllReadyH.nil
      go_simp
      refine (HTX.out _).mono ?_
      rintro e w8 ⟨rfl, hb8⟩
      have hB8 : Below w1.heap.size w1 w8 := (hB5).trans (hb8.mono (hB5).size)
      clear hb8
      go_wp2_with fail
      refine hK.out _ _ (HS.out _ hB8) (fun hHeld2 => ?_)
      clear hK K
      refine wpAnyH_take (i := 9) (v := ?_) rfl (by kernel_rfl) (by kernel_rfl) (by kernel_rfl) (fun _ _ _ h => h) (Or.inl ⟨by rfl, ?_⟩) (by assumption) ?_
      rotate_left
      · (intro w hSw; (try dsimp only at hSw); go_simp; try with_reducible rfl)
      simp only [Act.put, List.getElem_toArray, List.getElem_cons_zero, List.getElem_cons_succ, List.setIfInBounds_toArray, List.set_cons_zero, List.set_cons_succ]
      refine wpAnyH_done (by kernel_rfl) ?_ _
      refine NoPanic.normal ?_
      have HZ : Hid (Below w.heap.size w w8) := HB1.out.trans (hB8.mono (Nat.le_of_lt hsz1))
      clear hB5 hB8 hHeld HPUT HTX
      go_wp2
      go_ret
      exact ⟨by rw [HOT.out]; rfl, HZ.out⟩
    | false =>
      obtain ⟨q0, HQ0⟩ : ∃ s, Hid ((⟨[(0 : UInt8)].toArray⟩ : ByteArray) = s) := ⟨_, rfl⟩
      have HQB : Hid (strB q0 = [0]) := by show _ = _; rw [← HQ0.out, strB_mk]
      have hq0 : q0.size ≤ 1 := by rw [← HQ0.out]; exact Nat.le_refl _
      obtain ⟨s1, HS1⟩ : ∃ s, Hid ((⟨(strB q0 ++ putB qn).toArray⟩ : ByteArray) = s) := ⟨_, rfl⟩
      have hs1 : s1.size ≤ 20 := by rw [← HS1.out, strsize, HQB.out, List.length_append, List.length_singleton]; omega
      obtain ⟨s2, HS2⟩ : ∃ s, Hid ((⟨(strB s1 ++ textB (strB k)).toArray⟩ : ByteArray) = s) := ⟨_, rfl⟩
      have hs2 : s2.size ≤ 1000 := by rw [← HS2.out, strsize, List.length_append, strB_length, textB, List.length_append]; omega
      have HPUT : Hid (∀ W, Calls Tryd.prog 37 #[.string q0, .int .u64 (qn : Int)] W fun e w' => e = .returned (.string s1) ∧ Below W.heap.size W w') := by
        show ∀ _, _
        intro W
        rw [← HS1.out]
        exact refPut_any q0 qn W (by omega) (by omega)
      have HTX : Hid (∀ W, Calls Tryd.prog 38 #[.string s1, .string k] W fun e w' => e = .returned (.string s2) ∧ Below W.heap.size W w') := by
        show ∀ _, _
        intro W
        rw [← HS2.out]
        exact refPutText_any s1 k W (by omega) (by omega)
      obtain ⟨s3, HS3⟩ : ∃ s, Hid ((⟨(strB s2 ++ textB (strB v)).toArray⟩ : ByteArray) = s) := ⟨_, rfl⟩
      have HTV : Hid (∀ W, Calls Tryd.prog 38 #[.string s2, .string v] W fun e w' => e = .returned (.string s3) ∧ Below W.heap.size W w') := by
        show ∀ _, _
        intro W
        rw [← HS3.out]
        exact refPutText_any s2 v W (by omega) (by omega)
      have HOT : Hid (out = s3) := by show _ = _; rw [← HOUT.out, bytesB, HR.out, ← HS3.out, ← HS2.out, ← HS1.out, strB_mk, strB_mk, HQB.out]; rfl
      have hcv : (convert 25 9 (.slice (some ⟨w1.heap.size, 0, none⟩) 1 1)).run Tryd.prog (w1.alloc (.cells #[.int .u8 0] 5)).drew = .ok (.string q0) (w1.alloc (.cells #[.int .u8 0] 5)).drew := by
        have := str_bytes 1 (bytes_drew1 (bytes_one w1 0))
        rw [HQ0.out] at this
        exact this
      clear HOUT HR HS1 HS2 HQB HQ0 h6 h7 h8 HS3
      go_upto_region 6 with fail
      refine wp_region_noPanic ?_
      refine wp_region_held_drew (S := fun w' => w'.cell? ⟨w.heap.size, 0, none⟩ = some (.string k) ∧ w'.cell? ⟨w.heap.size, 1, none⟩ = some (.string v) ∧ w'.cell? ⟨w.heap.size, 3, none⟩ = some (.int .i64 (qn : Int))) (by kernel_rfl) (HS.out _ (Below.drew (Below.refl _ _))) (fun hHeld => ?_)
      refine wpAnyH_take (i := 2) (v := ?_) rfl (by kernel_rfl) (by kernel_rfl) (by kernel_rfl) (fun _ _ _ h => h) (Or.inl ⟨by rfl, ?_⟩) (by assumption) ?_
      rotate_left
      · (intro w hSw; (try dsimp only at hSw); go_simp; try with_reducible rfl)
      simp only [Act.put, List.getElem_toArray, List.getElem_cons_zero, List.getElem_cons_succ, List.setIfInBounds_toArray, List.set_cons_zero, List.set_cons_succ]
      refine wpAnyH_take (i := 3) (v := ?_) rfl (by kernel_rfl) (by kernel_rfl) (by kernel_rfl) (fun _ _ _ h => h) (Or.inl ⟨by rfl, ?_⟩) (by assumption) ?_
      rotate_left
      · (intro w hSw; (try dsimp only at hSw); go_simp; try with_reducible rfl)
      simp only [Act.put, List.getElem_toArray, List.getElem_cons_zero, List.getElem_cons_succ, List.setIfInBounds_toArray, List.set_cons_zero, List.set_cons_succ]
      refine wpAnyH_take (i := 4) (v := ?_) rfl (by kernel_rfl) (by kernel_rfl) (by kernel_rfl) (fun _ _ _ h => h) (Or.inl ⟨by rfl, ?_⟩) (by assumption) ?_
      rotate_left
      · (intro w hSw; (try dsimp only at hSw); go_simp; try with_reducible rfl)
      simp only [Act.put, List.getElem_toArray, List.getElem_cons_zero, List.getElem_cons_succ, List.setIfInBounds_toArray, List.set_cons_zero, List.set_cons_succ]
      refine wpAnyH_take (i := 6) (v := ?_) rfl (by kernel_rfl) (by kernel_rfl) (by kernel_rfl) (fun _ _ _ h => h) (Or.inl ⟨by rfl, ?_⟩) (by assumption) ?_
      rotate_left
      · (intro w hSw; (try dsimp only at hSw); go_simp; try with_reducible rfl)
      simp only [Act.put, List.getElem_toArray, List.getElem_cons_zero, List.getElem_cons_succ, List.setIfInBounds_toArray, List.set_cons_zero, List.set_cons_succ]
      refine wpAnyH_take (i := 7) (v := ?_) rfl (by kernel_rfl) (by kernel_rfl) (by kernel_rfl) (fun _ _ _ h => h) (Or.inl ⟨by rfl, ?_⟩) (by assumption) ?_
      rotate_left
      · (intro w hSw; (try dsimp only at hSw); go_simp; try with_reducible rfl)
      simp only [Act.put, List.getElem_toArray, List.getElem_cons_zero, List.getElem_cons_succ, List.setIfInBounds_toArray, List.set_cons_zero, List.set_cons_succ]
      refine wpAnyH_take (i := 9) (v := ?_) rfl (by kernel_rfl) (by kernel_rfl) (by kernel_rfl) (fun _ _ _ h => h) (Or.inl ⟨by rfl, ?_⟩) (by assumption) ?_
      rotate_left
      · (intro w hSw; (try dsimp only at hSw); go_simp; try with_reducible rfl)
      simp only [Act.put, List.getElem_toArray, List.getElem_cons_zero, List.getElem_cons_succ, List.setIfInBounds_toArray, List.set_cons_zero, List.set_cons_succ]
      refine wpAnyH_take (i := 10) (v := ?_) rfl (by kernel_rfl) (by kernel_rfl) (by kernel_rfl) (fun _ _ _ h => h) (Or.inl ⟨by rfl, ?_⟩) (by assumption) ?_
      rotate_left
      · (intro w hSw; (try dsimp only at hSw); go_simp; try with_reducible rfl)
      simp only [Act.put, List.getElem_toArray, List.getElem_cons_zero, List.getElem_cons_succ, List.setIfInBounds_toArray, List.set_cons_zero, List.set_cons_succ]
      refine wpAnyH_ready (rs := [0]) (by kernel_rfl) (by simp) ?_
      refine AllReadyH.cons rfl (fun K hK => ?_) ?_
      rotate_left
      · exact AllReadyH.nil
      go_simp
      refine hK.out _ _ (HS.out _ (Below.drew (bel_alloc w1 _))) (fun hHeld2 => ?_)
      clear hK K
      refine wpAnyH_ready (rs := [1]) (by kernel_rfl) (by simp) ?_
      refine AllReadyH.cons rfl (fun K hK => ?_) ?_
      rotate_left
      · exact AllReadyH.nil
      go_simp
      refine hK.out _ _ (HS.out _ (Below.drew (bel_alloc w1 _))) (fun hHeld2 => ?_)
      clear hK K
      refine wpAnyH_ready (rs := [5]) (by kernel_rfl) (by simp) ?_
      refine AllReadyH.cons rfl (fun K hK => ?_) ?_
      rotate_left
      · exact AllReadyH.nil
      go_simp
      refine (HPUT.out _).mono ?_
      rintro e w5 ⟨rfl, hb5⟩
      have hB5 : Below w1.heap.size w1 w5 := (Below.drew (bel_alloc w1 (.cells #[.int .u8 0] 5))).trans (hb5.mono (Below.drew (bel_alloc w1 (.cells #[.int .u8 0] 5))).size)
      clear hb5
      go_wp2_with fail
      refine hK.out _ _ (HS.out _ hB5) (fun hHeld2 => ?_)
      clear hK K
      refine wpAnyH_ready (rs := [8]) (by kernel_rfl) (by simp) ?_
      refine AllReadyH.cons rfl (fun K hK => ?_) ?_
      rotate_left
      · exact AllReadyH.nil
      go_simp
      refine (HTX.out _).mono ?_
      rintro e w8 ⟨rfl, hb8⟩
      have hB8 : Below w1.heap.size w1 w8 := (hB5).trans (hb8.mono (hB5).size)
      clear hb8
      go_wp2_with fail
      refine hK.out _ _ (HS.out _ hB8) (fun hHeld2 => ?_)
      clear hK K
      refine wpAnyH_ready (rs := [11]) (by kernel_rfl) (by simp) ?_
      refine AllReadyH.cons rfl (fun K hK => ?_) ?_
      rotate_left
      · exact AllReadyH.nil
      go_simp
      refine (HTV.out _).mono ?_
      rintro e w11 ⟨rfl, hb11⟩
      have hB11 : Below w1.heap.size w1 w11 := (hB8).trans (hb11.mono (hB8).size)
      clear hb11
      go_wp2_with fail
      refine hK.out _ _ (HS.out _ hB11) (fun hHeld2 => ?_)
      clear hK K
      refine wpAnyH_take (i := 12) (v := ?_) rfl (by kernel_rfl) (by kernel_rfl) (by kernel_rfl) (fun _ _ _ h => h) (Or.inl ⟨by rfl, ?_⟩) (by assumption) ?_
      rotate_left
      · (intro w hSw; (try dsimp only at hSw); go_simp; try with_reducible rfl)
      simp only [Act.put, List.getElem_toArray, List.getElem_cons_zero, List.getElem_cons_succ, List.setIfInBounds_toArray, List.set_cons_zero, List.set_cons_succ]
      refine wpAnyH_done (by kernel_rfl) ?_ _
      refine NoPanic.normal ?_
      have HZ : Hid (Below w.heap.size w w11) := HB1.out.trans (hB11.mono (Nat.le_of_lt hsz1))
      clear hB5 hB8 hB11 hHeld HPUT HTX HTV
      go_wp2
      go_ret
      exact ⟨by rw [HOT.out]; rfl, HZ.out⟩
end Go.Proofs.YtcgjhopfdpaocaaDoor

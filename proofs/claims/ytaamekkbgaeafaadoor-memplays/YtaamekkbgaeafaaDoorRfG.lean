/-
  The document's Get.
-/
import Derived.Test.YtaamekkbgaeafaaDoorRfR
namespace Go.Proofs.YtaamekkbgaeafaaDoor
open Go.RowKit
set_option linter.unusedSectionVars false
set_option linter.unusedVariables false
variable [Inhabited E] [DecidableEq E]
set_option maxRecDepth 100000 in
set_option maxHeartbeats 4000000 in
theorem refGetM_any (own : Nat → Prop) (g N : Nat) (R : Rf) (key : ByteArray) (w : World) (h : RfAt own w g R N) (hN : N ≤ 1000) :
    Calls Tryd.prog 21 #[.pointer (some ⟨g, 0, none⟩), .string key] w fun e w' => e = .returned (.tuple #[.agg (encE (getV key (foldS R.l))).toArray, .bool (isIn key (foldS R.l))]) ∧ Below w.heap.size w w' := by
  obtain ⟨h1, h2⟩ := is_lk key (ks_foldS R.l)
  rw [lk_up key h.1.up] at h1 h2
  obtain ⟨x, HX⟩ : ∃ x, Hid (getV key (foldS R.l) = x) := ⟨_, rfl⟩
  obtain ⟨q9, HQ⟩ : ∃ q, Hid (isIn key (foldS R.l) = q) := ⟨_, rfl⟩
  rw [HX.out, HQ.out]
  have H1 : Hid (q9 = ((ofKey key R.l).getLast?).isSome) := by show _ = _; rw [← HQ.out]; exact h1
  have H2 : Hid (x = ((ofKey key R.l).getLast?).getD ⟨⟨#[]⟩, ⟨#[]⟩, false, 0⟩) := by show _ = _; rw [← HX.out]; exact h2
  have HLE : Hid (R.l.length ≤ 1000) := by show _ ≤ _; have := h.1.len; omega
  obtain ⟨W, hW⟩ : ∃ W, W = w.alloc (.cells #[.string ⟨#[]⟩, .string ⟨#[]⟩, .bool false, .int .i64 0] 29) := ⟨_, rfl⟩
  have hbW : Below w.heap.size w W := by rw [hW]; exact bel_alloc w _
  have e1 : W.heap[w.heap.size]? = some (.cells #[.string ⟨#[]⟩, .string ⟨#[]⟩, .bool false, .int .i64 0] 29) := by rw [hW]; exact heap_alloc_new w _
  obtain ⟨wf, v0, hM⟩ := h.grown hbW
  obtain ⟨ao, c, rfl, hEV, h0⟩ := hM.sl
  have c0 := hM.c0
  have HEV : Hid (EntsV W ao R.l.length R.l) := hEV
  obtain ⟨n, HNN⟩ : ∃ n, Hid (R.l.length = n) := ⟨_, rfl⟩
  rw [HNN.out] at c0 HLE
  rw [HNN.out] at HEV
  have hn1 : (n : Int) < 1001 := by have := HLE.out; omega
  obtain ⟨f0, f1, f2, f3⟩ := four_cells e1
  have z0 := fz_of e1 0
  have z1 := fz_of e1 1
  have z2 := fz_of e1 2
  have z3 := fz_of e1 3
  clear h1 h2 hM hEV h0 wf h HX HQ
  have c0L := c0
  rw [hW] at c0L
  go_enter Tryd.func21, Tryd.ntmps21
  go_wp2_with fail
  rw [← hW]
  clear c0L hW
  go_loopw [6] (fun x6 wr => ∃ m : Nat, x6 = .int .i64 ((m : Int) - 1) ∧ m ≤ n ∧ wr = W ∧ Hid (ofKey key (R.l.drop m) = [])) (fun x _ => ((intOf x) + 1).toNat)
  case atStart => exact ⟨n, rfl, Nat.le_refl _, rfl, (by show _ = _; rw [List.drop_of_length_le (by rw [HNN.out]; exact Nat.le_refl _)]; rfl)⟩
  case round =>
    obtain ⟨m, rfl, hmn, hwr, HO⟩ := hrel
    subst hwr
    cases m with
    | zero =>
      have hx0 : x = ⟨⟨#[]⟩, ⟨#[]⟩, false, 0⟩ ∧ q9 = false := by
        have := HO.out
        rw [List.drop_zero] at this
        rw [H2.out, H1.out, this]
        exact ⟨rfl, rfl⟩
      obtain ⟨rfl, rfl⟩ := hx0
      clear HO H1 H2 HEV hmn
      go_wp2
      refine bodyPost_ret (results_entry2 rfl _ _ w.heap.size 29 _ _ rfl (four_set e1 _ _ _ _) size23) rfl ?_
      exact ⟨rfl, below_four hbW (Nat.le_refl _) _ _ _ _⟩
    | succ m =>
      have hz1 : (0 : Int) ≤ ((m + 1 : Nat) : Int) - 1 := by omega
      have hzz : ((m + 1 : Nat) : Int) - 1 = (m : Int) := by omega
      have hmz : (m : Int) < (n : Int) := by omega
      have hm0 : (0 : Int) ≤ (m : Int) := by omega
      obtain ⟨b, off, hao, hEn⟩ := HEV.out.2 (by omega)
      subst hao
      obtain ⟨k, v, d, q, hx⟩ : ∃ k v d q, R.l[m]! = ⟨k, v, d, q⟩ := ⟨_, _, _, _, rfl⟩
      obtain ⟨g0, g1, g2, g3⟩ := ents_four hEn m (by rw [HNN.out]; omega) hx
      have HXX : Hid (R.l[m]! = ⟨k, v, d, q⟩) := hx
      rw [hzz]
      clear hzz hz1 hEn hx
      by_cases hk : k = key
      · have hxq : x = ⟨k, v, d, q⟩ ∧ q9 = true := by
          have := ofKey_found (by rw [HNN.out]; omega) HO.out (by rw [HXX.out]; exact hk)
          rw [H2.out, H1.out, this, HXX.out]
          exact ⟨rfl, rfl⟩
        obtain ⟨rfl, rfl⟩ := hxq
        have dk : (k.toList == key.toList) = true := by rw [eq_cmpS]; exact decide_eq_true hk
        clear HO H1 H2 HEV hmn hk HXX
        go_wp2
        refine bodyPost_ret (results_entry2 rfl _ _ w.heap.size 29 _ _ rfl (four_set e1 _ _ _ _) size23) rfl ?_
        exact ⟨rfl, below_four hbW (Nat.le_refl _) _ _ _ _⟩
      · have dk : (k.toList == key.toList) = false := by rw [eq_cmpS]; exact decide_eq_false hk
        have HO2 : Hid (ofKey key (R.l.drop m) = []) := ofKey_step (by rw [HNN.out]; omega) HO.out (by rw [HXX.out]; exact hk)
        clear HO hk HXX
        go_wp2
        go_roundw
        case rel => exact ⟨m, rfl, by omega, True.intro, HO2⟩
        case measure => first | (simp [intOf]; done) | (simp [intOf]; omega) | omega
end Go.Proofs.YtaamekkbgaeafaaDoor

/-
  What a summary's reader takes for a digest: a contract over this translation.
-/
import Derived.Test.YtiimmknnlciljaaDoorSuP
import Derived.Test.YtiimmknnlciljaaDoorSuD
import Derived.Test.YtiimmknnlciljaaDoorSWrite
namespace Go.Proofs.YtiimmknnlciljaaDoor
open Go.RowKit Go.Sort Go.Shelf
set_option linter.unusedSectionVars false
variable [Inhabited E] [DecidableEq E]
/-- What digest takes. -/
def rdD (R : List UInt8) (bad : Bool) : List UInt8 × List UInt8 × Bool := if 32 ≤ R.length then (R.take 32, R.drop 32, bad) else (R ++ List.replicate (32 - R.length) 0, [], true)
theorem rdD_len (R : List UInt8) (bad : Bool) : (rdD R bad).1.length = 32 := by
  unfold rdD; split
  · simp; omega
  · simp; omega
theorem step_copy_none {P : Program} {ops : Array Oper} {o : Oper} {a : Act} {w : World} {K : Act → World → Prop} {Q : Exit → Act → World → Prop} {E : Prop} (hgd : o.guard = none) (d s : Operand) (dT sT : TypeId)
    (ho : o.op = .call { callee := .builtin .copy, args := #[d, s], argTypes := #[dT, sT] }) (elem : TypeId) (hu : P.underlying dT = some (.slice elem)) (hsz : (P.info? elem).map (·.size) = some 1)
    (da sa : Option Addr) (dLen dCap sLen sCap : Nat) (hd : a.eval d = .slice da dLen dCap) (hs : a.eval s = .slice sa sLen sCap) (hn : Nat.min sLen dLen = 0)
    (h : K (a.put o.dst (goInt 0)) w) :
    if Region.wanted o (yielded ops a.tmps) = true then Oper.wp P o a w K Q else E := by
  have hw : Region.wanted o (yielded ops a.tmps) = true := by simp [Region.wanted, hgd]
  rw [if_pos hw]
  have hrun := run_copy_none (P := P) w dT sT o.type elem da sa dLen dCap sLen sCap hu hsz hn
  unfold Oper.wp
  simp [execOp, ho, resolve, invoke, builtin, hd, hs, hrun, Result.andThen]
  exact h
theorem z_splice (R : List UInt8) (bad : Bool) : splice (cellsOf Z32) 0 (cellsOf (R.take 32)) = cellsOf (rdD R bad).1 := by
  unfold splice rdD
  rw [List.take_zero, List.nil_append, cellsOf_length, Nat.zero_add]
  by_cases h : 32 ≤ R.length
  · rw [if_pos h, List.drop_eq_nil_of_le (by rw [cellsOf_length]; simp [Z32]; omega), List.append_nil]
  · rw [if_neg h, List.take_of_length_le (by omega), cellsOf_append]
    congr 1
    rw [cellsOf, cellsOf, Z32, List.map_replicate, List.map_replicate, List.drop_replicate]
/-- A change of a new block besides. -/
theorem chg_new {g k : Nat} {w w1 w2 : World} (h : Sm.Chg g w w1) (h2 : Sm.Chg k w1 w2) (hk : w.heap.size ≤ k) : Sm.Chg g w w2 :=
  ⟨h2.os.trans h.os, h2.tape.trans h.tape, h2.output.trans h.output, Nat.le_trans h.size h2.size, fun i hi hn => (h2.block i (Nat.lt_of_lt_of_le hi h.size) (by omega)).trans (h.block i hi hn)⟩
theorem results_dig1 {fn : Func} {p : Tmp} (h : fn.results = #[.cell p 32]) (tmps : Array Value) (w : World) (g : Nat) (t : TypeId) (cs : Array Value) (fr : Nat × Nat)
    (hp : tmps.getD p undef = .pointer (some ⟨g, 0, none⟩)) (hg : w.heap[g]? = some (.cells cs t fr)) (hi : (Tryd.prog.info? 32).map (·.size) = some cs.size) :
    (results fn tmps).run Tryd.prog w = .ok (.agg cs) w := by
  have hp' : tmps[p]?.getD undef = .pointer (some ⟨g, 0, none⟩) := by simpa using hp
  simp [results, h, hp', asAddr, run_loadVar_row w g t 32 cs fr _ hg Tryd.underlying32 rfl hi]
set_option maxRecDepth 100000 in
set_option maxHeartbeats 8000000 in
theorem digestRd_any (g B : Nat) (R : List UInt8) (bad : Bool) (w : World) (h : RdAt w g B R bad) (hBw : B ≤ w.heap.size) :
    Calls Tryd.prog 70 #[.pointer (some ⟨g, 0, none⟩)] w fun e w' => e = .returned (.agg (cellsOf (rdD R bad).1).toArray) ∧ RdAt w' g B (rdD R bad).2.1 (rdD R bad).2.2 ∧ Sm.Chg g w w' := by
  have hgl := h.lt
  have HRD : Hid (RdAt w g B R bad) := h
  obtain ⟨D, HD⟩ : ∃ D, Hid ((rdD R bad).1 = D) := ⟨_, rfl⟩
  obtain ⟨R2, HR2⟩ : ∃ D, Hid ((rdD R bad).2.1 = D) := ⟨_, rfl⟩
  obtain ⟨b2, Hb2⟩ : ∃ D, Hid ((rdD R bad).2.2 = D) := ⟨_, rfl⟩
  have HDL : Hid (D.length = 32) := by show _ = _; rw [← HD.out]; exact rdD_len R bad
  have HSP : Hid (splice (cellsOf Z32) 0 (cellsOf (R.take 32)) = cellsOf D) := by show _ = _; rw [← HD.out]; exact z_splice R bad
  have HG0 : Hid (g < w.heap.size ∧ B ≤ w.heap.size) := ⟨hgl, hBw⟩
  rw [HD.out, HR2.out, Hb2.out]
  clear h hgl hBw
  go_enter Tryd.func70, Tryd.ntmps70
  go_upto_region 2 with fail
  refine Sm.wp_gen (fun W => W.heap[w.heap.size]? = some (.cells (cellsOf Z32).toArray 32 (0, 0)) ∧ W.heap[w.heap.size + 1]? = some (.cells (cellsOf Z32).toArray 32 (0, 0)) ∧ Below w.heap.size w W ∧ W.heap.size = w.heap.size + 2) (Sm.frame2 w (.cells (cellsOf Z32).toArray 32) (cellsOf Z32).toArray 32) ?_
  intro W0 hW0
  have HF : Hid _ := hW0
  clear hW0
  have HRD0 : Hid (RdAt W0 g B R bad) := HRD.out.keep HF.out.2.2.1
  have hrd := HRD0.out
  obtain ⟨ao, n, c, h1, h2, h3, h4, h5, h6⟩ := hrd
  have HS : Hid (∀ W, Below W0.heap.size W0 W → W.cell? ⟨g, 0, none⟩ = some (.slice ao n c)) := fun W hW => by
    rw [cell_of_row _ _ _ _ _ _ ((hW.block g (Array.getElem?_eq_some_iff.1 h1).1).trans h1)]; rfl
  have hn := h2.1
  by_cases hp : 0 < n
  · obtain ⟨b, off, rfl, hbl⟩ := bytes_blk h2 (by omega)
    have HX : Hid (∀ j v, (cellsOf (R.take 32))[j]? = some v → W0.drew.cell? ((⟨b, off, none⟩ : Addr).add j) = some v) := fun j v hv => by
      obtain ⟨cc, hc, rfl⟩ := cellsOf_at hv
      rw [List.getElem?_take] at hc
      split at hc
      · obtain ⟨y, hy, hcell⟩ := h2.2 j cc hc
        cases hy; exact hcell
      · cases hc
    obtain ⟨m, hm⟩ : ∃ m, m = min n 32 := ⟨_, rfl⟩
    have HXL : Hid ((cellsOf (R.take 32)).length = m) := by show _ = _; rw [cellsOf_length, List.length_take, hm]; omega
    have HM : Hid (m = Nat.min n 32) := hm
    have HRL : Hid (R.length = n) := hn
    clear h1 h2 h3 h4 h5 h6 hbl hn hm
    refine wp_region_held_drew (S := fun W => W.cell? ⟨g, 0, none⟩ = some (.slice (some ⟨b, off, none⟩) n c)) (by kernel_rfl) (HS.out _ (Below.drew (Below.refl _ _))) (fun hS => ?_)
    refine wpAnyH_take (i := 0) (v := ?_) rfl (by kernel_rfl) (by kernel_rfl) (by kernel_rfl) (fun _ _ _ h => h) (Or.inl ⟨by rfl, ?_⟩) (by assumption) ?_
    rotate_left
    · (intro w hSw; (try dsimp only at hSw); go_simp; try with_reducible rfl)
    simp only [Act.put, List.getElem_toArray, List.getElem_cons_zero, List.setIfInBounds_toArray, List.set_cons_zero, List.set_cons_succ]
    refine wpAnyH_take (i := 1) (v := ?_) rfl (by kernel_rfl) (by kernel_rfl) (by kernel_rfl) (fun _ _ _ h => h) (Or.inl ⟨by rfl, ?_⟩) (by assumption) ?_
    rotate_left
    · (intro w hSw; (try dsimp only at hSw); go_simp; try with_reducible rfl)
    simp only [Act.put, List.getElem_toArray, List.getElem_cons_zero, List.getElem_cons_succ, List.setIfInBounds_toArray, List.set_cons_zero, List.set_cons_succ]
    refine wpAnyH_take (i := 2) (v := ?_) rfl (by kernel_rfl) (by kernel_rfl) (by kernel_rfl) (fun _ _ _ h => h) (Or.inl ⟨by rfl, ?_⟩) (by assumption) ?_
    rotate_left
    · (intro w hSw; (try dsimp only at hSw); go_simp; try with_reducible rfl)
    simp only [Act.put, List.getElem_toArray, List.getElem_cons_zero, List.getElem_cons_succ, List.setIfInBounds_toArray, List.set_cons_zero, List.set_cons_succ]
    refine wpAnyH_take (i := 3) (v := ?_) rfl (by kernel_rfl) (by kernel_rfl) (by kernel_rfl) (fun _ _ _ h => h) (Or.inl ⟨by rfl, ?_⟩) (by assumption) ?_
    rotate_left
    · (intro w hSw; (try dsimp only at hSw); go_simp; try with_reducible rfl)
    simp only [Act.put, List.getElem_toArray, List.getElem_cons_zero, List.getElem_cons_succ, List.setIfInBounds_toArray, List.set_cons_zero, List.set_cons_succ]
    refine wpAnyH_take (i := 4) (v := ?_) rfl (by kernel_rfl) (by kernel_rfl) (by kernel_rfl) (fun _ _ _ h => h) (Or.inl ⟨by rfl, ?_⟩) (by assumption) ?_
    rotate_left
    · (intro w hSw; (try dsimp only at hSw); go_simp; try with_reducible rfl)
    simp only [Act.put, List.getElem_toArray, List.getElem_cons_zero, List.getElem_cons_succ, List.setIfInBounds_toArray, List.set_cons_zero, List.set_cons_succ]
    refine wpAnyH_ready (rs := [5]) (by kernel_rfl) (by simp) ?_
    refine AllReadyH.cons rfl (fun K hK => ?_) AllReadyH.nil
    refine Sm.step_copy_exact rfl (.tmp 5) (.tmp 9) 25 25 rfl 5 Tryd.underlying25 Sm.size5 (w.heap.size + 1) 0 32 32 ⟨b, off, none⟩ n c rfl rfl (cellsOf Z32) 32 HF.out.2.1 (cellsOf (R.take 32)) (by rw [HXL.out, HM.out]) HX.out (by have h7 := HXL.out; have h8 := HM.out; rw [show Nat.min n 32 = min n 32 from rfl] at h8; rw [h7, cellsOf_length]; simp [Z32]; omega) (cellsOf_one _) ?_
    refine hK.out _ _ (Sm.cell_row_far (HS.out _ (Below.drew (Below.refl _ _))) (by have := HG0.out.1; show g ≠ w.heap.size + 1; omega)) (fun hHeld2 => ?_)
    clear hK K
    simp only [Act.put, List.getElem_toArray, List.getElem_cons_zero, List.getElem_cons_succ, List.setIfInBounds_toArray, List.set_cons_zero, List.set_cons_succ]
    refine wpAnyH_take (i := 6) (v := ?_) rfl (by kernel_rfl) (by kernel_rfl) (by kernel_rfl) (fun _ _ _ h => h) (Or.inl ⟨by rfl, ?_⟩) (by assumption) ?_
    rotate_left
    · (intro w hSw; (try dsimp only at hSw); go_simp; try with_reducible rfl)
    simp only [Act.put, List.getElem_toArray, List.getElem_cons_zero, List.getElem_cons_succ, List.setIfInBounds_toArray, List.set_cons_zero, List.set_cons_succ]
    refine wpAnyH_done (by kernel_rfl) ?_ _
    have HC1 : Hid (Sm.Chg (w.heap.size + 1) W0 (W0.drew.setRow (w.heap.size + 1) (splice (cellsOf Z32) 0 (cellsOf (R.take 32))).toArray)) := ((Sm.Chg.refl _ W0).drew.row _)
    have HD1 : Hid ((W0.drew.setRow (w.heap.size + 1) (splice (cellsOf Z32) 0 (cellsOf (R.take 32))).toArray).heap[w.heap.size + 1]? = some (.cells (cellsOf D).toArray 32 (0, 0))) := by
      show _ = _
      rw [HSP.out]; exact setRow_heap _ _ _ _ 32 (0, 0) HF.out.2.1
    generalize W0.drew.setRow (w.heap.size + 1) (splice (cellsOf Z32) 0 (cellsOf (R.take 32))).toArray = W1 at *
    have HRD1 : Hid (RdAt W1 g B R bad) := HRD0.out.far HC1.out (by have := HG0.out.1; omega) (by have := HG0.out.2; omega)
    have HR1 : Hid (W1.heap[w.heap.size]? = some (.cells (cellsOf Z32).toArray 32 (0, 0))) := (HC1.out.block _ (by have := HF.out.2.2.2; omega) (by omega)).trans HF.out.1
    have HW1 : Hid (Below w.heap.size w W1) := HF.out.2.2.1.trans (HC1.out.below (by omega) (by have := HF.out.2.2.2; omega))
    rw [HXL.out]
    clear hS hHeld2 HX HSP HS HC1 HRD0 HRD
    by_cases hm32 : m = 32
    · subst hm32
      have HE : Hid (R2 = R.drop 32 ∧ b2 = bad) := by
        have h32 : 32 ≤ R.length := by have h8 := HM.out; have h9 := HRL.out; rw [show Nat.min n 32 = min n 32 from rfl] at h8; omega
        constructor
        · rw [← HR2.out]; unfold rdD; rw [if_pos h32]
        · rw [← Hb2.out]; unfold rdD; rw [if_pos h32]
      have HP : Hid _ := pass_yes g B R bad 32 W1 HRD1.out (by have h8 := HM.out; have h9 := HRL.out; rw [show Nat.min n 32 = min n 32 from rfl] at h8; omega) (by omega)
      obtain ⟨hR2, hb2⟩ := HE.out
      subst hR2
      subst hb2
      go_wp2_with fail
      refine Calls.mono HP.out ?_
      rintro e w5 ⟨rfl, h7, h8, h9⟩
      have HN : Hid (RdAt w5 g B _ _ ∧ Sm.Chg g W1 w5) := ⟨h7, h8⟩
      have HD5 : Hid (w5.heap[w.heap.size + 1]? = some (.cells (cellsOf D).toArray 32 (0, 0))) := (h8.block _ (Array.getElem?_eq_some_iff.1 HD1.out).1 (by have := HG0.out.1; omega)).trans HD1.out
      have HR5 : Hid (w5.heap[w.heap.size]? = some (.cells (cellsOf Z32).toArray 32 (0, 0))) := (h8.block _ (Array.getElem?_eq_some_iff.1 HR1.out).1 (by have := HG0.out.1; omega)).trans HR1.out
      have HCW : Hid (Sm.Chg g w w5) := ((Sm.Chg.refl g w).bel HW1.out (Nat.le_refl _)).trans h8
      clear h7 h8 h9
      go_wp2_with (first | (refine wpList_load_row rfl 32 (.tmp 3) rfl (w.heap.size + 1) rfl 32 (cellsOf D).toArray (0, 0) _ HD5.out Tryd.underlying32 rfl (dig_szA HDL.out) ?_) | (refine wpList_store_row rfl 32 (.tmp 2) (.tmp 16) rfl w.heap.size (cellsOf D).toArray rfl rfl 32 (cellsOf Z32).toArray HR5.out (dig_szA HDL.out) (by show (cellsOf Z32).toArray.size = (cellsOf D).toArray.size; rw [List.size_toArray, List.size_toArray, cellsOf_length, cellsOf_length, HDL.out]; simp [Z32]) (dig_all _) ?_))
      refine bodyPost_ret (results_dig1 rfl _ _ w.heap.size 32 _ (0, 0) rfl (setRow_heap _ _ _ _ _ _ HR5.out) (dig_szA HDL.out)) rfl ?_
      have hcr := (Sm.Chg.refl w.heap.size w5).row (cellsOf D).toArray
      exact ⟨rfl, HN.out.1.far hcr (by have := HG0.out.1; omega) (by have := HG0.out.2; omega), chg_new HCW.out hcr (Nat.le_refl _)⟩
    · have hm2 : ((m : Int) == 32) = false := by simp; omega
      have HE : Hid (R2 = [] ∧ b2 = true) := by
        have h32 : ¬ 32 ≤ R.length := by have h8 := HM.out; have h9 := HRL.out; rw [show Nat.min n 32 = min n 32 from rfl] at h8; omega
        constructor
        · rw [← HR2.out]; unfold rdD; rw [if_neg h32]
        · rw [← Hb2.out]; unfold rdD; rw [if_neg h32]
      have HP : Hid _ := pass_no g B R bad m W1 HRD1.out
      obtain ⟨hR2, hb2⟩ := HE.out
      subst hR2
      subst hb2
      go_wp2_with fail
      refine Calls.mono HP.out ?_
      rintro e w5 ⟨rfl, h7, h8, h9⟩
      have HN : Hid (RdAt w5 g B _ _ ∧ Sm.Chg g W1 w5) := ⟨h7, h8⟩
      have HD5 : Hid (w5.heap[w.heap.size + 1]? = some (.cells (cellsOf D).toArray 32 (0, 0))) := (h8.block _ (Array.getElem?_eq_some_iff.1 HD1.out).1 (by have := HG0.out.1; omega)).trans HD1.out
      have HR5 : Hid (w5.heap[w.heap.size]? = some (.cells (cellsOf Z32).toArray 32 (0, 0))) := (h8.block _ (Array.getElem?_eq_some_iff.1 HR1.out).1 (by have := HG0.out.1; omega)).trans HR1.out
      have HCW : Hid (Sm.Chg g w w5) := ((Sm.Chg.refl g w).bel HW1.out (Nat.le_refl _)).trans h8
      clear h7 h8 h9
      go_wp2_with (first | (refine wpList_load_row rfl 32 (.tmp 3) rfl (w.heap.size + 1) rfl 32 (cellsOf D).toArray (0, 0) _ HD5.out Tryd.underlying32 rfl (dig_szA HDL.out) ?_) | (refine wpList_store_row rfl 32 (.tmp 2) (.tmp 16) rfl w.heap.size (cellsOf D).toArray rfl rfl 32 (cellsOf Z32).toArray HR5.out (dig_szA HDL.out) (by show (cellsOf Z32).toArray.size = (cellsOf D).toArray.size; rw [List.size_toArray, List.size_toArray, cellsOf_length, cellsOf_length, HDL.out]; simp [Z32]) (dig_all _) ?_))
      refine bodyPost_ret (results_dig1 rfl _ _ w.heap.size 32 _ (0, 0) rfl (setRow_heap _ _ _ _ _ _ HR5.out) (dig_szA HDL.out)) rfl ?_
      have hcr := (Sm.Chg.refl w.heap.size w5).row (cellsOf D).toArray
      exact ⟨rfl, HN.out.1.far hcr (by have := HG0.out.1; omega) (by have := HG0.out.2; omega), chg_new HCW.out hcr (Nat.le_refl _)⟩
  · obtain rfl : n = 0 := by omega
    have hRn : R = [] := List.eq_nil_of_length_eq_zero hn
    have HE : Hid (D = Z32 ∧ R2 = [] ∧ b2 = true) := by
      subst hRn
      refine ⟨?_, ?_, ?_⟩
      · rw [← HD.out]; rfl
      · rw [← HR2.out]; rfl
      · rw [← Hb2.out]; rfl
    clear h1 h2 h3 h4 h5 h6 hn hp
    refine wp_region_held_drew (S := fun W => W.cell? ⟨g, 0, none⟩ = some (.slice ao 0 c)) (by kernel_rfl) (HS.out _ (Below.drew (Below.refl _ _))) (fun hS => ?_)
    refine wpAnyH_take (i := 0) (v := ?_) rfl (by kernel_rfl) (by kernel_rfl) (by kernel_rfl) (fun _ _ _ h => h) (Or.inl ⟨by rfl, ?_⟩) (by assumption) ?_
    rotate_left
    · (intro w hSw; (try dsimp only at hSw); go_simp; try with_reducible rfl)
    simp only [Act.put, List.getElem_toArray, List.getElem_cons_zero, List.setIfInBounds_toArray, List.set_cons_zero, List.set_cons_succ]
    refine wpAnyH_take (i := 1) (v := ?_) rfl (by kernel_rfl) (by kernel_rfl) (by kernel_rfl) (fun _ _ _ h => h) (Or.inl ⟨by rfl, ?_⟩) (by assumption) ?_
    rotate_left
    · (intro w hSw; (try dsimp only at hSw); go_simp; try with_reducible rfl)
    simp only [Act.put, List.getElem_toArray, List.getElem_cons_zero, List.getElem_cons_succ, List.setIfInBounds_toArray, List.set_cons_zero, List.set_cons_succ]
    refine wpAnyH_take (i := 2) (v := ?_) rfl (by kernel_rfl) (by kernel_rfl) (by kernel_rfl) (fun _ _ _ h => h) (Or.inl ⟨by rfl, ?_⟩) (by assumption) ?_
    rotate_left
    · (intro w hSw; (try dsimp only at hSw); go_simp; try with_reducible rfl)
    simp only [Act.put, List.getElem_toArray, List.getElem_cons_zero, List.getElem_cons_succ, List.setIfInBounds_toArray, List.set_cons_zero, List.set_cons_succ]
    refine wpAnyH_take (i := 3) (v := ?_) rfl (by kernel_rfl) (by kernel_rfl) (by kernel_rfl) (fun _ _ _ h => h) (Or.inl ⟨by rfl, ?_⟩) (by assumption) ?_
    rotate_left
    · (intro w hSw; (try dsimp only at hSw); go_simp; try with_reducible rfl)
    simp only [Act.put, List.getElem_toArray, List.getElem_cons_zero, List.getElem_cons_succ, List.setIfInBounds_toArray, List.set_cons_zero, List.set_cons_succ]
    refine wpAnyH_take (i := 4) (v := ?_) rfl (by kernel_rfl) (by kernel_rfl) (by kernel_rfl) (fun _ _ _ h => h) (Or.inl ⟨by rfl, ?_⟩) (by assumption) ?_
    rotate_left
    · (intro w hSw; (try dsimp only at hSw); go_simp; try with_reducible rfl)
    simp only [Act.put, List.getElem_toArray, List.getElem_cons_zero, List.getElem_cons_succ, List.setIfInBounds_toArray, List.set_cons_zero, List.set_cons_succ]
    refine wpAnyH_ready (rs := [5]) (by kernel_rfl) (by simp) ?_
    refine AllReadyH.cons rfl (fun K hK => ?_) AllReadyH.nil
    refine step_copy_none rfl (.tmp 5) (.tmp 9) 25 25 rfl 5 Tryd.underlying25 Sm.size5 (some ⟨w.heap.size + 1, 0, none⟩) ao 32 32 0 c rfl rfl rfl ?_
    refine hK.out _ _ (HS.out _ (Below.drew (Below.refl _ _))) (fun hHeld2 => ?_)
    clear hK K
    simp only [Act.put, List.getElem_toArray, List.getElem_cons_zero, List.getElem_cons_succ, List.setIfInBounds_toArray, List.set_cons_zero, List.set_cons_succ]
    refine wpAnyH_take (i := 6) (v := ?_) rfl (by kernel_rfl) (by kernel_rfl) (by kernel_rfl) (fun _ _ _ h => h) (Or.inl ⟨by rfl, ?_⟩) (by assumption) ?_
    rotate_left
    · (intro w hSw; (try dsimp only at hSw); go_simp; try with_reducible rfl)
    simp only [Act.put, List.getElem_toArray, List.getElem_cons_zero, List.getElem_cons_succ, List.setIfInBounds_toArray, List.set_cons_zero, List.set_cons_succ]
    refine wpAnyH_done (by kernel_rfl) ?_ _
    have HRD1 : Hid (RdAt W0.drew g B R bad) := HRD0.out.keep (Below.drew (Below.refl _ _))
    have HD1 : Hid (W0.drew.heap[w.heap.size + 1]? = some (.cells (cellsOf D).toArray 32 (0, 0))) := by show _ = _; rw [HE.out.1]; exact HF.out.2.1
    have HR1 : Hid (W0.drew.heap[w.heap.size]? = some (.cells (cellsOf Z32).toArray 32 (0, 0))) := HF.out.1
    have HW1 : Hid (Below w.heap.size w W0.drew) := HF.out.2.2.1.trans (Below.drew (Below.refl _ _))
    have HP : Hid _ := pass_no g B R bad 0 W0.drew HRD1.out
    generalize W0.drew = W1 at *
    obtain ⟨-, hR2, hb2⟩ := HE.out
    subst hR2
    subst hb2
    clear hS hHeld2 HSP HS HRD0 HRD
    go_wp2_with fail
    refine Calls.mono HP.out ?_
    rintro e w5 ⟨rfl, h7, h8, h9⟩
    have HN : Hid (RdAt w5 g B _ _ ∧ Sm.Chg g W1 w5) := ⟨h7, h8⟩
    have HD5 : Hid (w5.heap[w.heap.size + 1]? = some (.cells (cellsOf D).toArray 32 (0, 0))) := (h8.block _ (Array.getElem?_eq_some_iff.1 HD1.out).1 (by have := HG0.out.1; omega)).trans HD1.out
    have HR5 : Hid (w5.heap[w.heap.size]? = some (.cells (cellsOf Z32).toArray 32 (0, 0))) := (h8.block _ (Array.getElem?_eq_some_iff.1 HR1.out).1 (by have := HG0.out.1; omega)).trans HR1.out
    have HCW : Hid (Sm.Chg g w w5) := ((Sm.Chg.refl g w).bel HW1.out (Nat.le_refl _)).trans h8
    clear h7 h8 h9
    go_wp2_with (first | (refine wpList_load_row rfl 32 (.tmp 3) rfl (w.heap.size + 1) rfl 32 (cellsOf D).toArray (0, 0) _ HD5.out Tryd.underlying32 rfl (dig_szA HDL.out) ?_) | (refine wpList_store_row rfl 32 (.tmp 2) (.tmp 16) rfl w.heap.size (cellsOf D).toArray rfl rfl 32 (cellsOf Z32).toArray HR5.out (dig_szA HDL.out) (by show (cellsOf Z32).toArray.size = (cellsOf D).toArray.size; rw [List.size_toArray, List.size_toArray, cellsOf_length, cellsOf_length, HDL.out]; simp [Z32]) (dig_all _) ?_))
    refine bodyPost_ret (results_dig1 rfl _ _ w.heap.size 32 _ (0, 0) rfl (setRow_heap _ _ _ _ _ _ HR5.out) (dig_szA HDL.out)) rfl ?_
    have hcr := (Sm.Chg.refl w.heap.size w5).row (cellsOf D).toArray
    exact ⟨rfl, HN.out.1.far hcr (by have := HG0.out.1; omega) (by have := HG0.out.2; omega), chg_new HCW.out hcr (Nat.le_refl _)⟩
end Go.Proofs.YtiimmknnlciljaaDoor

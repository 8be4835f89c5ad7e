/-
  What clash's pairOf answers of a leaf: a contract over this translation. What clash's pairOf answers of a node: a contract over this translation.
-/
import Derived.Test.YtecacjddggljgaaDoorPartEA
namespace Go.Proofs.YtecacjddggljgaaDoor.Sm
open Go.RowKit
set_option maxHeartbeats 4000000 in
set_option maxRecDepth 100000 in
theorem pair_leaf {k : Nat} (a b c qn qc f : Nat) (z : Int) (rb rf rn rc qb qf : Nat) (po : Option Addr) (pn pc : Nat) (p r : LV) (w : World) (hf : w.heap[f]? = some (.cells (opC z (some ⟨rb, rf, none⟩) rn rc (c : Int) (some ⟨qb, qf, none⟩) qn qc po pn pc) 110 (0, 0))) (h1 : ¬ b ≤ c) (hcq : c + qn ≤ 9223372036854775807) (h2 : ¬ c + qn ≤ a) (h3 : b - a = 1) (hca : c ≤ a) (hrn : a < rn)
    (hp : w.cell? ⟨qb, qf + (a - c), none⟩ = some (.slice p.ao p.n p.c)) (hr : w.cell? ⟨rb, rf + a, none⟩ = some (.slice r.ao r.n r.c))
    (hLP : ∀ W, Below w.heap.size w W → Calls Tryd.prog 99 #[.agg #[.int .i64 z], .slice p.ao p.n p.c] W fun e w' => ∃ xo tn tc, e = .returned (.agg (kc xo tn tc (leafD z p.bs))) ∧ TxV w' xo tn tc (0 :: p.bs) ∧ TxB W.heap.size xo ∧ Below W.heap.size W w')
    (hLR : ∀ W, Below w.heap.size w W → Calls Tryd.prog 99 #[.agg #[.int .i64 z], .slice r.ao r.n r.c] W fun e w' => ∃ xo tn tc, e = .returned (.agg (kc xo tn tc (leafD z r.bs))) ∧ TxV w' xo tn tc (0 :: r.bs) ∧ TxB W.heap.size xo ∧ Below W.heap.size W w') :
    Calls Tryd.prog 69 #[.pointer (some ⟨f, 0, none⟩), .int .i64 (a : Int), .int .i64 (b : Int)] w fun e w' => ∃ q, e = .returned (.pointer q) ∧ PairV w' w.heap.size (.mk (0 :: p.bs) (0 :: r.bs) (leafD z p.bs) (leafD z r.bs) (.nil : PT k) .nil) q ∧ Below w.heap.size w w' := by
  obtain ⟨ac, HAC⟩ : ∃ x : Nat, Hid (a - c = x) := ⟨_, rfl⟩
  rw [HAC.out] at hp
  have HS4 : Hid (∀ W, Below w.heap.size w W → W.cell? ⟨f, 0, none⟩ = some (.int .i64 z) ∧ W.cell? ⟨f, 1, none⟩ = some (.slice (some ⟨rb, rf, none⟩) rn rc) ∧ W.cell? ⟨f, 2, none⟩ = some (.int .i64 (c : Int)) ∧ W.cell? ⟨f, 3, none⟩ = some (.slice (some ⟨qb, qf, none⟩) qn qc) ∧ W.cell? ⟨qb, qf + ac, none⟩ = some (.slice p.ao p.n p.c) ∧ W.cell? ⟨rb, rf + a, none⟩ = some (.slice r.ao r.n r.c)) := fun W hW =>
    ⟨bel_cell2 hW (Nat.le_refl _) (op_cells hf).1, bel_cell2 hW (Nat.le_refl _) (op_cells hf).2.1, bel_cell2 hW (Nat.le_refl _) (op_cells hf).2.2.1, bel_cell2 hW (Nat.le_refl _) (op_cells hf).2.2.2.1, bel_cell2 hW (Nat.le_refl _) hp, bel_cell2 hW (Nat.le_refl _) hr⟩
  have HFW : Hid _ := hf
  have HS1 : Hid (∀ W, Below w.heap.size w W → W.cell? ⟨f, 2, none⟩ = some (.int .i64 (c : Int)) ∧ W.cell? ⟨f, 3, none⟩ = some (.slice (some ⟨qb, qf, none⟩) qn qc)) := fun W hW => ⟨bel_cell2 hW (Nat.le_refl _) (op_cells hf).2.2.1, bel_cell2 hW (Nat.le_refl _) (op_cells hf).2.2.2.1⟩
  have hbc : ¬ (b : Int) ≤ (c : Int) := by omega
  have hbcd : decide ((b : Int) ≤ (c : Int)) = false := by simp; omega
  have hbcn : decide (b ≤ c) = false := by simp; omega
  have hsum : wrap64 ((c : Int) + (qn : Int)) = ((c + qn : Nat) : Int) := wadd (Nat.le_refl _) hcq
  obtain ⟨d, HDD⟩ : ∃ d : Nat, Hid (c + qn = d) := ⟨_, rfl⟩
  rw [HDD.out] at hsum
  have hsum2 : IntKind.i64.wrap ((c : Int) + (qn : Int)) = (d : Int) := (IntWalk.i64_left _).trans hsum
  have hda : ¬ (d : Int) ≤ (a : Int) := by have := HDD.out; omega
  have hdad : decide ((d : Int) ≤ (a : Int)) = false := by have := HDD.out; simp; omega
  have hdan : decide (d ≤ a) = false := by have := HDD.out; simp; omega
  have hone : wrap64 ((b : Int) - (a : Int)) = 1 := by unfold wrap64; omega
  have HLP : Hid (∀ W, Below w.heap.size w W → Calls Tryd.prog 99 #[.agg #[.int .i64 z], .slice p.ao p.n p.c] W fun e w' => ∃ xo tn tc, e = .returned (.agg (kc xo tn tc (leafD z p.bs))) ∧ TxV w' xo tn tc (0 :: p.bs) ∧ TxB W.heap.size xo ∧ Below W.heap.size W w') := hLP
  have HLR : Hid (∀ W, Below w.heap.size w W → Calls Tryd.prog 99 #[.agg #[.int .i64 z], .slice r.ao r.n r.c] W fun e w' => ∃ xo tn tc, e = .returned (.agg (kc xo tn tc (leafD z r.bs))) ∧ TxV w' xo tn tc (0 :: r.bs) ∧ TxB W.heap.size xo ∧ Below W.heap.size W w') := hLR
  obtain ⟨pa, pnn, pcc, pbs⟩ := p
  obtain ⟨ra, rnn, rcc, rbs⟩ := r
  obtain ⟨dp, HDP⟩ : ∃ x, Hid (leafD z pbs = x) := ⟨_, rfl⟩
  obtain ⟨dr, HDR⟩ : ∃ x, Hid (leafD z rbs = x) := ⟨_, rfl⟩
  have HPL : Hid (dp.length = 32) := by show _ = _; rw [← HDP.out]; exact leafD_length z pbs
  have HRL : Hid (dr.length = 32) := by show _ = _; rw [← HDR.out]; exact leafD_length z rbs
  dsimp only at HLP HLR HS4 ⊢
  rw [HDP.out] at HLP ⊢
  rw [HDR.out] at HLR ⊢
  have HAR : Hid (ac < qn ∧ a < rn) := ⟨by have := HAC.out; omega, hrn⟩
  have hsub : wrap64 ((a : Int) - (c : Int)) = (ac : Int) := by rw [← HAC.out]; exact wsub hca (by omega)
  have HSUB : Hid (wrap64 ((a : Int) - (c : Int)) = (ac : Int)) := hsub
  clear hf hLP hLR h1 h2 hcq h3 hca hrn hp hr hsub
  go_enter Tryd.func69, Tryd.ntmps69
  go_upto_region 1 with fail
  refine wp_region_held_drew (S := fun W => W.cell? ⟨f, 2, none⟩ = some (.int .i64 (c : Int)) ∧ W.cell? ⟨f, 3, none⟩ = some (.slice (some ⟨qb, qf, none⟩) qn qc)) (by kernel_rfl) (HS1.out _ (Below.drew (Below.refl _ _))) (fun hS => ?_)
  refine wpAnyH_take (i := 0) (v := ?_) rfl (by kernel_rfl) (by kernel_rfl) (by kernel_rfl) (fun _ _ _ h => h) (Or.inl ⟨by rfl, ?_⟩) (by assumption) ?_
  rotate_left
  · (intro w hSw; (try dsimp only at hSw); go_simp; try with_reducible rfl)
  simp only [Act.put, List.getElem_toArray, List.getElem_cons_zero, List.setIfInBounds_toArray, List.set_cons_zero, List.set_cons_succ]
  refine wpAnyH_take (i := 1) (v := ?_) rfl (by kernel_rfl) (by kernel_rfl) (by kernel_rfl) (fun _ _ _ h => h) (Or.inl ⟨by rfl, ?_⟩) (by assumption) ?_
  rotate_left
  · (intro w hSw; (try dsimp only at hSw); go_simp; try with_reducible rfl)
  simp only [Act.put, List.getElem_toArray, List.getElem_cons_zero, List.getElem_cons_succ, List.setIfInBounds_toArray, List.set_cons_zero, List.set_cons_succ]
  refine wpAnyH_take (i := 2) (v := ?_) rfl (by kernel_rfl) (by kernel_rfl) (by kernel_rfl) (fun _ _ _ h => h) (Or.inl ⟨by rfl, ?_⟩) (by assumption) ?_
  rotate_left
  · (intro w hSw; (try dsimp only at hSw); go_simp; try with_reducible rfl)
  simp only [Act.put, List.getElem_toArray, List.getElem_cons_zero, List.getElem_cons_succ, List.setIfInBounds_toArray, List.set_cons_zero, List.set_cons_succ]
  refine wpAnyH_take (i := 3) (v := ?_) rfl (by kernel_rfl) (by kernel_rfl) (by kernel_rfl) (fun _ _ _ h => h) (Or.inl ⟨by rfl, ?_⟩) (by assumption) ?_
  rotate_left
  · (intro w hSw; (try dsimp only at hSw); go_simp; try with_reducible rfl)
  simp only [Act.put, List.getElem_toArray, List.getElem_cons_zero, List.getElem_cons_succ, List.setIfInBounds_toArray, List.set_cons_zero, List.set_cons_succ]
  refine wpAnyH_take (i := 4) (v := ?_) rfl (by kernel_rfl) (by kernel_rfl) (by kernel_rfl) (fun _ _ _ h => h) (Or.inl ⟨by rfl, ?_⟩) (by assumption) ?_
  rotate_left
  · (intro w hSw; (try dsimp only at hSw); go_simp; try with_reducible rfl)
  simp only [Act.put, List.getElem_toArray, List.getElem_cons_zero, List.getElem_cons_succ, List.setIfInBounds_toArray, List.set_cons_zero, List.set_cons_succ]
  refine wpAnyH_take (i := 5) (v := ?_) rfl (by kernel_rfl) (by kernel_rfl) (by kernel_rfl) (fun _ _ _ h => h) (Or.inl ⟨by rfl, ?_⟩) (by assumption) ?_
  rotate_left
  · (intro w hSw; (try dsimp only at hSw); go_simp; try with_reducible rfl)
  simp only [Act.put, List.getElem_toArray, List.getElem_cons_zero, List.getElem_cons_succ, List.setIfInBounds_toArray, List.set_cons_zero, List.set_cons_succ]
  refine wpAnyH_take (i := 6) (v := ?_) rfl (by kernel_rfl) (by kernel_rfl) (by kernel_rfl) (fun _ _ _ h => h) (Or.inl ⟨by rfl, ?_⟩) (by assumption) ?_
  rotate_left
  · (intro w hSw; (try dsimp only at hSw); go_simp; try with_reducible rfl)
  simp only [Act.put, List.getElem_toArray, List.getElem_cons_zero, List.getElem_cons_succ, List.setIfInBounds_toArray, List.set_cons_zero, List.set_cons_succ]
  refine wpAnyH_take (i := 7) (v := ?_) rfl (by kernel_rfl) (by kernel_rfl) (by kernel_rfl) (fun _ _ _ h => h) (Or.inl ⟨by rfl, ?_⟩) (by assumption) ?_
  rotate_left
  · (intro w hSw; (try dsimp only at hSw); go_simp; try with_reducible rfl)
  simp only [Act.put, List.getElem_toArray, List.getElem_cons_zero, List.getElem_cons_succ, List.setIfInBounds_toArray, List.set_cons_zero, List.set_cons_succ]
  refine wpAnyH_take (i := 8) (v := ?_) rfl (by kernel_rfl) (by kernel_rfl) (by kernel_rfl) (fun _ _ _ h => h) (Or.inl ⟨by rfl, ?_⟩) (by assumption) ?_
  rotate_left
  · (intro w hSw; (try dsimp only at hSw); go_simp; try with_reducible rfl)
  simp only [Act.put, List.getElem_toArray, List.getElem_cons_zero, List.getElem_cons_succ, List.setIfInBounds_toArray, List.set_cons_zero, List.set_cons_succ]
  refine wpAnyH_take (i := 9) (v := ?_) rfl (by kernel_rfl) (by kernel_rfl) (by kernel_rfl) (fun _ _ _ h => h) (Or.inl ⟨by rfl, ?_⟩) (by assumption) ?_
  rotate_left
  · (intro w hSw; (try dsimp only at hSw); go_simp; try with_reducible rfl)
  simp only [Act.put, List.getElem_toArray, List.getElem_cons_zero, List.getElem_cons_succ, List.setIfInBounds_toArray, List.set_cons_zero, List.set_cons_succ]
  refine wpAnyH_take (i := 10) (v := ?_) rfl (by kernel_rfl) (by kernel_rfl) (by kernel_rfl) (fun _ _ _ h => h) (Or.inl ⟨by rfl, ?_⟩) (by assumption) ?_
  rotate_left
  · (intro w hSw; (try dsimp only at hSw); go_simp; try with_reducible rfl)
  simp only [Act.put, List.getElem_toArray, List.getElem_cons_zero, List.getElem_cons_succ, List.setIfInBounds_toArray, List.set_cons_zero, List.set_cons_succ]
  refine wpAnyH_take (i := 11) (v := ?_) rfl (by kernel_rfl) (by kernel_rfl) (by kernel_rfl) (fun _ _ _ h => h) (Or.inl ⟨by rfl, ?_⟩) (by assumption) ?_
  rotate_left
  · (intro w hSw; (try dsimp only at hSw); go_simp; try with_reducible rfl)
  simp only [Act.put, List.getElem_toArray, List.getElem_cons_zero, List.getElem_cons_succ, List.setIfInBounds_toArray, List.set_cons_zero, List.set_cons_succ]
  refine wpAnyH_take (i := 12) (v := ?_) rfl (by kernel_rfl) (by kernel_rfl) (by kernel_rfl) (fun _ _ _ h => h) (Or.inl ⟨by rfl, ?_⟩) (by assumption) ?_
  rotate_left
  · (intro w hSw; (try dsimp only at hSw); go_simp; try with_reducible rfl)
  simp only [Act.put, List.getElem_toArray, List.getElem_cons_zero, List.getElem_cons_succ, List.setIfInBounds_toArray, List.set_cons_zero, List.set_cons_succ]
  refine wpAnyH_take (i := 13) (v := ?_) rfl (by kernel_rfl) (by kernel_rfl) (by kernel_rfl) (fun _ _ _ h => h) (Or.inl ⟨by rfl, ?_⟩) (by assumption) ?_
  rotate_left
  · (intro w hSw; (try dsimp only at hSw); go_simp; try with_reducible rfl)
  simp only [Act.put, List.getElem_toArray, List.getElem_cons_zero, List.getElem_cons_succ, List.setIfInBounds_toArray, List.set_cons_zero, List.set_cons_succ]
  refine wpAnyH_take (i := 14) (v := ?_) rfl (by kernel_rfl) (by kernel_rfl) (by kernel_rfl) (fun _ _ _ h => h) (Or.inl ⟨by rfl, ?_⟩) (by assumption) ?_
  rotate_left
  · (intro w hSw; (try dsimp only at hSw); go_simp; try with_reducible rfl)
  simp only [Act.put, List.getElem_toArray, List.getElem_cons_zero, List.getElem_cons_succ, List.setIfInBounds_toArray, List.set_cons_zero, List.set_cons_succ]
  refine wpAnyH_take (i := 15) (v := ?_) rfl (by kernel_rfl) (by kernel_rfl) (by kernel_rfl) (fun _ _ _ h => h) (Or.inl ⟨by rfl, ?_⟩) (by assumption) ?_
  rotate_left
  · (intro w hSw; (try dsimp only at hSw); go_simp; try with_reducible rfl)
  simp only [Act.put, List.getElem_toArray, List.getElem_cons_zero, List.getElem_cons_succ, List.setIfInBounds_toArray, List.set_cons_zero, List.set_cons_succ]
  refine wpAnyH_take (i := 16) (v := ?_) rfl (by kernel_rfl) (by kernel_rfl) (by kernel_rfl) (fun _ _ _ h => h) (Or.inl ⟨by rfl, ?_⟩) (by assumption) ?_
  rotate_left
  · (intro w hSw; (try dsimp only at hSw); go_simp; try with_reducible rfl)
  simp only [Act.put, List.getElem_toArray, List.getElem_cons_zero, List.getElem_cons_succ, List.setIfInBounds_toArray, List.set_cons_zero, List.set_cons_succ]
  refine wpAnyH_take (i := 17) (v := ?_) rfl (by kernel_rfl) (by kernel_rfl) (by kernel_rfl) (fun _ _ _ h => h) (Or.inl ⟨by rfl, ?_⟩) (by assumption) ?_
  rotate_left
  · (intro w hSw; (try dsimp only at hSw); go_simp; try with_reducible rfl)
  simp only [Act.put, List.getElem_toArray, List.getElem_cons_zero, List.getElem_cons_succ, List.setIfInBounds_toArray, List.set_cons_zero, List.set_cons_succ]
  refine wpAnyH_take (i := 18) (v := ?_) rfl (by kernel_rfl) (by kernel_rfl) (by kernel_rfl) (fun _ _ _ h => h) (Or.inl ⟨by rfl, ?_⟩) (by assumption) ?_
  rotate_left
  · (intro w hSw; (try dsimp only at hSw); go_simp; try with_reducible rfl)
  simp only [Act.put, List.getElem_toArray, List.getElem_cons_zero, List.getElem_cons_succ, List.setIfInBounds_toArray, List.set_cons_zero, List.set_cons_succ]
  refine wpAnyH_take (i := 19) (v := ?_) rfl (by kernel_rfl) (by kernel_rfl) (by kernel_rfl) (fun _ _ _ h => h) (Or.inl ⟨by rfl, ?_⟩) (by assumption) ?_
  rotate_left
  · (intro w hSw; (try dsimp only at hSw); go_simp; try with_reducible rfl)
  simp only [Act.put, List.getElem_toArray, List.getElem_cons_zero, List.getElem_cons_succ, List.setIfInBounds_toArray, List.set_cons_zero, List.set_cons_succ]
  refine wpAnyH_done (by kernel_rfl) ?_ _
  clear hS
  go_upto_region 4 with fail
  clear hbc hbcd hbcn hsum hsum2 hda hdad hdan hone
  have hs1 := HSUB.out
  have hs2 : IntKind.i64.wrap ((a : Int) - (c : Int)) = (ac : Int) := (IntWalk.i64_left _).trans HSUB.out
  have ha1 : ac < qn := HAR.out.1
  have ha2 : a < rn := HAR.out.2
  have ha1z : (ac : Int) < (qn : Int) := by omega
  have ha2z : (a : Int) < (rn : Int) := by omega
  refine wp_region_held_drew (S := fun W => W.cell? ⟨f, 0, none⟩ = some (.int .i64 z) ∧ W.cell? ⟨f, 1, none⟩ = some (.slice (some ⟨rb, rf, none⟩) rn rc) ∧ W.cell? ⟨f, 2, none⟩ = some (.int .i64 (c : Int)) ∧ W.cell? ⟨f, 3, none⟩ = some (.slice (some ⟨qb, qf, none⟩) qn qc) ∧ W.cell? ⟨qb, qf + ac, none⟩ = some (.slice pa pnn pcc) ∧ W.cell? ⟨rb, rf + a, none⟩ = some (.slice ra rnn rcc)) (by kernel_rfl) (HS4.out _ (Below.drew (Below.drew (Below.refl _ _)))) (fun hS => ?_)
  refine wpAnyH_take (i := 0) (v := ?_) rfl (by kernel_rfl) (by kernel_rfl) (by kernel_rfl) (fun _ _ _ h => h) (Or.inl ⟨by rfl, ?_⟩) (by assumption) ?_
  rotate_left
  · (intro w hSw; (try dsimp only at hSw); go_simp; try with_reducible rfl)
  simp only [Act.put, List.getElem_toArray, List.getElem_cons_zero, List.setIfInBounds_toArray, List.set_cons_zero, List.set_cons_succ]
  refine wpAnyH_take (i := 1) (v := ?_) rfl (by kernel_rfl) (by kernel_rfl) (by kernel_rfl) (fun _ _ _ h => h) (Or.inl ⟨by rfl, ?_⟩) (by assumption) ?_
  rotate_left
  · (intro w hSw; (try dsimp only at hSw); go_simp; try with_reducible rfl)
  simp only [Act.put, List.getElem_toArray, List.getElem_cons_zero, List.getElem_cons_succ, List.setIfInBounds_toArray, List.set_cons_zero, List.set_cons_succ]
  refine wpAnyH_take (i := 2) (v := ?_) rfl (by kernel_rfl) (by kernel_rfl) (by kernel_rfl) (fun _ _ _ h => h) (Or.inl ⟨by rfl, ?_⟩) (by assumption) ?_
  rotate_left
  · (intro w hSw; (try dsimp only at hSw); go_simp; try with_reducible rfl)
  simp only [Act.put, List.getElem_toArray, List.getElem_cons_zero, List.getElem_cons_succ, List.setIfInBounds_toArray, List.set_cons_zero, List.set_cons_succ]
  refine wpAnyH_take (i := 3) (v := ?_) rfl (by kernel_rfl) (by kernel_rfl) (by kernel_rfl) (fun _ _ _ h => h) (Or.inl ⟨by rfl, ?_⟩) (by assumption) ?_
  rotate_left
  · (intro w hSw; (try dsimp only at hSw); go_simp; try with_reducible rfl)
  simp only [Act.put, List.getElem_toArray, List.getElem_cons_zero, List.getElem_cons_succ, List.setIfInBounds_toArray, List.set_cons_zero, List.set_cons_succ]
  refine wpAnyH_take (i := 4) (v := ?_) rfl (by kernel_rfl) (by kernel_rfl) (by kernel_rfl) (fun _ _ _ h => h) (Or.inl ⟨by rfl, ?_⟩) (by assumption) ?_
  rotate_left
  · (intro w hSw; (try dsimp only at hSw); go_simp; try with_reducible rfl)
  simp only [Act.put, List.getElem_toArray, List.getElem_cons_zero, List.getElem_cons_succ, List.setIfInBounds_toArray, List.set_cons_zero, List.set_cons_succ]
  refine wpAnyH_take (i := 5) (v := ?_) rfl (by kernel_rfl) (by kernel_rfl) (by kernel_rfl) (fun _ _ _ h => h) (Or.inl ⟨by rfl, ?_⟩) (by assumption) ?_
  rotate_left
  · (intro w hSw; (try dsimp only at hSw); go_simp; try with_reducible rfl)
  simp only [Act.put, List.getElem_toArray, List.getElem_cons_zero, List.getElem_cons_succ, List.setIfInBounds_toArray, List.set_cons_zero, List.set_cons_succ]
  refine wpAnyH_take (i := 6) (v := ?_) rfl (by kernel_rfl) (by kernel_rfl) (by kernel_rfl) (fun _ _ _ h => h) (Or.inl ⟨by rfl, ?_⟩) (by assumption) ?_
  rotate_left
  · (intro w hSw; (try dsimp only at hSw); go_simp; try with_reducible rfl)
  simp only [Act.put, List.getElem_toArray, List.getElem_cons_zero, List.getElem_cons_succ, List.setIfInBounds_toArray, List.set_cons_zero, List.set_cons_succ]
  refine wpAnyH_take (i := 7) (v := ?_) rfl (by kernel_rfl) (by kernel_rfl) (by kernel_rfl) (fun _ _ _ h => h) (Or.inl ⟨by rfl, ?_⟩) (by assumption) ?_
  rotate_left
  · (intro w hSw; (try dsimp only at hSw); go_simp; try with_reducible rfl)
  simp only [Act.put, List.getElem_toArray, List.getElem_cons_zero, List.getElem_cons_succ, List.setIfInBounds_toArray, List.set_cons_zero, List.set_cons_succ]
  refine wpAnyH_take (i := 8) (v := ?_) rfl (by kernel_rfl) (by kernel_rfl) (by kernel_rfl) (fun _ _ _ h => h) (Or.inl ⟨by rfl, ?_⟩) (by assumption) ?_
  rotate_left
  · (intro w hSw; (try dsimp only at hSw); go_simp; try with_reducible rfl)
  simp only [Act.put, List.getElem_toArray, List.getElem_cons_zero, List.getElem_cons_succ, List.setIfInBounds_toArray, List.set_cons_zero, List.set_cons_succ]
  refine wpAnyH_take (i := 9) (v := ?_) rfl (by kernel_rfl) (by kernel_rfl) (by kernel_rfl) (fun _ _ _ h => h) (Or.inl ⟨by rfl, ?_⟩) (by assumption) ?_
  rotate_left
  · (intro w hSw; (try dsimp only at hSw); go_simp; try with_reducible rfl)
  simp only [Act.put, List.getElem_toArray, List.getElem_cons_zero, List.getElem_cons_succ, List.setIfInBounds_toArray, List.set_cons_zero, List.set_cons_succ]
  refine wpAnyH_take (i := 10) (v := ?_) rfl (by kernel_rfl) (by kernel_rfl) (by kernel_rfl) (fun _ _ _ h => h) (Or.inl ⟨by rfl, ?_⟩) (by assumption) ?_
  rotate_left
  · (intro w hSw; (try dsimp only at hSw); go_simp; try with_reducible rfl)
  simp only [Act.put, List.getElem_toArray, List.getElem_cons_zero, List.getElem_cons_succ, List.setIfInBounds_toArray, List.set_cons_zero, List.set_cons_succ]
  refine wpAnyH_take (i := 11) (v := ?_) rfl (by kernel_rfl) (by kernel_rfl) (by kernel_rfl) (fun _ _ _ h => h) (Or.inl ⟨by rfl, ?_⟩) (by assumption) ?_
  rotate_left
  · (intro w hSw; (try dsimp only at hSw); go_simp; try with_reducible rfl)
  simp only [Act.put, List.getElem_toArray, List.getElem_cons_zero, List.getElem_cons_succ, List.setIfInBounds_toArray, List.set_cons_zero, List.set_cons_succ]
  refine wpAnyH_take (i := 12) (v := ?_) rfl (by kernel_rfl) (by kernel_rfl) (by kernel_rfl) (fun _ _ _ h => h) (Or.inl ⟨by rfl, ?_⟩) (by assumption) ?_
  rotate_left
  · (intro w hSw; (try dsimp only at hSw); go_simp; try with_reducible rfl)
  simp only [Act.put, List.getElem_toArray, List.getElem_cons_zero, List.getElem_cons_succ, List.setIfInBounds_toArray, List.set_cons_zero, List.set_cons_succ]
  refine wpAnyH_take (i := 13) (v := ?_) rfl (by kernel_rfl) (by kernel_rfl) (by kernel_rfl) (fun _ _ _ h => h) (Or.inl ⟨by rfl, ?_⟩) (by assumption) ?_
  rotate_left
  · (intro w hSw; (try dsimp only at hSw); go_simp; try with_reducible rfl)
  simp only [Act.put, List.getElem_toArray, List.getElem_cons_zero, List.getElem_cons_succ, List.setIfInBounds_toArray, List.set_cons_zero, List.set_cons_succ]
  refine wpAnyH_take (i := 14) (v := ?_) rfl (by kernel_rfl) (by kernel_rfl) (by kernel_rfl) (fun _ _ _ h => h) (Or.inl ⟨by rfl, ?_⟩) (by assumption) ?_
  rotate_left
  · (intro w hSw; (try dsimp only at hSw); go_simp; try with_reducible rfl)
  simp only [Act.put, List.getElem_toArray, List.getElem_cons_zero, List.getElem_cons_succ, List.setIfInBounds_toArray, List.set_cons_zero, List.set_cons_succ]
  refine wpAnyH_take (i := 15) (v := ?_) rfl (by kernel_rfl) (by kernel_rfl) (by kernel_rfl) (fun _ _ _ h => h) (Or.inl ⟨by rfl, ?_⟩) (by assumption) ?_
  rotate_left
  · (intro w hSw; (try dsimp only at hSw); go_simp; try with_reducible rfl)
  simp only [Act.put, List.getElem_toArray, List.getElem_cons_zero, List.getElem_cons_succ, List.setIfInBounds_toArray, List.set_cons_zero, List.set_cons_succ]
  refine wpAnyH_take (i := 17) (v := ?_) rfl (by kernel_rfl) (by kernel_rfl) (by kernel_rfl) (fun _ _ _ h => h) (Or.inl ⟨by rfl, ?_⟩) (by assumption) ?_
  rotate_left
  · (intro w hSw; (try dsimp only at hSw); go_simp; try with_reducible rfl)
  simp only [Act.put, List.getElem_toArray, List.getElem_cons_zero, List.getElem_cons_succ, List.setIfInBounds_toArray, List.set_cons_zero, List.set_cons_succ]
  refine wpAnyH_take (i := 18) (v := ?_) rfl (by kernel_rfl) (by kernel_rfl) (by kernel_rfl) (fun _ _ _ h => h) (Or.inl ⟨by rfl, ?_⟩) (by assumption) ?_
  rotate_left
  · (intro w hSw; (try dsimp only at hSw); go_simp; try with_reducible rfl)
  simp only [Act.put, List.getElem_toArray, List.getElem_cons_zero, List.getElem_cons_succ, List.setIfInBounds_toArray, List.set_cons_zero, List.set_cons_succ]
  refine wpAnyH_take (i := 19) (v := ?_) rfl (by kernel_rfl) (by kernel_rfl) (by kernel_rfl) (fun _ _ _ h => h) (Or.inl ⟨by rfl, ?_⟩) (by assumption) ?_
  rotate_left
  · (intro w hSw; (try dsimp only at hSw); go_simp; try with_reducible rfl)
  simp only [Act.put, List.getElem_toArray, List.getElem_cons_zero, List.getElem_cons_succ, List.setIfInBounds_toArray, List.set_cons_zero, List.set_cons_succ]
  refine wpAnyH_take (i := 20) (v := ?_) rfl (by kernel_rfl) (by kernel_rfl) (by kernel_rfl) (fun _ _ _ h => h) (Or.inl ⟨by rfl, ?_⟩) (by assumption) ?_
  rotate_left
  · (intro w hSw; (try dsimp only at hSw); go_simp; try with_reducible rfl)
  simp only [Act.put, List.getElem_toArray, List.getElem_cons_zero, List.getElem_cons_succ, List.setIfInBounds_toArray, List.set_cons_zero, List.set_cons_succ]
  refine wpAnyH_take (i := 21) (v := ?_) rfl (by kernel_rfl) (by kernel_rfl) (by kernel_rfl) (fun _ _ _ h => h) (Or.inl ⟨by rfl, ?_⟩) (by assumption) ?_
  rotate_left
  · (intro w hSw; (try dsimp only at hSw); go_simp; try with_reducible rfl)
  simp only [Act.put, List.getElem_toArray, List.getElem_cons_zero, List.getElem_cons_succ, List.setIfInBounds_toArray, List.set_cons_zero, List.set_cons_succ]
  refine wpAnyH_take (i := 22) (v := ?_) rfl (by kernel_rfl) (by kernel_rfl) (by kernel_rfl) (fun _ _ _ h => h) (Or.inl ⟨by rfl, ?_⟩) (by assumption) ?_
  rotate_left
  · (intro w hSw; (try dsimp only at hSw); go_simp; try with_reducible rfl)
  simp only [Act.put, List.getElem_toArray, List.getElem_cons_zero, List.getElem_cons_succ, List.setIfInBounds_toArray, List.set_cons_zero, List.set_cons_succ]
  refine wpAnyH_take (i := 23) (v := ?_) rfl (by kernel_rfl) (by kernel_rfl) (by kernel_rfl) (fun _ _ _ h => h) (Or.inl ⟨by rfl, ?_⟩) (by assumption) ?_
  rotate_left
  · (intro w hSw; (try dsimp only at hSw); go_simp; try with_reducible rfl)
  simp only [Act.put, List.getElem_toArray, List.getElem_cons_zero, List.getElem_cons_succ, List.setIfInBounds_toArray, List.set_cons_zero, List.set_cons_succ]
  refine wpAnyH_take (i := 24) (v := ?_) rfl (by kernel_rfl) (by kernel_rfl) (by kernel_rfl) (fun _ _ _ h => h) (Or.inl ⟨by rfl, ?_⟩) (by assumption) ?_
  rotate_left
  · (intro w hSw; (try dsimp only at hSw); go_simp; try with_reducible rfl)
  simp only [Act.put, List.getElem_toArray, List.getElem_cons_zero, List.getElem_cons_succ, List.setIfInBounds_toArray, List.set_cons_zero, List.set_cons_succ]
  refine wpAnyH_take (i := 25) (v := ?_) rfl (by kernel_rfl) (by kernel_rfl) (by kernel_rfl) (fun _ _ _ h => h) (Or.inl ⟨by rfl, ?_⟩) (by assumption) ?_
  rotate_left
  · (intro w hSw; (try dsimp only at hSw); go_simp; try with_reducible rfl)
  simp only [Act.put, List.getElem_toArray, List.getElem_cons_zero, List.getElem_cons_succ, List.setIfInBounds_toArray, List.set_cons_zero, List.set_cons_succ]
  refine wpAnyH_take (i := 26) (v := ?_) rfl (by kernel_rfl) (by kernel_rfl) (by kernel_rfl) (fun _ _ _ h => h) (Or.inl ⟨by rfl, ?_⟩) (by assumption) ?_
  rotate_left
  · (intro w hSw; (try dsimp only at hSw); go_simp; try with_reducible rfl)
  simp only [Act.put, List.getElem_toArray, List.getElem_cons_zero, List.getElem_cons_succ, List.setIfInBounds_toArray, List.set_cons_zero, List.set_cons_succ]
  refine wpAnyH_take (i := 27) (v := ?_) rfl (by kernel_rfl) (by kernel_rfl) (by kernel_rfl) (fun _ _ _ h => h) (Or.inl ⟨by rfl, ?_⟩) (by assumption) ?_
  rotate_left
  · (intro w hSw; (try dsimp only at hSw); go_simp; try with_reducible rfl)
  simp only [Act.put, List.getElem_toArray, List.getElem_cons_zero, List.getElem_cons_succ, List.setIfInBounds_toArray, List.set_cons_zero, List.set_cons_succ]
  refine wpAnyH_ready (rs := [16]) (by kernel_rfl) (by simp) ?_
  refine AllReadyH.cons rfl (fun K hK => ?_) AllReadyH.nil
  go_simp
  refine (HLP.out _ (Below.drew (Below.drew (Below.refl _ _)))).mono ?_
  rintro e w1 ⟨xo, tn, tc, rfl, hx1, hx2, hb1⟩
  have HB1 : Hid (Below w.heap.size w w1) := (Below.drew (Below.drew (Below.refl _ _))).trans hb1
  have HX1 : Hid (TxV w1 xo tn tc (0 :: pbs) ∧ TxB w.heap.size xo) := ⟨hx1, hx2⟩
  obtain ⟨k1, HK1⟩ : ∃ k, Hid (kc xo tn tc dp = k) := ⟨_, rfl⟩
  rw [HK1.out]
  go_wp2_with fail
  refine hK.out _ _ (HS4.out _ HB1.out) (fun hHeld2 => ?_)
  clear hK K hb1 hx1 hx2
  refine wpAnyH_ready (rs := [28]) (by kernel_rfl) (by simp) ?_
  refine AllReadyH.cons rfl (fun K hK => ?_) AllReadyH.nil
  go_simp
  refine (HLR.out _ HB1.out).mono ?_
  rintro e w2 ⟨yo, un, uc, rfl, hx1, hx2, hb2⟩
  have HB2 : Hid (Below w.heap.size w w2) := HB1.out.trans (hb2.mono HB1.out.size)
  have HX2 : Hid (TxV w2 yo un uc (0 :: rbs) ∧ TxB w.heap.size yo) := ⟨hx1, hx2.mono HB1.out.size⟩
  have HX3 : Hid (TxV w2 xo tn tc (0 :: pbs) ∧ TxB w.heap.size xo) := ⟨HX1.out.1.below hb2 (Nat.le_refl _), HX1.out.2⟩
  obtain ⟨k2, HK2⟩ : ∃ k, Hid (kc yo un uc dr = k) := ⟨_, rfl⟩
  obtain ⟨k3, HK3⟩ : ∃ k, Hid (pairC xo tn tc dp yo un uc dr none none = k) := ⟨_, rfl⟩
  have HBD3 : Hid (Tryd.prog.built 158 [(0, .agg k1), (1, .agg k2)] = some k3) := by show _ = _; rw [← HK1.out, ← HK2.out, ← HK3.out]; exact built137 _ _ _ _ _ _ dp dr HPL.out HRL.out
  rw [HK2.out]
  go_wp2_with fail
  refine hK.out _ _ (HS4.out _ HB2.out) (fun hHeld2 => ?_)
  clear hK K hb2 hx1 hx2 HX1
  refine wpAnyH_take (i := 29) (v := .agg k3) rfl (by kernel_rfl) (by kernel_rfl) (by kernel_rfl) (fun _ _ _ h => h) (yieldsIf_build (by rfl) 158 #[(0, .tmp 54), (1, .tmp 66)] rfl k3 _ HBD3.out rfl) (by assumption) ?_
  simp only [Act.put, List.getElem_toArray, List.getElem_cons_zero, List.getElem_cons_succ, List.setIfInBounds_toArray, List.set_cons_zero, List.set_cons_succ]
  refine wpAnyH_ready (rs := [30]) (by kernel_rfl) (by simp) ?_
  refine AllReadyH.cons rfl (fun K hK => ?_) AllReadyH.nil
  go_simp
  refine hK.out _ _ (HS4.out _ (HB2.out.alloc HB2.out.size _)) (fun hHeld2 => ?_)
  clear hK K
  refine wpAnyH_take (i := 31) (v := ?_) rfl (by kernel_rfl) (by kernel_rfl) (by kernel_rfl) (fun _ _ _ h => h) (Or.inl ⟨by rfl, ?_⟩) (by assumption) ?_
  rotate_left
  · (intro w hSw; (try dsimp only at hSw); go_simp; try with_reducible rfl)
  simp only [Act.put, List.getElem_toArray, List.getElem_cons_zero, List.getElem_cons_succ, List.setIfInBounds_toArray, List.set_cons_zero, List.set_cons_succ]
  refine wpAnyH_done (by kernel_rfl) ?_ _
  clear hS hHeld2
  go_wp2_with fail
  go_ret
  have hN := heap_alloc_new w2 (.cells k3 158)
  rw [← HK3.out] at hN ⊢
  have hba := bel_alloc w2 (.cells (pairC xo tn tc dp yo un uc dr none none) 158)
  exact ⟨_, rfl, ⟨w2.heap.size, xo, tn, tc, yo, un, uc, none, none, ⟨rfl, HB2.out.size, hN, HPL.out, HRL.out⟩, ⟨HX3.out.1.below hba (Nat.le_refl _), HX3.out.2⟩, ⟨HX2.out.1.below hba (Nat.le_refl _), HX2.out.2⟩, PairV_nil.2 rfl, PairV_nil.2 rfl⟩, HB2.out.alloc HB2.out.size _⟩
end Go.Proofs.YtecacjddggljgaaDoor.Sm
namespace Go.Proofs.YtecacjddggljgaaDoor.Sm
open Go.RowKit
theorem chg_row {w w' : World} {f g : Nat} {o : Obj} (h : Chg f w w') (hg : w.heap[g]? = some o) (hne : g ≠ f) : w'.heap[g]? = some o := (h.block g (Array.getElem?_eq_some_iff.1 hg).1 hne).trans hg
set_option maxHeartbeats 4000000 in
set_option maxRecDepth 100000 in
theorem pair_two (a b c m qn qc f : Nat) (z : Int) (ro : Option Addr) (rn rc : Nat) (qo : Option Addr) (po : Option Addr) (pn pc : Nat) (lot lrt lod lrd : List UInt8) {k : Nat} (ll lr : PT k) (rot rrt rod rrd : List UInt8) (rl rr : PT k) (R1 R2 : Option Addr → Nat → Nat → Prop) (w : World)
    (hf : w.heap[f]? = some (.cells (opC z ro rn rc (c : Int) qo qn qc po pn pc) 110 (0, 0))) (h1 : ¬ b ≤ c) (hcq : c + qn ≤ 9223372036854775807) (h2 : ¬ c + qn ≤ a) (h3 : 2 ≤ b - a) (hb : b ≤ 9223372036854775807) (hm : a + halfN (b - a) = m) (hf0 : f ≠ 1) (hK : WW w 1 ks) (hz : -9223372036854775808 ≤ z ∧ z ≤ 9223372036854775807)
    (H1 : ∀ W, Chg f w W → W.heap[f]? = some (.cells (opC z ro rn rc (c : Int) qo qn qc po pn pc) 110 (0, 0)) → Calls Tryd.prog 69 #[.pointer (some ⟨f, 0, none⟩), .int .i64 (a : Int), .int .i64 (m : Int)] W fun e w' => ∃ p, e = .returned (.pointer p) ∧ PairV w' W.heap.size (.mk lot lrt lod lrd ll lr) p ∧ (∃ po2 pn2 pc2, R1 po2 pn2 pc2 ∧ w'.heap[f]? = some (.cells (opC z ro rn rc (c : Int) qo qn qc po2 pn2 pc2) 110 (0, 0))) ∧ Chg f W w')
    (H2 : ∀ po2 pn2 pc2 W, R1 po2 pn2 pc2 → Chg f w W → W.heap[f]? = some (.cells (opC z ro rn rc (c : Int) qo qn qc po2 pn2 pc2) 110 (0, 0)) → Calls Tryd.prog 69 #[.pointer (some ⟨f, 0, none⟩), .int .i64 (m : Int), .int .i64 (b : Int)] W fun e w' => ∃ p, e = .returned (.pointer p) ∧ PairV w' W.heap.size (.mk rot rrt rod rrd rl rr) p ∧ (∃ po3 pn3 pc3, R2 po3 pn3 pc3 ∧ w'.heap[f]? = some (.cells (opC z ro rn rc (c : Int) qo qn qc po3 pn3 pc3) 110 (0, 0))) ∧ Chg f W w') :
    Calls Tryd.prog 69 #[.pointer (some ⟨f, 0, none⟩), .int .i64 (a : Int), .int .i64 (b : Int)] w fun e w' => ∃ p, e = .returned (.pointer p) ∧ PairV w' w.heap.size (.mk (1 :: (lod ++ rod)) (1 :: (lrd ++ rrd)) (nodeD z lod rod) (nodeD z lrd rrd) (.mk lot lrt lod lrd ll lr) (.mk rot rrt rod rrd rl rr)) p ∧ (∃ po3 pn3 pc3, R2 po3 pn3 pc3 ∧ w'.heap[f]? = some (.cells (opC z ro rn rc (c : Int) qo qn qc po3 pn3 pc3) 110 (0, 0))) ∧ Chg f w w' := by
  obtain ⟨dp, HDP⟩ : ∃ x, Hid (nodeD z lod rod = x) := ⟨_, rfl⟩
  obtain ⟨dr, HDR⟩ : ∃ x, Hid (nodeD z lrd rrd = x) := ⟨_, rfl⟩
  have HPL : Hid (dp.length = 32) := by show _ = _; rw [← HDP.out]; exact nodeD_length z _ _
  have HRL : Hid (dr.length = 32) := by show _ = _; rw [← HDR.out]; exact nodeD_length z _ _
  rw [HDP.out, HDR.out]
  have HH1 : Hid _ := H1
  have HH2 : Hid _ := H2
  have HFL : Hid (f < w.heap.size) := (Array.getElem?_eq_some_iff.1 hf).1
  have HF0 : Hid (f ≠ 1) := hf0
  have HNA : Hid (∀ W lo ln lc l ro rn rc r, Chg f w W → l.length = 32 → r.length = 32 → Calls Tryd.prog 100 #[.agg #[.int .i64 z], .agg (kc lo ln lc l), .agg (kc ro rn rc r)] W fun e w' => ∃ xo tn tc, e = .returned (.agg (kc xo tn tc (nodeD z l r))) ∧ TxV w' xo tn tc (1 :: (l ++ r)) ∧ TxB W.heap.size xo ∧ Below W.heap.size W w') := fun W lo ln lc l ro rn rc r hW h5 h6 =>
    nodeAbove_any z lo ln lc l ro rn rc r W h5 h6 (hK.chg hW (fun e => hf0 e.symm) (by have := WW_size hK; omega)) (by have := WW_size hK; have := hW.size; omega) hz
  have HFW : Hid _ := hf
  have HS1 : Hid (∀ W, Below w.heap.size w W → W.cell? ⟨f, 2, none⟩ = some (.int .i64 (c : Int)) ∧ W.cell? ⟨f, 3, none⟩ = some (.slice qo qn qc)) := fun W hW => ⟨bel_cell2 hW (Nat.le_refl _) (op_cells hf).2.2.1, bel_cell2 hW (Nat.le_refl _) (op_cells hf).2.2.2.1⟩
  have hbc : ¬ (b : Int) ≤ (c : Int) := by omega
  have hbcd : decide ((b : Int) ≤ (c : Int)) = false := by simp; omega
  have hbcn : decide (b ≤ c) = false := by simp; omega
  have hsum : wrap64 ((c : Int) + (qn : Int)) = ((c + qn : Nat) : Int) := wadd (Nat.le_refl _) hcq
  obtain ⟨d, HDD⟩ : ∃ d : Nat, Hid (c + qn = d) := ⟨_, rfl⟩
  rw [HDD.out] at hsum
  have hsum2 : IntKind.i64.wrap ((c : Int) + (qn : Int)) = (d : Int) := (IntWalk.i64_left _).trans hsum
  have hda : ¬ (d : Int) ≤ (a : Int) := by have := HDD.out; omega
  have hdad : decide ((d : Int) ≤ (a : Int)) = false := by have := HDD.out; simp; omega
  have hdan : decide (d ≤ a) = false := by have := HDD.out; simp; omega
  obtain ⟨n, HN⟩ : ∃ x : Nat, Hid (b - a = x) := ⟨_, rfl⟩
  have hsub : wrap64 ((b : Int) - (a : Int)) = (n : Int) := by rw [← HN.out]; exact wsub (by omega) hb
  have hn1 : ¬ (n : Int) = 1 := by have := HN.out; omega
  have hn1d : ((n : Int) == 1) = false := by have := HN.out; simp; omega
  have hn1n : ¬ n = 1 := by have := HN.out; omega
  obtain ⟨s1, s2, -⟩ := halfN_spec (b - a) h3 (by omega)
  have HLC : Hid (∀ W, Calls Tryd.prog 91 #[.int .i64 (n : Int)] W fun e w' => e = .returned (.int .i64 (halfN n : Int)) ∧ Below W.heap.size W w') := fun W => left_any n W (by have := HN.out; omega) (by have := HN.out; omega)
  rw [HN.out] at hm s1 s2
  obtain ⟨hh, HHN⟩ : ∃ x : Nat, Hid (halfN n = x) := ⟨_, rfl⟩
  rw [HHN.out] at hm s1 s2 HLC
  have hadd : wrap64 ((a : Int) + (hh : Int)) = (m : Int) := by rw [← hm]; exact wadd (n := b) (by have := HN.out; omega) hb
  have HADD : Hid (wrap64 ((a : Int) + (hh : Int)) = (m : Int)) := hadd
  have HSUB : Hid (wrap64 ((b : Int) - (a : Int)) = (n : Int)) := hsub
  clear hf H1 H2 h1 h2 hcq hb h3 hm hf0 hK hz s1 s2 hadd
  go_enter Tryd.func69, Tryd.ntmps69
  go_upto_region 1 with fail
  refine wp_region_held_drew (S := fun W => W.cell? ⟨f, 2, none⟩ = some (.int .i64 (c : Int)) ∧ W.cell? ⟨f, 3, none⟩ = some (.slice qo qn qc)) (by kernel_rfl) (HS1.out _ (Below.drew (Below.refl _ _))) (fun hS => ?_)
  refine wpAnyH_take (i := 0) (v := ?_) rfl (by kernel_rfl) (by kernel_rfl) (by kernel_rfl) (fun _ _ _ h => h) (Or.inl ⟨by rfl, ?_⟩) (by assumption) ?_
  rotate_left
  · (intro w hSw; (try dsimp only at hSw); go_simp; try with_reducible rfl)
  simp only [Act.put, List.getElem_toArray, List.getElem_cons_zero, List.setIfInBounds_toArray, List.set_cons_zero, List.set_cons_succ]
  refine wpAnyH_take (i := 1) (v := ?_) rfl (by kernel_rfl) (by kernel_rfl) (by kernel_rfl) (fun _ _ _ h => h) (Or.inl ⟨by rfl, ?_⟩) (by assumption) ?_
  rotate_left
  · (intro w hSw; (try dsimp only at hSw); go_simp; try with_reducible rfl)
  simp only [Act.put, List.getElem_toArray, List.getElem_cons_zero, List.getElem_cons_succ, List.setIfInBounds_toArray, List.set_cons_zero, List.set_cons_succ]
  refine wpAnyH_take (i := 2) (v := ?_) rfl (by kernel_rfl) (by kernel_rfl) (by kernel_rfl) (fun _ _ _ h => h) (Or.inl ⟨by rfl, ?_⟩) (by assumption) ?_
  rotate_left
  · (intro w hSw; (try dsimp only at hSw); go_simp; try with_reducible rfl)
  simp only [Act.put, List.getElem_toArray, List.getElem_cons_zero, List.getElem_cons_succ, List.setIfInBounds_toArray, List.set_cons_zero, List.set_cons_succ]
  refine wpAnyH_take (i := 3) (v := ?_) rfl (by kernel_rfl) (by kernel_rfl) (by kernel_rfl) (fun _ _ _ h => h) (Or.inl ⟨by rfl, ?_⟩) (by assumption) ?_
  rotate_left
  · (intro w hSw; (try dsimp only at hSw); go_simp; try with_reducible rfl)
  simp only [Act.put, List.getElem_toArray, List.getElem_cons_zero, List.getElem_cons_succ, List.setIfInBounds_toArray, List.set_cons_zero, List.set_cons_succ]
  refine wpAnyH_take (i := 4) (v := ?_) rfl (by kernel_rfl) (by kernel_rfl) (by kernel_rfl) (fun _ _ _ h => h) (Or.inl ⟨by rfl, ?_⟩) (by assumption) ?_
  rotate_left
  · (intro w hSw; (try dsimp only at hSw); go_simp; try with_reducible rfl)
  simp only [Act.put, List.getElem_toArray, List.getElem_cons_zero, List.getElem_cons_succ, List.setIfInBounds_toArray, List.set_cons_zero, List.set_cons_succ]
  refine wpAnyH_take (i := 5) (v := ?_) rfl (by kernel_rfl) (by kernel_rfl) (by kernel_rfl) (fun _ _ _ h => h) (Or.inl ⟨by rfl, ?_⟩) (by assumption) ?_
  rotate_left
  · (intro w hSw; (try dsimp only at hSw); go_simp; try with_reducible rfl)
  simp only [Act.put, List.getElem_toArray, List.getElem_cons_zero, List.getElem_cons_succ, List.setIfInBounds_toArray, List.set_cons_zero, List.set_cons_succ]
  refine wpAnyH_take (i := 6) (v := ?_) rfl (by kernel_rfl) (by kernel_rfl) (by kernel_rfl) (fun _ _ _ h => h) (Or.inl ⟨by rfl, ?_⟩) (by assumption) ?_
  rotate_left
  · (intro w hSw; (try dsimp only at hSw); go_simp; try with_reducible rfl)
  simp only [Act.put, List.getElem_toArray, List.getElem_cons_zero, List.getElem_cons_succ, List.setIfInBounds_toArray, List.set_cons_zero, List.set_cons_succ]
  refine wpAnyH_take (i := 7) (v := ?_) rfl (by kernel_rfl) (by kernel_rfl) (by kernel_rfl) (fun _ _ _ h => h) (Or.inl ⟨by rfl, ?_⟩) (by assumption) ?_
  rotate_left
  · (intro w hSw; (try dsimp only at hSw); go_simp; try with_reducible rfl)
  simp only [Act.put, List.getElem_toArray, List.getElem_cons_zero, List.getElem_cons_succ, List.setIfInBounds_toArray, List.set_cons_zero, List.set_cons_succ]
  refine wpAnyH_take (i := 8) (v := ?_) rfl (by kernel_rfl) (by kernel_rfl) (by kernel_rfl) (fun _ _ _ h => h) (Or.inl ⟨by rfl, ?_⟩) (by assumption) ?_
  rotate_left
  · (intro w hSw; (try dsimp only at hSw); go_simp; try with_reducible rfl)
  simp only [Act.put, List.getElem_toArray, List.getElem_cons_zero, List.getElem_cons_succ, List.setIfInBounds_toArray, List.set_cons_zero, List.set_cons_succ]
  refine wpAnyH_take (i := 9) (v := ?_) rfl (by kernel_rfl) (by kernel_rfl) (by kernel_rfl) (fun _ _ _ h => h) (Or.inl ⟨by rfl, ?_⟩) (by assumption) ?_
  rotate_left
  · (intro w hSw; (try dsimp only at hSw); go_simp; try with_reducible rfl)
  simp only [Act.put, List.getElem_toArray, List.getElem_cons_zero, List.getElem_cons_succ, List.setIfInBounds_toArray, List.set_cons_zero, List.set_cons_succ]
  refine wpAnyH_take (i := 10) (v := ?_) rfl (by kernel_rfl) (by kernel_rfl) (by kernel_rfl) (fun _ _ _ h => h) (Or.inl ⟨by rfl, ?_⟩) (by assumption) ?_
  rotate_left
  · (intro w hSw; (try dsimp only at hSw); go_simp; try with_reducible rfl)
  simp only [Act.put, List.getElem_toArray, List.getElem_cons_zero, List.getElem_cons_succ, List.setIfInBounds_toArray, List.set_cons_zero, List.set_cons_succ]
  refine wpAnyH_take (i := 11) (v := ?_) rfl (by kernel_rfl) (by kernel_rfl) (by kernel_rfl) (fun _ _ _ h => h) (Or.inl ⟨by rfl, ?_⟩) (by assumption) ?_
  rotate_left
  · (intro w hSw; (try dsimp only at hSw); go_simp; try with_reducible rfl)
  simp only [Act.put, List.getElem_toArray, List.getElem_cons_zero, List.getElem_cons_succ, List.setIfInBounds_toArray, List.set_cons_zero, List.set_cons_succ]
  refine wpAnyH_take (i := 12) (v := ?_) rfl (by kernel_rfl) (by kernel_rfl) (by kernel_rfl) (fun _ _ _ h => h) (Or.inl ⟨by rfl, ?_⟩) (by assumption) ?_
  rotate_left
  · (intro w hSw; (try dsimp only at hSw); go_simp; try with_reducible rfl)
  simp only [Act.put, List.getElem_toArray, List.getElem_cons_zero, List.getElem_cons_succ, List.setIfInBounds_toArray, List.set_cons_zero, List.set_cons_succ]
  refine wpAnyH_take (i := 13) (v := ?_) rfl (by kernel_rfl) (by kernel_rfl) (by kernel_rfl) (fun _ _ _ h => h) (Or.inl ⟨by rfl, ?_⟩) (by assumption) ?_
  rotate_left
  · (intro w hSw; (try dsimp only at hSw); go_simp; try with_reducible rfl)
  simp only [Act.put, List.getElem_toArray, List.getElem_cons_zero, List.getElem_cons_succ, List.setIfInBounds_toArray, List.set_cons_zero, List.set_cons_succ]
  refine wpAnyH_take (i := 14) (v := ?_) rfl (by kernel_rfl) (by kernel_rfl) (by kernel_rfl) (fun _ _ _ h => h) (Or.inl ⟨by rfl, ?_⟩) (by assumption) ?_
  rotate_left
  · (intro w hSw; (try dsimp only at hSw); go_simp; try with_reducible rfl)
  simp only [Act.put, List.getElem_toArray, List.getElem_cons_zero, List.getElem_cons_succ, List.setIfInBounds_toArray, List.set_cons_zero, List.set_cons_succ]
  refine wpAnyH_take (i := 15) (v := ?_) rfl (by kernel_rfl) (by kernel_rfl) (by kernel_rfl) (fun _ _ _ h => h) (Or.inl ⟨by rfl, ?_⟩) (by assumption) ?_
  rotate_left
  · (intro w hSw; (try dsimp only at hSw); go_simp; try with_reducible rfl)
  simp only [Act.put, List.getElem_toArray, List.getElem_cons_zero, List.getElem_cons_succ, List.setIfInBounds_toArray, List.set_cons_zero, List.set_cons_succ]
  refine wpAnyH_take (i := 16) (v := ?_) rfl (by kernel_rfl) (by kernel_rfl) (by kernel_rfl) (fun _ _ _ h => h) (Or.inl ⟨by rfl, ?_⟩) (by assumption) ?_
  rotate_left
  · (intro w hSw; (try dsimp only at hSw); go_simp; try with_reducible rfl)
  simp only [Act.put, List.getElem_toArray, List.getElem_cons_zero, List.getElem_cons_succ, List.setIfInBounds_toArray, List.set_cons_zero, List.set_cons_succ]
  refine wpAnyH_take (i := 17) (v := ?_) rfl (by kernel_rfl) (by kernel_rfl) (by kernel_rfl) (fun _ _ _ h => h) (Or.inl ⟨by rfl, ?_⟩) (by assumption) ?_
  rotate_left
  · (intro w hSw; (try dsimp only at hSw); go_simp; try with_reducible rfl)
  simp only [Act.put, List.getElem_toArray, List.getElem_cons_zero, List.getElem_cons_succ, List.setIfInBounds_toArray, List.set_cons_zero, List.set_cons_succ]
  refine wpAnyH_take (i := 18) (v := ?_) rfl (by kernel_rfl) (by kernel_rfl) (by kernel_rfl) (fun _ _ _ h => h) (Or.inl ⟨by rfl, ?_⟩) (by assumption) ?_
  rotate_left
  · (intro w hSw; (try dsimp only at hSw); go_simp; try with_reducible rfl)
  simp only [Act.put, List.getElem_toArray, List.getElem_cons_zero, List.getElem_cons_succ, List.setIfInBounds_toArray, List.set_cons_zero, List.set_cons_succ]
  refine wpAnyH_take (i := 19) (v := ?_) rfl (by kernel_rfl) (by kernel_rfl) (by kernel_rfl) (fun _ _ _ h => h) (Or.inl ⟨by rfl, ?_⟩) (by assumption) ?_
  rotate_left
  · (intro w hSw; (try dsimp only at hSw); go_simp; try with_reducible rfl)
  simp only [Act.put, List.getElem_toArray, List.getElem_cons_zero, List.getElem_cons_succ, List.setIfInBounds_toArray, List.set_cons_zero, List.set_cons_succ]
  refine wpAnyH_done (by kernel_rfl) ?_ _
  clear hS
  go_upto_region 5 with fail
  clear hbc hbcd hbcn hsum hsum2 hda hdad hdan hn1 hn1d hn1n
  go_wp2_with fail
  refine (HLC.out _).mono ?_
  rintro e w4 ⟨rfl, hb4⟩
  have HB4 : Hid (Below w.heap.size w w4) := (Below.drew (Below.refl _ _)).trans hb4
  have HF4 : Hid (w4.heap[f]? = some (.cells (opC z ro rn rc (c : Int) qo qn qc po pn pc) 110 (0, 0))) := (HB4.out.block _ HFL.out).trans HFW.out
  have HC4 : Hid (Chg f w w4) := chg_of_below HB4.out (Nat.le_refl _)
  have hadd := HADD.out
  clear hb4 hsub
  go_wp2_with fail
  simp only [hadd]
  clear hadd
  refine (HH1.out _ HC4.out HF4.out).mono ?_
  rintro e w5 ⟨p1, rfl, hp1, ⟨po2, pn2, pc2, hr1, hf5⟩, hc5⟩
  have HP1 : Hid (PairV w5 w4.heap.size (.mk lot lrt lod lrd ll lr) p1) := hp1
  have HC5 : Hid (Chg f w w5) := HC4.out.trans hc5
  have HR1 : Hid (R1 po2 pn2 pc2) := hr1
  have HF5 : Hid (w5.heap[f]? = some (.cells (opC z ro rn rc (c : Int) qo qn qc po2 pn2 pc2) 110 (0, 0))) := hf5
  clear hp1 hr1 hf5 hc5
  go_wp2_with fail
  refine (HH2.out _ _ _ _ HR1.out HC5.out HF5.out).mono ?_
  rintro e w7 ⟨p2, rfl, hp2, ⟨po3, pn3, pc3, hr2, hf7⟩, hc7⟩
  have HFB : Hid (f < w4.heap.size ∧ f < w5.heap.size) := ⟨Nat.lt_of_lt_of_le HFL.out HC4.out.size, Nat.lt_of_lt_of_le HFL.out HC5.out.size⟩
  have HQ1 : Hid (PairV w7 w.heap.size (.mk lot lrt lod lrd ll lr) p1) := (PairV.chg hc7 HFB.out.1 HP1.out).mono HC4.out.size
  have HQ2 : Hid (PairV w7 w.heap.size (.mk rot rrt rod rrd rl rr) p2) := PairV.mono HC5.out.size hp2
  have HC7 : Hid (Chg f w w7) := HC5.out.trans hc7
  have HR2 : Hid (R2 po3 pn3 pc3) := hr2
  have HF7 : Hid (w7.heap[f]? = some (.cells (opC z ro rn rc (c : Int) qo qn qc po3 pn3 pc3) 110 (0, 0))) := hf7
  clear hp2 hr2 hf7 hc7 HP1
  obtain ⟨gl, loo, lon, loc, lro, lrn, lrc, llp, lrp, ⟨e1, b1, g1, n1, n2⟩, -⟩ := HQ1.out
  obtain ⟨gr, roo, ron, roc, rro, rrn, rrc, rlp, rrp, ⟨e2, b2, g2, n3, n4⟩, -⟩ := HQ2.out
  obtain ⟨q1, q2, -, -⟩ := pair_rows g1 n1 n2
  obtain ⟨q3, q4, -, -⟩ := pair_rows g2 n3 n4
  subst e1 e2
  have HLN : Hid (lod.length = 32 ∧ lrd.length = 32 ∧ rod.length = 32 ∧ rrd.length = 32) := ⟨n1, n2, n3, n4⟩
  obtain ⟨cl1, HL1⟩ : ∃ x, Hid ((Value.slice loo lon loc :: cellsOf lod) = x) := ⟨_, rfl⟩
  obtain ⟨cl2, HL2⟩ : ∃ x, Hid ((Value.slice lro lrn lrc :: cellsOf lrd) = x) := ⟨_, rfl⟩
  obtain ⟨cr1, HL3⟩ : ∃ x, Hid ((Value.slice roo ron roc :: cellsOf rod) = x) := ⟨_, rfl⟩
  obtain ⟨cr2, HL4⟩ : ∃ x, Hid ((Value.slice rro rrn rrc :: cellsOf rrd) = x) := ⟨_, rfl⟩
  have HI1 : Hid ((Tryd.prog.info? 155).map (·.size) = some cl1.length) := by show _ = _; rw [size134, ← HL1.out, List.length_cons, cellsOf_length, n1]
  have HI2 : Hid ((Tryd.prog.info? 155).map (·.size) = some cl2.length) := by show _ = _; rw [size134, ← HL2.out, List.length_cons, cellsOf_length, n2]
  have HI3 : Hid ((Tryd.prog.info? 155).map (·.size) = some cr1.length) := by show _ = _; rw [size134, ← HL3.out, List.length_cons, cellsOf_length, n3]
  have HI4 : Hid ((Tryd.prog.info? 155).map (·.size) = some cr2.length) := by show _ = _; rw [size134, ← HL4.out, List.length_cons, cellsOf_length, n4]
  rw [HL1.out] at q1
  rw [HL2.out] at q2
  rw [HL3.out] at q3
  rw [HL4.out] at q4
  have HS8 : Hid (∀ W, Below w7.heap.size w7 W → W.cell? ⟨f, 0, none⟩ = some (.int .i64 z) ∧ (W.rangeAt gl 0 cl1 ∧ W.rangeAt gl 33 cl2) ∧ (W.rangeAt gr 0 cr1 ∧ W.rangeAt gr 33 cr2)) := fun W hW =>
    ⟨bel_cell2 hW (Nat.le_refl _) (op_cells HF7.out).1, ⟨range_bel q1 hW (Nat.le_refl _), range_bel q2 hW (Nat.le_refl _)⟩, ⟨range_bel q3 hW (Nat.le_refl _), range_bel q4 hW (Nat.le_refl _)⟩⟩
  have HD1 : Hid (∀ W, Below w7.heap.size w7 W → Calls Tryd.prog 100 #[.agg #[.int .i64 z], .agg cl1.toArray, .agg cr1.toArray] W fun e w' => ∃ xo tn tc, e = .returned (.agg (kc xo tn tc (nodeD z lod rod))) ∧ TxV w' xo tn tc (1 :: (lod ++ rod)) ∧ TxB W.heap.size xo ∧ Below W.heap.size W w') := fun W hW => by
    rw [← HL1.out, ← HL3.out]
    exact HNA.out W loo lon loc lod roo ron roc rod (HC7.out.trans (chg_of_below hW (Nat.le_refl _))) HLN.out.1 HLN.out.2.2.1
  have HD2 : Hid (∀ W, Below w7.heap.size w7 W → Calls Tryd.prog 100 #[.agg #[.int .i64 z], .agg cl2.toArray, .agg cr2.toArray] W fun e w' => ∃ xo tn tc, e = .returned (.agg (kc xo tn tc (nodeD z lrd rrd))) ∧ TxV w' xo tn tc (1 :: (lrd ++ rrd)) ∧ TxB W.heap.size xo ∧ Below W.heap.size W w') := fun W hW => by
    rw [← HL2.out, ← HL4.out]
    exact HNA.out W lro lrn lrc lrd rro rrn rrc rrd (HC7.out.trans (chg_of_below hW (Nat.le_refl _))) HLN.out.2.1 HLN.out.2.2.2
  clear q1 q2 q3 q4 n1 n2 n3 n4 b1 b2 g1 g2 HNA
  rw [HDP.out] at HD1
  rw [HDR.out] at HD2
  go_upto_region 8 with fail
  refine wp_region_held_drew (S := fun W => W.cell? ⟨f, 0, none⟩ = some (.int .i64 z) ∧ (W.rangeAt gl 0 cl1 ∧ W.rangeAt gl 33 cl2) ∧ (W.rangeAt gr 0 cr1 ∧ W.rangeAt gr 33 cr2)) (by kernel_rfl) (HS8.out _ (Below.drew (Below.refl _ _))) (fun hS => ?_)
  refine wpAnyH_take (i := 0) (v := ?_) rfl (by kernel_rfl) (by kernel_rfl) (by kernel_rfl) (fun _ _ _ h => h) (Or.inl ⟨by rfl, ?_⟩) (by assumption) ?_
  rotate_left
  · (intro w hSw; (try dsimp only at hSw); go_simp; try with_reducible rfl)
  simp only [Act.put, List.getElem_toArray, List.getElem_cons_zero, List.setIfInBounds_toArray, List.set_cons_zero, List.set_cons_succ]
  refine wpAnyH_take (i := 1) (v := ?_) rfl (by kernel_rfl) (by kernel_rfl) (by kernel_rfl) (fun _ _ _ h => h) (Or.inl ⟨by rfl, ?_⟩) (by assumption) ?_
  rotate_left
  · (intro w hSw; (try dsimp only at hSw); go_simp; try with_reducible rfl)
  simp only [Act.put, List.getElem_toArray, List.getElem_cons_zero, List.getElem_cons_succ, List.setIfInBounds_toArray, List.set_cons_zero, List.set_cons_succ]
  refine wpAnyH_take (i := 2) (v := ?_) rfl (by kernel_rfl) (by kernel_rfl) (by kernel_rfl) (fun _ _ _ h => h) (Or.inl ⟨by rfl, ?_⟩) (by assumption) ?_
  rotate_left
  · (intro w hSw; (try dsimp only at hSw); go_simp; try with_reducible rfl)
  simp only [Act.put, List.getElem_toArray, List.getElem_cons_zero, List.getElem_cons_succ, List.setIfInBounds_toArray, List.set_cons_zero, List.set_cons_succ]
  refine wpAnyH_take (i := 3) (v := ?_) rfl (by kernel_rfl) (by kernel_rfl) (by kernel_rfl) (fun _ _ _ h => h) (Or.inl ⟨by rfl, ?_⟩) (by assumption) ?_
  rotate_left
  · (intro w hSw; (try dsimp only at hSw); go_simp; try with_reducible rfl)
  simp only [Act.put, List.getElem_toArray, List.getElem_cons_zero, List.getElem_cons_succ, List.setIfInBounds_toArray, List.set_cons_zero, List.set_cons_succ]
  refine wpAnyH_take (i := 4) (v := ?_) rfl (by kernel_rfl) (by kernel_rfl) (by kernel_rfl) (fun _ _ _ h => h) (Or.inl ⟨by rfl, ?_⟩) (by assumption) ?_
  rotate_left
  · (intro w hSw; (try dsimp only at hSw); go_simp; try with_reducible rfl)
  simp only [Act.put, List.getElem_toArray, List.getElem_cons_zero, List.getElem_cons_succ, List.setIfInBounds_toArray, List.set_cons_zero, List.set_cons_succ]
  refine wpAnyH_take (i := 5) (v := ?_) rfl (by kernel_rfl) (by kernel_rfl) (by kernel_rfl) (fun _ _ _ h => h) (Or.inl ⟨by rfl, ?_⟩) (by assumption) ?_
  rotate_left
  · (intro w hSw; (try dsimp only at hSw); go_simp; try with_reducible rfl)
  simp only [Act.put, List.getElem_toArray, List.getElem_cons_zero, List.getElem_cons_succ, List.setIfInBounds_toArray, List.set_cons_zero, List.set_cons_succ]
  refine wpAnyH_take (i := 6) (v := ?_) rfl (by kernel_rfl) (by kernel_rfl) (by kernel_rfl) (fun _ _ _ h => h) (Or.inl ⟨by rfl, ?_⟩) (by assumption) ?_
  rotate_left
  · (intro w hSw; (try dsimp only at hSw); go_simp; try with_reducible rfl)
  simp only [Act.put, List.getElem_toArray, List.getElem_cons_zero, List.getElem_cons_succ, List.setIfInBounds_toArray, List.set_cons_zero, List.set_cons_succ]
  refine wpAnyH_take (i := 7) (v := .agg cl1.toArray) rfl (by kernel_rfl) (by kernel_rfl) (by kernel_rfl) (fun _ _ _ h => h) (yieldsIf_load_mid (by rfl) 155 (.tmp 89) rfl gl 0 rfl cl1 _ (fun _ h => h.2.1.1) Tryd.underlying155 rfl HI1.out) (by assumption) ?_
  simp only [Act.put, List.getElem_toArray, List.getElem_cons_zero, List.getElem_cons_succ, List.setIfInBounds_toArray, List.set_cons_zero, List.set_cons_succ]
  refine wpAnyH_take (i := 8) (v := ?_) rfl (by kernel_rfl) (by kernel_rfl) (by kernel_rfl) (fun _ _ _ h => h) (Or.inl ⟨by rfl, ?_⟩) (by assumption) ?_
  rotate_left
  · (intro w hSw; (try dsimp only at hSw); go_simp; try with_reducible rfl)
  simp only [Act.put, List.getElem_toArray, List.getElem_cons_zero, List.getElem_cons_succ, List.setIfInBounds_toArray, List.set_cons_zero, List.set_cons_succ]
  refine wpAnyH_take (i := 9) (v := ?_) rfl (by kernel_rfl) (by kernel_rfl) (by kernel_rfl) (fun _ _ _ h => h) (Or.inl ⟨by rfl, ?_⟩) (by assumption) ?_
  rotate_left
  · (intro w hSw; (try dsimp only at hSw); go_simp; try with_reducible rfl)
  simp only [Act.put, List.getElem_toArray, List.getElem_cons_zero, List.getElem_cons_succ, List.setIfInBounds_toArray, List.set_cons_zero, List.set_cons_succ]
  refine wpAnyH_take (i := 10) (v := ?_) rfl (by kernel_rfl) (by kernel_rfl) (by kernel_rfl) (fun _ _ _ h => h) (Or.inl ⟨by rfl, ?_⟩) (by assumption) ?_
  rotate_left
  · (intro w hSw; (try dsimp only at hSw); go_simp; try with_reducible rfl)
  simp only [Act.put, List.getElem_toArray, List.getElem_cons_zero, List.getElem_cons_succ, List.setIfInBounds_toArray, List.set_cons_zero, List.set_cons_succ]
  refine wpAnyH_take (i := 11) (v := .agg cr1.toArray) rfl (by kernel_rfl) (by kernel_rfl) (by kernel_rfl) (fun _ _ _ h => h) (yieldsIf_load_mid (by rfl) 155 (.tmp 93) rfl gr 0 rfl cr1 _ (fun _ h => h.2.2.1) Tryd.underlying155 rfl HI3.out) (by assumption) ?_
  simp only [Act.put, List.getElem_toArray, List.getElem_cons_zero, List.getElem_cons_succ, List.setIfInBounds_toArray, List.set_cons_zero, List.set_cons_succ]
  refine wpAnyH_take (i := 13) (v := ?_) rfl (by kernel_rfl) (by kernel_rfl) (by kernel_rfl) (fun _ _ _ h => h) (Or.inl ⟨by rfl, ?_⟩) (by assumption) ?_
  rotate_left
  · (intro w hSw; (try dsimp only at hSw); go_simp; try with_reducible rfl)
  simp only [Act.put, List.getElem_toArray, List.getElem_cons_zero, List.getElem_cons_succ, List.setIfInBounds_toArray, List.set_cons_zero, List.set_cons_succ]
  refine wpAnyH_take (i := 14) (v := ?_) rfl (by kernel_rfl) (by kernel_rfl) (by kernel_rfl) (fun _ _ _ h => h) (Or.inl ⟨by rfl, ?_⟩) (by assumption) ?_
  rotate_left
  · (intro w hSw; (try dsimp only at hSw); go_simp; try with_reducible rfl)
  simp only [Act.put, List.getElem_toArray, List.getElem_cons_zero, List.getElem_cons_succ, List.setIfInBounds_toArray, List.set_cons_zero, List.set_cons_succ]
  refine wpAnyH_take (i := 15) (v := ?_) rfl (by kernel_rfl) (by kernel_rfl) (by kernel_rfl) (fun _ _ _ h => h) (Or.inl ⟨by rfl, ?_⟩) (by assumption) ?_
  rotate_left
  · (intro w hSw; (try dsimp only at hSw); go_simp; try with_reducible rfl)
  simp only [Act.put, List.getElem_toArray, List.getElem_cons_zero, List.getElem_cons_succ, List.setIfInBounds_toArray, List.set_cons_zero, List.set_cons_succ]
  refine wpAnyH_take (i := 16) (v := ?_) rfl (by kernel_rfl) (by kernel_rfl) (by kernel_rfl) (fun _ _ _ h => h) (Or.inl ⟨by rfl, ?_⟩) (by assumption) ?_
  rotate_left
  · (intro w hSw; (try dsimp only at hSw); go_simp; try with_reducible rfl)
  simp only [Act.put, List.getElem_toArray, List.getElem_cons_zero, List.getElem_cons_succ, List.setIfInBounds_toArray, List.set_cons_zero, List.set_cons_succ]
  refine wpAnyH_take (i := 17) (v := ?_) rfl (by kernel_rfl) (by kernel_rfl) (by kernel_rfl) (fun _ _ _ h => h) (Or.inl ⟨by rfl, ?_⟩) (by assumption) ?_
  rotate_left
  · (intro w hSw; (try dsimp only at hSw); go_simp; try with_reducible rfl)
  simp only [Act.put, List.getElem_toArray, List.getElem_cons_zero, List.getElem_cons_succ, List.setIfInBounds_toArray, List.set_cons_zero, List.set_cons_succ]
  refine wpAnyH_take (i := 18) (v := ?_) rfl (by kernel_rfl) (by kernel_rfl) (by kernel_rfl) (fun _ _ _ h => h) (Or.inl ⟨by rfl, ?_⟩) (by assumption) ?_
  rotate_left
  · (intro w hSw; (try dsimp only at hSw); go_simp; try with_reducible rfl)
  simp only [Act.put, List.getElem_toArray, List.getElem_cons_zero, List.getElem_cons_succ, List.setIfInBounds_toArray, List.set_cons_zero, List.set_cons_succ]
  refine wpAnyH_take (i := 19) (v := ?_) rfl (by kernel_rfl) (by kernel_rfl) (by kernel_rfl) (fun _ _ _ h => h) (Or.inl ⟨by rfl, ?_⟩) (by assumption) ?_
  rotate_left
  · (intro w hSw; (try dsimp only at hSw); go_simp; try with_reducible rfl)
  simp only [Act.put, List.getElem_toArray, List.getElem_cons_zero, List.getElem_cons_succ, List.setIfInBounds_toArray, List.set_cons_zero, List.set_cons_succ]
  refine wpAnyH_take (i := 20) (v := .agg cl2.toArray) rfl (by kernel_rfl) (by kernel_rfl) (by kernel_rfl) (fun _ _ _ h => h) (yieldsIf_load_mid (by rfl) 155 (.tmp 102) rfl gl 33 rfl cl2 _ (fun _ h => h.2.1.2) Tryd.underlying155 rfl HI2.out) (by assumption) ?_
  simp only [Act.put, List.getElem_toArray, List.getElem_cons_zero, List.getElem_cons_succ, List.setIfInBounds_toArray, List.set_cons_zero, List.set_cons_succ]
  refine wpAnyH_take (i := 21) (v := ?_) rfl (by kernel_rfl) (by kernel_rfl) (by kernel_rfl) (fun _ _ _ h => h) (Or.inl ⟨by rfl, ?_⟩) (by assumption) ?_
  rotate_left
  · (intro w hSw; (try dsimp only at hSw); go_simp; try with_reducible rfl)
  simp only [Act.put, List.getElem_toArray, List.getElem_cons_zero, List.getElem_cons_succ, List.setIfInBounds_toArray, List.set_cons_zero, List.set_cons_succ]
  refine wpAnyH_take (i := 22) (v := ?_) rfl (by kernel_rfl) (by kernel_rfl) (by kernel_rfl) (fun _ _ _ h => h) (Or.inl ⟨by rfl, ?_⟩) (by assumption) ?_
  rotate_left
  · (intro w hSw; (try dsimp only at hSw); go_simp; try with_reducible rfl)
  simp only [Act.put, List.getElem_toArray, List.getElem_cons_zero, List.getElem_cons_succ, List.setIfInBounds_toArray, List.set_cons_zero, List.set_cons_succ]
  refine wpAnyH_take (i := 23) (v := ?_) rfl (by kernel_rfl) (by kernel_rfl) (by kernel_rfl) (fun _ _ _ h => h) (Or.inl ⟨by rfl, ?_⟩) (by assumption) ?_
  rotate_left
  · (intro w hSw; (try dsimp only at hSw); go_simp; try with_reducible rfl)
  simp only [Act.put, List.getElem_toArray, List.getElem_cons_zero, List.getElem_cons_succ, List.setIfInBounds_toArray, List.set_cons_zero, List.set_cons_succ]
  refine wpAnyH_take (i := 24) (v := .agg cr2.toArray) rfl (by kernel_rfl) (by kernel_rfl) (by kernel_rfl) (fun _ _ _ h => h) (yieldsIf_load_mid (by rfl) 155 (.tmp 106) rfl gr 33 rfl cr2 _ (fun _ h => h.2.2.2) Tryd.underlying155 rfl HI4.out) (by assumption) ?_
  simp only [Act.put, List.getElem_toArray, List.getElem_cons_zero, List.getElem_cons_succ, List.setIfInBounds_toArray, List.set_cons_zero, List.set_cons_succ]
  refine wpAnyH_take (i := 26) (v := ?_) rfl (by kernel_rfl) (by kernel_rfl) (by kernel_rfl) (fun _ _ _ h => h) (Or.inl ⟨by rfl, ?_⟩) (by assumption) ?_
  rotate_left
  · (intro w hSw; (try dsimp only at hSw); go_simp; try with_reducible rfl)
  simp only [Act.put, List.getElem_toArray, List.getElem_cons_zero, List.getElem_cons_succ, List.setIfInBounds_toArray, List.set_cons_zero, List.set_cons_succ]
  refine wpAnyH_take (i := 27) (v := ?_) rfl (by kernel_rfl) (by kernel_rfl) (by kernel_rfl) (fun _ _ _ h => h) (Or.inl ⟨by rfl, ?_⟩) (by assumption) ?_
  rotate_left
  · (intro w hSw; (try dsimp only at hSw); go_simp; try with_reducible rfl)
  simp only [Act.put, List.getElem_toArray, List.getElem_cons_zero, List.getElem_cons_succ, List.setIfInBounds_toArray, List.set_cons_zero, List.set_cons_succ]
  refine wpAnyH_ready (rs := [12]) (by kernel_rfl) (by simp) ?_
  refine AllReadyH.cons rfl (fun K hK => ?_) AllReadyH.nil
  go_simp
  refine (HD1.out _ (Below.drew (Below.refl _ _))).mono ?_
  rintro e w8 ⟨xo, tn, tc, rfl, hx1, hx2, hb1⟩
  have HB1 : Hid (Below w7.heap.size w7 w8) := (Below.drew (Below.refl _ _)).trans hb1
  have HX1 : Hid (TxV w8 xo tn tc (1 :: (lod ++ rod)) ∧ TxB w7.heap.size xo) := ⟨hx1, hx2⟩
  obtain ⟨k1, HK1⟩ : ∃ k, Hid (kc xo tn tc dp = k) := ⟨_, rfl⟩
  rw [HK1.out]
  go_wp2_with fail
  refine hK.out _ _ (HS8.out _ HB1.out) (fun hHeld2 => ?_)
  clear hK K hb1 hx1 hx2
  refine wpAnyH_ready (rs := [25]) (by kernel_rfl) (by simp) ?_
  refine AllReadyH.cons rfl (fun K hK => ?_) AllReadyH.nil
  go_simp
  refine (HD2.out _ HB1.out).mono ?_
  rintro e w9 ⟨yo, un, uc, rfl, hx1, hx2, hb2⟩
  have HB2 : Hid (Below w7.heap.size w7 w9) := HB1.out.trans (hb2.mono HB1.out.size)
  have HX2 : Hid (TxV w9 yo un uc (1 :: (lrd ++ rrd)) ∧ TxB w.heap.size yo) := ⟨hx1, hx2.mono (Nat.le_trans HC7.out.size HB1.out.size)⟩
  have HX3 : Hid (TxV w9 xo tn tc (1 :: (lod ++ rod)) ∧ TxB w.heap.size xo) := ⟨HX1.out.1.below hb2 (Nat.le_refl _), HX1.out.2.mono HC7.out.size⟩
  obtain ⟨k2, HK2⟩ : ∃ k, Hid (kc yo un uc dr = k) := ⟨_, rfl⟩
  obtain ⟨k3, HK3⟩ : ∃ k, Hid (pairC xo tn tc dp yo un uc dr (some ⟨gl, 0, none⟩) (some ⟨gr, 0, none⟩) = k) := ⟨_, rfl⟩
  have HBD3 : Hid (Tryd.prog.built 158 [(0, .agg k1), (1, .agg k2), (2, .pointer (some ⟨gl, 0, none⟩)), (3, .pointer (some ⟨gr, 0, none⟩))] = some k3) := by show _ = _; rw [← HK1.out, ← HK2.out, ← HK3.out]; exact built137p _ _ _ _ _ _ _ _ dp dr HPL.out HRL.out
  rw [HK2.out]
  go_wp2_with fail
  refine hK.out _ _ (HS8.out _ HB2.out) (fun hHeld2 => ?_)
  clear hK K hb2 hx1 hx2 HX1
  refine wpAnyH_take (i := 28) (v := .agg k3) rfl (by kernel_rfl) (by kernel_rfl) (by kernel_rfl) (fun _ _ _ h => h) (yieldsIf_build (by rfl) 158 #[(0, .tmp 95), (1, .tmp 108), (2, .tmp 109), (3, .tmp 110)] rfl k3 _ HBD3.out rfl) (by assumption) ?_
  simp only [Act.put, List.getElem_toArray, List.getElem_cons_zero, List.getElem_cons_succ, List.setIfInBounds_toArray, List.set_cons_zero, List.set_cons_succ]
  refine wpAnyH_ready (rs := [29]) (by kernel_rfl) (by simp) ?_
  refine AllReadyH.cons rfl (fun K hK => ?_) AllReadyH.nil
  go_simp
  refine hK.out _ _ (HS8.out _ (HB2.out.alloc HB2.out.size _)) (fun hHeld2 => ?_)
  clear hK K
  refine wpAnyH_take (i := 30) (v := ?_) rfl (by kernel_rfl) (by kernel_rfl) (by kernel_rfl) (fun _ _ _ h => h) (Or.inl ⟨by rfl, ?_⟩) (by assumption) ?_
  rotate_left
  · (intro w hSw; (try dsimp only at hSw); go_simp; try with_reducible rfl)
  simp only [Act.put, List.getElem_toArray, List.getElem_cons_zero, List.getElem_cons_succ, List.setIfInBounds_toArray, List.set_cons_zero, List.set_cons_succ]
  refine wpAnyH_done (by kernel_rfl) ?_ _
  clear hS hHeld2
  go_wp2_with fail
  go_ret
  have hN := heap_alloc_new w9 (.cells k3 158)
  rw [← HK3.out] at hN ⊢
  have hba := bel_alloc w9 (.cells (pairC xo tn tc dp yo un uc dr (some ⟨gl, 0, none⟩) (some ⟨gr, 0, none⟩)) 158)
  have hbb := HB2.out.alloc HB2.out.size (.cells (pairC xo tn tc dp yo un uc dr (some ⟨gl, 0, none⟩) (some ⟨gr, 0, none⟩)) 158)
  exact ⟨_, rfl, ⟨w9.heap.size, xo, tn, tc, yo, un, uc, _, _, ⟨rfl, Nat.le_trans HC7.out.size HB2.out.size, hN, HPL.out, HRL.out⟩, ⟨HX3.out.1.below hba (Nat.le_refl _), HX3.out.2⟩, ⟨HX2.out.1.below hba (Nat.le_refl _), HX2.out.2⟩, PairV.below hbb (Nat.le_refl _) HQ1.out, PairV.below hbb (Nat.le_refl _) HQ2.out⟩, ⟨po3, pn3, pc3, HR2.out, (hbb.block _ (Array.getElem?_eq_some_iff.1 HF7.out).1).trans HF7.out⟩, HC7.out.trans (chg_of_below hbb (Nat.le_refl _))⟩
end Go.Proofs.YtecacjddggljgaaDoor.Sm

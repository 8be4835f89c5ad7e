/-
  What the law's shown answers: a contract over this translation.
-/
import Derived.Test.YteggjenncmjfmaaMgP
import Derived.Test.YteggjenncmjfmaaSameB
namespace Go.Proofs.Yteggjenncmjfmaa
open Go.RowKit
set_option linter.unusedSectionVars false
set_option linter.unusedVariables false
set_option linter.unusedSimpArgs false
variable [Inhabited E] [DecidableEq E] [Inhabited RV]
def eA : E := ⟨⟨#[97]⟩, ⟨#[49]⟩, false, 1⟩
def eB : E := ⟨⟨#[98]⟩, ⟨#[50]⟩, false, 4⟩
def eB1 : E := ⟨⟨#[98]⟩, ⟨#[49]⟩, false, 2⟩
def eC : E := ⟨⟨#[99]⟩, ⟨#[]⟩, true, 3⟩
theorem shown_merge : mergeL [[eB], [eA, eB1, eC]] false = [eA, eB, eC] := by rfl
theorem shown_merge2 : mergeL [[eB], [eA, eB1, eC]] true = [eA, eB] := by rfl
theorem shown_split : (splitL (List.replicate 65 zE)).map List.length = [33, 32] := by rfl
theorem ent_block {W : World} {g : Nat} {es : List E} {fr : Nat × Nat} (h : W.heap[g]? = some (.cells (flatE es).toArray 29 fr)) : EntsV W (some ⟨g, 0, none⟩) es.length es :=
  ⟨rfl, fun _ => ⟨g, 0, rfl, fun j u hu => by rw [Nat.zero_add, cell_of_row _ _ _ _ _ _ h]; simpa using hu⟩⟩
theorem shown_zero : (madeCells (Value.agg #[.string ByteArray.empty, .string ByteArray.empty, .bool false, .int .i64 0]).cells (65 * 4)).toList = flatE (List.replicate 65 zE) := by kernel_rfl
def shW (w : World) : World := (((((w.alloc (.cells (encE eA).toArray 29)).alloc (.cells (encE eB).toArray 29)).alloc (.cells (encE eC).toArray 29)).alloc (.cells (flatE [eB]).toArray 29)).alloc (.cells (flatE [eA, eB1, eC]).toArray 29)).alloc (.cells #[.slice (some ⟨w.heap.size + 1 + 1 + 1, 0, none⟩) 1 1, .slice (some ⟨w.heap.size + 1 + 1 + 1 + 1, 0, none⟩) 3 3] 25)
theorem shW_size (w : World) : (shW w).heap.size = w.heap.size + 6 := by simp [shW]
theorem shW_below (w : World) : Below w.heap.size w (shW w) := by
  unfold shW
  exact (((((bel_alloc w _).alloc (by simp) _).alloc (by simp; omega) _).alloc (by simp; omega) _).alloc (by simp; omega) _).alloc (by simp; omega) _
theorem sz_alloc (w : World) (o : Obj) : (w.alloc o).heap.size = w.heap.size + 1 := by simp
theorem shW_heap (w : World) : (shW w).heap[w.heap.size]? = some (.cells (encE eA).toArray 29 (0, 0)) ∧ (shW w).heap[w.heap.size + 1]? = some (.cells (encE eB).toArray 29 (0, 0)) ∧ (shW w).heap[w.heap.size + 1 + 1]? = some (.cells (encE eC).toArray 29 (0, 0)) ∧ (shW w).heap[w.heap.size + 1 + 1 + 1]? = some (.cells (flatE [eB]).toArray 29 (0, 0)) ∧ (shW w).heap[w.heap.size + 1 + 1 + 1 + 1]? = some (.cells (flatE [eA, eB1, eC]).toArray 29 (0, 0)) ∧ (shW w).heap[w.heap.size + 1 + 1 + 1 + 1 + 1]? = some (.cells #[.slice (some ⟨w.heap.size + 1 + 1 + 1, 0, none⟩) 1 1, .slice (some ⟨w.heap.size + 1 + 1 + 1 + 1, 0, none⟩) 3 3] 25 (0, 0)) := by
  unfold shW
  have e1 : ∀ (W : World) (o : Obj) (i : Nat), i < W.heap.size → (W.alloc o).heap[i]? = W.heap[i]? := fun W o i hi => by rw [heap_alloc_get, if_neg (by omega)]
  have e2 : ∀ (W : World) (o : Obj) (i : Nat), i = W.heap.size → (W.alloc o).heap[i]? = some o := fun W o i hi => by rw [heap_alloc_get, if_pos hi]
  refine ⟨?_, ?_, ?_, ?_, ?_, ?_⟩
  · rw [e1 _ _ _ (by simp only [sz_alloc]; omega), e1 _ _ _ (by simp only [sz_alloc]; omega), e1 _ _ _ (by simp only [sz_alloc]; omega), e1 _ _ _ (by simp only [sz_alloc]; omega), e1 _ _ _ (by simp only [sz_alloc]; omega), e2 _ _ _ (by simp only [sz_alloc])]
  · rw [e1 _ _ _ (by simp only [sz_alloc]; omega), e1 _ _ _ (by simp only [sz_alloc]; omega), e1 _ _ _ (by simp only [sz_alloc]; omega), e1 _ _ _ (by simp only [sz_alloc]; omega), e2 _ _ _ (by simp only [sz_alloc])]
  · rw [e1 _ _ _ (by simp only [sz_alloc]; omega), e1 _ _ _ (by simp only [sz_alloc]; omega), e1 _ _ _ (by simp only [sz_alloc]; omega), e2 _ _ _ (by simp only [sz_alloc])]
  · rw [e1 _ _ _ (by simp only [sz_alloc]; omega), e1 _ _ _ (by simp only [sz_alloc]; omega), e2 _ _ _ (by simp only [sz_alloc])]
  · rw [e1 _ _ _ (by simp only [sz_alloc]; omega), e2 _ _ _ (by simp only [sz_alloc])]
  · rw [e2 _ _ _ (by simp only [sz_alloc])]
theorem shW_lists (w : World) : ListsV (shW w) (some ⟨w.heap.size + 1 + 1 + 1 + 1 + 1, 0, none⟩) 2 [⟨0, some ⟨w.heap.size + 1 + 1 + 1, 0, none⟩, 1, 1, [eB]⟩, ⟨1, some ⟨w.heap.size + 1 + 1 + 1 + 1, 0, none⟩, 3, 3, [eA, eB1, eC]⟩] := by
  obtain ⟨-, -, -, h3, h4, h5⟩ := shW_heap w
  refine ⟨rfl, fun r hr => ?_, fun i hi => ?_, fun _ => ⟨_, 0, rfl, fun i hi => ?_⟩⟩
  · rcases List.mem_cons.1 hr with rfl | hr
    · exact ⟨ent_block h3, Nat.le_refl _, (by show (1 : Nat) ≤ 9223372036854775807; decide), (by show (0 : Nat) ≤ 9223372036854775807; decide)⟩
    · rw [List.mem_singleton.1 hr]
      exact ⟨ent_block h4, Nat.le_refl _, (by show (3 : Nat) ≤ 9223372036854775807; decide), (by show (1 : Nat) ≤ 9223372036854775807; decide)⟩
  · rcases i with _ | _ | i
    · rfl
    · rfl
    · omega
  · rw [Nat.zero_add, cell_of_row _ _ _ _ _ _ h5]
    rcases i with _ | _ | i
    · rfl
    · rfl
    · omega
set_option maxRecDepth 100000 in
set_option maxHeartbeats 1000000 in
theorem split_nil (w : World) : Calls Try.prog 16 #[.slice none 0 0] w fun e w' => e = .returned (.slice none 0 0) ∧ w' = w := by
  have C0 : Hid (∀ W, Calls Try.prog 24 #[.int .i64 0, .int .i64 64] W fun e w' => e = .returned (.int .i64 0) ∧ w' = W) := fun W => rup_any 0 64 W (by decide) (by decide) (by decide)
  go_enter Try.func16, Try.ntmps16
  go_wp2_with fail
  refine (C0.out _).mono ?_
  rintro e w1 ⟨rfl, rfl⟩
  go_wp2_with fail
  go_loopw [3, 4] (fun s3 s4 wr => s3 = .slice none 0 0 ∧ s4 = .int .i64 0 ∧ wr = w1) (fun _ _ _ => 0)
  case atStart => exact ⟨rfl, rfl, rfl⟩
  case round =>
    obtain ⟨rfl, rfl, rfl⟩ := hrel
    go_wp2_with fail
    go_ret
    exact ⟨rfl, rfl⟩
set_option maxRecDepth 100000 in
set_option maxHeartbeats 1000000 in
theorem shown_any (w : World) : Calls Try.prog 9 #[] w fun e w' => e = .returned (.bool true) ∧ Below w.heap.size w w' := by
  have HM1 : Hid _ := merge_any _ 2 2 _ false (shW w) (shW_lists w) (by decide) (by show tot [[eB], [eA, eB1, eC]] < 1000000; decide)
  have HS : Hid (Below w.heap.size w (shW w)) := shW_below w
  rw [show List.map RV.l [(⟨0, some ⟨w.heap.size + 1 + 1 + 1, 0, none⟩, 1, 1, [eB]⟩ : RV), ⟨1, some ⟨w.heap.size + 1 + 1 + 1 + 1, 0, none⟩, 3, 3, [eA, eB1, eC]⟩] = [[eB], [eA, eB1, eC]] from rfl, shown_merge] at HM1
  go_enter Try.func9, Try.ntmps9
  go_wp2_with fail
  show Calls Try.prog 11 _ (shW w) _
  refine Calls.mono HM1.out ?_
  rintro e w1 ⟨v1, rfl, h1, hb1⟩
  have HM2 : Hid _ := merge_any _ 2 2 _ true w1 ((shW_lists w).below hb1 (Nat.le_refl _)) (by decide) (by show tot [[eB], [eA, eB1, eC]] < 1000000; decide)
  rw [show List.map RV.l [(⟨0, some ⟨w.heap.size + 1 + 1 + 1, 0, none⟩, 1, 1, [eB]⟩ : RV), ⟨1, some ⟨w.heap.size + 1 + 1 + 1 + 1, 0, none⟩, 3, 3, [eA, eB1, eC]⟩] = [[eB], [eA, eB1, eC]] from rfl, shown_merge2] at HM2
  have HR1 : Hid (w1.ownsRow (shW w).heap.size 29 4 v1 3 (flatE [eA, eB, eC]) ∧ Below (shW w).heap.size (shW w) w1) := ⟨h1, hb1⟩
  clear h1 hb1 HM1
  go_wp2_with fail
  refine Calls.mono HM2.out ?_
  rintro e w2 ⟨v2, rfl, h2, hb2⟩
  have HR2 : Hid (w2.ownsRow w1.heap.size 29 4 v2 2 (flatE [eA, eB]) ∧ Below w1.heap.size w1 w2) := ⟨h2, hb2⟩
  clear h2 hb2 HM2
  obtain ⟨i0, hi, hz0, hz1, hz2⟩ := info_parts info23
  go_wp2_with (refine wpList_make_full _ rfl _ _ 25 rfl w2.heap.size 29 i0 _ 4 Try.underlying25 hi hz0 hz1 .i64 .i64 65 65 65 rfl rfl rfl rfl (by rw [hz2]; decide) (by unfold maxLen; decide) (Nat.le_refl _) ?_)
  intro w3 ho3 hg3
  replace ho3 : w3.ownsRow w2.heap.size 29 4 (.slice (some ⟨w2.heap.size, 0, none⟩) 65 65) 65 (flatE (List.replicate 65 zE)) := by rw [← shown_zero]; exact ho3
  have hE3 : EntsV w3 (some ⟨w2.heap.size, 0, none⟩) 65 (List.replicate 65 zE) := by
    obtain ⟨ao, c, e1, e2, -⟩ := ent_slice ho3 (by simp)
    cases e1
    exact e2
  have hb3 : Below w2.heap.size w2 w3 := (Below.refl _ _).grown hg3 (Nat.le_refl _) (fun k hk => by cases hk)
  have HSP : Hid _ := split_any _ 65 65 _ w3 hE3 (Nat.le_refl _) (by decide) (by decide)
  have HB3 : Hid (Below w2.heap.size w2 w3) := hb3
  clear hb3 hE3 ho3 hg3
  go_wp2_with fail
  refine Calls.mono HSP.out ?_
  rintro e w4 ⟨v4, Ps, rfl, hl4, ho4, hb4⟩
  have hlen : Ps.length = 2 := by
    have := congrArg List.length hl4
    rw [List.length_map] at this
    rw [this]; rfl
  obtain ⟨bs, cs, ao0, ac0, p0, hv4, hcs, s0, -, hp0, hpv0, -, -, -⟩ := ho4.at_ 0 (by omega)
  obtain ⟨bs', cs', ao1, ac1, p1, hv4', -, s1, -, hp1, hpv1, -, -, -⟩ := ho4.at_ 1 (by omega)
  rw [hv4] at hv4'
  cases hv4'
  have hl33 : p0.l.length = 33 ∧ p1.l.length = 32 := by
    have h1 := congrArg (List.map List.length) hl4
    rw [shown_split, List.map_map] at h1
    have q0 := congrArg (fun x => x[0]?) h1
    have q1 := congrArg (fun x => x[1]?) h1
    simp only [List.getElem?_map, hp0, hp1, Option.map_some, Function.comp] at q0 q1
    exact ⟨Option.some.inj q0, Option.some.inj q1⟩
  rw [hl33.1] at s0
  rw [hl33.2] at s1
  rw [hlen] at hv4 hcs
  subst hv4
  have HBF : Hid (Below w1.heap.size w1 w4 ∧ Below w2.heap.size w2 w4 ∧ Below w.heap.size w w4 ∧ Below (shW w).heap.size (shW w) w4) := by
    have k2 : Below w2.heap.size w2 w4 := HB3.out.trans (hb4.mono HB3.out.size)
    have k1 : Below w1.heap.size w1 w4 := HR2.out.2.trans (k2.mono HR2.out.2.size)
    have k0 : Below (shW w).heap.size (shW w) w4 := HR1.out.2.trans (k1.mono HR1.out.2.size)
    exact ⟨k1, k2, HS.out.trans (k0.mono HS.out.size), k0⟩
  obtain ⟨g1, cp1, rfl, hE1, -⟩ := own_shapeE HR1.out.1 (by decide)
  obtain ⟨g2, cp2, rfl, hE2, -⟩ := own_shapeE HR2.out.1 (by decide)
  have l0 := ents_four (hE1.below HBF.out.1 (Nat.le_refl _)) 0 (by decide) (k := ⟨#[97]⟩) (v := ⟨#[49]⟩) (d := false) (q := 1) rfl
  have l1 := ents_four (hE1.below HBF.out.1 (Nat.le_refl _)) 1 (by decide) (k := ⟨#[98]⟩) (v := ⟨#[50]⟩) (d := false) (q := 4) rfl
  have l2 := ents_four (hE1.below HBF.out.1 (Nat.le_refl _)) 2 (by decide) (k := ⟨#[99]⟩) (v := ⟨#[]⟩) (d := true) (q := 3) rfl
  have m1 := ents_four (hE2.below HBF.out.2.1 (Nat.le_refl _)) 1 (by decide) (k := ⟨#[98]⟩) (v := ⟨#[50]⟩) (d := false) (q := 4) rfl
  obtain ⟨h0, h1, h2, -, -, -⟩ := shW_heap w
  have hbx : ∀ (g : Nat) (x : E), (shW w).heap[g]? = some (.cells (encE x).toArray 29 (0, 0)) → w4.cell? ⟨g, 0, none⟩ = some (.string x.key) ∧ w4.cell? ⟨g, 1, none⟩ = some (.string x.value) ∧ w4.cell? ⟨g, 2, none⟩ = some (.bool x.del) ∧ w4.cell? ⟨g, 3, none⟩ = some (.int .i64 x.seq) := fun g x hg => by
    have hg4 := (HBF.out.2.2.2.block _ (heap_lt hg)).trans hg
    exact ⟨by rw [cell_of_row _ _ _ _ _ _ hg4]; rfl, by rw [cell_of_row _ _ _ _ _ _ hg4]; rfl, by rw [cell_of_row _ _ _ _ _ _ hg4]; rfl, by rw [cell_of_row _ _ _ _ _ _ hg4]; rfl⟩
  obtain ⟨a0, a1, a2, a3⟩ := hbx _ eA h0
  obtain ⟨b0, b1, b2, b3⟩ := hbx _ eB h1
  obtain ⟨cc0, cc1, cc2, cc3⟩ := hbx _ eC h2
  obtain ⟨l00, l01, l02, l03⟩ := l0
  obtain ⟨l10, l11, l12, l13⟩ := l1
  obtain ⟨l20, l21, l22, l23⟩ := l2
  obtain ⟨m10, m11, m12, m13⟩ := m1
  have qa := fun W => equal23 ⟨#[97]⟩ ⟨#[49]⟩ false 1 ⟨#[97]⟩ ⟨#[49]⟩ false 1 W
  have qb := fun W => equal23 ⟨#[98]⟩ ⟨#[50]⟩ false 4 ⟨#[98]⟩ ⟨#[50]⟩ false 4 W
  have qc := fun W => equal23 ⟨#[99]⟩ ⟨#[]⟩ true 3 ⟨#[99]⟩ ⟨#[]⟩ true 3 W
  simp only [decide_true] at qa qb qc
  have hg := guard23
  simp only [eA, eB, eC] at a0 a1 a2 a3 b0 b1 b2 b3 cc0 cc1 cc2 cc3
  simp only [Nat.zero_mul, Nat.one_mul, Nat.zero_add, Nat.add_zero] at l00 l01 l02 l03 l10 l11 l12 l13 l20 l21 l22 l23 m10 m11 m12 m13
  have HBL : Hid (Below w.heap.size w w4) := HBF.out.2.2.1
  have HC : Hid (∀ n, Calls Try.prog 16 #[.slice none 0 0] (w4.drewN n) fun e w' => e = .returned (.slice none 0 0) ∧ w' = w4.drewN n) := fun n => split_nil _
  clear hl4 ho4 hb4 hp0 hp1 hpv0 hpv1 hl33 hlen HSP HB3 HR1 HR2 HS hE1 hE2 h0 h1 h2 hbx HBF hi hz0 hz1 hz2
  go_wp2_with fail
  go_quiet ((go_at_call 16; exact Calls.quiet_of_same (HC.out _)))
  go_wp2
  go_ret
  exact ⟨rfl, bel_drewN HBL.out nq⟩
end Go.Proofs.Yteggjenncmjfmaa

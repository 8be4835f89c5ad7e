/-
  What tree.whole and, by one name, Leaf, Node and Root answer: contracts over this translation. What tree.stepsUp answers: a contract over this translation. What tree.Range of a tree answers: a contract over this translation.
-/
import Derived.Test.YtecacjddggljgaaDoorPartBJ
import Derived.Test.YtecacjddggljgaaDoorPartCB
import Derived.Deep.DeepCutAuto
import Derived.Deep.RegionHeld3
import Derived.Great.BuildSlice
namespace Go.Proofs.YtecacjddggljgaaDoor.Sm
open Go.RowKit
/-- A method of the tree with all bits, as a value. -/
def mv (f : FuncId) : Value := .func (.func f) #[.agg #[.int .i64 256]] #[]
def wholeV : Array Value := #[mv 29, mv 26, mv 23, mv 33, mv 40, mv 35, mv 43]
theorem whole_one : wholeV.all (·.oneCell') = true := by
  have h : ∀ u ∈ [mv 29, mv 26, mv 23, mv 33, mv 40, mv 35, mv 43], u.oneCell' = true := by intro u hu; simp only [List.mem_cons, List.not_mem_nil, or_false] at hu; rcases hu with rfl | rfl | rfl | rfl | rfl | rfl | rfl <;> rfl
  exact all_oneCell_toArray h
theorem z256 : (-9223372036854775808 : Int) ≤ 256 ∧ (256 : Int) ≤ 9223372036854775807 := ⟨by decide, by decide⟩
theorem frame3a (w : World) (o1 o2 o3 : Obj) : (((w.alloc o1).alloc o2).alloc o3).heap[w.heap.size]? = some o1 ∧ (((w.alloc o1).alloc o2).alloc o3).heap[w.heap.size + 1]? = some o2 ∧ (((w.alloc o1).alloc o2).alloc o3).heap[w.heap.size + 1 + 1]? = some o3 ∧ Below w.heap.size w (((w.alloc o1).alloc o2).alloc o3) ∧ (((w.alloc o1).alloc o2).alloc o3).heap.size = w.heap.size + 3 := by
  obtain ⟨h1, h2, h3⟩ := frame3 w o1 o2 o3
  refine ⟨?_, h1, h2, h3, by simp⟩
  rw [Below.heap_alloc _ _ _ (by simp; omega), Below.heap_alloc _ _ _ (by simp)]
  exact heap_alloc_new w _
theorem range_of {w : World} {g : Nat} {d : List UInt8} {t : TypeId} {fr : Nat × Nat} (h : w.heap[g]? = some (.cells (cellsOf d).toArray t fr)) : w.rangeAt g 0 (cellsOf d) := fun j v hv => by
  rw [Nat.zero_add, cell_of_row w g j _ t fr h]
  simpa using hv
theorem range_bel {w w' : World} {B g o : Nat} {cs : List Value} (h : w.rangeAt g o cs) (hb : Below B w w') (hB : w.heap.size ≤ B) : w'.rangeAt g o cs := fun j v hv => bel_cell2 hb hB (h j v hv)
theorem range_far {w : World} {g k o : Nat} {cs : List Value} {ds : Array Value} (h : w.rangeAt g o cs) (hne : g ≠ k) : (w.setRow k ds).rangeAt g o cs := fun j v hv => cell_row_far (h j v hv) hne
end Go.Proofs.YtecacjddggljgaaDoor.Sm
namespace Go.Proofs.YtecacjddggljgaaDoor.Sm
open Go.RowKit
/-- An owned row is told by its own block alone. -/
theorem own_keep {w w' : World} {base e sz n : Nat} {v : Value} {xs : List Value} (h : w.ownsRow base e sz v n xs) (hk : ∀ g, v.ownBlock = some g → w'.heap[g]? = w.heap[g]?) : w'.ownsRow base e sz v n xs := by
  refine ⟨h.1, ?_⟩
  rcases h.2 with h2 | ⟨g, cap, cur, hv, hg, hh, hr⟩
  · exact .inl h2
  · exact .inr ⟨g, cap, cur, hv, hg, (hk g (by rw [hv]; rfl)).trans hh, hr⟩
theorem step_laid (w : World) (p : St) : ∀ j u, (encS p)[j]? = some u → (w.alloc (.cells (encS p).toArray 145)).cell? ((⟨w.heap.size, 0, none⟩ : Addr).add j) = some u := by
  intro j u hu
  rw [Addr.add_lit, cell_of_row _ _ _ _ _ _ (heap_alloc_new w _)]
  simpa using hu
theorem span_row {w : World} {g a b : Nat} (h : w.heap[g]? = some (.cells #[.int .i64 (a : Int), .int .i64 (b : Int)] 120 (0, 0))) : w.cell? ⟨g, 0, none⟩ = some (.int .i64 (a : Int)) ∧ w.cell? ⟨g, 1, none⟩ = some (.int .i64 (b : Int)) :=
  ⟨by rw [cell_of_row _ _ 0 _ _ _ h]; rfl, by rw [cell_of_row _ _ 1 _ _ _ h]; rfl⟩
/-- What a round leaves: a step behind the others, and the part that the leaf is in. -/
theorem round_done {w w6 w7 : World} {g : Nat} {v : Value} {l2 : List St} {a2 b2 : Nat} (hown : w6.ownsRow (g + 1) 145 3 v l2.length (flatS l2)) {x y : Value} (hg : w6.heap[g]? = some (.cells #[x, y] 120 (0, 0))) (hb : Below g w w6)
    (h7 : w7 = (w6.setCell ⟨g, 0, none⟩ (.int .i64 (a2 : Int))).setCell ⟨g, 1, none⟩ (.int .i64 (b2 : Int))) :
    w7.heap[g]? = some (.cells #[.int .i64 (a2 : Int), .int .i64 (b2 : Int)] 120 (0, 0)) ∧ w7.ownsRow (g + 1) 145 3 v l2.length (flatS l2) ∧ Below g w w7 := by
  subst h7
  have hne : ∀ q, q ≠ g → ((w6.setCell ⟨g, 0, none⟩ (.int .i64 (a2 : Int))).setCell ⟨g, 1, none⟩ (.int .i64 (b2 : Int))).heap[q]? = w6.heap[q]? := fun q hq => by
    unfold World.setCell
    dsimp only
    rw [Array.getElem?_modify, if_neg (by omega), Array.getElem?_modify, if_neg (by omega)]
  refine ⟨?_, own_keep hown fun q hq => hne q (by have := (hown.lt q hq).1; omega), hb.trans ⟨rfl, rfl, rfl, by unfold World.setCell; simp, fun q hq => hne q (by omega)⟩⟩
  unfold World.setCell
  dsimp only
  rw [Array.getElem?_modify, if_pos rfl, Array.getElem?_modify, if_pos rfl, hg]
  rfl
set_option maxHeartbeats 4000000 in
set_option maxRecDepth 100000 in
theorem steps_any (n i : Nat) (w : World) (hi0 : i < n) (hn : n ≤ 9223372036854775807) :
    Calls Tryd.prog 90 #[.int .i64 (n : Int), .int .i64 (i : Int)] w fun e w' => ∃ ao c, e = .returned (.slice ao (upL n i).length c) ∧ StV w' w.heap.size ao (upL n i) ∧ Below w.heap.size w w' := by
  obtain ⟨i0, hi, hz0, hz1, hz2⟩ := info_parts info92
  have HLT : Hid (i < n ∧ n ≤ 9223372036854775807) := ⟨hi0, hn⟩
  clear hi0 hn
  obtain ⟨W0, HW0⟩ : ∃ W, Hid (W = w.alloc (.cells #[.int .i64 0, .int .i64 (n : Int)] 120)) := ⟨_, rfl⟩
  have HB0 : Hid (Below w.heap.size w W0) := by show Below _ _ _; rw [HW0.out]; exact bel_alloc _ _
  have HN0 : Hid (W0.heap[w.heap.size]? = some (.cells #[.int .i64 ((0 : Nat) : Int), .int .i64 (n : Int)] 120 (0, 0))) := by show _ = _; rw [HW0.out]; exact heap_alloc_new w _
  have HZ0 : Hid (W0.heap.size = w.heap.size + 1) := by show _ = _; rw [HW0.out]; simp
  go_enter Tryd.func90, Tryd.ntmps90
  go_wp2_with fail
  go_loopw [5, 7, 8] (fun s5 _ _ wr => ∃ (a b : Nat) (l : List St), Hid (wr.heap[w.heap.size]? = some (.cells #[.int .i64 (a : Int), .int .i64 (b : Int)] 120 (0, 0))) ∧ Hid (a ≤ i ∧ i < b ∧ b ≤ n) ∧ Hid (l ++ dnL a b i = dnL 0 n i) ∧ Hid (wr.ownsRow (w.heap.size + 1) 145 3 s5 l.length (flatS l)) ∧ Hid (Below w.heap.size w wr)) (fun _ _ _ wr => (intOf ((wr.cell? ⟨w.heap.size, 1, none⟩).getD undef) - intOf ((wr.cell? ⟨w.heap.size, 0, none⟩).getD undef)).toNat)
  case atStart =>
    rw [← HW0.out]
    exact ⟨0, n, [], HN0, ⟨Nat.zero_le _, HLT.out.1, Nat.le_refl _⟩, rfl, World.ownsRow_nil _ _ _ _, HB0⟩
  case round =>
    obtain ⟨a, b, l, HR, HAB, HDN, HOW, HBE⟩ := hrel
    have c0 : wr.cell? ⟨w.heap.size, 0, none⟩ = some (.int .i64 (a : Int)) := by rw [cell_of_row _ _ 0 _ _ _ HR.out]; rfl
    have c1 : wr.cell? ⟨w.heap.size, 1, none⟩ = some (.int .i64 (b : Int)) := by rw [cell_of_row _ _ 1 _ _ _ HR.out]; rfl
    have hsub : wrap64 ((b : Int) - (a : Int)) = ((b - a : Nat) : Int) := by have := HAB.out; have := HLT.out; unfold wrap64; omega
    by_cases h2 : 2 ≤ b - a
    case neg =>
      have hgt : ¬ (1 : Int) < ((b - a : Nat) : Int) := by omega
      have HLL : Hid (l = dnL 0 n i) := by have h := HDN.out; rw [dnL_one i (by omega), List.append_nil] at h; exact h
      have HRV : Hid (∀ W, W = wr → Calls Tryd.prog 120 #[u5] W fun e w' => e = .returned (.tuple #[]) ∧ (∃ ao c, u5 = .slice ao l.length c ∧ StV w' (w.heap.size + 1) ao l.reverse) ∧ Below (w.heap.size + 1) wr w') := fun W hW => by
        rw [hW]
        have hlt := World.block_lt_of_cell? _ _ c0
        haveI : Inhabited St := ⟨⟨0, 0, false⟩⟩
        exact reverse_any (w.heap.size + 1) u5 l wr HOW.out (by rw [HLL.out]; exact dnL_len _ _ _) hlt
      clear h2
      go_wp2_with fail
      refine (HRV.out _ rfl).mono ?_
      rintro e w2 ⟨rfl, ⟨ao, c, rfl, hst⟩, hb2⟩
      have HST : Hid (StV w2 (w.heap.size + 1) ao l.reverse) := hst
      have HB2 : Hid (Below (w.heap.size + 1) wr w2) := hb2
      clear hst hb2 hsub hgt c0 c1
      go_wp2_with fail
      go_ret
      have hup : upL n i = l.reverse := by rw [HLL.out]; rfl
      rw [hup, List.length_reverse]
      refine ⟨_, _, rfl, fun hp => ?_, HBE.out.trans (HB2.out.mono (by omega))⟩
      obtain ⟨g, h1, h2, h3⟩ := HST.out hp
      exact ⟨g, h1, by omega, h3⟩
    case pos =>
      have hgt : (1 : Int) < ((b - a : Nat) : Int) := by omega
      obtain ⟨s1, s2, -, -, -⟩ := halfN_spec (b - a) h2 (by have := HAB.out; have := HLT.out; omega)
      have HH : Hid (∀ W, Calls Tryd.prog 86 #[.agg #[.int .i64 (a : Int), .int .i64 (b : Int)]] W fun e w' => e = .returned (.tuple #[sv a (a + halfN (b - a)), sv (a + halfN (b - a)) b]) ∧ Below W.heap.size W w') := fun W => halves_any a b W (by omega) (by have := HAB.out; have := HLT.out; omega)
      have HD2 := dnL_two i h2 (by have := HAB.out; have := HLT.out; omega)
      obtain ⟨m, HM⟩ : ∃ m, Hid (a + halfN (b - a) = m) := ⟨_, rfl⟩
      rw [HM.out] at HH HD2
      have HMM : Hid (a < m ∧ m < b) := by have := HM.out; show _ ∧ _; omega
      have HD2 : Hid _ := HD2
      unfold sv at HH
      clear s1 s2
      go_wp2_with fail
      refine (HH.out _).mono ?_
      rintro e w1 ⟨rfl, hb1⟩
      have HB1 : Hid (Below wr.heap.size wr w1) := hb1
      clear hb1 c0 c1 hgt h2 hsub
      go_upto_region 5 with fail
      obtain ⟨W4, HW4⟩ : ∃ W, Hid (W = (w1.alloc (.cells #[.int .i64 (a : Int), .int .i64 (m : Int)] 120)).alloc (.cells #[.int .i64 (m : Int), .int .i64 (b : Int)] 120)) := ⟨_, rfl⟩
      obtain ⟨d0, d1, d2, d3, hb4⟩ := two_cells w1 a m m b W4 HW4.out
      rw [← HW4.out]
      have HBR : Hid (Below wr.heap.size wr W4) := HB1.out.trans (hb4.mono HB1.out.size)
      have HGL : Hid (w.heap.size < wr.heap.size) := by
        have h := HR.out
        have := (Array.getElem?_eq_some_iff.1 h).1
        exact this
      have HF4 : Hid _ := And.intro d0 d1
      clear hb4
      by_cases him : i < m
      case pos =>
        have himz : (i : Int) < (m : Int) := by omega
        have HDN2 : Hid ((l ++ [(⟨m, b, false⟩ : St)]) ++ dnL a m i = dnL 0 n i) := by
          have h := HDN.out
          rw [HD2.out, if_pos him] at h
          rw [List.append_assoc]
          exact h
        have HAB2 : Hid (a ≤ i ∧ i < m ∧ m ≤ n) := by have := HAB.out; have := HMM.out; show _ ∧ _; omega
        have HLN : Hid (l.length ≤ 64) := by
          have h := congrArg List.length HDN.out
          rw [List.length_append] at h
          have := dnL_len 0 n i
          show _ ≤ _
          omega
        have HOA : Hid ((W4.alloc (.cells (encS ⟨m, b, false⟩).toArray 145)).ownsRow (w.heap.size + 1) 145 3 u5 l.length (flatS l)) := (own_below HOW.out HBR.out (Nat.le_refl _)).alloc _
        have HCA : Hid (∀ j u, (encS ⟨m, b, false⟩)[j]? = some u → (W4.alloc (.cells (encS ⟨m, b, false⟩).toArray 145)).cell? ((⟨W4.heap.size, 0, none⟩ : Addr).add j) = some u) := step_laid W4 ⟨m, b, false⟩
        have HBA : Hid (w.heap.size + 1 ≤ (W4.alloc (.cells (encS ⟨m, b, false⟩).toArray 145)).heap.size) := by show _ ≤ _; have := HGL.out; have := HBR.out.size; simp; omega
        clear him
        go_wp2_with (at_builtin; refine wpList_append_own _ rfl (.tmp 26) (.tmp 29) 141 rfl (w.heap.size + 1) 145 i0 _ 3 24 Tryd.underlying141 hi hz0 hz1 hz2 rfl (by decide) _ l.length (flatS l) rfl HOA.out ⟨W4.heap.size, 0, none⟩ 1 1 (encS ⟨m, b, false⟩) rfl rfl HCA.out (encS_one _) (by have := HLN.out; unfold maxLen; omega) (by have := HLN.out; omega) HBA.out ?_)
        intro v6 w6 hown6 hgr6 _
        have HOB : Hid (∀ q, u5.ownBlock = some q → w.heap.size + 1 ≤ q ∧ q < wr.heap.size) := fun q hq => HOW.out.lt q hq
        have HK6 : Hid (∀ q, q < W4.heap.size → (q ≤ w.heap.size ∨ wr.heap.size ≤ q) → w6.heap[q]? = W4.heap[q]?) := fun q hq hor => by
          rw [hgr6.block q (by simp; omega) (fun e => by have := HOB.out q e.symm; omega)]
          exact Below.heap_alloc _ _ _ hq
        have HR6 : Hid (w6.heap[w.heap.size]? = some (.cells #[.int .i64 (a : Int), .int .i64 (b : Int)] 120 (0, 0))) := by
          show _ = _
          have h1 := HGL.out
          have h2 := HBR.out.size
          rw [HK6.out _ (by omega) (Or.inl (Nat.le_refl _)), HBR.out.block _ h1]
          exact HR.out
        have hlt4 : w1.heap.size < W4.heap.size := World.block_lt_of_cell? _ _ d0
        have hge4 : wr.heap.size ≤ w1.heap.size := by have := HB1.out.size; omega
        have e0 : w6.cell? ⟨w1.heap.size, 0, none⟩ = some (.int .i64 (a : Int)) := (World.cell?_of_block (w := W4) (HK6.out (w1.heap.size) hlt4 (Or.inr hge4))).trans d0
        have e1 : w6.cell? ⟨w1.heap.size, 1, none⟩ = some (.int .i64 (m : Int)) := (World.cell?_of_block (w := W4) (HK6.out (w1.heap.size) hlt4 (Or.inr hge4))).trans d1
        have HO6 : Hid (w6.ownsRow (w.heap.size + 1) 145 3 v6 (l ++ [(⟨m, b, false⟩ : St)]).length (flatS (l ++ [(⟨m, b, false⟩ : St)]))) := by
          show World.ownsRow _ _ _ _ _ _ _
          rw [flatS_append, List.length_append]
          simpa [flatS] using hown6
        have HB6 : Hid (Below w.heap.size w w6) := (HBE.out.trans (HBR.out.mono HBE.out.size)).trans (((bel_alloc W4 _).mono (Nat.le_trans HBE.out.size HBR.out.size)).grown hgr6 (by have := HBE.out.size; have := HBR.out.size; simp; omega) (fun k hk => by have := HOB.out k hk; omega))
        clear hown6 hgr6 hlt4 hge4 d0 d1 d2 d3
        obtain ⟨f0, f1⟩ := span_row HR6.out
        have z0 := frozen_of_row w6 _ 0 _ _ HR6.out
        have z1 := frozen_of_row w6 _ 1 _ _ HR6.out
        go_wp2_with fail
        obtain ⟨r1, r2, r3⟩ := round_done (a2 := a) (b2 := m) HO6.out HR6.out HB6.out rfl
        obtain ⟨k0, k1⟩ := span_row r1
        obtain ⟨j0, j1⟩ := span_row HR.out
        refine ⟨⟨a, m, _, r1, HAB2, HDN2, r2, r3⟩, ?_⟩
        rw [k0, k1, j0, j1]
        have := HMM.out
        simp [intOf]
        omega
      case neg =>
        have himz : ¬ (i : Int) < (m : Int) := by omega
        have HDN2 : Hid ((l ++ [(⟨a, m, true⟩ : St)]) ++ dnL m b i = dnL 0 n i) := by
          have h := HDN.out
          rw [HD2.out, if_neg him] at h
          rw [List.append_assoc]
          exact h
        have HAB2 : Hid (m ≤ i ∧ i < b ∧ b ≤ n) := by have := HAB.out; have := HMM.out; show _ ∧ _; omega
        have HLN : Hid (l.length ≤ 64) := by
          have h := congrArg List.length HDN.out
          rw [List.length_append] at h
          have := dnL_len 0 n i
          show _ ≤ _
          omega
        have HOA : Hid ((W4.alloc (.cells (encS ⟨a, m, true⟩).toArray 145)).ownsRow (w.heap.size + 1) 145 3 u5 l.length (flatS l)) := (own_below HOW.out HBR.out (Nat.le_refl _)).alloc _
        have HCA : Hid (∀ j u, (encS ⟨a, m, true⟩)[j]? = some u → (W4.alloc (.cells (encS ⟨a, m, true⟩).toArray 145)).cell? ((⟨W4.heap.size, 0, none⟩ : Addr).add j) = some u) := step_laid W4 ⟨a, m, true⟩
        have HBA : Hid (w.heap.size + 1 ≤ (W4.alloc (.cells (encS ⟨a, m, true⟩).toArray 145)).heap.size) := by show _ ≤ _; have := HGL.out; have := HBR.out.size; simp; omega
        clear him
        go_wp2_with (at_builtin; refine wpList_append_own _ rfl (.tmp 32) (.tmp 35) 141 rfl (w.heap.size + 1) 145 i0 _ 3 24 Tryd.underlying141 hi hz0 hz1 hz2 rfl (by decide) _ l.length (flatS l) rfl HOA.out ⟨W4.heap.size, 0, none⟩ 1 1 (encS ⟨a, m, true⟩) rfl rfl HCA.out (encS_one _) (by have := HLN.out; unfold maxLen; omega) (by have := HLN.out; omega) HBA.out ?_)
        intro v6 w6 hown6 hgr6 _
        have HOB : Hid (∀ q, u5.ownBlock = some q → w.heap.size + 1 ≤ q ∧ q < wr.heap.size) := fun q hq => HOW.out.lt q hq
        have HK6 : Hid (∀ q, q < W4.heap.size → (q ≤ w.heap.size ∨ wr.heap.size ≤ q) → w6.heap[q]? = W4.heap[q]?) := fun q hq hor => by
          rw [hgr6.block q (by simp; omega) (fun e => by have := HOB.out q e.symm; omega)]
          exact Below.heap_alloc _ _ _ hq
        have HR6 : Hid (w6.heap[w.heap.size]? = some (.cells #[.int .i64 (a : Int), .int .i64 (b : Int)] 120 (0, 0))) := by
          show _ = _
          have h1 := HGL.out
          have h2 := HBR.out.size
          rw [HK6.out _ (by omega) (Or.inl (Nat.le_refl _)), HBR.out.block _ h1]
          exact HR.out
        have hlt4 : w1.heap.size + 1 < W4.heap.size := World.block_lt_of_cell? _ _ d2
        have hge4 : wr.heap.size ≤ w1.heap.size + 1 := by have := HB1.out.size; omega
        have e0 : w6.cell? ⟨w1.heap.size + 1, 0, none⟩ = some (.int .i64 (m : Int)) := (World.cell?_of_block (w := W4) (HK6.out (w1.heap.size + 1) hlt4 (Or.inr hge4))).trans d2
        have e1 : w6.cell? ⟨w1.heap.size + 1, 1, none⟩ = some (.int .i64 (b : Int)) := (World.cell?_of_block (w := W4) (HK6.out (w1.heap.size + 1) hlt4 (Or.inr hge4))).trans d3
        have HO6 : Hid (w6.ownsRow (w.heap.size + 1) 145 3 v6 (l ++ [(⟨a, m, true⟩ : St)]).length (flatS (l ++ [(⟨a, m, true⟩ : St)]))) := by
          show World.ownsRow _ _ _ _ _ _ _
          rw [flatS_append, List.length_append]
          simpa [flatS] using hown6
        have HB6 : Hid (Below w.heap.size w w6) := (HBE.out.trans (HBR.out.mono HBE.out.size)).trans (((bel_alloc W4 _).mono (Nat.le_trans HBE.out.size HBR.out.size)).grown hgr6 (by have := HBE.out.size; have := HBR.out.size; simp; omega) (fun k hk => by have := HOB.out k hk; omega))
        clear hown6 hgr6 hlt4 hge4 d0 d1 d2 d3
        obtain ⟨f0, f1⟩ := span_row HR6.out
        have z0 := frozen_of_row w6 _ 0 _ _ HR6.out
        have z1 := frozen_of_row w6 _ 1 _ _ HR6.out
        go_wp2_with fail
        obtain ⟨r1, r2, r3⟩ := round_done (a2 := m) (b2 := b) HO6.out HR6.out HB6.out rfl
        obtain ⟨k0, k1⟩ := span_row r1
        obtain ⟨j0, j1⟩ := span_row HR.out
        refine ⟨⟨m, b, _, r1, HAB2, HDN2, r2, r3⟩, ?_⟩
        rw [k0, k1, j0, j1]
        have := HMM.out
        simp [intOf]
        omega
end Go.Proofs.YtecacjddggljgaaDoor.Sm
namespace Go.Proofs.YtecacjddggljgaaDoor.Sm
open Go.RowKit
/-- Digests as cells. -/
def digC (ds : List (List UInt8)) : List Value := ds.flatMap cellsOf
theorem digC_app (a b : List (List UInt8)) : digC (a ++ b) = digC a ++ digC b := by simp [digC]
theorem info24 : (Tryd.prog.info? 46).map (fun i => (i.zero, i.size, i.bytes)) = some (some (.agg (List.replicate 32 (Value.int .u8 0)).toArray), 32, 32) := by kernel_rfl
/-- A row of digests of the call's own. -/
def DgV (w : World) (base : Nat) (v : Value) (ds : List (List UInt8)) : Prop := w.ownsRow base 46 32 v ds.length (digC ds) ∧ (ds = [] → v = .slice none 0 0) ∧ ∀ d ∈ ds, d.length = 32
theorem DgV.below {w w' : World} {base B : Nat} {v : Value} {l : List (List UInt8)} (h : DgV w base v l) (hb : Below B w w') (hB : w.heap.size ≤ B) : DgV w' base v l := ⟨own_below h.1 hb hB, h.2⟩
theorem DgV.mono {w : World} {base b' : Nat} {v : Value} {l : List (List UInt8)} (h : DgV w base v l) (hb : b' ≤ base) : DgV w b' v l := ⟨ownsRow_mono h.1 hb, h.2⟩
theorem dgv_nil (w : World) (base : Nat) : DgV w base (.slice none 0 0) [] := ⟨World.ownsRow_nil _ _ _ _, fun _ => rfl, fun d hd => by cases hd⟩
/-- The leaves from a to b - 1. -/
def partL (ls : List LV) (a b : Nat) : List LV := (ls.drop a).take (b - a)
/-- What stands beside the leaves. -/
def besideD (z : Int) (ls : List LV) (sp : List (Nat × Nat)) : List (List UInt8) := sp.map fun p => rootD z (bytesL (partL ls p.1 p.2))
theorem LeavesV.part {w : World} {b off n c : Nat} {ls : List LV} (h : LeavesV w (some ⟨b, off, none⟩) n c ls) (x y : Nat) (hxy : x < y) (hy : y ≤ n) : LeavesV w (some ⟨b, off + x, none⟩) (y - x) (c - x) (partL ls x y) := by
  have h1 := h.drop x (by omega)
  have h2 := h1.take (y - x) (by omega)
  exact h2
/-- Every part lies among the leaves. -/
theorem outF_in (c d : Nat) (hcd : c < d) : ∀ (f a b : Nat), a < b → b ≤ 9223372036854775807 → ∀ p ∈ outF f a b c d, a ≤ p.1 ∧ p.1 < p.2 ∧ p.2 ≤ b := by
  intro f
  induction f with
  | zero => intro a b _ _ p hp; cases hp
  | succ f ih =>
    intro a b hab hb p hp
    rw [outF] at hp
    split at hp
    · simp only [List.mem_singleton] at hp
      subst hp
      exact ⟨Nat.le_refl _, hab, Nat.le_refl _⟩
    · rename_i h1
      split at hp
      · cases hp
      · rename_i h2
        have h3 : 2 ≤ b - a := by
          rcases Nat.lt_or_ge (b - a) 2 with h | h
          · exact absurd (out_one (by omega) hab hcd h1) h2
          · exact h
        obtain ⟨s1, s2, -, -, -⟩ := halfN_spec (b - a) h3 (by omega)
        rcases List.mem_append.1 hp with h | h
        · have := ih a (a + halfN (b - a)) (by omega) (by omega) p h; omega
        · have := ih (a + halfN (b - a)) b (by omega) hb p h; omega
theorem outL_in {a b c d : Nat} (hcd : c < d) (hab : a < b) (hb : b ≤ 9223372036854775807) : ∀ p ∈ outL a b c d, a ≤ p.1 ∧ p.1 < p.2 ∧ p.2 ≤ b := outF_in c d hcd 64 a b hab hb
theorem spanC_at : ∀ (l : List (Nat × Nat)) (i : Nat) (p : Nat × Nat), l[i]? = some p → (spanC l)[i * 2]? = some (.int .i64 (p.1 : Int)) ∧ (spanC l)[i * 2 + 1]? = some (.int .i64 (p.2 : Int))
  | [], i, p, h => by simp at h
  | q :: l, 0, p, h => by
    simp at h
    subst h
    exact ⟨rfl, rfl⟩
  | q :: l, i + 1, p, h => by
    have := spanC_at l i p (by simpa using h)
    have e : spanC (q :: l) = .int .i64 (q.1 : Int) :: .int .i64 (q.2 : Int) :: spanC l := by simp [spanC]
    rw [e, show (i + 1) * 2 = i * 2 + 1 + 1 by omega]
    exact this
theorem SpV.shape {w : World} {base : Nat} {v : Value} {l : List (Nat × Nat)} (h : SpV w base v l) : ∃ ao c, v = .slice ao l.length c ∧ (0 < l.length → ∃ g, ao = some ⟨g, 0, none⟩ ∧ ∀ i p, l[i]? = some p → w.cell? ⟨g, i * 2, none⟩ = some (.int .i64 (p.1 : Int)) ∧ w.cell? ⟨g, i * 2 + 1, none⟩ = some (.int .i64 (p.2 : Int))) := by
  rcases h.1.2 with ⟨h1, h2⟩ | ⟨g, cap, cur, h1, _⟩
  · exact ⟨none, 0, by rw [h1, h2], fun hp => by omega⟩
  · refine ⟨_, cap, h1, fun _ => ⟨g, rfl, fun i p hp => ?_⟩⟩
    have hc := h.1
    rw [h1] at hc
    have hcell := hc.cells (g := g) rfl
    obtain ⟨a1, a2⟩ := spanC_at l i p hp
    have b1 := hcell _ _ a1
    have b2 := hcell _ _ a2
    simp only [Addr.add_lit, Nat.zero_add] at b1 b2
    exact ⟨b1, b2⟩
/-- A slice literal of one digest, at a step of a region that draws its order. -/
theorem step_build_dig {ops : Array Oper} {o : Oper} {a : Act} {K : Act → World → Prop} {Q : Exit → Act → World → Prop} {E : Prop} (w : World)
    (hg : o.guard = none) (x : Operand) (hop : o.op = Op.buildSlice 28 1 #[(0, x)]) (d : List UInt8) (hx : a.eval x = dv d) (hd : d.length = 32)
    (hK : K (a.put o.dst (.slice (some ⟨w.heap.size, 0, none⟩) 1 1)) (w.alloc (.cells (cellsOf d).toArray 46))) :
    if Region.wanted o (yielded ops a.tmps) = true then Oper.wp Tryd.prog o a w K Q else E := by
  have hw : Region.wanted o (yielded ops a.tmps) = true := by simp [Region.wanted, hg]
  rw [if_pos hw]
  obtain ⟨i0, hi, hz0, hz1, hz2⟩ := info_parts info24
  refine wp_buildSlice 28 46 1 _ hop (cellsOf d).toArray i0 _ Tryd.underlying28 hi hz0 (by rw [hz1]; omega) (by rw [hz1]; omega) ?_ hK
  rw [hz1]
  have h := Great.fill_whole (s := 32) (by omega) [dv d] ((Array.range (1 * 32)).map ((Value.agg (List.replicate 32 (Value.int .u8 0)).toArray).cells[· % (Value.agg (List.replicate 32 (Value.int .u8 0)).toArray).cells.size]!)) (fun v hv => by
    rw [List.mem_singleton] at hv
    subst hv
    exact dig_size hd) (by simp)
  have e1 : (#[(0, x)].map fun (y : Nat × Operand) => (y.1, a.eval y.2)).toList = ([dv d].zipIdx 0).map fun x => (x.2, x.1) := by simp [hx]
  have e2 : [dv d].flatMap (fun v => v.cells.toList) = cellsOf d := by simp [dv, Value.cells]
  rw [e2] at h
  exact (congrArg _ e1).trans h
/-- The row of such a literal. -/
theorem dig_cells (w : World) (d : List UInt8) : ∀ j u, (cellsOf d)[j]? = some u → (w.alloc (.cells (cellsOf d).toArray 46)).cell? ((⟨w.heap.size, 0, none⟩ : Addr).add j) = some u := by
  intro j u hu
  rw [Addr.add_lit, cell_of_row _ _ _ _ _ _ (heap_alloc_new w _)]
  simpa using hu
/-- 'append(own, own2...)' at a step of a region that draws its order: no block but its own turns. -/
theorem step_append_twok {ops : Array Oper} {o : Oper} {a : Act} {K : Act → World → Prop} {Q : Exit → Act → World → Prop} {E : Prop} (w : World)
    (hg : o.guard = none) (s x : Operand) (t e : TypeId) (hop : o.op = Op.call { callee := Callee.builtin Builtin.append, args := #[s, x], argTypes := #[t, t] })
    (i : TypeInfo) (z : Value) (size bytes : Nat) (ht : Tryd.prog.underlying t = some (.slice e)) (hi : Tryd.prog.info? e = some i) (hz0 : i.zero = some z) (hz1 : i.size = size) (hz2 : i.bytes = bytes) (hzs : z.cells.size = size) (hsz : 0 < size)
    (base : Nat) (v : Value) (n : Nat) (xs : List Value) (hs : a.eval s = v) (hown : w.ownsRow base e size v n xs) (hbase : base ≤ w.heap.size)
    (g m cap : Nat) (ys : List Value) (hx : a.eval x = .slice (some ⟨g, 0, none⟩) m cap) (hl : ys.length = m * size) (hc : ∀ j u, ys[j]? = some u → w.cell? ((⟨g, 0, none⟩ : Addr).add j) = some u) (h1 : ∀ u ∈ ys, u.oneCell' = true)
    (hb : n + m ≤ 1000000) (hb2 : bytes ≤ 1000)
    (hK : ∀ v' w', w'.ownsRow base e size v' (n + m) (xs ++ ys) → Below base w w' → (∀ k, k < w.heap.size → some k ≠ v.ownBlock → w'.heap[k]? = w.heap[k]?) → (v' = .slice none 0 0 ↔ v = .slice none 0 0 ∧ m = 0) → K (a.put o.dst v') w') :
    if Region.wanted o (yielded ops a.tmps) = true then Oper.wp Tryd.prog o a w K Q else E := by
  have hw : Region.wanted o (yielded ops a.tmps) = true := by simp [Region.wanted, hg]
  rw [if_pos hw]
  have hmul : (n + m) * bytes ≤ 1000000 * 1000 := Nat.mul_le_mul hb hb2
  refine wp_append_own w s x t hop base e i z size bytes ht hi hz0 hz1 hz2 hzs hsz v n xs hs hown ⟨g, 0, none⟩ m cap ys hx hl hc h1 (by unfold maxLen; omega) (by omega) hbase ?_
  intro v' w' a1 a2 a3
  exact hK v' w' a1 ((Below.refl _ _).grown a2 hbase (fun k hk => (hown.lt k hk).1)) a2.block a3
set_option maxHeartbeats 2000000 in
set_option maxRecDepth 100000 in
theorem range_wrong (z : Int) (ao : Option Addr) (n c : Nat) (x y : Int) (w : World) (hno : ¬ (0 ≤ x ∧ x < y ∧ y ≤ n)) :
    Calls Tryd.prog 44 #[.agg #[.int .i64 z], .slice ao n c, .int .i64 x, .int .i64 y] w fun e w' => e = .returned (.tuple #[.slice none 0 0, .int .i64 1]) ∧ Below w.heap.size w w' := by
  by_cases h1 : x < 0
  · clear hno
    go_enter Tryd.func44, Tryd.ntmps44
    go_wp2
    go_ret2
    exact ⟨rfl, bel_alloc _ _⟩
  · have h1d : decide (x < 0) = false := by simp; omega
    by_cases h2 : y ≤ x
    · clear hno
      go_enter Tryd.func44, Tryd.ntmps44
      go_wp2
      go_ret2
      exact ⟨rfl, bel_alloc _ _⟩
    · have h2d : decide (y ≤ x) = false := by simp; omega
      have h3 : (n : Int) < y := by omega
      clear hno
      go_enter Tryd.func44, Tryd.ntmps44
      go_wp2
      go_ret2
      exact ⟨rfl, bel_alloc _ _⟩
set_option maxHeartbeats 4000000 in
set_option maxRecDepth 100000 in
theorem range_some (z : Int) (b off n c : Nat) (ls : List LV) (x y : Nat) (w : World) (hL : LeavesV w (some ⟨b, off, none⟩) n c ls) (hn : n ≤ 1000) (hxy : x < y) (hy : y ≤ n) (hK : WW w 1 ks) (hz0 : 1 < w.heap.size) (hz : -9223372036854775808 ≤ z ∧ z ≤ 9223372036854775807) :
    Calls Tryd.prog 44 #[.agg #[.int .i64 z], .slice (some ⟨b, off, none⟩) n c, .int .i64 (x : Int), .int .i64 (y : Int)] w fun e w' => ∃ v, e = .returned (.tuple #[v, .int .i64 0]) ∧ DgV w' w.heap.size v (besideD z ls (outL 0 n x y)) ∧ Below w.heap.size w w' := by
  have HOI : Hid (∀ p ∈ outL 0 n x y, 0 ≤ p.1 ∧ p.1 < p.2 ∧ p.2 ≤ n) := outL_in hxy (by omega) (by omega)
  have HOL : Hid ((outL 0 n x y).length ≤ 127) := outL_len hxy (by omega) (by omega)
  have HO : Hid (∀ W, Calls Tryd.prog 74 #[.agg #[.int .i64 0, .int .i64 (n : Int)], .agg #[.int .i64 (x : Int), .int .i64 (y : Int)]] W fun e w' => ∃ v, e = .returned v ∧ SpV w' W.heap.size v (outL 0 n x y) ∧ Below W.heap.size W w') := fun W => outside_any x y hxy (n - 0) 0 n W rfl (by omega) (by omega)
  have HOF : Hid (∀ p : Nat × Nat, 0 ≤ p.1 ∧ p.1 < p.2 ∧ p.2 ≤ n → ∀ W, Calls Tryd.prog 75 #[.agg #[.int .i64 (p.1 : Int), .int .i64 (p.2 : Int)], .slice (some ⟨b, off, none⟩) n c] W fun e w' => e = .returned (.slice (some ⟨b, off + p.1, none⟩) (p.2 - p.1) (c - p.1)) ∧ Below W.heap.size W w') := fun p hp W => of_span p.1 p.2 b off n c W hp.2.1 hp.2.2 hL.2.1
  have HRT : Hid (∀ p : Nat × Nat, 0 ≤ p.1 ∧ p.1 < p.2 ∧ p.2 ≤ n → ∀ W, Below w.heap.size w W → Calls Tryd.prog 63 #[.agg #[.int .i64 z], .slice (some ⟨b, off + p.1, none⟩) (p.2 - p.1) (c - p.1)] W fun e w' => e = .returned (dv (rootD z (bytesL (partL ls p.1 p.2)))) ∧ Below W.heap.size W w') := fun p hp W hW => root_any z hz (p.2 - p.1) _ _ _ W ((hL.below hW (Nat.le_refl _)).part p.1 p.2 hp.2.1 hp.2.2) (by omega) (hK.below hW hz0) (Nat.lt_of_lt_of_le hz0 hW.size)
  have y1 : ¬ (x : Int) < 0 := by omega
  have y1d : decide ((x : Int) < 0) = false := decide_eq_false y1
  have y2 : ¬ (y : Int) ≤ (x : Int) := by omega
  have y2d : decide ((y : Int) ≤ (x : Int)) = false := decide_eq_false y2
  have y2n : decide (y ≤ x) = false := decide_eq_false (by omega)
  have y3 : ¬ (n : Int) < (y : Int) := by omega
  have y3d : decide ((n : Int) < (y : Int)) = false := decide_eq_false y3
  have y3n : decide (n < y) = false := decide_eq_false (by omega)
  obtain ⟨sp, HSP⟩ : ∃ s, Hid (outL 0 n x y = s) := ⟨_, rfl⟩
  rw [HSP.out] at HOI HOL HO ⊢
  clear hL hn hxy hy hK hz0 hz
  obtain ⟨i0, hi, hz0, hz1, hz2⟩ := info_parts info24
  go_enter Tryd.func44, Tryd.ntmps44
  go_wp2_with fail
  refine (HO.out _).mono ?_
  rintro e w1 ⟨v1, rfl, hs1, hb1⟩
  have HB1 : Hid (Below w.heap.size w w1) := (bel_alloc w _).trans (hb1.mono (by simp))
  have HC0 : Hid (w1.cell? ⟨w.heap.size, 0, none⟩ = some (.int .i64 z)) := by
    refine bel_cell2 hb1 (Nat.le_refl _) ?_
    rw [cell_of_row _ _ 0 _ _ _ (heap_alloc_new w _)]; rfl
  have HS1 : Hid (SpV w1 (w.heap.size + 1) v1 sp) := by show SpV _ _ _ _; simpa using hs1
  obtain ⟨aoS, cS, rfl, hcS⟩ := HS1.out.shape
  have HCS : Hid _ := hcS
  obtain ⟨L, HL⟩ : ∃ L, Hid (sp.length = L) := ⟨_, rfl⟩
  rw [HL.out] at HOL HCS ⊢
  clear hb1 hs1 hcS y1 y1d y2 y2d y2n y3 y3d y3n HO
  have hL1 := HOL.out
  go_wp2_with fail
  go_loopw [10, 12, 34] (fun s10 _ s34 wr => ∃ k : Nat, s34 = .int .i64 k ∧ k ≤ L ∧ Hid (DgV wr w1.heap.size s10 (besideD z ls (sp.take k))) ∧ Hid (Below w1.heap.size w1 wr)) (fun _ _ x _ => L - (intOf x).toNat)
  case atStart => exact ⟨0, rfl, Nat.zero_le _, dgv_nil _ _, Below.refl _ _⟩
  case round =>
    obtain ⟨k, rfl, hk, HD, HBE⟩ := hrel
    by_cases hlt : k < L
    case neg =>
      have hkz : ¬ (k : Int) < (L : Int) := by omega
      have HE : Hid (sp.take k = sp) := List.take_of_length_le (by have := HL.out; omega)
      rw [HE.out] at HD
      clear hk hlt hL1
      go_wp2_with fail
      go_ret2
      exact ⟨_, rfl, HD.out.mono HB1.out.size, HB1.out.trans (HBE.out.mono HB1.out.size)⟩
    case pos =>
      have hkz : (k : Int) < (L : Int) := by omega
      obtain ⟨g, rfl, hcc⟩ := HCS.out (by omega)
      obtain ⟨⟨p1, p2⟩, HP⟩ : ∃ p, Hid (sp[k]? = some p) := ⟨_, List.getElem?_eq_getElem (by have := HL.out; omega)⟩
      obtain ⟨c0, c1⟩ := hcc k _ HP.out
      have c0 := bel_cell2 HBE.out (Nat.le_refl _) c0
      have c1 := bel_cell2 HBE.out (Nat.le_refl _) c1
      have HPI : Hid (0 ≤ p1 ∧ p1 < p2 ∧ p2 ≤ n) := HOI.out _ (List.mem_of_getElem? HP.out)
      clear hcc hlt hL1
      go_upto_region 7 with fail
      obtain ⟨W4, HW4⟩ : ∃ W, Hid (W = wr.alloc (.cells #[.int .i64 (p1 : Int), .int .i64 (p2 : Int)] 120)) := ⟨_, rfl⟩
      rw [← HW4.out]
      have HB4 : Hid (Below wr.heap.size wr W4) := by show Below _ _ _; rw [HW4.out]; exact bel_alloc _ _
      have HN4 : Hid (W4.heap[wr.heap.size]? = some (.cells #[.int .i64 (p1 : Int), .int .i64 (p2 : Int)] 120 (0, 0))) := by show _ = _; rw [HW4.out]; exact heap_alloc_new wr _
      have HZ4 : Hid (W4.heap.size = wr.heap.size + 1) := by show _ = _; rw [HW4.out]; simp
      have HS : Hid (∀ W : World, (∀ q, q < W4.heap.size → q < w1.heap.size ∨ q = wr.heap.size → W.heap[q]? = W4.heap[q]?) → W.cell? ⟨w.heap.size, 0, none⟩ = some (.int .i64 z) ∧ W.cell? ⟨wr.heap.size, 0, none⟩ = some (.int .i64 (p1 : Int)) ∧ W.cell? ⟨wr.heap.size, 1, none⟩ = some (.int .i64 (p2 : Int))) := fun W hW => by
        have q1 := World.cell?_of_block (w := W4) (w' := W) (a := ⟨w.heap.size, 0, none⟩) (hW w.heap.size (by rw [HZ4.out]; have := HBE.out.size; have := World.block_lt_of_cell? _ _ HC0.out; simp at this; omega) (Or.inl (World.block_lt_of_cell? _ _ HC0.out)))
        have q2 : W.heap[wr.heap.size]? = W4.heap[wr.heap.size]? := hW _ (by rw [HZ4.out]; omega) (Or.inr rfl)
        rw [HN4.out] at q2
        refine ⟨?_, ?_, ?_⟩
        · rw [q1]; exact bel_cell2 (HBE.out.trans (HB4.out.mono HBE.out.size)) (Nat.le_refl _) HC0.out
        · rw [cell_of_row _ _ 0 _ _ _ q2]; rfl
        · rw [cell_of_row _ _ 1 _ _ _ q2]; rfl
      have HSB : Hid (∀ W, Below W4.heap.size W4 W → W.cell? ⟨w.heap.size, 0, none⟩ = some (.int .i64 z) ∧ W.cell? ⟨wr.heap.size, 0, none⟩ = some (.int .i64 (p1 : Int)) ∧ W.cell? ⟨wr.heap.size, 1, none⟩ = some (.int .i64 (p2 : Int))) := fun W hW => HS.out W (fun q hq _ => hW.block q hq)
      have HBW : Hid (Below w.heap.size w W4) := HB1.out.trans ((HBE.out.trans (HB4.out.mono HBE.out.size)).mono HB1.out.size)
      obtain ⟨d, HDD⟩ : ∃ d, Hid (rootD z (bytesL (partL ls p1 p2)) = d) := ⟨_, rfl⟩
      have HOFp : Hid (∀ W, Calls Tryd.prog 75 #[.agg #[.int .i64 (p1 : Int), .int .i64 (p2 : Int)], .slice (some ⟨b, off, none⟩) n c] W fun e w' => e = .returned (.slice (some ⟨b, off + p1, none⟩) (p2 - p1) (c - p1)) ∧ Below W.heap.size W w') := HOF.out (p1, p2) HPI.out
      have HRTp : Hid (∀ W, Below w.heap.size w W → Calls Tryd.prog 63 #[.agg #[.int .i64 z], .slice (some ⟨b, off + p1, none⟩) (p2 - p1) (c - p1)] W fun e w' => e = .returned (dv d) ∧ Below W.heap.size W w') := by
        have h := HRT.out (p1, p2) HPI.out
        simp only [HDD.out] at h
        exact h
      have HDL : Hid (d.length = 32) := by show _ = _; rw [← HDD.out]; exact rootD_length _ _
      clear c0 c1 HCS HOF HRT HOI
      refine wp_region_held_drew (S := fun W => W.cell? ⟨w.heap.size, 0, none⟩ = some (.int .i64 z) ∧ W.cell? ⟨wr.heap.size, 0, none⟩ = some (.int .i64 (p1 : Int)) ∧ W.cell? ⟨wr.heap.size, 1, none⟩ = some (.int .i64 (p2 : Int))) (by kernel_rfl) (HSB.out _ (Below.drew (Below.refl _ _))) (fun hS => ?_)
      refine wpAnyH_take (i := 0) (v := ?_) rfl (by kernel_rfl) (by kernel_rfl) (by kernel_rfl) (fun _ _ _ h => h) (Or.inl ⟨by rfl, ?_⟩) (by assumption) ?_
      rotate_left
      · (intro w hSw; (try dsimp only at hSw); go_simp; try with_reducible rfl)
      simp only [Act.put, List.getElem_toArray, List.getElem_cons_zero, List.setIfInBounds_toArray, List.set_cons_zero, List.set_cons_succ]
      refine wpAnyH_take (i := 1) (v := ?_) rfl (by kernel_rfl) (by kernel_rfl) (by kernel_rfl) (fun _ _ _ h => h) (Or.inl ⟨by rfl, ?_⟩) (by assumption) ?_
      rotate_left
      · (intro w hSw; (try dsimp only at hSw); go_simp; try with_reducible rfl)
      simp only [Act.put, List.getElem_toArray, List.getElem_cons_zero, List.getElem_cons_succ, List.setIfInBounds_toArray, List.set_cons_zero, List.set_cons_succ]
      refine wpAnyH_take (i := 2) (v := ?_) rfl (by kernel_rfl) (by kernel_rfl) (by kernel_rfl) (fun _ _ _ h => h) (Or.inl ⟨by rfl, ?_⟩) (by assumption) ?_
      rotate_left
      · (intro w hSw; (try dsimp only at hSw); go_simp; try with_reducible rfl)
      simp only [Act.put, List.getElem_toArray, List.getElem_cons_zero, List.getElem_cons_succ, List.setIfInBounds_toArray, List.set_cons_zero, List.set_cons_succ]
      refine wpAnyH_take (i := 3) (v := ?_) rfl (by kernel_rfl) (by kernel_rfl) (by kernel_rfl) (fun _ _ _ h => h) (Or.inl ⟨by rfl, ?_⟩) (by assumption) ?_
      rotate_left
      · (intro w hSw; (try dsimp only at hSw); go_simp; try with_reducible rfl)
      simp only [Act.put, List.getElem_toArray, List.getElem_cons_zero, List.getElem_cons_succ, List.setIfInBounds_toArray, List.set_cons_zero, List.set_cons_succ]
      refine wpAnyH_ready (rs := [4]) (by kernel_rfl) (by simp) ?_
      refine AllReadyH.cons rfl (fun K hK => ?_) AllReadyH.nil
      go_simp
      refine (HOFp.out _).mono ?_
      rintro e w5 ⟨rfl, hb5⟩
      have HB5 : Hid (Below W4.heap.size W4 w5) := (Below.drew (Below.refl _ _)).trans hb5
      go_wp2_with fail
      refine hK.out _ _ (HSB.out _ HB5.out) (fun hHeld2 => ?_)
      clear hK K hb5
      refine wpAnyH_ready (rs := [5]) (by kernel_rfl) (by simp) ?_
      refine AllReadyH.cons rfl (fun K hK => ?_) AllReadyH.nil
      go_simp
      refine (HRTp.out _ (HBW.out.trans (HB5.out.mono HBW.out.size))).mono ?_
      rintro e w6 ⟨rfl, hb6⟩
      have HB6 : Hid (Below W4.heap.size W4 w6) := HB5.out.trans (hb6.mono HB5.out.size)
      go_wp2_with fail
      refine hK.out _ _ (HSB.out _ HB6.out) (fun hHeld2 => ?_)
      clear hK K hb6
      refine wpAnyH_ready (rs := [6]) (by kernel_rfl) (by simp) ?_
      refine AllReadyH.cons rfl (fun K hK => ?_) AllReadyH.nil
      refine step_build_dig _ rfl (.tmp 43) rfl d rfl HDL.out ?_
      obtain ⟨w7, HW7⟩ : ∃ W, Hid (W = w6.alloc (.cells (cellsOf d).toArray 46)) := ⟨_, rfl⟩
      have HC7 : Hid (∀ j u, (cellsOf d)[j]? = some u → w7.cell? ((⟨w6.heap.size, 0, none⟩ : Addr).add j) = some u) := by have h := dig_cells w6 d; rw [← HW7.out] at h; exact h
      have HB67 : Hid (Below w6.heap.size w6 w7) := by show Below _ _ _; rw [HW7.out]; exact bel_alloc _ _
      rw [← HW7.out]
      have HB7 : Hid (Below W4.heap.size W4 w7) := HB6.out.trans (HB67.out.mono HB6.out.size)
      refine hK.out _ _ (HSB.out _ HB7.out) (fun hHeld2 => ?_)
      clear hK K
      simp only [Act.put, List.getElem_toArray, List.getElem_cons_zero, List.getElem_cons_succ, List.setIfInBounds_toArray, List.set_cons_zero, List.set_cons_succ]
      have HBR : Hid (Below wr.heap.size wr w7) := HB4.out.trans (HB7.out.mono HB4.out.size)
      have HD7 : Hid (DgV w7 w1.heap.size u10 (besideD z ls (sp.take k))) := HD.out.below HBR.out (Nat.le_refl _)
      have HLN : Hid ((besideD z ls (sp.take k)).length = k) := by show _ = _; rw [besideD, List.length_map, List.length_take]; have := HL.out; omega
      obtain ⟨D, HDq⟩ : ∃ D, Hid (besideD z ls (sp.take k) = D) := ⟨_, rfl⟩
      rw [HDq.out] at HD7 HLN
      have HOB : Hid (∀ q, u10.ownBlock = some q → w1.heap.size ≤ q ∧ q < wr.heap.size) := fun q hq => by
        have h := HD.out.1.lt q hq
        exact h
      refine wpAnyH_ready (rs := [7]) (by kernel_rfl) (by simp) ?_
      refine AllReadyH.cons rfl (fun K hK => ?_) AllReadyH.nil
      refine step_append_twok _ rfl (.tmp 38) (.tmp 44) 28 46 rfl i0 _ 32 32 Tryd.underlying28 hi hz0 hz1 hz2 rfl (by decide) w1.heap.size u10 D.length (digC D) rfl HD7.out.1 (Nat.le_trans HBE.out.size HBR.out.size) w6.heap.size 1 1 (cellsOf d) rfl (by rw [cellsOf_length, HDL.out]) HC7.out (cellsOf_one d) (by have := HLN.out; have := HOL.out; omega) (by decide) ?_
      intro v8 w8 hown8 hb8 hk8 hn8
      have HV8 : Hid (DgV w8 w1.heap.size v8 (D ++ [d])) := ⟨by rw [digC_app, List.length_append]; simpa [digC] using hown8, fun h => by simp at h, fun e he => by
        rcases List.mem_append.1 he with h | h
        · exact HD7.out.2.2 e h
        · rw [List.mem_singleton] at h; rw [h]; exact HDL.out⟩
      have HB8 : Hid (Below w1.heap.size w1 w8) := (HBE.out.trans (HBR.out.mono HBE.out.size)).trans hb8
      have HK8 : Hid (∀ q, q < W4.heap.size → q < w1.heap.size ∨ q = wr.heap.size → w8.heap[q]? = W4.heap[q]?) := fun q hq h => by
        rw [hk8 q (Nat.lt_of_lt_of_le hq HB7.out.size) (fun e => by have := HOB.out q e.symm; omega)]
        exact HB7.out.block q hq
      refine hK.out _ _ (HS.out _ HK8.out) (fun hHeld2 => ?_)
      clear hK K hown8 hb8 hk8 hn8
      simp only [Act.put, List.getElem_toArray, List.getElem_cons_zero, List.getElem_cons_succ, List.setIfInBounds_toArray, List.set_cons_zero, List.set_cons_succ]
      refine wpAnyH_take (i := 8) (v := ?_) rfl (by kernel_rfl) (by kernel_rfl) (by kernel_rfl) (fun _ _ _ h => h) (Or.inl ⟨by rfl, ?_⟩) (by assumption) ?_
      rotate_left
      · (intro w hSw; (try dsimp only at hSw); go_simp; try with_reducible rfl)
      simp only [Act.put, List.getElem_toArray, List.getElem_cons_zero, List.getElem_cons_succ, List.setIfInBounds_toArray, List.set_cons_zero, List.set_cons_succ]
      refine wpAnyH_done (by kernel_rfl) ?_ _
      clear hS hHeld2
      have HT : Hid (besideD z ls (sp.take (k + 1)) = D ++ [d]) := by
        show _ = _
        rw [← HDq.out, ← HDD.out, besideD, besideD, List.take_add_one, HP.out]
        simp
      rw [← HT.out] at HV8
      have hk1 : k + 1 ≤ L := by omega
      clear HOB
      go_wp2_with fail
      have hL2 := HOL.out
      rw [wrap64_small _ (by omega) (by omega)]
      refine ⟨⟨k + 1, rfl, hk1, HV8, HB8⟩, ?_⟩
      simp [intOf]
      omega
/-- tree.Range of a tree, of leaves that there are or aren't. -/
def rangeOk (n : Nat) (x y : Int) : Bool := decide (0 ≤ x ∧ x < y ∧ y ≤ n)
end Go.Proofs.YtecacjddggljgaaDoor.Sm

/-
  What tree.stepsUp answers: a contract over this translation.
-/
import Derived.Test.YtaebpnednhkfhaaDoorRev
import Derived.Test.YtaebpnednhkfhaaDoorNames
import Derived.Deep.DeepCutAuto
import Derived.Deep.RegionHeld3
namespace Go.Proofs.YtaebpnednhkfhaaDoor
open Go.RowKit
/-- An owned row is told by its own block alone. -/
theorem own_keep {w w' : World} {base e sz n : Nat} {v : Value} {xs : List Value} (h : w.ownsRow base e sz v n xs) (hk : ∀ g, v.ownBlock = some g → w'.heap[g]? = w.heap[g]?) : w'.ownsRow base e sz v n xs := by
  refine ⟨h.1, ?_⟩
  rcases h.2 with h2 | ⟨g, cap, cur, hv, hg, hh, hr⟩
  · exact .inl h2
  · exact .inr ⟨g, cap, cur, hv, hg, (hk g (by rw [hv]; rfl)).trans hh, hr⟩
theorem step_laid (w : World) (p : St) : ∀ j u, (encS p)[j]? = some u → (w.alloc (.cells (encS p).toArray 92)).cell? ((⟨w.heap.size, 0, none⟩ : Addr).add j) = some u := by
  intro j u hu
  rw [Addr.add_lit, cell_of_row _ _ _ _ _ _ (heap_alloc_new w _)]
  simpa using hu
theorem span_row {w : World} {g a b : Nat} (h : w.heap[g]? = some (.cells #[.int .i64 (a : Int), .int .i64 (b : Int)] 78 (0, 0))) : w.cell? ⟨g, 0, none⟩ = some (.int .i64 (a : Int)) ∧ w.cell? ⟨g, 1, none⟩ = some (.int .i64 (b : Int)) :=
  ⟨by rw [cell_of_row _ _ 0 _ _ _ h]; rfl, by rw [cell_of_row _ _ 1 _ _ _ h]; rfl⟩
/-- What a round leaves: a step behind the others, and the part that the leaf is in. -/
theorem round_done {w w6 w7 : World} {g : Nat} {v : Value} {l2 : List St} {a2 b2 : Nat} (hown : w6.ownsRow (g + 1) 92 3 v l2.length (flatS l2)) {x y : Value} (hg : w6.heap[g]? = some (.cells #[x, y] 78 (0, 0))) (hb : Below g w w6)
    (h7 : w7 = (w6.setCell ⟨g, 0, none⟩ (.int .i64 (a2 : Int))).setCell ⟨g, 1, none⟩ (.int .i64 (b2 : Int))) :
    w7.heap[g]? = some (.cells #[.int .i64 (a2 : Int), .int .i64 (b2 : Int)] 78 (0, 0)) ∧ w7.ownsRow (g + 1) 92 3 v l2.length (flatS l2) ∧ Below g w w7 := by
  subst h7
  have hne : ∀ q, q ≠ g → ((w6.setCell ⟨g, 0, none⟩ (.int .i64 (a2 : Int))).setCell ⟨g, 1, none⟩ (.int .i64 (b2 : Int))).heap[q]? = w6.heap[q]? := fun q hq => by
    unfold World.setCell
    dsimp only
    rw [Array.getElem?_modify, if_neg (by omega), Array.getElem?_modify, if_neg (by omega)]
  refine ⟨?_, own_keep hown fun q hq => hne q (by have := (hown.lt q hq).1; omega), hb.trans ⟨rfl, rfl, rfl, by unfold World.setCell; simp, fun q hq => hne q (by omega)⟩⟩
  unfold World.setCell
  dsimp only
  rw [Array.getElem?_modify, if_pos rfl, Array.getElem?_modify, if_pos rfl, hg]
  rfl
set_option maxHeartbeats 4000000 in
set_option maxRecDepth 100000 in
theorem steps_any (n i : Nat) (w : World) (hi0 : i < n) (hn : n ≤ 9223372036854775807) :
    Calls Tryd.prog 65 #[.int .i64 (n : Int), .int .i64 (i : Int)] w fun e w' => ∃ ao c, e = .returned (.slice ao (upL n i).length c) ∧ StV w' w.heap.size ao (upL n i) ∧ Below w.heap.size w w' := by
  obtain ⟨i0, hi, hz0, hz1, hz2⟩ := info_parts info92
  have HLT : Hid (i < n ∧ n ≤ 9223372036854775807) := ⟨hi0, hn⟩
  clear hi0 hn
  obtain ⟨W0, HW0⟩ : ∃ W, Hid (W = w.alloc (.cells #[.int .i64 0, .int .i64 (n : Int)] 78)) := ⟨_, rfl⟩
  have HB0 : Hid (Below w.heap.size w W0) := by show Below _ _ _; rw [HW0.out]; exact bel_alloc _ _
  have HN0 : Hid (W0.heap[w.heap.size]? = some (.cells #[.int .i64 ((0 : Nat) : Int), .int .i64 (n : Int)] 78 (0, 0))) := by show _ = _; rw [HW0.out]; exact heap_alloc_new w _
  have HZ0 : Hid (W0.heap.size = w.heap.size + 1) := by show _ = _; rw [HW0.out]; simp
  go_enter Tryd.func65, Tryd.ntmps65
  go_wp2_with fail
  go_loopw [5, 7, 8] (fun s5 _ _ wr => ∃ (a b : Nat) (l : List St), Hid (wr.heap[w.heap.size]? = some (.cells #[.int .i64 (a : Int), .int .i64 (b : Int)] 78 (0, 0))) ∧ Hid (a ≤ i ∧ i < b ∧ b ≤ n) ∧ Hid (l ++ dnL a b i = dnL 0 n i) ∧ Hid (wr.ownsRow (w.heap.size + 1) 92 3 s5 l.length (flatS l)) ∧ Hid (Below w.heap.size w wr)) (fun _ _ _ wr => (intOf ((wr.cell? ⟨w.heap.size, 1, none⟩).getD undef) - intOf ((wr.cell? ⟨w.heap.size, 0, none⟩).getD undef)).toNat)
  case atStart =>
    rw [← HW0.out]
    exact ⟨0, n, [], HN0, ⟨Nat.zero_le _, HLT.out.1, Nat.le_refl _⟩, rfl, World.ownsRow_nil _ _ _ _, HB0⟩
  case round =>
    obtain ⟨a, b, l, HR, HAB, HDN, HOW, HBE⟩ := hrel
    have c0 : wr.cell? ⟨w.heap.size, 0, none⟩ = some (.int .i64 (a : Int)) := by rw [cell_of_row _ _ 0 _ _ _ HR.out]; rfl
    have c1 : wr.cell? ⟨w.heap.size, 1, none⟩ = some (.int .i64 (b : Int)) := by rw [cell_of_row _ _ 1 _ _ _ HR.out]; rfl
    have hsub : wrap64 ((b : Int) - (a : Int)) = ((b - a : Nat) : Int) := by have := HAB.out; have := HLT.out; unfold wrap64; omega
    by_cases h2 : 2 ≤ b - a
    case neg =>
      have hgt : ¬ (1 : Int) < ((b - a : Nat) : Int) := by omega
      have HLL : Hid (l = dnL 0 n i) := by have h := HDN.out; rw [dnL_one i (by omega), List.append_nil] at h; exact h
      have HRV : Hid (∀ W, W = wr → Calls Tryd.prog 84 #[u5] W fun e w' => e = .returned (.tuple #[]) ∧ (∃ ao c, u5 = .slice ao l.length c ∧ StV w' (w.heap.size + 1) ao l.reverse) ∧ Below (w.heap.size + 1) wr w') := fun W hW => by
        rw [hW]
        have hlt := World.block_lt_of_cell? _ _ c0
        exact reverse_any (w.heap.size + 1) u5 l wr HOW.out (by rw [HLL.out]; exact dnL_len _ _ _) hlt
      clear h2
      go_wp2_with fail
      refine (HRV.out _ rfl).mono ?_
      rintro e w2 ⟨rfl, ⟨ao, c, rfl, hst⟩, hb2⟩
      have HST : Hid (StV w2 (w.heap.size + 1) ao l.reverse) := hst
      have HB2 : Hid (Below (w.heap.size + 1) wr w2) := hb2
      clear hst hb2 hsub hgt c0 c1
      go_wp2_with fail
      go_ret
      have hup : upL n i = l.reverse := by rw [HLL.out]; rfl
      rw [hup, List.length_reverse]
      refine ⟨_, _, rfl, fun hp => ?_, HBE.out.trans (HB2.out.mono (by omega))⟩
      obtain ⟨g, h1, h2, h3⟩ := HST.out hp
      exact ⟨g, h1, by omega, h3⟩
    case pos =>
      have hgt : (1 : Int) < ((b - a : Nat) : Int) := by omega
      obtain ⟨s1, s2, -, -, -⟩ := halfN_spec (b - a) h2 (by have := HAB.out; have := HLT.out; omega)
      have HH : Hid (∀ W, Calls Tryd.prog 58 #[.agg #[.int .i64 (a : Int), .int .i64 (b : Int)]] W fun e w' => e = .returned (.tuple #[sv a (a + halfN (b - a)), sv (a + halfN (b - a)) b]) ∧ Below W.heap.size W w') := fun W => halves_any a b W (by omega) (by have := HAB.out; have := HLT.out; omega)
      have HD2 := dnL_two i h2 (by have := HAB.out; have := HLT.out; omega)
      obtain ⟨m, HM⟩ : ∃ m, Hid (a + halfN (b - a) = m) := ⟨_, rfl⟩
      rw [HM.out] at HH HD2
      have HMM : Hid (a < m ∧ m < b) := by have := HM.out; show _ ∧ _; omega
      have HD2 : Hid _ := HD2
      unfold sv at HH
      clear s1 s2
      go_wp2_with fail
      refine (HH.out _).mono ?_
      rintro e w1 ⟨rfl, hb1⟩
      have HB1 : Hid (Below wr.heap.size wr w1) := hb1
      clear hb1 c0 c1 hgt h2 hsub
      go_upto_region 5 with fail
      obtain ⟨W4, HW4⟩ : ∃ W, Hid (W = (w1.alloc (.cells #[.int .i64 (a : Int), .int .i64 (m : Int)] 78)).alloc (.cells #[.int .i64 (m : Int), .int .i64 (b : Int)] 78)) := ⟨_, rfl⟩
      obtain ⟨d0, d1, d2, d3, hb4⟩ := two_cells w1 a m m b W4 HW4.out
      rw [← HW4.out]
      have HBR : Hid (Below wr.heap.size wr W4) := HB1.out.trans (hb4.mono HB1.out.size)
      have HGL : Hid (w.heap.size < wr.heap.size) := by
        have h := HR.out
        have := (Array.getElem?_eq_some_iff.1 h).1
        exact this
      have HF4 : Hid _ := And.intro d0 d1
      clear hb4
      by_cases him : i < m
      case pos =>
        have himz : (i : Int) < (m : Int) := by omega
        have HDN2 : Hid ((l ++ [(⟨m, b, false⟩ : St)]) ++ dnL a m i = dnL 0 n i) := by
          have h := HDN.out
          rw [HD2.out, if_pos him] at h
          rw [List.append_assoc]
          exact h
        have HAB2 : Hid (a ≤ i ∧ i < m ∧ m ≤ n) := by have := HAB.out; have := HMM.out; show _ ∧ _; omega
        have HLN : Hid (l.length ≤ 64) := by
          have h := congrArg List.length HDN.out
          rw [List.length_append] at h
          have := dnL_len 0 n i
          show _ ≤ _
          omega
        have HOA : Hid ((W4.alloc (.cells (encS ⟨m, b, false⟩).toArray 92)).ownsRow (w.heap.size + 1) 92 3 u5 l.length (flatS l)) := (own_below HOW.out HBR.out (Nat.le_refl _)).alloc _
        have HCA : Hid (∀ j u, (encS ⟨m, b, false⟩)[j]? = some u → (W4.alloc (.cells (encS ⟨m, b, false⟩).toArray 92)).cell? ((⟨W4.heap.size, 0, none⟩ : Addr).add j) = some u) := step_laid W4 ⟨m, b, false⟩
        have HBA : Hid (w.heap.size + 1 ≤ (W4.alloc (.cells (encS ⟨m, b, false⟩).toArray 92)).heap.size) := by show _ ≤ _; have := HGL.out; have := HBR.out.size; simp; omega
        clear him
        go_wp2_with (at_builtin; refine wpList_append_own _ rfl (.tmp 26) (.tmp 29) 88 rfl (w.heap.size + 1) 92 i0 _ 3 24 Tryd.underlying88 hi hz0 hz1 hz2 rfl (by decide) _ l.length (flatS l) rfl HOA.out ⟨W4.heap.size, 0, none⟩ 1 1 (encS ⟨m, b, false⟩) rfl rfl HCA.out (encS_one _) (by have := HLN.out; unfold maxLen; omega) (by have := HLN.out; omega) HBA.out ?_)
        intro v6 w6 hown6 hgr6 _
        have HOB : Hid (∀ q, u5.ownBlock = some q → w.heap.size + 1 ≤ q ∧ q < wr.heap.size) := fun q hq => HOW.out.lt q hq
        have HK6 : Hid (∀ q, q < W4.heap.size → (q ≤ w.heap.size ∨ wr.heap.size ≤ q) → w6.heap[q]? = W4.heap[q]?) := fun q hq hor => by
          rw [hgr6.block q (by simp; omega) (fun e => by have := HOB.out q e.symm; omega)]
          exact Below.heap_alloc _ _ _ hq
        have HR6 : Hid (w6.heap[w.heap.size]? = some (.cells #[.int .i64 (a : Int), .int .i64 (b : Int)] 78 (0, 0))) := by
          show _ = _
          have h1 := HGL.out
          have h2 := HBR.out.size
          rw [HK6.out _ (by omega) (Or.inl (Nat.le_refl _)), HBR.out.block _ h1]
          exact HR.out
        have hlt4 : w1.heap.size < W4.heap.size := World.block_lt_of_cell? _ _ d0
        have hge4 : wr.heap.size ≤ w1.heap.size := by have := HB1.out.size; omega
        have e0 : w6.cell? ⟨w1.heap.size, 0, none⟩ = some (.int .i64 (a : Int)) := (World.cell?_of_block (w := W4) (HK6.out (w1.heap.size) hlt4 (Or.inr hge4))).trans d0
        have e1 : w6.cell? ⟨w1.heap.size, 1, none⟩ = some (.int .i64 (m : Int)) := (World.cell?_of_block (w := W4) (HK6.out (w1.heap.size) hlt4 (Or.inr hge4))).trans d1
        have HO6 : Hid (w6.ownsRow (w.heap.size + 1) 92 3 v6 (l ++ [(⟨m, b, false⟩ : St)]).length (flatS (l ++ [(⟨m, b, false⟩ : St)]))) := by
          show World.ownsRow _ _ _ _ _ _ _
          rw [flatS_append, List.length_append]
          simpa [flatS] using hown6
        have HB6 : Hid (Below w.heap.size w w6) := (HBE.out.trans (HBR.out.mono HBE.out.size)).trans (((bel_alloc W4 _).mono (Nat.le_trans HBE.out.size HBR.out.size)).grown hgr6 (by have := HBE.out.size; have := HBR.out.size; simp; omega) (fun k hk => by have := HOB.out k hk; omega))
        clear hown6 hgr6 hlt4 hge4 d0 d1 d2 d3
        obtain ⟨f0, f1⟩ := span_row HR6.out
        have z0 := frozen_of_row w6 _ 0 _ _ HR6.out
        have z1 := frozen_of_row w6 _ 1 _ _ HR6.out
        go_wp2_with fail
        obtain ⟨r1, r2, r3⟩ := round_done (a2 := a) (b2 := m) HO6.out HR6.out HB6.out rfl
        obtain ⟨k0, k1⟩ := span_row r1
        obtain ⟨j0, j1⟩ := span_row HR.out
        refine ⟨⟨a, m, _, r1, HAB2, HDN2, r2, r3⟩, ?_⟩
        rw [k0, k1, j0, j1]
        have := HMM.out
        simp [intOf]
        omega
      case neg =>
        have himz : ¬ (i : Int) < (m : Int) := by omega
        have HDN2 : Hid ((l ++ [(⟨a, m, true⟩ : St)]) ++ dnL m b i = dnL 0 n i) := by
          have h := HDN.out
          rw [HD2.out, if_neg him] at h
          rw [List.append_assoc]
          exact h
        have HAB2 : Hid (m ≤ i ∧ i < b ∧ b ≤ n) := by have := HAB.out; have := HMM.out; show _ ∧ _; omega
        have HLN : Hid (l.length ≤ 64) := by
          have h := congrArg List.length HDN.out
          rw [List.length_append] at h
          have := dnL_len 0 n i
          show _ ≤ _
          omega
        have HOA : Hid ((W4.alloc (.cells (encS ⟨a, m, true⟩).toArray 92)).ownsRow (w.heap.size + 1) 92 3 u5 l.length (flatS l)) := (own_below HOW.out HBR.out (Nat.le_refl _)).alloc _
        have HCA : Hid (∀ j u, (encS ⟨a, m, true⟩)[j]? = some u → (W4.alloc (.cells (encS ⟨a, m, true⟩).toArray 92)).cell? ((⟨W4.heap.size, 0, none⟩ : Addr).add j) = some u) := step_laid W4 ⟨a, m, true⟩
        have HBA : Hid (w.heap.size + 1 ≤ (W4.alloc (.cells (encS ⟨a, m, true⟩).toArray 92)).heap.size) := by show _ ≤ _; have := HGL.out; have := HBR.out.size; simp; omega
        clear him
        go_wp2_with (at_builtin; refine wpList_append_own _ rfl (.tmp 32) (.tmp 35) 88 rfl (w.heap.size + 1) 92 i0 _ 3 24 Tryd.underlying88 hi hz0 hz1 hz2 rfl (by decide) _ l.length (flatS l) rfl HOA.out ⟨W4.heap.size, 0, none⟩ 1 1 (encS ⟨a, m, true⟩) rfl rfl HCA.out (encS_one _) (by have := HLN.out; unfold maxLen; omega) (by have := HLN.out; omega) HBA.out ?_)
        intro v6 w6 hown6 hgr6 _
        have HOB : Hid (∀ q, u5.ownBlock = some q → w.heap.size + 1 ≤ q ∧ q < wr.heap.size) := fun q hq => HOW.out.lt q hq
        have HK6 : Hid (∀ q, q < W4.heap.size → (q ≤ w.heap.size ∨ wr.heap.size ≤ q) → w6.heap[q]? = W4.heap[q]?) := fun q hq hor => by
          rw [hgr6.block q (by simp; omega) (fun e => by have := HOB.out q e.symm; omega)]
          exact Below.heap_alloc _ _ _ hq
        have HR6 : Hid (w6.heap[w.heap.size]? = some (.cells #[.int .i64 (a : Int), .int .i64 (b : Int)] 78 (0, 0))) := by
          show _ = _
          have h1 := HGL.out
          have h2 := HBR.out.size
          rw [HK6.out _ (by omega) (Or.inl (Nat.le_refl _)), HBR.out.block _ h1]
          exact HR.out
        have hlt4 : w1.heap.size + 1 < W4.heap.size := World.block_lt_of_cell? _ _ d2
        have hge4 : wr.heap.size ≤ w1.heap.size + 1 := by have := HB1.out.size; omega
        have e0 : w6.cell? ⟨w1.heap.size + 1, 0, none⟩ = some (.int .i64 (m : Int)) := (World.cell?_of_block (w := W4) (HK6.out (w1.heap.size + 1) hlt4 (Or.inr hge4))).trans d2
        have e1 : w6.cell? ⟨w1.heap.size + 1, 1, none⟩ = some (.int .i64 (b : Int)) := (World.cell?_of_block (w := W4) (HK6.out (w1.heap.size + 1) hlt4 (Or.inr hge4))).trans d3
        have HO6 : Hid (w6.ownsRow (w.heap.size + 1) 92 3 v6 (l ++ [(⟨a, m, true⟩ : St)]).length (flatS (l ++ [(⟨a, m, true⟩ : St)]))) := by
          show World.ownsRow _ _ _ _ _ _ _
          rw [flatS_append, List.length_append]
          simpa [flatS] using hown6
        have HB6 : Hid (Below w.heap.size w w6) := (HBE.out.trans (HBR.out.mono HBE.out.size)).trans (((bel_alloc W4 _).mono (Nat.le_trans HBE.out.size HBR.out.size)).grown hgr6 (by have := HBE.out.size; have := HBR.out.size; simp; omega) (fun k hk => by have := HOB.out k hk; omega))
        clear hown6 hgr6 hlt4 hge4 d0 d1 d2 d3
        obtain ⟨f0, f1⟩ := span_row HR6.out
        have z0 := frozen_of_row w6 _ 0 _ _ HR6.out
        have z1 := frozen_of_row w6 _ 1 _ _ HR6.out
        go_wp2_with fail
        obtain ⟨r1, r2, r3⟩ := round_done (a2 := m) (b2 := b) HO6.out HR6.out HB6.out rfl
        obtain ⟨k0, k1⟩ := span_row r1
        obtain ⟨j0, j1⟩ := span_row HR.out
        refine ⟨⟨m, b, _, r1, HAB2, HDN2, r2, r3⟩, ?_⟩
        rw [k0, k1, j0, j1]
        have := HMM.out
        simp [intOf]
        omega
end Go.Proofs.YtaebpnednhkfhaaDoor

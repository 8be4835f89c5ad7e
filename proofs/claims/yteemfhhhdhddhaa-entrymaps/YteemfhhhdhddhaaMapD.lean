/-
  What slices.DeleteFunc and entry.Map answer: contracts over this translation.
-/
import Derived.Test.YteemfhhhdhddhaaMapE
namespace Go.Proofs.Yteemfhhhdhddhaa
open Go.RowKit Go.Sort Go.Shelf
set_option linter.unusedSectionVars false
variable [Inhabited E] [DecidableEq E]
/-- What is not taken away. -/
def filt (es : List E) : List E := es.filter fun e => !e.del
theorem filt_len (es : List E) : (filt es).length ≤ es.length := List.length_filter_le _ _
theorem filt_snoc (es : List E) (j : Nat) (hj : j < es.length) (x : E) (hx : es[j]! = x) : filt (es.take (j + 1)) = filt (es.take j) ++ (if x.del then [] else [x]) := by
  unfold filt
  rw [List.take_add_one, List.filter_append, List.getElem?_eq_getElem hj]
  rw [getElem!_pos es j hj] at hx
  rw [hx]
  cases hd : x.del <;> simp [hd]
theorem filt_all {es : List E} (h : ∀ j, j < es.length → es[j]!.del = false) : filt es = es := by
  unfold filt
  rw [List.filter_eq_self]
  intro x hx
  obtain ⟨i, hi, rfl⟩ := List.getElem_of_mem hx
  have := h i hi
  rw [getElem!_pos es i hi] at this
  simp [this]
theorem firstDel_before {es : List E} {j : Nat} (h : j < firstDel es) : j < es.length ∧ es[j]!.del = false := by
  unfold firstDel at h
  have hl : j < es.length := Nat.lt_of_lt_of_le h List.findIdx_le_length
  refine ⟨hl, ?_⟩
  have := List.not_of_lt_findIdx h
  rw [getElem!_pos es j hl]
  simpa using this
theorem firstDel_is {es : List E} (h : firstDel es < es.length) : es[firstDel es]!.del = true := by
  rw [getElem!_pos es _ h]
  exact List.findIdx_getElem (w := h)
theorem filt_first (es : List E) : filt (es.take (firstDel es)) = es.take (firstDel es) := by
  refine filt_all fun j hj => ?_
  rw [List.length_take] at hj
  obtain ⟨h1, h2⟩ := firstDel_before (es := es) (j := j) (by omega)
  rw [getElem!_pos _ j (by rw [List.length_take]; omega), List.getElem_take]
  rwa [getElem!_pos es j h1] at h2
theorem row_at (F es : List E) (j : Nat) (hF : F.length ≤ j) (hj : j < es.length) : (F ++ es.drop F.length)[j]! = es[j]! := by
  rw [getElem!_pos (F ++ es.drop F.length) j (by rw [List.length_append, List.length_drop]; omega), getElem!_pos es j hj, List.getElem_append_right hF, List.getElem_drop]
  congr 1
  omega
theorem row_set (F es : List E) (x : E) (hF : F.length < es.length) : (F ++ es.drop F.length).set F.length x = (F ++ [x]) ++ es.drop (F ++ [x]).length := by
  rw [List.set_append_right _ _ (Nat.le_refl _), Nat.sub_self, List.drop_eq_getElem_cons hF, List.set_cons_zero, List.length_append, List.length_singleton, List.append_assoc]
  rfl
def zeros (n : Nat) : List Value := (Builtin.zeroCells #[.string ⟨#[]⟩, .string ⟨#[]⟩, .bool false, .int .i64 0] n).toList
theorem zeros_len (n : Nat) : (zeros n).length = n * 4 := by simp [zeros, Builtin.zeroCells]
theorem zeros_one (n : Nat) : ∀ v ∈ zeros n, v.oneCell' = true := by
  intro v hv
  simp only [zeros, Builtin.zeroCells, Array.toList_map, List.mem_map] at hv
  obtain ⟨i, _, rfl⟩ := hv
  have h : i % 4 = 0 ∨ i % 4 = 1 ∨ i % 4 = 2 ∨ i % 4 = 3 := by omega
  show (#[Value.string ⟨#[]⟩, .string ⟨#[]⟩, .bool false, .int .i64 0][i % 4]!).oneCell' = true
  rcases h with h | h | h | h <;> (rw [h]; rfl)
theorem run_clear_ents (w : World) (ty : TypeId) (b o n c : Nat) (hn : 0 < n)
    (hc : ∀ j, j < n * 4 → (w.cell? ⟨b, o + j, none⟩).isSome = true) (hf : ∀ j, j < n * 4 → w.frozen? ⟨b, o + j, none⟩ = false) :
    (Builtin.clear_ #[35] ty #[.slice (some ⟨b, o, none⟩) n c]).run Try.prog w = .ok (.tuple #[]) (w.setCells b o (zeros n)) := by
  have hst := run_storeCells_cells (P := Try.prog) b o (zeros n) 0 w (by rw [zeros_len]; simpa using hc) (by rw [zeros_len]; simpa using hf) (zeros_one n)
  simp only [Nat.add_zero] at hst
  obtain ⟨m, rfl⟩ : ∃ m, n = m + 1 := ⟨n - 1, by omega⟩
  have hz : ∀ (w : World) (a : Addr), (storeCells a (Builtin.zeroCells (Value.agg #[.string ⟨#[]⟩, .string ⟨#[]⟩, .bool false, .int .i64 0]).cells (m + 1)).toList).run Try.prog w = (storeCells a (zeros (m + 1))).run Try.prog w := fun _ _ => rfl
  simp [Builtin.clear_, run_underlying Try.underlying35, hz, hst]
theorem own_cells {w : World} {base g n cap : Nat} {L : List E} (h : w.ownsRow base 23 4 (.slice (some ⟨g, 0, none⟩) n cap) n (flatE L)) :
    Ents w g 0 L ∧ base ≤ g ∧ g < w.heap.size ∧ n ≤ cap ∧ cap ≤ maxLen ∧ L.length = n ∧ (∀ j, w.frozen? ⟨g, j, none⟩ = false) := by
  have hl : L.length = n := by have := h.1; rw [flatE_len] at this; omega
  refine ⟨?_, ?_, ?_, ?_, ?_, hl, fun j => h.frozenAt j⟩
  · intro j u hu
    have := h.cells (g := g) rfl j u hu
    rw [Addr.add_lit] at this
    rwa [Nat.zero_add] at this ⊢
  all_goals
    rcases h.2 with ⟨h', _⟩ | ⟨g', cap', cur, h', hb, hg, hnc, hcm, hcs, htake⟩
    · simp at h'
    · simp only [Value.slice.injEq, Option.some.injEq, Addr.mk.injEq, and_true, true_and] at h'
      obtain ⟨rfl, rfl⟩ := h'
      first | exact hb | exact (Array.getElem?_eq_some_iff.1 hg).1 | exact hnc | exact hcm
set_option maxRecDepth 100000 in
set_option maxHeartbeats 4000000 in
theorem delete_any (base g n cap : Nat) (es : List E) (w : World) (hown : w.ownsRow base 23 4 (.slice (some ⟨g, 0, none⟩) n cap) n (flatE es)) (hbig : n ≤ 1000000000000) :
    Calls Try.prog 55 #[.slice (some ⟨g, 0, none⟩) n cap, .func (.func 56) #[] #[]] w fun e w' => ∃ ao m c, e = .returned (.slice ao m c) ∧ EntsV w' ao m (filt es) ∧ Below base w w' := by
  obtain ⟨hE, hbg, hgw, hnc, hcm, hl, hfz⟩ := own_cells hown
  have HO : Hid (w.ownsRow base 23 4 (.slice (some ⟨g, 0, none⟩) n cap) n (flatE es)) := hown
  have HLN : Hid (es.length = n) := hl
  have hEV : EntsV w (some ⟨g, 0, none⟩) n es := ⟨hl, fun _ => ⟨g, 0, rfl, hE⟩⟩
  have CI := index_any (some ⟨g, 0, none⟩) n cap es w hEV hbig
  have hcap : cap ≤ 9223372036854775807 := by unfold maxLen at hcm; omega
  by_cases hi0 : firstDel es < n
  · rw [if_pos hi0] at CI
    obtain ⟨i0, HI0⟩ : ∃ i, Hid (firstDel es = i) := ⟨_, rfl⟩
    rw [HI0.out] at CI hi0
    have HCI : Hid _ := CI
    have HST : Hid (filt (es.take (i0 + 1)) = es.take i0) := by
      show _ = _
      rw [filt_snoc es i0 (by omega) _ rfl, ← HI0.out, firstDel_is (by rw [HI0.out]; omega), if_pos rfl, List.append_nil, filt_first]
    have q1 : ((i0 : Int) == -1) = false := by simp
    have q2 : ¬ ((i0 : Int) = -1) := by omega
    clear CI hown hE hEV hl hfz hcm
    go_enter Try.func55, Try.ntmps55
    go_wp2_with fail
    refine Calls.mono HCI.out ?_
    rintro e w1 ⟨rfl, hb1⟩
    have HO1 : Hid (w1.ownsRow base 23 4 (.slice (some ⟨g, 0, none⟩) n cap) n (flatE es)) := own_below HO.out hb1 (Nat.le_refl _)
    have HB1 : Hid (Below base w w1) := hb1.mono (by omega)
    clear hb1 HO HCI
    go_wp2_with fail
    go_loopw [5, 6, 7] (fun x y _ wr => ∃ (j : Nat) (F : List E), Hid (F = filt (es.take j)) ∧ x = .int .i64 F.length ∧ y = .int .i64 j ∧ F.length < j ∧ j ≤ n ∧ Hid (wr.ownsRow base 23 4 (.slice (some ⟨g, 0, none⟩) n cap) n (flatE (F ++ es.drop F.length))) ∧ Hid (Below base w wr)) (fun _ y _ _ => n - (intOf y).toNat)
    case atStart =>
      have hlt0 : (es.take i0).length = i0 := by rw [List.length_take, HLN.out]; omega
      refine ⟨i0 + 1, es.take i0, HST.out.symm, by rw [hlt0], by go_num, by omega, by omega, ?_, HB1⟩
      show World.ownsRow _ _ _ _ _ _ _
      rw [hlt0, List.take_append_drop]
      exact HO1.out
    case round =>
      obtain ⟨j, F, HF, rfl, rfl, hFj, hjn, HOR, HBR⟩ := hrel
      obtain ⟨i, HFI⟩ : ∃ i, Hid (F.length = i) := ⟨_, rfl⟩
      rw [HFI.out] at hFj HOR ⊢
      obtain ⟨L, HL⟩ : ∃ L, Hid (F ++ es.drop i = L) := ⟨_, rfl⟩
      rw [HL.out] at HOR
      obtain ⟨hEr, -, hgr, -, -, hLl, hfzr⟩ := own_cells HOR.out
      have hin : (i : Int) < (n : Int) := by omega
      have hic : (i : Int) ≤ (cap : Int) := by omega
      have hncz : (n : Int) ≤ (cap : Int) := by omega
      by_cases hlt : j < n
      · have hltz : (j : Int) < (n : Int) := by omega
        obtain ⟨k0, v0, d0, q0, HX⟩ : ∃ k0 v0 d0 q0, Hid (es[j]! = E.mk k0 v0 d0 q0) := ⟨_, _, _, _, rfl⟩
        have hLj : L[j]! = E.mk k0 v0 d0 q0 := by
          rw [← HX.out, ← HL.out, ← HFI.out]
          exact row_at F es j (by rw [HFI.out]; omega) (by rw [HLN.out]; exact hlt)
        obtain ⟨c0, c1, c2, c3⟩ := ents_four hEr j (by omega) hLj
        simp only [Nat.zero_add] at c0 c1 c2 c3
        have HSN : Hid (filt (es.take (j + 1)) = F ++ (if d0 then [] else [⟨k0, v0, d0, q0⟩])) := by
          show _ = _
          rw [filt_snoc es j (by rw [HLN.out]; exact hlt) _ HX.out, HF.out]
        clear hEr hLj
        go_wp2_with fail
        refine (mapf_any k0 v0 d0 q0 _).mono ?_
        rintro e w2 ⟨rfl, hb2⟩
        have hblk : w2.heap[wr.heap.size]? = some (Obj.cells #[.string k0, .string v0, .bool d0, .int .i64 q0] 23) := by rw [hb2.block _ (by simp), heap_alloc_get, if_pos rfl]
        have hb2' : Below wr.heap.size wr w2 := (bel_alloc wr _).trans (hb2.mono (by simp))
        have HO2 : Hid (w2.ownsRow base 23 4 (.slice (some ⟨g, 0, none⟩) n cap) n (flatE L)) := own_below HOR.out hb2' (Nat.le_refl _)
        have HB2 : Hid (Below base w w2) := HBR.out.trans (hb2'.mono (by omega))
        clear hb2 hb2' c0 c1 c2 c3 hfzr
        cases d0 with
        | true =>
          clear hblk
          go_wp2
          go_roundw
          case rel =>
            refine ⟨j + 1, F, ?_, by rw [HFI.out], by go_num, by rw [HFI.out]; omega, by omega, ?_, HB2⟩
            · show _ = _
              rw [HSN.out]; simp
            · rw [HFI.out, HL.out]; exact HO2
          case measure => simp [intOf]; omega
        | false =>
          obtain ⟨hE2, -, hg2, -, -, -, hfz2⟩ := own_cells HO2.out
          obtain ⟨k1, v1, d1, q1', HX1⟩ : ∃ k0 v0 d0 q0, Hid (L[i]! = E.mk k0 v0 d0 q0) := ⟨_, _, _, _, rfl⟩
          obtain ⟨s0, s1, s2, s3⟩ := ents_four hE2 i (by omega) HX1.out
          simp only [Nat.zero_add] at s0 s1 s2 s3
          have e0 : w2.cell? ⟨wr.heap.size, 0, none⟩ = some (.string k0) := by rw [cell_of_row _ _ _ _ _ _ hblk]; rfl
          have e1 : w2.cell? ⟨wr.heap.size, 1, none⟩ = some (.string v0) := by rw [cell_of_row _ _ _ _ _ _ hblk]; rfl
          have e2 : w2.cell? ⟨wr.heap.size, 2, none⟩ = some (.bool false) := by rw [cell_of_row _ _ _ _ _ _ hblk]; rfl
          have e3 : w2.cell? ⟨wr.heap.size, 3, none⟩ = some (.int .i64 q0) := by rw [cell_of_row _ _ _ _ _ _ hblk]; rfl
          have hne : ¬ wr.heap.size = g := by omega
          have f0 := hfz2 (i * 4)
          have f1 := hfz2 (i * 4 + 1)
          have f2 := hfz2 (i * 4 + 2)
          have f3 := hfz2 (i * 4 + 3)
          have hO3 := own_set HO2.out i (by omega) k0 v0 false q0
          have HB3 : Hid (Below base w ((((w2.setCell ⟨g, i * 4, none⟩ (.string k0)).setCell ⟨g, i * 4 + 1, none⟩ (.string v0)).setCell ⟨g, i * 4 + 2, none⟩ (.bool false)).setCell ⟨g, i * 4 + 3, none⟩ (.int .i64 q0))) := (((HB2.out.setCell (p := ⟨g, i * 4, none⟩) hbg (.string k0)).setCell (p := ⟨g, i * 4 + 1, none⟩) hbg (.string v0)).setCell (p := ⟨g, i * 4 + 2, none⟩) hbg (.bool false)).setCell (p := ⟨g, i * 4 + 3, none⟩) hbg (.int .i64 q0)
          clear hE2 hfz2 hblk
          have HL3 : Hid (L.set i ⟨k0, v0, false, q0⟩ = (F ++ [⟨k0, v0, false, q0⟩]) ++ es.drop (F ++ [(⟨k0, v0, false, q0⟩ : E)]).length) := by
            show _ = _
            have hrs := row_set F es ⟨k0, v0, false, q0⟩ (by rw [HFI.out, HLN.out]; omega)
            rw [HFI.out, HL.out] at hrs
            exact hrs
          rw [HL3.out] at hO3
          have HO3 : Hid (World.ownsRow _ base 23 4 (.slice (some ⟨g, 0, none⟩) n cap) n (flatE ((F ++ [⟨k0, v0, false, q0⟩]) ++ es.drop (F ++ [(⟨k0, v0, false, q0⟩ : E)]).length))) := hO3
          clear hO3
          go_wp2
          go_roundw
          case rel =>
            refine ⟨j + 1, F ++ [⟨k0, v0, false, q0⟩], ?_, by rw [List.length_append, HFI.out]; rfl, by go_num, by rw [List.length_append, HFI.out, List.length_singleton]; omega, by omega, HO3, HB3⟩
            show _ = _
            rw [HSN.out]; simp
          case measure => simp [intOf]; omega
      · have hltz : ¬ (j : Int) < (n : Int) := by omega
        have hjn' : j = n := by omega
        have HFE : Hid (F = filt es) := by
          show _ = _
          rw [HF.out, hjn', List.take_of_length_le (by rw [HLN.out]; omega)]
        have hclr : ∀ ty, (Builtin.clear_ #[35] ty #[.slice (some ⟨g, i * 4, none⟩) (n - i) (cap - i)]).run Try.prog wr = .ok (.tuple #[]) (wr.setCells g (i * 4) (zeros (n - i))) := fun ty => by
          refine run_clear_ents wr ty g (i * 4) (n - i) (cap - i) (by omega) (fun j' hj' => ?_) (fun j' _ => hfzr _)
          have hlt' : i * 4 + j' < (flatE L).length := by rw [flatE_len, hLl]; omega
          have := hEr (i * 4 + j') _ (List.getElem?_eq_getElem hlt')
          rw [Nat.zero_add] at this
          rw [this]; rfl
        have HEF : Hid (EntsV (wr.setCells g (i * 4) (zeros (n - i))) (some ⟨g, 0, none⟩) i (filt es)) := by
          show EntsV _ _ _ _
          rw [← HFE.out]
          refine ⟨HFI.out, fun _ => ⟨g, 0, rfl, fun j' u hu => ?_⟩⟩
          have hlt' := (List.getElem?_eq_some_iff.1 hu).1
          rw [flatE_len, HFI.out] at hlt'
          rw [World.cell?_setCells_out _ _ _ _ _ (fun _ _ => Or.inl (by simp only; omega))]
          refine hEr j' u ?_
          rw [← HL.out, flatE_append, List.getElem?_append_left (List.getElem?_eq_some_iff.1 hu).1]
          exact hu
        have HBF : Hid (Below base w (wr.setCells g (i * 4) (zeros (n - i)))) := Go.below_setCells hbg _ _ _ HBR.out
        have hci : ¬ cap = i := by omega
        have hicz : (i : Int) ≤ (n : Int) := by omega
        clear hEr hfzr hjn'
        go_wp2
        go_ret
        exact ⟨_, _, ⟨_, rfl⟩, HEF.out, HBF.out⟩
  · rw [if_neg hi0] at CI
    have HCI : Hid _ := CI
    have HFA : Hid (filt es = es) := by
      refine filt_all fun j hj => (firstDel_before ?_).2
      have := List.findIdx_le_length (xs := es) (p := fun e => e.del)
      unfold firstDel at hi0 ⊢
      omega
    have HEV : Hid _ := hEV
    clear CI hown hE hEV hl hfz hcm HO
    go_enter Try.func55, Try.ntmps55
    go_wp2_with fail
    refine Calls.mono HCI.out ?_
    rintro e w1 ⟨rfl, hb1⟩
    have HE1 : Hid (EntsV w1 (some ⟨g, 0, none⟩) n es) := EntsV.below HEV.out hb1 (Nat.le_refl _)
    have HB1 : Hid (Below base w w1) := hb1.mono (by omega)
    clear hb1
    go_wp2
    go_ret
    exact ⟨_, _, _, rfl, by rw [HFA.out]; exact HE1.out, HB1.out⟩
end Go.Proofs.Yteemfhhhdhddhaa

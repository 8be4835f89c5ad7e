/-
  slices.DeleteFunc at pieces.
-/
import Derived.Test.YtomeghngjiaofaaDkF
namespace Go.Proofs.Ytomeghngjiaofaa
open Go.RowKit
theorem pcI_set : ∀ (l : List (Nat × Nat)) (i q c : Nat), i < l.length → ((pcI l).set (i * 2) (.pointer (some ⟨q, 0, none⟩))).set (i * 2 + 1) (.int .i64 (c : Int)) = pcI (l.set i (q, c))
  | [], i, _, _, h => absurd h (by simp)
  | e :: l, 0, q, c, _ => rfl
  | e :: l, i + 1, q, c, h => by
    have ih := pcI_set l i q c (by simpa using h)
    rw [List.set_cons_succ]
    unfold pcI at ih ⊢
    rw [pcC_cons, pcC_cons, ← ih, show (i + 1) * 2 = i * 2 + 1 + 1 by omega]
    rfl
theorem pcI_store {w : World} {base g n cap : Nat} {l : List (Nat × Nat)} (h : w.ownsRow base 79 2 (.slice (some ⟨g, 0, none⟩) n cap) n (pcI l)) (i : Nat) (hi : i < n) (q c : Nat) :
    ((w.setCell ⟨g, i * 2, none⟩ (.pointer (some ⟨q, 0, none⟩))).setCell ⟨g, i * 2 + 1, none⟩ (.int .i64 (c : Int))).ownsRow base 79 2 (.slice (some ⟨g, 0, none⟩) n cap) n (pcI (l.set i (q, c))) := by
  have hl : i < l.length := by have := h.1; rw [pcC_len] at this; omega
  rw [← pcI_set l i q c hl]
  exact ((h.stored _ _).1.stored _ _).1
theorem pcC_take (blk : Nat → Nat) (l : List (Nat × Nat)) (i : Nat) (h : i ≤ l.length) : pcC blk (l.take i) = (pcC blk l).take (i * 2) := by
  have e : pcC blk l = pcC blk (l.take i) ++ pcC blk (l.drop i) := by rw [← pcC_append, List.take_append_drop]
  rw [e, List.take_left' (by rw [pcC_len, List.length_take]; omega)]
def zerosP (n : Nat) : List Value := (Builtin.zeroCells #[.pointer none, .int .i64 0] n).toList
theorem zerosP_len (n : Nat) : (zerosP n).length = n * 2 := by simp [zerosP, Builtin.zeroCells]
theorem zerosP_one (n : Nat) : ∀ v ∈ zerosP n, v.oneCell' = true := by
  intro v hv
  simp only [zerosP, Builtin.zeroCells, Array.toList_map, List.mem_map] at hv
  obtain ⟨i, _, rfl⟩ := hv
  have h : i % 2 = 0 ∨ i % 2 = 1 := by omega
  show (#[Value.pointer none, .int .i64 0][i % 2]!).oneCell' = true
  rcases h with h | h <;> (rw [h]; rfl)
theorem run_clear_pcs (w : World) (ty : TypeId) (b o n c : Nat) (hn : 0 < n)
    (hc : ∀ j, j < n * 2 → (w.cell? ⟨b, o + j, none⟩).isSome = true) (hf : ∀ j, j < n * 2 → w.frozen? ⟨b, o + j, none⟩ = false) :
    (Builtin.clear_ #[67] ty #[.slice (some ⟨b, o, none⟩) n c]).run Try.prog w = .ok (.tuple #[]) (w.setCells b o (zerosP n)) := by
  have hst := run_storeCells_cells (P := Try.prog) b o (zerosP n) 0 w (by rw [zerosP_len]; simpa using hc) (by rw [zerosP_len]; simpa using hf) (zerosP_one n)
  simp only [Nat.add_zero] at hst
  obtain ⟨m, rfl⟩ : ∃ m, n = m + 1 := ⟨n - 1, by omega⟩
  have hz : ∀ (w : World) (a : Addr), (storeCells a (Builtin.zeroCells (Value.agg #[.pointer none, .int .i64 0]).cells (m + 1)).toList).run Try.prog w = (storeCells a (zerosP (m + 1))).run Try.prog w := fun _ _ => rfl
  simp [Builtin.clear_, run_underlying Try.underlying67, hz, hst]
/-- The row's first part, behind a clearing of the rest. -/
theorem row_cleared {w : World} {base g n cap i : Nat} {l F : List (Nat × Nat)} (h : w.ownsRow base 79 2 (.slice (some ⟨g, 0, none⟩) n cap) n (pcI l)) (hi : i ≤ n) (hF : l.take i = F) : (w.setCells g (i * 2) (zerosP (n - i))).ownsRow base 79 2 (.slice (some ⟨g, 0, none⟩) i cap) i (pcI F) := by
  have hl : l.length = n := (pcI_own h).2.2.2.2.1
  have hFl : F.length = i := by rw [← hF, List.length_take]; omega
  have key : ∀ (vs : List Value) (W : World) (o : Nat), i * 2 ≤ o → W.ownsRow base 79 2 (.slice (some ⟨g, 0, none⟩) i cap) i (pcI F) → (W.setCells g o vs).ownsRow base 79 2 (.slice (some ⟨g, 0, none⟩) i cap) i (pcI F) := by
    intro vs
    induction vs with
    | nil => intro W o _ hW; exact hW
    | cons v vs ih =>
      intro W o ho hW
      have h1 := (hW.stored o v).1
      have e : (pcI F).set o v = pcI F := List.set_eq_of_length_le (by rw [pcC_len, hFl]; exact ho)
      rw [e] at h1
      exact ih _ (o + 1) (by omega) h1
  refine key _ _ _ (Nat.le_refl _) ?_
  rcases h.2 with ⟨h', _⟩ | ⟨g', cap', cur, h', hb, hg, hnc, hcm, hcs, htake⟩
  · simp at h'
  · simp only [Value.slice.injEq, Option.some.injEq, Addr.mk.injEq, and_true, true_and] at h'
    obtain ⟨rfl, rfl⟩ := h'
    refine ⟨by rw [pcC_len, hFl], .inr ⟨g, cap, cur, rfl, hb, hg, by omega, hcm, hcs, ?_⟩⟩
    rw [← hF]
    have e1 : pcI (l.take i) = (pcI l).take (i * 2) := pcC_take _ l i (by omega)
    rw [e1, ← htake, List.take_take]
    congr 1
    omega
theorem only_setCells {own : Nat → Prop} {a b : World} {g : Nat} (hg : grow own a g) : ∀ (vs : List Value) (o : Nat), Only own a b → Only own a (b.setCells g o vs) := by
  intro vs
  induction vs generalizing b with
  | nil => intro o h; exact h
  | cons v vs ih => intro o h; exact ih (o + 1) (h.setCell (p := ⟨g, o, none⟩) hg v)
abbrev oneB (g : Nat) (k : Nat) : Prop := k = g
theorem Bk.only {w w' : World} {g k : Nat} (h : Bk w k) (ho : Only (oneB g) w w') (hne : k ≠ g) : Bk w' k := by
  obtain ⟨c, t, e⟩ := h
  exact ⟨c, t, by rw [ho.block k (heap_lt e) hne]; exact e⟩
set_option maxRecDepth 100000 in
set_option maxHeartbeats 4000000 in
theorem deleteP_any (g n cap bx h : Nat) (es : List (Nat × Nat)) (w : World) (hown : w.ownsRow 0 79 2 (.slice (some ⟨g, 0, none⟩) n cap) n (pcI es)) (hc : w.cell? ⟨bx, 0, none⟩ = some (.pointer (some ⟨h, 0, none⟩))) (hbx : bx ≠ g) (hL : ∀ p ∈ es, Bk w p.1 ∧ p.1 ≠ g) (hh : Bk w h ∧ h ≠ g) (hbig : n ≤ 1000000) :
    Calls Try.prog 60 #[.slice (some ⟨g, 0, none⟩) n cap, .func (.func 61) #[] #[.pointer (some ⟨bx, 0, none⟩)]] w fun e w' => ∃ m, e = .returned (.slice (some ⟨g, 0, none⟩) m cap) ∧ w'.ownsRow 0 79 2 (.slice (some ⟨g, 0, none⟩) m cap) m (pcI (ndP h es)) ∧ Only (oneB g) w w' := by
  obtain ⟨hbg, hgw, hnc, hcm, hl, hfz⟩ := pcI_own hown
  have HO : Hid (w.ownsRow 0 79 2 (.slice (some ⟨g, 0, none⟩) n cap) n (pcI es)) := hown
  have HLN : Hid (es.length = n) := hl
  have CI := indexP_any 0 g n cap bx h es w hown hc hbig (fun p hp => (hL p hp).1) hh.1
  have hcap : cap ≤ 9223372036854775807 := by unfold maxLen at hcm; omega
  have HC : Hid (w.cell? ⟨bx, 0, none⟩ = some (.pointer (some ⟨h, 0, none⟩))) := hc
  have HBX : Hid (bx < w.heap.size ∧ bx ≠ g) := ⟨World.block_lt_of_cell? w _ hc, hbx⟩
  have HL : Hid (∀ p ∈ es, Bk w p.1 ∧ p.1 ≠ g) := hL
  have HH : Hid (Bk w h ∧ h ≠ g) := hh
  clear hc hbx hL hh
  by_cases hi0 : firstP h es < n
  · rw [if_pos hi0] at CI
    obtain ⟨i0, HI0⟩ : ∃ i, Hid (firstP h es = i) := ⟨_, rfl⟩
    rw [HI0.out] at CI hi0
    have HCI : Hid _ := CI
    have HST : Hid (ndP h (es.take (i0 + 1)) = es.take i0) := by
      show _ = _
      rw [ndP_snoc h es i0 (by omega) _ rfl, ← HI0.out, firstP_is (by rw [HI0.out]; omega), if_pos rfl, List.append_nil, ndP_first]
    have q1 : ((i0 : Int) == -1) = false := by simp
    have q2 : ¬ ((i0 : Int) = -1) := by omega
    clear CI hown hl hfz hcm
    go_enter Try.func60, Try.ntmps60
    go_wp2_with fail
    refine Calls.mono HCI.out ?_
    rintro e w1 ⟨rfl, hb1⟩
    have HO1 : Hid (w1.ownsRow 0 79 2 (.slice (some ⟨g, 0, none⟩) n cap) n (pcI es)) := own_below HO.out hb1 (Nat.le_refl _)
    have HB1 : Hid (Only (oneB g) w w1) := Only.of_below hb1
    clear hb1 HO HCI
    go_wp2_with fail
    go_loopw [5, 6, 7] (fun x y _ wr => ∃ (j : Nat) (F : List (Nat × Nat)), Hid (F = ndP h (es.take j)) ∧ x = .int .i64 F.length ∧ y = .int .i64 j ∧ F.length < j ∧ j ≤ n ∧ Hid (wr.ownsRow 0 79 2 (.slice (some ⟨g, 0, none⟩) n cap) n (pcI (F ++ es.drop F.length))) ∧ Hid (Only (oneB g) w wr)) (fun _ y _ _ => n - (intOf y).toNat)
    case atStart =>
      have hlt0 : (es.take i0).length = i0 := by rw [List.length_take, HLN.out]; omega
      refine ⟨i0 + 1, es.take i0, HST.out.symm, by rw [hlt0], by go_num, by omega, by omega, ?_, HB1⟩
      show World.ownsRow _ _ _ _ _ _ _
      rw [hlt0, List.take_append_drop]
      exact HO1.out
    case round =>
      obtain ⟨j, F, HF, rfl, rfl, hFj, hjn, HOR, HBR⟩ := hrel
      obtain ⟨i, HFI⟩ : ∃ i, Hid (F.length = i) := ⟨_, rfl⟩
      rw [HFI.out] at hFj HOR ⊢
      obtain ⟨L, HL'⟩ : ∃ L, Hid (F ++ es.drop i = L) := ⟨_, rfl⟩
      rw [HL'.out] at HOR
      obtain ⟨-, hgr, -, -, hLl, hfzr⟩ := pcI_own HOR.out
      have hin : (i : Int) < (n : Int) := by omega
      have hic : (i : Int) ≤ (cap : Int) := by omega
      have hncz : (n : Int) ≤ (cap : Int) := by omega
      by_cases hlt : j < n
      · have hltz : (j : Int) < (n : Int) := by omega
        obtain ⟨q0, c0, HX⟩ : ∃ q0 c0, Hid (es[j]! = (q0, c0)) := ⟨_, _, rfl⟩
        have hLj : L[j]! = (q0, c0) := by
          rw [← HX.out, ← HL'.out, ← HFI.out]
          exact rowP_at F es j (by rw [HFI.out]; omega) (by rw [HLN.out]; exact hlt)
        obtain ⟨e0, e1⟩ := pcI_two HOR.out (by omega) hLj
        have HSN : Hid (ndP h (es.take (j + 1)) = F ++ (if isP h (q0, c0) then [] else [(q0, c0)])) := by
          show _ = _
          rw [ndP_snoc h es j (by rw [HLN.out]; exact hlt) _ HX.out, HF.out]
        have hmem : (q0, c0) ∈ es := by have := HX.out; rw [getElem!_pos es j (by rw [HLN.out]; exact hlt)] at this; rw [← this]; exact List.getElem_mem _
        have HQ : Hid (Bk wr q0) := (HL.out _ hmem).1.only HBR.out (HL.out _ hmem).2
        have HHR : Hid (Bk wr h) := HH.out.1.only HBR.out HH.out.2
        have HCR : Hid (wr.cell? ⟨bx, 0, none⟩ = some (.pointer (some ⟨h, 0, none⟩))) := (World.cell?_of_block (a := ⟨bx, 0, none⟩) (HBR.out.block bx HBX.out.1 HBX.out.2)).trans HC.out
        have HBW : Hid (bx < wr.heap.size) := Nat.lt_of_lt_of_le HBX.out.1 HBR.out.size
        clear hLj hmem
        go_wp2_with fail
        refine (isf_any q0 c0 bx h _ (((bel_alloc wr _).cell (p := ⟨bx, 0, none⟩) HBW.out).trans HCR.out) (HQ.out.below (bel_alloc wr _)) (HHR.out.below (bel_alloc wr _))).mono ?_
        rintro e w2 ⟨rfl, hb2⟩
        have hblk : w2.heap[wr.heap.size]? = some (Obj.cells #[.pointer (some ⟨q0, 0, none⟩), .int .i64 (c0 : Int)] 79) := by rw [hb2.block _ (by simp), heap_alloc_new]
        have hb2' : Below wr.heap.size wr w2 := (bel_alloc wr _).trans (hb2.mono (by simp))
        have HO2 : Hid (w2.ownsRow 0 79 2 (.slice (some ⟨g, 0, none⟩) n cap) n (pcI L)) := own_below HOR.out hb2' (Nat.le_refl _)
        have HB2 : Hid (Only (oneB g) w w2) := HBR.out.trans (Only.of_below (own := oneB g) hb2') (fun _ e => .inl e)
        clear hb2 hb2' e0 e1 hfzr
        cases hd : decide (q0 = h) with
        | true =>
          have HIS : Hid (isP h (q0, c0) = true) := hd
          clear hblk
          go_wp2
          go_roundw
          case rel =>
            refine ⟨j + 1, F, ?_, by rw [HFI.out], by go_num, by rw [HFI.out]; omega, by omega, ?_, HB2⟩
            · show _ = _
              rw [HSN.out, HIS.out]; simp
            · rw [HFI.out, HL'.out]; exact HO2
          case measure => simp [intOf]; omega
        | false =>
          have HIS : Hid (isP h (q0, c0) = false) := hd
          obtain ⟨-, hg2, -, -, -, hfz2⟩ := pcI_own HO2.out
          obtain ⟨q1', c1', HX1⟩ : ∃ q0 c0, Hid (L[i]! = (q0, c0)) := ⟨_, _, rfl⟩
          obtain ⟨s0, s1⟩ := pcI_two HO2.out (by omega) HX1.out
          have e0 : w2.cell? ⟨wr.heap.size, 0, none⟩ = some (.pointer (some ⟨q0, 0, none⟩)) := by rw [cell_of_row _ _ _ _ _ _ hblk]; rfl
          have e1 : w2.cell? ⟨wr.heap.size, 1, none⟩ = some (.int .i64 (c0 : Int)) := by rw [cell_of_row _ _ _ _ _ _ hblk]; rfl
          have hne : ¬ wr.heap.size = g := by omega
          have f0 := hfz2 (i * 2)
          have f1 := hfz2 (i * 2 + 1)
          have hO3 := pcI_store HO2.out i (by omega) q0 c0
          have HB3 : Hid (Only (oneB g) w ((w2.setCell ⟨g, i * 2, none⟩ (.pointer (some ⟨q0, 0, none⟩))).setCell ⟨g, i * 2 + 1, none⟩ (.int .i64 (c0 : Int)))) := (HB2.out.setCell (p := ⟨g, i * 2, none⟩) (.inl rfl) _).setCell (p := ⟨g, i * 2 + 1, none⟩) (.inl rfl) _
          clear hfz2 hblk
          have HL3 : Hid (L.set i (q0, c0) = (F ++ [(q0, c0)]) ++ es.drop (F ++ [(q0, c0)]).length) := by
            show _ = _
            have hrs := rowP_set F es (q0, c0) (by rw [HFI.out, HLN.out]; omega)
            rw [HFI.out, HL'.out] at hrs
            exact hrs
          rw [HL3.out] at hO3
          have HO3 : Hid (World.ownsRow _ 0 79 2 (.slice (some ⟨g, 0, none⟩) n cap) n (pcI ((F ++ [(q0, c0)]) ++ es.drop (F ++ [(q0, c0)]).length))) := hO3
          clear hO3
          go_wp2
          go_roundw
          case rel =>
            refine ⟨j + 1, F ++ [(q0, c0)], ?_, by rw [List.length_append, HFI.out]; rfl, by go_num, by rw [List.length_append, HFI.out, List.length_singleton]; omega, by omega, HO3, HB3⟩
            show _ = _
            rw [HSN.out, HIS.out]; simp
          case measure => simp [intOf]; omega
      · have hltz : ¬ (j : Int) < (n : Int) := by omega
        have hjn' : j = n := by omega
        have HFE : Hid (F = ndP h es) := by
          show _ = _
          rw [HF.out, hjn', List.take_of_length_le (by rw [HLN.out]; omega)]
        have hclr : ∀ ty, (Builtin.clear_ #[67] ty #[.slice (some ⟨g, i * 2, none⟩) (n - i) (cap - i)]).run Try.prog wr = .ok (.tuple #[]) (wr.setCells g (i * 2) (zerosP (n - i))) := fun ty => by
          refine run_clear_pcs wr ty g (i * 2) (n - i) (cap - i) (by omega) (fun j' hj' => ?_) (fun j' _ => hfzr _)
          have hlt' : i * 2 + j' < (pcI L).length := by rw [pcC_len, hLl]; omega
          have := HOR.out.cells (g := g) rfl (i * 2 + j') _ (List.getElem?_eq_getElem hlt')
          rw [Addr.add_lit, Nat.zero_add] at this
          rw [this]; rfl
        have HEF : Hid ((wr.setCells g (i * 2) (zerosP (n - i))).ownsRow 0 79 2 (.slice (some ⟨g, 0, none⟩) i cap) i (pcI (ndP h es))) := by
          rw [← HFE.out]
          refine row_cleared HOR.out (by omega) ?_
          rw [← HL'.out, List.take_left' HFI.out]
        have HBF : Hid (Only (oneB g) w (wr.setCells g (i * 2) (zerosP (n - i)))) := only_setCells (own := oneB g) (show grow (oneB g) w g from .inl rfl) _ _ HBR.out
        have hci : ¬ cap = i := by omega
        have hicz : (i : Int) ≤ (n : Int) := by omega
        clear hfzr hjn'
        go_wp2
        go_ret
        exact ⟨_, rfl, HEF.out, HBF.out⟩
  · rw [if_neg hi0] at CI
    have HCI : Hid _ := CI
    have HFA : Hid (ndP h es = es) := by
      refine ndP_all fun j hj => (firstP_before ?_).2
      have := List.findIdx_le_length (xs := es) (p := isP h)
      unfold firstP at hi0 ⊢
      omega
    clear CI hown hl hfz hcm
    go_enter Try.func60, Try.ntmps60
    go_wp2_with fail
    refine Calls.mono HCI.out ?_
    rintro e w1 ⟨rfl, hb1⟩
    have HE1 : Hid (w1.ownsRow 0 79 2 (.slice (some ⟨g, 0, none⟩) n cap) n (pcI es)) := own_below HO.out hb1 (Nat.le_refl _)
    have HB1 : Hid (Only (oneB g) w w1) := Only.of_below hb1
    clear hb1
    go_wp2
    go_ret
    exact ⟨n, rfl, by rw [HFA.out]; exact HE1.out, HB1.out⟩
set_option maxRecDepth 100000 in
theorem deleteP_nil (bx : Nat) (w : World) : Calls Try.prog 60 #[.slice none 0 0, .func (.func 61) #[] #[.pointer (some ⟨bx, 0, none⟩)]] w fun e w' => e = .returned (.slice none 0 0) ∧ w' = w := by
  go_enter Try.func60, Try.ntmps60
  go_wp2_with fail
  refine (indexP_nil bx w).mono ?_
  rintro e w1 ⟨rfl, rfl⟩
  go_wp2
  go_ret
  exact ⟨rfl, rfl⟩
end Go.Proofs.Ytomeghngjiaofaa

/-
  What marlstonelaw05.small and marlstonelaw06.small answer: contracts over this translation.
-/
import Derived.Test.YtaebpnednhkfhaaDoorPartX
import Derived.Test.YtaebpnednhkfhaaDoorRange
namespace Go.Proofs.YtaebpnednhkfhaaDoor
open Go.RowKit
theorem info36 : (Tryd.prog.info? 36).map (fun i => (i.zero, i.size, i.bytes)) = some (some (.slice none 0 0), 1, 24) := by kernel_rfl
/-- The first n pieces, the first m bytes of each. -/
def cutL (ps : List PP) (n m : Nat) : List (List UInt8) := (ps.take n).map fun p => p.bs.take m
theorem cutL_succ (ps : List PP) (k m : Nat) (p : PP) (h : ps[k]? = some p) : cutL ps (k + 1) m = cutL ps k m ++ [p.bs.take m] := by
  unfold cutL; rw [List.take_add_one, h]; simp
theorem cutL_more (ps : List PP) (k c m : Nat) (h1 : ps.length ≤ k) (h2 : k ≤ c) : cutL ps k m = cutL ps c m := by
  unfold cutL; rw [List.take_of_length_le h1, List.take_of_length_le (by omega)]
theorem cutL_len (ps : List PP) (k m : Nat) : (cutL ps k m).length = min k ps.length := by unfold cutL; simp
theorem bytesL_append (a b : List LV) : bytesL (a ++ b) = bytesL a ++ bytesL b := by unfold bytesL; simp
/-- The cells of a row of slices. -/
def slVs (ls : List LV) : List Value := ls.map fun p => .slice p.ao p.n p.c
/-- A row of slices of bytes of the call's own. -/
def OwnL (w : World) (base : Nat) (v : Value) (ls : List LV) : Prop := w.ownsRow base 36 1 v ls.length (slVs ls) ∧ ∀ p ∈ ls, Bytes w p.ao p.n p.bs ∧ p.n ≤ 140737488355000 ∧ (p.ao = none → p.c = 0) ∧ ∀ a, p.ao = some a → ∃ cs fr, w.heap[a.block]? = some (.cells cs 5 fr)
theorem OwnL.below {w w' : World} {base B : Nat} {v : Value} {ls : List LV} (h : OwnL w base v ls) (hb : Below B w w') (hB : w.heap.size ≤ B) : OwnL w' base v ls :=
  ⟨own_below h.1 hb hB, fun p hp => by
    obtain ⟨h1, h2, h3, h4⟩ := h.2 p hp
    refine ⟨bytes_kept h1 hb hB, h2, h3, fun a ha => ?_⟩
    obtain ⟨cs, fr, h5⟩ := h4 a ha
    exact ⟨cs, fr, (hb.block _ (Nat.lt_of_lt_of_le (Array.getElem?_eq_some_iff.1 h5).1 hB)).trans h5⟩⟩
theorem OwnL.leaves {w : World} {base : Nat} {v : Value} {ls : List LV} (h : OwnL w base v ls) : ∃ ao c, v = .slice ao ls.length c ∧ LeavesV w ao ls.length c ls := by
  obtain ⟨⟨hl, ⟨rfl, h0⟩ | ⟨g, cap, cur, rfl, hg, hh, hc, hm, hs, ht⟩⟩, hp⟩ := h
  · refine ⟨none, 0, by rw [h0], rfl, by omega, by omega, fun h => by omega⟩
  · refine ⟨some ⟨g, 0, none⟩, cap, rfl, rfl, hc, by unfold maxLen at hm; omega, fun _ => ⟨g, 0, rfl, fun i p hi => ?_⟩⟩
    obtain ⟨h1, h2, h3, _⟩ := hp p (List.mem_of_getElem? hi)
    refine ⟨?_, h1, h2, h3⟩
    rw [Nat.zero_add, cell_of_row w g i _ _ _ hh]
    have hi' := (List.getElem?_eq_some_iff.1 hi).1
    have e : (cur.toList.take (ls.length * 1))[i]? = some (Value.slice p.ao p.n p.c) := by rw [ht, slVs, List.getElem?_map, hi]; rfl
    rw [List.getElem?_take] at e
    split at e
    · simpa using e
    · cases e
/-- Leaves whose bytes are these. -/
def CutV (w : World) (ao : Option Addr) (n c : Nat) (bs : List (List UInt8)) : Prop := ∃ ls, LeavesV w ao n c ls ∧ bytesL ls = bs
theorem add_blk (a : Addr) (n : Nat) : (a.add n).block = a.block := by unfold Addr.add; split <;> rfl
theorem bytes_same {w w' : World} {ao : Option Addr} {n : Nat} {bs : List UInt8} (h : Bytes w ao n bs) (hb : ∀ a, ao = some a → w'.heap[a.block]? = w.heap[a.block]?) : Bytes w' ao n bs := by
  refine ⟨h.1, fun i c hi => ?_⟩
  obtain ⟨x, hx, hc⟩ := h.2 i c hi
  refine ⟨x, hx, ?_⟩
  rw [World.cell?_of_block (w := w) (w' := w') (a := x.add i) (by rw [add_blk]; exact hb x hx)]
  exact hc
theorem own_type {w : World} {base : Nat} {n : Nat} {bs : List UInt8} {ao : Option Addr} {k c : Nat} (h : w.ownsRow base 5 1 (.slice ao k c) n (cellsOf bs)) : ∀ a, ao = some a → ∃ cs fr, w.heap[a.block]? = some (.cells cs 5 fr) := by
  rcases h.2 with ⟨h1, -⟩ | ⟨g, cap, cur, h1, -, hh, -⟩
  · intro a ha; cases h1; cases ha
  · intro a ha; cases h1; cases ha; exact ⟨_, _, hh⟩
theorem OwnL.append {w w' : World} {base : Nat} {v v' : Value} {ls : List LV} {p : LV} (h : OwnL w base v ls) (hown : w'.ownsRow base 36 1 v' (ls.length + 1) (slVs ls ++ [.slice p.ao p.n p.c])) (hk : ∀ k, k < w.heap.size → some k ≠ v.ownBlock → w'.heap[k]? = w.heap[k]?)
    (h1 : Bytes w p.ao p.n p.bs) (h2 : p.n ≤ 140737488355000) (h3 : p.ao = none → p.c = 0) (h4 : ∀ a, p.ao = some a → ∃ cs fr, w.heap[a.block]? = some (.cells cs 5 fr)) : OwnL w' base v' (ls ++ [p]) := by
  have hsame : ∀ (a : Addr) cs fr, w.heap[a.block]? = some (.cells cs 5 fr) → w'.heap[a.block]? = w.heap[a.block]? := fun a cs fr ha => by
    refine hk a.block (Array.getElem?_eq_some_iff.1 ha).1 (fun e => ?_)
    rcases h.1.2 with ⟨e1, -⟩ | ⟨g, cap, cur, e1, -, hh, -⟩
    · rw [e1] at e; cases e
    · rw [e1] at e
      simp [Value.ownBlock] at e
      rw [e, hh] at ha
      cases ha
  have hall : ∀ q : LV, Bytes w q.ao q.n q.bs → q.n ≤ 140737488355000 → (q.ao = none → q.c = 0) → (∀ a, q.ao = some a → ∃ cs fr, w.heap[a.block]? = some (.cells cs 5 fr)) → Bytes w' q.ao q.n q.bs ∧ q.n ≤ 140737488355000 ∧ (q.ao = none → q.c = 0) ∧ ∀ a, q.ao = some a → ∃ cs fr, w'.heap[a.block]? = some (.cells cs 5 fr) := fun q q1 q2 q3 q4 =>
    ⟨bytes_same q1 (fun a ha => by obtain ⟨cs, fr, h⟩ := q4 a ha; exact hsame a cs fr h), q2, q3, fun a ha => by obtain ⟨cs, fr, h⟩ := q4 a ha; exact ⟨cs, fr, (hsame a cs fr h).trans h⟩⟩
  refine ⟨by rw [List.length_append]; simpa [slVs] using hown, fun q hq => ?_⟩
  rcases List.mem_append.1 hq with hq | hq
  · obtain ⟨q1, q2, q3, q4⟩ := h.2 q hq
    exact hall q q1 q2 q3 q4
  · rw [List.mem_singleton] at hq
    subst hq
    exact hall _ h1 h2 h3 h4
set_option maxRecDepth 100000 in
set_option maxHeartbeats 4000000 in
theorem small_any (b off n c : Nat) (ao : Option Addr) (ps : List PP) (w : World) (hP : Pieces w b off ps) (hn : ps.length = n) (ha : 0 < n → ao = some ⟨b, off, none⟩) :
    Calls Tryd.prog 21 #[.slice ao n c] w fun e w' => ∃ ao' n' c', e = .returned (.slice ao' n' c') ∧ CutV w' ao' n' c' (cutL ps 70 200) ∧ n' ≤ 70 ∧ Below w.heap.size w w' := by
  obtain ⟨i0, hi, hz0, hz1, hz2⟩ := info_parts info36
  have HI : Hid (Tryd.prog.info? 36 = some i0 ∧ i0.zero = some (.slice none 0 0) ∧ i0.size = 1 ∧ i0.bytes = 24) := ⟨hi, hz0, hz1, hz2⟩
  have HPS : Hid (Pieces w b off ps) := hP
  have HPN : Hid (ps.length = n ∧ (0 < n → ao = some ⟨b, off, none⟩)) := ⟨hn, ha⟩
  clear hP hn ha hi hz0 hz1 hz2
  go_enter Tryd.func21, Tryd.ntmps21
  go_wp2_with fail
  have HO0 : Hid (OwnL (w.alloc (.cells #[] 36)) w.heap.size (.slice (some ⟨w.heap.size, 0, none⟩) 0 0) []) := ⟨World.ownsRow_made w #[] 0 (Nat.le_refl _) (by unfold maxLen; omega) rfl, fun p hp => by cases hp⟩
  have HB0 : Hid (Below w.heap.size w (w.alloc (.cells #[] 36))) := bel_alloc _ _
  go_loopw [3, 4] (fun s3 s4 wr => ∃ (k : Nat) (ls : List LV), s4 = .int .i64 k ∧ k ≤ n ∧ k ≤ 70 ∧ Hid (OwnL wr w.heap.size s3 ls) ∧ Hid (bytesL ls = cutL ps k 200) ∧ Hid (ls.length = k) ∧ Hid (Below w.heap.size w wr)) (fun _ x _ => 70 - (intOf x).toNat)
  case atStart => exact ⟨0, [], rfl, Nat.zero_le _, Nat.zero_le _, HO0, rfl, rfl, HB0⟩
  case round =>
    obtain ⟨k, ls, rfl, hk, hk70, HO, HE, HLN, HBE⟩ := hrel
    by_cases hlt : k < n ∧ k < 70
    case neg =>
      have HF : Hid (bytesL ls = cutL ps 70 200) := by
        show _ = _
        rw [HE.out]
        rcases Nat.lt_or_ge k 70 with h | h
        · exact cutL_more ps k 70 200 (by have := HPN.out.1; omega) (by omega)
        · rw [show k = 70 by omega]
      obtain ⟨ao', c', HV', hL⟩ := HO.out.leaves
      obtain rfl := HV'
      have HL : Hid (LeavesV wr ao' ls.length c' ls ∧ ls.length ≤ 70) := ⟨hL, by have := HLN.out; omega⟩
      have hkz : ¬ ((k : Int) < (n : Int) ∧ (k : Int) < 70) := by omega
      clear hL hk
      by_cases h1 : k < n
      · have h1z : (k : Int) < (n : Int) := by omega
        have h2z : ¬ (k : Int) < 70 := by omega
        have h2d : decide ((k : Int) < 70) = false := decide_eq_false h2z
        clear hkz hlt h1 hk70
        go_wp2_with fail
        go_ret
        exact ⟨_, _, _, rfl, ⟨ls, HL.out.1, HF.out⟩, HL.out.2, HBE.out⟩
      · have h1z : ¬ (k : Int) < (n : Int) := by omega
        have h1d : decide ((k : Int) < (n : Int)) = false := decide_eq_false h1z
        have h1n : decide (k < n) = false := decide_eq_false h1
        clear hkz hlt h1 hk70
        go_wp2_with fail
        go_ret
        exact ⟨_, _, _, rfl, ⟨ls, HL.out.1, HF.out⟩, HL.out.2, HBE.out⟩
    case pos =>
      have h1z : (k : Int) < (n : Int) := by omega
      have h2z : (k : Int) < 70 := by omega
      have h1d : decide ((k : Int) < (n : Int)) = true := decide_eq_true h1z
      have h2d : decide ((k : Int) < 70) = true := decide_eq_true h2z
      have h1n : decide (k < n) = true := decide_eq_true hlt.1
      obtain rfl := HPN.out.2 (by omega)
      obtain ⟨⟨pao, pn, pc, pb⟩, HP⟩ : ∃ p, Hid (ps[k]? = some p) := ⟨_, List.getElem?_eq_getElem (by have := HPN.out.1; omega)⟩
      have HPK : Hid (∀ W, Below w.heap.size w W → W.cell? ⟨b, off + k, none⟩ = some (.slice pao pn pc)) := fun W hW => bel_cell2 hW (Nat.le_refl _) (HPS.out k _ HP.out).1
      have HPB : Hid (Bytes w pao pn pb ∧ pn ≤ pc ∧ pc ≤ 9223372036854775807 ∧ (pao = none → pc = 0)) := (HPS.out k _ HP.out).2
      obtain ⟨m, HM⟩ : ∃ m, Hid (min pn 200 = m) := ⟨_, rfl⟩
      have hm : min (pn : Int) 200 = (m : Int) := by have := HM.out; omega
      have hmc : m ≤ pc := by have := HM.out; have := HPB.out.2.1; omega
      have hmcz : (m : Int) ≤ (pc : Int) := by omega
      have HM2 : Hid (m ≤ pn ∧ m ≤ 200) := by show _ ∧ _; have := HM.out; omega
      have HTB : Hid (pb.take 200 = pb.take m) := by
        show _ = _
        have h := HPB.out.1.1
        have h2 := HM.out
        rcases Nat.lt_or_ge pn 200 with h3 | h3
        · rw [List.take_of_length_le (by omega), List.take_of_length_le (by omega)]
        · rw [show m = 200 by omega]
      go_upto_region 5 with fail
      have HS : Hid (∀ W, Below w.heap.size w W → W.cell? ⟨b, off + k, none⟩ = some (.slice pao pn pc)) := HPK
      clear h1d h2d h1n
      refine wp_region_held_drew (S := fun W => W.cell? ⟨b, off + k, none⟩ = some (.slice pao pn pc)) (by kernel_rfl) (HS.out _ (Below.drew HBE.out)) (fun hS => ?_)
      refine wpAnyH_take (i := 0) (v := ?_) rfl (by kernel_rfl) (by kernel_rfl) (by kernel_rfl) (fun _ _ _ h => h) (Or.inl ⟨by rfl, ?_⟩) (by assumption) ?_
      rotate_left
      · (intro w hSw; (try dsimp only at hSw); go_simp; try with_reducible rfl)
      simp only [Act.put, List.getElem_toArray, List.getElem_cons_zero, List.setIfInBounds_toArray, List.set_cons_zero, List.set_cons_succ]
      refine wpAnyH_take (i := 2) (v := ?_) rfl (by kernel_rfl) (by kernel_rfl) (by kernel_rfl) (fun _ _ _ h => h) (Or.inl ⟨by rfl, ?_⟩) (by assumption) ?_
      rotate_left
      · (intro w hSw; (try dsimp only at hSw); go_simp; try with_reducible rfl)
      simp only [Act.put, List.getElem_toArray, List.getElem_cons_zero, List.getElem_cons_succ, List.setIfInBounds_toArray, List.set_cons_zero, List.set_cons_succ]
      refine wpAnyH_take (i := 3) (v := ?_) rfl (by kernel_rfl) (by kernel_rfl) (by kernel_rfl) (fun _ _ _ h => h) (Or.inl ⟨by rfl, ?_⟩) (by assumption) ?_
      rotate_left
      · (intro w hSw; (try dsimp only at hSw); go_simp; try with_reducible rfl)
      simp only [Act.put, List.getElem_toArray, List.getElem_cons_zero, List.getElem_cons_succ, List.setIfInBounds_toArray, List.set_cons_zero, List.set_cons_succ]
      refine wpAnyH_take (i := 4) (v := ?_) rfl (by kernel_rfl) (by kernel_rfl) (by kernel_rfl) (fun _ _ _ h => h) (Or.inl ⟨by rfl, ?_⟩) (by assumption) ?_
      rotate_left
      · (intro w hSw; (try dsimp only at hSw); go_simp; try with_reducible rfl)
      simp only [Act.put, List.getElem_toArray, List.getElem_cons_zero, List.getElem_cons_succ, List.setIfInBounds_toArray, List.set_cons_zero, List.set_cons_succ]
      refine wpAnyH_take (i := 5) (v := ?_) rfl (by kernel_rfl) (by kernel_rfl) (by kernel_rfl) (fun _ _ _ h => h) (Or.inl ⟨by rfl, ?_⟩) (by assumption) ?_
      rotate_left
      · (intro w hSw; (try dsimp only at hSw); go_simp; try with_reducible rfl)
      simp only [Act.put, List.getElem_toArray, List.getElem_cons_zero, List.getElem_cons_succ, List.setIfInBounds_toArray, List.set_cons_zero, List.set_cons_succ]
      refine wpAnyH_take (i := 6) (v := ?_) rfl (by kernel_rfl) (by kernel_rfl) (by kernel_rfl) (fun _ _ _ h => h) (Or.inl ⟨by rfl, ?_⟩) (by assumption) ?_
      rotate_left
      · (intro w hSw; (try dsimp only at hSw); go_simp; try with_reducible rfl)
      simp only [Act.put, List.getElem_toArray, List.getElem_cons_zero, List.getElem_cons_succ, List.setIfInBounds_toArray, List.set_cons_zero, List.set_cons_succ]
      refine wpAnyH_take (i := 7) (v := ?_) rfl (by kernel_rfl) (by kernel_rfl) (by kernel_rfl) (fun _ _ _ h => h) (Or.inl ⟨by rfl, ?_⟩) (by assumption) ?_
      rotate_left
      · (intro w hSw; (try dsimp only at hSw); go_simp; try with_reducible rfl)
      simp only [Act.put, List.getElem_toArray, List.getElem_cons_zero, List.getElem_cons_succ, List.setIfInBounds_toArray, List.set_cons_zero, List.set_cons_succ]
      refine wpAnyH_take (i := 8) (v := ?_) rfl (by kernel_rfl) (by kernel_rfl) (by kernel_rfl) (fun _ _ _ h => h) (Or.inl ⟨by rfl, ?_⟩) (by assumption) ?_
      rotate_left
      · (intro w hSw; (try dsimp only at hSw); go_simp; try with_reducible rfl)
      simp only [Act.put, List.getElem_toArray, List.getElem_cons_zero, List.getElem_cons_succ, List.setIfInBounds_toArray, List.set_cons_zero, List.set_cons_succ]
      refine wpAnyH_take (i := 9) (v := ?_) rfl (by kernel_rfl) (by kernel_rfl) (by kernel_rfl) (fun _ _ _ h => h) (Or.inl ⟨by rfl, ?_⟩) (by assumption) ?_
      rotate_left
      · (intro w hSw; (try dsimp only at hSw); go_simp; try with_reducible rfl)
      simp only [Act.put, List.getElem_toArray, List.getElem_cons_zero, List.getElem_cons_succ, List.setIfInBounds_toArray, List.set_cons_zero, List.set_cons_succ]
      refine wpAnyH_take (i := 10) (v := ?_) rfl (by kernel_rfl) (by kernel_rfl) (by kernel_rfl) (fun _ _ _ h => h) (Or.inl ⟨by rfl, ?_⟩) (by assumption) ?_
      rotate_left
      · (intro w hSw; (try dsimp only at hSw); go_simp; try with_reducible rfl)
      simp only [Act.put, List.getElem_toArray, List.getElem_cons_zero, List.getElem_cons_succ, List.setIfInBounds_toArray, List.set_cons_zero, List.set_cons_succ]
      refine wpAnyH_take (i := 11) (v := ?_) rfl (by kernel_rfl) (by kernel_rfl) (by kernel_rfl) (fun _ _ _ h => h) (Or.inl ⟨by rfl, ?_⟩) (by assumption) ?_
      rotate_left
      · (intro w hSw; (try dsimp only at hSw); go_simp; try with_reducible rfl)
      simp only [Act.put, List.getElem_toArray, List.getElem_cons_zero, List.getElem_cons_succ, List.setIfInBounds_toArray, List.set_cons_zero, List.set_cons_succ]
      refine wpAnyH_take (i := 12) (v := ?_) rfl (by kernel_rfl) (by kernel_rfl) (by kernel_rfl) (fun _ _ _ h => h) (Or.inl ⟨by rfl, ?_⟩) (by assumption) ?_
      rotate_left
      · (intro w hSw; (try dsimp only at hSw); go_simp; try with_reducible rfl)
      simp only [Act.put, List.getElem_toArray, List.getElem_cons_zero, List.getElem_cons_succ, List.setIfInBounds_toArray, List.set_cons_zero, List.set_cons_succ]
      refine wpAnyH_ready (rs := [1]) (by kernel_rfl) (by simp) ?_
      refine AllReadyH.cons rfl (fun K hK => ?_) AllReadyH.nil
      go_simp
      refine hK.out _ _ (HS.out _ (Below.drew (HBE.out.trans ((bel_alloc wr _).mono HBE.out.size)))) (fun hHeld2 => ?_)
      clear hK K
      have HE1 : Hid (((wr.alloc (.cells #[] 5)).drew).ownsRow wr.heap.size 5 1 (.slice (some ⟨wr.heap.size, 0, none⟩) 0 0) 0 (cellsOf [])) := own_empty wr
      have HB1 : Hid (Below wr.heap.size wr ((wr.alloc (.cells #[] 5)).drew)) := Below.drew (bel_alloc wr _)
      obtain ⟨w1, HW1⟩ : ∃ W, Hid ((wr.alloc (.cells #[] 5)).drew = W) := ⟨_, rfl⟩
      have HPB1 : Hid (Bytes w1 pao m (pb.take m)) := by
        have h := bytes_kept (bytes_kept HPB.out.1 HBE.out (Nat.le_refl _)) HB1.out (Nat.le_refl _)
        rw [HW1.out] at h
        exact bytes_take h m HM2.out.1
      rw [HW1.out] at HE1 HB1 ⊢
      clear HW1
      refine wpAnyH_ready (rs := [13]) (by kernel_rfl) (by simp) ?_
      refine AllReadyH.cons rfl (fun K hK => ?_) AllReadyH.nil
      refine step_append_bytes w1 rfl (.tmp 17) (.tmp 28) rfl wr.heap.size _ 0 [] rfl HE1.out HB1.out.size pao m pc (pb.take m) rfl HPB1.out HPB.out.2.2.2 (by have := HM2.out; omega) ?_
      intro v2 w2 hown2 hb2
      have HB2 : Hid (Below wr.heap.size wr w2) := HB1.out.trans hb2
      obtain ⟨ao2, c2, rfl, hby2, hno2, hc2, -, hl2, hbl2⟩ := own_bytes hown2
      have HT2 := own_type hown2
      refine hK.out _ _ (HS.out _ (HBE.out.trans (HB2.out.mono HBE.out.size))) (fun hHeld2 => ?_)
      clear hK K
      simp only [Act.put, List.getElem_toArray, List.getElem_cons_zero, List.getElem_cons_succ, List.setIfInBounds_toArray, List.set_cons_zero, List.set_cons_succ]
      have hlen2 : ([] ++ pb.take m).length = m := by have h1 := HPB1.out.1; simpa using h1
      rw [hlen2] at hown2 hby2 hc2 hl2 ⊢
      rw [List.nil_append] at hby2
      have HV2 : Hid (Bytes w2 ao2 m (pb.take m) ∧ (ao2 = none → c2 = 0) ∧ m ≤ c2 ∧ ∀ a, ao2 = some a → ∃ cs fr, w2.heap[a.block]? = some (.cells cs 5 fr)) := ⟨hby2, hno2, hc2, HT2⟩
      clear hown2 hb2 hby2 hno2 hc2 hl2 hbl2 hlen2 HT2
      refine wpAnyH_ready (rs := [14]) (by kernel_rfl) (by simp) ?_
      refine AllReadyH.cons rfl (fun K hK => ?_) AllReadyH.nil
      go_simp
      have HB3 : Hid (Below wr.heap.size wr (w2.alloc (.cells #[.slice ao2 m c2] 36))) := HB2.out.trans ((bel_alloc w2 _).mono HB2.out.size)
      have HC3 : Hid (∀ j u, [Value.slice ao2 m c2][j]? = some u → (w2.alloc (.cells #[.slice ao2 m c2] 36)).cell? ((⟨w2.heap.size, 0, none⟩ : Addr).add j) = some u) := fun j u hu => by
        rw [Addr.add_lit, cell_of_row _ _ _ _ _ _ (heap_alloc_new w2 _)]
        simpa using hu
      have HT3 : Hid (∀ a, ao2 = some a → ∃ cs fr, (w2.alloc (.cells #[.slice ao2 m c2] 36)).heap[a.block]? = some (.cells cs 5 fr)) := fun a h => by
        obtain ⟨cs, fr, h1⟩ := HV2.out.2.2.2 a h
        exact ⟨cs, fr, ((bel_alloc w2 _).block _ (Array.getElem?_eq_some_iff.1 h1).1).trans h1⟩
      have HY3 : Hid (Bytes (w2.alloc (.cells #[.slice ao2 m c2] 36)) ao2 m (pb.take m)) := bytes_kept HV2.out.1 (bel_alloc w2 _) (Nat.le_refl _)
      refine hK.out _ _ (HS.out _ (HBE.out.trans (HB3.out.mono HBE.out.size))) (fun hHeld2 => ?_)
      clear hK K
      obtain ⟨w3, HW3⟩ : ∃ W, Hid (w2.alloc (.cells #[.slice ao2 m c2] 36) = W) := ⟨_, rfl⟩
      rw [HW3.out] at HB3 HC3 HT3 HY3 ⊢
      have HO3 : Hid (OwnL w3 w.heap.size u3 ls) := HO.out.below HB3.out (Nat.le_refl _)
      clear HW3
      refine wpAnyH_ready (rs := [15]) (by kernel_rfl) (by simp) ?_
      refine AllReadyH.cons rfl (fun K hK => ?_) AllReadyH.nil
      refine step_append_twok w3 rfl (.tmp 16) (.tmp 30) 22 36 rfl i0 _ 1 24 Tryd.underlying22 HI.out.1 HI.out.2.1 HI.out.2.2.1 HI.out.2.2.2 rfl (by decide) w.heap.size u3 ls.length (slVs ls) rfl HO3.out.1 (Nat.le_trans HBE.out.size HB3.out.size) w2.heap.size 1 1 [.slice ao2 m c2] rfl rfl HC3.out (fun u hu => by rw [List.mem_singleton] at hu; rw [hu]; rfl) (by have := HLN.out; omega) (by decide) ?_
      intro v4 w4 hown4 hb4 hk4 hn4
      have HO4 : Hid (OwnL w4 w.heap.size v4 (ls ++ [⟨ao2, m, c2, pb.take m⟩])) := HO3.out.append hown4 hk4 HY3.out (show m ≤ 140737488355000 by have := HM2.out; omega) HV2.out.2.1 HT3.out
      have HB4 : Hid (Below w.heap.size w w4) := (HBE.out.trans (HB3.out.mono HBE.out.size)).trans hb4
      refine hK.out _ _ (HS.out _ HB4.out) (fun hHeld2 => ?_)
      clear hK K hown4 hb4 hk4 hn4
      simp only [Act.put, List.getElem_toArray, List.getElem_cons_zero, List.getElem_cons_succ, List.setIfInBounds_toArray, List.set_cons_zero, List.set_cons_succ]
      refine wpAnyH_take (i := 16) (v := ?_) rfl (by kernel_rfl) (by kernel_rfl) (by kernel_rfl) (fun _ _ _ h => h) (Or.inl ⟨by rfl, ?_⟩) (by assumption) ?_
      rotate_left
      · (intro w hSw; (try dsimp only at hSw); go_simp; try with_reducible rfl)
      simp only [Act.put, List.getElem_toArray, List.getElem_cons_zero, List.getElem_cons_succ, List.setIfInBounds_toArray, List.set_cons_zero, List.set_cons_succ]
      refine wpAnyH_done (by kernel_rfl) ?_ _
      clear hS hHeld2
      have HE4 : Hid (bytesL (ls ++ [⟨ao2, m, c2, pb.take m⟩]) = cutL ps (k + 1) 200) := by
        show _ = _
        rw [bytesL_append, HE.out, cutL_succ ps k 200 _ HP.out, HTB.out]
        rfl
      have HL4 : Hid ((ls ++ [(⟨ao2, m, c2, pb.take m⟩ : LV)]).length = k + 1) := by show _ = _; rw [List.length_append, HLN.out]; rfl
      have hk1 : k + 1 ≤ n := by omega
      have hk2 : k + 1 ≤ 70 := by omega
      clear hm hmc hmcz h1z h2z
      go_wp2_with fail
      refine ⟨⟨k + 1, _, rfl, hk1, hk2, HO4, HE4, HL4, HB4⟩, ?_⟩
      simp [intOf]
      omega
end Go.Proofs.YtaebpnednhkfhaaDoor

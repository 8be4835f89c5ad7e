/-
  merge.Merge: a contract over this translation.
-/
import Derived.Test.YteggjenncmjfmaaMgJ
import Derived.Deep.LoopGhost
namespace Go.Proofs.Yteggjenncmjfmaa
open Go.RowKit
set_option linter.unusedSectionVars false
variable [Inhabited E] [DecidableEq E] [Inhabited RV]
/-- While lists are merged: the heads that are left, and what was taken. -/
structure ML (own : Nat → Prop) (w wr : World) (g : Nat) (T : List RV) (ls : List (List E)) (out : List E) (v : Value) : Prop where
  hs : Hs own w wr g T
  low : ∀ k, own k → k < wr.heap.size
  perm : (T.map viewR).Perm (pairs ls)
  row : wr.ownsRow w.heap.size 29 4 v out.length (flatE out)
  far : ∀ k, v.ownBlock = some k → ¬ own k
theorem ML.alloc {own : Nat → Prop} {w wr : World} {g : Nat} {T : List RV} {ls : List (List E)} {out : List E} {v : Value} (h : ML own w wr g T ls out v) (o : Obj) : ML own w (wr.alloc o) g T ls out v :=
  ⟨h.hs.only ((Only.refl own wr).alloc o) (h.hs.at_.grown (bel_alloc wr o)), fun k hk => by have := h.low k hk; simp; omega, h.perm, own_below h.row (bel_alloc wr o) (Nat.le_refl _), h.far⟩
theorem ML.more {own : Nat → Prop} {w wr w7 : World} {g g7 cap7 : Nat} {T : List RV} {ls : List (List E)} {out : List E} {v : Value} {e : E} {o1 o2 : Obj} (h : ML own w wr g T ls out v) (hrow : ((wr.alloc o1).alloc o2).ownsRow w.heap.size 29 4 v out.length (flatE out))
    (hr : w7.ownsRow w.heap.size 29 4 (.slice (some ⟨g7, 0, none⟩) (out.length + 1) cap7) (out.length + 1) (flatE out ++ encE e)) (hg : ((wr.alloc o1).alloc o2).grownBy w7 v.ownBlock) (hl : v.ownBlock = some g7 ∨ g7 = ((wr.alloc o1).alloc o2).heap.size) :
    ML own w w7 g T ls (out ++ [e]) (.slice (some ⟨g7, 0, none⟩) (out.length + 1) cap7) := by
  have hfar : ∀ k, k < wr.heap.size → own k → w7.heap[k]? = wr.heap[k]? := fun k hk ho => by
    rw [hg.block k (by simp; omega) (fun e => h.far k e.symm ho), heap_alloc_get, if_neg (by simp; omega), heap_alloc_get, if_neg (by omega)]
  have hsz : wr.heap.size ≤ w7.heap.size := by have := hg.size; simp at this; omega
  have hb : Below w.heap.size w w7 := ((h.hs.bel.alloc h.hs.bel.size o1).alloc (by have := h.hs.bel.size; simp; omega) o2).trans ((Below.refl _ _).grown hg (by have := h.hs.bel.size; simp; omega) (fun k hk => (hrow.lt k hk).1))
  refine ⟨⟨h.hs.at_.keep hfar, hb, h.hs.new, h.hs.rows, h.hs.heap⟩, fun k hk => Nat.lt_of_lt_of_le (h.low k hk) hsz, h.perm, ?_, fun k hk ho => ?_⟩
  · rw [List.length_append, List.length_singleton, flatE_append]
    have : flatE [e] = encE e := by simp [flatE]
    rw [this]; exact hr
  · cases hk
    rcases hl with q | q
    · exact h.far _ q ho
    · have h1 : g7 < wr.heap.size := h.low _ ho
      simp at q; omega
theorem least_view {T : List RV} {ls : List (List E)} (hp : (T.map viewR).Perm (pairs ls)) (hh : Heap cmpR T T.length) (hpos : 0 < T.length) : leastE ls = some (hE T[0]!.l) := by
  have h0 : viewR T[0]! ∈ T.map viewR := List.mem_map_of_mem (by rw [getElem!_pos T 0 hpos]; exact List.getElem_mem _)
  refine leastE_of (p := viewR T[0]!) (hp.mem_iff.1 h0) (fun q hq => ?_)
  obtain ⟨r, hr, rfl⟩ := List.mem_map.1 (hp.mem_iff.2 hq)
  obtain ⟨i, hi, rfl⟩ := List.getElem_of_mem hr
  have := heap_min cmpR_ord hh i hi
  rwa [getElem!_pos T i hi] at this
theorem pairs_len (ls : List (List E)) : (pairs ls).length ≤ ls.length := by
  unfold pairs
  refine Nat.le_trans (List.length_filter_le _ _) ?_
  simp
theorem tot_mem {l : List E} : ∀ {ls : List (List E)}, l ∈ ls → l.length ≤ tot ls
  | m :: ls, h => by
    simp only [tot, List.map_cons, List.sum_cons]
    rcases List.mem_cons.1 h with rfl | h
    · omega
    · have := tot_mem h; simp only [tot] at this; omega
theorem full_pairs : ∀ (R : List RV), (∀ i, i < R.length → R[i]!.age = i) → (full R).map viewR = pairs (R.map RV.l) := by
  intro R
  induction R using snoc_rec with
  | h0 => intro _; rfl
  | hs R r ih =>
    intro h
    rw [List.map_append, List.map_singleton, pairs_snoc, List.length_map]
    have h1 : full (R ++ [r]) = full R ++ (if r.l.isEmpty then [] else [r]) := by
      unfold full; rw [List.filter_append]; congr 1
      cases hl : r.l <;> simp [hl]
    have hr : r.age = R.length := by
      have := h R.length (by simp)
      rw [getElem!_pos _ _ (by simp)] at this
      simpa using this
    rw [h1, List.map_append, ih (fun i hi => by
      have := h i (by simp; omega)
      rwa [getElem!_pos _ _ (by simp; omega), List.getElem_append_left hi, ← getElem!_pos R i hi] at this)]
    congr 1
    split <;> simp [viewR, hr]
set_option maxRecDepth 100000 in
set_option maxHeartbeats 1000000 in
theorem merge_any (ao : Option Addr) (n c : Nat) (R : List RV) (b : Bool) (w : World) (h : ListsV w ao n R) (hb : n ≤ 100000) (ht : tot (R.map RV.l) < 1000000) :
    Calls Try.prog 11 #[.slice ao n c, .bool b] w fun e w' => ∃ v, e = .returned v ∧ w'.ownsRow w.heap.size 29 4 v (mergeL (R.map RV.l) b).length (flatE (mergeL (R.map RV.l) b)) ∧ Below w.heap.size w w' := by
  have HH : Hid _ := headsOf_any ao n c R w h (by omega)
  have HFP : Hid ((full R).map viewR = pairs (R.map RV.l)) := full_pairs R (fun i hi => h.2.2.1 i (by rw [← h.1]; exact hi))
  have HTL : Hid (tot (R.map RV.l) < 1000000) := ht
  have HRN : Hid (R.length ≤ 100000) := by show _ ≤ _; rw [h.1]; exact hb
  obtain ⟨ls, HLS⟩ : ∃ x, Hid (R.map RV.l = x) := ⟨_, rfl⟩
  rw [HLS.out] at HFP HTL ⊢
  have HLL : Hid (∀ (ls' : List (List E)) (out : List E), out ++ mergeL ls' b = mergeL ls b → out.length ≤ tot ls) := fun ls' out h => by
    have h1 := mergeL_len _ ls b (Nat.le_refl _)
    rw [← h, List.length_append] at h1
    omega
  clear h hb ht
  go_enter Try.func11, Try.ntmps11
  go_wp2_with fail
  refine Calls.mono HH.out ?_
  rintro e w1 ⟨g, S, own, rfl, hp, hs, hlow, hb1⟩
  have HM0 : Hid (ML own w w1 g S ls [] (.slice none 0 0)) := ⟨hs, hlow, by rw [← HFP.out]; exact hp.map viewR, World.ownsRow_nil _ _ _ _, fun k hk => by cases hk⟩
  clear hp hs hlow hb1 HH HFP
  go_wp2_with fail
  go_loopg [6] (tot ls) (fun gk x wr => ∃ (T : List RV) (own : Nat → Prop) (ls' : List (List E)) (out : List E), Hid (ML own w wr g T ls' out x) ∧ Hid (out ++ mergeL ls' b = mergeL ls b ∧ ls'.length ≤ 100000) ∧ tot ls' ≤ gk)
  case atStart => exact ⟨S, own, ls, [], HM0.out, ⟨rfl, by rw [← HLS.out, List.length_map]; exact HRN.out⟩, Nat.le_refl _⟩
  case round =>
    obtain ⟨T, own1, ls', out, HM, HEQ, htk⟩ := hrel
    have HLN : Hid _ := hlen_any HM.out.hs.at_
    by_cases hT : T.length = 0
    · rw [hT] at HLN
      have HD : Hid (mergeL ls b = out) := by
        show _ = _
        have h0 : T = [] := List.eq_nil_of_length_eq_zero hT
        have h1 := HM.out.perm
        rw [h0] at h1
        have h2 := h1.nil_eq
        rw [← HEQ.out.1, mergeL_none b ((leastE_spec ls').1.2 h2.symm), List.append_nil]
      clear hT
      go_wp2_with fail
      refine Calls.mono HLN.out ?_
      rintro e w2 ⟨rfl, rfl⟩
      go_wp2_with fail
      go_ret
      exact ⟨_, rfl, by rw [HD.out]; exact HM.out.row, HM.out.hs.bel⟩
    · obtain ⟨m, HMM⟩ : ∃ m, Hid (T.length = m) := ⟨_, rfl⟩
      have hm0 : (0 : Int) < (m : Int) := by have := HMM.out; omega
      have HTB : Hid (0 < T.length ∧ T.length < 1000000) := ⟨by omega, by
        have h1 := HM.out.perm.length_eq
        have h2 := pairs_len ls'
        have h3 := HEQ.out.2
        rw [List.length_map] at h1
        omega⟩
      rw [HMM.out] at HLN
      clear hT
      have HPL : Hid _ := passLeast_any HM.out.hs HM.out.low HTB.out.1 HTB.out.2
      have HLE : Hid (leastE ls' = some (hE T[0]!.l)) := least_view HM.out.perm HM.out.hs.heap HTB.out.1
      obtain ⟨ee, HEE⟩ : ∃ x, Hid (hE T[0]!.l = x) := ⟨_, rfl⟩
      rw [HEE.out] at HPL HLE
      obtain ⟨ek, ev, ed, eq⟩ := ee
      simp only [encE] at HPL
      go_wp2_with fail
      refine Calls.mono HLN.out ?_
      rintro e w2 ⟨rfl, rfl⟩
      go_wp2_with fail
      refine Calls.mono HPL.out ?_
      rintro e w3 ⟨rfl, T2, own2, hp2, hs2, hlow2, ho2⟩
      have HM2 : Hid (ML own2 w w3 g T2 (ls'.map (passK ek)) out u6) := by
        have hfar : ∀ k, u6.ownBlock = some k → ¬ own2 k := fun k hk ho => by
          rcases (hlow2 k ho).2 with q | q
          · exact HM.out.far k hk q
          · have := (HM.out.row.lt k hk).2; omega
        exact ⟨hs2, fun k hk => (hlow2 k hk).1, hp2.trans ((stepV_perm ek HM.out.perm).trans (stepV_pairs ek ls')), row_block HM.out.row (fun k hk => ho2.block k (HM.out.row.lt k hk).2 (HM.out.far k hk)), hfar⟩
      have HTT : Hid (tot (ls'.map (passK ek)) < tot ls') := leastE_tot HLE.out
      have HMX : Hid (mergeL ls' b = (if b && ed then [] else [⟨ek, ev, ed, eq⟩]) ++ mergeL (ls'.map (passK ek)) b) := mergeL_some b HLE.out
      have HOL : Hid (out.length < 1000000) := by have h1 := HLL.out ls' out HEQ.out.1; have h2 := HTL.out; show _ < _; omega
      clear hp2 hs2 hlow2 ho2 HPL HLN hm0
      cases b with
      | false =>
        have HMS : Hid ([(⟨ek, ev, ed, eq⟩ : E)] ++ mergeL (ls'.map (passK ek)) false = mergeL ls' false) := HMX.out.symm
        have HROW : Hid (((w3.alloc (.cells #[.string ek, .string ev, .bool ed, .int .i64 eq] 29)).alloc (.cells #[.string ek, .string ev, .bool ed, .int .i64 eq] 29)).ownsRow w.heap.size 29 4 u6 out.length (flatE out)) := own_below HM2.out.row ((bel_alloc _ _).trans ((bel_alloc _ _).mono (by simp))) (Nat.le_refl _)
        have HSZ : Hid (out.length < 1000000 ∧ w.heap.size ≤ ((w3.alloc (.cells #[.string ek, .string ev, .bool ed, .int .i64 eq] 29)).alloc (.cells #[.string ek, .string ev, .bool ed, .int .i64 eq] 29)).heap.size) := ⟨HOL.out, by have := HM2.out.hs.bel.size; simp; omega⟩
        obtain ⟨i0, hi, hz0, hz1, hz2⟩ := info_parts info23
        go_wp2_with (at_builtin; refine wpList_append_lies _ rfl (.tmp 20) (.tmp 22) 25 rfl w.heap.size 29 i0 _ 4 48 Try.underlying25 hi hz0 hz1 hz2 rfl (by decide) u6 out.length (flatE out) rfl HROW.out ⟨w3.heap.size + 1, 0, none⟩ 1 1 (encE ⟨ek, ev, ed, eq⟩) rfl rfl (World.news_of_block (cs := (encE ⟨ek, ev, ed, eq⟩).toArray) (t := 29) (fr := (0, 0)) (by rw [heap_alloc_get, if_pos (by simp)]; rfl)) (encE_one _) (by decide) (by have := HSZ.out.1; unfold maxLen; omega) (by have := HSZ.out.1; omega) HSZ.out.2 _ rfl ?_)
        intro g7 cap7 w7 hr7 hg7 hl7 hlt7
        have HM7 : Hid (ML own2 w w7 g T2 (ls'.map (passK ek)) (out ++ [⟨ek, ev, ed, eq⟩]) (.slice (some ⟨g7, 0, none⟩) (out.length + 1) cap7)) := HM2.out.more HROW.out hr7 hg7 (by simpa using hl7)
        clear hr7 hg7 hl7 hlt7 HROW
        go_wp2_with fail
        go_roundg (tot (ls'.map (passK ek)))
        case measure => exact Nat.lt_of_lt_of_le HTT.out htk
        case rel => exact ⟨T2, own2, _, _, HM7.out, ⟨by rw [List.append_assoc, HMS.out]; exact HEQ.out.1, by rw [List.length_map]; exact HEQ.out.2⟩, Nat.le_refl _⟩
      | true =>
        cases ed with
        | false =>
          have HMS : Hid ([(⟨ek, ev, false, eq⟩ : E)] ++ mergeL (ls'.map (passK ek)) true = mergeL ls' true) := HMX.out.symm
          have HROW : Hid (((w3.alloc (.cells #[.string ek, .string ev, .bool false, .int .i64 eq] 29)).alloc (.cells #[.string ek, .string ev, .bool false, .int .i64 eq] 29)).ownsRow w.heap.size 29 4 u6 out.length (flatE out)) := own_below HM2.out.row ((bel_alloc _ _).trans ((bel_alloc _ _).mono (by simp))) (Nat.le_refl _)
          have HSZ : Hid (out.length < 1000000 ∧ w.heap.size ≤ ((w3.alloc (.cells #[.string ek, .string ev, .bool false, .int .i64 eq] 29)).alloc (.cells #[.string ek, .string ev, .bool false, .int .i64 eq] 29)).heap.size) := ⟨HOL.out, by have := HM2.out.hs.bel.size; simp; omega⟩
          obtain ⟨i0, hi, hz0, hz1, hz2⟩ := info_parts info23
          go_wp2_with (at_builtin; refine wpList_append_lies _ rfl (.tmp 20) (.tmp 22) 25 rfl w.heap.size 29 i0 _ 4 48 Try.underlying25 hi hz0 hz1 hz2 rfl (by decide) u6 out.length (flatE out) rfl HROW.out ⟨w3.heap.size + 1, 0, none⟩ 1 1 (encE ⟨ek, ev, false, eq⟩) rfl rfl (World.news_of_block (cs := (encE ⟨ek, ev, false, eq⟩).toArray) (t := 29) (fr := (0, 0)) (by rw [heap_alloc_get, if_pos (by simp)]; rfl)) (encE_one _) (by decide) (by have := HSZ.out.1; unfold maxLen; omega) (by have := HSZ.out.1; omega) HSZ.out.2 _ rfl ?_)
          intro g7 cap7 w7 hr7 hg7 hl7 hlt7
          have HM7 : Hid (ML own2 w w7 g T2 (ls'.map (passK ek)) (out ++ [⟨ek, ev, false, eq⟩]) (.slice (some ⟨g7, 0, none⟩) (out.length + 1) cap7)) := HM2.out.more HROW.out hr7 hg7 (by simpa using hl7)
          clear hr7 hg7 hl7 hlt7 HROW
          go_wp2_with fail
          go_roundg (tot (ls'.map (passK ek)))
          case measure => exact Nat.lt_of_lt_of_le HTT.out htk
          case rel => exact ⟨T2, own2, _, _, HM7.out, ⟨by rw [List.append_assoc, HMS.out]; exact HEQ.out.1, by rw [List.length_map]; exact HEQ.out.2⟩, Nat.le_refl _⟩
        | true =>
          have HMS : Hid (mergeL (ls'.map (passK ek)) true = mergeL ls' true) := HMX.out.symm
          have HM4 : Hid (ML own2 w (w3.alloc (.cells #[.string ek, .string ev, .bool true, .int .i64 eq] 29)) g T2 (ls'.map (passK ek)) out u6) := HM2.out.alloc _
          go_wp2_with fail
          go_roundg (tot (ls'.map (passK ek)))
          case measure => exact Nat.lt_of_lt_of_le HTT.out htk
          case rel => exact ⟨T2, own2, _, _, HM4.out, ⟨by rw [HMS.out]; exact HEQ.out.1, by rw [List.length_map]; exact HEQ.out.2⟩, Nat.le_refl _⟩
end Go.Proofs.Yteggjenncmjfmaa

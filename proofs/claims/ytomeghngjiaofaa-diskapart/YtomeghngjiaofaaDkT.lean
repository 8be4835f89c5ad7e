/-
  disk's Rename, its walk.
-/
import Derived.Test.YtomeghngjiaofaaDkN
namespace Go.Proofs.Ytomeghngjiaofaa
open Go.RowKit
section
variable {own : Nat → Prop} {w : World} {g : Nat} {A : Dk} {m n : Nat} {uo : Option Addr} {uc : Nat} {blk : Nat → Nat} {bv : Nat → Value}
abbrev nameB2 (s t : ByteArray) : Obj := .cells #[.string s, .string t] 9
set_option maxRecDepth 100000 in
set_option maxHeartbeats 1000000 in
theorem rename_at {N : Nat} (h : DiskAt own w g A N) (hN : N < 1000000) (s t : ByteArray) (hs : s.size ≤ maxLen) (ht : t.size ≤ maxLen) :
    Calls Try.prog 26 #[.pointer (some ⟨g, 0, none⟩), .string s, .string t] w fun e w' => e = .returned (.int .i64 (A.rename s t).1) ∧ DiskAt (grow own w) w' g (A.rename s t).2 (N + 1) ∧ Only own w w' := by
  have HW : Hid _ := open_at (h.now.grown (bel_alloc w (nameB2 s t))) (Nat.le_of_lt hN) 2 2 w.heap.size 0 s [t] hs (fun j u hu => by
    rw [Nat.zero_add, cell_of_row _ _ _ _ _ _ (heap_alloc_new w _)]
    match j, hu with
    | 0, hu => cases hu; rfl
    | 1, hu => cases hu; rfl
    | j + 2, hu => simp at hu) rfl (by decide) (fun e => absurd e.2 (Nat.lt_irrefl _)) (by simp)
  have HGR : Hid (∀ k, grow (here own w) (w.alloc (nameB2 s t)) k → grow own w k) := fun k e => by
    rcases e with e | e
    · exact .inl e.1
    · refine .inr ?_; simp at e; omega
  have HN : Hid (N < 1000000) := hN
  have HWF : Hid (A.rename s t).2.wf := h.1.rename s t
  have HS : Hid (s.size ≤ maxLen ∧ t.size ≤ maxLen) := ⟨hs, ht⟩
  clear h hs hN ht
  go_enter Try.func26, Try.ntmps26
  go_wp2_with fail
  refine Calls.mono HW.out ?_
  rintro e w2 ⟨ho, hwf, hpl, m, n, uo, uc, blk, bv, hnN, hd, hcase⟩
  have HD : Hid (DiskIn (grow own w) w2 g A.pre m n uo uc blk bv) := hd.mono (fun k _ e => HGR.out k e)
  have HO2 : Hid (Only own w w2) := ((Only.refl own w).alloc _).trans ho (fun _ e => .inl e.1)
  have HR : Hid (A.pre.wf ∧ A.pre.pcs.length ≤ N ∧ n ≤ N) := ⟨hwf, hpl, hnN⟩
  clear ho hwf hpl hnN hd HW
  rcases hcase with ⟨h0, rfl⟩ | ⟨h0, hf, rfl⟩ | ⟨h0, x, hf, rfl⟩
  · have HC : Hid (A.rename s t = (chk A.pre.down [s, t], A.pre)) := by show _ = _; unfold Dk.rename; rw [if_pos h0]
    obtain ⟨z, HZ⟩ : ∃ z, Hid (chk A.pre.down [s, t] = z) := ⟨_, rfl⟩
    rw [HZ.out] at h0 HC ⊢
    go_wp2_with fail
    go_ret
    rw [HC.out]
    exact ⟨rfl, ⟨HR.out.1, Nat.le_succ_of_le HR.out.2.1, m, n, uo, uc, blk, bv, Nat.le_succ_of_le HR.out.2.2, HD.out⟩, HO2.out⟩
  · have HC : Hid (A.rename s t = (5, A.pre)) := by show _ = _; unfold Dk.rename; rw [if_neg (fun e => e h0), hf]
    clear h0 hf
    go_wp2_with fail
    go_ret
    rw [HC.out]
    exact ⟨rfl, ⟨HR.out.1, Nat.le_succ_of_le HR.out.2.1, m, n, uo, uc, blk, bv, Nat.le_succ_of_le HR.out.2.2, HD.out⟩, HO2.out⟩
  · have HC0 : Hid (A.rename s t = (0, (A.pre.over x.id t).named x.id t)) := by show _ = _; unfold Dk.rename; rw [if_neg (fun e => e h0), hf]
    have hx := (findL_some hf).1
    have HNM : Hid (x.nm = s) := (findL_some hf).2
    have HX : Hid (x ∈ A.pre.L) := hx
    have HOF : Hid _ := Dk.over_free HR.out.1 hx t
    have c2 := HD.out.c2
    have hlk := HD.out.files.look HS.out.2
    clear h0 hf hx
    cases hft : findL A.pre.L t with
    | none =>
      have hov : A.pre.over x.id t = A.pre := by unfold Dk.over; rw [hft]
      have HC : Hid (A.rename s t = (0, A.pre.named x.id t)) := by show _ = _; rw [HC0.out, hov]
      have HW3 : Hid A.pre.wf := HR.out.1
      have HX3 : Hid (x ∈ A.pre.L) := HX.out
      have HFR : Hid (∀ y ∈ A.pre.L, y.nm = t → y.id = x.id) := by have := HOF.out.2.2; rw [hov] at this; exact this
      have HPL : Hid (A.pre.pcs.length ≤ N) := HR.out.2.1
      have HO3 : Hid (Only own w w2) := HO2.out
      rw [hft] at hlk
      simp only [Option.map_none, ptrV] at hlk
      clear hft hov
      have hm3 := HD.out.c2
      obtain ⟨ta, tb, tc, td⟩ := HD.out.file x HX3.out
      have hsz1 : s.size ≤ maxLen := HS.out.1
      obtain ⟨w4, hdel, hF4, ht4⟩ := HD.out.files.del HS.out.1 0
      have hg4 := World.mapTurned.grown ht4
      have hB4 : w4.heap[blk x.id]? = some (.cells (flC x.nm (bv x.id)) 77 (0, 0)) := by rw [hg4.block _ (heap_lt tb) (by simpa using (HD.out.fg HX3.out).2.1)]; exact tb
      have hG4 := HD.out.cells
      rw [← hg4.block g HD.out.lt (by simpa using HD.out.gm)] at hG4
      have k0 : w4.cell? ⟨blk x.id, 0, none⟩ = some (.string x.nm) := by rw [cell_of_row _ _ _ _ _ _ hB4]; rfl
      have k1 := fz_of hB4 0
      have k2 : w4.cell? ⟨g, 2, none⟩ = some (.map (some m)) := by rw [cell_of_row _ _ _ _ _ _ hG4]; rfl
      have hne1 : ¬ blk x.id = g := (HD.out.fg HX3.out).1
      have hne2 : ¬ g = blk x.id := fun e => hne1 e.symm
      have hmb : m ≠ blk x.id := fun e => (HD.out.fg HX3.out).2.1 e.symm
      have hF5 : FilesAt (w4.setCell ⟨blk x.id, 0, none⟩ (.string t)) m n (fun u => if u = s then none else (findL A.pre.L u).map fun y => blk y.id) := hF4.block (heap_set_ne _ _ _ hmb)
      obtain ⟨w6, hup, hF6, ht6⟩ := hF5.put (by have := HR.out.2.2; have := HN.out; unfold maxLen; omega) HS.out.2 (some (blk x.id))
      have hg6 := World.mapTurned.grown ht6
      simp only [ptrV] at hup
      have HD6 : Hid (DiskIn (grow own w) w6 g (A.pre.named x.id t) m (n + 1) uo uc blk bv) := by
        refine HD.out.named HW3.out HX3.out HFR.out (fun k hk _ q1 q2 => ?_) ?_ ?_
        · rw [hg6.block k (by simpa [World.setCell] using Nat.lt_of_lt_of_le hk hg4.size) (by simpa using q1), heap_set_ne _ _ _ q2, hg4.block k hk (by simpa using q1)]
        · rw [hg6.block _ (by simpa [World.setCell] using heap_lt hB4) (by simpa using fun e => hmb e.symm), heap_set hB4]; rfl
        · rw [HNM.out]; exact hF6
      have HO6 : Hid (Only own w w6) := ((HO3.out.grown hg4 (fun k hk => by cases hk; exact HD.out.om)).setCell ta _).grown hg6 (fun k hk => by cases hk; exact HD.out.om)
      clear ta tb tc td hF4 ht4 hg4 hB4 hG4 hF5 hF6 ht6 hg6 hmb hsz1
      go_wp2_with fail
      go_ret
      rw [HC.out] at HWF ⊢
      refine ⟨rfl, ⟨HWF.out, ?_, m, n + 1, uo, uc, blk, bv, Nat.succ_le_succ HR.out.2.2, HD6.out⟩, HO6.out⟩
      exact Nat.le_succ_of_le HPL.out
    | some y =>
      rw [hft] at hlk
      simp only [Option.map_some, ptrV] at hlk
      have hy := (findL_some hft).1
      have hyb : Bk w2 (blk y.id) := ⟨_, _, (HD.out.file y hy).2.1⟩
      have hxb : Bk w2 (blk x.id) := ⟨_, _, (HD.out.file x HX.out).2.1⟩
      have hnq := neq_ptr w2 (blk y.id) (blk x.id) hyb hxb
      by_cases hyx : y.id = x.id
      · have hov : A.pre.over x.id t = A.pre := by unfold Dk.over; rw [hft]; simp only [if_pos hyx]
        have HC : Hid (A.rename s t = (0, A.pre.named x.id t)) := by show _ = _; rw [HC0.out, hov]
        have HW3 : Hid A.pre.wf := HR.out.1
        have HX3 : Hid (x ∈ A.pre.L) := HX.out
        have HFR : Hid (∀ y ∈ A.pre.L, y.nm = t → y.id = x.id) := by have := HOF.out.2.2; rw [hov] at this; exact this
        have HPL : Hid (A.pre.pcs.length ≤ N) := HR.out.2.1
        have HO3 : Hid (Only own w w2) := HO2.out
        rw [hyx] at hlk hnq
        simp only [decide_true, Bool.not_true] at hnq
        clear hft hov hyb hxb hy hyx
        have hm3 := HD.out.c2
        obtain ⟨ta, tb, tc, td⟩ := HD.out.file x HX3.out
        have hsz1 : s.size ≤ maxLen := HS.out.1
        obtain ⟨w4, hdel, hF4, ht4⟩ := HD.out.files.del HS.out.1 0
        have hg4 := World.mapTurned.grown ht4
        have hB4 : w4.heap[blk x.id]? = some (.cells (flC x.nm (bv x.id)) 77 (0, 0)) := by rw [hg4.block _ (heap_lt tb) (by simpa using (HD.out.fg HX3.out).2.1)]; exact tb
        have hG4 := HD.out.cells
        rw [← hg4.block g HD.out.lt (by simpa using HD.out.gm)] at hG4
        have k0 : w4.cell? ⟨blk x.id, 0, none⟩ = some (.string x.nm) := by rw [cell_of_row _ _ _ _ _ _ hB4]; rfl
        have k1 := fz_of hB4 0
        have k2 : w4.cell? ⟨g, 2, none⟩ = some (.map (some m)) := by rw [cell_of_row _ _ _ _ _ _ hG4]; rfl
        have hne1 : ¬ blk x.id = g := (HD.out.fg HX3.out).1
        have hne2 : ¬ g = blk x.id := fun e => hne1 e.symm
        have hmb : m ≠ blk x.id := fun e => (HD.out.fg HX3.out).2.1 e.symm
        have hF5 : FilesAt (w4.setCell ⟨blk x.id, 0, none⟩ (.string t)) m n (fun u => if u = s then none else (findL A.pre.L u).map fun y => blk y.id) := hF4.block (heap_set_ne _ _ _ hmb)
        obtain ⟨w6, hup, hF6, ht6⟩ := hF5.put (by have := HR.out.2.2; have := HN.out; unfold maxLen; omega) HS.out.2 (some (blk x.id))
        have hg6 := World.mapTurned.grown ht6
        simp only [ptrV] at hup
        have HD6 : Hid (DiskIn (grow own w) w6 g (A.pre.named x.id t) m (n + 1) uo uc blk bv) := by
          refine HD.out.named HW3.out HX3.out HFR.out (fun k hk _ q1 q2 => ?_) ?_ ?_
          · rw [hg6.block k (by simpa [World.setCell] using Nat.lt_of_lt_of_le hk hg4.size) (by simpa using q1), heap_set_ne _ _ _ q2, hg4.block k hk (by simpa using q1)]
          · rw [hg6.block _ (by simpa [World.setCell] using heap_lt hB4) (by simpa using fun e => hmb e.symm), heap_set hB4]; rfl
          · rw [HNM.out]; exact hF6
        have HO6 : Hid (Only own w w6) := ((HO3.out.grown hg4 (fun k hk => by cases hk; exact HD.out.om)).setCell ta _).grown hg6 (fun k hk => by cases hk; exact HD.out.om)
        clear ta tb tc td hF4 ht4 hg4 hB4 hG4 hF5 hF6 ht6 hg6 hmb hsz1
        go_wp2_with fail
        go_ret
        rw [HC.out] at HWF ⊢
        refine ⟨rfl, ⟨HWF.out, ?_, m, n + 1, uo, uc, blk, bv, Nat.succ_le_succ HR.out.2.2, HD6.out⟩, HO6.out⟩
        exact Nat.le_succ_of_le HPL.out
      · have hov : A.pre.over x.id t = A.pre.drop y.id := by unfold Dk.over; rw [hft]; simp only [if_neg hyx]
        have HC : Hid (A.rename s t = (0, (A.pre.drop y.id).named x.id t)) := by show _ = _; rw [HC0.out, hov]
        have HW3 : Hid (A.pre.drop y.id).wf := by have := HOF.out.1; rw [hov] at this; exact this
        have HX3 : Hid (x ∈ (A.pre.drop y.id).L) := by have := HOF.out.2.1; rw [hov] at this; exact this
        have HFR : Hid (∀ y' ∈ (A.pre.drop y.id).L, y'.nm = t → y'.id = x.id) := by have := HOF.out.2.2; rw [hov] at this; exact this
        have HPL : Hid ((A.pre.drop y.id).pcs.length ≤ N) := Nat.le_trans (List.length_filter_le _ _) HR.out.2.1
        have hbne : ¬ blk y.id = blk x.id := HD.out.blk_ne HR.out.1.nms HX.out hy hyx
        rw [decide_eq_false hbne] at hnq
        simp only [Bool.not_false] at hnq
        have HDR : Hid _ := ddrop_at HD.out HR.out.1 (Nat.le_trans HR.out.2.1 (Nat.le_of_lt HN.out)) hy
        clear hft hov hyb hxb hy hbne
        go_wp2_with fail
        refine Calls.mono HDR.out ?_
        rintro e w3 ⟨rfl, ⟨uo3, uc3, hd3⟩, ho3⟩
        have HD3 : Hid (DiskIn (grow own w) w3 g (A.pre.drop y.id) m n uo3 uc3 blk bv) := hd3.mono (fun k _ e => by
          rcases e with e | e
          · exact e
          · exact .inr (Nat.le_trans HO2.out.size e))
        have HO3 : Hid (Only own w w3) := HO2.out.trans ho3 (fun _ e => e)
        clear hd3 ho3 HDR hlk hnq c2
        have hm3 := HD3.out.c2
        obtain ⟨ta, tb, tc, td⟩ := HD3.out.file x HX3.out
        have hsz1 : s.size ≤ maxLen := HS.out.1
        obtain ⟨w4, hdel, hF4, ht4⟩ := HD3.out.files.del HS.out.1 0
        have hg4 := World.mapTurned.grown ht4
        have hB4 : w4.heap[blk x.id]? = some (.cells (flC x.nm (bv x.id)) 77 (0, 0)) := by rw [hg4.block _ (heap_lt tb) (by simpa using (HD3.out.fg HX3.out).2.1)]; exact tb
        have hG4 := HD3.out.cells
        rw [← hg4.block g HD3.out.lt (by simpa using HD3.out.gm)] at hG4
        have k0 : w4.cell? ⟨blk x.id, 0, none⟩ = some (.string x.nm) := by rw [cell_of_row _ _ _ _ _ _ hB4]; rfl
        have k1 := fz_of hB4 0
        have k2 : w4.cell? ⟨g, 2, none⟩ = some (.map (some m)) := by rw [cell_of_row _ _ _ _ _ _ hG4]; rfl
        have hne1 : ¬ blk x.id = g := (HD3.out.fg HX3.out).1
        have hne2 : ¬ g = blk x.id := fun e => hne1 e.symm
        have hmb : m ≠ blk x.id := fun e => (HD3.out.fg HX3.out).2.1 e.symm
        have hF5 : FilesAt (w4.setCell ⟨blk x.id, 0, none⟩ (.string t)) m n (fun u => if u = s then none else (findL (A.pre.drop y.id).L u).map fun y => blk y.id) := hF4.block (heap_set_ne _ _ _ hmb)
        obtain ⟨w6, hup, hF6, ht6⟩ := hF5.put (by have := HR.out.2.2; have := HN.out; unfold maxLen; omega) HS.out.2 (some (blk x.id))
        have hg6 := World.mapTurned.grown ht6
        simp only [ptrV] at hup
        have HD6 : Hid (DiskIn (grow own w) w6 g ((A.pre.drop y.id).named x.id t) m (n + 1) uo3 uc3 blk bv) := by
          refine HD3.out.named HW3.out HX3.out HFR.out (fun k hk _ q1 q2 => ?_) ?_ ?_
          · rw [hg6.block k (by simpa [World.setCell] using Nat.lt_of_lt_of_le hk hg4.size) (by simpa using q1), heap_set_ne _ _ _ q2, hg4.block k hk (by simpa using q1)]
          · rw [hg6.block _ (by simpa [World.setCell] using heap_lt hB4) (by simpa using fun e => hmb e.symm), heap_set hB4]; rfl
          · rw [HNM.out]; exact hF6
        have HO6 : Hid (Only own w w6) := ((HO3.out.grown hg4 (fun k hk => by cases hk; exact HD3.out.om)).setCell ta _).grown hg6 (fun k hk => by cases hk; exact HD3.out.om)
        clear ta tb tc td hF4 ht4 hg4 hB4 hG4 hF5 hF6 ht6 hg6 hmb hsz1
        go_wp2_with fail
        go_ret
        rw [HC.out] at HWF ⊢
        refine ⟨rfl, ⟨HWF.out, ?_, m, n + 1, uo3, uc3, blk, bv, Nat.succ_le_succ HR.out.2.2, HD6.out⟩, HO6.out⟩
        exact Nat.le_succ_of_le HPL.out
end
end Go.Proofs.Ytomeghngjiaofaa

/-
  disk's drop and Delete.
-/
import Derived.Test.YtomeghngjiaofaaDkQ
namespace Go.Proofs.Ytomeghngjiaofaa
open Go.RowKit
section
variable {own : Nat → Prop} {w : World} {g : Nat} {A : Dk} {m n : Nat} {uo : Option Addr} {uc : Nat} {blk : Nat → Nat} {bv : Nat → Value}
theorem findL_out {L : List Fl} {x : Fl} (hid : (L.map Fl.id).Nodup) (hnm : (L.map Fl.nm).Nodup) (hx : x ∈ L) (t : ByteArray) : findL (outId L x.id) t = if t = x.nm then none else findL L t := by
  by_cases e : t = x.nm
  · rw [if_pos e]
    cases h : findL (outId L x.id) t with
    | none => rfl
    | some y =>
      obtain ⟨h1, h2⟩ := findL_some h
      obtain ⟨h3, h4⟩ := mem_out h1
      exact absurd (by rw [nodup_at hnm h3 hx (h2.trans e)]) h4
  · rw [if_neg e]
    have hn2 : ((outId L x.id).map Fl.nm).Nodup := hnm.sublist (List.filter_sublist.map _)
    cases h : findL L t with
    | none =>
      cases h' : findL (outId L x.id) t with
      | none => rfl
      | some y =>
        obtain ⟨h1, h2⟩ := findL_some h'
        exact absurd h2 (findL_none h y (mem_out h1).1)
    | some y =>
      obtain ⟨h1, h2⟩ := findL_some h
      have hy : y ∈ outId L x.id := List.mem_filter.2 ⟨h1, by
        simp only [decide_eq_true_eq]
        exact fun q => e (by rw [← h2, nodup_at hid h1 hx q])⟩
      have := findL_of hn2 hy
      rw [h2] at this
      exact this
/-- A file is taken out: the struct's count, the map. -/
theorem DiskIn.out (h : DiskIn own w g A m n uo uc blk bv) (hid : (A.L.map Fl.id).Nodup) (hnm : (A.L.map Fl.nm).Nodup) {x : Fl} (hx : x ∈ A.L) {w' : World} (hb : ∀ k, k < w.heap.size → own k → k ≠ g → k ≠ m → w'.heap[k]? = w.heap[k]?)
    (hF : FilesAt w' m n (fun t => if t = x.nm then none else (findL A.L t).map fun y => blk y.id))
    (hg : w'.heap[g]? = some (.cells (dskC (A.cap : Int) (usedL (outId A.L x.id) : Int) m uo A.pcs.length uc A.down A.left A.keep) 69 (0, 0))) :
    DiskIn own w' g ⟨A.cap, outId A.L x.id, A.pcs, A.down, A.left, A.keep, A.next⟩ m n uo uc blk bv := by
  refine ⟨h.og, h.om, hg, hF.same (fun t => ?_), row_block h.pcs (fun k hk => hb k (h.pcs.lt k hk).2 (h.pown k hk) (h.pg hk).1 (h.pg hk).2.1), h.pown, fun y hy => ?_, fun y hy z hz k h1 h2 => h.apart y (mem_out hy).1 z (mem_out hz).1 k h1 h2⟩
  · show (findL (outId A.L x.id) t).map _ = _
    rw [findL_out hid hnm hx]
    split
    · rfl
    · rfl
  · have hy' := (mem_out hy).1
    obtain ⟨a, b, c, d⟩ := h.file y hy'
    exact ⟨a, by rw [hb _ (heap_lt b) a (h.fg hy').1 (h.fg hy').2.1]; exact b, row_block c (fun k hk => hb k (c.lt k hk).2 (d k hk) (h.bg hy' hk).1 (h.bg hy' hk).2.1), d⟩
set_option maxRecDepth 100000 in
theorem ddrop_at (h : DiskIn own w g A m n uo uc blk bv) (hw : A.wf) (hN : A.pcs.length ≤ 1000000) {x : Fl} (hx : x ∈ A.L) :
    Calls Try.prog 50 #[.pointer (some ⟨g, 0, none⟩), .pointer (some ⟨blk x.id, 0, none⟩)] w fun e w' => e = .returned (.tuple #[]) ∧ (∃ uo' uc', DiskIn (grow own w) w' g (A.drop x.id) m n uo' uc' blk bv) ∧ Only own w w' := by
  have HF : Hid _ := forget_at h hw hN hx
  have HX : Hid (x ∈ A.L) := hx
  have HW : Hid A.wf := hw
  clear h hw hN hx
  go_enter Try.func50, Try.ntmps50
  go_wp2_with fail
  refine Calls.mono HF.out ?_
  rintro e w2 ⟨rfl, ⟨uo2, uc2, hd⟩, ho⟩
  have c1 := hd.c1
  have c2 := hd.c2
  obtain ⟨a, b, c, d⟩ := hd.file x HX.out
  obtain ⟨bo, bc, hev, -, -, -⟩ := row_facts c
  have e1 : w2.cell? ⟨blk x.id, 1, none⟩ = some (.slice bo x.body.length bc) := by rw [cell_of_row _ _ _ _ _ _ b, hev]; rfl
  have e0 : w2.cell? ⟨blk x.id, 0, none⟩ = some (.string x.nm) := by rw [cell_of_row _ _ _ _ _ _ b]; rfl
  have f1 := fz_of hd.cells 1
  have hne : ¬ blk x.id = g := (hd.fg HX.out).1
  have hus := usedL_out HW.out.ids HX.out
  obtain ⟨u1, hu1⟩ : ∃ u1, usedL (outId A.L x.id) = u1 := ⟨_, rfl⟩
  rw [hu1] at hus
  have hfit := HW.out.fits
  have hcap := HW.out.capI
  have hw1 : wrap64 ((usedL A.L : Int) - (x.body.length : Int)) = (u1 : Int) := by
    rw [wsubn (by omega) (by omega)]
    congr 1
    omega
  change w2.cell? ⟨g, 1, none⟩ = some (.int .i64 (usedL A.L : Int)) at c1
  have HU1 : Hid (usedL (outId A.L x.id) = u1) := hu1
  have HD : Hid (DiskIn (grow own w) w2 g (A.forget x.id) m n uo2 uc2 blk bv) := hd
  have HO : Hid (Only own w w2) := ho
  clear hd ho a b c d hev hus hfit hcap hu1 HF
  go_wp2_with fail
  go_region
  go_wp2_with fail
  generalize hW : (w2.setCell ⟨g, 1, none⟩ (.int .i64 (u1 : Int))).drew = W
  have hgW : W.heap[g]? = some (.cells (dskC (A.cap : Int) (u1 : Int) m uo2 (forgetL A.pcs x.id).length uc2 A.down A.left A.keep) 69 (0, 0)) := by
    rw [← hW]
    show (w2.setCell ⟨g, 1, none⟩ (.int .i64 (u1 : Int))).heap[g]? = _
    rw [heap_set HD.out.cells]; rfl
  have hoW : ∀ k, k ≠ g → W.heap[k]? = w2.heap[k]? := fun k hk => by
    rw [← hW]
    exact heap_set_ne _ _ _ hk
  have hFW := HD.out.files.block (hoW m (fun e => HD.out.gm e.symm))
  have k2 : W.cell? ⟨g, 2, none⟩ = some (.map (some m)) := by rw [cell_of_row _ _ _ _ _ _ hgW]; rfl
  have k0 : W.cell? ⟨blk x.id, 0, none⟩ = some (.string x.nm) := (World.cell?_of_block (hoW (blk x.id) hne)).trans e0
  have hsz : x.nm.size ≤ maxLen := by
    have := HW.out.good x HX.out
    unfold badName at this
    simp only [Bool.or_eq_false_iff, decide_eq_false_iff_not] at this
    unfold maxLen
    omega
  have HOW : Hid (Only own w W ∧ w2.heap.size ≤ W.heap.size) := by
    rw [← hW]
    exact ⟨(HO.out.setCell HD.out.og _).drewN 1, by simp [World.drew, World.setCell]⟩
  obtain ⟨w9, hdel, hF9, ht9⟩ := (hFW.block (w' := W.drew) rfl).del hsz 0
  have HF9 : Hid _ := hF9
  have HT9 : Hid (W.drew.grownBy w9 (some m)) := World.mapTurned.grown ht9
  have HGW : Hid _ := hgW
  have HOK : Hid (∀ k, k ≠ g → W.heap[k]? = w2.heap[k]?) := hoW
  clear c1 c2 e0 e1 f1 hne hw1 hgW hoW hFW hsz hF9 ht9 hW
  go_region
  go_wp2_with fail
  go_end0
  refine ⟨rfl, ⟨uo2, uc2, ?_⟩, ?_⟩
  · refine HD.out.out HW.out.ids HW.out.nms HX.out (fun k hk _ k1 k2 => ?_) HF9.out ?_
    · rw [HT9.out.block k ?_ (by simpa using k2)]
      · exact HOK.out k k1
      · show k < W.heap.size
        exact Nat.lt_of_lt_of_le hk HOW.out.2
    · rw [HT9.out.block g ?_ (by simpa using HD.out.gm)]
      · rw [show (A.forget x.id).L = A.L from rfl, HU1.out]
        exact HGW.out
      · exact heap_lt HGW.out
  · exact (HOW.out.1.drewN 1).grown HT9.out (fun k hk => by cases hk; exact HD.out.om)
set_option maxRecDepth 100000 in
theorem delete_at {N : Nat} (h : DiskAt own w g A N) (hN : N < 1000000) (s : ByteArray) (hs : s.size ≤ maxLen) :
    Calls Try.prog 27 #[.pointer (some ⟨g, 0, none⟩), .string s] w fun e w' => e = .returned (.int .i64 (A.delete s).1) ∧ DiskAt (grow own w) w' g (A.delete s).2 (N + 1) ∧ Only own w w' := by
  have HW : Hid _ := open_at (h.now.grown (bel_alloc w (nameB s))) (Nat.le_of_lt hN) 1 1 w.heap.size 0 s [] hs (fun j t ht => by cases j with | zero => (cases ht; exact cell_one_new w _ 9 0 _ rfl) | succ j => (simp at ht)) rfl (by decide) (fun e => absurd e.2 (Nat.lt_irrefl _)) (by simp)
  have HGR : Hid (∀ k, grow (here own w) (w.alloc (nameB s)) k → grow own w k) := fun k e => by
    rcases e with e | e
    · exact .inl e.1
    · refine .inr ?_; simp at e; omega
  have HN : Hid (N < 1000000) := hN
  have HWF : Hid (A.delete s).2.wf := h.1.delete s
  clear h hs hN
  go_enter Try.func27, Try.ntmps27
  go_wp2_with fail
  refine Calls.mono HW.out ?_
  rintro e w2 ⟨ho, hwf, hpl, m, n, uo, uc, blk, bv, hnN, hd, hcase⟩
  have HD : Hid (DiskIn (grow own w) w2 g A.pre m n uo uc blk bv) := hd.mono (fun k _ e => HGR.out k e)
  have HO2 : Hid (Only own w w2) := ((Only.refl own w).alloc _).trans ho (fun _ e => .inl e.1)
  have HR : Hid (A.pre.wf ∧ A.pre.pcs.length ≤ N ∧ n ≤ N) := ⟨hwf, hpl, hnN⟩
  clear ho hwf hpl hnN hd HW
  rcases hcase with ⟨h0, rfl⟩ | ⟨h0, hf, rfl⟩ | ⟨h0, x, hf, rfl⟩
  · have HC : Hid (A.delete s = (chk A.pre.down [s], A.pre)) := by show _ = _; unfold Dk.delete; rw [if_pos h0]
    obtain ⟨z, HZ⟩ : ∃ z, Hid (chk A.pre.down [s] = z) := ⟨_, rfl⟩
    rw [HZ.out] at h0 HC ⊢
    go_wp2_with fail
    go_ret
    rw [HC.out]
    exact ⟨rfl, ⟨HR.out.1, Nat.le_succ_of_le HR.out.2.1, m, n, uo, uc, blk, bv, Nat.le_succ_of_le HR.out.2.2, HD.out⟩, HO2.out⟩
  · have HC : Hid (A.delete s = (5, A.pre)) := by show _ = _; unfold Dk.delete; rw [if_neg (fun e => e h0), hf]
    clear h0 hf
    go_wp2_with fail
    go_ret
    rw [HC.out]
    exact ⟨rfl, ⟨HR.out.1, Nat.le_succ_of_le HR.out.2.1, m, n, uo, uc, blk, bv, Nat.le_succ_of_le HR.out.2.2, HD.out⟩, HO2.out⟩
  · have HC : Hid (A.delete s = (0, A.pre.drop x.id)) := by show _ = _; unfold Dk.delete; rw [if_neg (fun e => e h0), hf]
    have HF : Hid _ := ddrop_at HD.out HR.out.1 (Nat.le_trans HR.out.2.1 (Nat.le_of_lt HN.out)) (findL_some hf).1
    clear h0 hf
    go_wp2_with fail
    refine Calls.mono HF.out ?_
    rintro e w3 ⟨rfl, ⟨uo3, uc3, hd3⟩, ho3⟩
    have HD3 : Hid (DiskIn (grow (grow own w) w2) w3 g (A.pre.drop x.id) m n uo3 uc3 blk bv) := hd3
    have HO3 : Hid (Only own w w3) := HO2.out.trans ho3 (fun _ e => e)
    clear hd3 ho3
    go_wp2_with fail
    go_ret
    rw [HC.out] at HWF ⊢
    refine ⟨rfl, ⟨HWF.out, ?_, m, n, uo3, uc3, blk, bv, Nat.le_succ_of_le HR.out.2.2, HD3.out.mono (fun k _ e => ?_)⟩, HO3.out⟩
    · exact Nat.le_succ_of_le (Nat.le_trans (List.length_filter_le _ _) HR.out.2.1)
    · rcases e with e | e
      · exact e
      · exact .inr (Nat.le_trans HO2.out.size e)
end
end Go.Proofs.Ytomeghngjiaofaa

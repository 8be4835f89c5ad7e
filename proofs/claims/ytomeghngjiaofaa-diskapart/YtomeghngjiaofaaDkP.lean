/-
  disk's Append.
-/
import Derived.Test.YtomeghngjiaofaaDkH
import Derived.Deep.AppendLies
import Derived.Deep.CutBlock
import Derived.Deep.DeepCutAuto
namespace Go.Proofs.Ytomeghngjiaofaa
open Go.RowKit
theorem info79 : (Try.prog.info? 79).map (fun i => (i.zero, i.size, i.bytes)) = some (some (.agg #[.pointer none, .int .i64 0]), 2, 16) := by kernel_rfl
theorem waddn {a b : Nat} (h : a + b ≤ 9223372036854775807) : wrap64 ((a : Int) + (b : Int)) = ((a + b : Nat) : Int) := by unfold wrap64; omega
section
variable {own : Nat → Prop} {w : World} {g : Nat} {A : Dk} {m n : Nat} {uo : Option Addr} {uc : Nat} {blk : Nat → Nat} {bv : Nat → Value}
/-- Behind Append's first two statements that write. -/
theorem DiskIn.put (h : DiskIn own w g A m n uo uc blk bv) (hw : A.wf) {x : Fl} (hx : x ∈ A.L) {bs : List UInt8} {w4 : World} {g' cap' : Nat} (hr : w4.ownsRow 0 5 1 (.slice (some ⟨g', 0, none⟩) (x.body.length + bs.length) cap') (x.body.length + bs.length) (cellsOf x.body ++ cellsOf bs))
    (hg : w.grownBy w4 (bv x.id).ownBlock) (hl : (bv x.id).ownBlock = some g' ∨ g' = w.heap.size) :
    DiskIn (grow own w) ((w4.setCell ⟨blk x.id, 1, none⟩ (.slice (some ⟨g', 0, none⟩) (x.body.length + bs.length) cap')).setCell ⟨g, 1, none⟩ (.int .i64 ((usedL A.L + bs.length : Nat) : Int))) g ⟨A.cap, onId A.L x.id (putF bs), A.pcs, A.down, A.left, A.keep, A.next⟩ m n uo uc blk (fun i => if i = x.id then .slice (some ⟨g', 0, none⟩) (x.body.length + bs.length) cap' else bv i) := by
  obtain ⟨a, b, c, d⟩ := h.file x hx
  have hfar : ∀ k, k < w.heap.size → (bv x.id).ownBlock ≠ some k → w4.heap[k]? = w.heap[k]? := fun k hk e => hg.block k hk (fun q => e q.symm)
  have hput : (putF bs x).body.length = x.body.length + bs.length := by simp [putF]
  have hus : usedL (onId A.L x.id (putF bs)) = usedL A.L + bs.length := by
    have := usedL_onId (putF bs) hw.ids hx
    rw [hput] at this
    omega
  have hgne : g' ≠ g ∧ g' ≠ blk x.id := by
    rcases hl with e | e
    · exact ⟨(h.bg hx e).1, (h.bg hx e).2.2 x hx⟩
    · have h1 := h.lt
      have h2 := heap_lt b
      omega
  have hd := (h.mono (own' := here own w) (fun _ hk e => ⟨e, hk⟩)).bodyTurn (w' := (w4.setCell ⟨blk x.id, 1, none⟩ (.slice (some ⟨g', 0, none⟩) (x.body.length + bs.length) cap')).setCell ⟨g, 1, none⟩ (.int .i64 ((usedL A.L + bs.length : Nat) : Int))) hw.ids hw.nms hx (putF bs) (fun _ => ⟨rfl, rfl⟩) (v' := .slice (some ⟨g', 0, none⟩) (x.body.length + bs.length) cap') (own' := grow own w) (fun _ e => .inl e.1) ?_ ?_ ?_ ?_ ?_
  · exact hd
  · intro k hk k1 k2 k3
    rw [heap_set_ne _ _ _ k1, heap_set_ne _ _ _ k2]
    exact hfar k hk.2 k3
  · rw [heap_set_ne _ _ _ (h.fg hx).1, heap_set (by rw [hfar _ (heap_lt b) ((h.fg hx).2.2.1 x hx)]; exact b)]; rfl
  · rw [hput, show cellsOf (putF bs x).body = cellsOf x.body ++ cellsOf bs by simp [putF, cellsOf]]
    refine row_block hr (fun k hk => ?_)
    cases hk
    rw [heap_set_ne _ _ _ hgne.1, heap_set_ne _ _ _ hgne.2]
  · intro k hk
    cases hk
    rcases hl with e | e
    · exact ⟨.inl (d _ e), .inl e⟩
    · exact ⟨.inr (by rw [e]; exact Nat.le_refl _), .inr (fun q => by have := q.2; simp only at this; omega)⟩
  · rw [heap_set (by rw [heap_set_ne _ _ _ (fun e => (h.fg hx).1 e.symm), hfar g h.lt (fun e => (h.bg hx e).1 rfl)]; exact h.cells), hus]; rfl
theorem pcC_one (l : List Value) (blk : Nat → Nat) (p : Nat × Nat) (h : l = [.pointer (some ⟨blk p.1, 0, none⟩), .int .i64 (p.2 : Int)]) : ∀ u ∈ l, u.oneCell' = true := by
  subst h
  intro u hu
  rcases List.mem_cons.1 hu with rfl | hu
  · rfl
  · rw [List.mem_singleton.1 hu]; rfl
set_option maxRecDepth 100000 in
set_option maxHeartbeats 1000000 in
theorem append_at {N : Nat} (h : DiskAt own w g A N) (hN : N < 1000000) (s : ByteArray) (hs : s.size ≤ maxLen) (ao : Option Addr) (bn bc : Nat) (bs : List UInt8) (hb : Bytes w ao bn bs) (hno : 0 < bn → ∀ ad, ao = some ad → ¬ own ad.block) (hbn : bn ≤ 9223372036854775807) (hfit : A.pre.cap < usedL A.pre.L + bn ∨ usedL A.pre.L + bn ≤ 140737488355328) :
    Calls Try.prog 24 #[.pointer (some ⟨g, 0, none⟩), .string s, .slice ao bn bc] w fun e w' => e = .returned (.int .i64 (A.append s bs).1) ∧ DiskAt (grow own w) w' g (A.append s bs).2 (N + 1) ∧ Only own w w' := by
  have HW : Hid _ := open_at (h.now.grown (bel_alloc w (nameB s))) (Nat.le_of_lt hN) 1 1 w.heap.size 0 s [] hs (fun j t ht => by cases j with | zero => (cases ht; exact cell_one_new w _ 9 0 _ rfl) | succ j => (simp at ht)) rfl (by decide) (fun e => absurd e.2 (Nat.lt_irrefl _)) (by simp)
  have HGR : Hid (∀ k, grow (here own w) (w.alloc (nameB s)) k → grow own w k) := fun k e => by
    rcases e with e | e
    · exact .inl e.1
    · refine .inr ?_; simp at e; omega
  have HN : Hid (N < 1000000) := hN
  have HWF : Hid (A.append s bs).2.wf := h.1.append s bs
  have HBY : Hid (Bytes w ao bn bs) := hb
  have HNO : Hid (0 < bn → ∀ ad, ao = some ad → ¬ own ad.block) := hno
  have HFIT : Hid (A.pre.cap < usedL A.pre.L + bn ∨ usedL A.pre.L + bn ≤ 140737488355328) := hfit
  have HBN : Hid (bn ≤ 9223372036854775807) := hbn
  have HBL : Hid (bs.length = bn) := hb.1
  clear h hs hN hb hno hfit hbn
  go_enter Try.func24, Try.ntmps24
  go_wp2_with fail
  refine Calls.mono HW.out ?_
  rintro e w2 ⟨ho, hwf, hpl, m, n, uo, uc, blk, bv, hnN, hd, hcase⟩
  have HD : Hid (DiskIn (grow own w) w2 g A.pre m n uo uc blk bv) := hd.mono (fun k _ e => HGR.out k e)
  have HO2 : Hid (Only own w w2) := ((Only.refl own w).alloc _).trans ho (fun _ e => .inl e.1)
  have HR : Hid (A.pre.wf ∧ A.pre.pcs.length ≤ N ∧ n ≤ N) := ⟨hwf, hpl, hnN⟩
  clear ho hwf hpl hnN hd HW
  rcases hcase with ⟨h0, rfl⟩ | ⟨h0, hf, rfl⟩ | ⟨h0, x, hf, rfl⟩
  · have HC : Hid (A.append s bs = (chk A.pre.down [s], A.pre)) := by show _ = _; unfold Dk.append; rw [if_pos h0]
    obtain ⟨z, HZ⟩ : ∃ z, Hid (chk A.pre.down [s] = z) := ⟨_, rfl⟩
    rw [HZ.out] at h0 HC ⊢
    go_wp2_with fail
    go_ret
    rw [HC.out]
    exact ⟨rfl, ⟨HR.out.1, Nat.le_succ_of_le HR.out.2.1, m, n, uo, uc, blk, bv, Nat.le_succ_of_le HR.out.2.2, HD.out⟩, HO2.out⟩
  · have HC : Hid (A.append s bs = (5, A.pre)) := by show _ = _; unfold Dk.append; rw [if_neg (fun e => e h0), hf]
    clear h0 hf
    go_wp2_with fail
    go_ret
    rw [HC.out]
    exact ⟨rfl, ⟨HR.out.1, Nat.le_succ_of_le HR.out.2.1, m, n, uo, uc, blk, bv, Nat.le_succ_of_le HR.out.2.2, HD.out⟩, HO2.out⟩
  · have HC : Hid (A.append s bs = A.pre.putIn x.id bs) := by show _ = _; unfold Dk.append; rw [if_neg (fun e => e h0), hf]
    have hx := (findL_some hf).1
    have c0 := HD.out.c0
    have c1 := HD.out.c1
    have hfits := HR.out.1.fits
    have hcapI := HR.out.1.capI
    obtain ⟨r, HRR⟩ : ∃ r, Hid (A.pre.cap - usedL A.pre.L = r) := ⟨_, rfl⟩
    have hw1 : wrap64 ((A.pre.cap : Int) - (usedL A.pre.L : Int)) = (r : Int) := by rw [← HRR.out]; exact wsubn hfits hcapI
    have HX : Hid (x ∈ A.pre.L) := hx
    by_cases hfull : A.pre.cap < usedL A.pre.L + bn
    · have hq : (r : Int) < (bn : Int) := by have := HRR.out; omega
      have HC2 : Hid (A.append s bs = (4, A.pre)) := by show _ = _; rw [HC.out]; unfold Dk.putIn; rw [if_pos (by rw [HBL.out]; exact hfull)]
      clear h0 hf hfull hfits hcapI hx
      go_wp2_with fail
      go_quiet (fail)
      clear c0 c1 hw1
      go_wp2_with fail
      go_ret
      rw [HC2.out]
      exact ⟨rfl, ⟨HR.out.1, Nat.le_succ_of_le HR.out.2.1, m, n, uo, uc, blk, bv, Nat.le_succ_of_le HR.out.2.2, HD.out.keep (fun _ _ _ => by rw [heap_drewN])⟩, HO2.out.drewN nq⟩
    · have hq : ¬ (r : Int) < (bn : Int) := by have := HRR.out; omega
      by_cases hz : bn = 0
      · have HC2 : Hid (A.append s bs = (0, A.pre)) := by show _ = _; rw [HC.out]; unfold Dk.putIn; rw [if_neg (by rw [HBL.out]; exact hfull), if_pos (by rw [HBL.out]; exact hz)]
        subst hz
        clear h0 hf hfull hfits hcapI hx
        go_wp2_with fail
        go_quiet (fail)
        clear c0 c1 hw1
        go_wp2_with fail
        go_ret
        rw [HC2.out]
        exact ⟨rfl, ⟨HR.out.1, Nat.le_succ_of_le HR.out.2.1, m, n, uo, uc, blk, bv, Nat.le_succ_of_le HR.out.2.2, HD.out.keep (fun _ _ _ => by rw [heap_drewN])⟩, HO2.out.drewN nq⟩
      · have HC2 : Hid (A.append s bs = (0, ⟨A.pre.cap, onId A.pre.L x.id (putF bs), A.pre.pcs ++ [(x.id, bn)], A.pre.down, A.pre.left, A.pre.keep, A.pre.next⟩)) := by show _ = _; rw [HC.out]; unfold Dk.putIn; rw [if_neg (by rw [HBL.out]; exact hfull), if_neg (by rw [HBL.out]; exact hz), HBL.out]
        have hz1 : (0 : Int) < (bn : Int) := by omega
        have HBP : Hid (0 < bn) := by show 0 < bn; omega
        have HSUM : Hid (usedL A.pre.L + bn ≤ 140737488355328) := HFIT.out.resolve_left hfull
        clear h0 hf hfull hfits hcapI hx hz
        go_wp2_with fail
        go_quiet (fail)
        generalize hw3 : w2.drewN nq = w3
        have HD3 : Hid (DiskIn (grow own w) w3 g A.pre m n uo uc blk bv) := by rw [← hw3]; exact HD.out.keep (fun _ _ _ => by rw [heap_drewN])
        have HO3 : Hid (Only own w w3) := by rw [← hw3]; exact HO2.out.drewN nq
        clear c0 c1 hw1 hw3
        obtain ⟨fa, fb, fc, fd⟩ := HD3.out.file x HX.out
        obtain ⟨bo, bc2, hev, -, -, -⟩ := row_facts fc
        have e1 : w3.cell? ⟨blk x.id, 1, none⟩ = some (.slice bo x.body.length bc2) := by rw [cell_of_row _ _ _ _ _ _ fb, hev]; rfl
        have HRW : Hid (w3.ownsRow 0 5 1 (.slice bo x.body.length bc2) x.body.length (cellsOf x.body)) := by show World.ownsRow _ _ _ _ _ _ _; rw [← hev]; exact fc
        have HEV : Hid (bv x.id = .slice bo x.body.length bc2) := hev
        obtain ⟨ad, had⟩ : ∃ ad, ao = some ad := by
          obtain ⟨y, hy, _⟩ := HBY.out.2 0 _ (List.getElem?_eq_getElem (by rw [HBL.out]; exact HBP.out))
          exact ⟨y, hy⟩
        subst had
        have HBY3 : Hid (∀ j u, (cellsOf bs)[j]? = some u → w3.cell? (ad.add j) = some u) := by
          intro j u hu
          obtain ⟨c, hc, rfl⟩ := cellsOf_at hu
          obtain ⟨y, hy, hcell⟩ := HBY.out.2 j c hc
          cases hy
          have hbk : (ad.add j).block = ad.block := by unfold Addr.add; split <;> rfl
          have hlt := World.block_lt_of_cell? w _ hcell
          rw [hbk] at hlt
          exact (World.cell?_of_block (by rw [hbk]; exact HO3.out.block _ hlt (HNO.out HBP.out ad rfl))).trans hcell
        have HXL : Hid (x.body.length ≤ usedL A.pre.L) := usedL_ge HX.out
        obtain ⟨i0, hi, hz0, hzz1, hzz2⟩ := info_parts info5
        clear fa fb fc fd hev
        go_wp2_with (at_builtin; refine wpList_append_lies _ rfl (.tmp 38) (.tmp 39) 28 rfl 0 5 i0 (.int .u8 0) 1 1 Try.underlying28 hi hz0 hzz1 hzz2 rfl (by decide) _ x.body.length (cellsOf x.body) rfl HRW.out ad bn bc (cellsOf bs) rfl (by rw [cellsOf_length, HBL.out, Nat.mul_one]) HBY3.out (cellsOf_one bs) HBP.out (by have h1 := HXL.out; have h2 := HSUM.out; unfold maxLen; omega) (by have h1 := HXL.out; have h2 := HSUM.out; omega) (Nat.zero_le _) _ rfl ?_)
        intro g' cap' w4 hr4 hg4 hl4 hlt4
        rw [← HEV.out] at hg4 hl4
        have hd6 := HD3.out.put HR.out.1 HX.out (bs := bs) (w4 := w4) (g' := g') (cap' := cap') (by rw [HBL.out]; exact hr4) hg4 hl4
        rw [HBL.out] at hd6
        have hfar : ∀ k, k < w3.heap.size → (bv x.id).ownBlock ≠ some k → w4.heap[k]? = w3.heap[k]? := fun k hk e => hg4.block k hk (fun q => e q.symm)
        have hB4 : w4.heap[blk x.id]? = some (.cells (flC x.nm (bv x.id)) 77 (0, 0)) := by rw [hfar _ (heap_lt (HD3.out.file x HX.out).2.1) ((HD3.out.fg HX.out).2.2.1 x HX.out)]; exact (HD3.out.file x HX.out).2.1
        have hG4 : w4.heap[g]? = some (.cells (dskC (A.pre.cap : Int) (usedL A.pre.L : Int) m uo A.pre.pcs.length uc A.pre.down A.pre.left A.pre.keep) 69 (0, 0)) := by rw [hfar g HD3.out.lt (fun e => (HD3.out.bg HX.out e).1 rfl)]; exact HD3.out.cells
        have k1 : w4.cell? ⟨blk x.id, 1, none⟩ = some (.slice bo x.body.length bc2) := by rw [cell_of_row _ _ _ _ _ _ hB4, HEV.out]; rfl
        have k2 := fz_of hB4 1
        have k3 : w4.cell? ⟨g, 1, none⟩ = some (.int .i64 (usedL A.pre.L)) := by rw [cell_of_row _ _ _ _ _ _ hG4]; rfl
        have k4 := fz_of hG4 1
        have k5 : w4.cell? ⟨g, 3, none⟩ = some (.slice uo A.pre.pcs.length uc) := by rw [cell_of_row _ _ _ _ _ _ hG4]; rfl
        have k6 := fz_of hG4 3
        have hne1 : ¬ blk x.id = g := (HD3.out.fg HX.out).1
        have hne2 : ¬ g = blk x.id := fun e => hne1 e.symm
        have HO4 : Hid (Only own w w4) := HO3.out.grown hg4 (fun k hk => (HD3.out.file x HX.out).2.2.2 k hk)
        have HFB : Hid (grow own w (blk x.id)) := (HD3.out.file x HX.out).1
        have HSZ : Hid (w.heap.size ≤ w3.heap.size ∧ w3.heap.size ≤ w4.heap.size) := ⟨HO3.out.size, hg4.size⟩
        obtain ⟨u1, HU1⟩ : ∃ u1, Hid (usedL A.pre.L + bn = u1) := ⟨_, rfl⟩
        have hw2 : wrap64 ((usedL A.pre.L : Int) + (bn : Int)) = (u1 : Int) := by rw [← HU1.out]; exact waddn (Nat.le_trans HSUM.out (by decide))
        rw [HU1.out] at hd6
        obtain ⟨W6, hW6⟩ : ∃ W, (w4.setCell ⟨blk x.id, 1, none⟩ (.slice (some ⟨g', 0, none⟩) (x.body.length + bn) cap')).setCell ⟨g, 1, none⟩ (.int .i64 (u1 : Int)) = W := ⟨_, rfl⟩
        have HW6 : Hid ((w4.setCell ⟨blk x.id, 1, none⟩ (.slice (some ⟨g', 0, none⟩) (x.body.length + bn) cap')).setCell ⟨g, 1, none⟩ (.int .i64 (u1 : Int)) = W6) := hW6
        rw [hW6] at hd6
        have HD6 : Hid (DiskIn (grow (grow own w) w3) W6 g ⟨A.pre.cap, onId A.pre.L x.id (putF bs), A.pre.pcs, A.pre.down, A.pre.left, A.pre.keep, A.pre.next⟩ m n uo uc blk (fun i => if i = x.id then .slice (some ⟨g', 0, none⟩) (x.body.length + bn) cap' else bv i)) := hd6
        have HO6 : Hid (Only own w W6) := by
          rw [← hW6]
          exact (HO4.out.setCell HFB.out _).setCell HD3.out.og _
        clear hd6 hW6 hr4 hg4 hl4 hlt4 hfar hB4 hG4 e1 hi hz0 hzz1 hzz2 hq hz1
        obtain ⟨j0, hj, hy0, hy1, hy2⟩ := info_parts info79
        go_upto_region 9 with fail
        rw [HW6.out]
        have HD7 : Hid (DiskIn (grow (grow own w) w3) (W6.alloc (.cells #[.pointer (some ⟨blk x.id, 0, none⟩), .int .i64 (bn : Int)] 79)) g ⟨A.pre.cap, onId A.pre.L x.id (putF bs), A.pre.pcs, A.pre.down, A.pre.left, A.pre.keep, A.pre.next⟩ m n uo uc blk (fun i => if i = x.id then .slice (some ⟨g', 0, none⟩) (x.body.length + bn) cap' else bv i)) := HD6.out.grown (bel_alloc W6 _)
        have d3 : W6.cell? ⟨g, 3, none⟩ = some (.slice uo A.pre.pcs.length uc) := HD6.out.c3
        have HNW : Hid (∀ j u, ([.pointer (some ⟨blk x.id, 0, none⟩), .int .i64 (bn : Int)] : List Value)[j]? = some u → (W6.alloc (.cells #[.pointer (some ⟨blk x.id, 0, none⟩), .int .i64 (bn : Int)] 79)).cell? ((⟨W6.heap.size, 0, none⟩ : Addr).add j) = some u) := by
          intro j u hu
          rw [Addr.add_lit, Nat.zero_add, cell_of_row _ _ _ _ _ _ (heap_alloc_new W6 _)]
          simpa using hu
        clear k1 k2 k3 k4 k5 k6 hne1 hne2 hw2
        go_wp2_with (at_builtin; refine wpList_append_lies _ rfl (.tmp 56) (.tmp 61) 67 rfl 0 79 j0 (.agg #[.pointer none, .int .i64 0]) 2 16 Try.underlying67 hj hy0 hy1 hy2 rfl (by decide) _ A.pre.pcs.length (pcC blk A.pre.pcs) rfl HD7.out.pcs ⟨W6.heap.size, 0, none⟩ 1 _ [.pointer (some ⟨blk x.id, 0, none⟩), .int .i64 (bn : Int)] rfl rfl HNW.out (pcC_one _ blk (x.id, bn) rfl) (by decide) (by have h1 := HR.out.2.1; have h2 := HN.out; unfold maxLen; omega) (by have h1 := HR.out.2.1; have h2 := HN.out; omega) (Nat.zero_le _) _ rfl ?_)
        intro pb pcap w8 hr8 hg8 hl8 hlt8
        have hpg : ∀ k, (Value.slice uo A.pre.pcs.length uc).ownBlock = some k → k ≠ g := fun k hk => (HD7.out.pg hk).1
        have hcl : w8.heap[g]? = some (.cells (dskC (A.pre.cap : Int) (usedL (onId A.pre.L x.id (putF bs)) : Int) m uo A.pre.pcs.length uc A.pre.down A.pre.left A.pre.keep) 69 (0, 0)) := by
          rw [hg8.block g HD7.out.lt (fun e => hpg g e.symm rfl)]; exact HD7.out.cells
        have d4 : w8.cell? ⟨g, 3, none⟩ = some (.slice uo A.pre.pcs.length uc) := by rw [cell_of_row _ _ _ _ _ _ hcl]; rfl
        have d5 := fz_of hcl 3
        have HD9 : Hid (DiskIn (grow own w) (w8.setCell ⟨g, 3, none⟩ (.slice (some ⟨pb, 0, none⟩) (A.pre.pcs.length + 1) pcap)) g ⟨A.pre.cap, onId A.pre.L x.id (putF bs), A.pre.pcs ++ [(x.id, bn)], A.pre.down, A.pre.left, A.pre.keep, A.pre.next⟩ m n (some ⟨pb, 0, none⟩) pcap blk (fun i => if i = x.id then .slice (some ⟨g', 0, none⟩) (x.body.length + bn) cap' else bv i)) := by
          have hpl1 : (A.pre.pcs ++ [(x.id, bn)]).length = A.pre.pcs.length + 1 := by simp
          have hpbg : pb ≠ g := by
            rcases hl8 with e | e
            · exact hpg pb e
            · have h1 := HD6.out.lt; omega
          have hgrw : ∀ k, grow (grow own w) w3 k → grow own w k := fun k e => by
            rcases e with e | e
            · exact e
            · exact .inr (Nat.le_trans HSZ.out.1 e)
          refine HD7.out.pcsTurn (own' := grow own w) (ps := A.pre.pcs ++ [(x.id, bn)]) hgrw (fun k hk _ q1 q2 => ?_) ?_ (fun k hk => ?_) ?_
          · rw [heap_set_ne _ _ _ q1]
            exact hg8.block k hk (fun e => q2 e.symm)
          · rw [hpl1, pcC_append]
            exact row_block hr8 (fun k hk => heap_set_ne _ _ _ (by cases hk; exact hpbg))
          · cases hk
            rcases hl8 with e | e
            · exact hgrw _ (HD7.out.pown _ e)
            · refine .inr ?_
              rw [e]
              exact Nat.le_succ_of_le HO6.out.size
          · rw [hpl1, heap_set hcl]; rfl
        have HO9 : Hid (Only own w (w8.setCell ⟨g, 3, none⟩ (.slice (some ⟨pb, 0, none⟩) (A.pre.pcs.length + 1) pcap))) := by
          refine ((HO6.out.alloc _).grown hg8 (fun k hk => ?_)).setCell HD9.out.og _
          rcases HD7.out.pown k hk with e | e
          · exact e
          · exact .inr (Nat.le_trans HSZ.out.1 e)
        clear d3 hr8 hg8 hl8 hlt8 hpg hcl hj hy0 hy1 hy2
        go_wp2_with fail
        go_ret
        rw [HC2.out] at HWF ⊢
        refine ⟨rfl, ⟨HWF.out, ?_, m, n, _, _, blk, _, Nat.le_succ_of_le HR.out.2.2, HD9.out⟩, HO9.out⟩
        show (A.pre.pcs ++ [(x.id, bn)]).length ≤ N + 1
        rw [List.length_append]
        exact Nat.succ_le_succ HR.out.2.1
end
end Go.Proofs.Ytomeghngjiaofaa

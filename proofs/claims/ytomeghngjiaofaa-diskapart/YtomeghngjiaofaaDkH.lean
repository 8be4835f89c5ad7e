/-
  disk's forget, Sync.
-/
import Derived.Test.YtomeghngjiaofaaDkG
namespace Go.Proofs.Ytomeghngjiaofaa
open Go.RowKit
section
variable {own : Nat → Prop} {w : World} {g : Nat} {A : Dk} {m n : Nat} {uo : Option Addr} {uc : Nat} {blk : Nat → Nat} {bv : Nat → Value}
theorem DiskIn.pcsTurn (h : DiskIn own w g A m n uo uc blk bv) {w' : World} {ps : List (Nat × Nat)} {uo' : Option Addr} {uc' : Nat} {own' : Nat → Prop} (hs : ∀ k, own k → own' k)
    (hb : ∀ k, k < w.heap.size → own k → k ≠ g → (Value.slice uo A.pcs.length uc).ownBlock ≠ some k → w'.heap[k]? = w.heap[k]?)
    (hr : w'.ownsRow 0 79 2 (.slice uo' ps.length uc') ps.length (pcC blk ps)) (ho : ∀ k, (Value.slice uo' ps.length uc').ownBlock = some k → own' k)
    (hg : w'.heap[g]? = some (.cells (dskC (A.cap : Int) (usedL A.L : Int) m uo' ps.length uc' A.down A.left A.keep) 69 (0, 0))) :
    DiskIn own' w' g ⟨A.cap, A.L, ps, A.down, A.left, A.keep, A.next⟩ m n uo' uc' blk bv := by
  refine ⟨hs _ h.og, hs _ h.om, hg, h.files.block (hb m h.files.lt h.om (fun e => h.gm e.symm) (fun e => (h.pg e).2.1 rfl)), hr, ho, fun x hx => ?_, h.apart⟩
  obtain ⟨a, b, c, d⟩ := h.file x hx
  exact ⟨hs _ a, by rw [hb _ (heap_lt b) a (h.fg hx).1 (fun e => (h.pg e).2.2.1 x hx rfl)]; exact b, row_block c (fun k hk => hb k (c.lt k hk).2 (d k hk) (h.bg hx hk).1 (fun e => (h.pg e).2.2.2 x hx hk)), fun k hk => hs k (d k hk)⟩
def rawP (blk : Nat → Nat) (l : List (Nat × Nat)) : List (Nat × Nat) := l.map fun p => (blk p.1, p.2)
theorem rawP_cells (blk : Nat → Nat) (l : List (Nat × Nat)) : pcI (rawP blk l) = pcC blk l := by
  induction l with
  | nil => rfl
  | cons p l ih =>
    show pcI ((blk p.1, p.2) :: rawP blk l) = _
    unfold pcI at ih ⊢
    rw [pcC_cons, pcC_cons, ih]
theorem DiskIn.inj (h : DiskIn own w g A m n uo uc blk bv) (hw : A.wf) {x y : Fl} (hx : x ∈ A.L) (hy : y ∈ A.L) (e : blk y.id = blk x.id) : y.id = x.id := by
  rw [nodup_at hw.nms hy hx ((h.fg hx).2.2.2 y hy e)]
theorem raw_nd {blk : Nat → Nat} {l : List (Nat × Nat)} {i : Nat} (h : ∀ p ∈ l, blk p.1 = blk i → p.1 = i) : ndP (blk i) (rawP blk l) = rawP blk (forgetL l i) := by
  induction l with
  | nil => rfl
  | cons p l ih =>
    have ih' := ih (fun q hq => h q (List.mem_cons_of_mem _ hq))
    have hp := h p List.mem_cons_self
    have hc : ndP (blk i) (rawP blk (p :: l)) = (if blk p.1 = blk i then ndP (blk i) (rawP blk l) else (blk p.1, p.2) :: ndP (blk i) (rawP blk l)) := by
      show ndP (blk i) ((blk p.1, p.2) :: rawP blk l) = _
      unfold ndP
      by_cases e : blk p.1 = blk i
      · rw [if_pos e, List.filter_cons_of_neg (by simp [isP, e])]
      · rw [if_neg e, List.filter_cons_of_pos (by simp [isP, e])]
    have hf : forgetL (p :: l) i = if p.1 = i then forgetL l i else p :: forgetL l i := by
      unfold forgetL
      by_cases e : p.1 = i
      · rw [List.filter_cons_of_neg (by simpa using e), if_pos e]
      · rw [List.filter_cons_of_pos (by simpa using e), if_neg e]
    rw [hc, hf, ih']
    by_cases e : p.1 = i
    · rw [if_pos e, if_pos (by rw [e])]
    · rw [if_neg e, if_neg (fun q => e (hp q))]; rfl
set_option maxRecDepth 100000 in
theorem forget_at (h : DiskIn own w g A m n uo uc blk bv) (hw : A.wf) (hN : A.pcs.length ≤ 1000000) {x : Fl} (hx : x ∈ A.L) :
    Calls Try.prog 49 #[.pointer (some ⟨g, 0, none⟩), .pointer (some ⟨blk x.id, 0, none⟩)] w fun e w' => e = .returned (.tuple #[]) ∧ (∃ uo' uc', DiskIn (grow own w) w' g (A.forget x.id) m n uo' uc' blk bv) ∧ Only own w w' := by
  obtain ⟨bx, HBX⟩ : ∃ bx, Hid (bx = w.heap.size) := ⟨_, rfl⟩
  have hd1 := h.grown (bel_alloc w (.cells #[.pointer (some ⟨blk x.id, 0, none⟩)] 74))
  have c3 : (w.alloc (.cells #[.pointer (some ⟨blk x.id, 0, none⟩)] 74)).cell? ⟨g, 3, none⟩ = some (.slice uo A.pcs.length uc) := hd1.c3
  have f3 := fz_of hd1.cells 3
  have hbc : (w.alloc (.cells #[.pointer (some ⟨blk x.id, 0, none⟩)] 74)).cell? ⟨w.heap.size, 0, none⟩ = some (.pointer (some ⟨blk x.id, 0, none⟩)) := cell_one_new w _ 74 0 _ rfl
  have HD1 : Hid (DiskIn own (w.alloc (.cells #[.pointer (some ⟨blk x.id, 0, none⟩)] 74)) g A m n uo uc blk bv) := hd1
  have HX : Hid (x ∈ A.L) := hx
  have HW : Hid A.wf := hw
  rcases hd1.pcs.2 with ⟨e, e0⟩ | ⟨pb, cap, cur, e, rest⟩
  · have hp0 : A.pcs = [] := List.length_eq_zero_iff.1 e0
    have euo : uo = none := by injection e
    have euc : uc = 0 := by injection e
    subst euo euc
    rw [hp0] at c3
    simp only [List.length_nil] at c3
    have HP0 : Hid (A.pcs = []) := hp0
    clear hd1 hx hw hN e e0 hp0 hbc h
    go_enter Try.func49, Try.ntmps49
    go_wp2_with fail
    refine (deleteP_nil _ _).mono ?_
    rintro e w2 ⟨rfl, rfl⟩
    go_wp2_with fail
    go_end0
    refine ⟨rfl, ⟨none, 0, ?_⟩, ?_⟩
    · have h5 := HD1.out.pcsTurn (own' := grow own w) (w' := (w.alloc (.cells #[.pointer (some ⟨blk x.id, 0, none⟩)] 74)).setCell ⟨g, 3, none⟩ (.slice none 0 0)) (ps := []) (uo' := none) (uc' := 0) (fun _ e => .inl e) (fun k _ _ hk _ => heap_set_ne _ _ _ hk) ⟨rfl, .inl ⟨rfl, rfl⟩⟩ (fun k hk => by cases hk) (by rw [heap_set HD1.out.cells]; rfl)
      have e1 : A.forget x.id = ⟨A.cap, A.L, [], A.down, A.left, A.keep, A.next⟩ := by unfold Dk.forget; rw [HP0.out]; rfl
      rw [e1]
      exact h5
    · exact ((Only.refl own w).alloc _).setCell (.inl HD1.out.og) _
  · have euo : uo = some ⟨pb, 0, none⟩ := by injection e
    subst euo
    have hne : ∀ y ∈ A.L, blk y.id ≠ pb := fun y hy q => (hd1.pg (k := pb) rfl).2.2.1 y hy q.symm
    have hbk : ∀ y ∈ A.L, Bk (w.alloc (.cells #[.pointer (some ⟨blk x.id, 0, none⟩)] 74)) (blk y.id) := fun y hy => ⟨_, _, (hd1.file y hy).2.1⟩
    have hpl : pb < w.heap.size := (h.pcs.lt pb rfl).2
    have HDL : Hid _ := deleteP_any pb A.pcs.length uc w.heap.size (blk x.id) (rawP blk A.pcs) (w.alloc (.cells #[.pointer (some ⟨blk x.id, 0, none⟩)] 74)) (by rw [rawP_cells]; exact hd1.pcs) hbc (by omega) (fun p hp => by
      obtain ⟨q, hq, rfl⟩ := List.mem_map.1 hp
      obtain ⟨y, hy, e⟩ := hw.live q hq
      simp only
      rw [← e]
      exact ⟨hbk y hy, hne y hy⟩) ⟨hbk x hx, hne x hx⟩ hN
    have HND : Hid (ndP (blk x.id) (rawP blk A.pcs) = rawP blk (forgetL A.pcs x.id)) := raw_nd (fun p hp e => by
      obtain ⟨y, hy, e'⟩ := hw.live p hp
      rw [← e'] at e ⊢
      exact h.inj hw hx hy e)
    clear hd1 hx hw hN e rest hbc h hne hbk hpl
    go_enter Try.func49, Try.ntmps49
    go_wp2_with fail
    refine Calls.mono HDL.out ?_
    rintro e w2 ⟨k2, rfl, ho2, hO2⟩
    have hgp : g ≠ pb := fun e => (HD1.out.pg (k := pb) rfl).1 e.symm
    have hcl : w2.heap[g]? = some (.cells (dskC (A.cap : Int) (usedL A.L : Int) m (some ⟨pb, 0, none⟩) A.pcs.length uc A.down A.left A.keep) 69 (0, 0)) := by
      rw [hO2.block g HD1.out.lt hgp]; exact HD1.out.cells
    have d3 : w2.cell? ⟨g, 3, none⟩ = some (.slice (some ⟨pb, 0, none⟩) A.pcs.length uc) := by rw [cell_of_row _ _ _ _ _ _ hcl]; rfl
    have g3 := fz_of hcl 3
    rw [HND.out, rawP_cells] at ho2
    have hk2 : (forgetL A.pcs x.id).length = k2 := by have := ho2.1; rw [pcC_len] at this; omega
    subst hk2
    have HCL : Hid _ := hcl
    have HO2 : Hid (w2.ownsRow 0 79 2 (.slice (some ⟨pb, 0, none⟩) (forgetL A.pcs x.id).length uc) (forgetL A.pcs x.id).length (pcC blk (forgetL A.pcs x.id))) := ho2
    have HON : Hid (Only (oneB pb) (w.alloc (.cells #[.pointer (some ⟨blk x.id, 0, none⟩)] 74)) w2) := hO2
    have HGP : Hid (g ≠ pb) := hgp
    clear c3 f3 hcl ho2 hO2 hgp
    go_wp2_with fail
    go_end0
    refine ⟨rfl, ⟨some ⟨pb, 0, none⟩, uc, ?_⟩, ?_⟩
    · refine HD1.out.pcsTurn (own' := grow own w) (fun _ e => .inl e) (fun k hk _ k1 k2 => ?_) ?_ (fun k hk => .inl (HD1.out.pown k hk)) (by rw [heap_set HCL.out]; rfl)
      · rw [heap_set_ne _ _ _ k1]
        exact HON.out.block k hk (fun e => k2 (by rw [e]; rfl))
      · exact row_block HO2.out (fun k hk => heap_set_ne _ _ _ (by cases hk; exact fun e => HGP.out e.symm))
    · exact (((Only.refl own w).alloc _).trans HON.out (fun i e => .inl (by rw [e]; exact HD1.out.pown pb rfl))).setCell (.inl HD1.out.og) _
set_option maxRecDepth 100000 in
theorem sync_at {N : Nat} (h : DiskAt own w g A N) (hN : N < 1000000) (s : ByteArray) (hs : s.size ≤ maxLen) :
    Calls Try.prog 25 #[.pointer (some ⟨g, 0, none⟩), .string s] w fun e w' => e = .returned (.int .i64 (A.sync s).1) ∧ DiskAt (grow own w) w' g (A.sync s).2 (N + 1) ∧ Only own w w' := by
  have HW : Hid _ := open_at (h.now.grown (bel_alloc w (nameB s))) (Nat.le_of_lt hN) 1 1 w.heap.size 0 s [] hs (fun j t ht => by cases j with | zero => (cases ht; exact cell_one_new w _ 9 0 _ rfl) | succ j => (simp at ht)) rfl (by decide) (fun e => absurd e.2 (Nat.lt_irrefl _)) (by simp)
  have HGR : Hid (∀ k, grow (here own w) (w.alloc (nameB s)) k → grow own w k) := fun k e => by
    rcases e with e | e
    · exact .inl e.1
    · refine .inr ?_; simp at e; omega
  have HN : Hid (N < 1000000) := hN
  have HWF : Hid (A.sync s).2.wf := h.1.sync s
  clear h hs hN
  go_enter Try.func25, Try.ntmps25
  go_wp2_with fail
  refine Calls.mono HW.out ?_
  rintro e w2 ⟨ho, hwf, hpl, m, n, uo, uc, blk, bv, hnN, hd, hcase⟩
  have HD : Hid (DiskIn (grow own w) w2 g A.pre m n uo uc blk bv) := hd.mono (fun k _ e => HGR.out k e)
  have HO2 : Hid (Only own w w2) := ((Only.refl own w).alloc _).trans ho (fun _ e => .inl e.1)
  have HR : Hid (A.pre.wf ∧ A.pre.pcs.length ≤ N ∧ n ≤ N) := ⟨hwf, hpl, hnN⟩
  clear ho hwf hpl hnN hd HW
  rcases hcase with ⟨h0, rfl⟩ | ⟨h0, hf, rfl⟩ | ⟨h0, x, hf, rfl⟩
  · have HC : Hid (A.sync s = (chk A.pre.down [s], A.pre)) := by show _ = _; unfold Dk.sync; rw [if_pos h0]
    obtain ⟨z, HZ⟩ : ∃ z, Hid (chk A.pre.down [s] = z) := ⟨_, rfl⟩
    rw [HZ.out] at h0 HC ⊢
    go_wp2_with fail
    go_ret
    rw [HC.out]
    exact ⟨rfl, ⟨HR.out.1, Nat.le_succ_of_le HR.out.2.1, m, n, uo, uc, blk, bv, Nat.le_succ_of_le HR.out.2.2, HD.out⟩, HO2.out⟩
  · have HC : Hid (A.sync s = (5, A.pre)) := by show _ = _; unfold Dk.sync; rw [if_neg (fun e => e h0), hf]
    clear h0 hf
    go_wp2_with fail
    go_ret
    rw [HC.out]
    exact ⟨rfl, ⟨HR.out.1, Nat.le_succ_of_le HR.out.2.1, m, n, uo, uc, blk, bv, Nat.le_succ_of_le HR.out.2.2, HD.out⟩, HO2.out⟩
  · have HC : Hid (A.sync s = (0, A.pre.forget x.id)) := by show _ = _; unfold Dk.sync; rw [if_neg (fun e => e h0), hf]
    have HF : Hid _ := forget_at HD.out HR.out.1 (Nat.le_trans HR.out.2.1 (Nat.le_of_lt HN.out)) (findL_some hf).1
    clear h0 hf
    go_wp2_with fail
    refine Calls.mono HF.out ?_
    rintro e w3 ⟨rfl, ⟨uo3, uc3, hd3⟩, ho3⟩
    have HD3 : Hid (DiskIn (grow (grow own w) w2) w3 g (A.pre.forget x.id) m n uo3 uc3 blk bv) := hd3
    have HO3 : Hid (Only own w w3) := HO2.out.trans ho3 (fun _ e => e)
    clear hd3 ho3
    go_wp2_with fail
    go_ret
    rw [HC.out] at HWF ⊢
    refine ⟨rfl, ⟨HWF.out, ?_, m, n, uo3, uc3, blk, bv, Nat.le_succ_of_le HR.out.2.2, HD3.out.mono (fun k _ e => ?_)⟩, HO3.out⟩
    · exact Nat.le_succ_of_le (Nat.le_trans (List.length_filter_le _ _) HR.out.2.1)
    · rcases e with e | e
      · exact e
      · exact .inr (Nat.le_trans HO2.out.size e)
end
end Go.Proofs.Ytomeghngjiaofaa

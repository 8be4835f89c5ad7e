/-
  disk's open and Create.
-/
import Derived.Test.YtomeghngjiaofaaDkW
namespace Go.Proofs.Ytomeghngjiaofaa
open Go.RowKit
section
variable {own : Nat → Prop} {w : World} {g : Nat} {A : Dk} {m n : Nat} {uo : Option Addr} {uc : Nat} {blk : Nat → Nat} {bv : Nat → Value}
/-- What open hands on. -/
def Opened (own : Nat → Prop) (w : World) (g : Nat) (A : Dk) (N : Nat) (s : ByteArray) (ts : List ByteArray) (e : Ending) (w' : World) : Prop :=
  Only own w w' ∧ A.pre.wf ∧ A.pre.pcs.length ≤ N ∧ ∃ m n uo uc blk bv, n ≤ N ∧ DiskIn (grow own w) w' g A.pre m n uo uc blk bv ∧
    ((chk A.pre.down (s :: ts) ≠ 0 ∧ e = .returned (.tuple #[.pointer none, .int .i64 (chk A.pre.down (s :: ts))])) ∨
     (chk A.pre.down (s :: ts) = 0 ∧ findL A.pre.L s = none ∧ e = .returned (.tuple #[.pointer none, .int .i64 5])) ∨
     (chk A.pre.down (s :: ts) = 0 ∧ ∃ x, findL A.pre.L s = some x ∧ e = .returned (.tuple #[.pointer (some ⟨blk x.id, 0, none⟩), .int .i64 0])))
set_option maxRecDepth 100000 in
theorem open_at {N : Nat} (h : DiskAt own w g A N) (hN : N ≤ 1000000) (k c b off : Nat) (s : ByteArray) (ts : List ByteArray) (hs : s.size ≤ maxLen) (ht : ∀ j t, (s :: ts)[j]? = some t → w.cell? ⟨b, off + j, none⟩ = some (.string t)) (hn : (s :: ts).length = k) (hsm : k ≤ 1000) (hb : ¬ own b) (hbl : b < w.heap.size) :
    Calls Try.prog 48 #[.pointer (some ⟨g, 0, none⟩), .slice (some ⟨b, off, none⟩) k c] w fun e w' => Opened own w g A N s ts e w' := by
  have HW : Hid _ := write_at h hN (some ⟨b, off, none⟩) k c b off (s :: ts) ht hn (fun _ => rfl) hsm hb hbl
  have hc : w.cell? ⟨b, off, none⟩ = some (.string s) := ht 0 s rfl
  have h0n : (0 : Int) < (k : Int) := by rw [← hn, List.length_cons]; omega
  have HB : Hid (¬ own b ∧ b < w.heap.size) := ⟨hb, hbl⟩
  have HS : Hid (s.size ≤ maxLen) := hs
  have HC : Hid (w.cell? ⟨b, off, none⟩ = some (.string s)) := hc
  obtain ⟨z, HZ⟩ : ∃ z, Hid (chk A.pre.down (s :: ts) = z) := ⟨_, rfl⟩
  rw [HZ.out] at HW
  clear h hN ht hn hsm hb hbl hs hc
  go_enter Try.func48, Try.ntmps48
  go_wp2_with fail
  refine Calls.mono HW.out ?_
  rintro e w2 ⟨rfl, ⟨hwf, hpl, m, n, uo, uc, blk, bv, hnN, hd⟩, ho⟩
  have HD : Hid (DiskIn (grow own w) w2 g A.pre m n uo uc blk bv) := hd
  have HO : Hid (Only own w w2 ∧ A.pre.wf ∧ A.pre.pcs.length ≤ N ∧ n ≤ N) := ⟨ho, hwf, hpl, hnN⟩
  have hc2 : w2.cell? ⟨b, off, none⟩ = some (.string s) := (World.cell?_of_block (a := ⟨b, off, none⟩) (ho.block b HB.out.2 HB.out.1)).trans HC.out
  have hlk := fun kk => (hd.files.drewN kk).look HS.out
  have hf := hd.c2
  clear hwf hpl hnN ho hd HW
  by_cases h0 : z = 0
  · subst h0
    cases hfs : findL A.pre.L s with
    | some x =>
      rw [hfs] at hlk
      simp only [Option.map_some, ptrV] at hlk
      go_wp2_with fail
      go_quiet (fail)
      clear hlk hc2 hf h0n
      go_wp2_with fail
      go_ret2
      exact ⟨HO.out.1.drewN nq, HO.out.2.1, HO.out.2.2.1, m, n, uo, uc, blk, bv, HO.out.2.2.2, HD.out.keep (fun _ _ _ => by rw [heap_drewN]), .inr (.inr ⟨HZ.out, x, hfs, rfl⟩)⟩
    | none =>
      rw [hfs] at hlk
      simp only [Option.map_none, ptrV] at hlk
      go_wp2_with fail
      go_quiet (fail)
      clear hlk hc2 hf h0n
      go_wp2_with fail
      go_ret2
      exact ⟨HO.out.1.drewN nq, HO.out.2.1, HO.out.2.2.1, m, n, uo, uc, blk, bv, HO.out.2.2.2, HD.out.keep (fun _ _ _ => by rw [heap_drewN]), .inr (.inl ⟨HZ.out, hfs, rfl⟩)⟩
  · clear hlk hc2 hf h0n
    go_wp2_with fail
    go_ret2
    refine ⟨HO.out.1, HO.out.2.1, HO.out.2.2.1, m, n, uo, uc, blk, bv, HO.out.2.2.2, HD.out, .inl ⟨by rw [HZ.out]; exact h0, by rw [HZ.out]; rfl⟩⟩
theorem findL_snoc (L : List Fl) (x : Fl) (t : ByteArray) : findL (L ++ [x]) t = (findL L t).or (if x.nm = t then some x else none) := by
  unfold findL
  rw [List.find?_append]
  congr 1
  by_cases h : x.nm = t
  · rw [if_pos h, List.find?_cons_of_pos (by simpa using h)]
  · rw [if_neg h, List.find?_cons_of_neg (by simpa using h)]; rfl
theorem pcC_congr {blk blk' : Nat → Nat} {l : List (Nat × Nat)} (h : ∀ p ∈ l, blk' p.1 = blk p.1) : pcC blk' l = pcC blk l := by
  induction l with
  | nil => rfl
  | cons p l ih => rw [pcC_cons, pcC_cons, h p (List.mem_cons_self), ih (fun q hq => h q (List.mem_cons_of_mem _ hq))]
theorem DiskIn.created (h : DiskIn own w g A m n uo uc blk bv) (hw : A.wf) {s : ByteArray} (hf : findL A.L s = none) {w' : World} (hF : FilesAt w' m (n + 1) (fun t => if t = s then some w.heap.size else (findL A.L t).map fun x => blk x.id)) (hg : (w.alloc (fileB s)).grownBy w' (some m)) :
    DiskIn (grow own w) w' g ⟨A.cap, A.L ++ [⟨A.next, s, []⟩], A.pcs, A.down, A.left, A.keep, A.next + 1⟩ m (n + 1) uo uc (fun i => if i = A.next then w.heap.size else blk i) (fun i => if i = A.next then .slice none 0 0 else bv i) := by
  have hb : ∀ k, k < w.heap.size → k ≠ m → w'.heap[k]? = w.heap[k]? := fun k hk hm => by
    rw [hg.block k (by simp; omega) (by simpa using hm), Below.heap_alloc _ _ _ hk]
  have hlt : ∀ x ∈ A.L, x.id ≠ A.next := fun x hx e => by have := hw.lt x hx; omega
  have hpc : pcC (fun i => if i = A.next then w.heap.size else blk i) A.pcs = pcC blk A.pcs := pcC_congr (fun p hp => by
    obtain ⟨x, hx, e⟩ := hw.live p hp
    exact if_neg (e ▸ hlt x hx))
  have hus : usedL (A.L ++ [⟨A.next, s, []⟩]) = usedL A.L := by simp [usedL]
  refine ⟨.inl h.og, .inl h.om, ?_, hF.same (fun t => ?_), ?_, fun k hk => .inl (h.pown k hk), ?_, ?_⟩
  · rw [hb g h.lt h.gm]
    show _ = some (Obj.cells (dskC _ ((usedL (A.L ++ [⟨A.next, s, []⟩]) : Nat) : Int) _ _ _ _ _ _ _) 69 (0, 0))
    rw [hus]; exact h.cells
  · show (findL (A.L ++ [⟨A.next, s, []⟩]) t).map _ = _
    rw [findL_snoc]
    by_cases e : t = s
    · subst e
      rw [hf, if_pos rfl, if_pos rfl]
      simp
    · rw [if_neg e, if_neg (fun q => e q.symm), Option.or_none]
      cases hx : findL A.L t with
      | none => rfl
      | some x =>
        show some (if x.id = A.next then w.heap.size else blk x.id) = some (blk x.id)
        rw [if_neg (hlt x (findL_some hx).1)]
  · show w'.ownsRow 0 79 2 _ _ (pcC _ A.pcs)
    rw [hpc]
    exact row_block h.pcs (fun k hk => hb k (h.pcs.lt k hk).2 (h.pg hk).2.1)
  · intro x hx
    rcases List.mem_append.1 hx with hx | hx
    · obtain ⟨a, b, c, d⟩ := h.file x hx
      simp only [if_neg (hlt x hx)]
      exact ⟨.inl a, by rw [hb _ (heap_lt b) (h.fg hx).2.1]; exact b, row_block c (fun k hk => hb k (c.lt k hk).2 (h.bg hx hk).2.1), fun k hk => .inl (d k hk)⟩
    · rw [List.mem_singleton.1 hx]
      simp only [if_true]
      refine ⟨.inr (Nat.le_refl _), ?_, ⟨rfl, .inl ⟨rfl, rfl⟩⟩, fun k hk => by cases hk⟩
      rw [hg.block _ (by simp) (by have := h.files.lt; simp; omega), heap_alloc_new]
      rfl
  · intro x hx y hy k h1 h2
    rcases List.mem_append.1 hx with hx | hx
    · rcases List.mem_append.1 hy with hy | hy
      · simp only [if_neg (hlt x hx)] at h1
        simp only [if_neg (hlt y hy)] at h2
        exact h.apart x hx y hy k h1 h2
      · rw [List.mem_singleton.1 hy] at h2
        simp only [if_true] at h2
        cases h2
    · rw [List.mem_singleton.1 hx] at h1
      simp only [if_true] at h1
      cases h1
set_option maxRecDepth 100000 in
theorem create_at {N : Nat} (h : DiskAt own w g A N) (hN : N < 1000000) (s : ByteArray) (hs : s.size ≤ maxLen) :
    Calls Try.prog 23 #[.pointer (some ⟨g, 0, none⟩), .string s] w fun e w' => e = .returned (.int .i64 (A.create s).1) ∧ DiskAt (grow own w) w' g (A.create s).2 (N + 1) ∧ Only own w w' := by
  have HW : Hid _ := write_at (h.now.grown (bel_alloc w (nameB s))) (Nat.le_of_lt hN) (some ⟨w.heap.size, 0, none⟩) 1 1 w.heap.size 0 [s] (fun j t ht => by cases j with | zero => (cases ht; exact cell_one_new w _ 9 0 _ rfl) | succ j => (simp at ht)) rfl (fun _ => rfl) (by decide) (fun e => absurd e.2 (Nat.lt_irrefl _)) (by simp)
  have hgr : ∀ k, grow (here own w) (w.alloc (nameB s)) k → grow own w k := fun k e => by
    rcases e with e | e
    · exact .inl e.1
    · refine .inr ?_; simp at e; omega
  have HGR : Hid (∀ k, grow (here own w) (w.alloc (nameB s)) k → grow own w k) := hgr
  have HS : Hid (s.size ≤ maxLen) := hs
  have HN : Hid (N < 1000000) := hN
  have HWF : Hid (A.create s).2.wf := h.1.create s
  obtain ⟨z, HZ⟩ : ∃ z, Hid (chk A.pre.down [s] = z) := ⟨_, rfl⟩
  rw [HZ.out] at HW
  clear h hs hN hgr
  go_enter Try.func23, Try.ntmps23
  go_wp2_with fail
  refine Calls.mono HW.out ?_
  rintro e w2 ⟨rfl, ⟨hwf, hpl, m, n, uo, uc, blk, bv, hnN, hd⟩, ho⟩
  have hd' := hd.mono (fun k _ e => HGR.out k e)
  have HD : Hid (DiskIn (grow own w) w2 g A.pre m n uo uc blk bv) := hd'
  have HO2 : Hid (Only own w w2) := ((Only.refl own w).alloc _).trans ho (fun _ e => .inl e.1)
  have HR : Hid (A.pre.wf ∧ A.pre.pcs.length ≤ N ∧ n ≤ N) := ⟨hwf, hpl, hnN⟩
  have hf1 := hd.c2
  have hlk := hd.files.look HS.out
  have hF2 : FilesAt (w2.alloc (fileB s)) m n (fun t => (findL A.pre.L t).map fun x => blk x.id) := hd.files.kept (World.grownBy_alloc _ _ none) (by simp)
  have hsz : w.heap.size ≤ w2.heap.size := HO2.out.size
  obtain ⟨w9, hup, hF9, ht9⟩ := hF2.put (by have := HN.out; unfold maxLen; omega) HS.out (some w2.heap.size)
  have HF9 : Hid _ := hF9
  have HT9 : Hid ((w2.alloc (fileB s)).grownBy w9 (some m)) := World.mapTurned.grown ht9
  have HSZ : Hid (w.heap.size ≤ w2.heap.size) := hsz
  simp only [ptrV] at hup
  clear hwf hpl hnN hd hd' ho HW hF2 hF9 ht9 hsz
  by_cases h0 : z = 0
  · subst h0
    have hz0 : ¬ chk A.pre.down [s] ≠ 0 := fun e => e HZ.out
    cases hfs : findL A.pre.L s with
    | some x =>
      have HC : Hid (A.create s = (7, A.pre)) := by show _ = _; unfold Dk.create; rw [if_neg hz0, hfs]; rfl
      rw [hfs] at hlk
      simp only [Option.map_some, ptrV] at hlk
      clear hz0
      go_wp2_with fail
      go_ret
      rw [HC.out]
      exact ⟨rfl, ⟨HR.out.1, Nat.le_succ_of_le HR.out.2.1, m, n, uo, uc, blk, bv, Nat.le_succ_of_le HR.out.2.2, HD.out⟩, HO2.out⟩
    | none =>
      have HC : Hid (A.create s = (0, ⟨A.pre.cap, A.pre.L ++ [⟨A.pre.next, s, []⟩], A.pre.pcs, A.pre.down, A.pre.left, A.pre.keep, A.pre.next + 1⟩)) := by show _ = _; unfold Dk.create; rw [if_neg hz0, hfs]; rfl
      have HFS : Hid (findL A.pre.L s = none) := hfs
      rw [hfs] at hlk
      simp only [Option.map_none, ptrV] at hlk
      clear hz0 hfs
      go_wp2_with fail
      go_ret
      rw [HC.out] at HWF ⊢
      refine ⟨rfl, ⟨HWF.out, Nat.le_succ_of_le HR.out.2.1, m, n + 1, uo, uc, _, _, Nat.succ_le_succ HR.out.2.2, (HD.out.created HR.out.1 HFS.out HF9.out HT9.out).mono (fun k _ e => ?_)⟩, ?_⟩
      · rcases e with e | e
        · exact e
        · exact .inr (Nat.le_trans HSZ.out e)
      · exact (HO2.out.alloc _).grown HT9.out (fun k hk => by cases hk; exact HD.out.om)
  · clear hup hlk HF9 HT9 hf1
    have HC : Hid (A.create s = (z, A.pre)) := by show _ = _; unfold Dk.create; rw [if_pos (by rw [HZ.out]; exact h0), HZ.out]
    go_wp2_with fail
    go_ret
    rw [HC.out]
    exact ⟨by rfl, ⟨HR.out.1, Nat.le_succ_of_le HR.out.2.1, m, n, uo, uc, blk, bv, Nat.le_succ_of_le HR.out.2.2, HD.out⟩, HO2.out⟩
end
end Go.Proofs.Ytomeghngjiaofaa

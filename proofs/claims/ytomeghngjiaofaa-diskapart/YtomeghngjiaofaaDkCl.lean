/-
  disk's Clone.
-/
import Derived.Test.YtomeghngjiaofaaDkZ
import Derived.Deep.CutBlock
import Derived.Deep.DeepCutAuto
import Derived.Deep.RegionHeld3
import Derived.Deep.RegionHeldLaw
namespace Go.Proofs.Ytomeghngjiaofaa
open Go.RowKit Go.Maps Go.Sort Go.WideMaps
theorem mk_hint (n : Nat) (w : World) : (Instr.makeMap 66 (some (.int .i64 (n : Int)))).run Try.prog w = .ok (.map (some w.heap.size)) (w.alloc (.map #[] 0)) := by
  simp [Instr.makeMap, asInt, asIntOf]
theorem ptr_inv {v : Value} {y : DataW Unit × List MemPlace} (h : ptrElem v = some y) : ∃ c : Option Nat, v = ptrV c := by
  unfold ptrElem at h
  split at h
  · exact ⟨none, rfl⟩
  · rename_i g
    exact ⟨some g, rfl⟩
  · cases h
theorem good_small {s : ByteArray} (h : badName s = false) : s.size ≤ maxLen := by
  unfold badName at h
  simp only [Bool.or_eq_false_iff, decide_eq_false_iff_not] at h
  unfold maxLen
  omega
theorem ptrCode_inj {a b : Option Nat} (h : ptrCode a = ptrCode b) : a = b := by
  cases a <;> cases b <;> simp [ptrCode] at h ⊢ <;> omega
structure CI (B : Nat) (w : World) (gc m m2 n r : Nat) (D : DataW Unit) (A : Dk) (uo : Option Addr) (uc : Nat) (left : Lit → Bool) (cnt i : Nat) (blk : Nat → Nat) (bv : Nat → Value) (wr : World) : Prop where
  rng : wr.ranges Try.prog 9 ptrElem m r n D left cnt
  has : ∀ kl, left kl = true → has D kl = true
  cl : CloneIn B wr m2 i (goneL A.L left) blk bv
  st : wr.heap[gc]? = some (.cells (dskC (A.cap : Int) (usedL A.L : Int) m2 uo A.pcs.length uc A.down A.left A.keep) 69 (0, 0))
  bel : Below B w wr
  ne : m2 ≠ m ∧ m2 ≠ r ∧ B ≤ m2
  cnt : i + cnt ≤ n
theorem clone_round {B : Nat} {w wr w1 w9 w11 : World} {gc m m2 n r : Nat} {D : DataW Unit} {A : Dk} {uo : Option Addr} {uc : Nat} {left : Lit → Bool} {cnt cnt1 i : Nat} {blk : Nat → Nat} {bv : Nat → Value} {xf : Fl} {v : Value}
    (h : CI B w gc m m2 n r D A uo uc left cnt i blk bv wr) (hc : CloneIn B w1 m2 i (goneL A.L left) blk bv) (hw : A.wf) (hr1 : w1.ranges Try.prog 9 ptrElem m r n D (fun z => left z && !z.sameKey (.string (bytesN xf.nm))) cnt1) (hlt : cnt1 < cnt) (hb1 : Below B w w1) (hl : left (.string (bytesN xf.nm)) = true) (hx : xf ∈ A.L)
    (hst : w1.heap[gc]? = some (.cells (dskC (A.cap : Int) (usedL A.L : Int) m2 uo A.pcs.length uc A.down A.left A.keep) 69 (0, 0))) (ho : w9.ownsRow w1.heap.size 5 1 v xf.body.length (cellsOf xf.body)) (hb : Below w1.heap.size w1 w9)
    (hF : FilesAt w11 m2 (i + 1) (fun t => if t = xf.nm then some w9.heap.size else (findL (goneL A.L left) t).map fun x => blk x.id)) (ht : (w9.alloc (.cells #[.string xf.nm, v] 77)).mapTurned w11 m2) (hBl : B ≤ w1.heap.size) :
    CI B w gc m m2 n r D A uo uc (fun z => left z && !z.sameKey (.string (bytesN xf.nm))) cnt1 (i + 1) (fun j => if j = xf.id then w9.heap.size else blk j) (fun j => if j = xf.id then v else bv j) w11 := by
  have hg9 := World.mapTurned.grown ht
  have hga := World.grownBy_alloc w9 (.cells #[.string xf.nm, v] 77) none
  have hsz := hb.size
  have hm2 := hc.files.lt
  have hbk : ∀ k, k < w1.heap.size → k ≠ m2 → w11.heap[k]? = w1.heap[k]? := fun k hk hm => by
    rw [hg9.block k (by simp; omega) (by simpa using hm), Below.heap_alloc _ _ _ (by omega), hb.block k hk]
  have hgr : w1.grownBy w11 (some m2) := ⟨(hg9.os.trans hga.os).trans hb.os, (hg9.tape.trans hga.tape).trans hb.tape, (hg9.output.trans hga.output).trans hb.output, by have := hg9.size; have := hga.size; omega, fun k hk e => hbk k hk (fun e' => e (by rw [e']))⟩
  have hne := h.ne
  refine ⟨hr1.kept hgr (fun e => hne.1 (Option.some.inj e).symm) (fun e => hne.2.1 (Option.some.inj e).symm), fun kl e => h.has kl (by simp at e; exact e.1), hc.add hw.ids hw.nms hx hl hBl hsz hbk ?_ ?_ hF, ?_, hb1.grown hgr hBl (fun k e => by cases e; exact hne.2.2), hne, by have := h.cnt; omega⟩
  · rw [hg9.block w9.heap.size (by simp) (by simp; omega), heap_alloc_new]; rfl
  · refine row_block (v := v) (w := w9) ho (fun k hk => ?_)
    have h1 := ho.lt k hk
    rw [hg9.block k (by simp; omega) (by simp; omega), Below.heap_alloc _ _ _ h1.2]
  · rw [hbk gc (heap_lt hst) (ne_map hst hc.files.heap.choose_spec.choose_spec)]; exact hst
theorem clone_piece {w Wq w8 : World} {gc m2 i pb8 pcap pc j pn xi : Nat} {A : Dk} {po : Option Addr} {blk : Nat → Nat} {bv : Nat → Value}
    (h : DiskIn (fun k => gc ≤ k) Wq gc ⟨A.cap, A.L, A.pcs.take j, A.down, A.left, A.keep, A.next⟩ m2 i po pc blk bv) (hpg : ∀ k, (Value.slice po (A.pcs.take j).length pc).ownBlock = some k → k ≠ gc) (hlj : (A.pcs.take j).length = j) (htk : A.pcs.take (j + 1) = A.pcs.take j ++ [(xi, pn)]) (hb : Below gc w Wq)
    (hr8 : w8.ownsRow 0 79 2 (.slice (some ⟨pb8, 0, none⟩) (j + 1) pcap) (j + 1) (pcC blk (A.pcs.take j) ++ [.pointer (some ⟨blk xi, 0, none⟩), .int .i64 (pn : Int)])) (hg8 : Wq.grownBy w8 (Value.slice po (A.pcs.take j).length pc).ownBlock) (hl8 : (Value.slice po (A.pcs.take j).length pc).ownBlock = some pb8 ∨ pb8 = Wq.heap.size) :
    DiskIn (fun k => gc ≤ k) (w8.setCell ⟨gc, 3, none⟩ (.slice (some ⟨pb8, 0, none⟩) (j + 1) pcap)) gc ⟨A.cap, A.L, A.pcs.take (j + 1), A.down, A.left, A.keep, A.next⟩ m2 i (some ⟨pb8, 0, none⟩) pcap blk bv ∧ Below gc w (w8.setCell ⟨gc, 3, none⟩ (.slice (some ⟨pb8, 0, none⟩) (j + 1) pcap)) := by
  have hgl := h.lt
  have hpbg : pb8 ≠ gc := by
    rcases hl8 with e | e
    · exact hpg pb8 e
    · omega
  have hcl : w8.heap[gc]? = some (.cells (dskC (A.cap : Int) (usedL A.L : Int) m2 po (A.pcs.take j).length pc A.down A.left A.keep) 69 (0, 0)) := by
    rw [hg8.block gc hgl (fun e => hpg gc e.symm rfl)]; exact h.cells
  have hl1 : (A.pcs.take (j + 1)).length = j + 1 := by rw [htk, List.length_append, hlj]; rfl
  refine ⟨?_, (hb.grown hg8 (Nat.le_of_lt hgl) (fun k e => h.pown k e)).setCell (p := ⟨gc, 3, none⟩) (Nat.le_refl _) _⟩
  refine h.pcsTurn (own' := fun k => gc ≤ k) (ps := A.pcs.take (j + 1)) (fun _ e => e) (fun k hk _ q1 q2 => ?_) ?_ (fun k hk => ?_) ?_
  · rw [heap_set_ne _ _ _ q1]
    exact hg8.block k hk (fun e => q2 e.symm)
  · rw [hl1, htk, pcC_append]
    exact row_block hr8 (fun k hk => heap_set_ne _ _ _ (by have e : pb8 = k := Option.some.inj hk; omega))
  · have e : pb8 = k := Option.some.inj hk
    subst e
    rcases hl8 with e | e
    · exact h.pown _ e
    · show gc ≤ pb8
      omega
  · rw [hl1, heap_set hcl]; rfl
section
variable {own : Nat → Prop} {w : World} {g : Nat} {A : Dk}
set_option maxRecDepth 100000 in
set_option maxHeartbeats 2000000 in
theorem clone_dk {N : Nat} (h : DiskAt own w g A N) (hN : N ≤ 1000000) (hbig : usedL A.L ≤ 140737488355328) :
    Calls Try.prog 15 #[.pointer (some ⟨g, 0, none⟩)] w fun e w' => ∃ g2, e = .returned (.pointer (some ⟨g2, 0, none⟩)) ∧ w.heap.size ≤ g2 ∧ DiskAt (fun k => w.heap.size ≤ k) w' g2 A N ∧ Below w.heap.size w w' := by
  obtain ⟨hwf, hpl, m, n, uo, uc, blk0, bv0, hnN, hin⟩ := h
  obtain ⟨D, hown, hD⟩ := hin.files
  have hsz := hown.size_le
  obtain ⟨sz, hsz2⟩ : ∃ s, Maps.size D = s := ⟨_, rfl⟩
  have HIN : Hid (DiskIn own w g A m n uo uc blk0 bv0) := hin
  have HWF : Hid A.wf := hwf
  have HNB : Hid (A.pcs.length ≤ N ∧ n ≤ N ∧ N ≤ 1000000 ∧ sz ≤ n) := ⟨hpl, hnN, hN, by omega⟩
  have c0 := hin.c0
  have c1 := hin.c1
  have c2 := hin.c2
  have c3 := hin.c3
  have c4 := hin.c4
  have c5 := hin.c5
  have c6 := hin.c6
  have hgl := hin.lt
  have HMD : Hid (w.ownsMap Try.prog 9 ptrElem m n D) := hown
  have HDD : Hid (∀ s : ByteArray, s.size ≤ maxLen → D.atKey (.string s.data.toList) (.lit (.int .i64 0)) = .lit (.int .i64 (ptrCode ((findL A.L s).map fun x => blk0 x.id))) ∧ has D (.string s.data.toList) = ((findL A.L s).map fun x => blk0 x.id).isSome) := hD
  obtain ⟨Wa, hWa⟩ : ∃ W, w.alloc (.cells (dskC (A.cap : Int) (usedL A.L : Int) m uo A.pcs.length uc A.down A.left A.keep) 69) = W := ⟨_, rfl⟩
  have hown1 : Wa.ownsMap Try.prog 9 ptrElem m n D := by rw [← hWa]; exact hown.kept (World.grownBy_alloc w _ none) (by simp)
  have hlen := fun ty => hown1.len Try.underlying66 ty
  rw [hsz2] at hlen
  have hmk := mk_hint sz Wa
  have hba : Below w.heap.size w Wa := by rw [← hWa]; exact bel_alloc _ _
  have hga : Wa.heap[w.heap.size]? = some (.cells (dskC (A.cap : Int) (usedL A.L : Int) m uo A.pcs.length uc A.down A.left A.keep) 69 (0, 0)) := by rw [← hWa]; exact heap_alloc_new w _
  have hsa : Wa.heap.size = w.heap.size + 1 := by rw [← hWa]; simp
  obtain ⟨gc, HGC⟩ : ∃ gc, Hid (w.heap.size = gc) := ⟨_, rfl⟩
  rw [HGC.out] at hga hsa
  obtain ⟨Wb, hWb⟩ : ∃ W, Wa.alloc (.map #[] 0) = W := ⟨_, rfl⟩
  rw [hWb] at hmk
  have hbb : Below Wa.heap.size Wa Wb := by rw [← hWb]; exact bel_alloc _ _
  have hgb : Wb.heap[gc]? = some (.cells (dskC (A.cap : Int) (usedL A.L : Int) m uo A.pcs.length uc A.down A.left A.keep) 69 (0, 0)) := by rw [hbb.block gc (by omega)]; exact hga
  have hne0 : ¬ g = gc := by have := HGC.out; omega
  have a2 : Wa.cell? ⟨g, 2, none⟩ = some (.map (some m)) := (hba.cell (p := ⟨g, 2, none⟩) hgl).trans c2
  have b2 : Wb.cell? ⟨gc, 2, none⟩ = some (.map (some m)) := by rw [cell_of_row _ _ _ _ _ _ hgb]; rfl
  have f2 := fz_of hgb 2
  obtain ⟨Wc, hWc⟩ : ∃ W, Wb.setCell ⟨gc, 2, none⟩ (.map (some Wa.heap.size)) = W := ⟨_, rfl⟩
  obtain ⟨m2, HM2⟩ : ∃ m2, Hid (Wa.heap.size = m2) := ⟨_, rfl⟩
  have HMN : Hid (m2 = gc + 1 ∧ m < gc ∧ g < gc) := by
    have h1 := HM2.out
    have h2 := HMD.out.lt
    have h3 := HGC.out
    exact ⟨by omega, by omega, by omega⟩
  have HSC : Hid (Wc.heap[gc]? = some (.cells (dskC (A.cap : Int) (usedL A.L : Int) m2 uo A.pcs.length uc A.down A.left A.keep) 69 (0, 0))) := by rw [← hWc, heap_set hgb, HM2.out]; rfl
  have HBC : Hid (Below gc w Wc ∧ Wc.heap.size = gc + 2) := by
    have h1 : Below gc w Wb := by rw [← HGC.out]; exact hba.trans (hbb.mono hba.size)
    refine ⟨by rw [← hWc]; exact h1.setCell (p := ⟨gc, 2, none⟩) (Nat.le_refl _) _, ?_⟩
    rw [← hWc, ← hWb]
    simp [World.setCell, hsa]
  have HFC : Hid (FilesAt Wc m2 0 (fun _ => none)) := by
    have h1 : FilesAt Wb m2 0 (fun _ => none) := by rw [← hWb, ← HM2.out]; exact FilesAt.made Wa
    refine h1.block ?_
    rw [← hWc]
    exact heap_set_ne _ _ _ (by have := HMN.out.1; omega)
  have HMC : Hid (Wc.ownsMap Try.prog 9 ptrElem m n D) := by
    obtain ⟨es, cl, q1, q2, q3, q4⟩ := HMD.out
    exact ⟨es, cl, by rw [HBC.out.1.block m HMN.out.2.1]; exact q1, q2, q3, q4⟩
  have d2 : Wc.cell? ⟨g, 2, none⟩ = some (.map (some m)) := (HBC.out.1.cell (p := ⟨g, 2, none⟩) HMN.out.2.2).trans c2
  rw [HM2.out] at hmk hWc
  simp only [dskC] at hWa
  clear hga hgb hba hbb hgl hWb HMD
  clear hwf hpl hnN hN hown hD hsz hsz2 hin hown1
  go_enter Try.func15, Try.ntmps15
  go_upto_region 2 with fail
  rw [HGC.out]
  go_upto_region 3 with fail
  obtain ⟨r, HR⟩ : ∃ r, Hid (Wc.heap.size = r) := ⟨_, rfl⟩
  have HRN : Hid (r = gc + 2) := by show _ = _; rw [← HR.out]; exact HBC.out.2
  go_wp2_with (first
    | (at_range; refine wpList_range_own _ rfl _ 66 rfl 9 74 (string_keyed Try.underlying9) Try.underlying66 ptrElem m n D rfl HMC.out ?_; intro w0 hrg0 hg0 hs0)
    | fail)
  go_frame
  rw [HR.out] at hrg0 hs0 ⊢
  have HI0 : Hid (CI gc w gc m m2 n r D A uo uc (Maps.has D) (Maps.size D) 0 blk0 bv0 w0) := by
    have hgo : goneL A.L (Maps.has D) = [] := by
      unfold goneL
      rw [List.filter_eq_nil_iff]
      intro x hx
      have h1 := (HDD.out x.nm (good_small (HWF.out.good x hx))).2
      rw [findL_of HWF.out.nms hx] at h1
      show ¬ (!has D (.string x.nm.data.toList)) = true
      rw [h1]
      simp
    have hlt := HMN.out
    have hr2 := HRN.out
    have hbs := HBC.out
    refine ⟨hrg0, fun _ h => h, ?_, ?_, ?_, ⟨by omega, by omega, by omega⟩, by have := HMC.out.size_le; omega⟩
    · rw [hgo]
      refine ⟨(HFC.out.kept hg0 (by simp)).same (fun t => rfl), fun x hx => (by cases hx), fun x hx => (by cases hx)⟩
    · rw [hg0.block gc (by omega) (by simp)]; exact HSC.out
    · exact hbs.1.grown hg0 (by omega) (fun k e => by cases e)
  clear hWa hlen hmk hsa a2 b2 f2 hWc d2 hrg0 hg0 hs0 HSC HFC HMC c0 c1 c2 c3 c4 c5 c6 hne0
  go_loopw [4, 5] (fun _ _ wr => ∃ (left : Lit → Bool) (cnt i : Nat) (blk : Nat → Nat) (bv : Nat → Value), Hid (CI gc w gc m m2 n r D A uo uc left cnt i blk bv wr)) (fun _ _ wr => wr.rangeLeft m r)
  case atStart => exact ⟨_, _, _, _, _, HI0⟩
  case round =>
    clear HI0
    obtain ⟨left, cnt, i, blk, bv, HI⟩ := hrel
    go_wp2_with (first
      | (at_next; refine wpList_next_ranges _ rfl _ rfl 9 (string_keyed Try.underlying9) ptrElem Value.string ptrV (fun key kl hk => by obtain ⟨s, e, _⟩ := string_of_keyOf Try.underlying9 hk; exact ⟨s, e⟩) (fun v y hv => ptr_inv hv) m r n D left cnt rfl HI.out.rng ?_ ?_)
      | fail)
    · intro hc0 hl0
      have HCL : Hid (CloneIn gc wr m2 i A.L blk bv) := by
        have h1 := HI.out.cl
        rw [gone_all hl0] at h1
        exact h1
      have HBE : Hid (Below gc w wr) := HI.out.bel
      have HNI : Hid (i ≤ n ∧ gc ≤ m2 ∧ m2 ≠ gc) := by
        have h1 := HI.out.cnt
        have h2 := HI.out.ne
        have h3 := HMN.out
        exact ⟨by omega, h2.2.2, by omega⟩
      have hst := HI.out.st
      have hgl : gc < wr.heap.size := heap_lt hst
      obtain ⟨j0, hj, hy0, hy1, hy2⟩ := info_parts info79
      have hgg : g < gc := HMN.out.2.2
      have c3w : wr.cell? ⟨g, 3, none⟩ = some (.slice uo A.pcs.length uc) := (HBE.out.cell (p := ⟨g, 3, none⟩) hgg).trans HIN.out.c3
      obtain ⟨w7, hmk7, hr7, hg7⟩ := run_make_own (P := Try.prog) wr 0 67 79 j0 _ 2 Try.underlying67 hj hy0 hy1 .i64 .i64 A.pcs.length (by rw [hy2]; have := HNB.out; omega) (by have := HNB.out; unfold maxLen; omega) (Nat.zero_le _)
      have hst7 : w7.heap[gc]? = some (.cells (dskC (A.cap : Int) (usedL A.L : Int) m2 uo A.pcs.length uc A.down A.left A.keep) 69 (0, 0)) := by rw [hg7.block gc hgl (by simp)]; exact hst
      have b3 : w7.cell? ⟨gc, 3, none⟩ = some (.slice uo A.pcs.length uc) := by rw [cell_of_row _ _ _ _ _ _ hst7]; rfl
      have f3 := fz_of hst7 3
      obtain ⟨W8, hW8⟩ : ∃ W, w7.setCell ⟨gc, 3, none⟩ (.slice (some ⟨wr.heap.size, 0, none⟩) 0 A.pcs.length) = W := ⟨_, rfl⟩
      have HD8 : Hid (DiskIn (fun k => gc ≤ k) W8 gc ⟨A.cap, A.L, A.pcs.take 0, A.down, A.left, A.keep, A.next⟩ m2 i (some ⟨wr.heap.size, 0, none⟩) A.pcs.length blk bv) := by
        have hbk : ∀ k, k < wr.heap.size → k ≠ gc → W8.heap[k]? = wr.heap[k]? := fun k hk hne => by
          rw [← hW8, heap_set_ne _ _ _ hne, hg7.block k hk (by simp)]
        have hcl := HCL.out
        refine ⟨Nat.le_refl _, HNI.out.2.1, ?_, hcl.files.block (hbk m2 hcl.files.lt HNI.out.2.2), ?_, fun k hk => ?_, fun x hx => ?_, hcl.apart⟩
        · rw [← hW8, heap_set hst7]; rfl
        · rw [← hW8]
          exact row_block hr7 (fun k hk => heap_set_ne _ _ _ (by have e : wr.heap.size = k := Option.some.inj hk; omega))
        · cases hk; exact Nat.le_of_lt hgl
        · obtain ⟨a, b, c⟩ := hcl.file x hx
          have hne : blk x.id ≠ gc := fun e => by rw [e, hst] at b; cases b
          refine ⟨a, by rw [hbk _ (heap_lt b) hne]; exact b, row_block (ownsRow_mono c (Nat.zero_le _)) (fun k hk => ?_), fun k hk => (c.lt k hk).1⟩
          obtain ⟨cur, e⟩ := row_heap c hk
          exact hbk k (heap_lt e) (fun e' => by rw [e', hst] at e; cases e)
      have HB8 : Hid (Below gc w W8) := by
        show Below gc w W8
        rw [← hW8]
        exact (HBE.out.grown hg7 (Nat.le_of_lt hgl) (fun k e => by cases e)).setCell (p := ⟨gc, 3, none⟩) (Nat.le_refl _) _
      have d3 : W8.cell? ⟨g, 3, none⟩ = some (.slice uo A.pcs.length uc) := (HB8.out.cell (p := ⟨g, 3, none⟩) hgg).trans HIN.out.c3
      clear hst hst7 hg7 hr7 hc0 hl0 HI HCL HBE hgl
      go_upto_region 7 with fail
      go_upto_region 8 with fail
      clear hmk7 b3 f3 hW8 c3w
      go_wp2_with fail
      clear d3
      go_loopw [7, 51] (fun _ v wx => ∃ (j : Nat) (po : Option Addr) (pc : Nat), v = .int .i64 j ∧ Hid (j ≤ A.pcs.length) ∧ Hid (DiskIn (fun k => gc ≤ k) wx gc ⟨A.cap, A.L, A.pcs.take j, A.down, A.left, A.keep, A.next⟩ m2 i po pc blk bv ∧ Below gc w wx)) (fun _ v _ => A.pcs.length - (intOf v).toNat)
      case atStart => exact ⟨0, _, _, rfl, Nat.zero_le _, HD8.out, HB8.out⟩
      case round =>
        clear HD8 HB8
        obtain ⟨j, po, pc, rfl, HJ, HD⟩ := hrel
        by_cases hjl : j < A.pcs.length
        · obtain ⟨p, hp⟩ : ∃ p, A.pcs[j]? = some p := ⟨A.pcs[j], by simp⟩
          obtain ⟨pi, pn⟩ := p
          obtain ⟨pb, hpb, e1, e2⟩ := HIN.out.piece hp
          subst hpb
          obtain ⟨x, hx, hxi⟩ : ∃ x ∈ A.L, x.id = pi := HWF.out.live (pi, pn) (List.mem_of_getElem? hp)
          subst hxi
          have hpbl : pb < gc := by rw [← HGC.out]; exact (HIN.out.pcs.lt pb rfl).2
          have hjl' : (j : Int) < (A.pcs.length : Int) := Int.ofNat_lt.2 hjl
          have hj0 : (0 : Int) ≤ (j : Int) := Int.natCast_nonneg _
          have x1 : wr.cell? ⟨pb, j * 2, none⟩ = some (.pointer (some ⟨blk0 x.id, 0, none⟩)) := (HD.out.2.cell (p := ⟨pb, j * 2, none⟩) hpbl).trans e1
          have x2 : wr.cell? ⟨pb, j * 2 + 1, none⟩ = some (.int .i64 (pn : Int)) := (HD.out.2.cell (p := ⟨pb, j * 2 + 1, none⟩) hpbl).trans e2
          obtain ⟨q1, q2, q3, q4⟩ := HIN.out.file x hx
          have hq2 := heap_lt q2
          have hbl : blk0 x.id < gc := by rw [← HGC.out]; exact hq2
          have hlj : (A.pcs.take j).length = j := by rw [List.length_take]; omega
          have HLJ : Hid ((A.pcs.take j).length = j) := hlj
          have HTK : Hid (A.pcs.take (j + 1) = A.pcs.take j ++ [(x.id, pn)]) := by show _ = _; rw [List.take_add_one, hp]; rfl
          have HXA : Hid (x ∈ A.L) := hx
          have HJL : Hid (j < A.pcs.length) := hjl
          have HINC : Hid (wrap64 ((j : Int) + 1) = ((j + 1 : Nat) : Int)) := winc (by have := HNB.out; omega)
          obtain ⟨Wp, hWp⟩ : ∃ W, wr.alloc (.cells #[.pointer (some ⟨blk0 x.id, 0, none⟩), .int .i64 (pn : Int)] 79) = W := ⟨_, rfl⟩
          have HWP : Hid (Below wr.heap.size wr Wp) := by show Below _ _ _; rw [← hWp]; exact bel_alloc _ _
          have HPP : Hid (Wp.heap[wr.heap.size]? = some (.cells #[.pointer (some ⟨blk0 x.id, 0, none⟩), .int .i64 (pn : Int)] 79 (0, 0))) := by show _ = _; rw [← hWp]; exact heap_alloc_new _ _
          have hgw : gc ≤ wr.heap.size := Nat.le_of_lt (heap_lt HD.out.1.cells)
          have hnm : Wp.cell? ⟨blk0 x.id, 0, none⟩ = some (.string x.nm) := by
            rw [HWP.out.cell (p := ⟨blk0 x.id, 0, none⟩) (Nat.lt_of_lt_of_le hbl hgw), HD.out.2.cell (p := ⟨blk0 x.id, 0, none⟩) hbl, cell_of_row _ _ _ _ _ _ q2]; rfl
          have hDp : DiskIn (fun k => gc ≤ k) Wp gc ⟨A.cap, A.L, A.pcs.take j, A.down, A.left, A.keep, A.next⟩ m2 i po pc blk bv := HD.out.1.grown HWP.out
          have HDP : Hid (DiskIn (fun k => gc ≤ k) Wp gc ⟨A.cap, A.L, A.pcs.take j, A.down, A.left, A.keep, A.next⟩ m2 i po pc blk bv) := hDp
          have c2p := hDp.c2
          have c3p : Wp.cell? ⟨gc, 3, none⟩ = some (.slice po j pc) := by have h1 := hDp.c3; rw [hlj] at h1; exact h1
          have lk := (hDp.files.block (w' := Wp.drew) rfl).look (good_small (HWF.out.good x hx))
          have hfx : findL A.L x.nm = some x := findL_of HWF.out.nms hx
          simp only [hfx, Option.map_some, ptrV] at lk
          have y0 : Wp.cell? ⟨wr.heap.size, 0, none⟩ = some (.pointer (some ⟨blk0 x.id, 0, none⟩)) := by rw [cell_of_row _ _ _ _ _ _ HPP.out]; rfl
          have y1 : Wp.cell? ⟨wr.heap.size, 1, none⟩ = some (.int .i64 (pn : Int)) := by rw [cell_of_row _ _ _ _ _ _ HPP.out]; rfl
          have hgp : gc < Wp.heap.size := heap_lt hDp.cells
          have hwp : wr.heap.size < Wp.heap.size := heap_lt HPP.out
          obtain ⟨Wq, hWq⟩ : ∃ W, Wp.drew.alloc (.cells #[.pointer (some ⟨blk x.id, 0, none⟩), .int .i64 (pn : Int)] 79) = W := ⟨_, rfl⟩
          have HBQ : Hid (Below Wp.heap.size Wp Wq) := by
            show Below _ _ _
            rw [← hWq]
            exact (Below.drew (Below.refl Wp.heap.size Wp)).trans (bel_alloc Wp.drew _)
          have HDQ : Hid (DiskIn (fun k => gc ≤ k) Wq gc ⟨A.cap, A.L, A.pcs.take j, A.down, A.left, A.keep, A.next⟩ m2 i po pc blk bv) := hDp.grown HBQ.out
          have HQN : Hid (Wq.heap[Wp.heap.size]? = some (.cells #[.pointer (some ⟨blk x.id, 0, none⟩), .int .i64 (pn : Int)] 79 (0, 0)) ∧ Wq.heap.size = Wp.heap.size + 1) := by
            rw [← hWq]
            exact ⟨heap_alloc_new Wp.drew _, by simp⟩
          have HPG : Hid (∀ k, (Value.slice po (A.pcs.take j).length pc).ownBlock = some k → k ≠ gc ∧ k ≠ m2 ∧ k ≠ wr.heap.size ∧ gc ≤ k) := fun k hk => by
            have h1 := HD.out.1.pg hk
            have h2 := (HD.out.1.pcs.lt k hk).2
            exact ⟨h1.1, h1.2.1, by omega, HD.out.1.pown k hk⟩
          have HSK : Hid (∀ w' : World, (∀ k, k < Wp.heap.size → k ≠ gc → (Value.slice po (A.pcs.take j).length pc).ownBlock ≠ some k → w'.heap[k]? = Wp.heap[k]?) → w'.cell? ⟨gc, 2, none⟩ = some (.map (some m2)) → (fun w' : World => w'.cell? ⟨gc, 2, none⟩ = some (.map (some m2)) ∧ w'.cell? ⟨wr.heap.size, 0, none⟩ = some (.pointer (some ⟨blk0 x.id, 0, none⟩)) ∧ w'.cell? ⟨wr.heap.size, 1, none⟩ = some (.int .i64 (pn : Int)) ∧ w'.cell? ⟨blk0 x.id, 0, none⟩ = some (.string x.nm) ∧ (Instr.lookup 66 (.map (some m2)) (.string x.nm) false).run Try.prog w' = .ok (.pointer (some ⟨blk x.id, 0, none⟩)) w') w') := fun w' hk h2 => by
            have hF := HDP.out.files
            have h3 : w'.heap[m2]? = Wp.heap[m2]? := hk m2 hF.lt HNI.out.2.2 (fun e => (HPG.out _ e).2.1 rfl)
            have h4 : w'.heap[wr.heap.size]? = Wp.heap[wr.heap.size]? := hk _ hwp (by have := heap_lt HD.out.1.cells; omega) (fun e => (HPG.out _ e).2.2.1 rfl)
            have h5 : w'.heap[blk0 x.id]? = Wp.heap[blk0 x.id]? := hk _ (by omega) (by omega) (fun e => by have := (HPG.out _ e).2.2.2; omega)
            have h6 := (hF.block h3).look (good_small (HWF.out.good x hx))
            simp only [hfx, Option.map_some, ptrV] at h6
            exact ⟨h2, (World.cell?_of_block (a := ⟨wr.heap.size, 0, none⟩) h4).trans y0, (World.cell?_of_block (a := ⟨wr.heap.size, 1, none⟩) h4).trans y1, (World.cell?_of_block (a := ⟨blk0 x.id, 0, none⟩) h5).trans hnm, h6⟩
          have HK1 : Hid ((fun w' : World => w'.cell? ⟨gc, 2, none⟩ = some (.map (some m2)) ∧ w'.cell? ⟨wr.heap.size, 0, none⟩ = some (.pointer (some ⟨blk0 x.id, 0, none⟩)) ∧ w'.cell? ⟨wr.heap.size, 1, none⟩ = some (.int .i64 (pn : Int)) ∧ w'.cell? ⟨blk0 x.id, 0, none⟩ = some (.string x.nm) ∧ (Instr.lookup 66 (.map (some m2)) (.string x.nm) false).run Try.prog w' = .ok (.pointer (some ⟨blk x.id, 0, none⟩)) w') Wp.drew) := HSK.out _ (fun _ _ _ _ => rfl) c2p
          have HK2 : Hid ((fun w' : World => w'.cell? ⟨gc, 2, none⟩ = some (.map (some m2)) ∧ w'.cell? ⟨wr.heap.size, 0, none⟩ = some (.pointer (some ⟨blk0 x.id, 0, none⟩)) ∧ w'.cell? ⟨wr.heap.size, 1, none⟩ = some (.int .i64 (pn : Int)) ∧ w'.cell? ⟨blk0 x.id, 0, none⟩ = some (.string x.nm) ∧ (Instr.lookup 66 (.map (some m2)) (.string x.nm) false).run Try.prog w' = .ok (.pointer (some ⟨blk x.id, 0, none⟩)) w') Wq) := HSK.out _ (fun k hk _ _ => HBQ.out.block k hk) HDQ.out.c2
          have HC8 : Hid (∀ w8, Wq.grownBy w8 (Value.slice po (A.pcs.take j).length pc).ownBlock → w8.heap[gc]? = some (.cells (dskC (A.cap : Int) (usedL A.L : Int) m2 po (A.pcs.take j).length pc A.down A.left A.keep) 69 (0, 0))) := fun w8 hg8 => by
            rw [hg8.block gc HDQ.out.lt (fun e => (HPG.out gc e.symm).1 rfl)]; exact HDQ.out.cells
          have HB8 : Hid (∀ w8, Wq.grownBy w8 (Value.slice po (A.pcs.take j).length pc).ownBlock → ∀ k, k < Wp.heap.size → (Value.slice po (A.pcs.take j).length pc).ownBlock ≠ some k → w8.heap[k]? = Wp.heap[k]?) := fun w8 hg8 k hk h2 => by
            rw [hg8.block k (by have := HQN.out.2; omega) (fun e => h2 e.symm)]; exact HBQ.out.block k hk
          have HK8 : Hid (∀ w8, Wq.grownBy w8 (Value.slice po (A.pcs.take j).length pc).ownBlock → (fun w' : World => w'.cell? ⟨gc, 2, none⟩ = some (.map (some m2)) ∧ w'.cell? ⟨wr.heap.size, 0, none⟩ = some (.pointer (some ⟨blk0 x.id, 0, none⟩)) ∧ w'.cell? ⟨wr.heap.size, 1, none⟩ = some (.int .i64 (pn : Int)) ∧ w'.cell? ⟨blk0 x.id, 0, none⟩ = some (.string x.nm) ∧ (Instr.lookup 66 (.map (some m2)) (.string x.nm) false).run Try.prog w' = .ok (.pointer (some ⟨blk x.id, 0, none⟩)) w') w8) := fun w8 hg8 => HSK.out _ (fun k hk _ h2 => HB8.out w8 hg8 k hk h2) (by rw [cell_of_row _ _ _ _ _ _ (HC8.out w8 hg8)]; rfl)
          have HK9 : Hid (∀ w8 v, Wq.grownBy w8 (Value.slice po (A.pcs.take j).length pc).ownBlock → (fun w' : World => w'.cell? ⟨gc, 2, none⟩ = some (.map (some m2)) ∧ w'.cell? ⟨wr.heap.size, 0, none⟩ = some (.pointer (some ⟨blk0 x.id, 0, none⟩)) ∧ w'.cell? ⟨wr.heap.size, 1, none⟩ = some (.int .i64 (pn : Int)) ∧ w'.cell? ⟨blk0 x.id, 0, none⟩ = some (.string x.nm) ∧ (Instr.lookup 66 (.map (some m2)) (.string x.nm) false).run Try.prog w' = .ok (.pointer (some ⟨blk x.id, 0, none⟩)) w') (w8.setCell ⟨gc, 3, none⟩ v)) := fun w8 v hg8 => HSK.out _ (fun k hk h1 h2 => by rw [heap_set_ne _ _ _ h1]; exact HB8.out w8 hg8 k hk h2) (by rw [cell_of_row _ _ _ _ _ _ (heap_set (HC8.out w8 hg8) _ _)]; rfl)
          have c3q : Wq.cell? ⟨gc, 3, none⟩ = some (.slice po j pc) := by have h1 := HDQ.out.c3; rw [hlj] at h1; exact h1
          have HRQ : Hid (Wq.ownsRow 0 79 2 (.slice po j pc) j (pcC blk (A.pcs.take j))) := by have h1 := HDQ.out.pcs; rw [hlj] at h1; exact h1
          have HNW : Hid (∀ jj u, ([.pointer (some ⟨blk x.id, 0, none⟩), .int .i64 (pn : Int)] : List Value)[jj]? = some u → Wq.cell? ((⟨Wp.heap.size, 0, none⟩ : Addr).add jj) = some u) := by
            intro jj u hu
            rw [Addr.add_lit, Nat.zero_add, cell_of_row _ _ _ _ _ _ HQN.out.1]
            simpa using hu
          have HSM : Hid (j + 1 ≤ maxLen ∧ (j + 1) * 16 ≤ 140737488355328) := by
            have h1 := HNB.out
            have h2 := HJL.out
            exact ⟨by unfold maxLen; omega, by omega⟩
          have hvo : (Value.slice po (A.pcs.take j).length pc).ownBlock = (Value.slice po j pc).ownBlock := by rw [hlj]
          have HVO : Hid ((Value.slice po (A.pcs.take j).length pc).ownBlock = (Value.slice po j pc).ownBlock) := hvo
          obtain ⟨j0', hj', hy0', hy1', hy2'⟩ := info_parts info79
          clear hjl hx hp hlj q1 q2 q3 q4 hq2 e1 e2 hfx hDp hvo hnm y0 y1 hgw c2p lk HSK
          go_upto_block 3 with fail
          go_cut [69] (fun _ wy => ∃ (po : Option Addr) (pc : Nat), Hid (DiskIn (fun k => gc ≤ k) wy gc ⟨A.cap, A.L, A.pcs.take (j + 1), A.down, A.left, A.keep, A.next⟩ m2 i po pc blk bv ∧ Below gc w wy))
          case first =>
            as_aux_lemma =>
              go_upto_region 11 with fail
              clear hjl' hj0 x1 x2 hpbl
              refine wp_region_held_drew (S := (fun w' : World => w'.cell? ⟨gc, 2, none⟩ = some (.map (some m2)) ∧ w'.cell? ⟨wr.heap.size, 0, none⟩ = some (.pointer (some ⟨blk0 x.id, 0, none⟩)) ∧ w'.cell? ⟨wr.heap.size, 1, none⟩ = some (.int .i64 (pn : Int)) ∧ w'.cell? ⟨blk0 x.id, 0, none⟩ = some (.string x.nm) ∧ (Instr.lookup 66 (.map (some m2)) (.string x.nm) false).run Try.prog w' = .ok (.pointer (some ⟨blk x.id, 0, none⟩)) w')) (by kernel_rfl) HK1.out (fun hHeld => ?_)
              refine wpAnyH_take (i := 0) (v := ?_) rfl (by kernel_rfl) (by kernel_rfl) (by kernel_rfl) (fun _ _ _ h => h) (Or.inl ⟨by rfl, ?_⟩) (by assumption) ?_
              rotate_left
              · (intro w hSw; (try dsimp only at hSw); go_simp; try with_reducible rfl)
              simp only [Act.put, List.getElem_toArray, List.getElem_cons_zero, List.setIfInBounds_toArray, List.set_cons_zero, List.set_cons_succ]
              refine wpAnyH_take (i := 2) (v := ?_) rfl (by kernel_rfl) (by kernel_rfl) (by kernel_rfl) (fun _ _ _ h => h) (Or.inl ⟨by rfl, ?_⟩) (by assumption) ?_
              rotate_left
              · (intro w hSw; (try dsimp only at hSw); go_simp; try with_reducible rfl)
              simp only [Act.put, List.getElem_toArray, List.getElem_cons_zero, List.getElem_cons_succ, List.setIfInBounds_toArray, List.set_cons_zero, List.set_cons_succ]
              refine wpAnyH_take (i := 3) (v := ?_) rfl (by kernel_rfl) (by kernel_rfl) (by kernel_rfl) (fun _ _ _ h => h) (Or.inl ⟨by rfl, ?_⟩) (by assumption) ?_
              rotate_left
              · (intro w hSw; (try dsimp only at hSw); go_simp; try with_reducible rfl)
              simp only [Act.put, List.getElem_toArray, List.getElem_cons_zero, List.getElem_cons_succ, List.setIfInBounds_toArray, List.set_cons_zero, List.set_cons_succ]
              refine wpAnyH_take (i := 4) (v := ?_) rfl (by kernel_rfl) (by kernel_rfl) (by kernel_rfl) (fun _ _ _ h => h) (Or.inl ⟨by rfl, ?_⟩) (by assumption) ?_
              rotate_left
              · (intro w hSw; (try dsimp only at hSw); go_simp; try with_reducible rfl)
              simp only [Act.put, List.getElem_toArray, List.getElem_cons_zero, List.getElem_cons_succ, List.setIfInBounds_toArray, List.set_cons_zero, List.set_cons_succ]
              refine wpAnyH_take (i := 5) (v := ?_) rfl (by kernel_rfl) (by kernel_rfl) (by kernel_rfl) (fun _ _ _ h => h) (Or.inl ⟨by rfl, ?_⟩) (by assumption) ?_
              rotate_left
              · (intro w hSw; (try dsimp only at hSw); go_simp; try with_reducible rfl)
              simp only [Act.put, List.getElem_toArray, List.getElem_cons_zero, List.getElem_cons_succ, List.setIfInBounds_toArray, List.set_cons_zero, List.set_cons_succ]
              refine wpAnyH_take (i := 6) (v := ?_) rfl (by kernel_rfl) (by kernel_rfl) (by kernel_rfl) (fun _ _ _ h => h) (Or.inl ⟨by rfl, ?_⟩) (by assumption) ?_
              rotate_left
              · (intro w hSw; (try dsimp only at hSw); go_simp; try with_reducible rfl)
              simp only [Act.put, List.getElem_toArray, List.getElem_cons_zero, List.getElem_cons_succ, List.setIfInBounds_toArray, List.set_cons_zero, List.set_cons_succ]
              refine wpAnyH_take (i := 7) (v := ?_) rfl (by kernel_rfl) (by kernel_rfl) (by kernel_rfl) (fun _ _ _ h => h) (Or.inl ⟨by rfl, ?_⟩) (by assumption) ?_
              rotate_left
              · (intro w hSw; (try dsimp only at hSw); go_simp; try with_reducible rfl)
              simp only [Act.put, List.getElem_toArray, List.getElem_cons_zero, List.getElem_cons_succ, List.setIfInBounds_toArray, List.set_cons_zero, List.set_cons_succ]
              refine wpAnyH_take (i := 8) (v := ?_) rfl (by kernel_rfl) (by kernel_rfl) (by kernel_rfl) (fun _ _ _ h => h) (Or.inl ⟨by rfl, ?_⟩) (by assumption) ?_
              rotate_left
              · (intro w hSw; (try dsimp only at hSw); go_simp; try with_reducible rfl)
              simp only [Act.put, List.getElem_toArray, List.getElem_cons_zero, List.getElem_cons_succ, List.setIfInBounds_toArray, List.set_cons_zero, List.set_cons_succ]
              refine wpAnyH_take (i := 9) (v := ?_) rfl (by kernel_rfl) (by kernel_rfl) (by kernel_rfl) (fun _ _ _ h => h) (Or.inl ⟨by rfl, ?_⟩) (by assumption) ?_
              rotate_left
              · (intro w hSw; (try dsimp only at hSw); go_simp; try with_reducible rfl)
              simp only [Act.put, List.getElem_toArray, List.getElem_cons_zero, List.getElem_cons_succ, List.setIfInBounds_toArray, List.set_cons_zero, List.set_cons_succ]
              refine wpAnyH_take (i := 10) (v := ?_) rfl (by kernel_rfl) (by kernel_rfl) (by kernel_rfl) (fun _ _ _ h => h) (Or.inl ⟨by rfl, ?_⟩) (by assumption) ?_
              rotate_left
              · (intro w hSw; (try dsimp only at hSw); go_simp; try with_reducible rfl)
              simp only [Act.put, List.getElem_toArray, List.getElem_cons_zero, List.getElem_cons_succ, List.setIfInBounds_toArray, List.set_cons_zero, List.set_cons_succ]
              refine wpAnyH_take (i := 11) (v := ?_) rfl (by kernel_rfl) (by kernel_rfl) (by kernel_rfl) (fun _ _ _ h => h) (Or.inl ⟨by rfl, ?_⟩) (by assumption) ?_
              rotate_left
              · (intro w hSw; (try dsimp only at hSw); go_simp; try with_reducible rfl)
              simp only [Act.put, List.getElem_toArray, List.getElem_cons_zero, List.getElem_cons_succ, List.setIfInBounds_toArray, List.set_cons_zero, List.set_cons_succ]
              refine wpAnyH_take (i := 12) (v := ?_) rfl (by kernel_rfl) (by kernel_rfl) (by kernel_rfl) (fun _ _ _ h => h) (Or.inl ⟨by rfl, ?_⟩) (by assumption) ?_
              rotate_left
              · (intro w hSw; (try dsimp only at hSw); go_simp; try with_reducible rfl)
              simp only [Act.put, List.getElem_toArray, List.getElem_cons_zero, List.getElem_cons_succ, List.setIfInBounds_toArray, List.set_cons_zero, List.set_cons_succ]
              clear HK1
              refine wpAnyH_ready (rs := [1, 13]) (by kernel_rfl) (by simp) ?_
              refine AllReadyH.cons rfl (fun K hK => ?_) (AllReadyH.cons rfl (fun K hK => ?_) AllReadyH.nil)
              · have hc3d : Wp.drew.cell? ⟨gc, 3, none⟩ = some (.slice po j pc) := c3p
                go_simp
                refine hK.out _ _ hHeld (fun hHeld1 => ?_)
                clear hK K hHeld1
                try simp only [Act.put, List.getElem_toArray, List.getElem_cons_zero, List.getElem_cons_succ, List.setIfInBounds_toArray, List.set_cons_zero, List.set_cons_succ]
                refine wpAnyH_ready (rs := [13]) (by kernel_rfl) (by simp) ?_
                refine AllReadyH.cons rfl (fun K hK => ?_) AllReadyH.nil
                go_simp
                refine hK.out _ _ HK2.out (fun hHeld1 => ?_)
                clear hK K hHeld1 hHeld
                try simp only [Act.put, List.getElem_toArray, List.getElem_cons_zero, List.getElem_cons_succ, List.setIfInBounds_toArray, List.set_cons_zero, List.set_cons_succ]
                refine wpAnyH_ready (rs := [14]) (by kernel_rfl) (by simp) ?_
                refine AllReadyH.cons rfl (fun K hK => ?_) AllReadyH.nil
                refine step_append_lies _ rfl (.tmp 56) (.tmp 68) 67 rfl 0 79 j0' (.agg #[.pointer none, .int .i64 0]) 2 16 Try.underlying67 hj' hy0' hy1' hy2' rfl (by decide) _ j (pcC blk (A.pcs.take j)) rfl HRQ.out ⟨Wp.heap.size, 0, none⟩ 1 _ [.pointer (some ⟨blk x.id, 0, none⟩), .int .i64 (pn : Int)] rfl rfl HNW.out (pcC_one _ blk (x.id, pn) rfl) (by decide) HSM.out.1 HSM.out.2 (Nat.zero_le _) _ rfl ?_
                intro pb8 pcap w8 hr8 hg8' hl8 hlt8
                have hg8 : Wq.grownBy w8 (Value.slice po (A.pcs.take j).length pc).ownBlock := by rw [HVO.out]; exact hg8'
                refine hK.out _ _ (HK8.out _ hg8) (fun hHeld2 => ?_)
                clear hK K
                simp only [Act.put, List.getElem_toArray, List.getElem_cons_zero, List.getElem_cons_succ, List.setIfInBounds_toArray, List.set_cons_zero, List.set_cons_succ]
                have HN : Hid (DiskIn (fun k => gc ≤ k) (w8.setCell ⟨gc, 3, none⟩ (.slice (some ⟨pb8, 0, none⟩) (j + 1) pcap)) gc ⟨A.cap, A.L, A.pcs.take (j + 1), A.down, A.left, A.keep, A.next⟩ m2 i (some ⟨pb8, 0, none⟩) pcap blk bv ∧ Below gc w (w8.setCell ⟨gc, 3, none⟩ (.slice (some ⟨pb8, 0, none⟩) (j + 1) pcap))) :=
                  clone_piece HDQ.out (fun k hk => (HPG.out k hk).1) HLJ.out HTK.out (HD.out.2.trans ((HWP.out.mono (Nat.le_of_lt (heap_lt HD.out.1.cells))).trans (HBQ.out.mono (Nat.le_of_lt hgp)))) hr8 hg8 (by rw [HVO.out]; exact hl8)
                have d4 : w8.cell? ⟨gc, 3, none⟩ = some (.slice po (A.pcs.take j).length pc) := by rw [cell_of_row _ _ _ _ _ _ (HC8.out w8 hg8)]; rfl
                have d5 := fz_of (HC8.out w8 hg8) 3
                refine wpAnyH_take (i := 15) (v := ?_) rfl (by kernel_rfl) (by kernel_rfl) (by kernel_rfl) (fun _ _ _ h => h) (Or.inl ⟨by rfl, ?_⟩) (by assumption) ?_
                rotate_left
                · (intro w hSw; (try dsimp only at hSw); go_simp; try with_reducible rfl)
                simp only [Act.put, List.getElem_toArray, List.getElem_cons_zero, List.getElem_cons_succ, List.setIfInBounds_toArray, List.set_cons_zero, List.set_cons_succ]
                refine wpAnyH_ready (rs := [16]) (by kernel_rfl) (by simp) ?_
                refine AllReadyH.cons rfl (fun K hK => ?_) AllReadyH.nil
                clear hHeld2 hr8 hg8' hl8 hlt8
                go_simp
                refine hK.out _ _ (HK9.out _ _ hg8) (fun hHeld3 => ?_)
                clear hK K
                refine wpAnyH_done (by kernel_rfl) ?_ _
                clear hHeld3 d4 d5 hg8
                go_wp2_with fail
                go_meet
                exact ⟨_, _, HN⟩
              · go_simp
                refine hK.out _ _ HK2.out (fun hHeld1 => ?_)
                clear hK K hHeld
                try simp only [Act.put, List.getElem_toArray, List.getElem_cons_zero, List.getElem_cons_succ, List.setIfInBounds_toArray, List.set_cons_zero, List.set_cons_succ]
                refine wpAnyH_ready (rs := [1]) (by kernel_rfl) (by simp) ?_
                refine AllReadyH.cons rfl (fun K hK => ?_) AllReadyH.nil
                go_simp
                refine hK.out _ _ HK2.out (fun hHeld4 => ?_)
                clear hK K hHeld1 hHeld4
                try simp only [Act.put, List.getElem_toArray, List.getElem_cons_zero, List.getElem_cons_succ, List.setIfInBounds_toArray, List.set_cons_zero, List.set_cons_succ]
                refine wpAnyH_ready (rs := [14]) (by kernel_rfl) (by simp) ?_
                refine AllReadyH.cons rfl (fun K hK => ?_) AllReadyH.nil
                refine step_append_lies _ rfl (.tmp 56) (.tmp 68) 67 rfl 0 79 j0' (.agg #[.pointer none, .int .i64 0]) 2 16 Try.underlying67 hj' hy0' hy1' hy2' rfl (by decide) _ j (pcC blk (A.pcs.take j)) rfl HRQ.out ⟨Wp.heap.size, 0, none⟩ 1 _ [.pointer (some ⟨blk x.id, 0, none⟩), .int .i64 (pn : Int)] rfl rfl HNW.out (pcC_one _ blk (x.id, pn) rfl) (by decide) HSM.out.1 HSM.out.2 (Nat.zero_le _) _ rfl ?_
                intro pb8 pcap w8 hr8 hg8' hl8 hlt8
                have hg8 : Wq.grownBy w8 (Value.slice po (A.pcs.take j).length pc).ownBlock := by rw [HVO.out]; exact hg8'
                refine hK.out _ _ (HK8.out _ hg8) (fun hHeld2 => ?_)
                clear hK K
                simp only [Act.put, List.getElem_toArray, List.getElem_cons_zero, List.getElem_cons_succ, List.setIfInBounds_toArray, List.set_cons_zero, List.set_cons_succ]
                have HN : Hid (DiskIn (fun k => gc ≤ k) (w8.setCell ⟨gc, 3, none⟩ (.slice (some ⟨pb8, 0, none⟩) (j + 1) pcap)) gc ⟨A.cap, A.L, A.pcs.take (j + 1), A.down, A.left, A.keep, A.next⟩ m2 i (some ⟨pb8, 0, none⟩) pcap blk bv ∧ Below gc w (w8.setCell ⟨gc, 3, none⟩ (.slice (some ⟨pb8, 0, none⟩) (j + 1) pcap))) :=
                  clone_piece HDQ.out (fun k hk => (HPG.out k hk).1) HLJ.out HTK.out (HD.out.2.trans ((HWP.out.mono (Nat.le_of_lt (heap_lt HD.out.1.cells))).trans (HBQ.out.mono (Nat.le_of_lt hgp)))) hr8 hg8 (by rw [HVO.out]; exact hl8)
                have d4 : w8.cell? ⟨gc, 3, none⟩ = some (.slice po (A.pcs.take j).length pc) := by rw [cell_of_row _ _ _ _ _ _ (HC8.out w8 hg8)]; rfl
                have d5 := fz_of (HC8.out w8 hg8) 3
                refine wpAnyH_take (i := 15) (v := ?_) rfl (by kernel_rfl) (by kernel_rfl) (by kernel_rfl) (fun _ _ _ h => h) (Or.inl ⟨by rfl, ?_⟩) (by assumption) ?_
                rotate_left
                · (intro w hSw; (try dsimp only at hSw); go_simp; try with_reducible rfl)
                simp only [Act.put, List.getElem_toArray, List.getElem_cons_zero, List.getElem_cons_succ, List.setIfInBounds_toArray, List.set_cons_zero, List.set_cons_succ]
                refine wpAnyH_ready (rs := [16]) (by kernel_rfl) (by simp) ?_
                refine AllReadyH.cons rfl (fun K hK => ?_) AllReadyH.nil
                clear hHeld2 hr8 hg8' hl8 hlt8
                go_simp
                refine hK.out _ _ (HK9.out _ _ hg8) (fun hHeld3 => ?_)
                clear hK K
                refine wpAnyH_done (by kernel_rfl) ?_ _
                clear hHeld3 d4 d5 hg8
                go_wp2_with fail
                go_meet
                exact ⟨_, _, HN⟩
          case rest =>
            obtain ⟨po', pc', HN⟩ := hcut
            clear HK1 HK2 HK8 HK9 HC8 HB8 c3q c3p HRQ HNW hjl' hj0 x1 x2 hpbl
            go_wp2_with fail
            go_roundw
            case rel => exact ⟨j + 1, _, _, by rw [HINC.out], HJL.out, HN.out⟩
            case measure =>
              have h1 := HJL.out
              rw [HINC.out]
              show A.pcs.length - (intOf (Value.int .i64 ((j + 1 : Nat) : Int))).toNat < A.pcs.length - (intOf (Value.int .i64 (j : Int))).toNat
              show A.pcs.length - ((j + 1 : Nat) : Int).toNat < A.pcs.length - (j : Int).toNat
              omega
        · have hjl' : ¬ ((j : Int) < (A.pcs.length : Int)) := by omega
          have HE : Hid (A.pcs.take j = A.pcs) := List.take_of_length_le (Nat.le_of_not_lt hjl)
          clear hjl
          go_wp2_with fail
          go_ret
          have h1 := HD.out.1
          rw [HE.out] at h1
          have h2 := HNB.out
          have h3 := HNI.out
          rw [HGC.out]
          exact ⟨gc, rfl, Nat.le_refl _, ⟨HWF.out, h2.1, m2, i, po, pc, blk, bv, by omega, h1⟩, HD.out.2⟩
    · intro x c kl ya yb w1 cnt1 hkey hlx hpy hat hrg1 hlt hg1 hs1 hen
      obtain ⟨s', e1, e2, hxs⟩ := string_of_keyOf Try.underlying9 hkey
      cases e1
      subst e2
      simp only [ptrElem_mk, Option.some.injEq, Prod.mk.injEq] at hpy
      obtain ⟨rfl, rfl⟩ := hpy
      obtain ⟨k1, k2⟩ := HDD.out x hxs
      have k3 := hat (.lit (.int .i64 0))
      rw [k1] at k3
      have k4 : ptrCode ((findL A.L x).map fun x => blk0 x.id) = ptrCode c := by injection k3 with e; injection e
      have k5 := ptrCode_inj k4
      rw [HI.out.has _ hlx] at k2
      obtain ⟨xf, hxf⟩ : ∃ xf, findL A.L x = some xf := by
        cases hf : findL A.L x with
        | none => rw [hf] at k2; cases k2
        | some y => exact ⟨y, rfl⟩
      rw [hxf] at k5
      obtain rfl : c = some (blk0 xf.id) := k5.symm
      simp only [ptrV] at hen ⊢
      obtain ⟨hxm, hxn⟩ := findL_some hxf
      subst hxn
      obtain ⟨q1, q2, q3, q4⟩ := HIN.out.file xf hxm
      obtain ⟨bo, bc, hev, hbc, hm, h0⟩ := row_facts q3
      rw [hev] at q3
      have hbel1 : Below gc w w1 := HI.out.bel.grown hg1 (by have := HI.out.bel.size; have := HGC.out; omega) (fun k e => by cases e; have := HRN.out; omega)
      have hby : Bytes w bo xf.body.length xf.body := by
        obtain ⟨ao3, c3, e3, hb3, _⟩ := own_bytes q3
        cases e3
        exact hb3
      have HCL : Hid (∀ kk, Calls Try.prog 36 #[.slice bo xf.body.length bc] (w1.drewN kk) fun e w' => ∃ v, e = .returned v ∧ w'.ownsRow w1.heap.size 5 1 v xf.body.length (cellsOf xf.body) ∧ Below w1.heap.size w1 w') := fun kk => by
        refine (clone_any bo _ bc xf.body (w1.drewN kk) (bytes_kept hby (bel_drewN hbel1 kk) (by have := HGC.out; omega)) h0 (Nat.le_trans (usedL_ge hxm) hbig)).mono ?_
        rintro e w' ⟨v, rfl, ho, hb⟩
        rw [heap_drewN] at ho hb
        exact ⟨v, rfl, ho, (bel_drewN (Below.refl w1.heap.size w1) kk).trans hb⟩
      have hgl : gc < wr.heap.size := heap_lt HI.out.st
      have hst1 : w1.heap[gc]? = some (.cells (dskC (A.cap : Int) (usedL A.L : Int) m2 uo A.pcs.length uc A.down A.left A.keep) 69 (0, 0)) := by
        rw [hg1.block gc hgl (by have := HRN.out; simp; omega)]; exact HI.out.st
      have p2 : w1.cell? ⟨gc, 2, none⟩ = some (.map (some m2)) := by rw [cell_of_row _ _ _ _ _ _ hst1]; rfl
      have HP2 : Hid (w1.cell? ⟨gc, 2, none⟩ = some (.map (some m2))) := p2
      have p1 : w1.cell? ⟨blk0 xf.id, 1, none⟩ = some (.slice bo xf.body.length bc) := by
        have h1 := heap_lt q2
        rw [(hbel1.cell (p := ⟨blk0 xf.id, 1, none⟩) (by have := HGC.out; show blk0 xf.id < gc; omega)), cell_of_row _ _ _ _ _ _ q2, hev]; rfl
      have hlb : blk0 xf.id < w1.heap.size := by have h1 := heap_lt q2; have h2 := hbel1.size; omega
      have hgl1 : gc < w1.heap.size := by omega
      have HG1 : Hid (gc < w1.heap.size) := hgl1
      have HCI : Hid (CloneIn gc w1 m2 i (goneL A.L left) blk bv) := HI.out.cl.keep (fun k hk _ _ hi => hg1.block k hk (fun e => by
        cases e
        obtain ⟨es, ck, since, seen, c0', _, _, _, _, hit, _⟩ := HI.out.rng
        exact hi _ _ _ _ hit))
      have HFN : Hid (∀ w9 v, Below w1.heap.size w1 w9 → ∃ w11, (Instr.mapUpdate 66 (.map (some m2)) (.string xf.nm) (.pointer (some ⟨w9.heap.size, 0, none⟩))).run Try.prog (w9.alloc (.cells #[.string xf.nm, v] 77)) = .ok () w11 ∧ FilesAt w11 m2 (i + 1) (fun t => if t = xf.nm then some w9.heap.size else (findL (goneL A.L left) t).map fun x => blk x.id) ∧ (w9.alloc (.cells #[.string xf.nm, v] 77)).mapTurned w11 m2) := fun w9 v hb9 => by
        have hF := HCI.out.files
        exact ((hF.block (hb9.block m2 hF.lt)).kept (World.grownBy_alloc _ (.cells #[.string xf.nm, v] 77) none) (by simp)).put (by have h1 := HI.out.cnt; have h2 := HNB.out; unfold maxLen; omega) hxs (some w9.heap.size)
      have HEX : Hid (w1.ranges Try.prog 9 ptrElem m r n D (fun z => left z && !z.sameKey (.string xf.nm.data.toList)) cnt1 ∧ cnt1 < cnt ∧ Below gc w w1 ∧ left (.string xf.nm.data.toList) = true ∧ xf ∈ A.L ∧ w1.heap[gc]? = some (.cells (dskC (A.cap : Int) (usedL A.L : Int) m2 uo A.pcs.length uc A.down A.left A.keep) 69 (0, 0))) := ⟨hrg1, hlt, hbel1, hlx, hxm, hst1⟩
      clear hkey hlx hat hrg1 hlt hg1 hs1 hxs k1 k2 k3 k4 k5 hxf hxm q1 q2 q3 q4 hev hbc hm h0 hbel1 hby hgl hst1
      go_wp2_with fail
      go_region_with (first | (go_at_call 36; refine Calls.mono (HCL.out 1) ?_; rintro e w9 ⟨v, rfl, ho, hb⟩; obtain ⟨vo, vc, rfl, hv1, hv2, hv3⟩ := row_facts ho; clear hv1 hv2 hv3; have q9 : w9.cell? ⟨gc, 2, none⟩ = some (.map (some m2)) := (hb.cell (p := ⟨gc, 2, none⟩) HG1.out).trans HP2.out; have q9l : gc < w9.heap.size := Nat.lt_of_lt_of_le HG1.out hb.size; obtain ⟨w11, hup, hF, ht⟩ := HFN.out w9 (.slice vo xf.body.length vc) hb; have HO9 : Hid (w9.ownsRow w1.heap.size 5 1 (.slice vo xf.body.length vc) xf.body.length (cellsOf xf.body) ∧ Below w1.heap.size w1 w9) := ⟨ho, hb⟩; have HF9 : Hid _ := hF; have HT9 : Hid _ := ht; clear ho hb hF ht))
      all_goals (
        have HN : Hid (CI gc w gc m m2 n r D A uo uc (fun z => left z && !z.sameKey (.string (bytesN xf.nm))) cnt1 (i + 1) (fun j => if j = xf.id then w9.heap.size else blk j) (fun j => if j = xf.id then .slice vo xf.body.length vc else bv j) w11) :=
          clone_round HI.out HCI.out HWF.out HEX.out.1 HEX.out.2.1 HEX.out.2.2.1 HEX.out.2.2.2.1 HEX.out.2.2.2.2.1 HEX.out.2.2.2.2.2 HO9.out.1 HO9.out.2 HF9.out HT9.out (Nat.le_of_lt HG1.out)
        have HLT : Hid (cnt1 < cnt) := HEX.out.2.1
        clear q9 q9l hup HO9 HF9 HT9 HEX HFN HCL HP2 p1 p2 hlb hgl1 HG1 HCI
        go_wp2_with fail
        go_roundw)
      all_goals (first | exact ⟨_, _, _, _, _, HN⟩ | (rw [HN.out.rng.left_eq, HI.out.rng.left_eq]; exact HLT.out))
end
end Go.Proofs.Ytomeghngjiaofaa

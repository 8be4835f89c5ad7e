/-
  What table.Parse and table.Get answer: contracts over this translation.
-/
import Derived.Test.YtcgjhopfdpaocaaDoorTbG
namespace Go.Proofs.YtcgjhopfdpaocaaDoor
open Go.RowKit Go.Sort Go.Shelf
set_option linter.unusedSectionVars false
variable [Inhabited E] [DecidableEq E]
/-- A list whose file some bytes are. -/
def IsFile (bs : List UInt8) (l : List E) : Prop := fitB l = true ∧ fileB l = bs ∧ Reads bs l
def ParT (base : Nat) (bs : List UInt8) (e : Ending) (w' : World) : Prop :=
  (e = .returned (.tuple #[.slice none 0 0, .int .i64 2]) ∧ NoFile bs) ∨ ∃ g c l, e = .returned (.tuple #[.slice (some ⟨g, 0, none⟩) l.length c, .int .i64 0]) ∧ IsFile bs l ∧ w'.ownsRow base 51 4 (.slice (some ⟨g, 0, none⟩) l.length c) l.length (flatE l)
theorem no_of_reads {bs : List UInt8} {l : List E} (h : Reads bs l) (hn : ¬ (fitB l = true ∧ fileB l = bs)) : NoFile bs := fun l0 hf hb => by
  obtain rfl := h l0 hf hb
  exact hn ⟨hf, hb⟩
theorem own_shapeT {w : World} {base : Nat} {v : Value} {n : Nat} {es : List E} (h : w.ownsRow base 51 4 v n (flatE es)) (hn : 0 < n) : ∃ g c, v = .slice (some ⟨g, 0, none⟩) n c ∧ Ents w g 0 es ∧ base ≤ g ∧ g < w.heap.size ∧ n ≤ c ∧ c ≤ 9223372036854775807 := by
  obtain ⟨g, c, hv, hE, hb⟩ := own_shapeE h hn
  rcases h.2 with ⟨_, h0⟩ | ⟨g2, cap, cur, h1, h2, h3, h4, h5, _⟩
  · omega
  · rw [hv] at h1
    injection h1 with e1 e2 e3
    injection e1 with e1
    injection e1 with e1
    subst e1
    subst e3
    exact ⟨g, c, hv, hE, hb, (Array.getElem?_eq_some_iff.1 h3).1, h4, by unfold maxLen at h5; exact h5⟩
set_option maxRecDepth 100000 in
set_option maxHeartbeats 2000000 in
theorem parseT_any (a : SV) (w : World) (ha : a.at w.heap.size w) (hn : a.n ≤ 1000000) :
    Calls Tryd.prog 21 #[.slice a.ao a.n a.c] w fun e w' => ParT w.heap.size a.bs e w' ∧ Below w.heap.size w w' := by
  have HCR : Hid _ := readT_any a w ha hn
  have HA : Hid (a.at w.heap.size w) := ha
  clear ha
  go_enter Tryd.func21, Tryd.ntmps21
  go_wp2_with fail
  refine Calls.mono HCR.out ?_
  rintro e w1 ⟨v1, rfl, l, hown1, hl64, hall, hrd, hb1⟩
  have HRD : Hid (Reads a.bs l) := hrd
  have HO1 : Hid (w1.ownsRow w.heap.size 51 4 v1 l.length (flatE l)) := hown1
  have HB1 : Hid (Below w.heap.size w w1) := hb1
  have hz1 := hb1.size
  clear HCR hrd hb1
  by_cases hf : fitB l = true
  · obtain ⟨g, c, rfl, hE, hgz, hgl, hnc, -⟩ := own_shapeT hown1 (fit_len hf).1
    have HCB : Hid _ := tableBytes_some g 0 l.length c l w1 ⟨rfl, fun _ => ⟨g, 0, rfl, hE⟩⟩ hnc hf hgl
    have hfl := (fileB_len hf).2
    obtain ⟨L, HL⟩ : ∃ L, Hid (l.length = L) := ⟨_, rfl⟩
    rw [HL.out] at HCB
    simp only [HL.out]
    have HF : Hid (fitB l = true) := hf
    clear hown1 hall hE hgz hgl hnc hl64 hf
    go_wp2_with fail
    refine Calls.mono HCB.out ?_
    rintro e w2 ⟨v2, rfl, hown2, hb2⟩
    obtain ⟨m, HM⟩ : ∃ m, Hid ((fileB l).length = m) := ⟨_, rfl⟩
    rw [HM.out] at hown2 hfl
    obtain ⟨g2, c2, rfl, -, -, -, -⟩ := own_shape hown2 (by omega)
    have hby2 := own_row_bytes hown2
    have HCE : Hid _ := bequal_any (some ⟨g2, 0, none⟩) a.ao m c2 a.n a.c (fileB l) a.bs w2 hby2 (bytes_kept HA.out.1 (HB1.out.trans (hb2.mono hz1)) (Nat.le_refl _))
    have HB2 : Hid (Below w.heap.size w w2) := HB1.out.trans (hb2.mono hz1)
    have HO2 : Hid (w2.ownsRow w.heap.size 51 4 (.slice (some ⟨g, 0, none⟩) l.length c) l.length (flatE l)) := own_below HO1.out hb2 (Nat.le_refl _)
    clear hown2 hb2 hby2 HCB HO1 hfl
    by_cases he : fileB l = a.bs
    · have hd : decide (fileB l = a.bs) = true := decide_eq_true he
      rw [hd] at HCE
      have HR : Hid (IsFile a.bs l) := ⟨HF.out, he, HRD.out⟩
      clear he hd
      go_wp2_with fail
      refine Calls.mono HCE.out ?_
      rintro e w3 ⟨rfl, rfl⟩
      go_wp2
      go_ret2
      exact ⟨.inr ⟨g, c, l, by rw [HL.out]; rfl, HR.out, HO2.out⟩, HB2.out⟩
    · have hd : decide (fileB l = a.bs) = false := decide_eq_false he
      rw [hd] at HCE
      have HR : Hid (NoFile a.bs) := no_of_reads HRD.out (fun h => he h.2)
      clear he hd
      go_wp2_with fail
      refine Calls.mono HCE.out ?_
      rintro e w3 ⟨rfl, rfl⟩
      go_wp2
      go_ret2
      exact ⟨.inl ⟨rfl, HR.out⟩, HB2.out⟩
  · obtain ⟨ao, c, rfl, hE, -⟩ := own_entsV0 hown1 rfl
    have HCB : Hid _ := tableBytes_wrong ao l.length c l w1 hE (right_small hall) (by omega) (by simpa using hf)
    have HR : Hid (NoFile a.bs) := no_of_reads HRD.out (fun h => hf h.1)
    obtain ⟨L, HL⟩ : ∃ L, Hid (l.length = L) := ⟨_, rfl⟩
    rw [HL.out] at HCB
    simp only [HL.out]
    clear hown1 hall hE hl64 hf HO1
    go_wp2_with fail
    refine Calls.mono HCB.out ?_
    rintro e w2 ⟨rfl, hb2⟩
    have HB2 : Hid (Below w.heap.size w w2) := HB1.out.trans (hb2.mono hz1)
    clear hb2
    go_wp2
    go_ret2
    exact ⟨.inl ⟨rfl, HR.out⟩, HB2.out⟩
/-- What Get tells of a list. -/
def getVT (l : List E) (key : ByteArray) : Value := if isIn key l then .tuple #[.agg (encE l[belowN key l]!).toArray, .bool true, .int .i64 0] else .tuple #[zeroE, .bool false, .int .i64 0]
def GetT (bs : List UInt8) (key : ByteArray) (e : Ending) : Prop :=
  (e = .returned (.tuple #[zeroE, .bool false, .int .i64 2]) ∧ NoFile bs) ∨ ∃ l, e = .returned (getVT l key) ∧ IsFile bs l
theorem SV.at.alloc {a : SV} {w : World} (h : a.at w.heap.size w) (o : Obj) : a.at (w.alloc o).heap.size (w.alloc o) := ⟨bytes_kept h.1 (bel_alloc w o) (Nat.le_refl _), h.2.1, fun y hy hp => by have := h.2.2 y hy hp; simp; omega⟩
set_option maxRecDepth 100000 in
set_option maxHeartbeats 2000000 in
theorem getT_any (a : SV) (key : ByteArray) (w : World) (ha : a.at w.heap.size w) (hn : a.n ≤ 1000000) :
    Calls Tryd.prog 23 #[.slice a.ao a.n a.c, .string key] w fun e w' => GetT a.bs key e ∧ Below w.heap.size w w' := by
  have HCP : Hid (∀ o, Calls Tryd.prog 21 #[.slice a.ao a.n a.c] (w.alloc o) fun e w' => ParT (w.alloc o).heap.size a.bs e w' ∧ Below (w.alloc o).heap.size (w.alloc o) w') := fun o => parseT_any a (w.alloc o) (ha.alloc o) hn
  clear ha
  go_enter Tryd.func23, Tryd.ntmps23
  go_wp2_with fail
  refine (HCP.out _).mono ?_
  rintro e w1 ⟨he, hb1⟩
  have hR : w1.heap[w.heap.size]? = some (.cells #[.string ByteArray.empty, .string ByteArray.empty, .bool false, .int .i64 0] 51 (0, 0)) := by
    rw [hb1.block w.heap.size (by simp)]; exact heap_alloc_new w _
  have HR : Hid _ := hR
  have HB1 : Hid (Below w.heap.size w w1) := (bel_alloc w _).trans (hb1.mono (by simp))
  have r0 : w1.cell? ⟨w.heap.size, 0, none⟩ = some (.string ByteArray.empty) := by simp [World.cell?, hR]
  have r1 : w1.cell? ⟨w.heap.size, 1, none⟩ = some (.string ByteArray.empty) := by simp [World.cell?, hR]
  have r2 : w1.cell? ⟨w.heap.size, 2, none⟩ = some (.bool false) := by simp [World.cell?, hR]
  have r3 : w1.cell? ⟨w.heap.size, 3, none⟩ = some (.int .i64 0) := by simp [World.cell?, hR]
  have y0 : ∀ j, w1.frozen? ⟨w.heap.size, j, none⟩ = false := fun j => by simp [World.frozen?, hR]
  clear hb1 hR HCP
  rcases he with ⟨rfl, hno⟩ | ⟨g, c, l, rfl, hIF, hown⟩
  · have HNO : Hid (NoFile a.bs) := hno
    clear hno
    go_wp2
    refine bodyPost_ret (results_entry3 rfl _ _ w.heap.size 51 _ _ rfl (heap_four _ _ _ _ _ _ _ _ _ _ _ HR.out) (by exact size23)) rfl ?_
    exact ⟨.inl ⟨rfl, HNO.out⟩, bel_four HB1.out (Nat.le_refl _) _ _ _ _⟩
  · have HIF : Hid (IsFile a.bs l) := hIF
    have hks := ks_isIn key (fit_ks hIF.1)
    have hlen := (fit_len hIF.1).2
    have hpos := (fit_len hIF.1).1
    obtain ⟨g2, c2, hv2, hEn, -⟩ := own_shapeT hown hpos
    injection hv2 with e1 e2 e3
    injection e1 with e1
    injection e1 with e1
    subst e1
    have hEV : EntsV w1 (some ⟨g, 0, none⟩) l.length l := ⟨rfl, fun _ => ⟨g, 0, rfl, hEn⟩⟩
    have CF := find_any (some ⟨g, 0, none⟩) l.length c l key w1 hEV (by omega)
    obtain ⟨L, HLL⟩ : ∃ L, Hid (l.length = L) := ⟨_, rfl⟩
    obtain ⟨p, HP⟩ : ∃ p, Hid (belowN key l = p) := ⟨_, rfl⟩
    obtain ⟨q, HQ⟩ : ∃ q, Hid (isIn key l = q) := ⟨_, rfl⟩
    have HEV : Hid (EntsV w1 (some ⟨g, 0, none⟩) l.length l) := hEV
    rw [HLL.out, HP.out, HQ.out] at CF
    rw [HQ.out, HP.out, HLL.out] at hks
    rw [HLL.out] at HEV ⊢
    have HCF : Hid _ := CF
    have HKS : Hid _ := hks
    clear CF hIF hEV r0 r1 r2 r3 y0 hown hEn e2 e3 hlen hpos hks
    go_wp2_with fail
    refine Calls.mono HCF.out ?_
    rintro e w2 ⟨rfl, hb2⟩
    have hR2 : w2.heap[w.heap.size]? = some (.cells #[.string ByteArray.empty, .string ByteArray.empty, .bool false, .int .i64 0] 51 (0, 0)) := by
      rw [hb2.block w.heap.size (Array.getElem?_eq_some_iff.1 HR.out).1]; exact HR.out
    have HR2 : Hid _ := hR2
    have HB2 : Hid (Below w.heap.size w w2) := HB1.out.trans (hb2.mono HB1.out.size)
    have HEV2 : Hid (EntsV w2 (some ⟨g, 0, none⟩) L l) := HEV.out.below hb2 (Nat.le_refl _)
    have r0 : w2.cell? ⟨w.heap.size, 0, none⟩ = some (.string ByteArray.empty) := by simp [World.cell?, hR2]
    have r1 : w2.cell? ⟨w.heap.size, 1, none⟩ = some (.string ByteArray.empty) := by simp [World.cell?, hR2]
    have r2 : w2.cell? ⟨w.heap.size, 2, none⟩ = some (.bool false) := by simp [World.cell?, hR2]
    have r3 : w2.cell? ⟨w.heap.size, 3, none⟩ = some (.int .i64 0) := by simp [World.cell?, hR2]
    have y0 : ∀ j, w2.frozen? ⟨w.heap.size, j, none⟩ = false := fun j => by simp [World.frozen?, hR2]
    clear hb2 hR2 HCF HEV HR
    cases q with
    | true =>
      have hp : p < L := by
        have := HKS.out.symm
        rw [Bool.and_eq_true, decide_eq_true_eq] at this
        exact this.1
      have hpz : (p : Int) < (L : Int) := lt_z hp
      have HSV : Hid (getVT l key = .tuple #[.agg (encE l[p]!).toArray, .bool true, .int .i64 0]) := by show _ = _; unfold getVT; rw [HP.out, HQ.out, if_pos rfl]
      obtain ⟨b, off, hao, hEn⟩ := HEV2.out.2 (Nat.lt_of_le_of_lt (Nat.zero_le _) hp)
      cases hao
      obtain ⟨k0, v0, d0, q0, HX⟩ : ∃ k0 v0 d0 q0, Hid (l[p]! = E.mk k0 v0 d0 q0) := ⟨_, _, _, _, rfl⟩
      obtain ⟨c0, c1, c2, c3⟩ := ents_four hEn p (by rw [HLL.out]; exact hp) HX.out
      simp only [Nat.zero_add] at c0 c1 c2 c3
      clear hEn
      go_wp2
      refine bodyPost_ret (results_entry3 rfl _ _ w.heap.size 51 _ _ rfl (heap_four _ _ _ _ _ _ _ _ _ _ _ HR2.out) (by exact size23)) rfl ?_
      refine ⟨.inr ⟨l, ?_, HIF.out⟩, bel_four HB2.out (Nat.le_refl _) _ _ _ _⟩
      rw [HSV.out, HX.out]
      rfl
    | false =>
      have HSV : Hid (getVT l key = .tuple #[zeroE, .bool false, .int .i64 0]) := by show _ = _; unfold getVT; rw [HQ.out]; rfl
      go_wp2
      refine bodyPost_ret (results_entry3 rfl _ _ w.heap.size 51 _ _ rfl (heap_four _ _ _ _ _ _ _ _ _ _ _ HR2.out) (by exact size23)) rfl ?_
      refine ⟨.inr ⟨l, ?_, HIF.out⟩, bel_four HB2.out (Nat.le_refl _) _ _ _ _⟩
      rw [HSV.out]
      rfl
end Go.Proofs.YtcgjhopfdpaocaaDoor

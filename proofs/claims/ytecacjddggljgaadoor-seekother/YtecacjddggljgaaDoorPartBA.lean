/-
  What marlstonelaw04's few and shown answer: contracts over this translation. Just what is fit has a block: what the law BlockFits answers, for any arguments. Keys that begin alike take less room: what the law BlockSmall answers, for any arguments.
-/
import Derived.Test.YtecacjddggljgaaDoorPartAJ
namespace Go.Proofs.YtecacjddggljgaaDoor
open Go.RowKit Go.Sort Go.Shelf
set_option linter.unusedSectionVars false
variable [Inhabited E] [DecidableEq E]
set_option maxRecDepth 100000 in
set_option maxHeartbeats 4000000 in
theorem few4_any (ao : Option Addr) (n c most : Nat) (es : List E) (w : World) (hE : EntsV w ao n es) (hsm : Small es) (hbig : n ≤ 9223372036854775807) (hmost : most ≤ 1000) :
    Calls Tryd.prog 11 #[.slice ao n c, .int .i64 most] w fun e w' => ∃ v', e = .returned v' ∧ w'.ownsRow w.heap.size 54 4 v' (fewS 130 1030 most es).length (flatE (fewS 130 1030 most es)) ∧ Below w.heap.size w w' := by
  obtain ⟨i0, hi, hz0, hz1, hz2⟩ := info_parts info23
  have HE : Hid _ := hE
  clear hE
  go_enter Tryd.func11, Tryd.ntmps11
  go_wp2
  go_loopw [5, 6, 7] (fun o x _ wr => ∃ i : Nat, x = .int .i64 i ∧ i ≤ n ∧ i ≤ most ∧ wr.ownsRow w.heap.size 54 4 o (fewS 130 1030 i es).length (flatE (fewS 130 1030 i es)) ∧ Below w.heap.size w wr) (fun _ x _ _ => n - (intOf x).toNat)
  case atStart => exact ⟨0, rfl, by omega, by omega, World.ownsRow_nil _ _ _ _, Below.refl _ _⟩
  case round =>
    obtain ⟨i, rfl, hin, him, hown, hbel⟩ := hrel
    by_cases hlt : i < n
    · have hltz : (i : Int) < (n : Int) := by omega
      by_cases hlm : i < most
      · have hlmz : (i : Int) < (most : Int) := by omega
        obtain ⟨b, off, hao, hEn⟩ := HE.out.2 (by omega)
        have hln := HE.out.1
        have hEr : Ents wr b off es := hEn.below hbel (Nat.le_refl _)
        obtain ⟨k0, v0, d0, q0, HX⟩ : ∃ k0 v0 d0 q0, Hid (es[i]! = E.mk k0 v0 d0 q0) := ⟨_, _, _, _, rfl⟩
        obtain ⟨c0, c1, c2, c3⟩ := ents_four hEr i (by omega) HX.out
        obtain ⟨s0, s1⟩ := small_at hsm i (by omega) HX.out
        subst hao
        obtain ⟨m1, hm1⟩ : ∃ m, m = min k0.size 130 := ⟨_, rfl⟩
        obtain ⟨m2, hm2⟩ : ∃ m, m = min v0.size 1030 := ⟨_, rfl⟩
        have hz3 : min ((k0.size : Nat) : Int) 130 = (m1 : Int) := by omega
        have hz4 : min ((v0.size : Nat) : Int) 1030 = (m2 : Int) := by omega
        have hl1 : (m1 : Int) ≤ (k0.size : Int) := by omega
        have hl2 : (m2 : Int) ≤ (v0.size : Int) := by omega
        have HY : Hid (cutE 130 1030 ⟨k0, v0, d0, q0⟩ = ⟨k0.extract 0 m1, v0.extract 0 m2, d0, q0⟩) := by show _ = _; rw [cutE, hm1, hm2]
        clear hm1 hm2
        obtain ⟨done, HD⟩ : ∃ done, Hid (fewS 130 1030 i es = done) := ⟨_, rfl⟩
        rw [HD.out] at hown
        have hlenD : done.length ≤ 1000 := by rw [← HD.out, fewS_len]; omega
        have HBO : Hid _ := And.intro hown hbel
        clear hEr hEn hown hbel hln
        obtain ⟨w5, HW5⟩ : ∃ w5, Hid (w5 = wr.alloc (Obj.cells #[.string (k0.extract 0 m1), .string (v0.extract 0 m2), .bool d0, .int .i64 q0] 54)) := ⟨_, rfl⟩
        have hb5 : Below wr.heap.size wr w5 := by rw [HW5.out]; exact bel_alloc _ _
        have hbel5 : Below w.heap.size w w5 := HBO.out.2.trans (hb5.mono HBO.out.2.size)
        have HOA : Hid ((w5.alloc (Obj.cells #[.string (k0.extract 0 m1), .string (v0.extract 0 m2), .bool d0, .int .i64 q0] 54)).ownsRow w.heap.size 54 4 u5 done.length (flatE done)) := (own_below HBO.out.1 hb5 (Nat.le_refl _)).alloc _
        have HCA : Hid (∀ j u, (encE (E.mk (k0.extract 0 m1) (v0.extract 0 m2) d0 q0))[j]? = some u → (w5.alloc (Obj.cells #[.string (k0.extract 0 m1), .string (v0.extract 0 m2), .bool d0, .int .i64 q0] 54)).cell? ((⟨w5.heap.size, 0, none⟩ : Addr).add j) = some u) := ent_laid w5 _ _ d0 q0
        have HBA : Hid (w.heap.size ≤ (w5.alloc (Obj.cells #[.string (k0.extract 0 m1), .string (v0.extract 0 m2), .bool d0, .int .i64 q0] 54)).heap.size) := by show _ ≤ _; have := hbel5.size; simp; omega
        have HB5 : Hid _ := hbel5
        clear hb5 hbel5
        rw [HW5.out] at HOA HCA HBA
        have hsz5 : (wr.alloc (Obj.cells #[.string (k0.extract 0 m1), .string (v0.extract 0 m2), .bool d0, .int .i64 q0] 54)).heap.size = wr.heap.size + 1 := by simp
        rw [hsz5] at HCA
        clear hsz5
        go_wp2_with (at_builtin; refine wpList_append_own _ rfl (.tmp 39) (.tmp 41) 22 rfl w.heap.size 54 i0 _ 4 48 Tryd.underlying22 hi hz0 hz1 hz2 rfl (by decide) _ done.length (flatE done) rfl HOA.out ⟨wr.heap.size + 1, 0, none⟩ 1 1 (encE (E.mk (k0.extract 0 m1) (v0.extract 0 m2) d0 q0)) rfl rfl HCA.out (encE_one _) (by unfold maxLen; omega) (by omega) HBA.out ?_)
        intro v' w6 hown6 hgr6 _
        have hbel6 : Below w.heap.size w w6 := (HB5.out.alloc HB5.out.size _).trans (by rw [HW5.out]; exact (Below.refl _ _).grown hgr6 HBA.out (fun k hk => (HOA.out.lt k hk).1))
        clear hgr6 HOA HCA
        have HN : Hid _ := And.intro hown6 hbel6
        clear hown6 hbel6
        go_wp2
        go_roundw
        case rel =>
          refine ⟨i + 1, by go_num, by omega, by omega, ?_, HN.out.2⟩
          rw [fewS_snoc _ _ _ _ (by rw [HE.out.1]; omega), HD.out, HX.out, HY.out, flatE_append, List.length_append]
          simpa [flatE] using HN.out.1
        case measure => simp [intOf]; omega
      · have hlmz : ¬ (i : Int) < (most : Int) := by omega
        have hi2 : i = most := by omega
        have HN : Hid _ := And.intro hown hbel
        clear hown hbel
        go_wp2
        go_ret
        exact ⟨_, rfl, by rw [← hi2]; exact HN.out.1, HN.out.2⟩
    · have hltz : ¬ (i : Int) < (n : Int) := by omega
      have HT : Hid (fewS 130 1030 most es = fewS 130 1030 i es) := fewS_all _ _ _ _ (by rw [HE.out.1]; omega) _ (by rw [HE.out.1]; omega)
      have HN : Hid _ := And.intro hown hbel
      clear hown hbel
      go_wp2
      go_ret
      exact ⟨_, rfl, by rw [HT.out]; exact HN.out.1, HN.out.2⟩
def eA1 : E := ⟨⟨#[97]⟩, ⟨#[118]⟩, false, 1⟩
def eAB : E := ⟨⟨#[97, 98]⟩, ⟨#[]⟩, true, 2⟩
theorem block_shown : blockB [eA1, eAB] = [0, 1, 97, 0, 1, 1, 118, 1, 1, 98, 1, 2, 0, 0, 0, 0, 0, 0, 0, 1] := by kernel_rfl
theorem fit_shown : fitB [eA1, eAB] = true := by decide
theorem small_shown : Small [eA1, eAB] := by
  intro e he
  simp only [List.mem_cons, List.not_mem_nil, or_false] at he
  rcases he with rfl | rfl <;> exact ⟨by decide, by decide⟩
theorem ents_two (w : World) : Ents (w.alloc (Obj.cells (flatE [eA1, eAB]).toArray 54)) w.heap.size 0 [eA1, eAB] := fun j u hu => by
  have hb : (w.alloc (Obj.cells (flatE [eA1, eAB]).toArray 54)).heap[w.heap.size]? = some (Obj.cells (flatE [eA1, eAB]).toArray 54) := by rw [heap_alloc_get, if_pos rfl]
  rw [Nat.zero_add, cell_of_row _ _ _ _ _ _ hb]
  simpa using hu
end Go.Proofs.YtecacjddggljgaaDoor
namespace Go.Proofs.YtecacjddggljgaaDoor
open Go.RowKit Go.Sort Go.Shelf
set_option linter.unusedSectionVars false
variable [Inhabited E] [DecidableEq E]
theorem all_snoc (es : List E) (i : Nat) (h : i < es.length) : (es.take (i + 1)).all rightB = ((es.take i).all rightB && rightB es[i]!) := by
  rw [take_snoc es i h, List.all_append]; simp
end Go.Proofs.YtecacjddggljgaaDoor
namespace Go.Proofs.YtecacjddggljgaaDoor
open Go.RowKit Go.Sort Go.Shelf
set_option linter.unusedSectionVars false
variable [Inhabited E] [DecidableEq E]
/-- Entries, folded, those that are right, at most as many as a block has. -/
def fitS (es : List E) : List E := ((foldS (fewS 130 1030 70 es)).filter rightB).take 64
theorem insS_all {p : E → Prop} {a : List E} {e : E} (ha : ∀ x ∈ a, p x) (he : p e) : ∀ x ∈ insS a e, p x := by
  intro x hx
  rcases insS_mem hx with rfl | h
  · exact he
  · exact ha x h
theorem foldl_all {p : E → Prop} : ∀ (l a : List E), (∀ x ∈ a, p x) → (∀ x ∈ l, p x) → ∀ x ∈ l.foldl insS a, p x
  | [], _, ha, _ => ha
  | e :: l, a, ha, hl => foldl_all l (insS a e) (insS_all ha (hl e (List.mem_cons_self ..))) (fun x hx => hl x (List.mem_cons_of_mem _ hx))
theorem foldS_all {p : E → Prop} {l : List E} (h : ∀ x ∈ l, p x) : ∀ x ∈ foldS l, p x := foldl_all l [] (fun _ hx => by cases hx) h
theorem fitS_right (es : List E) : (fitS es).all rightB = true := by
  rw [List.all_eq_true]
  intro e he
  exact (List.mem_filter.1 (List.mem_of_mem_take he)).2
theorem fitS_ks (es : List E) : Ks (fitS es) := ((ks_foldS _).sublist List.filter_sublist).sublist (List.take_sublist _ _)
theorem fitS_len (es : List E) : (fitS es).length ≤ 64 := by unfold fitS; rw [List.length_take]; omega
theorem fitS_fit (es : List E) (h : 1 ≤ (fitS es).length) : fitB (fitS es) = true := by
  unfold fitB
  rw [decide_eq_true ⟨h, fitS_len es⟩, fitS_right, sortedB_ks.2 (fitS_ks es)]
  rfl
theorem right_small {es : List E} (h : es.all rightB = true) : Small es := by
  intro e he
  rw [List.all_eq_true] at h
  obtain ⟨h1, h2, _⟩ := right_parts (h e he)
  exact ⟨by omega, by omega⟩
set_option maxRecDepth 100000 in
set_option maxHeartbeats 4000000 in
theorem fit4_any (ao : Option Addr) (n c : Nat) (es : List E) (w : World) (hE : EntsV w ao n es) (hsm : Small es) (hbig : n ≤ 9223372036854775807) :
    Calls Tryd.prog 29 #[.slice ao n c] w fun e w' => ∃ v', e = .returned v' ∧ w'.ownsRow w.heap.size 54 4 v' (fitS es).length (flatE (fitS es)) ∧ Below w.heap.size w w' := by
  obtain ⟨i0, hi, hz0, hz1, hz2⟩ := info_parts info23
  obtain ⟨out, HOUT⟩ : ∃ o, Hid (fitS es = o) := ⟨_, rfl⟩
  rw [HOUT.out]
  go_enter Tryd.func29, Tryd.ntmps29
  go_wp2_with fail
  refine (few4_any ao n c 70 es w hE hsm hbig (by omega)).mono ?_
  rintro e w1 ⟨v1, rfl, hown1, hb1⟩
  have hl1 := fewS_len 130 1030 70 es
  have hs1 := fewS_small 130 1030 70 es hsm
  obtain ⟨fs, HF⟩ : ∃ fs, Hid (fewS 130 1030 70 es = fs) := ⟨_, rfl⟩
  rw [HF.out] at hown1 hl1 hs1
  obtain ⟨ao1, c1, rfl, hE1⟩ := own_entsV hown1 rfl
  have HB1 : Hid _ := hb1
  clear hown1 hb1 hE hsm
  have h70 : fs.length ≤ 70 := by omega
  clear hl1
  go_wp2_with fail
  refine (fold_any ao1 fs.length c1 fs w1 hE1 (by omega)).mono ?_
  rintro e w2 ⟨v2, rfl, hown2, hb2⟩
  have hl2 := foldS_len fs
  have hs2 : Small (foldS fs) := foldS_all hs1
  have HOF : Hid (out = ((foldS fs).filter rightB).take 64) := by show _ = _; rw [← HOUT.out, fitS, HF.out]
  obtain ⟨f, HG⟩ : ∃ f, Hid (foldS fs = f) := ⟨_, rfl⟩
  rw [HG.out] at hown2 hl2 hs2 HOF
  obtain ⟨ao2, c2, rfl, hE2⟩ := own_entsV hown2 rfl
  obtain ⟨l, HL⟩ : ∃ l, Hid (f.length = l) := ⟨_, rfl⟩
  have hl70 : l ≤ 70 := by rw [← HL.out]; omega
  rw [HL.out] at hE2 ⊢
  have HE2 : Hid _ := hE2
  have HS2 : Hid _ := hs2
  have HB2 : Hid (Below w.heap.size w w2) := HB1.out.trans (hb2.mono HB1.out.size)
  clear hown2 hb2 hE1 hE2 hs1 hs2 hl2
  go_wp2
  go_loopw [3, 5] (fun o x wr => ∃ i : Nat, x = .int .i64 i ∧ i ≤ l ∧ ((f.take i).filter rightB).length ≤ 64 ∧ wr.ownsRow w2.heap.size 54 4 o ((f.take i).filter rightB).length (flatE ((f.take i).filter rightB)) ∧ Below w2.heap.size w2 wr) (fun _ x _ => l - (intOf x).toNat)
  case atStart => exact ⟨0, rfl, by omega, by simp, World.ownsRow_nil _ _ _ _, Below.refl _ _⟩
  case round =>
    obtain ⟨i, rfl, hil, h64, hown, hbel⟩ := hrel
    obtain ⟨done, HD⟩ : ∃ d, Hid ((f.take i).filter rightB = d) := ⟨_, rfl⟩
    rw [HD.out] at h64 hown
    obtain ⟨aod, cd, hvd, hEd⟩ := own_entsV hown rfl
    subst hvd
    obtain ⟨dl, HDL⟩ : ∃ d, Hid (done.length = d) := ⟨_, rfl⟩
    rw [HDL.out] at hown h64
    rw [HDL.out]
    have HO : Hid _ := And.intro hown hbel
    clear hown hbel hEd
    by_cases hlt : i < l
    · have hltz : (i : Int) < (l : Int) := by omega
      by_cases hd64 : dl < 64
      · have hd64z : (dl : Int) < 64 := by omega
        obtain ⟨b, off, hao, hEn⟩ := HE2.out.2 (by omega)
        have hEr : Ents wr b off f := hEn.below HO.out.2 (Nat.le_refl _)
        obtain ⟨k0, v0, d0, q0, HX⟩ : ∃ k0 v0 d0 q0, Hid (f[i]! = E.mk k0 v0 d0 q0) := ⟨_, _, _, _, rfl⟩
        obtain ⟨c0, c1', c2', c3⟩ := ents_four hEr i (by rw [HL.out]; omega) HX.out
        obtain ⟨s0, s1⟩ := small_at HS2.out i (by rw [HL.out]; omega) HX.out
        subst hao
        obtain ⟨r, HR⟩ : ∃ r, Hid (rightB ⟨k0, v0, d0, q0⟩ = r) := ⟨_, rfl⟩
        have CR := fun w => right_any k0 v0 d0 q0 w s0 s1
        rw [HR.out] at CR
        have HCR : Hid _ := CR
        have HSN : Hid ((f.take (i + 1)).filter rightB = done ++ if r then [⟨k0, v0, d0, q0⟩] else []) := by
          show _ = _
          rw [take_snoc f i (by rw [HL.out]; omega), List.filter_append, HD.out, HX.out]
          congr 1
          rw [List.filter_cons, HR.out]
          cases r <;> simp
        have HEN : Hid _ := hEn
        clear CR hEr hEn s0 s1
        go_wp2_with fail
        refine (HCR.out _).mono ?_
        rintro e w4 ⟨rfl, hb4⟩
        have hB4 : Below w2.heap.size w2 w4 := HO.out.2.trans (hb4.mono HO.out.2.size)
        have HO4 : Hid (w4.ownsRow w2.heap.size 54 4 (.slice aod dl cd) dl (flatE done)) := own_below HO.out.1 hb4 (Nat.le_refl _)
        clear c0 c1' c2' c3 hb4
        cases r with
        | false =>
          have HN : Hid _ := hB4
          clear hB4
          go_wp2
          go_roundw
          case rel => exact ⟨i + 1, by go_num, by omega, by rw [HSN.out]; simp; rw [HDL.out]; omega, by rw [HSN.out]; simp only [Bool.false_eq_true, if_false, List.append_nil]; rw [HDL.out]; exact HO4.out, HN.out⟩
          case measure => simp [intOf]; omega
        | true =>
          obtain ⟨c0, c1', c2', c3⟩ := ents_four (Ents.below HEN.out hB4 (Nat.le_refl _)) i (by rw [HL.out]; omega) HX.out
          have HOA : Hid ((w4.alloc (Obj.cells #[.string k0, .string v0, .bool d0, .int .i64 q0] 54)).ownsRow w2.heap.size 54 4 (.slice aod dl cd) dl (flatE done)) := HO4.out.alloc _
          have HCA : Hid (∀ j u, (encE (E.mk k0 v0 d0 q0))[j]? = some u → (w4.alloc (Obj.cells #[.string k0, .string v0, .bool d0, .int .i64 q0] 54)).cell? ((⟨w4.heap.size, 0, none⟩ : Addr).add j) = some u) := ent_laid w4 k0 v0 d0 q0
          have HBA : Hid (w2.heap.size ≤ (w4.alloc (Obj.cells #[.string k0, .string v0, .bool d0, .int .i64 q0] 54)).heap.size) := by show _ ≤ _; have := hB4.size; simp; omega
          have HB4 : Hid _ := hB4
          clear hB4
          go_wp2_with (at_builtin; refine wpList_append_own _ rfl (.tmp 25) (.tmp 30) 22 rfl w2.heap.size 54 i0 _ 4 48 Tryd.underlying22 hi hz0 hz1 hz2 rfl (by decide) _ dl (flatE done) rfl HOA.out ⟨w4.heap.size, 0, none⟩ 1 1 (encE (E.mk k0 v0 d0 q0)) rfl rfl HCA.out (encE_one _) (by unfold maxLen; omega) (by omega) HBA.out ?_)
          intro v' w6 hown6 hgr6 _
          have hbel6 : Below w2.heap.size w2 w6 := (HB4.out.alloc HB4.out.size _).trans ((Below.refl _ _).grown hgr6 HBA.out (fun k hk => (HOA.out.lt k hk).1))
          clear hgr6 HOA HCA c0 c1' c2' c3
          have HN : Hid _ := And.intro hown6 hbel6
          clear hown6 hbel6
          go_wp2
          go_roundw
          case rel =>
            refine ⟨i + 1, by go_num, by omega, by rw [HSN.out, List.length_append, HDL.out]; simp; omega, ?_, HN.out.2⟩
            rw [HSN.out, flatE_append, List.length_append, HDL.out]
            simpa [flatE] using HN.out.1
          case measure => simp [intOf]; omega
      · have hd64z : ¬ (dl : Int) < 64 := by omega
        have HFI : Hid (out = done) := by
          show _ = _
          have h1 : f.filter rightB = done ++ (f.drop i).filter rightB := by rw [← HD.out, ← List.filter_append, List.take_append_drop]
          rw [HOF.out, h1, List.take_append_of_le_length (by rw [HDL.out]; omega), List.take_of_length_le (by rw [HDL.out]; omega)]
        have HN : Hid _ := And.intro (ownsRow_mono HO.out.1 HB2.out.size) (HB2.out.trans (HO.out.2.mono HB2.out.size))
        clear HO
        go_wp2
        go_ret
        exact ⟨_, rfl, by rw [HFI.out, HDL.out]; exact HN.out.1, HN.out.2⟩
    · have hltz : ¬ (i : Int) < (l : Int) := by omega
      have HFI : Hid (out = done) := by
        show _ = _
        have h1 := HD.out
        rw [List.take_of_length_le (by rw [HL.out]; omega)] at h1
        rw [HOF.out, h1, List.take_of_length_le (by rw [HDL.out]; omega)]
      have HN : Hid _ := And.intro (ownsRow_mono HO.out.1 HB2.out.size) (HB2.out.trans (HO.out.2.mono HB2.out.size))
      clear HO
      go_wp2
      go_ret
      exact ⟨_, rfl, by rw [HFI.out, HDL.out]; exact HN.out.1, HN.out.2⟩
theorem pressB_small (ah : ByteArray) (e : E) (h : rightB e = true) : (pressB ah e).length ≤ (bytesB e).length + 1 := by
  obtain ⟨h1, h2, qn, h3, h4, h5⟩ := right_parts h
  have hc := (comN_le (strB ah) (strB e.key)).2
  rw [strB_length] at hc
  have hk : (strB e.key).length = e.key.size := strB_length _
  generalize hcc : comN (strB ah) (strB e.key) = c at hc
  have a1 : (putB c).length ≤ c + 1 := by
    by_cases hz : c = 0
    · subst hz; decide
    · by_cases h7 : c < 128
      · rw [putB_small c h7]; simp
      · have := putB_more c (by omega) (by omega)
        rw [this, putB_small _ (by omega)]; simp; omega
  have a2 : (putB (e.key.size - c)).length ≤ (putB e.key.size).length := sz_mono _ _ (by omega)
  unfold pressB bytesB headB textB
  rw [h, hcc]
  simp only [if_true, List.length_append, List.length_cons, List.length_drop, hk]
  cases e.del with
  | true => simp; omega
  | false => simp; omega
/-- How long the bytes of the first entries are together, and one for each. -/
def sumB (es : List E) : Nat → Nat
  | 0 => 0
  | i + 1 => sumB es i + 1 + (bytesB es[i]!).length
theorem bodyB_small (es : List E) (hr : es.all rightB = true) : ∀ i, i ≤ es.length → (bodyB es i).length ≤ sumB es i
  | 0, _ => by simp [bodyB, sumB]
  | i + 1, h => by
    have h1 := bodyB_small es hr i (by omega)
    have h2 := pressB_small (aheadK es i) es[i]! (take_right hr i (by omega))
    rw [bodyB, List.length_append, sumB]; omega
theorem sumB_le (es : List E) : ∀ i, sumB es i ≤ 1201 * i
  | 0 => by simp [sumB]
  | i + 1 => by
    have h1 := sumB_le es i
    have h2 := bytesB_len es[i]!
    rw [sumB]; omega
end Go.Proofs.YtecacjddggljgaaDoor

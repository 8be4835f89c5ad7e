/-
  What Bytes, Text and Digest of the document answer: contracts over this translation.
-/
import Derived.Test.YtiimmknnlciljaaDoorSuRr
import Derived.Test.YtiimmknnlciljaaDoorSuD
import Derived.Test.YtiimmknnlciljaaDoorSRefKept
namespace Go.Proofs.YtiimmknnlciljaaDoor
open Go.RowKit Go.Sort Go.Shelf
set_option linter.unusedSectionVars false
variable [Inhabited E] [DecidableEq E]
/-- A text of these bytes. -/
def mkS (l : List UInt8) : ByteArray := ⟨l.toArray⟩
theorem mkS_size (l : List UInt8) : (mkS l).size = l.length := by
  show l.toArray.size = _; rw [List.size_toArray]
theorem mkS_strB (l : List UInt8) : strB (mkS l) = l := strB_mk l
theorem mkS_append (a b : List UInt8) : mkS a ++ mkS b = mkS (a ++ b) := by
  show ByteArray.mk a.toArray ++ ByteArray.mk b.toArray = ByteArray.mk (a ++ b).toArray
  rw [ByteArray.mk_append_mk]
set_option maxRecDepth 100000 in
set_option maxHeartbeats 16000000 in
theorem refBytes14_any (ao : Option Addr) (n c : Nat) (ts : List Tb) (w : World) (hE : TabsV w ao n ts) (hsm : SmallT ts) (hbig : n ≤ 9223372036854775807) :
    Calls Tryd.prog 14 #[.slice ao n c] w fun e w' => e = .returned (.tuple #[.string (if rightTB ts then mkS (sumB ts) else ByteArray.empty), .int .i64 (if rightTB ts then 0 else 1)]) ∧ Below w.heap.size w w' := by
  have HE : Hid _ := hE
  have HRT := refRight14_any ao n c ts w hE hsm hbig
  obtain ⟨r, HR⟩ : ∃ r, Hid (rightTB ts = r) := ⟨_, rfl⟩
  rw [HR.out] at HRT ⊢
  obtain ⟨er, HER⟩ : ∃ er : Int, Hid ((if r then (0 : Int) else 1) = er) := ⟨_, rfl⟩
  obtain ⟨sr, HSR⟩ : ∃ s : ByteArray, Hid ((if r then mkS (sumB ts) else ByteArray.empty) = s) := ⟨_, rfl⟩
  rw [HER.out, HSR.out]
  clear hE hsm
  go_enter Tryd.func14, Tryd.ntmps14
  go_wp2_with fail
  refine HRT.mono ?_
  rintro e w1 ⟨rfl, hb1⟩
  cases r with
  | false =>
    obtain rfl : er = 1 := HER.out.symm
    obtain rfl : sr = ByteArray.empty := HSR.out.symm
    go_wp2
    go_ret2
    exact ⟨rfl, hb1⟩
  | true =>
    obtain rfl : er = 0 := HER.out.symm
    have HSQ : Hid (sr = mkS (sumB ts)) := HSR.out.symm
    have hright : rightT ts := rightTB_iff.1 HR.out
    have HRI : Hid (rightT ts) := hright
    have hn5 : n ≤ 512 := by have := hright.1; rw [HE.out.1] at this; exact this
    have HB1 : Hid (Below w.heap.size w w1) := hb1
    clear hright hb1 HER HSR
    go_wp2_with fail
    refine (refPut_any ⟨#[]⟩ n w1 (by omega) (by show (0 : Nat) ≤ _; omega)).mono ?_
    rintro e w2 ⟨rfl, hb2⟩
    have HB2 : Hid (Below w.heap.size w w2) := HB1.out.trans (hb2.mono HB1.out.size)
    have HT0 : Hid ((⟨(strB ⟨#[]⟩ ++ putB n).toArray⟩ : ByteArray) = mkS (putB n)) := rfl
    rw [HT0.out]
    clear hb2 HB1
    go_wp2
    go_loopw [5, 6, 7] (fun o x _ wr => ∃ i : Nat, x = .int .i64 i ∧ i ≤ n ∧ o = .string (mkS (putB n ++ (ts.take i).flatMap writtenB)) ∧ Below w.heap.size w wr) (fun _ x _ _ => n - (intOf x).toNat)
    case atStart => exact ⟨0, rfl, by omega, by simp, HB2.out⟩
    case round =>
      obtain ⟨i, rfl, hin, rfl, hbel⟩ := hrel
      by_cases hlt : i < n
      · have hltz : (i : Int) < (n : Int) := by omega
        obtain ⟨b, off, hao, hEn⟩ := HE.out.2 (by omega)
        have hln := HE.out.1
        obtain ⟨x, HX⟩ : ∃ x, Hid (ts.getD i zT = x) := ⟨_, rfl⟩
        have HRX : Hid (wr.rangeAt b (off + i * 36) (encT x)) := tabs_range (hEn.below hbel (Nat.le_refl _)) i (by omega) HX.out
        have hone : oneT x := by rw [← HX.out]; exact (HRI.out.2 i (by omega)).1
        subst hao
        obtain ⟨D, HD⟩ : ∃ D, Hid (putB n ++ (ts.take i).flatMap writtenB = D) := ⟨_, rfl⟩
        rw [HD.out]
        have hlenD : D.length ≤ 200000 := by rw [← HD.out, List.length_append]; have := putB_le n; have := flat_take_len HRI.out i; omega
        have HN : Hid (putB n ++ (ts.take (i + 1)).flatMap writtenB = D ++ writtenB x) := by
          show _ = _
          rw [flat_snoc ts i (by omega), HX.out, ← List.append_assoc, HD.out]
        obtain ⟨lv, hlv⟩ : ∃ k : Nat, x.lv = (k : Int) := ⟨x.lv.toNat, by have := hone.1; omega⟩
        obtain ⟨ct, hct⟩ : ∃ k : Nat, x.ct = (k : Int) := ⟨x.ct.toNat, by have := hone.2.2.1; omega⟩
        have hlv1 : lv ≤ 4 := by have := hone.2.1; omega
        have hct1 : ct ≤ 64 := by have := hone.2.2.2.1; omega
        obtain ⟨f, HFF⟩ : ∃ f, Hid (x.first = f) := ⟨_, rfl⟩
        obtain ⟨l, HLL⟩ : ∃ f, Hid (x.last = f) := ⟨_, rfl⟩
        obtain ⟨rt, HRT⟩ : ∃ f, Hid (x.root = f) := ⟨_, rfl⟩
        have hf1 : f.size ≤ 128 := by rw [← HFF.out]; exact key_small hone.2.2.2.2.1
        have hl1 : l.size ≤ 128 := by rw [← HLL.out]; exact key_small hone.2.2.2.2.2.1
        have hrl : rt.length = 32 := by rw [← HRT.out]; exact x.hr
        have HWB : Hid (writtenB x = putB lv ++ putB ct ++ rt ++ textB (strB f) ++ textB (strB l)) := by
          show _ = _
          unfold writtenB; rw [hlv, hct, HFF.out, HLL.out, HRT.out]; rfl
        have HCELL : Hid (∀ W g, Box W g x → W.cell? ⟨g, 0, none⟩ = some (.int .i64 (lv : Int)) ∧ W.cell? ⟨g, 1, none⟩ = some (.int .i64 (ct : Int)) ∧ W.cell? ⟨g, 34, none⟩ = some (.string f) ∧ W.cell? ⟨g, 35, none⟩ = some (.string l) ∧ Bytes W (some ⟨g, 2, none⟩) 32 rt) := fun W g h => by
          have h4 := h.four
          have h5 := root_bytes h
          rw [hlv, hct, HFF.out, HLL.out] at h4
          rw [HRT.out] at h5
          exact ⟨h4.1, h4.2.1, h4.2.2.1, h4.2.2.2, h5⟩
        have HWV : Hid (IntKind.u64.wrap (lv : Int) = (lv : Int)) := IntWalk.u64_in _ ⟨by omega, by omega⟩
        have HWC : Hid (IntKind.u64.wrap (ct : Int) = (ct : Int)) := IntWalk.u64_in _ ⟨by omega, by omega⟩
        obtain ⟨t0, HT⟩ : ∃ t, Hid (mkS D = t) := ⟨_, rfl⟩
        obtain ⟨t1, HT1⟩ : ∃ t, Hid (t = (⟨(strB t0 ++ putB lv).toArray⟩ : ByteArray)) := ⟨_, rfl⟩
        obtain ⟨t2, HT2⟩ : ∃ t, Hid (t = (⟨(strB t1 ++ putB ct).toArray⟩ : ByteArray)) := ⟨_, rfl⟩
        obtain ⟨t3, HT3⟩ : ∃ t, Hid (t = t2 ++ (⟨rt.toArray⟩ : ByteArray)) := ⟨_, rfl⟩
        obtain ⟨t4, HT4⟩ : ∃ t, Hid (t = (⟨(strB t3 ++ textB (strB f)).toArray⟩ : ByteArray)) := ⟨_, rfl⟩
        obtain ⟨t5, HT5⟩ : ∃ t, Hid (t = (⟨(strB t4 ++ textB (strB l)).toArray⟩ : ByteArray)) := ⟨_, rfl⟩
        have q0 : t0 = mkS D := HT.out.symm
        have q1 : t1 = mkS (D ++ putB lv) := by rw [HT1.out, q0, mkS_strB]; rfl
        have q2 : t2 = mkS (D ++ putB lv ++ putB ct) := by rw [HT2.out, q1, mkS_strB]; rfl
        have q3 : t3 = mkS (D ++ putB lv ++ putB ct ++ rt) := by rw [HT3.out, q2]; exact mkS_append _ _
        have q4 : t4 = mkS (D ++ putB lv ++ putB ct ++ rt ++ textB (strB f)) := by rw [HT4.out, q3, mkS_strB]; rfl
        have q5 : t5 = mkS (D ++ writtenB x) := by rw [HT5.out, q4, mkS_strB, HWB.out]; simp [mkS, List.append_assoc]
        have HQ5 : Hid (mkS (putB n ++ (ts.take (i + 1)).flatMap writtenB) = t5) := by show _ = _; rw [HN.out, q5]
        have hs0 : t0.size ≤ 200000 := by rw [q0, mkS_size]; omega
        have hs1 : t1.size ≤ 200010 := by rw [q1, mkS_size, List.length_append]; have := putB_le lv; omega
        have hs2 : t2.size ≤ 200020 := by rw [q2, mkS_size, List.length_append, List.length_append]; have := putB_le lv; have := putB_le ct; omega
        have hs3 : t3.size ≤ 200052 := by rw [q3, mkS_size, List.length_append, List.length_append, List.length_append]; have := putB_le lv; have := putB_le ct; omega
        have hs4 : t4.size ≤ 200190 := by rw [q4, mkS_size, List.length_append, List.length_append, List.length_append, List.length_append]; have := putB_le lv; have := putB_le ct; have := textB_length (strB f); have := strB_length f; omega
        have hsr : (⟨rt.toArray⟩ : ByteArray).size = 32 := by show rt.toArray.size = 32; rw [List.size_toArray, hrl]
        rw [HT.out]
        have HBE : Hid (Below w.heap.size w wr) := hbel
        clear hEn hbel hln hone hlv hct q0 q1 q2 q3 q4 q5 HN HWB
        go_wp2_with (first | (refine wpList_load_mid rfl 51 (.tmp 24) rfl b (off + i * 36) rfl (encT x) _ HRX.out Tryd.underlying51 rfl (sizeT x) ?_) | (refine wpList_store_box _ rfl (.tmp 7) (.tmp 25) rfl wr.heap.size rfl x rfl _ (heap_alloc_new wr _) rfl ?_))
        intro w3 hbox hchg
        have HB3 : Hid (Below wr.heap.size wr w3) := (bel_alloc wr _).trans (hchg.below (Nat.le_refl _) (by simp))
        have HS3 : Hid (∀ W, Below w3.heap.size w3 W → W.cell? ⟨wr.heap.size, 0, none⟩ = some (.int .i64 (lv : Int)) ∧ W.cell? ⟨wr.heap.size, 1, none⟩ = some (.int .i64 (ct : Int)) ∧ W.cell? ⟨wr.heap.size, 34, none⟩ = some (.string f) ∧ W.cell? ⟨wr.heap.size, 35, none⟩ = some (.string l) ∧ Bytes W (some ⟨wr.heap.size, 2, none⟩) 32 rt) := fun W hW => HCELL.out W _ (hbox.keep hW)
        clear hbox hchg HRX HCELL
        go_upto_region 9 with fail
        refine wp_region_held_drew (S := fun W => W.cell? ⟨wr.heap.size, 0, none⟩ = some (.int .i64 (lv : Int)) ∧ W.cell? ⟨wr.heap.size, 1, none⟩ = some (.int .i64 (ct : Int)) ∧ W.cell? ⟨wr.heap.size, 34, none⟩ = some (.string f) ∧ W.cell? ⟨wr.heap.size, 35, none⟩ = some (.string l) ∧ Bytes W (some ⟨wr.heap.size, 2, none⟩) 32 rt) (by kernel_rfl) (HS3.out _ (Below.drew (Below.refl _ _))) (fun hS => ?_)
        refine wpAnyH_take (i := 0) (v := ?_) rfl (by kernel_rfl) (by kernel_rfl) (by kernel_rfl) (fun _ _ _ h => h) (Or.inl ⟨by rfl, ?_⟩) (by assumption) ?_
        rotate_left
        · (intro w hSw; (try dsimp only at hSw); go_simp; try with_reducible rfl)
        simp only [Act.put, List.getElem_toArray, List.getElem_cons_zero, List.setIfInBounds_toArray, List.set_cons_zero, List.set_cons_succ]
        refine wpAnyH_take (i := 1) (v := ?_) rfl (by kernel_rfl) (by kernel_rfl) (by kernel_rfl) (fun _ _ _ h => h) (Or.inl ⟨by rfl, ?_⟩) (by assumption) ?_
        rotate_left
        · (intro w hSw; (try dsimp only at hSw); go_simp; try with_reducible rfl)
        simp only [Act.put, List.getElem_toArray, List.getElem_cons_zero, List.getElem_cons_succ, List.setIfInBounds_toArray, List.set_cons_zero, List.set_cons_succ]
        refine wpAnyH_take (i := 2) (v := ?_) rfl (by kernel_rfl) (by kernel_rfl) (by kernel_rfl) (fun _ _ _ h => h) (Or.inl ⟨by rfl, ?_⟩) (by assumption) ?_
        rotate_left
        · (intro w hSw; (try dsimp only at hSw); go_simp; try with_reducible rfl)
        simp only [Act.put, List.getElem_toArray, List.getElem_cons_zero, List.getElem_cons_succ, List.setIfInBounds_toArray, List.set_cons_zero, List.set_cons_succ]
        refine wpAnyH_take (i := 3) (v := ?_) rfl (by kernel_rfl) (by kernel_rfl) (by kernel_rfl) (fun _ _ _ h => h) (Or.inl ⟨by rfl, ?_⟩) (by assumption) ?_
        rotate_left
        · (intro w hSw; (try dsimp only at hSw); go_simp; try with_reducible rfl)
        simp only [Act.put, List.getElem_toArray, List.getElem_cons_zero, List.getElem_cons_succ, List.setIfInBounds_toArray, List.set_cons_zero, List.set_cons_succ]
        refine wpAnyH_take (i := 5) (v := ?_) rfl (by kernel_rfl) (by kernel_rfl) (by kernel_rfl) (fun _ _ _ h => h) (Or.inl ⟨by rfl, ?_⟩) (by assumption) ?_
        rotate_left
        · (intro w hSw; (try dsimp only at hSw); go_simp; try with_reducible rfl)
        simp only [Act.put, List.getElem_toArray, List.getElem_cons_zero, List.getElem_cons_succ, List.setIfInBounds_toArray, List.set_cons_zero, List.set_cons_succ]
        refine wpAnyH_take (i := 6) (v := ?_) rfl (by kernel_rfl) (by kernel_rfl) (by kernel_rfl) (fun _ _ _ h => h) (Or.inl ⟨by rfl, ?_⟩) (by assumption) ?_
        rotate_left
        · (intro w hSw; (try dsimp only at hSw); go_simp; try with_reducible rfl)
        simp only [Act.put, List.getElem_toArray, List.getElem_cons_zero, List.getElem_cons_succ, List.setIfInBounds_toArray, List.set_cons_zero, List.set_cons_succ]
        refine wpAnyH_take (i := 7) (v := ?_) rfl (by kernel_rfl) (by kernel_rfl) (by kernel_rfl) (fun _ _ _ h => h) (Or.inl ⟨by rfl, ?_⟩) (by assumption) ?_
        rotate_left
        · (intro w hSw; (try dsimp only at hSw); go_simp; try with_reducible rfl)
        simp only [Act.put, List.getElem_toArray, List.getElem_cons_zero, List.getElem_cons_succ, List.setIfInBounds_toArray, List.set_cons_zero, List.set_cons_succ]
        refine wpAnyH_ready (rs := [4]) (by kernel_rfl) (by simp) ?_
        refine AllReadyH.cons rfl (fun K hK => ?_) AllReadyH.nil
        go_simp
        rw [HWV.out, HWC.out]
        refine (refPut_any t0 lv _ (by omega) (by omega)).mono ?_
        rintro e w4 ⟨rfl, hb4⟩
        have HB4 : Hid (Below w3.heap.size w3 w4) := (Below.drew (Below.refl _ _)).trans hb4
        clear hb4
        rw [← HT1.out]
        go_wp2_with fail
        refine hK.out _ _ (HS3.out _ HB4.out) (fun hHeld2 => ?_)
        clear hK K
        refine wpAnyH_ready (rs := [8]) (by kernel_rfl) (by simp) ?_
        refine AllReadyH.cons rfl (fun K hK => ?_) AllReadyH.nil
        go_simp
        refine (refPut_any t1 ct _ (by omega) (by omega)).mono ?_
        rintro e w5 ⟨rfl, hb5⟩
        have HB5 : Hid (Below w3.heap.size w3 w5) := HB4.out.trans (hb5.mono HB4.out.size)
        clear hb5
        rw [← HT2.out]
        go_wp2_with fail
        refine hK.out _ _ (HS3.out _ HB5.out) (fun hHeld3 => ?_)
        clear hK K
        refine wpAnyH_take (i := 9) (v := ?_) rfl (by kernel_rfl) (by kernel_rfl) (by kernel_rfl) (fun _ _ _ h => h) (Or.inl ⟨by rfl, ?_⟩) (by assumption) ?_
        rotate_left
        · (intro w hSw; (try dsimp only at hSw); go_simp; try with_reducible rfl)
        simp only [Act.put, List.getElem_toArray, List.getElem_cons_zero, List.getElem_cons_succ, List.setIfInBounds_toArray, List.set_cons_zero, List.set_cons_succ]
        refine wpAnyH_done (by kernel_rfl) ?_ _
        clear hS hHeld2 hHeld3
        have hsum : ¬ (9223372036854775807 < t2.size + 32) := by omega
        go_upto_region 10 with fail
        refine wp_region_held_drew (S := fun W => W.cell? ⟨wr.heap.size, 0, none⟩ = some (.int .i64 (lv : Int)) ∧ W.cell? ⟨wr.heap.size, 1, none⟩ = some (.int .i64 (ct : Int)) ∧ W.cell? ⟨wr.heap.size, 34, none⟩ = some (.string f) ∧ W.cell? ⟨wr.heap.size, 35, none⟩ = some (.string l) ∧ Bytes W (some ⟨wr.heap.size, 2, none⟩) 32 rt) (by kernel_rfl) (HS3.out _ (HB5.out.trans (Below.drew (Below.refl _ _) |>.mono HB5.out.size))) (fun hS => ?_)
        refine wpAnyH_take (i := 0) (v := ?_) rfl (by kernel_rfl) (by kernel_rfl) (by kernel_rfl) (fun _ _ _ h => h) (Or.inl ⟨by rfl, ?_⟩) (by assumption) ?_
        rotate_left
        · (intro w hSw; (try dsimp only at hSw); go_simp; try with_reducible rfl)
        simp only [Act.put, List.getElem_toArray, List.getElem_cons_zero, List.setIfInBounds_toArray, List.set_cons_zero, List.set_cons_succ]
        refine wpAnyH_take (i := 1) (v := ?_) rfl (by kernel_rfl) (by kernel_rfl) (by kernel_rfl) (fun _ _ _ h => h) (Or.inl ⟨by rfl, ?_⟩) (by assumption) ?_
        rotate_left
        · (intro w hSw; (try dsimp only at hSw); go_simp; try with_reducible rfl)
        simp only [Act.put, List.getElem_toArray, List.getElem_cons_zero, List.getElem_cons_succ, List.setIfInBounds_toArray, List.set_cons_zero, List.set_cons_succ]
        refine wpAnyH_take (i := 2) (v := ?_) rfl (by kernel_rfl) (by kernel_rfl) (by kernel_rfl) (fun _ _ _ h => h) (Or.inl ⟨by rfl, ?_⟩) (by assumption) ?_
        rotate_left
        · (intro w hSw; (try dsimp only at hSw); go_simp; try with_reducible rfl)
        simp only [Act.put, List.getElem_toArray, List.getElem_cons_zero, List.getElem_cons_succ, List.setIfInBounds_toArray, List.set_cons_zero, List.set_cons_succ]
        refine wpAnyH_take (i := 3) (v := ?_) rfl (by kernel_rfl) (by kernel_rfl) (by kernel_rfl) (fun _ _ _ h => h) (Or.inl ⟨by rfl, ?_⟩) (by assumption) ?_
        rotate_left
        · (intro w hSw; have hcv := str_bytes 32 hSw.2.2.2.2; (try dsimp only at hSw); go_simp; try with_reducible rfl)
        simp only [Act.put, List.getElem_toArray, List.getElem_cons_zero, List.getElem_cons_succ, List.setIfInBounds_toArray, List.set_cons_zero, List.set_cons_succ]
        refine wpAnyH_take (i := 4) (v := ?_) rfl (by kernel_rfl) (by kernel_rfl) (by kernel_rfl) (fun _ _ _ h => h) (Or.inl ⟨by rfl, ?_⟩) (by assumption) ?_
        rotate_left
        · (intro w hSw; (try dsimp only at hSw); go_simp; try with_reducible rfl)
        simp only [Act.put, List.getElem_toArray, List.getElem_cons_zero, List.getElem_cons_succ, List.setIfInBounds_toArray, List.set_cons_zero, List.set_cons_succ]
        refine wpAnyH_take (i := 5) (v := ?_) rfl (by kernel_rfl) (by kernel_rfl) (by kernel_rfl) (fun _ _ _ h => h) (Or.inl ⟨by rfl, ?_⟩) (by assumption) ?_
        rotate_left
        · (intro w hSw; (try dsimp only at hSw); go_simp; try with_reducible rfl)
        simp only [Act.put, List.getElem_toArray, List.getElem_cons_zero, List.getElem_cons_succ, List.setIfInBounds_toArray, List.set_cons_zero, List.set_cons_succ]
        refine wpAnyH_take (i := 6) (v := ?_) rfl (by kernel_rfl) (by kernel_rfl) (by kernel_rfl) (fun _ _ _ h => h) (Or.inl ⟨by rfl, ?_⟩) (by assumption) ?_
        rotate_left
        · (intro w hSw; (try dsimp only at hSw); go_simp; try with_reducible rfl)
        simp only [Act.put, List.getElem_toArray, List.getElem_cons_zero, List.getElem_cons_succ, List.setIfInBounds_toArray, List.set_cons_zero, List.set_cons_succ]
        refine wpAnyH_take (i := 8) (v := ?_) rfl (by kernel_rfl) (by kernel_rfl) (by kernel_rfl) (fun _ _ _ h => h) (Or.inl ⟨by rfl, ?_⟩) (by assumption) ?_
        rotate_left
        · (intro w hSw; (try dsimp only at hSw); go_simp; try with_reducible rfl)
        simp only [Act.put, List.getElem_toArray, List.getElem_cons_zero, List.getElem_cons_succ, List.setIfInBounds_toArray, List.set_cons_zero, List.set_cons_succ]
        refine wpAnyH_take (i := 9) (v := ?_) rfl (by kernel_rfl) (by kernel_rfl) (by kernel_rfl) (fun _ _ _ h => h) (Or.inl ⟨by rfl, ?_⟩) (by assumption) ?_
        rotate_left
        · (intro w hSw; (try dsimp only at hSw); go_simp; try with_reducible rfl)
        simp only [Act.put, List.getElem_toArray, List.getElem_cons_zero, List.getElem_cons_succ, List.setIfInBounds_toArray, List.set_cons_zero, List.set_cons_succ]
        refine wpAnyH_ready (rs := [7]) (by kernel_rfl) (by simp) ?_
        refine AllReadyH.cons rfl (fun K hK => ?_) AllReadyH.nil
        go_simp
        rw [← HT3.out]
        refine (refPutText_any t3 f _ (by omega) (by omega)).mono ?_
        rintro e w6 ⟨rfl, hb6⟩
        have HB6 : Hid (Below w3.heap.size w3 w6) := (HB5.out.trans (Below.drew (Below.refl _ _) |>.mono HB5.out.size)).trans (hb6.mono HB5.out.size)
        clear hb6
        rw [← HT4.out]
        go_wp2_with fail
        refine hK.out _ _ (HS3.out _ HB6.out) (fun hHeld2 => ?_)
        clear hK K
        refine wpAnyH_ready (rs := [10]) (by kernel_rfl) (by simp) ?_
        refine AllReadyH.cons rfl (fun K hK => ?_) AllReadyH.nil
        go_simp
        refine (refPutText_any t4 l _ (by omega) (by omega)).mono ?_
        rintro e w7 ⟨rfl, hb7⟩
        have HB7 : Hid (Below w3.heap.size w3 w7) := HB6.out.trans (hb7.mono HB6.out.size)
        clear hb7
        rw [← HT5.out]
        go_wp2_with fail
        refine hK.out _ _ (HS3.out _ HB7.out) (fun hHeld3 => ?_)
        clear hK K
        refine wpAnyH_take (i := 11) (v := ?_) rfl (by kernel_rfl) (by kernel_rfl) (by kernel_rfl) (fun _ _ _ h => h) (Or.inl ⟨by rfl, ?_⟩) (by assumption) ?_
        rotate_left
        · (intro w hSw; (try dsimp only at hSw); go_simp; try with_reducible rfl)
        simp only [Act.put, List.getElem_toArray, List.getElem_cons_zero, List.getElem_cons_succ, List.setIfInBounds_toArray, List.set_cons_zero, List.set_cons_succ]
        refine wpAnyH_done (by kernel_rfl) ?_ _
        go_wp2_with fail
        go_roundw
        case rel => exact ⟨i + 1, by go_num, by omega, by rw [HQ5.out], HBE.out.trans ((HB3.out.mono HBE.out.size).trans (HB7.out.mono (by have := HBE.out.size; have := HB3.out.size; omega)))⟩
        case measure => simp [intOf]; omega
      · have hltz : ¬ (i : Int) < (n : Int) := by omega
        have HT : Hid (putB n ++ (ts.take i).flatMap writtenB = sumB ts) := by
          show _ = _
          rw [List.take_of_length_le (by rw [HE.out.1]; omega), ← HE.out.1]; rfl
        rw [HT.out, ← HSQ.out]
        go_wp2
        go_ret2
        exact ⟨rfl, hbel⟩
end Go.Proofs.YtiimmknnlciljaaDoor

/-
  What few answers: a contract over this translation.
-/
import Derived.Test.YtiimmknnlciljaaDoorSuB
import Derived.Shelf.Small.Strs
namespace Go.Proofs.YtiimmknnlciljaaDoor
open Go.RowKit Go.Sort Go.Shelf
set_option linter.unusedSectionVars false
/-- A table of at most so many bytes. -/
def cutT (x : Tb) : Tb := (x.fst (x.first.extract 0 (min x.first.size 130))).lst (x.last.extract 0 (min x.last.size 130))
/-- At most so many tables, each cut. -/
def fewT (most : Nat) (ts : List Tb) : List Tb := (ts.take most).map cutT
theorem fewT_len (most : Nat) (ts : List Tb) : (fewT most ts).length = min most ts.length := by rw [fewT, List.length_map, List.length_take]
theorem fewT_snoc (i : Nat) (ts : List Tb) (h : i < ts.length) : fewT (i + 1) ts = fewT i ts ++ [cutT (ts.getD i zT)] := by
  unfold fewT
  rw [List.take_succ_eq_append_getElem h, getD_at ts i zT h, List.map_append, List.map_singleton]
theorem fewT_all (i : Nat) (ts : List Tb) (h : ts.length ≤ i) (j : Nat) (hj : ts.length ≤ j) : fewT i ts = fewT j ts := by
  unfold fewT
  rw [List.take_of_length_le h, List.take_of_length_le hj]
/-- All texts of tables are no longer than a text may be. -/
def SmallT (ts : List Tb) : Prop := ∀ x ∈ ts, x.first.size ≤ 9223372036854775807 ∧ x.last.size ≤ 9223372036854775807
theorem smallT_at {ts : List Tb} (h : SmallT ts) (i : Nat) (hi : i < ts.length) {x : Tb} (hx : ts.getD i zT = x) : x.first.size ≤ 9223372036854775807 ∧ x.last.size ≤ 9223372036854775807 := by
  rw [← hx, getD_at ts i zT hi]
  exact h _ (List.getElem_mem hi)
set_option maxRecDepth 100000 in
set_option maxHeartbeats 4000000 in
theorem few_any (ao : Option Addr) (n c most : Nat) (ts : List Tb) (w : World) (hE : TabsV w ao n ts) (hsm : SmallT ts) (hbig : n ≤ 9223372036854775807) (hmost : most ≤ 1000) :
    Calls Tryd.prog 12 #[.slice ao n c, .int .i64 most] w fun e w' => ∃ v', e = .returned v' ∧ w'.ownsRow w.heap.size 51 36 v' (fewT most ts).length (flatT (fewT most ts)) ∧ Below w.heap.size w w' := by
  have HE : Hid _ := hE
  have HSM : Hid (SmallT ts) := hsm
  clear hE hsm
  go_enter Tryd.func12, Tryd.ntmps12
  go_wp2
  go_loopw [5, 6, 7] (fun o x _ wr => ∃ i : Nat, x = .int .i64 i ∧ i ≤ n ∧ i ≤ most ∧ wr.ownsRow w.heap.size 51 36 o (fewT i ts).length (flatT (fewT i ts)) ∧ Below w.heap.size w wr) (fun _ x _ _ => n - (intOf x).toNat)
  case atStart => exact ⟨0, rfl, by omega, by omega, World.ownsRow_nil _ _ _ _, Below.refl _ _⟩
  case round =>
    obtain ⟨i, rfl, hin, him, hown, hbel⟩ := hrel
    by_cases hlt : i < n
    · have hltz : (i : Int) < (n : Int) := by omega
      by_cases hlm : i < most
      · have hlmz : (i : Int) < (most : Int) := by omega
        obtain ⟨b, off, hao, hEn⟩ := HE.out.2 (by omega)
        have hln := HE.out.1
        obtain ⟨x, HX⟩ : ∃ x, Hid (ts.getD i zT = x) := ⟨_, rfl⟩
        have HR : Hid (wr.rangeAt b (off + i * 36) (encT x)) := tabs_range (hEn.below hbel (Nat.le_refl _)) i (by omega) HX.out
        obtain ⟨s0, s1⟩ := smallT_at HSM.out i (by omega) HX.out
        subst hao
        obtain ⟨m1, hm1⟩ : ∃ m, m = min x.first.size 130 := ⟨_, rfl⟩
        obtain ⟨m2, hm2⟩ : ∃ m, m = min x.last.size 130 := ⟨_, rfl⟩
        have hz3 : min ((x.first.size : Nat) : Int) 130 = (m1 : Int) := by omega
        have hz4 : min ((x.last.size : Nat) : Int) 130 = (m2 : Int) := by omega
        have hl1 : (m1 : Int) ≤ (x.first.size : Int) := by omega
        have hl2 : (m2 : Int) ≤ (x.last.size : Int) := by omega
        have HY : Hid (cutT x = (x.fst (x.first.extract 0 m1)).lst (x.last.extract 0 m2)) := by show _ = _; rw [cutT, hm1, hm2]
        clear hm1 hm2
        obtain ⟨done, HD⟩ : ∃ done, Hid (fewT i ts = done) := ⟨_, rfl⟩
        rw [HD.out] at hown
        have hlenD : done.length ≤ 1000 := by rw [← HD.out, fewT_len]; omega
        have HBO : Hid _ := And.intro hown hbel
        clear hEn hown hbel hln
        go_wp2_with (first | (refine wpList_load_mid rfl 51 (.tmp 21) rfl b (off + i * 36) rfl (encT x) _ HR.out Tryd.underlying51 rfl (sizeT x) ?_) | (refine wpList_store_box _ rfl (.tmp 7) (.tmp 22) rfl wr.heap.size rfl x rfl _ (heap_alloc_new wr _) rfl ?_))
        intro w1 hbox hchg
        have hb1 : Below wr.heap.size wr w1 := (bel_alloc wr _).trans (hchg.below (Nat.le_refl _) (by simp))
        obtain ⟨-, -, c34, -⟩ := hbox.four
        have f34 := hbox.frozen 34
        have HBX : Hid (Box w1 wr.heap.size x) := hbox
        have HB1 : Hid (Below wr.heap.size wr w1) := hb1
        clear hbox hchg hb1
        go_upto_region 7 with fail
        obtain ⟨g, HG⟩ : ∃ g, Hid (wr.heap.size = g) := ⟨_, rfl⟩
        have HB2 : Hid (Box (w1.setCell ⟨wr.heap.size, 34, none⟩ (.string (x.first.extract 0 m1))) wr.heap.size (x.fst (x.first.extract 0 m1))) := HBX.out.set (encT_fst x (x.first.extract 0 m1))
        have HS2 : Hid (Below wr.heap.size wr (w1.setCell ⟨wr.heap.size, 34, none⟩ (.string (x.first.extract 0 m1)))) := below_set HBX.out HB1.out (Nat.le_refl _)
        clear c34 f34 HBX HB1 hz3 hl1
        generalize w1.setCell ⟨wr.heap.size, 34, none⟩ (.string (x.first.extract 0 m1)) = w2 at *
        have d35 : w2.cell? ⟨wr.heap.size, 35, none⟩ = some (.string x.last) := HB2.out.four.2.2.2
        have f35 := HB2.out.frozen 35
        go_upto_region 8 with fail
        have HB3 : Hid (Box (w2.setCell ⟨wr.heap.size, 35, none⟩ (.string (x.last.extract 0 m2))) wr.heap.size (cutT x)) := by rw [HY.out]; exact HB2.out.set (encT_lst _ (x.last.extract 0 m2))
        have HS3 : Hid (Below wr.heap.size wr (w2.setCell ⟨wr.heap.size, 35, none⟩ (.string (x.last.extract 0 m2)))) := below_set HB2.out HS2.out (Nat.le_refl _)
        clear d35 f35 HB2 HS2 hz4 hl2
        generalize w2.setCell ⟨wr.heap.size, 35, none⟩ (.string (x.last.extract 0 m2)) = w3 at *
        have HW3 : Hid (Below w.heap.size w w3) := HBO.out.2.trans (HS3.out.mono HBO.out.2.size)
        have HOA : Hid ((w3.alloc (.cells (encT (cutT x)).toArray 51)).ownsRow w.heap.size 51 36 u5 done.length (flatT done)) := (own_below HBO.out.1 HS3.out (Nat.le_refl _)).alloc _
        have HBA : Hid (w.heap.size ≤ (w3.alloc (.cells (encT (cutT x)).toArray 51)).heap.size) := by show _ ≤ _; have := HW3.out.size; simp; omega
        go_wp2_with (first | (refine wpList_load_row rfl 51 (.tmp 7) rfl wr.heap.size rfl 51 (encT (cutT x)).toArray (0, 0) _ HB3.out Tryd.underlying51 rfl (sizeTA _) ?_) | (refine wpList_build_tab _ rfl (.tmp 40) rfl (cutT x) rfl ?_) | (at_builtin; refine wpList_append_tabs _ rfl (.tmp 39) (.tmp 41) rfl w.heap.size _ done.length done rfl HOA.out HBA.out _ 1 1 [cutT x] rfl (tabsV_one w3 _) (fun h => by cases h) (by omega) ?_))
        intro v' w6 hown6 hb6
        have HN : Hid _ := And.intro hown6 ((HW3.out.alloc HW3.out.size _).trans hb6)
        clear hown6 hb6
        go_wp2
        go_roundw
        case rel =>
          refine ⟨i + 1, by go_num, by omega, by omega, ?_, HN.out.2⟩
          rw [fewT_snoc _ _ (by rw [HE.out.1]; omega), HD.out, HX.out, List.length_append]
          exact HN.out.1
        case measure => simp [intOf]; omega
      · have hlmz : ¬ (i : Int) < (most : Int) := by omega
        have hi2 : i = most := by omega
        have HN : Hid _ := And.intro hown hbel
        clear hown hbel
        go_wp2
        go_ret
        exact ⟨_, rfl, by rw [← hi2]; exact HN.out.1, HN.out.2⟩
    · have hltz : ¬ (i : Int) < (n : Int) := by omega
      have HT : Hid (fewT most ts = fewT i ts) := fewT_all _ _ (by rw [HE.out.1]; omega) _ (by rw [HE.out.1]; omega)
      have HN : Hid _ := And.intro hown hbel
      clear hown hbel
      go_wp2
      go_ret
      exact ⟨_, rfl, by rw [HT.out]; exact HN.out.1, HN.out.2⟩
end Go.Proofs.YtiimmknnlciljaaDoor

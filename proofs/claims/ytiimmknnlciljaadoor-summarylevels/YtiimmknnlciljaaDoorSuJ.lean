/-
  What Covering and Overlapping answer, the summary's and the document's: contracts over this translation.
-/
import Derived.Test.YtiimmknnlciljaaDoorSuI
namespace Go.Proofs.YtiimmknnlciljaaDoor
open Go.RowKit Go.Sort Go.Shelf
set_option linter.unusedSectionVars false
variable [Inhabited E] [DecidableEq E]
def covP (key : ByteArray) (x : Tb) : Bool := covB x.first x.last key
def ovP (lo hi : ByteArray) (x : Tb) : Bool := ovB x.first x.last lo hi
theorem key_alloc (W : World) (x : Tb) (kb : Nat) (key : ByteArray) (h : W.cell? ⟨kb, 0, none⟩ = some (.string key)) : (W.alloc (.cells (encT x).toArray 51)).cell? ⟨kb, 0, none⟩ = some (.string key) := by
  rw [← h]
  exact World.cell?_of_block ((bel_alloc W _).block kb (World.block_lt_of_cell? W _ h))
set_option maxRecDepth 100000 in
set_option maxHeartbeats 2000000 in
theorem cov44 (x : Tb) (kb : Nat) (key : ByteArray) (W : World) (h : W.cell? ⟨kb, 0, none⟩ = some (.string key)) :
    Calls Tryd.prog 44 (#[.agg (encT x).toArray] ++ #[.pointer (some ⟨kb, 0, none⟩)]) W fun e w' => e = .returned (.bool (covP key x)) ∧ Below W.heap.size W w' := by
  have HBX : Hid (Box (W.alloc (.cells (encT x).toArray 51)) W.heap.size x) := box_new W x
  have ck := key_alloc W x kb key h
  have CC : Hid (∀ V, Calls Tryd.prog 29 #[.agg (encT x).toArray, .string key] V fun e w' => e = .returned (.bool (covP key x)) ∧ Below V.heap.size V w') := fun V => covers_any (encT x).toArray x.first x.last key V (by simpa using encT_34 x) (by simpa using encT_35 x)
  clear h
  go_enter Tryd.func44, Tryd.ntmps44
  go_wp2_with (refine wpList_load_row rfl 51 (.tmp 2) rfl W.heap.size rfl 51 (encT x).toArray (0, 0) _ HBX.out Tryd.underlying51 rfl (sizeTA _) ?_)
  refine (CC.out _).mono ?_
  rintro e w1 ⟨rfl, hb1⟩
  have HB1 : Hid (Below W.heap.size W w1) := (bel_alloc W _).trans (hb1.mono (by simp))
  clear hb1
  go_wp2
  go_ret
  exact ⟨rfl, HB1.out⟩
set_option maxRecDepth 100000 in
set_option maxHeartbeats 2000000 in
theorem ov46 (x : Tb) (ka kb : Nat) (lo hi : ByteArray) (W : World) (h : W.cell? ⟨ka, 0, none⟩ = some (.string lo)) (h2 : W.cell? ⟨kb, 0, none⟩ = some (.string hi)) :
    Calls Tryd.prog 46 (#[.agg (encT x).toArray] ++ #[.pointer (some ⟨ka, 0, none⟩), .pointer (some ⟨kb, 0, none⟩)]) W fun e w' => e = .returned (.bool (ovP lo hi x)) ∧ Below W.heap.size W w' := by
  have HBX : Hid (Box (W.alloc (.cells (encT x).toArray 51)) W.heap.size x) := box_new W x
  have ck := key_alloc W x ka lo h
  have ck2 := key_alloc W x kb hi h2
  have CC : Hid (∀ V, Calls Tryd.prog 47 #[.agg (encT x).toArray, .string lo, .string hi] V fun e w' => e = .returned (.bool (ovP lo hi x)) ∧ Below V.heap.size V w') := fun V => overlaps_any (encT x).toArray x.first x.last lo hi V (by simpa using encT_34 x) (by simpa using encT_35 x)
  clear h h2
  go_enter Tryd.func46, Tryd.ntmps46
  go_wp2_with (refine wpList_load_row rfl 51 (.tmp 3) rfl W.heap.size rfl 51 (encT x).toArray (0, 0) _ HBX.out Tryd.underlying51 rfl (sizeTA _) ?_)
  refine (CC.out _).mono ?_
  rintro e w1 ⟨rfl, hb1⟩
  have HB1 : Hid (Below W.heap.size W w1) := (bel_alloc W _).trans (hb1.mono (by simp))
  clear hb1
  go_wp2
  go_ret
  exact ⟨rfl, HB1.out⟩
theorem enters44 : ∀ args w, (callFunc 44 args).run Tryd.prog w = .ok (.enter 44 args) w := enters_of Tryd.func44 (by kernel_rfl) rfl
theorem enters46 : ∀ args w, (callFunc 46 args).run Tryd.prog w = .ok (.enter 46 args) w := enters_of Tryd.func46 (by kernel_rfl) rfl
set_option maxRecDepth 100000 in
set_option maxHeartbeats 2000000 in
theorem covering_any (ao : Option Addr) (n c : Nat) (ts : List Tb) (key : ByteArray) (w : World) (hE : TabsV w ao n ts) (hn : n ≤ 1000) :
    Calls Tryd.prog 23 #[.slice ao n c, .string key] w fun e w' => ∃ v, e = .returned v ∧ w'.ownsRow w.heap.size 3 1 v (plc (covP key) ts n).length (cellsI (plc (covP key) ts n)) ∧ Below w.heap.size w w' := by
  have hb0 := bel_alloc w (.cells #[.string key] 9)
  have ck : (w.alloc (.cells #[.string key] 9)).cell? ⟨w.heap.size, 0, none⟩ = some (.string key) := by rw [cell_of_row _ _ _ _ _ _ (heap_alloc_new w _)]; rfl
  have CP : Hid _ := places_any 44 #[.pointer (some ⟨w.heap.size, 0, none⟩)] (covP key) enters44 ao n c ts (w.alloc (.cells #[.string key] 9)) (hE.keep hb0) hn (fun W i hW hi => cov44 _ w.heap.size key W (by rw [← ck]; exact World.cell?_of_block (hW.block _ (by simp))))
  have HB0 : Hid (Below w.heap.size w (w.alloc (.cells #[.string key] 9))) := hb0
  clear hE hb0 ck
  go_enter Tryd.func23, Tryd.ntmps23
  go_wp2_with fail
  refine Calls.mono CP.out ?_
  rintro e w1 ⟨v1, rfl, hown, hb1⟩
  have HN : Hid (w1.ownsRow w.heap.size 3 1 v1 (plc (covP key) ts n).length (cellsI (plc (covP key) ts n)) ∧ Below w.heap.size w w1) := ⟨ownsRow_mono hown (by simp), HB0.out.trans (hb1.mono (by simp))⟩
  clear hown hb1
  go_wp2
  go_ret
  exact ⟨v1, rfl, HN.out⟩
set_option maxRecDepth 100000 in
set_option maxHeartbeats 2000000 in
theorem overlapping_any (ao : Option Addr) (n c : Nat) (ts : List Tb) (lo hi : ByteArray) (w : World) (hE : TabsV w ao n ts) (hn : n ≤ 1000) :
    Calls Tryd.prog 25 #[.slice ao n c, .string lo, .string hi] w fun e w' => ∃ v, e = .returned v ∧ w'.ownsRow w.heap.size 3 1 v (plc (ovP lo hi) ts n).length (cellsI (plc (ovP lo hi) ts n)) ∧ Below w.heap.size w w' := by
  obtain ⟨W0, HW0⟩ : ∃ W, Hid ((w.alloc (.cells #[.string lo] 9)).alloc (.cells #[.string hi] 9) = W) := ⟨_, rfl⟩
  have hfr := Sm.frame2 w (.cells #[.string lo] 9) #[.string hi] 9
  rw [HW0.out] at hfr
  have ck : W0.cell? ⟨w.heap.size, 0, none⟩ = some (.string lo) := by rw [cell_of_row _ _ _ _ _ _ hfr.1]; rfl
  have ck2 : W0.cell? ⟨w.heap.size + 1, 0, none⟩ = some (.string hi) := by rw [cell_of_row _ _ _ _ _ _ hfr.2.1]; rfl
  have CP : Hid _ := places_any 46 #[.pointer (some ⟨w.heap.size, 0, none⟩), .pointer (some ⟨w.heap.size + 1, 0, none⟩)] (ovP lo hi) enters46 ao n c ts W0 (hE.keep hfr.2.2.1) hn (fun W i hW hi2 => ov46 _ w.heap.size (w.heap.size + 1) lo hi W (by rw [← ck]; exact World.cell?_of_block (hW.block _ (by have := hfr.2.2.2; show w.heap.size < _; omega))) (by rw [← ck2]; exact World.cell?_of_block (hW.block _ (by have := hfr.2.2.2; show w.heap.size + 1 < _; omega))))
  have HB0 : Hid (Below w.heap.size w W0 ∧ w.heap.size ≤ W0.heap.size) := ⟨hfr.2.2.1, hfr.2.2.1.size⟩
  clear hE ck ck2 hfr
  go_enter Tryd.func25, Tryd.ntmps25
  go_upto_region 1 with fail
  rw [HW0.out]
  go_wp2_with fail
  refine Calls.mono CP.out ?_
  rintro e w1 ⟨v1, rfl, hown, hb1⟩
  have HN : Hid (w1.ownsRow w.heap.size 3 1 v1 (plc (ovP lo hi) ts n).length (cellsI (plc (ovP lo hi) ts n)) ∧ Below w.heap.size w w1) := ⟨ownsRow_mono hown HB0.out.2, HB0.out.1.trans (hb1.mono HB0.out.2)⟩
  clear hown hb1
  go_wp2
  go_ret
  exact ⟨v1, rfl, HN.out⟩
set_option maxRecDepth 100000 in
set_option maxHeartbeats 8000000 in
theorem refCovering_any (ao : Option Addr) (n c : Nat) (ts : List Tb) (key : ByteArray) (w : World) (hE : TabsV w ao n ts) (hn : n ≤ 1000) :
    Calls Tryd.prog 24 #[.slice ao n c, .string key] w fun e w' => ∃ v, e = .returned v ∧ w'.ownsRow w.heap.size 3 1 v (plc (covP key) ts n).length (cellsI (plc (covP key) ts n)) ∧ Below w.heap.size w w' := by
  have HE : Hid _ := hE
  clear hE
  go_enter Tryd.func24, Tryd.ntmps24
  go_wp2
  go_loopw [5, 6, 7] (fun o x _ wr => ∃ i : Nat, x = .int .i64 i ∧ i ≤ n ∧ wr.ownsRow w.heap.size 3 1 o (plc (covP key) ts i).length (cellsI (plc (covP key) ts i)) ∧ Below w.heap.size w wr) (fun _ x _ _ => n - (intOf x).toNat)
  case atStart => exact ⟨0, rfl, by omega, World.ownsRow_nil _ _ _ _, Below.refl _ _⟩
  case round =>
    obtain ⟨i, rfl, hin, hown, hbel⟩ := hrel
    by_cases hlt : i < n
    · have hltz : (i : Int) < (n : Int) := by omega
      obtain ⟨b, off, hao, hEn⟩ := HE.out.2 (by omega)
      have hln := HE.out.1
      have HRX : Hid (wr.rangeAt b (off + i * 36) (encT (ts.getD i zT))) := tabs_range (hEn.below hbel (Nat.le_refl _)) i (by omega) rfl
      have HSU : Hid _ := plc_succ (covP key) ts i
      obtain ⟨x, HX⟩ : ∃ x, Hid (ts.getD i zT = x) := ⟨_, rfl⟩
      rw [HX.out] at HRX HSU
      have CC : Hid (∀ V, Calls Tryd.prog 45 #[.agg (encT x).toArray, .string key] V fun e w' => e = .returned (.bool (covP key x)) ∧ Below V.heap.size V w') := fun V => refCovers_any (encT x).toArray x.first x.last key V (by simpa using encT_34 x) (by simpa using encT_35 x)
      obtain ⟨pb, HPB⟩ : ∃ y, Hid (covP key x = y) := ⟨_, rfl⟩
      rw [HPB.out] at CC HSU
      obtain ⟨l, HLI⟩ : ∃ l, Hid (plc (covP key) ts i = l) := ⟨_, rfl⟩
      have hl1000 : l.length ≤ 1000 := by rw [← HLI.out]; have := plc_len (covP key) ts i; omega
      rw [HLI.out] at hown HSU
      have HOW : Hid _ := And.intro hown hbel
      subst hao
      clear hEn hown hbel hln
      go_wp2_with (refine wpList_load_mid rfl 51 (.tmp 16) rfl b (off + i * 36) rfl (encT x) _ HRX.out Tryd.underlying51 rfl (sizeT x) ?_)
      refine (CC.out _).mono ?_
      rintro e w4 ⟨rfl, hb4⟩
      have HB4 : Hid (Below w.heap.size w w4) := HOW.out.2.trans (hb4.mono HOW.out.2.size)
      have HO4 : Hid (w4.ownsRow w.heap.size 3 1 u5 l.length (cellsI l)) := own_below HOW.out.1 hb4 (Nat.le_refl _)
      clear hb4 CC HOW HRX
      cases pb with
      | false =>
        go_wp2
        go_roundw
        case rel => exact ⟨i + 1, by go_num, by omega, by rw [HSU.out]; exact HO4.out, HB4.out⟩
        case measure => simp [intOf]; omega
      | true =>
        have HSU2 : Hid (plc (covP key) ts (i + 1) = l ++ [i]) := by show _ = _; have h9 := HSU.out; simpa using h9
        have HO5 : Hid ((w4.alloc (.cells #[.int .i64 (i : Int)] 3)).ownsRow w.heap.size 3 1 u5 l.length (cellsI l)) := HO4.out.alloc _
        have HS5 : Hid (w.heap.size ≤ (w4.alloc (.cells #[.int .i64 (i : Int)] 3)).heap.size) := by show _ ≤ _; have := HB4.out.size; simp; omega
        have HCC : Hid ((w4.alloc (.cells #[.int .i64 (i : Int)] 3)).cell? ⟨w4.heap.size, 0, none⟩ = some (.int .i64 (i : Int))) := by show _ = _; rw [cell_of_row _ _ _ _ _ _ (heap_alloc_new w4 _)]; rfl
        go_wp2_with (at_builtin; refine wpList_append_int _ rfl (.tmp 21) (.tmp 23) rfl w.heap.size _ l.length l rfl HO5.out HS5.out w4.heap.size i rfl HCC.out (by omega) ?_)
        intro v6 w6 hown6 hb6
        have HN : Hid _ := And.intro hown6 ((HB4.out.alloc HB4.out.size _).trans hb6)
        clear hown6 hb6
        go_wp2
        go_roundw
        case rel => exact ⟨i + 1, by go_num, by omega, by rw [HSU2.out, List.length_append]; exact HN.out.1, HN.out.2⟩
        case measure => simp [intOf]; omega
    · have hltz : ¬ (i : Int) < (n : Int) := by omega
      obtain rfl : i = n := by omega
      have HO : Hid _ := And.intro hown hbel
      clear hown hbel
      go_wp2
      go_ret
      exact ⟨u5, rfl, HO.out.1, HO.out.2⟩
set_option maxRecDepth 100000 in
set_option maxHeartbeats 8000000 in
theorem refOverlapping_any (ao : Option Addr) (n c : Nat) (ts : List Tb) (lo hi : ByteArray) (w : World) (hE : TabsV w ao n ts) (hn : n ≤ 1000) :
    Calls Tryd.prog 26 #[.slice ao n c, .string lo, .string hi] w fun e w' => ∃ v, e = .returned v ∧ w'.ownsRow w.heap.size 3 1 v (plc (ovP lo hi) ts n).length (cellsI (plc (ovP lo hi) ts n)) ∧ Below w.heap.size w w' := by
  have HE : Hid _ := hE
  clear hE
  go_enter Tryd.func26, Tryd.ntmps26
  go_wp2
  go_loopw [7, 8, 9] (fun o x _ wr => ∃ i : Nat, x = .int .i64 i ∧ i ≤ n ∧ wr.ownsRow w.heap.size 3 1 o (plc (ovP lo hi) ts i).length (cellsI (plc (ovP lo hi) ts i)) ∧ Below w.heap.size w wr) (fun _ x _ _ => n - (intOf x).toNat)
  case atStart => exact ⟨0, rfl, by omega, World.ownsRow_nil _ _ _ _, Below.refl _ _⟩
  case round =>
    obtain ⟨i, rfl, hin, hown, hbel⟩ := hrel
    by_cases hlt : i < n
    · have hltz : (i : Int) < (n : Int) := by omega
      obtain ⟨b, off, hao, hEn⟩ := HE.out.2 (by omega)
      have hln := HE.out.1
      have HRX : Hid (wr.rangeAt b (off + i * 36) (encT (ts.getD i zT))) := tabs_range (hEn.below hbel (Nat.le_refl _)) i (by omega) rfl
      have HSU : Hid _ := plc_succ (ovP lo hi) ts i
      obtain ⟨x, HX⟩ : ∃ x, Hid (ts.getD i zT = x) := ⟨_, rfl⟩
      rw [HX.out] at HRX HSU
      have CC : Hid (∀ V, Calls Tryd.prog 48 #[.agg (encT x).toArray, .string lo, .string hi] V fun e w' => e = .returned (.bool (ovP lo hi x)) ∧ Below V.heap.size V w') := fun V => refOverlaps_any (encT x).toArray x.first x.last lo hi V (by simpa using encT_34 x) (by simpa using encT_35 x)
      obtain ⟨pb, HPB⟩ : ∃ y, Hid (ovP lo hi x = y) := ⟨_, rfl⟩
      rw [HPB.out] at CC HSU
      obtain ⟨l, HLI⟩ : ∃ l, Hid (plc (ovP lo hi) ts i = l) := ⟨_, rfl⟩
      have hl1000 : l.length ≤ 1000 := by rw [← HLI.out]; have := plc_len (ovP lo hi) ts i; omega
      rw [HLI.out] at hown HSU
      have HOW : Hid _ := And.intro hown hbel
      subst hao
      clear hEn hown hbel hln
      go_wp2_with (refine wpList_load_mid rfl 51 (.tmp 18) rfl b (off + i * 36) rfl (encT x) _ HRX.out Tryd.underlying51 rfl (sizeT x) ?_)
      refine (CC.out _).mono ?_
      rintro e w4 ⟨rfl, hb4⟩
      have HB4 : Hid (Below w.heap.size w w4) := HOW.out.2.trans (hb4.mono HOW.out.2.size)
      have HO4 : Hid (w4.ownsRow w.heap.size 3 1 u7 l.length (cellsI l)) := own_below HOW.out.1 hb4 (Nat.le_refl _)
      clear hb4 CC HOW HRX
      cases pb with
      | false =>
        go_wp2
        go_roundw
        case rel => exact ⟨i + 1, by go_num, by omega, by rw [HSU.out]; exact HO4.out, HB4.out⟩
        case measure => simp [intOf]; omega
      | true =>
        have HSU2 : Hid (plc (ovP lo hi) ts (i + 1) = l ++ [i]) := by show _ = _; have h9 := HSU.out; simpa using h9
        have HO5 : Hid ((w4.alloc (.cells #[.int .i64 (i : Int)] 3)).ownsRow w.heap.size 3 1 u7 l.length (cellsI l)) := HO4.out.alloc _
        have HS5 : Hid (w.heap.size ≤ (w4.alloc (.cells #[.int .i64 (i : Int)] 3)).heap.size) := by show _ ≤ _; have := HB4.out.size; simp; omega
        have HCC : Hid ((w4.alloc (.cells #[.int .i64 (i : Int)] 3)).cell? ⟨w4.heap.size, 0, none⟩ = some (.int .i64 (i : Int))) := by show _ = _; rw [cell_of_row _ _ _ _ _ _ (heap_alloc_new w4 _)]; rfl
        go_wp2_with (at_builtin; refine wpList_append_int _ rfl (.tmp 24) (.tmp 26) rfl w.heap.size _ l.length l rfl HO5.out HS5.out w4.heap.size i rfl HCC.out (by omega) ?_)
        intro v6 w6 hown6 hb6
        have HN : Hid _ := And.intro hown6 ((HB4.out.alloc HB4.out.size _).trans hb6)
        clear hown6 hb6
        go_wp2
        go_roundw
        case rel => exact ⟨i + 1, by go_num, by omega, by rw [HSU2.out, List.length_append]; exact HN.out.1, HN.out.2⟩
        case measure => simp [intOf]; omega
    · have hltz : ¬ (i : Int) < (n : Int) := by omega
      obtain rfl : i = n := by omega
      have HO : Hid _ := And.intro hown hbel
      clear hown hbel
      go_wp2
      go_ret
      exact ⟨u7, rfl, HO.out.1, HO.out.2⟩
set_option maxRecDepth 100000 in
set_option maxHeartbeats 4000000 in
theorem sameInts_any (ao : Option Addr) (n c : Nat) (l : List Nat) (bo : Option Addr) (d : Nat) (w : World) (hA : IntsV w ao n l) (hB : IntsV w bo n l) (hn : n ≤ 100000000000) :
    Calls Tryd.prog 22 #[.slice ao n c, .slice bo n d] w fun e w' => e = .returned (.bool true) ∧ Below w.heap.size w w' := by
  have HA : Hid _ := hA
  have HB : Hid _ := hB
  clear hA hB
  go_enter Tryd.func22, Tryd.ntmps22
  go_wp2
  go_loopw [5] (fun x wr => ∃ i : Nat, x = .int .i64 i ∧ i ≤ n ∧ Below w.heap.size w wr) (fun x _ => n - (intOf x).toNat)
  case atStart => exact ⟨0, rfl, by omega, Below.refl _ _⟩
  case round =>
    obtain ⟨i, rfl, hin, hbel⟩ := hrel
    by_cases hlt : i < n
    · have hltz : (i : Int) < (n : Int) := by omega
      obtain ⟨b, off, hao, hEn⟩ := (IntsV.keep HA.out hbel).2 (by omega)
      obtain ⟨b2, off2, hbo, hEn2⟩ := (IntsV.keep HB.out hbel).2 (by omega)
      have c1 := hEn i hlt
      have c2 := hEn2 i hlt
      subst hao hbo
      have HBE : Hid _ := hbel
      clear hEn hEn2 hbel
      generalize l.getD i 0 = y at c1 c2
      go_wp2_with fail
      go_quiet (fail)
      go_wp2
      go_roundw
      case rel => exact ⟨i + 1, by go_num, by omega, bel_drewN HBE.out nq⟩
      case measure => simp [intOf]; omega
    · have hltz : ¬ (i : Int) < (n : Int) := by omega
      go_wp2
      go_ret
      exact ⟨rfl, hbel⟩
end Go.Proofs.YtiimmknnlciljaaDoor

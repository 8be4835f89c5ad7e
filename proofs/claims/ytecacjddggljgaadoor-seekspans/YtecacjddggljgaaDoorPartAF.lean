/-
  What entry.Fold answers: a contract over this translation, over a sort that is given. What entry.Bytes answers: a contract over this translation. What shown answers: a contract over this translation.
-/
import Derived.Test.YtecacjddggljgaaDoorPartAE
import Derived.BigQuiet
import Derived.Deep.RegionHeld3
namespace Go.Proofs.YtecacjddggljgaaDoor
open Go.RowKit Go.Sort Go.Shelf
set_option linter.unusedSectionVars false
variable [Inhabited E]
/-- The cells of entries lie in a slice. -/
def EntsV (w : World) (ao : Option Addr) (n : Nat) (es : List E) : Prop := es.length = n ∧ (0 < n → ∃ b off, ao = some ⟨b, off, none⟩ ∧ Ents w b off es)
theorem sorts_any (g cap n : Nat) (es : List E) (w : World) (hl : es.length = n) (hH : HoldsK encE 4 w g 0 es.toArray) (hg : g < w.heap.size) (hbig : n ≤ 1000000000000) :
    Calls Tryd.prog 83 #[.slice (some ⟨g, 0, none⟩) n cap, .func (.func 84) #[] #[]] w fun e w' => e = .returned (.tuple #[]) ∧ ∃ S, Stab cmpE es S ∧ Ents w' g 0 S ∧ Below g w w' := by
  refine (sortStable_any g 0 cap n es w hl hH hg hbig).mono ?_
  rintro e w' ⟨rfl, S, hS, m, os, rfl⟩
  have hs : S.toArray.size = es.toArray.size := by simpa using hS.perm.length_eq
  exact ⟨rfl, S, hS, by simpa using holds_ents (holdsK_sortWorldK_c encE 4 w g 0 es.toArray _ m os hH hg hs), bel_sort g w g 0 m _ os (Nat.le_refl _) (by omega)⟩
theorem bel_cell {w w' : World} {B : Nat} {a : Addr} {v : Value} (h : Below B w w') (hB : w.heap.size ≤ B) (hc : w.cell? a = some v) : w'.cell? a = some v := by
  rw [← hc]
  exact World.cell?_of_block (h.block a.block (by have := World.block_lt_of_cell? w a hc; omega))
theorem ents_cell {w : World} {g : Nat} {l : List E} (h : Ents w g 0 l) (i c : Nat) (hi : i < l.length) (hc : c < 4) : w.cell? ⟨g, i * 4 + c, none⟩ = some (encE l[i]!)[c]! := by
  have := h (i * 4 + c) _ ((flatE_at l i c hi hc).trans (encE_get! _ c hc))
  rwa [Nat.zero_add] at this
set_option maxRecDepth 100000 in
set_option maxHeartbeats 2000000 in
theorem fold_some (b off n c : Nat) (es : List E) (w : World) (hl : es.length = n) (hE : Ents w b off es) (hbig : n ≤ 1000000000000) (hn : 0 < n) :
    Calls Tryd.prog 61 #[.slice (some ⟨b, off, none⟩) n c] w fun e w' => ∃ v', e = .returned v' ∧ w'.ownsRow w.heap.size 54 4 v' (foldS es).length (flatE (foldS es)) ∧ Below w.heap.size w w' := by
  obtain ⟨i0, hi, hz0, hz1, hz2⟩ := info_parts info23
  go_enter Tryd.func61, Tryd.ntmps61
  go_wp2_with fail
  refine (clone_any b off n c es w hl hE hbig hn).mono ?_
  rintro e w1 ⟨g, cap, rfl, hg, hown1, hbel1⟩
  have hH := own_holds (d := es.toArray) (by simpa using hown1)
  have hg1 : g < w1.heap.size := (hown1.lt g rfl).2
  clear hown1 hE
  go_wp2_with fail
  refine (sorts_any g cap n es w1 hl hH hg1 hbig).mono ?_
  rintro e w2 ⟨rfl, l, hst, hE2, hbel2⟩
  have hll : l.length = n := by rw [hst.perm.length_eq, hl]
  have HFO : Hid (foldS es = lasts l) := (lasts_foldS hst).symm
  clear hH hst
  have hbel : Below w.heap.size w w2 := hbel1.trans (hbel2.mono hg)
  have hg2 : g < w2.heap.size := Nat.lt_of_lt_of_le hg1 hbel2.size
  have hw2 : w.heap.size ≤ w2.heap.size := hbel.size
  clear hbel1 hbel2
  have HB : Hid _ := hbel
  clear hbel hl
  go_wp2
  go_loopw [4, 13] (fun o x wr => ∃ (i : Nat) (done : List E), x = .int .i64 i ∧ i ≤ n ∧ lasts l = done ++ lasts (l.drop i) ∧ wr.ownsRow w2.heap.size 54 4 o done.length (flatE done) ∧ Below w2.heap.size w2 wr) (fun _ x _ => n - (intOf x).toNat)
  case atStart => exact ⟨0, [], rfl, by omega, rfl, World.ownsRow_nil _ _ _ _, Below.refl _ _⟩
  case round =>
    obtain ⟨i, done, rfl, hin, hp, hown, hbelr⟩ := hrel
    have HP : Hid (lasts l = done ++ lasts (l.drop i)) := hp
    clear hp
    by_cases hlt : i < n
    · have hlt' : (i : Int) < (n : Int) := by omega
      have hEr : Ents wr g 0 l := hE2.below hbelr (Nat.le_refl _)
      obtain ⟨k0, v0, d0, q0, HX⟩ : ∃ k0 v0 d0 q0, Hid (l[i]! = E.mk k0 v0 d0 q0) := ⟨_, _, _, _, rfl⟩
      have c0 := ents_cell hEr i 0 (by omega) (by decide)
      have c1 := ents_cell hEr i 1 (by omega) (by decide)
      have c2 := ents_cell hEr i 2 (by omega) (by decide)
      have c3 := ents_cell hEr i 3 (by omega) (by decide)
      rw [HX.out] at c0 c1 c2 c3
      simp only [encE, Nat.add_zero, List.getElem!_cons_zero, List.getElem!_cons_succ] at c0 c1 c2 c3
      have hgr : g < wr.heap.size := Nat.lt_of_lt_of_le hg2 hbelr.size
      have HE : Hid _ := hEr
      clear hEr
      go_wp2_with fail
      obtain ⟨w4, HW4⟩ : ∃ w4, Hid (w4 = wr.alloc (Obj.cells #[.string k0, .string v0, .bool d0, .int .i64 q0] 54)) := ⟨_, rfl⟩
      have hblk4 : w4.heap[wr.heap.size]? = some (Obj.cells #[.string k0, .string v0, .bool d0, .int .i64 q0] 54) := by rw [HW4.out, heap_alloc_get, if_pos rfl]
      have e0 : w4.cell? ⟨wr.heap.size, 0, none⟩ = some (.string k0) := by rw [cell_of_row _ _ _ _ _ _ hblk4]; rfl
      have e1 : w4.cell? ⟨wr.heap.size, 1, none⟩ = some (.string v0) := by rw [cell_of_row _ _ _ _ _ _ hblk4]; rfl
      have e2 : w4.cell? ⟨wr.heap.size, 2, none⟩ = some (.bool d0) := by rw [cell_of_row _ _ _ _ _ _ hblk4]; rfl
      have e3 : w4.cell? ⟨wr.heap.size, 3, none⟩ = some (.int .i64 q0) := by rw [cell_of_row _ _ _ _ _ _ hblk4]; rfl
      have hbel4 : Below w2.heap.size w2 w4 := by rw [HW4.out]; exact hbelr.alloc hbelr.size _
      have hown4 : w4.ownsRow w2.heap.size 54 4 u4 done.length (flatE done) := by rw [HW4.out]; exact hown.alloc _
      have hE4 : Ents w4 g 0 l := hE2.below hbel4 (Nat.le_refl _)
      rw [← HW4.out]
      clear hblk4 c0 c1 c2 c3 hown hbelr HE hgr
      have HB4 : Hid _ := hbel4
      have HO4 : Hid _ := hown4
      clear hbel4 hown4
      have hlenD : done.length ≤ n := by
        have h1 := lasts_len l
        rw [HP.out, List.length_append] at h1
        omega
      by_cases hend : i + 1 = n
      · have HP2 : Hid (lasts l = (done ++ [E.mk k0 v0 d0 q0]) ++ lasts (l.drop (i + 1))) := by
          show _ = _
          rw [HP.out, lasts_end l i (by omega), HX.out, List.drop_eq_nil_of_le (by omega : l.length ≤ i + 1)]; simp [lasts]
        have hd : decide ((i : Int) + 1 = (n : Int)) = true := decide_eq_true (by omega)
        have hd2 : (((i : Int) + 1) == (n : Int)) = true := by simp; omega
        have hd3 : (i : Int) + 1 = (n : Int) := by omega
        go_quiet (fail)
        obtain ⟨w5, HW5⟩ : ∃ w5, Hid (w5 = w4.drewN nq) := ⟨_, rfl⟩
        have hb45 : Below w4.heap.size w4 w5 := by rw [HW5.out]; exact bel_drewN (Below.refl _ _) nq
        rw [← HW5.out]
        have f0 := bel_cell hb45 (Nat.le_refl _) e0
        have f1 := bel_cell hb45 (Nat.le_refl _) e1
        have f2 := bel_cell hb45 (Nat.le_refl _) e2
        have f3 := bel_cell hb45 (Nat.le_refl _) e3
        have hbel5 : Below w2.heap.size w2 w5 := by rw [HW5.out]; exact bel_drewN HB4.out nq
        have HOA : Hid ((w5.alloc (Obj.cells #[.string k0, .string v0, .bool d0, .int .i64 q0] 54)).ownsRow w2.heap.size 54 4 u4 done.length (flatE done)) := (own_below HO4.out hb45 (Nat.le_refl _)).alloc _
        have HCA : Hid (∀ j u, (encE (E.mk k0 v0 d0 q0))[j]? = some u → (w5.alloc (Obj.cells #[.string k0, .string v0, .bool d0, .int .i64 q0] 54)).cell? ((⟨w5.heap.size, 0, none⟩ : Addr).add j) = some u) := by
          show ∀ j u, _ → _
          intro j u hu
          have hb : (w5.alloc (Obj.cells #[.string k0, .string v0, .bool d0, .int .i64 q0] 54)).heap[w5.heap.size]? = some (Obj.cells #[.string k0, .string v0, .bool d0, .int .i64 q0] 54) := by rw [heap_alloc_get, if_pos rfl]
          rw [Addr.add_lit, Nat.zero_add, cell_of_row _ _ _ _ _ _ hb, ← hu]
          simp [encE]
        have HBA : Hid (w2.heap.size ≤ (w5.alloc (Obj.cells #[.string k0, .string v0, .bool d0, .int .i64 q0] 54)).heap.size) := by show _ ≤ _; have := hbel5.size; simp; omega
        clear e0 e1 e2 e3 hE4 hb45 HB4 HO4 hE2
        have HB5 : Hid _ := hbel5
        clear hbel5
        go_wp2_with (at_builtin; refine wpList_append_own _ rfl (.tmp 34) (.tmp 36) 22 rfl w2.heap.size 54 i0 _ 4 48 Tryd.underlying22 hi hz0 hz1 hz2 rfl (by decide) _ done.length (flatE done) rfl HOA.out ⟨w5.heap.size, 0, none⟩ 1 1 (encE (E.mk k0 v0 d0 q0)) rfl rfl HCA.out (encE_one _) (by unfold maxLen; omega) (by omega) HBA.out ?_)
        intro v' w6 hown6 hgr6 _
        have hbel6 : Below w2.heap.size w2 w6 := (HB5.out.alloc HB5.out.size _).trans ((Below.refl _ _).grown hgr6 HBA.out (fun k hk => (HOA.out.lt k hk).1))
        clear hgr6 HOA HCA
        have HN : Hid _ := And.intro hown6 hbel6
        clear hown6 hbel6
        go_wp2
        go_roundw
        case rel => exact ⟨i + 1, done ++ [E.mk k0 v0 d0 q0], by go_num, by omega, HP2.out, by rw [flatE_append, List.length_append]; simpa [flatE] using HN.out.1, HN.out.2⟩
        case measure => simp [intOf]; omega
      · obtain ⟨k1, v1, d1, q1, HY⟩ : ∃ k0 v0 d0 q0, Hid (l[i + 1]! = E.mk k0 v0 d0 q0) := ⟨_, _, _, _, rfl⟩
        have c0 := ents_cell hE4 (i + 1) 0 (by omega) (by decide)
        rw [HY.out] at c0
        simp only [encE, Nat.add_zero, List.getElem!_cons_zero] at c0
        have hd : decide ((i : Int) + 1 = (n : Int)) = false := decide_eq_false (by omega)
        have hd2 : (((i : Int) + 1) == (n : Int)) = false := by simp; omega
        have hd3 : (i : Int) + 1 < (n : Int) := by omega
        by_cases hk : k1 = k0
        · subst hk
          have HP2 : Hid (lasts l = done ++ lasts (l.drop (i + 1))) := by
            show _ = _
            rw [HP.out, lasts_skip l i (by omega) (by rw [HX.out, HY.out])]
          go_quiet (fail)
          have hbel5 : Below w2.heap.size w2 (w4.drewN nq) := bel_drewN HB4.out nq
          have HN : Hid ((w4.drewN nq).ownsRow w2.heap.size 54 4 u4 done.length (flatE done) ∧ Below w2.heap.size w2 (w4.drewN nq)) := ⟨own_below HO4.out (bel_drewN (Below.refl _ _) nq) (Nat.le_refl _), hbel5⟩
          clear hbel5 HB4 HO4 hE2 hE4
          go_wp2
          go_roundw
          case rel => exact ⟨i + 1, done, by go_num, by omega, HP2.out, HN.out.1, HN.out.2⟩
          case measure => simp [intOf]; omega
        · have hk2 : (k1.toList == k0.toList) = false := by
            simp only [beq_eq_false_iff_ne, ne_eq]
            intro h
            apply hk
            rw [ByteArray.toList_eq, ByteArray.toList_eq] at h
            exact ByteArray.ext (Array.toList_inj.1 h)
          have HP2 : Hid (lasts l = (done ++ [E.mk k0 v0 d0 q0]) ++ lasts (l.drop (i + 1))) := by
            show _ = _
            rw [HP.out, lasts_keep l i (by omega) (by rw [HX.out, HY.out]; exact hk), HX.out]; simp
          go_quiet (fail)
          obtain ⟨w5, HW5⟩ : ∃ w5, Hid (w5 = w4.drewN nq) := ⟨_, rfl⟩
          have hb45 : Below w4.heap.size w4 w5 := by rw [HW5.out]; exact bel_drewN (Below.refl _ _) nq
          rw [← HW5.out]
          have f0 := bel_cell hb45 (Nat.le_refl _) e0
          have f1 := bel_cell hb45 (Nat.le_refl _) e1
          have f2 := bel_cell hb45 (Nat.le_refl _) e2
          have f3 := bel_cell hb45 (Nat.le_refl _) e3
          have hbel5 : Below w2.heap.size w2 w5 := by rw [HW5.out]; exact bel_drewN HB4.out nq
          have HOA : Hid ((w5.alloc (Obj.cells #[.string k0, .string v0, .bool d0, .int .i64 q0] 54)).ownsRow w2.heap.size 54 4 u4 done.length (flatE done)) := (own_below HO4.out hb45 (Nat.le_refl _)).alloc _
          have HCA : Hid (∀ j u, (encE (E.mk k0 v0 d0 q0))[j]? = some u → (w5.alloc (Obj.cells #[.string k0, .string v0, .bool d0, .int .i64 q0] 54)).cell? ((⟨w5.heap.size, 0, none⟩ : Addr).add j) = some u) := by
            show ∀ j u, _ → _
            intro j u hu
            have hb : (w5.alloc (Obj.cells #[.string k0, .string v0, .bool d0, .int .i64 q0] 54)).heap[w5.heap.size]? = some (Obj.cells #[.string k0, .string v0, .bool d0, .int .i64 q0] 54) := by rw [heap_alloc_get, if_pos rfl]
            rw [Addr.add_lit, Nat.zero_add, cell_of_row _ _ _ _ _ _ hb, ← hu]
            simp [encE]
          have HBA : Hid (w2.heap.size ≤ (w5.alloc (Obj.cells #[.string k0, .string v0, .bool d0, .int .i64 q0] 54)).heap.size) := by show _ ≤ _; have := hbel5.size; simp; omega
          clear e0 e1 e2 e3 hE4 hb45 HB4 HO4 hE2
          have HB5 : Hid _ := hbel5
          clear hbel5
          go_wp2_with (at_builtin; refine wpList_append_own _ rfl (.tmp 34) (.tmp 36) 22 rfl w2.heap.size 54 i0 _ 4 48 Tryd.underlying22 hi hz0 hz1 hz2 rfl (by decide) _ done.length (flatE done) rfl HOA.out ⟨w5.heap.size, 0, none⟩ 1 1 (encE (E.mk k0 v0 d0 q0)) rfl rfl HCA.out (encE_one _) (by unfold maxLen; omega) (by omega) HBA.out ?_)
          intro v' w6 hown6 hgr6 _
          have hbel6 : Below w2.heap.size w2 w6 := (HB5.out.alloc HB5.out.size _).trans ((Below.refl _ _).grown hgr6 HBA.out (fun k hk => (HOA.out.lt k hk).1))
          clear hgr6 HOA HCA
          have HN : Hid _ := And.intro hown6 hbel6
          clear hown6 hbel6
          go_wp2
          go_roundw
          case rel => exact ⟨i + 1, done ++ [E.mk k0 v0 d0 q0], by go_num, by omega, HP2.out, by rw [flatE_append, List.length_append]; simpa [flatE] using HN.out.1, HN.out.2⟩
          case measure => simp [intOf]; omega
    · have hi' : ¬ (i : Int) < (n : Int) := by omega
      have HP2 : Hid (lasts l = done) := by
        show _ = _
        rw [HP.out, List.drop_eq_nil_of_le (by omega : l.length ≤ i)]; simp [lasts]
      have HN : Hid _ := And.intro (ownsRow_mono hown hw2) (HB.out.trans (hbelr.mono hw2))
      clear hown hbelr hE2
      go_wp2
      go_ret
      exact ⟨u4, rfl, by rw [HFO.out, HP2.out]; exact HN.out.1, HN.out.2⟩
theorem clone_none (ao : Option Addr) (c : Nat) (w : World) :
    Calls Tryd.prog 82 #[.slice ao 0 c] w fun e w' => ∃ ao' c', e = .returned (.slice ao' 0 c') ∧ Below w.heap.size w w' := by
  have q35 : ∀ (w : World) (a : Option Addr) (n c n' c' : Nat), (binOp .eql 22 (.slice a n c) (.slice none n' c')).run Tryd.prog w = .ok (.bool a.isNone) w := fun w a n c n' c' => Lib.run_eql_slice_nil w _ _ a n c n' c' Tryd.underlying22
  cases ao with
  | none =>
    go_enter Tryd.func82, Tryd.ntmps82
    go_wp2
    go_ret
    exact ⟨_, _, rfl, Below.refl _ _⟩
  | some a =>
    go_enter Tryd.func82, Tryd.ntmps82
    go_wp2
    go_ret
    exact ⟨_, _, rfl, bel_alloc _ _⟩
set_option maxRecDepth 100000 in
set_option maxHeartbeats 1000000 in
theorem ins_none (ao : Option Addr) (c : Nat) (w : World) : Calls Tryd.prog 128 #[.slice ao 0 c, .int .i64 0, .int .i64 0, .func (.func 84) #[] #[]] w fun e w' => e = .returned (.tuple #[]) ∧ w' = w := by
  go_enter Tryd.func128, Tryd.ntmps128
  go_wp2
  refine wp_loop_rounds 1 ?_
  rw [rounds_succ]
  go_wp2
  go_end0
  exact ⟨rfl, rfl⟩
set_option maxRecDepth 100000 in
set_option maxHeartbeats 1000000 in
theorem stable_none (ao : Option Addr) (c : Nat) (w : World) : Calls Tryd.prog 113 #[.slice ao 0 c, .int .i64 0, .func (.func 84) #[] #[]] w fun e w' => e = .returned (.tuple #[]) ∧ w' = w := by
  go_enter Tryd.func113, Tryd.ntmps113
  go_wp2
  refine wp_loop_rounds 1 ?_
  rw [rounds_succ]
  go_wp2_with fail
  refine (ins_none ao c w).mono ?_
  rintro e w1 ⟨rfl, hw⟩
  subst hw
  go_wp2
  refine wp_loop_rounds 1 ?_
  rw [rounds_succ]
  go_wp2
  go_end0
  exact ⟨rfl, rfl⟩
theorem sort_none (ao : Option Addr) (c : Nat) (w : World) : Calls Tryd.prog 83 #[.slice ao 0 c, .func (.func 84) #[] #[]] w fun e w' => e = .returned (.tuple #[]) ∧ w' = w := by
  go_enter Tryd.func83, Tryd.ntmps83
  go_wp2_with fail
  refine (stable_none ao c w).mono ?_
  rintro e w1 ⟨rfl, hw⟩
  subst hw
  go_wp2
  go_end0
  exact ⟨rfl, rfl⟩
set_option maxRecDepth 100000 in
set_option maxHeartbeats 1000000 in
theorem fold_none (ao : Option Addr) (c : Nat) (w : World) :
    Calls Tryd.prog 61 #[.slice ao 0 c] w fun e w' => e = .returned (.slice none 0 0) ∧ Below w.heap.size w w' := by
  go_enter Tryd.func61, Tryd.ntmps61
  go_wp2_with fail
  refine (clone_none ao c w).mono ?_
  rintro e w1 ⟨ao1, c1, rfl, hb1⟩
  go_wp2_with fail
  refine (sort_none ao1 c1 w1).mono ?_
  rintro e w2 ⟨rfl, hw⟩
  subst hw
  have HB : Hid _ := hb1
  clear hb1
  go_wp2
  refine wp_loop_rounds 1 ?_
  rw [rounds_succ]
  go_wp2
  go_ret
  exact ⟨rfl, HB.out⟩
/-- entry.Fold, of any entries. -/
theorem fold_any (ao : Option Addr) (n c : Nat) (es : List E) (w : World) (hE : EntsV w ao n es) (hbig : n ≤ 1000000000000) :
    Calls Tryd.prog 61 #[.slice ao n c] w fun e w' => ∃ v', e = .returned v' ∧ w'.ownsRow w.heap.size 54 4 v' (foldS es).length (flatE (foldS es)) ∧ Below w.heap.size w w' := by
  obtain ⟨hl, hb⟩ := hE
  by_cases hn : 0 < n
  · obtain ⟨b, off, rfl, hE⟩ := hb hn
    exact fold_some b off n c es w hl hE hbig hn
  · obtain rfl : n = 0 := by omega
    obtain rfl : es = [] := List.eq_nil_of_length_eq_zero hl
    refine (fold_none ao c w).mono ?_
    rintro e w' ⟨rfl, hB⟩
    exact ⟨_, rfl, World.ownsRow_nil _ _ _ _, hB⟩
end Go.Proofs.YtecacjddggljgaaDoor
namespace Go.Proofs.YtecacjddggljgaaDoor
open Go.RowKit Go.Sort Go.Shelf
set_option linter.unusedSectionVars false
variable [Inhabited E]
def headB (e : E) : List UInt8 := (if e.del then 1 else 0) :: putB e.seq.toNat ++ textB (strB e.key)
/-- An entry's bytes: none for one that is not right. -/
def bytesB (e : E) : List UInt8 := if rightB e then (if e.del then headB e else headB e ++ textB (strB e.value)) else []
theorem put_tag (t : UInt8) (v m : Nat) (hm : (t :: putB v).length = m) (hv : v < 18446744073709551616) (W : World) (g : Nat) (hb : Bytes W (some ⟨g, 0, none⟩) 1 [t]) :
    Calls Tryd.prog 89 #[.slice (some ⟨g, 0, none⟩) 1 1, .int .u64 v] W fun e w' => ∃ g' c', e = .returned (.slice (some ⟨g', 0, none⟩) m c') ∧ Bytes w' (some ⟨g', 0, none⟩) m (t :: putB v) ∧ m ≤ c' ∧ c' ≤ 9223372036854775807 ∧ Below W.heap.size W w' := by
  refine (put_shape (some ⟨g, 0, none⟩) 1 1 [t] v m hm W (Nat.le_refl _) (by omega) (fun h => by cases h) hb hv (by omega)).mono ?_
  rintro e w' ⟨g', c', rfl, hown, _, _, hbel⟩
  have hp : 0 < m := by rw [← hm]; simp
  obtain ⟨g2, c2, h1, _, _, h2, h3⟩ := own_shape hown hp
  cases h1
  exact ⟨g', c', rfl, own_row_bytes hown, h2, h3, hbel⟩
theorem text_tag (bs : List UInt8) (s : ByteArray) (n m : Nat) (hm : (bs ++ textB (strB s)).length = m) (hbig : n + s.size ≤ 140737488355000) (W : World) (g c : Nat) (hn : n ≤ c) (hc : c ≤ 9223372036854775807) (hb : Bytes W (some ⟨g, 0, none⟩) n bs) :
    Calls Tryd.prog 88 #[.slice (some ⟨g, 0, none⟩) n c, .string s] W fun e w' => ∃ g' c', e = .returned (.slice (some ⟨g', 0, none⟩) m c') ∧ w'.ownsRow W.heap.size 5 1 (.slice (some ⟨g', 0, none⟩) m c') m (cellsOf (bs ++ textB (strB s))) ∧ m ≤ c' ∧ c' ≤ 9223372036854775807 ∧ Below W.heap.size W w' := by
  refine (putText_shape (some ⟨g, 0, none⟩) n c bs s m hm W hn hc (fun h => by cases h) hb hbig).mono ?_
  rintro e w' ⟨g', c', rfl, hown, _, _, hbel⟩
  have hp : 0 < m := by
    have := putB_pos (strB s).length
    rw [← hm, List.length_append, textB, List.length_append]; omega
  obtain ⟨g2, c2, h1, _, _, h2, h3⟩ := own_shape hown hp
  cases h1
  exact ⟨g', c', rfl, hown, h2, h3, hbel⟩
theorem right_parts {e : E} (h : rightB e = true) : e.key.size ≤ 128 ∧ e.value.size ≤ 1024 ∧ ∃ qn : Nat, e.seq = qn ∧ 1 ≤ qn ∧ qn ≤ 1099511627776 := by
  simp only [rightB, decide_eq_true_eq] at h
  obtain ⟨_, h2, h3, _, h5, h6⟩ := h
  exact ⟨h2, h3, e.seq.toNat, by omega, by omega, by omega⟩
set_option maxRecDepth 100000 in
set_option maxHeartbeats 4000000 in
theorem bytes_any (k v : ByteArray) (d : Bool) (q : Int) (w : World) (hk : k.size ≤ 9223372036854775807) (hv : v.size ≤ 9223372036854775807) :
    Calls Tryd.prog 64 #[.agg #[.string k, .string v, .bool d, .int .i64 q]] w fun e w' => ∃ v', e = .returned v' ∧ w'.ownsRow w.heap.size 5 1 v' (bytesB ⟨k, v, d, q⟩).length (cellsOf (bytesB ⟨k, v, d, q⟩)) ∧ Below w.heap.size w w' := by
  obtain ⟨r, HR⟩ : ∃ r, Hid (rightB ⟨k, v, d, q⟩ = r) := ⟨_, rfl⟩
  obtain ⟨out, HOUT⟩ : ∃ o, Hid (bytesB ⟨k, v, d, q⟩ = o) := ⟨_, rfl⟩
  rw [HOUT.out]
  have CR := fun w => right_any k v d q w hk hv
  rw [HR.out] at CR
  have HC : Hid _ := CR
  clear CR
  go_enter Tryd.func64, Tryd.ntmps64
  go_wp2_with fail
  refine (HC.out _).mono ?_
  rintro e w1 ⟨rfl, hbel⟩
  have hblk : w1.heap[w.heap.size]? = some (Obj.cells #[.string k, .string v, .bool d, .int .i64 q] 54) := by rw [hbel.block _ (by simp), heap_alloc_get, if_pos rfl]
  have hB1 : Below w.heap.size w w1 := (bel_alloc w _).trans (hbel.mono (by simp))
  have hsz1 : w.heap.size < w1.heap.size := by have := hbel.size; simp at this; omega
  have b0 : w1.cell? ⟨w.heap.size, 0, none⟩ = some (.string k) := by rw [cell_of_row _ _ _ _ _ _ hblk]; rfl
  have b1 : w1.cell? ⟨w.heap.size, 1, none⟩ = some (.string v) := by rw [cell_of_row _ _ _ _ _ _ hblk]; rfl
  have b2 : w1.cell? ⟨w.heap.size, 2, none⟩ = some (.bool d) := by rw [cell_of_row _ _ _ _ _ _ hblk]; rfl
  have b3 : w1.cell? ⟨w.heap.size, 3, none⟩ = some (.int .i64 q) := by rw [cell_of_row _ _ _ _ _ _ hblk]; rfl
  clear hblk hbel HC
  have HB1 : Hid _ := hB1
  clear hB1
  cases r with
  | false =>
    have HN : Hid (out = []) := by show _ = _; rw [← HOUT.out, bytesB, HR.out]; rfl
    go_wp2
    go_ret
    exact ⟨_, rfl, by rw [HN.out]; exact World.ownsRow_nil _ _ _ _, HB1.out⟩
  | true =>
    obtain ⟨h1, h2, qn, h3, h4, h5⟩ := right_parts HR.out
    simp only at h1 h2 h3
    subst h3
    have hwr : IntKind.u64.wrap (qn : Int) = qn := by rw [IntKind.wrap_u64]; omega
    cases d with
    | true =>
      obtain ⟨m1, HM1⟩ : ∃ m, Hid (((1 : UInt8) :: putB qn).length = m) := ⟨_, rfl⟩
      obtain ⟨m2, HM2⟩ : ∃ m, Hid (((1 : UInt8) :: putB qn ++ textB (strB k)).length = m) := ⟨_, rfl⟩
      have hm1 : m1 ≤ 11 := by have := putB_le qn; rw [← HM1.out, List.length_cons]; omega
      have HP : Hid _ := fun W g hb => put_tag 1 qn m1 HM1.out (by omega) W g hb
      have HT : Hid _ := fun W g c hn hc hb => text_tag ((1 : UInt8) :: putB qn) k m1 m2 HM2.out (by omega) W g c hn hc hb
      have HN : Hid (out = (1 : UInt8) :: putB qn ++ textB (strB k)) := by show _ = _; rw [← HOUT.out, bytesB, HR.out]; rfl
      clear HOUT HR
      go_wp2_with fail
      go_region_held3 (fun w' => w'.cell? ⟨w.heap.size, 0, none⟩ = some (.string k) ∧ w'.cell? ⟨w.heap.size, 3, none⟩ = some (.int .i64 (qn : Int))) (first | assumption | go_keep) (first | (go_at_call 89; refine (HP.out _ _ (bytes_drew1 (bytes_one _ 1))).mono ?_; rintro e w2 ⟨g2, c2, rfl, hb2, hn2, hc2, hbel2⟩; have hS2 := And.intro (bel_cell hbel2 (Nat.le_refl _) (bel_cell (Below.drew (bel_alloc w1 _)) (Nat.le_refl _) b0)) (bel_cell hbel2 (Nat.le_refl _) (bel_cell (Below.drew (bel_alloc w1 _)) (Nat.le_refl _) b3))) | (go_at_call 88; refine (HT.out _ g2 c2 hn2 hc2 hb2).mono ?_; rintro e w3 ⟨g3, c3, rfl, hown3, hn3, hc3, hbel3⟩; have hS3 := And.intro (bel_cell hbel3 (Nat.le_refl _) hS2.1) (bel_cell hbel3 (Nat.le_refl _) hS2.2)))
      have hB2 : Below w1.heap.size w1 w2 := (Below.drew (bel_alloc w1 _)).trans (hbel2.mono (by simp))
      have hB3 : Below w1.heap.size w1 w3 := hB2.trans (hbel3.mono hB2.size)
      have HZ : Hid _ := And.intro (ownsRow_mono hown3 (Nat.le_trans (Nat.le_of_lt hsz1) hB2.size)) (HB1.out.trans (hB3.mono (Nat.le_of_lt hsz1)))
      clear hB2 hB3 hS2 hS3 hbel2 hbel3 hb2 hown3 HP HT
      go_wp2
      go_ret
      exact ⟨_, rfl, by rw [HN.out, HM2.out]; exact HZ.out.1, HZ.out.2⟩
    | false =>
      obtain ⟨m1, HM1⟩ : ∃ m, Hid (((0 : UInt8) :: putB qn).length = m) := ⟨_, rfl⟩
      obtain ⟨m2, HM2⟩ : ∃ m, Hid (((0 : UInt8) :: putB qn ++ textB (strB k)).length = m) := ⟨_, rfl⟩
      obtain ⟨m3, HM3⟩ : ∃ m, Hid ((((0 : UInt8) :: putB qn ++ textB (strB k)) ++ textB (strB v)).length = m) := ⟨_, rfl⟩
      have hm1 : m1 ≤ 11 := by have := putB_le qn; rw [← HM1.out, List.length_cons]; omega
      have hm2 : m2 ≤ 149 := by
        have h6 := putB_le qn
        have h7 := putB_le (strB k).length
        have h8 := strB_length k
        rw [← HM2.out, List.length_append, List.length_cons, textB, List.length_append]; omega
      have HP : Hid _ := fun W g hb => put_tag 0 qn m1 HM1.out (by omega) W g hb
      have HT : Hid _ := fun W g c hn hc hb => text_tag ((0 : UInt8) :: putB qn) k m1 m2 HM2.out (by omega) W g c hn hc hb
      have HN : Hid (out = ((0 : UInt8) :: putB qn ++ textB (strB k)) ++ textB (strB v)) := by show _ = _; rw [← HOUT.out, bytesB, HR.out]; rfl
      clear HOUT HR
      go_wp2_with fail
      go_region_held3 (fun w' => w'.cell? ⟨w.heap.size, 0, none⟩ = some (.string k) ∧ w'.cell? ⟨w.heap.size, 3, none⟩ = some (.int .i64 (qn : Int))) (first | assumption | go_keep) (first | (go_at_call 89; refine (HP.out _ _ (bytes_drew1 (bytes_one _ 0))).mono ?_; rintro e w2 ⟨g2, c2, rfl, hb2, hn2, hc2, hbel2⟩; have hS2 := And.intro (bel_cell hbel2 (Nat.le_refl _) (bel_cell (Below.drew (bel_alloc w1 _)) (Nat.le_refl _) b0)) (bel_cell hbel2 (Nat.le_refl _) (bel_cell (Below.drew (bel_alloc w1 _)) (Nat.le_refl _) b3))) | (go_at_call 88; refine (HT.out _ g2 c2 hn2 hc2 hb2).mono ?_; rintro e w3 ⟨g3, c3, rfl, hown3, hn3, hc3, hbel3⟩; have hS3 := And.intro (bel_cell hbel3 (Nat.le_refl _) hS2.1) (bel_cell hbel3 (Nat.le_refl _) hS2.2)))
      have hB2 : Below w1.heap.size w1 w2 := (Below.drew (bel_alloc w1 _)).trans (hbel2.mono (by simp))
      have hB3 : Below w1.heap.size w1 w3 := hB2.trans (hbel3.mono hB2.size)
      have hb3 := own_row_bytes hown3
      have d1 := bel_cell hB3 (Nat.le_refl _) b1
      have HBB : Hid _ := HB1.out.trans (hB3.mono (Nat.le_of_lt hsz1))
      have hsz3 : w.heap.size ≤ w3.heap.size := HBB.out.size
      clear hB2 hB3 hS2 hS3 hbel2 hbel3 hb2 hown3 HP HT b0 b1 b2 b3
      go_wp2_with fail
      refine (text_tag ((0 : UInt8) :: putB qn ++ textB (strB k)) v m2 m3 HM3.out (by omega) _ g3 c3 hn3 hc3 hb3).mono ?_
      rintro e w4 ⟨g4, c4, rfl, hown4, hn4, hc4, hbel4⟩
      have HZ : Hid _ := And.intro (ownsRow_mono hown4 hsz3) (HBB.out.trans (hbel4.mono hsz3))
      clear hown4 hbel4 hb3
      go_wp2
      go_ret
      exact ⟨_, rfl, by rw [HN.out, HM3.out]; exact HZ.out.1, HZ.out.2⟩
end Go.Proofs.YtecacjddggljgaaDoor
namespace Go.Proofs.YtecacjddggljgaaDoor
open Go.RowKit Go.Sort Go.Shelf
set_option linter.unusedSectionVars false
variable [Inhabited E]
def eB1 : E := ⟨⟨#[98]⟩, ⟨#[]⟩, false, 1⟩
def eA2 : E := ⟨⟨#[97]⟩, ⟨#[]⟩, false, 2⟩
def eB3 : E := ⟨⟨#[98]⟩, ⟨#[]⟩, false, 3⟩
theorem fold_three : foldS [eB1, eA2, eB3] = [eA2, eB3] := by
  have h1 : ¬ cmpS eB1.key eA2.key < 0 := by decide
  have h2 : cmpS eA2.key eB3.key < 0 := by decide
  have h3 : ¬ cmpS eB1.key eB3.key < 0 := by decide
  have h4 : ¬ eB1.key = eA2.key := by decide
  have h5 : eB1.key = eB3.key := by decide
  have h6 : eB1.seq ≤ eB3.seq := by decide
  show insS (insS (insS [] eB1) eA2) eB3 = _
  rw [insS, insS, if_neg h1, if_neg h4, insS, if_pos h2, insS, if_neg h3, if_pos h5, if_pos h6]
theorem bytes_shown : bytesB ⟨⟨#[97]⟩, ⟨#[118]⟩, false, 1⟩ = [0, 1, 1, 97, 1, 118] := by
  have h : rightB ⟨⟨#[97]⟩, ⟨#[118]⟩, false, 1⟩ = true := by decide
  rw [bytesB, h]
  rfl
theorem own_shapeE {w : World} {base : Nat} {v : Value} {n : Nat} {es : List E} (h : w.ownsRow base 54 4 v n (flatE es)) (hn : 0 < n) : ∃ g c, v = .slice (some ⟨g, 0, none⟩) n c ∧ Ents w g 0 es ∧ base ≤ g := by
  have h' := h
  rcases h.2 with ⟨_, h0⟩ | ⟨g, cap, cur, rfl, hb, _⟩
  · omega
  · exact ⟨g, cap, rfl, own_ents h', hb⟩
theorem ents_three (w : World) : Ents (w.alloc (Obj.cells (flatE [eB1, eA2, eB3]).toArray 54)) w.heap.size 0 [eB1, eA2, eB3] := fun j u hu => by
  have hb : (w.alloc (Obj.cells (flatE [eB1, eA2, eB3]).toArray 54)).heap[w.heap.size]? = some (Obj.cells (flatE [eB1, eA2, eB3]).toArray 54) := by rw [heap_alloc_get, if_pos rfl]
  rw [Nat.zero_add, cell_of_row _ _ _ _ _ _ hb]
  simpa using hu
end Go.Proofs.YtecacjddggljgaaDoor

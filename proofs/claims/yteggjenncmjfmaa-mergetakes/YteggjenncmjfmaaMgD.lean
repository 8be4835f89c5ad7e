/-
  Push and Pop of the heads: contracts over this translation.
-/
import Derived.Test.YteggjenncmjfmaaMgC
namespace Go.Proofs.Yteggjenncmjfmaa
open Go.RowKit
set_option linter.unusedSectionVars false
variable [Inhabited E] [DecidableEq E] [Inhabited RV]
theorem assert49 (a : Nat) (o : Option Addr) (n c : Nat) (w : World) : (Instr.typeAssert (.iface 49 (.agg #[.int .i64 (a : Int), .slice o n c])) 20 49 false).run Try.prog w = .ok (.agg #[.int .i64 (a : Int), .slice o n c]) w := by kernel_rfl
section
variable {own : Nat → Prop} {w : World} {g : Nat} {R : List RV} {v : Value}
theorem HIn.push (hv : HIn own w g R v) (r : RV) {w4 : World} {g4 cap4 : Nat} {o : Obj} (hr : w4.ownsRow 0 49 2 (.slice (some ⟨g4, 0, none⟩) (R.length + 1) cap4) (R.length + 1) (rowC R ++ [.int .i64 (r.age : Int), .slice r.ao r.n r.c]))
    (hg : (w.alloc o).drew.grownBy w4 v.ownBlock) (hl : v.ownBlock = some g4 ∨ g4 = w.heap.size + 1) :
    HAt (grow own w) (w4.setCell ⟨g, 0, none⟩ (.slice (some ⟨g4, 0, none⟩) (R.length + 1) cap4)) g (R ++ [r]) ∧ Only own w (w4.setCell ⟨g, 0, none⟩ (.slice (some ⟨g4, 0, none⟩) (R.length + 1) cap4)) := by
  have hlt := heap_lt hv.cells
  have hvg : ∀ k, v.ownBlock = some k → k ≠ g := fun k hk => by
    obtain ⟨cur, hc⟩ := row_heap hv.row hk
    exact ne_kind hc hv.cells (by decide)
  have hgg : w4.heap[g]? = some (.cells (headsC v) 52 (0, 0)) := by
    rw [hg.block g (by rw [heap_drew]; simp; omega) (fun e => hvg g e.symm rfl), heap_drew, heap_alloc_get, if_neg (by omega)]
    exact hv.cells
  have hne : g4 ≠ g := by
    rcases hl with e | e
    · exact hvg g4 e
    · omega
  refine ⟨⟨.slice (some ⟨g4, 0, none⟩) (R.length + 1) cap4, .inl hv.og, ?_, ?_, fun k hk => ?_⟩, ?_⟩
  · rw [heap_set hgg]; rfl
  · rw [List.length_append, List.length_singleton, rowC_append]
    exact row_block hr (fun k hk => heap_set_ne _ _ _ (by cases hk; exact hne))
  · cases hk
    rcases hl with e | e
    · exact .inl (hv.rown _ e)
    · exact .inr (by show w.heap.size ≤ g4; omega)
  · have h1 : Only own w (w.alloc o).drew := ((Only.refl own w).alloc o).drewN 1
    exact (h1.grown hg (fun k hk => .inl (hv.rown k hk))).setCell (.inl hv.og) _
set_option maxRecDepth 100000 in
set_option maxHeartbeats 1000000 in
theorem push_any (h : HAt own w g R) (r : RV) (hb : R.length ≤ 1000000) : Calls Try.prog 58 #[.pointer (some ⟨g, 0, none⟩), .iface 49 (.agg #[.int .i64 (r.age : Int), .slice r.ao r.n r.c])] w fun e w' => e = .returned (.tuple #[]) ∧ HAt (grow own w) w' g (R ++ [r]) ∧ Only own w w' := by
  obtain ⟨v, hv⟩ := h
  have c0 := hv.c0
  have f0 := hv.fz 0
  have HV : Hid (HIn own w g R v) := hv
  obtain ⟨a1, o1, n1, c1, l1⟩ := r
  have HBD : Hid (R.length ≤ 1000000) := hb
  have HG : Hid (∀ W, Below w.heap.size w W → W.ownsRow 0 49 2 v R.length (rowC R)) := fun W hW => own_below hv.row hW (Nat.le_refl _)
  have HC : Hid (∀ W, Below w.heap.size w W → W.cell? ⟨g, 0, none⟩ = some v ∧ W.frozen? ⟨g, 0, none⟩ = false) := fun W hW => ⟨(hv.keep (w' := W) (fun k hk _ => hW.block k hk)).c0, (hv.keep (w' := W) (fun k hk _ => hW.block k hk)).fz 0⟩
  have HF : Hid (∀ w4, (w.alloc (Obj.cells #[Value.int IntKind.i64 (a1 : Int), Value.slice o1 n1 c1] 49)).drew.grownBy w4 v.ownBlock → w4.cell? ⟨g, 0, none⟩ = some v ∧ w4.frozen? ⟨g, 0, none⟩ = false) := fun w4 hg4 => by
    have hlt := heap_lt hv.cells
    have hgg : w4.heap[g]? = some (.cells (headsC v) 52 (0, 0)) := by
      rw [hg4.block g (by rw [heap_drew]; simp; omega) (fun e => ?_), heap_drew, heap_alloc_get, if_neg (by omega)]
      · exact hv.cells
      · obtain ⟨cur, hc⟩ := row_heap hv.row e.symm
        exact ne_kind hc hv.cells (by decide) rfl
    exact ⟨by rw [cell_of_row _ _ _ _ _ _ hgg]; rfl, fz_of hgg 0⟩
  obtain ⟨i0, hi, hz0, hz1, hz2⟩ := info_parts info49
  obtain ⟨W0, HW0⟩ : ∃ W, Hid ((w.alloc (.cells #[.int .i64 (a1 : Int), .slice o1 n1 c1] 49)) = W) := ⟨_, rfl⟩
  have ha := assert49 a1 o1 n1 c1
  have d0 := bel_cell (bel_alloc w (.cells #[.int .i64 (a1 : Int), .slice o1 n1 c1] 49)) (Nat.le_refl _) c0
  clear hv hb
  go_enter Try.func58, Try.ntmps58
  go_wp2_with fail
  go_region_law (refine step_append_lies _ rfl (.tmp 8) (.tmp 11) 50 rfl 0 49 i0 _ 2 32 Try.underlying50 hi hz0 hz1 hz2 rfl (by decide) v R.length (rowC R) rfl (HG.out _ (by first | exact (bel_alloc _ _).drew | exact (Below.drew (Below.refl _ _)).alloc (Below.drew (Below.refl _ _)).size _)) ⟨w.heap.size, 0, none⟩ 1 1 [.int .i64 (a1 : Int), .slice o1 n1 c1] rfl rfl (World.news_of_block (cs := #[.int .i64 (a1 : Int), .slice o1 n1 c1]) (t := 49) (fr := (0, 0)) (by rw [heap_drew, heap_alloc_get, if_pos rfl])) (encR_one ⟨a1, o1, n1, c1, l1⟩) (by decide) (by have := HBD.out; unfold maxLen; omega) (by have := HBD.out; omega) (Nat.zero_le _) _ rfl ?_; intro g4 cap4 w4 hr4 hg4 hl4 hlt4; have k0 := HF.out w4 hg4; have k1 := k0.1; have k2 := k0.2)
  all_goals go_wp2
  all_goals go_end0
  all_goals exact ⟨rfl, HV.out.push ⟨a1, o1, n1, c1, l1⟩ hr4 hg4 (by simpa using hl4)⟩
theorem row_less {w : World} {base e size b c n m : Nat} {xs ys : List Value} (h : w.ownsRow base e size (.slice (some ⟨b, 0, none⟩) n c) n (xs ++ ys)) (hm : m ≤ n) (hx : xs.length = m * size) : w.ownsRow base e size (.slice (some ⟨b, 0, none⟩) m c) m xs := by
  refine ⟨hx, ?_⟩
  rcases h.2 with ⟨hv, h0⟩ | ⟨b', cap, cur, hv, hB, hgg, hn2, hmx, hs, ht⟩
  · cases hv
  · cases hv
    refine .inr ⟨b, c, cur, rfl, hB, hgg, by omega, hmx, hs, ?_⟩
    have h1 : m * size ≤ n * size := Nat.mul_le_mul_right _ hm
    rw [show cur.toList.take (m * size) = (cur.toList.take (n * size)).take (m * size) by rw [List.take_take, Nat.min_eq_left h1], ht, List.take_append_of_le_length (by omega), List.take_of_length_le (by omega)]
theorem HIn.pop {x : RV} {b c : Nat} (hv : HIn own w g (R ++ [x]) (.slice (some ⟨b, 0, none⟩) (R.length + 1) c)) (hob : own b) (hbg : b ≠ g) (o : Obj) :
    HAt own ((w.alloc o).setCell ⟨g, 0, none⟩ (.slice (some ⟨b, 0, none⟩) R.length c)) g R ∧ Only own w ((w.alloc o).setCell ⟨g, 0, none⟩ (.slice (some ⟨b, 0, none⟩) R.length c)) := by
  have hlt := heap_lt hv.cells
  have hgg : (w.alloc o).heap[g]? = some (.cells (headsC (.slice (some ⟨b, 0, none⟩) (R.length + 1) c)) 52 (0, 0)) := by
    rw [heap_alloc_get, if_neg (by omega)]
    exact hv.cells
  have hr := hv.row
  rw [List.length_append, List.length_singleton, rowC_append] at hr
  have hr2 := row_less (own_below hr (bel_alloc w o) (Nat.le_refl _)) (Nat.le_succ _) (rowC_len R)
  refine ⟨⟨.slice (some ⟨b, 0, none⟩) R.length c, hv.og, ?_, ?_, fun k hk => ?_⟩, ?_⟩
  · rw [heap_set hgg]; rfl
  · exact row_block hr2 (fun k hk => heap_set_ne _ _ _ (by cases hk; exact hbg))
  · cases hk; exact hob
  · exact ((Only.refl own w).alloc o).setCell (.inl hv.og) _
set_option maxRecDepth 100000 in
set_option maxHeartbeats 1000000 in
theorem popm_any {x : RV} (h : HAt own w g (R ++ [x])) (hb : R.length ≤ 1000000) : Calls Try.prog 57 #[.pointer (some ⟨g, 0, none⟩)] w fun e w' => e = .returned (.iface 49 (.agg #[.int .i64 (x.age : Int), .slice x.ao x.n x.c])) ∧ HAt own w' g R ∧ Only own w w' := by
  obtain ⟨v, hv⟩ := h
  obtain ⟨b, c, cur, rfl, hob, hbg, hcur, hlc, hc, hsz, hat⟩ := hv.slice (by simp)
  have hln : (R ++ [x]).length = R.length + 1 := by simp
  obtain ⟨d1, d2⟩ := hat R.length (by omega)
  have hgx : (R ++ [x])[R.length]! = x := by rw [getElem!_pos _ _ (by simp)]; simp
  rw [hgx] at d1 d2
  rw [hln] at hlc hv
  have c0 := hv.c0
  have f0 := hv.fz 0
  have HV : Hid (HIn own w g (R ++ [x]) (.slice (some ⟨b, 0, none⟩) (R.length + 1) c)) := hv
  have HO : Hid (own b ∧ b ≠ g) := ⟨hob, hbg⟩
  obtain ⟨a1, o1, n1, c1, l1⟩ := x
  have HF : Hid (Below w.heap.size w (w.alloc (.cells #[.int .i64 (a1 : Int), .slice o1 n1 c1] 49))) := bel_alloc _ _
  have e0 := bel_cell HF.out (Nat.le_refl _) c0
  have e1 : (w.alloc (.cells #[.int .i64 (a1 : Int), .slice o1 n1 c1] 49)).frozen? ⟨g, 0, none⟩ = false := (hv.keep (w' := w.alloc (.cells #[.int .i64 (a1 : Int), .slice o1 n1 c1] 49)) (fun k hk _ => HF.out.block k hk)).fz 0
  obtain ⟨m, HM⟩ : ∃ m, Hid (R.length = m) := ⟨_, rfl⟩
  rw [HM.out] at c0 d1 d2 hlc hb e0
  have hmc : (m : Int) + 1 ≤ (c : Int) := by omega
  have hne : ¬ (w.heap.size = g) := fun e => by have := heap_lt hv.cells; omega
  simp only at d1 d2
  clear hv hob hbg hcur hc hsz hat hln hgx hlc
  go_enter Try.func57, Try.ntmps57
  go_wp2
  go_ret
  have hp := HV.out.pop HO.out.1 HO.out.2 (.cells #[.int .i64 (a1 : Int), .slice o1 n1 c1] 49)
  rw [HM.out] at hp
  exact ⟨rfl, hp⟩
end
end Go.Proofs.Yteggjenncmjfmaa

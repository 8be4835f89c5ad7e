/-
  What clash's pairOf answers: a contract over this translation. What clash's firstUnlike answers: contracts over this translation. What clash's firstUnlike answers: a contract over this translation.
-/
import Derived.Test.YtecacjddggljgaaDoorPartEB
import Derived.Defers
import Derived.Recover
namespace Go.Proofs.YtecacjddggljgaaDoor.Sm
open Go.RowKit
theorem openT_mk (z : Int) (real part : List LV) (c d k a b : Nat) (ds : List (List UInt8)) : ∃ ot rt od rd l r, openT z real part c d (k + 1) a b ds = .mk ot rt od rd l r := by
  rw [openT]
  split
  · exact ⟨_, _, _, _, _, _, rfl⟩
  · split <;> exact ⟨_, _, _, _, _, _, rfl⟩
theorem pair_side (z : Int) (c d : Nat) (real part : List LV) (rb rf rn rc qb qf qn qc f : Nat) (w0 : World) (hReal : LeavesV w0 (some ⟨rb, rf, none⟩) rn rc real) (hd : d = c + qn) (hdn : d ≤ rn) (hr1 : rn ≤ 1000) (hK : WW w0 1 ks) (hz0 : 1 < w0.heap.size) (hz : -9223372036854775808 ≤ z ∧ z ≤ 9223372036854775807) (hf0 : w0.heap.size ≤ f)
    (k a b : Nat) (ds : List (List UInt8)) (po : Option Addr) (pc : Nat) (w : World) (hab : a < b) (hbn : b ≤ rn) (hW : Below w0.heap.size w0 w) (hf : w.heap[f]? = some (.cells (opC z (some ⟨rb, rf, none⟩) rn rc (c : Int) (some ⟨qb, qf, none⟩) qn qc po ds.length pc) 110 (0, 0))) (hP : PathV w0 po ds) (hpc : ds.length ≤ pc) (hl : (outL a b c d).length ≤ ds.length) (h1 : b ≤ c ∨ d ≤ a) :
    Calls Tryd.prog 69 #[.pointer (some ⟨f, 0, none⟩), .int .i64 (a : Int), .int .i64 (b : Int)] w fun e w' => ∃ p, e = .returned (.pointer p) ∧ PairV w' w.heap.size (openT z real part c d (k + 1) a b ds) p ∧ (∃ po2 pn2 pc2, (pn2 = (ds.drop (outL a b c d).length).length ∧ pn2 ≤ pc2 ∧ PathV w0 po2 (ds.drop (outL a b c d).length)) ∧ w'.heap[f]? = some (.cells (opC z (some ⟨rb, rf, none⟩) rn rc (c : Int) (some ⟨qb, qf, none⟩) qn qc po2 pn2 pc2) 110 (0, 0))) ∧ Chg f w w' := by
  rw [openT_apart _ _ _ _ _ _ _ _ _ h1]
  rw [outL_apart h1] at hl ⊢
  cases ds with
  | nil => simp at hl
  | cons e t =>
    obtain ⟨pb, off, hpo, hr⟩ := hP.2 (by simp)
    subst hpo
    have hx := hr 0 e rfl
    rw [Nat.zero_mul, Nat.add_zero] at hx
    have hnc := hReal.2.1
    have hB := beside_any (k := k) a b z rb rf rn rc (c : Int) (some ⟨qb, qf, none⟩) qn qc f pb off (e :: t).length pc e (rootD z (bytesL (partL real a b))) w.drew hab hbn hnc hf (by simp) hpc (range_bel hx (Below.drew hW) (Nat.le_refl _)) (hP.1 e (by simp)) (rootD_length _ _) _ rfl (fun W hc => by
      have hWB : Below w0.heap.size w0 W := (Below.drew hW).trans (hc.below hf0 (Nat.le_trans hW.size (Nat.le_refl _)))
      exact root_any z hz (b - a) _ _ _ W ((hReal.below hWB (Nat.le_refl _)).part a b hab hbn) (by omega) (hK.below hWB hz0) (Nat.lt_of_lt_of_le hz0 hWB.size))
    have hB2 := hB.mono (R' := fun e' w' => ∃ p, e' = .returned (.pointer p) ∧ (PairV w' w.heap.size (.mk [] [] ((e :: t).headD []) (rootD z (bytesL (partL real a b))) (.nil : PT k) .nil) p ∧ (∃ po2 pn2 pc2, (pn2 = ((e :: t).drop [(a, b)].length).length ∧ pn2 ≤ pc2 ∧ PathV w0 po2 ((e :: t).drop [(a, b)].length)) ∧ w'.heap[f]? = some (.cells (opC z (some ⟨rb, rf, none⟩) rn rc (c : Int) (some ⟨qb, qf, none⟩) qn qc po2 pn2 pc2) 110 (0, 0))) ∧ Chg f w w')) (by
      rintro e' w' ⟨p, rfl, h3, h4, h5⟩
      exact ⟨p, rfl, h3, ⟨_, _, _, ⟨by simp, by simp at hpc ⊢; omega, path_tail hP hpc rfl⟩, h4⟩, (Chg.refl f w).drew.trans h5⟩)
    by_cases h6 : b ≤ c
    · exact pair_apart1 a b c qn qc f z _ rn rc _ _ _ pc w hf h6 _ hB2
    · exact pair_apart2 a b c qn qc f z _ rn rc _ _ _ pc w hf h6 (by omega) (by omega) _ hB2
theorem pair_one (z : Int) (c d : Nat) (hcd : c < d) (real part : List LV) (rb rf rn rc qb qf qn qc f : Nat) (w0 : World) (hReal : LeavesV w0 (some ⟨rb, rf, none⟩) rn rc real) (hPart : LeavesV w0 (some ⟨qb, qf, none⟩) qn qc part) (hd : d = c + qn) (hdn : d ≤ rn) (hr1 : rn ≤ 1000) (hK : WW w0 1 ks) (hz0 : 1 < w0.heap.size) (hz : -9223372036854775808 ≤ z ∧ z ≤ 9223372036854775807)
    (k a b : Nat) (ds : List (List UInt8)) (po : Option Addr) (pc : Nat) (w : World) (hab : a < b) (hbn : b ≤ rn) (hW : Below w0.heap.size w0 w) (hf : w.heap[f]? = some (.cells (opC z (some ⟨rb, rf, none⟩) rn rc (c : Int) (some ⟨qb, qf, none⟩) qn qc po ds.length pc) 110 (0, 0))) (hP : PathV w0 po ds) (hpc : ds.length ≤ pc) (h1 : ¬ (b ≤ c ∨ d ≤ a)) (h2 : b - a ≤ 1) :
    Calls Tryd.prog 69 #[.pointer (some ⟨f, 0, none⟩), .int .i64 (a : Int), .int .i64 (b : Int)] w fun e w' => ∃ p, e = .returned (.pointer p) ∧ PairV w' w.heap.size (openT z real part c d (k + 1) a b ds) p ∧ (∃ po2 pn2 pc2, (pn2 = (ds.drop (outL a b c d).length).length ∧ pn2 ≤ pc2 ∧ PathV w0 po2 (ds.drop (outL a b c d).length)) ∧ w'.heap[f]? = some (.cells (opC z (some ⟨rb, rf, none⟩) rn rc (c : Int) (some ⟨qb, qf, none⟩) qn qc po2 pn2 pc2) 110 (0, 0))) ∧ Chg f w w' := by
  have hin := out_one h2 hab hcd h1
  obtain ⟨hrl, -, -, hrA⟩ := hReal
  obtain ⟨hql, -, -, hqA⟩ := hPart
  obtain ⟨rb', rf', e1, hrA⟩ := hrA (by omega)
  cases e1
  obtain ⟨qb', qf', e2, hqA⟩ := hqA (by omega)
  cases e2
  obtain ⟨p, hp⟩ : ∃ p, part[a - c]? = some p := ⟨_, List.getElem?_eq_getElem (by omega)⟩
  obtain ⟨r, hr⟩ : ∃ r, real[a]? = some r := ⟨_, List.getElem?_eq_getElem (by omega)⟩
  obtain ⟨p1, p2, p3, p4⟩ := hqA _ _ hp
  obtain ⟨r1, r2, r3, r4⟩ := hrA _ _ hr
  rw [openT_leaf _ _ _ _ _ _ _ _ _ h1 h2, bsAt_some hp, bsAt_some hr, outL_within h1 hin]
  refine (pair_leaf (k := k) a b c qn qc f z rb rf rn rc qb qf po ds.length pc p r w hf (by omega) (by omega) (by omega) (by omega) (by omega) (by omega) (bel_cell2 hW (Nat.le_refl _) p1) (bel_cell2 hW (Nat.le_refl _) r1) (fun W h => ?_) (fun W h => ?_)).mono ?_
  · have hWB := hW.trans (h.mono hW.size)
    exact leafOf_any z p.ao p.n p.c p.bs W (bytes_kept p2 hWB (Nat.le_refl _)) p4 p3 (hK.below hWB hz0) (Nat.lt_of_lt_of_le hz0 hWB.size) hz
  · have hWB := hW.trans (h.mono hW.size)
    exact leafOf_any z r.ao r.n r.c r.bs W (bytes_kept r2 hWB (Nat.le_refl _)) r4 r3 (hK.below hWB hz0) (Nat.lt_of_lt_of_le hz0 hWB.size) hz
  · rintro e w' ⟨q, rfl, h3, h4⟩
    exact ⟨q, rfl, h3, ⟨po, _, pc, ⟨rfl, hpc, hP⟩, (h4.block _ (Array.getElem?_eq_some_iff.1 hf).1).trans hf⟩, chg_of_below h4 (Nat.le_refl _)⟩
theorem pair_any (z : Int) (c d : Nat) (hcd : c < d) (real part : List LV) (rb rf rn rc qb qf qn qc f : Nat) (w0 : World) (hReal : LeavesV w0 (some ⟨rb, rf, none⟩) rn rc real) (hPart : LeavesV w0 (some ⟨qb, qf, none⟩) qn qc part) (hd : d = c + qn) (hdn : d ≤ rn) (hr1 : rn ≤ 1000) (hK : WW w0 1 ks) (hz0 : 1 < w0.heap.size) (hz : -9223372036854775808 ≤ z ∧ z ≤ 9223372036854775807) (hf0 : w0.heap.size ≤ f) (hf1 : f ≠ 1) :
    ∀ (k a b : Nat) (ds : List (List UInt8)) (po : Option Addr) (pc : Nat) (w : World), b - a ≤ 2 ^ k → a < b → b ≤ rn → Below w0.heap.size w0 w → w.heap[f]? = some (.cells (opC z (some ⟨rb, rf, none⟩) rn rc (c : Int) (some ⟨qb, qf, none⟩) qn qc po ds.length pc) 110 (0, 0)) → PathV w0 po ds → ds.length ≤ pc → (outL a b c d).length ≤ ds.length →
      Calls Tryd.prog 69 #[.pointer (some ⟨f, 0, none⟩), .int .i64 (a : Int), .int .i64 (b : Int)] w fun e w' => ∃ p, e = .returned (.pointer p) ∧ PairV w' w.heap.size (openT z real part c d (k + 1) a b ds) p ∧ (∃ po2 pn2 pc2, (pn2 = (ds.drop (outL a b c d).length).length ∧ pn2 ≤ pc2 ∧ PathV w0 po2 (ds.drop (outL a b c d).length)) ∧ w'.heap[f]? = some (.cells (opC z (some ⟨rb, rf, none⟩) rn rc (c : Int) (some ⟨qb, qf, none⟩) qn qc po2 pn2 pc2) 110 (0, 0))) ∧ Chg f w w' := by
  intro k
  induction k with
  | zero =>
    intro a b ds po pc w hk hab hb hW hf hP hpc hl
    by_cases h1 : b ≤ c ∨ d ≤ a
    · exact pair_side z c d real part rb rf rn rc qb qf qn qc f w0 hReal hd hdn hr1 hK hz0 hz hf0 0 a b ds po pc w hab hb hW hf hP hpc hl h1
    · exact pair_one z c d hcd real part rb rf rn rc qb qf qn qc f w0 hReal hPart hd hdn hr1 hK hz0 hz 0 a b ds po pc w hab hb hW hf hP hpc h1 (by simpa using hk)
  | succ k ih =>
    intro a b ds po pc w hk hab hb hW hf hP hpc hl
    by_cases h1 : b ≤ c ∨ d ≤ a
    · exact pair_side z c d real part rb rf rn rc qb qf qn qc f w0 hReal hd hdn hr1 hK hz0 hz hf0 (k + 1) a b ds po pc w hab hb hW hf hP hpc hl h1
    · by_cases h2 : b - a ≤ 1
      · exact pair_one z c d hcd real part rb rf rn rc qb qf qn qc f w0 hReal hPart hd hdn hr1 hK hz0 hz (k + 1) a b ds po pc w hab hb hW hf hP hpc h1 h2
      · obtain ⟨s1, s2, -⟩ := halfN_spec (b - a) (by omega) (by omega)
        obtain ⟨l1, l2⟩ := halfN_le (b - a) k (by omega) (by omega) hk
        rw [outL_both hcd (by omega) h1 h2] at hl ⊢
        obtain ⟨m, hm⟩ : ∃ m, a + halfN (b - a) = m := ⟨_, rfl⟩
        rw [hm, List.length_append] at hl ⊢
        have hl2 : (outL m b c d).length ≤ (ds.drop (outL a m c d).length).length := by rw [List.length_drop]; omega
        obtain ⟨lot, lrt, lod, lrd, ll, lr, hL⟩ := openT_mk z real part c d k a m ds
        obtain ⟨rot, rrt, rod, rrd, rl, rr, hR⟩ := openT_mk z real part c d k m b (ds.drop (outL a m c d).length)
        rw [openT_node _ _ _ _ _ _ _ _ _ _ h1 h2 hm _ _ hL hR, PT.od_mk, PT.od_mk, PT.rd_mk, PT.rd_mk]
        have hz1 : w0.heap.size ≤ w.heap.size := hW.size
        refine pair_two a b c m qn qc f z (some ⟨rb, rf, none⟩) rn rc (some ⟨qb, qf, none⟩) po ds.length pc lot lrt lod lrd ll lr rot rrt rod rrd rl rr (fun po2 pn2 pc2 => pn2 = (ds.drop (outL a m c d).length).length ∧ pn2 ≤ pc2 ∧ PathV w0 po2 (ds.drop (outL a m c d).length)) (fun po2 pn2 pc2 => pn2 = (ds.drop ((outL a m c d).length + (outL m b c d).length)).length ∧ pn2 ≤ pc2 ∧ PathV w0 po2 (ds.drop ((outL a m c d).length + (outL m b c d).length))) w hf (by omega) (by omega) (by omega) (by omega) (by omega) hm hf1 (hK.below hW hz0) hz ?_ ?_
        · intro W hc hfW
          have h := ih a m ds po pc W (by omega) (by omega) (by omega) (hW.trans (hc.below hf0 hz1)) hfW hP hpc (by omega)
          rw [hL] at h; exact h
        · rintro po2 pn2 pc2 W ⟨rfl, hp2, hp3⟩ hc hfW
          have h := ih m b (ds.drop (outL a m c d).length) po2 pc2 W (by omega) (by omega) hb (hW.trans (hc.below hf0 hz1)) hfW hp3 hp2 hl2
          rw [hR, List.drop_drop] at h
          exact h
end Go.Proofs.YtecacjddggljgaaDoor.Sm
namespace Go.Proofs.YtecacjddggljgaaDoor.Sm
open Go.RowKit
def fnd (x y : Value) : List PanicEntry := [{ v := .iface 149 (.agg #[x, y]), recovered := false }]
theorem bequal_any (ao bo : Option Addr) (n c m d : Nat) (xs ys : List UInt8) (w : World) (hx : Bytes w ao n xs) (hy : Bytes w bo m ys) :
    Calls Tryd.prog 97 #[.slice ao n c, .slice bo m d] w fun e w' => e = .returned (.bool (decide (xs = ys))) ∧ w' = w := by
  have h1 := str_bytes c hx
  have h2 := str_bytes d hy
  have HR : Hid ((xs == ys) = decide (xs = ys)) := by
    show _ = _
    by_cases h : xs = ys
    · subst h; simp
    · simp [h]
  clear hx hy
  go_enter Tryd.func97, Tryd.ntmps97
  go_wp2
  go_ret
  exact ⟨by rw [← HR.out]; rfl, rfl⟩
theorem show_same (ao bo : Option Addr) (n c m d : Nat) (xs : List UInt8) (w : World) (hx : Bytes w ao n xs) (hy : Bytes w bo m xs) :
    Calls Tryd.prog 96 #[.slice ao n c, .slice bo m d] w fun e w' => e = .returned (.tuple #[]) ∧ w' = w := by
  have h := bequal_any ao bo n c m d xs xs w hx hy
  rw [decide_eq_true rfl] at h
  have HE : Hid _ := h
  clear h hx hy
  go_enter Tryd.func96, Tryd.ntmps96
  go_wp2_with fail
  refine Calls.mono HE.out ?_
  rintro e w1 ⟨rfl, rfl⟩
  go_wp2_with fail
  go_end0
  exact ⟨rfl, rfl⟩
theorem show_unlike (ao bo : Option Addr) (n c m d : Nat) (xs ys : List UInt8) (w : World) (hx : Bytes w ao n xs) (hy : Bytes w bo m ys) (hne : xs ≠ ys) :
    Calls Tryd.prog 96 #[.slice ao n c, .slice bo m d] w fun e w' => e = .panicked (fnd (.slice ao n c) (.slice bo m d)) ∧ w' = w := by
  have h := bequal_any ao bo n c m d xs ys w hx hy
  rw [decide_eq_false hne] at h
  have HE : Hid _ := h
  clear h hx hy hne
  go_enter Tryd.func96, Tryd.ntmps96
  go_wp2_with fail
  refine Calls.mono HE.out ?_
  rintro e w1 ⟨rfl, rfl⟩
  go_wp2_with fail
  exact ⟨rfl, rfl, rfl⟩
/-- What going through a pair's tree comes to. -/
def EachR (w0 : World) {k : Nat} (T : PT k) (e : Ending) : Prop := (unl T = none ∧ e = .returned (.tuple #[])) ∨ ∃ (x y : List UInt8) (ao : Option Addr) (n c : Nat) (bo : Option Addr) (m d : Nat), unl T = some (x, y) ∧ e = .panicked (fnd (.slice ao n c) (.slice bo m d)) ∧ TxV w0 ao n c x ∧ TxV w0 bo m d y
theorem each_nil (fn : Value) (w : World) : Calls Tryd.prog 95 #[.pointer none, fn] w fun e w' => e = .returned (.tuple #[]) ∧ Below w.heap.size w w' := by
  go_enter Tryd.func95, Tryd.ntmps95
  go_wp2_with fail
  refine bodyPost_ret (results_none rfl _ _ _) rfl ?_
  exact ⟨rfl, Below.refl _ _⟩
set_option maxHeartbeats 4000000 in
set_option maxRecDepth 100000 in
theorem each_unlike (g : Nat) (oo : Option Addr) (on oc : Nat) (od : List UInt8) (ro : Option Addr) (rn rc : Nat) (rd : List UInt8) (lp rp : Option Addr) (ot rt : List UInt8) (w : World) (hg : w.heap[g]? = some (.cells (pairC oo on oc od ro rn rc rd lp rp) 158 (0, 0))) (h1 : od.length = 32) (h2 : rd.length = 32) (ho : TxV w oo on oc ot) (hr : TxV w ro rn rc rt) (hne : ot ≠ rt) :
    Calls Tryd.prog 95 #[.pointer (some ⟨g, 0, none⟩), .func (.func 96) #[] #[]] w fun e w' => e = .panicked (fnd (.slice oo on oc) (.slice ro rn rc)) ∧ Below w.heap.size w w' := by
  obtain ⟨q1, q2, q3, q4⟩ := pair_rows hg h1 h2
  have HS : Hid (∀ W, Below w.heap.size w W → W.cell? ⟨g, 0, none⟩ = some (.slice oo on oc) ∧ W.cell? ⟨g, 33, none⟩ = some (.slice ro rn rc)) := fun W hW => ⟨bel_cell2 hW (Nat.le_refl _) (q1 0 _ rfl), bel_cell2 hW (Nat.le_refl _) (q2 0 _ rfl)⟩
  have HC : Hid (∀ W, Below w.heap.size w W → Calls Tryd.prog 96 #[.slice oo on oc, .slice ro rn rc] W fun e w' => e = .panicked (fnd (.slice oo on oc) (.slice ro rn rc)) ∧ w' = W) := fun W hW => show_unlike oo ro on oc rn rc ot rt W (ho.below hW (Nat.le_refl _)).1 (hr.below hW (Nat.le_refl _)).1 hne
  have hcf : ∀ w args, Sem.run Tryd.prog (callFunc 96 args) w = .ok (.enter 96 args) w := by
    intro w args; go_simp
  clear hg h1 h2 ho hr hne q1 q2 q3 q4
  go_enter Tryd.func95, Tryd.ntmps95
  go_upto_region 1 with fail
  refine wp_region_held_drew (S := fun W => W.cell? ⟨g, 0, none⟩ = some (.slice oo on oc) ∧ W.cell? ⟨g, 33, none⟩ = some (.slice ro rn rc)) (by kernel_rfl) (HS.out _ (Below.drew (Below.refl _ _))) (fun hS => ?_)
  refine wpAnyH_take (i := 0) (v := ?_) rfl (by kernel_rfl) (by kernel_rfl) (by kernel_rfl) (fun _ _ _ h => h) (Or.inl ⟨by rfl, ?_⟩) (by assumption) ?_
  rotate_left
  · (intro w hSw; (try dsimp only at hSw); go_simp; try with_reducible rfl)
  simp only [Act.put, List.getElem_toArray, List.getElem_cons_zero, List.setIfInBounds_toArray, List.set_cons_zero, List.set_cons_succ]
  refine wpAnyH_take (i := 1) (v := ?_) rfl (by kernel_rfl) (by kernel_rfl) (by kernel_rfl) (fun _ _ _ h => h) (Or.inl ⟨by rfl, ?_⟩) (by assumption) ?_
  rotate_left
  · (intro w hSw; (try dsimp only at hSw); go_simp; try with_reducible rfl)
  simp only [Act.put, List.getElem_toArray, List.getElem_cons_zero, List.getElem_cons_succ, List.setIfInBounds_toArray, List.set_cons_zero, List.set_cons_succ]
  refine wpAnyH_take (i := 2) (v := ?_) rfl (by kernel_rfl) (by kernel_rfl) (by kernel_rfl) (fun _ _ _ h => h) (Or.inl ⟨by rfl, ?_⟩) (by assumption) ?_
  rotate_left
  · (intro w hSw; (try dsimp only at hSw); go_simp; try with_reducible rfl)
  simp only [Act.put, List.getElem_toArray, List.getElem_cons_zero, List.getElem_cons_succ, List.setIfInBounds_toArray, List.set_cons_zero, List.set_cons_succ]
  refine wpAnyH_take (i := 3) (v := ?_) rfl (by kernel_rfl) (by kernel_rfl) (by kernel_rfl) (fun _ _ _ h => h) (Or.inl ⟨by rfl, ?_⟩) (by assumption) ?_
  rotate_left
  · (intro w hSw; (try dsimp only at hSw); go_simp; try with_reducible rfl)
  simp only [Act.put, List.getElem_toArray, List.getElem_cons_zero, List.getElem_cons_succ, List.setIfInBounds_toArray, List.set_cons_zero, List.set_cons_succ]
  refine wpAnyH_take (i := 4) (v := ?_) rfl (by kernel_rfl) (by kernel_rfl) (by kernel_rfl) (fun _ _ _ h => h) (Or.inl ⟨by rfl, ?_⟩) (by assumption) ?_
  rotate_left
  · (intro w hSw; (try dsimp only at hSw); go_simp; try with_reducible rfl)
  simp only [Act.put, List.getElem_toArray, List.getElem_cons_zero, List.getElem_cons_succ, List.setIfInBounds_toArray, List.set_cons_zero, List.set_cons_succ]
  refine wpAnyH_take (i := 5) (v := ?_) rfl (by kernel_rfl) (by kernel_rfl) (by kernel_rfl) (fun _ _ _ h => h) (Or.inl ⟨by rfl, ?_⟩) (by assumption) ?_
  rotate_left
  · (intro w hSw; (try dsimp only at hSw); go_simp; try with_reducible rfl)
  simp only [Act.put, List.getElem_toArray, List.getElem_cons_zero, List.getElem_cons_succ, List.setIfInBounds_toArray, List.set_cons_zero, List.set_cons_succ]
  refine wpAnyH_take (i := 6) (v := ?_) rfl (by kernel_rfl) (by kernel_rfl) (by kernel_rfl) (fun _ _ _ h => h) (Or.inl ⟨by rfl, ?_⟩) (by assumption) ?_
  rotate_left
  · (intro w hSw; (try dsimp only at hSw); go_simp; try with_reducible rfl)
  simp only [Act.put, List.getElem_toArray, List.getElem_cons_zero, List.getElem_cons_succ, List.setIfInBounds_toArray, List.set_cons_zero, List.set_cons_succ]
  refine wpAnyH_take (i := 7) (v := ?_) rfl (by kernel_rfl) (by kernel_rfl) (by kernel_rfl) (fun _ _ _ h => h) (Or.inl ⟨by rfl, ?_⟩) (by assumption) ?_
  rotate_left
  · (intro w hSw; (try dsimp only at hSw); go_simp; try with_reducible rfl)
  simp only [Act.put, List.getElem_toArray, List.getElem_cons_zero, List.getElem_cons_succ, List.setIfInBounds_toArray, List.set_cons_zero, List.set_cons_succ]
  refine wpAnyH_take (i := 8) (v := ?_) rfl (by kernel_rfl) (by kernel_rfl) (by kernel_rfl) (fun _ _ _ h => h) (Or.inl ⟨by rfl, ?_⟩) (by assumption) ?_
  rotate_left
  · (intro w hSw; (try dsimp only at hSw); go_simp; try with_reducible rfl)
  simp only [Act.put, List.getElem_toArray, List.getElem_cons_zero, List.getElem_cons_succ, List.setIfInBounds_toArray, List.set_cons_zero, List.set_cons_succ]
  refine wpAnyH_take (i := 9) (v := ?_) rfl (by kernel_rfl) (by kernel_rfl) (by kernel_rfl) (fun _ _ _ h => h) (Or.inl ⟨by rfl, ?_⟩) (by assumption) ?_
  rotate_left
  · (intro w hSw; (try dsimp only at hSw); go_simp; try with_reducible rfl)
  simp only [Act.put, List.getElem_toArray, List.getElem_cons_zero, List.getElem_cons_succ, List.setIfInBounds_toArray, List.set_cons_zero, List.set_cons_succ]
  refine wpAnyH_take (i := 10) (v := ?_) rfl (by kernel_rfl) (by kernel_rfl) (by kernel_rfl) (fun _ _ _ h => h) (Or.inl ⟨by rfl, ?_⟩) (by assumption) ?_
  rotate_left
  · (intro w hSw; (try dsimp only at hSw); go_simp; try with_reducible rfl)
  simp only [Act.put, List.getElem_toArray, List.getElem_cons_zero, List.getElem_cons_succ, List.setIfInBounds_toArray, List.set_cons_zero, List.set_cons_succ]
  refine wpAnyH_ready (rs := [11]) (by kernel_rfl) (by simp) ?_
  refine AllReadyH.cons rfl (fun K hK => ?_) AllReadyH.nil
  go_simp
  refine (HC.out _ (Below.drew (Below.refl _ _))).mono ?_
  rintro e w1 ⟨rfl, rfl⟩
  go_wp2_with fail
  exact ⟨rfl, rfl, Below.drew (Below.refl _ _)⟩
set_option maxHeartbeats 4000000 in
set_option maxRecDepth 100000 in
theorem each_like (g : Nat) (oo : Option Addr) (on oc : Nat) (od : List UInt8) (ro : Option Addr) (rn rc : Nat) (rd : List UInt8) (lp rp : Option Addr) (ot : List UInt8) {k : Nat} (l r : PT k) (w0 w : World) (hg : w.heap[g]? = some (.cells (pairC oo on oc od ro rn rc rd lp rp) 158 (0, 0))) (h1 : od.length = 32) (h2 : rd.length = 32) (ho : TxV w oo on oc ot) (hr : TxV w ro rn rc ot)
    (hL : ∀ W, Below w.heap.size w W → Calls Tryd.prog 95 #[.pointer lp, .func (.func 96) #[] #[]] W fun e w' => EachR w0 l e ∧ Below W.heap.size W w')
    (hR : ∀ W, Below w.heap.size w W → Calls Tryd.prog 95 #[.pointer rp, .func (.func 96) #[] #[]] W fun e w' => EachR w0 r e ∧ Below W.heap.size W w') :
    Calls Tryd.prog 95 #[.pointer (some ⟨g, 0, none⟩), .func (.func 96) #[] #[]] w fun e w' => EachR w0 (.mk ot ot od rd l r) e ∧ Below w.heap.size w w' := by
  obtain ⟨q1, q2, q3, q4⟩ := pair_rows hg h1 h2
  have HS : Hid (∀ W, Below w.heap.size w W → W.cell? ⟨g, 0, none⟩ = some (.slice oo on oc) ∧ W.cell? ⟨g, 33, none⟩ = some (.slice ro rn rc)) := fun W hW => ⟨bel_cell2 hW (Nat.le_refl _) (q1 0 _ rfl), bel_cell2 hW (Nat.le_refl _) (q2 0 _ rfl)⟩
  have HS2 : Hid (∀ W, Below w.heap.size w W → W.cell? ⟨g, 66, none⟩ = some (.pointer lp) ∧ W.cell? ⟨g, 67, none⟩ = some (.pointer rp)) := fun W hW => ⟨bel_cell2 hW (Nat.le_refl _) q3, bel_cell2 hW (Nat.le_refl _) q4⟩
  have HC : Hid (∀ W, Below w.heap.size w W → Calls Tryd.prog 96 #[.slice oo on oc, .slice ro rn rc] W fun e w' => e = .returned (.tuple #[]) ∧ w' = W) := fun W hW => show_same oo ro on oc rn rc ot W (ho.below hW (Nat.le_refl _)).1 (hr.below hW (Nat.le_refl _)).1
  have HL : Hid _ := hL
  have HR : Hid _ := hR
  have hcf : ∀ w args, Sem.run Tryd.prog (callFunc 96 args) w = .ok (.enter 96 args) w := by
    intro w args; go_simp
  obtain ⟨P, HP⟩ : ∃ P : Ending → World → Prop, Hid (P = fun e w' => EachR w0 (.mk ot ot od rd l r) e ∧ Below w.heap.size w w') := ⟨_, rfl⟩
  rw [← HP.out]
  have HPA : Hid (∀ x y ao n c bo m d w', unl l = some (x, y) → TxV w0 ao n c x → TxV w0 bo m d y → Below w.heap.size w w' → P (.panicked (fnd (.slice ao n c) (.slice bo m d))) w') := fun x y ao n c bo m d w' h3 h4 h5 h6 => by
    rw [HP.out]; exact ⟨.inr ⟨x, y, ao, n, c, bo, m, d, by rw [unl_mk, if_pos rfl, h3], rfl, h4, h5⟩, h6⟩
  have HPB : Hid (∀ x y ao n c bo m d w', unl l = none → unl r = some (x, y) → TxV w0 ao n c x → TxV w0 bo m d y → Below w.heap.size w w' → P (.panicked (fnd (.slice ao n c) (.slice bo m d))) w') := fun x y ao n c bo m d w' h2 h3 h4 h5 h6 => by
    rw [HP.out]; exact ⟨.inr ⟨x, y, ao, n, c, bo, m, d, by rw [unl_mk, if_pos rfl, h2, h3], rfl, h4, h5⟩, h6⟩
  have HPC : Hid (∀ w', unl l = none → unl r = none → Below w.heap.size w w' → P (.returned (.tuple #[])) w') := fun w' h2 h3 h6 => by
    rw [HP.out]; exact ⟨.inl ⟨by rw [unl_mk, if_pos rfl, h2, h3], rfl⟩, h6⟩
  clear hg h1 h2 ho hr q1 q2 q3 q4 hL hR HP
  go_enter Tryd.func95, Tryd.ntmps95
  go_upto_region 1 with fail
  refine wp_region_held_drew (S := fun W => W.cell? ⟨g, 0, none⟩ = some (.slice oo on oc) ∧ W.cell? ⟨g, 33, none⟩ = some (.slice ro rn rc)) (by kernel_rfl) (HS.out _ (Below.drew (Below.refl _ _))) (fun hS => ?_)
  refine wpAnyH_take (i := 0) (v := ?_) rfl (by kernel_rfl) (by kernel_rfl) (by kernel_rfl) (fun _ _ _ h => h) (Or.inl ⟨by rfl, ?_⟩) (by assumption) ?_
  rotate_left
  · (intro w hSw; (try dsimp only at hSw); go_simp; try with_reducible rfl)
  simp only [Act.put, List.getElem_toArray, List.getElem_cons_zero, List.setIfInBounds_toArray, List.set_cons_zero, List.set_cons_succ]
  refine wpAnyH_take (i := 1) (v := ?_) rfl (by kernel_rfl) (by kernel_rfl) (by kernel_rfl) (fun _ _ _ h => h) (Or.inl ⟨by rfl, ?_⟩) (by assumption) ?_
  rotate_left
  · (intro w hSw; (try dsimp only at hSw); go_simp; try with_reducible rfl)
  simp only [Act.put, List.getElem_toArray, List.getElem_cons_zero, List.getElem_cons_succ, List.setIfInBounds_toArray, List.set_cons_zero, List.set_cons_succ]
  refine wpAnyH_take (i := 2) (v := ?_) rfl (by kernel_rfl) (by kernel_rfl) (by kernel_rfl) (fun _ _ _ h => h) (Or.inl ⟨by rfl, ?_⟩) (by assumption) ?_
  rotate_left
  · (intro w hSw; (try dsimp only at hSw); go_simp; try with_reducible rfl)
  simp only [Act.put, List.getElem_toArray, List.getElem_cons_zero, List.getElem_cons_succ, List.setIfInBounds_toArray, List.set_cons_zero, List.set_cons_succ]
  refine wpAnyH_take (i := 3) (v := ?_) rfl (by kernel_rfl) (by kernel_rfl) (by kernel_rfl) (fun _ _ _ h => h) (Or.inl ⟨by rfl, ?_⟩) (by assumption) ?_
  rotate_left
  · (intro w hSw; (try dsimp only at hSw); go_simp; try with_reducible rfl)
  simp only [Act.put, List.getElem_toArray, List.getElem_cons_zero, List.getElem_cons_succ, List.setIfInBounds_toArray, List.set_cons_zero, List.set_cons_succ]
  refine wpAnyH_take (i := 4) (v := ?_) rfl (by kernel_rfl) (by kernel_rfl) (by kernel_rfl) (fun _ _ _ h => h) (Or.inl ⟨by rfl, ?_⟩) (by assumption) ?_
  rotate_left
  · (intro w hSw; (try dsimp only at hSw); go_simp; try with_reducible rfl)
  simp only [Act.put, List.getElem_toArray, List.getElem_cons_zero, List.getElem_cons_succ, List.setIfInBounds_toArray, List.set_cons_zero, List.set_cons_succ]
  refine wpAnyH_take (i := 5) (v := ?_) rfl (by kernel_rfl) (by kernel_rfl) (by kernel_rfl) (fun _ _ _ h => h) (Or.inl ⟨by rfl, ?_⟩) (by assumption) ?_
  rotate_left
  · (intro w hSw; (try dsimp only at hSw); go_simp; try with_reducible rfl)
  simp only [Act.put, List.getElem_toArray, List.getElem_cons_zero, List.getElem_cons_succ, List.setIfInBounds_toArray, List.set_cons_zero, List.set_cons_succ]
  refine wpAnyH_take (i := 6) (v := ?_) rfl (by kernel_rfl) (by kernel_rfl) (by kernel_rfl) (fun _ _ _ h => h) (Or.inl ⟨by rfl, ?_⟩) (by assumption) ?_
  rotate_left
  · (intro w hSw; (try dsimp only at hSw); go_simp; try with_reducible rfl)
  simp only [Act.put, List.getElem_toArray, List.getElem_cons_zero, List.getElem_cons_succ, List.setIfInBounds_toArray, List.set_cons_zero, List.set_cons_succ]
  refine wpAnyH_take (i := 7) (v := ?_) rfl (by kernel_rfl) (by kernel_rfl) (by kernel_rfl) (fun _ _ _ h => h) (Or.inl ⟨by rfl, ?_⟩) (by assumption) ?_
  rotate_left
  · (intro w hSw; (try dsimp only at hSw); go_simp; try with_reducible rfl)
  simp only [Act.put, List.getElem_toArray, List.getElem_cons_zero, List.getElem_cons_succ, List.setIfInBounds_toArray, List.set_cons_zero, List.set_cons_succ]
  refine wpAnyH_take (i := 8) (v := ?_) rfl (by kernel_rfl) (by kernel_rfl) (by kernel_rfl) (fun _ _ _ h => h) (Or.inl ⟨by rfl, ?_⟩) (by assumption) ?_
  rotate_left
  · (intro w hSw; (try dsimp only at hSw); go_simp; try with_reducible rfl)
  simp only [Act.put, List.getElem_toArray, List.getElem_cons_zero, List.getElem_cons_succ, List.setIfInBounds_toArray, List.set_cons_zero, List.set_cons_succ]
  refine wpAnyH_take (i := 9) (v := ?_) rfl (by kernel_rfl) (by kernel_rfl) (by kernel_rfl) (fun _ _ _ h => h) (Or.inl ⟨by rfl, ?_⟩) (by assumption) ?_
  rotate_left
  · (intro w hSw; (try dsimp only at hSw); go_simp; try with_reducible rfl)
  simp only [Act.put, List.getElem_toArray, List.getElem_cons_zero, List.getElem_cons_succ, List.setIfInBounds_toArray, List.set_cons_zero, List.set_cons_succ]
  refine wpAnyH_take (i := 10) (v := ?_) rfl (by kernel_rfl) (by kernel_rfl) (by kernel_rfl) (fun _ _ _ h => h) (Or.inl ⟨by rfl, ?_⟩) (by assumption) ?_
  rotate_left
  · (intro w hSw; (try dsimp only at hSw); go_simp; try with_reducible rfl)
  simp only [Act.put, List.getElem_toArray, List.getElem_cons_zero, List.getElem_cons_succ, List.setIfInBounds_toArray, List.set_cons_zero, List.set_cons_succ]
  refine wpAnyH_ready (rs := [11]) (by kernel_rfl) (by simp) ?_
  refine AllReadyH.cons rfl (fun K hK => ?_) AllReadyH.nil
  go_simp
  refine (HC.out _ (Below.drew (Below.refl _ _))).mono ?_
  rintro e w1 ⟨rfl, rfl⟩
  go_wp2_with fail
  refine hK.out _ _ (HS.out _ (Below.drew (Below.refl _ _))) (fun hHeld2 => ?_)
  clear hK K
  refine wpAnyH_done (by kernel_rfl) ?_ _
  clear hS hHeld2 hcf
  obtain ⟨w1, Hw1⟩ : ∃ W, Hid (w.drew = W) := ⟨_, rfl⟩
  rw [Hw1.out]
  have HB1 : Hid (Below w.heap.size w w1) := by show Below _ _ _; rw [← Hw1.out]; exact Below.drew (Below.refl _ _)
  clear Hw1
  have hc1 := (HS2.out _ HB1.out).1
  go_wp2_with fail
  clear hc1
  refine (HL.out _ HB1.out).mono ?_
  rintro e w2 ⟨he, hb2⟩
  have HB2 : Hid (Below w.heap.size w w2) := HB1.out.trans (hb2.mono HB1.out.size)
  rcases he with ⟨hn, rfl⟩ | ⟨x, y, ao, n, c, bo, m, d, hn, rfl, t1, t2⟩
  · have hc2 := (HS2.out _ HB2.out).2
    have HNL : Hid (unl l = none) := hn
    clear hn hb2
    go_wp2_with fail
    clear hc2
    refine (HR.out _ HB2.out).mono ?_
    rintro e w3 ⟨he, hb3⟩
    have HB3 : Hid (Below w.heap.size w w3) := HB2.out.trans (hb3.mono HB2.out.size)
    rcases he with ⟨hn, rfl⟩ | ⟨x, y, ao, n, c, bo, m, d, hn, rfl, t1, t2⟩
    · have HNR : Hid (unl r = none) := hn
      clear hn hb3
      go_wp2_with fail
      go_end0
      exact HPC.out _ HNL.out HNR.out HB3.out
    · have H := HPB.out x y ao n c bo m d w3 HNL.out hn t1 t2 HB3.out
      exact ⟨rfl, H⟩
  · have H := HPA.out x y ao n c bo m d w2 hn t1 t2 HB2.out
    exact ⟨rfl, H⟩
theorem each_any (base : Nat) (w0 : World) : ∀ {k : Nat} (T : PT k) (p : Option Addr) (w : World), PairV w0 base T p → Below w0.heap.size w0 w → Calls Tryd.prog 95 #[.pointer p, .func (.func 96) #[] #[]] w fun e w' => EachR w0 T e ∧ Below w.heap.size w w' := by
  intro k
  induction k with
  | zero =>
    intro T p w h _
    have h : p = none := h
    subst h
    refine (each_nil _ w).mono ?_
    rintro e w' ⟨rfl, hb⟩
    exact ⟨.inl ⟨rfl, rfl⟩, hb⟩
  | succ k ih =>
    intro T p w h hW
    rcases PT.two T with rfl | ⟨ot, rt, od, rd, l, r, rfl⟩
    · have h : p = none := PairV_nil.1 h
      subst h
      refine (each_nil _ w).mono ?_
      rintro e w' ⟨rfl, hb⟩
      exact ⟨.inl ⟨unl_nil, rfl⟩, hb⟩
    · obtain ⟨g, oo, on, oc, ro, rn, rc, lp, rp, ⟨h1, h2, h3, h4, h4'⟩, ⟨h5, h6⟩, ⟨h7, h8⟩, h9, h10⟩ := PairV_mk.1 h
      subst h1
      have h3' : w.heap[g]? = some (.cells (pairC oo on oc od ro rn rc rd lp rp) 158 (0, 0)) := (hW.block g (Array.getElem?_eq_some_iff.1 h3).1).trans h3
      by_cases he : ot = rt
      · subst he
        exact each_like g oo on oc od ro rn rc rd lp rp ot l r w0 w h3' h4 h4' (h5.below hW (Nat.le_refl _)) (h7.below hW (Nat.le_refl _)) (fun W h => ih l lp W h9 (hW.trans (h.mono hW.size))) (fun W h => ih r rp W h10 (hW.trans (h.mono hW.size)))
      · refine (each_unlike g oo on oc od ro rn rc rd lp rp ot rt w h3' h4 h4' (h5.below hW (Nat.le_refl _)) (h7.below hW (Nat.le_refl _)) he).mono ?_
        rintro e w' ⟨rfl, hb⟩
        exact ⟨.inr ⟨ot, rt, oo, on, oc, ro, rn, rc, by rw [unl_mk, if_neg he], rfl, h5, h7⟩, hb⟩
end Go.Proofs.YtecacjddggljgaaDoor.Sm
namespace Go.Proofs.YtecacjddggljgaaDoor.Sm
open Go.RowKit
def fndR (x y : Value) : List PanicEntry := [{ v := .iface 149 (.agg #[x, y]), recovered := true }]
theorem catch_idle (p q r : Addr) (w : World) :
    CallsD Tryd.prog 94 #[.pointer (some p), .pointer (some q), .pointer (some r)] .returning w fun e u' w' => e = .returned (.tuple #[]) ∧ u' = .returning ∧ w' = w := by
  refine callsD_of_wpS Tryd.func94 rfl fun c₀ cs hu => ?_
  apply wpS_seq
  apply wpS_region
  simp [wpOpsS, go_sem, recoverD, hu, Tryd.ntmps94, Exit.thenS]
  refine wpS_of_wp ?_
  go_wp2
  cases c₀
  simp_all [bodyPostS, results, Tryd.results94]
set_option maxRecDepth 100000 in
set_option maxHeartbeats 1000000 in
theorem catch_found (B : Nat) (ao : Option Addr) (n c : Nat) (bo : Option Addr) (m d : Nat) (w : World) (h0 : w.heap[B]? = some (.cells #[.slice none 0 0] 27 (0, 0))) (h1 : w.heap[B + 1]? = some (.cells #[.slice none 0 0] 27 (0, 0))) (h2 : w.heap[B + 1 + 1]? = some (.cells #[.bool false] 4 (0, 0))) :
    CallsD Tryd.prog 94 #[.pointer (some ⟨B, 0, none⟩), .pointer (some ⟨B + 1, 0, none⟩), .pointer (some ⟨B + 1 + 1, 0, none⟩)] (.panicking (fnd (.slice ao n c) (.slice bo m d))) w fun e u' w' => e = .returned (.tuple #[]) ∧ u' = .panicking (fndR (.slice ao n c) (.slice bo m d)) ∧ (w'.cell? ⟨B, 0, none⟩ = some (.slice ao n c) ∧ w'.cell? ⟨B + 1, 0, none⟩ = some (.slice bo m d) ∧ w'.cell? ⟨B + 1 + 1, 0, none⟩ = some (.bool true)) ∧ Below B w w' := by
  unfold fnd fndR
  have hta : ∀ w : World, (Instr.typeAssert (.iface 149 (.agg #[.slice ao n c, .slice bo m d])) 20 149 true).run Tryd.prog w = .ok (.tuple #[.agg #[.slice ao n c, .slice bo m d], .bool true]) w := fun _ => by kernel_rfl
  refine callsD_of_wpS Tryd.func94 rfl fun c₀ cs hu => ?_
  apply wpS_seq
  apply wpS_region
  simp [wpOpsS, go_sem, recoverD, hu, Tryd.ntmps94, Exit.thenS]
  simp only [Array.replicate_succ, Array.replicate_zero, List.push_toArray, List.append_toArray, List.nil_append, List.cons_append, List.setIfInBounds_toArray, List.set_cons_succ, List.set_cons_zero]
  refine wpS_of_wp ?_
  have hB0 := (Array.getElem?_eq_some_iff.1 h0).1
  have hB1 := (Array.getElem?_eq_some_iff.1 h1).1
  have hB2 := (Array.getElem?_eq_some_iff.1 h2).1
  have HL : Hid (B < w.heap.size ∧ B + 1 < w.heap.size ∧ B + 1 + 1 < w.heap.size) := ⟨hB0, hB1, hB2⟩
  have HH : Hid (∀ o, (w.alloc o).heap[B]? = some (.cells #[.slice none 0 0] 27 (0, 0)) ∧ (w.alloc o).heap[B + 1]? = some (.cells #[.slice none 0 0] 27 (0, 0)) ∧ (w.alloc o).heap[B + 1 + 1]? = some (.cells #[.bool false] 4 (0, 0))) := fun o => ⟨(Below.heap_alloc _ _ _ hB0).trans h0, (Below.heap_alloc _ _ _ hB1).trans h1, (Below.heap_alloc _ _ _ hB2).trans h2⟩
  clear hB0 hB1 hB2 h0 h1 h2
  go_wp2_with fail
  have HF := heap_alloc_new w (.cells #[Value.slice ao n c, Value.slice bo m d] 149)
  have HHa := HH.out (.cells #[Value.slice ao n c, Value.slice bo m d] 149)
  have HBA := bel_alloc w (.cells #[Value.slice ao n c, Value.slice bo m d] 149)
  obtain ⟨W1, HW1⟩ : ∃ W, Hid ((w.alloc (.cells #[Value.slice ao n c, Value.slice bo m d] 149)).drew = W) := ⟨_, rfl⟩
  have HF : W1.heap[w.heap.size]? = some (.cells #[Value.slice ao n c, Value.slice bo m d] 149 (0, 0)) := by rw [← HW1.out]; exact HF
  have HHa : W1.heap[B]? = some (.cells #[.slice none 0 0] 27 (0, 0)) ∧ W1.heap[B + 1]? = some (.cells #[.slice none 0 0] 27 (0, 0)) ∧ W1.heap[B + 1 + 1]? = some (.cells #[.bool false] 4 (0, 0)) := by rw [← HW1.out]; exact HHa
  have HBA : Below B w W1 := by rw [← HW1.out]; exact Below.drew (HBA.mono (Nat.le_of_lt HL.out.1))
  obtain ⟨b0, b1, b2⟩ := HHa
  have HBA : Hid (Below B w W1) := HBA
  have HB12 : Hid (W1.heap[B + 1]? = some (.cells #[.slice none 0 0] 27 (0, 0)) ∧ W1.heap[B + 1 + 1]? = some (.cells #[.bool false] 4 (0, 0))) := ⟨b1, b2⟩
  have c0 : W1.cell? ⟨B, 0, none⟩ = some (.slice none 0 0) := by rw [cell_of_row _ _ 0 _ _ _ b0]; rfl
  have z0 : W1.frozen? ⟨B, 0, none⟩ = false := frozen_of_row W1 B 0 _ _ b0
  have g0 := heap_set W1 B 0 _ _ (.slice ao n c) b0
  have HS : Hid (W1.cell? ⟨w.heap.size, 0, none⟩ = some (.slice ao n c) ∧ W1.cell? ⟨w.heap.size, 1, none⟩ = some (.slice bo m d)) := ⟨by rw [cell_of_row _ _ 0 _ _ _ HF]; rfl, by rw [cell_of_row _ _ 1 _ _ _ HF]; rfl⟩
  have HG0 : Hid ((W1.setCell ⟨B, 0, none⟩ (.slice ao n c)).heap[B]? = some (.cells #[.slice ao n c] 27 (0, 0))) := g0
  clear b0 b1 b2 g0 HF HH
  have hfar : ∀ {W : World} {g : Nat} {v : Value} {a : Addr} {u : Value}, W.cell? a = some u → a.block ≠ g → (W.setCell ⟨g, 0, none⟩ v).cell? a = some u := fun {W g v a u} h hne => by
    rw [World.cell?_of_block (Below.heap_setCell _ _ _ _ hne)]; exact h
  have HFAR : Hid _ := @hfar
  clear hfar
  refine wp_region_held_drew (S := fun W => W.cell? ⟨w.heap.size, 0, none⟩ = some (.slice ao n c) ∧ W.cell? ⟨w.heap.size, 1, none⟩ = some (.slice bo m d)) (by kernel_rfl) (by rw [HW1.out]; exact HS.out) (fun hS => ?_)
  rw [HW1.out]
  rw [HW1.out] at hS
  clear HW1
  refine wpAnyH_take (i := 0) (v := ?_) rfl (by kernel_rfl) (by kernel_rfl) (by kernel_rfl) (fun _ _ _ h => h) (Or.inl ⟨by rfl, ?_⟩) (by assumption) ?_
  rotate_left
  · (intro w hSw; (try dsimp only at hSw); go_simp; try with_reducible rfl)
  simp only [Act.put, List.getElem_toArray, List.getElem_cons_zero, List.setIfInBounds_toArray, List.set_cons_zero, List.set_cons_succ]
  refine wpAnyH_take (i := 1) (v := ?_) rfl (by kernel_rfl) (by kernel_rfl) (by kernel_rfl) (fun _ _ _ h => h) (Or.inl ⟨by rfl, ?_⟩) (by assumption) ?_
  rotate_left
  · (intro w hSw; (try dsimp only at hSw); go_simp; try with_reducible rfl)
  simp only [Act.put, List.getElem_toArray, List.getElem_cons_zero, List.getElem_cons_succ, List.setIfInBounds_toArray, List.set_cons_zero, List.set_cons_succ]
  refine wpAnyH_take (i := 2) (v := ?_) rfl (by kernel_rfl) (by kernel_rfl) (by kernel_rfl) (fun _ _ _ h => h) (Or.inl ⟨by rfl, ?_⟩) (by assumption) ?_
  rotate_left
  · (intro w hSw; (try dsimp only at hSw); go_simp; try with_reducible rfl)
  simp only [Act.put, List.getElem_toArray, List.getElem_cons_zero, List.getElem_cons_succ, List.setIfInBounds_toArray, List.set_cons_zero, List.set_cons_succ]
  refine wpAnyH_take (i := 3) (v := ?_) rfl (by kernel_rfl) (by kernel_rfl) (by kernel_rfl) (fun _ _ _ h => h) (Or.inl ⟨by rfl, ?_⟩) (by assumption) ?_
  rotate_left
  · (intro w hSw; (try dsimp only at hSw); go_simp; try with_reducible rfl)
  simp only [Act.put, List.getElem_toArray, List.getElem_cons_zero, List.getElem_cons_succ, List.setIfInBounds_toArray, List.set_cons_zero, List.set_cons_succ]
  refine wpAnyH_ready (rs := [4]) (by kernel_rfl) (by simp) ?_
  refine AllReadyH.cons rfl (fun K hK => ?_) AllReadyH.nil
  go_simp
  refine hK.out _ _ ⟨HFAR.out HS.out.1 (by have := HL.out; show w.heap.size ≠ B; omega), HFAR.out HS.out.2 (by have := HL.out; show w.heap.size ≠ B; omega)⟩ (fun hHeld2 => ?_)
  clear hK K c0 z0
  obtain ⟨W2, HW2⟩ : ∃ W, Hid (W1.setCell ⟨B, 0, none⟩ (.slice ao n c) = W) := ⟨_, rfl⟩
  have HS2 : Hid (W2.cell? ⟨w.heap.size, 0, none⟩ = some (.slice ao n c) ∧ W2.cell? ⟨w.heap.size, 1, none⟩ = some (.slice bo m d)) := by show _ ∧ _; rw [← HW2.out]; exact ⟨HFAR.out HS.out.1 (by have := HL.out; show w.heap.size ≠ B; omega), HFAR.out HS.out.2 (by have := HL.out; show w.heap.size ≠ B; omega)⟩
  have HA2 : Hid (W2.heap[B]? = some (.cells #[.slice ao n c] 27 (0, 0))) := by show _ = _; rw [← HW2.out]; exact HG0.out
  have HA3 : Hid (W2.heap[B + 1]? = some (.cells #[.slice none 0 0] 27 (0, 0)) ∧ W2.heap[B + 1 + 1]? = some (.cells #[.bool false] 4 (0, 0))) := by
    show _ ∧ _
    rw [← HW2.out]
    exact ⟨(Below.heap_setCell _ _ _ _ (by show B + 1 ≠ B; omega)).trans HB12.out.1, (Below.heap_setCell _ _ _ _ (by show B + 1 + 1 ≠ B; omega)).trans HB12.out.2⟩
  have HBB : Hid (Below B w W2) := by show Below _ _ _; rw [← HW2.out]; exact HBA.out.setCell (Nat.le_refl _) _
  rw [HW2.out] at hHeld2 ⊢
  clear HW2 HB12 HG0 HS HBA hS
  have c1 : W2.cell? ⟨B + 1, 0, none⟩ = some (.slice none 0 0) := by rw [cell_of_row _ _ 0 _ _ _ HA3.out.1]; rfl
  have z1 : W2.frozen? ⟨B + 1, 0, none⟩ = false := frozen_of_row W2 (B + 1) 0 _ _ HA3.out.1
  have HG1 : Hid ((W2.setCell ⟨B + 1, 0, none⟩ (.slice bo m d)).heap[B + 1]? = some (.cells #[.slice bo m d] 27 (0, 0))) := heap_set W2 (B + 1) 0 _ _ (.slice bo m d) HA3.out.1
  refine wpAnyH_ready (rs := [5]) (by kernel_rfl) (by simp) ?_
  refine AllReadyH.cons rfl (fun K hK => ?_) AllReadyH.nil
  go_simp
  refine hK.out _ _ ⟨HFAR.out HS2.out.1 (by have := HL.out; show w.heap.size ≠ B + 1; omega), HFAR.out HS2.out.2 (by have := HL.out; show w.heap.size ≠ B + 1; omega)⟩ (fun hHeld3 => ?_)
  clear hK K c1 z1 hHeld2
  obtain ⟨W3, HW3⟩ : ∃ W, Hid (W2.setCell ⟨B + 1, 0, none⟩ (.slice bo m d) = W) := ⟨_, rfl⟩
  have HS3 : Hid (W3.cell? ⟨w.heap.size, 0, none⟩ = some (.slice ao n c) ∧ W3.cell? ⟨w.heap.size, 1, none⟩ = some (.slice bo m d)) := by show _ ∧ _; rw [← HW3.out]; exact ⟨HFAR.out HS2.out.1 (by have := HL.out; show w.heap.size ≠ B + 1; omega), HFAR.out HS2.out.2 (by have := HL.out; show w.heap.size ≠ B + 1; omega)⟩
  have HA4 : Hid (W3.heap[B]? = some (.cells #[.slice ao n c] 27 (0, 0)) ∧ W3.heap[B + 1]? = some (.cells #[.slice bo m d] 27 (0, 0)) ∧ W3.heap[B + 1 + 1]? = some (.cells #[.bool false] 4 (0, 0))) := by
    show _ ∧ _ ∧ _
    rw [← HW3.out]
    exact ⟨(Below.heap_setCell _ _ _ _ (by show B ≠ B + 1; omega)).trans HA2.out, HG1.out, (Below.heap_setCell _ _ _ _ (by show B + 1 + 1 ≠ B + 1; omega)).trans HA3.out.2⟩
  have HBC : Hid (Below B w W3) := by show Below _ _ _; rw [← HW3.out]; exact HBB.out.setCell (by show B ≤ B + 1; omega) _
  rw [HW3.out] at hHeld3 ⊢
  clear HW3 HG1 HS2 HBB HA2 HA3
  have c2 : W3.cell? ⟨B + 1 + 1, 0, none⟩ = some (.bool false) := by rw [cell_of_row _ _ 0 _ _ _ HA4.out.2.2]; rfl
  have z2 : W3.frozen? ⟨B + 1 + 1, 0, none⟩ = false := frozen_of_row W3 (B + 1 + 1) 0 _ _ HA4.out.2.2
  have HG2 : Hid ((W3.setCell ⟨B + 1 + 1, 0, none⟩ (.bool true)).heap[B + 1 + 1]? = some (.cells #[.bool true] 4 (0, 0))) := heap_set W3 (B + 1 + 1) 0 _ _ (.bool true) HA4.out.2.2
  refine wpAnyH_ready (rs := [6]) (by kernel_rfl) (by simp) ?_
  refine AllReadyH.cons rfl (fun K hK => ?_) AllReadyH.nil
  go_simp
  refine hK.out _ _ ⟨HFAR.out HS3.out.1 (by have := HL.out; show w.heap.size ≠ B + 1 + 1; omega), HFAR.out HS3.out.2 (by have := HL.out; show w.heap.size ≠ B + 1 + 1; omega)⟩ (fun hHeld4 => ?_)
  clear hK K c2 z2 hHeld3
  refine wpAnyH_done (by kernel_rfl) ?_ _
  clear hHeld4
  go_wp2_with fail
  have r1 : ((W3.setCell ⟨B + 1 + 1, 0, none⟩ (.bool true)).cell? ⟨B, 0, none⟩ = some (.slice ao n c) ∧ (W3.setCell ⟨B + 1 + 1, 0, none⟩ (.bool true)).cell? ⟨B + 1, 0, none⟩ = some (.slice bo m d) ∧ (W3.setCell ⟨B + 1 + 1, 0, none⟩ (.bool true)).cell? ⟨B + 1 + 1, 0, none⟩ = some (.bool true)) := by
    refine ⟨HFAR.out (by rw [cell_of_row _ _ 0 _ _ _ HA4.out.1]; rfl) (by show B ≠ B + 1 + 1; omega), HFAR.out (by rw [cell_of_row _ _ 0 _ _ _ HA4.out.2.1]; rfl) (by show B + 1 ≠ B + 1 + 1; omega), ?_⟩
    rw [cell_of_row _ _ 0 _ _ _ HG2.out]; rfl
  have r2 : Below B w (W3.setCell ⟨B + 1 + 1, 0, none⟩ (.bool true)) := HBC.out.setCell (by show B ≤ B + 1 + 1; omega) _
  clear HL HFAR HS3 HA4 HBC HG2
  simp [bodyPostS, results, Tryd.results94]
  exact ⟨r1, r2⟩
def oA (o : Option (List UInt8 × List UInt8)) : List UInt8 := match o with | none => [] | some p => p.1
def oB (o : Option (List UInt8 × List UInt8)) : List UInt8 := match o with | none => [] | some p => p.2
/-- Two texts, and whether there are two, or none. -/
def AnsR (o : Option (List UInt8 × List UInt8)) (e : Ending) (w : World) : Prop := ∃ (ao : Option Addr) (n c : Nat) (bo : Option Addr) (m d : Nat), e = .returned (.tuple #[.slice ao n c, .slice bo m d, .bool o.isSome]) ∧ TxV w ao n c (oA o) ∧ TxV w bo m d (oB o)
theorem ansr_none (w : World) : AnsR none (.returned (.tuple #[.slice none 0 0, .slice none 0 0, .bool false])) w := ⟨none, 0, 0, none, 0, 0, rfl, txv_nil w, txv_nil w⟩
set_option maxRecDepth 100000 in
set_option maxHeartbeats 1000000 in
theorem first_any (base : Nat) {k : Nat} (T : PT k) (p : Option Addr) (w : World) (hT : PairV w base T p) : Calls Tryd.prog 68 #[.pointer p] w fun e w' => AnsR (unl T) e w' ∧ Below w.heap.size w w' := by
  have hmf : ∀ (fn : Fn) (first cap : Array Value) (w : World), (Instr.makeFunc fn first cap).run Tryd.prog w = .ok (.func fn first cap) w := fun _ _ _ _ => rfl
  obtain ⟨R, HR⟩ : ∃ R : Ending → World → Prop, Hid (R = fun e w' => AnsR (unl T) e w' ∧ Below w.heap.size w w') := ⟨_, rfl⟩
  rw [← HR.out]
  obtain ⟨W0, HW0⟩ : ∃ W, Hid (W = ((w.alloc (Obj.cells #[Value.slice none 0 0] 27)).alloc (Obj.cells #[Value.slice none 0 0] 27)).alloc (Obj.cells #[Value.bool false] 4)) := ⟨_, rfl⟩
  have HF : Hid (W0.heap[w.heap.size]? = some (.cells #[Value.slice none 0 0] 27 (0, 0)) ∧ W0.heap[w.heap.size + 1]? = some (.cells #[Value.slice none 0 0] 27 (0, 0)) ∧ W0.heap[w.heap.size + 1 + 1]? = some (.cells #[Value.bool false] 4 (0, 0)) ∧ Below w.heap.size w W0) := by
    have h := frame3 w (Obj.cells #[Value.slice none 0 0] 27) (Obj.cells #[Value.slice none 0 0] 27) (Obj.cells #[Value.bool false] 4)
    show _ ∧ _ ∧ _ ∧ _
    rw [HW0.out]
    refine ⟨?_, h.1, h.2.1, h.2.2⟩
    rw [Below.heap_alloc _ _ _ (by simp; omega), Below.heap_alloc _ _ _ (by simp)]
    exact heap_alloc_new w _
  have HE : Hid (Calls Tryd.prog 95 #[.pointer p, .func (.func 96) #[] #[]] W0 fun e w' => EachR w T e ∧ Below W0.heap.size W0 w') := each_any base w T p W0 hT HF.out.2.2.2
  clear hT
  go_enter_defers Tryd.func68, Tryd.ntmps68
  go_wp2_with fail
  rw [← HW0.out]
  refine Calls.mono HE.out ?_
  rintro e w2 ⟨he, hb2⟩
  have HB2 : Hid (Below W0.heap.size W0 w2) := hb2
  have HE2 : Hid _ := he
  have HA2 : Hid (w2.heap[w.heap.size]? = some (.cells #[Value.slice none 0 0] 27 (0, 0)) ∧ w2.heap[w.heap.size + 1]? = some (.cells #[Value.slice none 0 0] 27 (0, 0)) ∧ w2.heap[w.heap.size + 1 + 1]? = some (.cells #[Value.bool false] 4 (0, 0)) ∧ Below w.heap.size w w2) :=
    ⟨(hb2.block _ (Array.getElem?_eq_some_iff.1 HF.out.1).1).trans HF.out.1, (hb2.block _ (Array.getElem?_eq_some_iff.1 HF.out.2.1).1).trans HF.out.2.1, (hb2.block _ (Array.getElem?_eq_some_iff.1 HF.out.2.2.1).1).trans HF.out.2.2.1, HF.out.2.2.2.trans (hb2.mono HF.out.2.2.2.size)⟩
  clear hb2 he HF HB2 HE HW0
  rcases HE2.out with ⟨hn, rfl⟩ | ⟨x, y, ao, n, c, bo, m, d, hn, rfl, t1, t2⟩
  · obtain ⟨a0, a1, a2, a3⟩ := HA2.out
    have far : ∀ {W : World} {g : Nat} {v : Value} {k : Nat} {o : Obj}, W.heap[k]? = some o → k ≠ g → (W.setCell ⟨g, 0, none⟩ v).heap[k]? = some o := fun {W g v k o} h hne => (Below.heap_setCell _ _ _ _ hne).trans h
    have g0 := heap_set w2 w.heap.size 0 _ _ (.slice none 0 0) a0
    have g1 := heap_set (w2.setCell ⟨w.heap.size, 0, none⟩ (.slice none 0 0)) (w.heap.size + 1) 0 _ _ (.slice none 0 0) (far a1 (by omega))
    have g2 := heap_set ((w2.setCell ⟨w.heap.size, 0, none⟩ (.slice none 0 0)).setCell ⟨w.heap.size + 1, 0, none⟩ (.slice none 0 0)) (w.heap.size + 1 + 1) 0 _ _ (.bool false) (far (far a2 (by omega)) (by omega))
    have c0 : w2.cell? ⟨w.heap.size, 0, none⟩ = some (.slice none 0 0) := by rw [cell_of_row _ _ 0 _ _ _ a0]; rfl
    have z0 : w2.frozen? ⟨w.heap.size, 0, none⟩ = false := frozen_of_row w2 _ 0 _ _ a0
    have c1 : (w2.setCell ⟨w.heap.size, 0, none⟩ (.slice none 0 0)).cell? ⟨w.heap.size + 1, 0, none⟩ = some (.slice none 0 0) := by rw [cell_of_row _ _ 0 _ _ _ (far a1 (by omega))]; rfl
    have z1 : (w2.setCell ⟨w.heap.size, 0, none⟩ (.slice none 0 0)).frozen? ⟨w.heap.size + 1, 0, none⟩ = false := frozen_of_row _ _ 0 _ _ (far a1 (by omega))
    have c2 : ((w2.setCell ⟨w.heap.size, 0, none⟩ (.slice none 0 0)).setCell ⟨w.heap.size + 1, 0, none⟩ (.slice none 0 0)).cell? ⟨w.heap.size + 1 + 1, 0, none⟩ = some (.bool false) := by rw [cell_of_row _ _ 0 _ _ _ (far (far a2 (by omega)) (by omega))]; rfl
    have z2 : ((w2.setCell ⟨w.heap.size, 0, none⟩ (.slice none 0 0)).setCell ⟨w.heap.size + 1, 0, none⟩ (.slice none 0 0)).frozen? ⟨w.heap.size + 1 + 1, 0, none⟩ = false := frozen_of_row _ _ 0 _ _ (far (far a2 (by omega)) (by omega))
    have HRES : Hid ((((w2.setCell ⟨w.heap.size, 0, none⟩ (.slice none 0 0)).setCell ⟨w.heap.size + 1, 0, none⟩ (.slice none 0 0)).setCell ⟨w.heap.size + 1 + 1, 0, none⟩ (.bool false)).cell? ⟨w.heap.size, 0, none⟩ = some (.slice none 0 0) ∧ (((w2.setCell ⟨w.heap.size, 0, none⟩ (.slice none 0 0)).setCell ⟨w.heap.size + 1, 0, none⟩ (.slice none 0 0)).setCell ⟨w.heap.size + 1 + 1, 0, none⟩ (.bool false)).cell? ⟨w.heap.size + 1, 0, none⟩ = some (.slice none 0 0) ∧ (((w2.setCell ⟨w.heap.size, 0, none⟩ (.slice none 0 0)).setCell ⟨w.heap.size + 1, 0, none⟩ (.slice none 0 0)).setCell ⟨w.heap.size + 1 + 1, 0, none⟩ (.bool false)).cell? ⟨w.heap.size + 1 + 1, 0, none⟩ = some (.bool false)) :=
      ⟨by rw [cell_of_row _ _ 0 _ _ _ (far (far g0 (by omega)) (by omega))]; rfl, by rw [cell_of_row _ _ 0 _ _ _ (far g1 (by omega))]; rfl, by rw [cell_of_row _ _ 0 _ _ _ g2]; rfl⟩
    have HBL : Hid (Below w.heap.size w (((w2.setCell ⟨w.heap.size, 0, none⟩ (.slice none 0 0)).setCell ⟨w.heap.size + 1, 0, none⟩ (.slice none 0 0)).setCell ⟨w.heap.size + 1 + 1, 0, none⟩ (.bool false))) := ((a3.setCell (Nat.le_refl _) _).setCell (by show w.heap.size ≤ w.heap.size + 1; omega) _).setCell (by show w.heap.size ≤ w.heap.size + 1 + 1; omega) _
    have HRR : Hid (R (.returned (.tuple #[.slice none 0 0, .slice none 0 0, .bool false])) (((w2.setCell ⟨w.heap.size, 0, none⟩ (.slice none 0 0)).setCell ⟨w.heap.size + 1, 0, none⟩ (.slice none 0 0)).setCell ⟨w.heap.size + 1 + 1, 0, none⟩ (.bool false))) := by
      show R _ _
      rw [HR.out]
      refine ⟨?_, HBL.out⟩
      rw [hn]
      exact ansr_none _
    clear a0 a1 a2 a3 far g0 g1 g2 hn HR HA2 HE2 HBL
    go_wp2_with fail
    refine leaves_cons (f := 94) (args := #[.pointer (some ⟨w.heap.size, 0, none⟩), .pointer (some ⟨w.heap.size + 1, 0, none⟩), .pointer (some ⟨w.heap.size + 1 + 1, 0, none⟩)]) (by simp) (by simp [go_sem]) ?_
    refine (catch_idle ⟨w.heap.size, 0, none⟩ ⟨w.heap.size + 1, 0, none⟩ ⟨w.heap.size + 1 + 1, 0, none⟩ _).mono ?_
    rintro e u' w'' ⟨rfl, rfl, rfl⟩
    obtain ⟨r0, r1, r2⟩ := HRES.out
    have hR := HRR.out
    simp [Leaves, settle, results, Tryd.results68, go_sem, r0, r1, r2, hR]
  · obtain ⟨a0, a1, a2, a3⟩ := HA2.out
    have HRR : Hid (∀ w'', Below w.heap.size w w'' → R (.returned (.tuple #[.slice ao n c, .slice bo m d, .bool true])) w'') := fun w'' hb => by
      rw [HR.out]
      refine ⟨?_, hb⟩
      rw [hn]
      exact ⟨ao, n, c, bo, m, d, rfl, t1.below hb (Nat.le_refl _), t2.below hb (Nat.le_refl _)⟩
    have HA : Hid _ := HA2.out
    clear a0 a1 a2 a3 hn HR HA2 HE2 t1 t2
    go_wp2_with fail
    refine leaves_cons (f := 94) (args := #[.pointer (some ⟨w.heap.size, 0, none⟩), .pointer (some ⟨w.heap.size + 1, 0, none⟩), .pointer (some ⟨w.heap.size + 1 + 1, 0, none⟩)]) (by simp) (by simp [go_sem]) ?_
    refine (catch_found w.heap.size ao n c bo m d w2 HA.out.1 HA.out.2.1 HA.out.2.2.1).mono ?_
    rintro e u' w'' ⟨rfl, rfl, ⟨r0, r1, r2⟩, hb⟩
    have hR := HRR.out w'' (HA.out.2.2.2.trans hb)
    simp [Leaves, settle, results, Tryd.results68, go_sem, fndR, r0, r1, r2, hR]
end Go.Proofs.YtecacjddggljgaaDoor.Sm

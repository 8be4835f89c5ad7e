/-
  What the document's answer All of frames answers: a contract over this translation.
-/
import Derived.Test.YtaejcclepahefaaRefN
import Derived.Maps.AppendAt
namespace Go.Proofs.Ytaejcclepahefaa
open Go.RowKit
theorem info9 : (Try.prog.info? 9).map (fun i => (i.zero, i.size, i.bytes)) = some (some (.string ByteArray.empty), 1, 16) := by kernel_rfl
/-- Texts as cells. -/
def strC (ts : List (List UInt8)) : List Value := ts.map fun t => .string (bS t)
theorem extract_to (l : List UInt8) (a n : Nat) (hn : l.length = n) (h : a ≤ n) : (bS l).extract a n = bS (l.drop a) := by
  have := extract_bS l a (n - a)
  rw [show a + (n - a) = n by omega, List.take_of_length_le (by rw [List.length_drop]; omega)] at this
  exact this
theorem frames_of_end (bs : List UInt8) : (bs.length = 0 → framesB bs = [] ∧ endB bs = 0) := fun h => by
  have : bs = [] := List.eq_nil_of_length_eq_zero h
  subst this
  exact frames_stop (by rw [nextF_nil]; decide)
set_option maxRecDepth 100000 in
set_option maxHeartbeats 2000000 in
theorem refAll_any (l : List UInt8) (w : World) (hl : l.length ≤ 100000) :
    Calls Try.prog 49 #[.string (bS l)] w fun e w' => ∃ v, e = .returned (.tuple #[v, .int .i64 (endB l : Int), .int .i64 (restE l : Int)]) ∧ w'.ownsRow w.heap.size 9 1 v (framesB l).length (strC (framesB l)) ∧ Below w.heap.size w w' := by
  obtain ⟨i0, hi, hz0, hz1, hz2⟩ := info_parts info9
  have hsz : (bS l).size = l.length := bS_size l
  obtain ⟨n, hn⟩ : ∃ n, l.length = n := ⟨_, rfl⟩
  rw [hn] at hsz hl
  obtain ⟨s, HS⟩ : ∃ s, Hid (bS l = s) := ⟨_, rfl⟩
  rw [HS.out] at hsz ⊢
  obtain ⟨P, HP⟩ : ∃ P : Ending → World → Prop, Hid (P = fun e w' => ∃ v, e = .returned (.tuple #[v, .int .i64 (endB l : Int), .int .i64 (restE l : Int)]) ∧ w'.ownsRow w.heap.size 9 1 v (framesB l).length (strC (framesB l)) ∧ Below w.heap.size w w') := ⟨_, rfl⟩
  rw [← HP.out]
  have HO0 : Hid ((w.alloc (.cells #[] 9)).ownsRow w.heap.size 9 1 (.slice (some ⟨w.heap.size, 0, none⟩) 0 0) 0 (strC [])) := World.ownsRow_made w #[] 0 (Nat.le_refl _) (by unfold maxLen; omega) rfl
  go_enter Try.func49, Try.ntmps49
  go_wp2_with fail
  go_loopw [5, 6] (fun v t wr => ∃ (ts : List (List UInt8)) (p : Nat) (u : Value), u = v ∧ t = .int .i64 p ∧ p ≤ n ∧ wr.ownsRow w.heap.size 9 1 u ts.length (strC ts) ∧ Hid (ts ++ framesB (l.drop p) = framesB l ∧ p + endB (l.drop p) = endB l ∧ ts.length ≤ p) ∧ Below w.heap.size w wr) (fun _ t _ => n - (intOf t).toNat)
  case atStart => exact ⟨[], 0, _, rfl, rfl, by omega, HO0.out, ⟨by simp, by simp, by simp⟩, bel_alloc _ _⟩
  case round =>
    clear HO0
    obtain ⟨ts, p, u, rfl, rfl, hp, hown, HH, hbr⟩ := hrel
    by_cases hlt : p < n
    · have hlt' : (p : Int) < (n : Int) := by omega
      have hp0 : (0 : Int) ≤ (p : Int) := by omega
      have hp1 : (p : Int) ≤ (n : Int) := by omega
      have ex : s.extract p n = bS (l.drop p) := by rw [← HS.out]; exact extract_to l p n hn hp
      have hlen : (l.drop p).length = n - p := by rw [List.length_drop, hn]
      have HN : Hid (Calls Try.prog 47 #[.string (bS (l.drop p))] wr fun e w' => e = .returned (nextR3 (l.drop p)) ∧ Below wr.heap.size wr w') := refNext_any (l.drop p) wr (by rw [hlen]; omega)
      have HOW : Hid (wr.ownsRow w.heap.size 9 1 u ts.length (strC ts)) := hown
      have HB : Hid (Below w.heap.size w wr) := hbr
      clear hown hbr
      by_cases he : (nextF (l.drop p)).2.2 = 0
      · obtain ⟨z1, z2, z3⟩ := nextF_zero he
        obtain ⟨e1, e2⟩ := frames_step he
        obtain ⟨bd, HBD⟩ : ∃ bd, Hid ((nextF (l.drop p)).1 = bd) := ⟨_, rfl⟩
        obtain ⟨m, HM⟩ : ∃ m, Hid ((nextF (l.drop p)).2.1 = m) := ⟨_, rfl⟩
        have HN2 : Hid (nextR3 (l.drop p) = .tuple #[.string (bS bd), .int .i64 (m : Int), .int .i64 0]) := by show _ = _; unfold nextR3; rw [HBD.out, HM.out, he]; rfl
        rw [HN2.out] at HN
        rw [HBD.out, HM.out] at z1 
        rw [HBD.out, hlen] at z2
        have hpm : p + m ≤ n := by omega
        have hm0 : 0 < m := by omega
        have HNEW : Hid ((ts ++ [bd]) ++ framesB (l.drop (p + m)) = framesB l ∧ (p + m) + endB (l.drop (p + m)) = endB l ∧ (ts ++ [bd]).length ≤ p + m) := by
          obtain ⟨a1, a2, a3⟩ := HH.out
          rw [e1, HBD.out, HM.out, List.drop_drop] at a1
          rw [e2, HM.out, List.drop_drop] at a2
          exact ⟨by rw [← a1]; simp, by omega, by simp; omega⟩
        have hle : ts.length + 1 ≤ maxLen := by have := HH.out.2.2; unfold maxLen; omega
        have hle2 : (ts.length + 1) * 16 ≤ 140737488355328 := by have := HH.out.2.2; omega
        have hadd : wrap64 ((p : Int) + (m : Int)) = ((p + m : Nat) : Int) := wadd hpm (by omega)
        clear HH e1 e2 z1 z2 z3 HN2 HBD HM he hlen
        go_wp2_with fail
        refine Calls.mono HN.out ?_
        rintro e w1 ⟨rfl, hb1⟩
        have HB1 : Hid (Below w.heap.size w w1) := HB.out.trans (hb1.mono HB.out.size)
        have HO1 : Hid ((w1.alloc (.cells #[.string (bS bd)] 9)).ownsRow w.heap.size 9 1 u ts.length (strC ts)) := own_below (own_below HOW.out hb1 (Nat.le_refl _)) (bel_alloc _ _) (Nat.le_refl _)
        have HZ : Hid (w.heap.size ≤ w1.heap.size) := HB1.out.size
        clear hb1 HN HOW HB ex
        go_wp2_with (at_builtin; refine wpList_append_own _ rfl (.tmp 28) (.tmp 30) 47 rfl w.heap.size 9 i0 (.string ByteArray.empty) 1 16 Try.underlying47 hi hz0 hz1 hz2 rfl (by decide) u ts.length (strC ts) rfl HO1.out ⟨w1.heap.size, 0, none⟩ 1 1 [.string (bS bd)] rfl rfl (cell_one_new _ _ _) (by simp [Value.oneCell']) hle hle2 (by have := HZ.out; simp; omega) ?_)
        intro v' w2 hown2 hg2 _
        have HO2 : Hid (w2.ownsRow w.heap.size 9 1 v' (ts ++ [bd]).length (strC (ts ++ [bd]))) := by
          show World.ownsRow _ _ _ _ _ _ _
          rw [List.length_append, strC, List.map_append]; exact hown2
        have HB2 : Hid (Below w.heap.size w w2) := HB1.out.trans (((Below.refl _ w1).alloc HZ.out _).grown hg2 (by have := HZ.out; simp; omega) (fun k hk => (HO1.out.lt k hk).1))
        clear hown2 hg2 HO1 HB1
        go_wp2_with fail
        exact ⟨⟨ts ++ [bd], p + m, v', rfl, rfl, hpm, HO2.out, HNEW.out, HB2.out⟩, by clear hadd; simp [intOf]; omega⟩
      · obtain ⟨k, HK⟩ : ∃ k, Hid ((nextF (l.drop p)).2.2 = k) := ⟨_, rfl⟩
        obtain ⟨y1, y2⟩ := nextF_bad he
        have HN2 : Hid (nextR3 (l.drop p) = .tuple #[.string (bS []), .int .i64 0, .int .i64 (k : Int)]) := by show _ = _; unfold nextR3; rw [y1, y2, HK.out]; rfl
        rw [HN2.out] at HN
        have hk0 : ¬ (k : Int) = 0 := by rw [← HK.out]; omega
        obtain ⟨e1, e2⟩ := frames_stop he
        have HEND : Hid (∀ W, Below wr.heap.size wr W → P (.returned (.tuple #[u, .int .i64 (p : Int), .int .i64 (k : Int)])) W) := fun W hW => by
          obtain ⟨a1, a2, -⟩ := HH.out
          rw [e1, List.append_nil] at a1
          rw [e2, Nat.add_zero] at a2
          rw [HP.out]
          refine ⟨u, ?_, by rw [← a1]; exact own_below HOW.out hW (Nat.le_refl _), HB.out.trans (hW.mono HB.out.size)⟩
          have hr : restE l = k := by unfold restE; rw [← a2, hn, if_neg (by omega), HK.out]
          rw [hr, ← a2]
        clear HH e1 e2 y1 y2 HN2 HK he hlen HOW HB
        go_wp2_with fail
        refine Calls.mono HN.out ?_
        rintro e w1 ⟨rfl, hb1⟩
        have HE : Hid _ := HEND.out w1 hb1
        clear hb1 HN HEND ex
        go_wp2_with fail
        go_ret3
        exact HE.out
    · obtain rfl : p = n := by omega
      have hlt' : ¬ (p : Int) < (p : Int) := by omega
      have HEND : Hid (P (.returned (.tuple #[u, .int .i64 (p : Int), .int .i64 0])) wr) := by
        obtain ⟨a1, a2, -⟩ := HH.out
        obtain ⟨e1, e2⟩ := frames_of_end (l.drop p) (by rw [List.length_drop]; omega)
        rw [e1, List.append_nil] at a1
        rw [e2, Nat.add_zero] at a2
        rw [HP.out]
        refine ⟨u, ?_, by rw [← a1]; exact hown, hbr⟩
        have hr : restE l = 0 := by unfold restE; rw [← a2, hn, if_pos rfl]
        rw [hr, ← a2]; rfl
      clear HH hown hbr
      go_wp2_with fail
      go_ret3
      exact HEND.out
end Go.Proofs.Ytaejcclepahefaa

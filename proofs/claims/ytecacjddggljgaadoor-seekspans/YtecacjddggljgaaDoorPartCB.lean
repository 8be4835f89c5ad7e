/-
  The parts of a tree beside a row of leaves: plain mathematics, and what tree.span's apart and within answer. What tree.outside answers: a contract over this translation. The steps from a leaf upwards: plain mathematics, their rows, and what slices.Reverse does to them.
-/
import Derived.Test.YtecacjddggljgaaDoorPartBJ
import Derived.Shelf.SlicesQ.Reverse
namespace Go.Proofs.YtecacjddggljgaaDoor.Sm
open Go.RowKit
/-- Halves of at most 2^(k+1) leaves have at most 2^k. -/
theorem halfN_le (n k : Nat) (h2 : 2 ≤ n) (hn : n ≤ 9223372036854775807) (hk : n ≤ 2 ^ (k + 1)) : halfN n ≤ 2 ^ k ∧ n - halfN n ≤ 2 ^ k := by
  obtain ⟨s1, s2, s3, s4, s5⟩ := halfN_spec n h2 hn
  have h1 : halfN n ≤ 2 ^ k := by
    unfold halfN at *
    generalize Lib.bitLen (n - 1) - 1 = j at *
    by_cases hjk : j ≤ k
    · exact Nat.pow_le_pow_right (by omega) hjk
    · have : 2 ^ (k + 1) ≤ 2 ^ j := Nat.pow_le_pow_right (by omega) (by omega)
      omega
  refine ⟨h1, ?_⟩
  omega
/-- The greatest parts of the leaves from a to b - 1 that have none of those from c to d - 1. -/
def outF : Nat → Nat → Nat → Nat → Nat → List (Nat × Nat)
  | 0, _, _, _, _ => []
  | f + 1, a, b, c, d => if b ≤ c ∨ d ≤ a then [(a, b)] else if c ≤ a ∧ b ≤ d then [] else outF f a (a + halfN (b - a)) c d ++ outF f (a + halfN (b - a)) b c d
def outL (a b c d : Nat) : List (Nat × Nat) := outF 64 a b c d
theorem out_one {a b c d : Nat} (h : b - a ≤ 1) (hab : a < b) (_hcd : c < d) (h1 : ¬ (b ≤ c ∨ d ≤ a)) : c ≤ a ∧ b ≤ d := by omega
theorem outF_fuel (c d : Nat) (hcd : c < d) : ∀ (k f g a b : Nat), b - a ≤ 2 ^ k → k < f → k < g → a < b → b ≤ 9223372036854775807 → outF f a b c d = outF g a b c d := by
  intro k
  induction k with
  | zero =>
    intro f g a b hk hf hg hab _
    obtain ⟨f, rfl⟩ : ∃ f', f = f' + 1 := ⟨f - 1, by omega⟩
    obtain ⟨g, rfl⟩ : ∃ g', g = g' + 1 := ⟨g - 1, by omega⟩
    rw [outF, outF]
    by_cases h1 : b ≤ c ∨ d ≤ a
    · rw [if_pos h1, if_pos h1]
    · rw [if_neg h1, if_neg h1, if_pos (out_one (by simpa using hk) hab hcd h1), if_pos (out_one (by simpa using hk) hab hcd h1)]
  | succ k ih =>
    intro f g a b hk hf hg hab hb
    obtain ⟨f, rfl⟩ : ∃ f', f = f' + 1 := ⟨f - 1, by omega⟩
    obtain ⟨g, rfl⟩ : ∃ g', g = g' + 1 := ⟨g - 1, by omega⟩
    rw [outF, outF]
    by_cases h1 : b ≤ c ∨ d ≤ a
    · rw [if_pos h1, if_pos h1]
    · rw [if_neg h1, if_neg h1]
      by_cases h2 : c ≤ a ∧ b ≤ d
      · rw [if_pos h2, if_pos h2]
      · rw [if_neg h2, if_neg h2]
        have h3 : 2 ≤ b - a := by
          rcases Nat.lt_or_ge (b - a) 2 with h | h
          · exact absurd (out_one (by omega) hab hcd h1) h2
          · exact h
        obtain ⟨l1, l2⟩ := halfN_le (b - a) k h3 (by omega) hk
        obtain ⟨s1, s2, -, -, -⟩ := halfN_spec (b - a) h3 (by omega)
        rw [ih f g a (a + halfN (b - a)) (by omega) (by omega) (by omega) (by omega) (by omega), ih f g (a + halfN (b - a)) b (by omega) (by omega) (by omega) (by omega) hb]
theorem pow63 : (9223372036854775807 : Nat) ≤ 2 ^ 63 := by decide
/-- Where neither holds, the parts of both halves. -/
theorem outL_two {a b c d : Nat} (hcd : c < d) (hab : a < b) (hb : b ≤ 9223372036854775807) (h1 : ¬ (b ≤ c ∨ d ≤ a)) (h2 : ¬ (c ≤ a ∧ b ≤ d)) : 2 ≤ b - a ∧ outL a b c d = outL a (a + halfN (b - a)) c d ++ outL (a + halfN (b - a)) b c d := by
  have h3 : 2 ≤ b - a := by
    rcases Nat.lt_or_ge (b - a) 2 with h | h
    · exact absurd (out_one (by omega) hab hcd h1) h2
    · exact h
  refine ⟨h3, ?_⟩
  have hp := pow63
  obtain ⟨l1, l2⟩ := halfN_le (b - a) 62 h3 (by omega) (by have : (2 : Nat) ^ (62 + 1) = 2 ^ 63 := rfl; omega)
  obtain ⟨s1, s2, -, -, -⟩ := halfN_spec (b - a) h3 (by omega)
  unfold outL
  rw [outF, if_neg h1, if_neg h2, outF_fuel c d hcd 62 63 64 a (a + halfN (b - a)) (by omega) (by omega) (by omega) (by omega) (by omega), outF_fuel c d hcd 62 63 64 (a + halfN (b - a)) b (by omega) (by omega) (by omega) (by omega) hb]
theorem outL_apart {a b c d : Nat} (h1 : b ≤ c ∨ d ≤ a) : outL a b c d = [(a, b)] := by unfold outL; rw [outF, if_pos h1]
theorem outL_within {a b c d : Nat} (h1 : ¬ (b ≤ c ∨ d ≤ a)) (h2 : c ≤ a ∧ b ≤ d) : outL a b c d = [] := by unfold outL; rw [outF, if_neg h1, if_pos h2]
/-- Parts are few: beside one end at most as many as it takes to halve, beside both at most twice. -/
theorem outL_few (c d : Nat) (hcd : c < d) : ∀ (k a b : Nat), b - a ≤ 2 ^ k → a < b → b ≤ 9223372036854775807 → (¬ (b ≤ c ∨ d ≤ a) → (c ≤ a ∨ b ≤ d) → (outL a b c d).length ≤ k) ∧ (¬ (b ≤ c ∨ d ≤ a) → (outL a b c d).length ≤ 2 * k) ∧ (outL a b c d).length ≤ 2 * k + 1 := by
  intro k
  induction k with
  | zero =>
    intro a b hk hab _
    by_cases h1 : b ≤ c ∨ d ≤ a
    · rw [outL_apart h1]; exact ⟨fun h => absurd h1 h, fun h => absurd h1 h, by simp⟩
    · rw [outL_within h1 (out_one (by simpa using hk) hab hcd h1)]; simp
  | succ k ih =>
    intro a b hk hab hb
    by_cases h1 : b ≤ c ∨ d ≤ a
    · rw [outL_apart h1]; exact ⟨fun h => absurd h1 h, fun h => absurd h1 h, by simp⟩
    · by_cases h2 : c ≤ a ∧ b ≤ d
      · rw [outL_within h1 h2]; simp
      · obtain ⟨h3, h4⟩ := outL_two hcd hab hb h1 h2
        obtain ⟨l1, l2⟩ := halfN_le (b - a) k h3 (by omega) hk
        obtain ⟨s1, s2, -, -, -⟩ := halfN_spec (b - a) h3 (by omega)
        generalize halfN (b - a) = h at *
        obtain ⟨x1, x2, x3⟩ := ih a (a + h) (by omega) (by omega) (by omega)
        obtain ⟨y1, y2, y3⟩ := ih (a + h) b (by omega) (by omega) hb
        rw [h4, List.length_append]
        have one : ∀ x y, outL x y c d = [(x, y)] → (outL x y c d).length = 1 := fun x y e => by rw [e]; rfl
        have zero : ∀ x y, outL x y c d = [] → (outL x y c d).length = 0 := fun x y e => by rw [e]; rfl
        have key : ¬ (b ≤ c ∨ d ≤ a) → (outL a (a + h) c d).length + (outL (a + h) b c d).length ≤ 2 * (k + 1) := by
          intro _
          by_cases p1 : a + h ≤ c ∨ d ≤ a
          · have := one _ _ (outL_apart p1)
            by_cases p2 : b ≤ c ∨ d ≤ a + h
            · have := one _ _ (outL_apart p2); omega
            · have := y2 p2; omega
          · by_cases p2 : b ≤ c ∨ d ≤ a + h
            · have := one _ _ (outL_apart p2)
              have := x2 p1; omega
            · have := x1 p1 (by omega)
              have := y1 p2 (by omega)
              omega
        refine ⟨?_, key, by have := key h1; omega⟩
        intro _ hs
        by_cases p1 : a + h ≤ c ∨ d ≤ a
        · have e1 := one _ _ (outL_apart p1)
          by_cases p2 : b ≤ c ∨ d ≤ a + h
          · exfalso; omega
          · have := y1 p2 (by omega); omega
        · by_cases p2 : b ≤ c ∨ d ≤ a + h
          · have e2 := one _ _ (outL_apart p2)
            have := x1 p1 (by omega); omega
          · rcases hs with hs | hs
            · have := zero _ _ (outL_within p1 (by omega))
              have := y1 p2 (by omega); omega
            · have := zero _ _ (outL_within p2 (by omega))
              have := x1 p1 (by omega); omega
theorem outL_len {a b c d : Nat} (hcd : c < d) (hab : a < b) (hb : b ≤ 9223372036854775807) : (outL a b c d).length ≤ 127 := by
  have := (outL_few c d hcd 63 a b (by have := pow63; omega) hab hb).2.2
  omega
/-! ### the program -/
theorem le_zz {a b : Nat} : ((a : Int) ≤ (b : Int)) ↔ a ≤ b := by omega
set_option maxHeartbeats 1000000 in
set_option maxRecDepth 100000 in
theorem apart_any (a b c d : Nat) (w : World) : Calls Tryd.prog 105 #[sv a b, sv c d] w fun e w' => e = .returned (.bool (decide (b ≤ c ∨ d ≤ a))) ∧ Below w.heap.size w w' := by
  unfold sv
  by_cases h1 : b ≤ c
  · have h1z : (b : Int) ≤ (c : Int) := by omega
    rw [decide_eq_true (Or.inl h1)]
    clear h1
    go_enter Tryd.func105, Tryd.ntmps105
    go_wp2
    go_ret
    exact ⟨rfl, (bel_alloc w _).trans ((bel_alloc _ _).mono (by simp))⟩
  · have h1z : ¬ (b : Int) ≤ (c : Int) := by omega
    have h1d : decide ((b : Int) ≤ (c : Int)) = false := by simp; omega
    have h1n : decide (b ≤ c) = false := by simp; omega
    have HR : Hid (decide (b ≤ c ∨ d ≤ a) = decide (d ≤ a)) := by show _ = _; simp [h1]
    rw [HR.out]
    clear h1
    go_enter Tryd.func105, Tryd.ntmps105
    go_wp2
    go_ret
    exact ⟨by first | rfl | simp, (bel_alloc w _).trans ((bel_alloc _ _).mono (by simp))⟩
set_option maxHeartbeats 1000000 in
set_option maxRecDepth 100000 in
theorem within_any (a b c d : Nat) (w : World) : Calls Tryd.prog 106 #[sv a b, sv c d] w fun e w' => e = .returned (.bool (decide (c ≤ a ∧ b ≤ d))) ∧ Below w.heap.size w w' := by
  unfold sv
  by_cases h1 : c ≤ a
  · have h1z : (c : Int) ≤ (a : Int) := by omega
    have HR : Hid (decide (c ≤ a ∧ b ≤ d) = decide (b ≤ d)) := by show _ = _; simp [h1]
    rw [HR.out]
    clear h1
    go_enter Tryd.func106, Tryd.ntmps106
    go_wp2
    go_ret
    exact ⟨by first | rfl | simp, (bel_alloc w _).trans ((bel_alloc _ _).mono (by simp))⟩
  · have h1z : ¬ (c : Int) ≤ (a : Int) := by omega
    have h1d : decide ((c : Int) ≤ (a : Int)) = false := by simp; omega
    have h1n : decide (c ≤ a) = false := by simp; omega
    have HR : Hid (decide (c ≤ a ∧ b ≤ d) = false) := by show _ = _; simp [h1]
    rw [HR.out]
    clear h1
    go_enter Tryd.func106, Tryd.ntmps106
    go_wp2
    go_ret
    exact ⟨rfl, (bel_alloc w _).trans ((bel_alloc _ _).mono (by simp))⟩
end Go.Proofs.YtecacjddggljgaaDoor.Sm
namespace Go.Proofs.YtecacjddggljgaaDoor.Sm
open Go.RowKit
/-- 'append(own, own2...)' at a step of a region that draws its order, whatever the elements. -/
theorem step_append_two {ops : Array Oper} {o : Oper} {a : Act} {K : Act → World → Prop} {Q : Exit → Act → World → Prop} {E : Prop} (w : World)
    (hg : o.guard = none) (s x : Operand) (t e : TypeId) (hop : o.op = Op.call { callee := Callee.builtin Builtin.append, args := #[s, x], argTypes := #[t, t] })
    (i : TypeInfo) (z : Value) (size bytes : Nat) (ht : Tryd.prog.underlying t = some (.slice e)) (hi : Tryd.prog.info? e = some i) (hz0 : i.zero = some z) (hz1 : i.size = size) (hz2 : i.bytes = bytes) (hzs : z.cells.size = size) (hsz : 0 < size)
    (base : Nat) (v : Value) (n : Nat) (xs : List Value) (hs : a.eval s = v) (hown : w.ownsRow base e size v n xs) (hbase : base ≤ w.heap.size)
    (base2 : Nat) (v2 : Value) (m : Nat) (ys : List Value) (hx : a.eval x = v2) (hown2 : w.ownsRow base2 e size v2 m ys) (h1 : ∀ u ∈ ys, u.oneCell' = true)
    (hb : n + m ≤ 1000000) (hb2 : bytes ≤ 1000)
    (hK : ∀ v' w', w'.ownsRow base e size v' (n + m) (xs ++ ys) → Below base w w' → (v = .slice none 0 0 → v2 = .slice none 0 0 → v' = .slice none 0 0) → K (a.put o.dst v') w') :
    if Region.wanted o (yielded ops a.tmps) = true then Oper.wp Tryd.prog o a w K Q else E := by
  have hw : Region.wanted o (yielded ops a.tmps) = true := by simp [Region.wanted, hg]
  rw [if_pos hw]
  rcases hown2.2 with ⟨h2, h3⟩ | ⟨g, cap, cur, h2, _⟩
  · subst h3
    have hys : ys = [] := List.eq_nil_of_length_eq_zero (by have := hown2.1; simpa using this)
    subst hys
    rw [h2] at hx
    have hrun := run_append_owned_none (P := Tryd.prog) (w := w) base t o.type e i size ht hi v n xs hown
    unfold Oper.wp
    simp [execOp, hop, resolve, invoke, builtin, hs, hx, hrun, Result.andThen]
    exact hK v w (by rw [List.append_nil]; exact hown) (Below.refl _ _) (fun h _ => h)
  · have hmul : (n + m) * bytes ≤ 1000000 * 1000 := Nat.mul_le_mul hb hb2
    rw [h2] at hx hown2
    refine wp_append_own w s x t hop base e i z size bytes ht hi hz0 hz1 hz2 hzs hsz v n xs hs hown ⟨g, 0, none⟩ m cap ys hx hown2.1 (hown2.cells (g := g) rfl) h1 (by unfold maxLen; omega) (by omega) hbase ?_
    intro v' w' a1 a2 _
    refine hK v' w' a1 ((Below.refl _ _).grown a2 hbase (fun k hk => (hown.lt k hk).1)) (fun _ h => ?_)
    rw [h2] at h
    cases h
/-- Spans as cells. -/
def spanC (l : List (Nat × Nat)) : List Value := l.flatMap fun p => [.int .i64 (p.1 : Int), .int .i64 (p.2 : Int)]
theorem spanC_app (a b : List (Nat × Nat)) : spanC (a ++ b) = spanC a ++ spanC b := by simp [spanC]
theorem spanC_one (l : List (Nat × Nat)) : ∀ u ∈ spanC l, u.oneCell' = true := by
  intro u hu
  simp only [spanC, List.mem_flatMap] at hu
  obtain ⟨p, _, hu⟩ := hu
  simp only [List.mem_cons, List.not_mem_nil, or_false] at hu
  rcases hu with rfl | rfl <;> rfl
theorem info78 : (Tryd.prog.info? 120).map (fun i => (i.zero, i.size, i.bytes)) = some (some (.agg #[.int .i64 0, .int .i64 0]), 2, 16) := by kernel_rfl
/-- A row of spans of the call's own. -/
def SpV (w : World) (base : Nat) (v : Value) (l : List (Nat × Nat)) : Prop := w.ownsRow base 120 2 v l.length (spanC l) ∧ (l = [] → v = .slice none 0 0)
theorem SpV.below {w w' : World} {base B : Nat} {v : Value} {l : List (Nat × Nat)} (h : SpV w base v l) (hb : Below B w w') (hB : w.heap.size ≤ B) : SpV w' base v l := ⟨own_below h.1 hb hB, h.2⟩
theorem SpV.mono {w : World} {base b' : Nat} {v : Value} {l : List (Nat × Nat)} (h : SpV w base v l) (hb : b' ≤ base) : SpV w b' v l := ⟨ownsRow_mono h.1 hb, h.2⟩
theorem spv_nil (w : World) (base : Nat) : SpV w base (.slice none 0 0) [] := ⟨World.ownsRow_nil _ _ _ _, fun _ => rfl⟩
theorem spv_one (w : World) (a b : Nat) : SpV (w.alloc (.cells #[.int .i64 (a : Int), .int .i64 (b : Int)] 120)) w.heap.size (.slice (some ⟨w.heap.size, 0, none⟩) 1 1) [(a, b)] :=
  ⟨⟨rfl, .inr ⟨w.heap.size, 1, _, rfl, Nat.le_refl _, heap_alloc_new w _, Nat.le_refl _, by unfold maxLen; omega, rfl, rfl⟩⟩, fun h => by cases h⟩
theorem two_cells (w : World) (a b c d : Nat) : ∀ W, W = (w.alloc (.cells #[.int .i64 (a : Int), .int .i64 (b : Int)] 120)).alloc (.cells #[.int .i64 (c : Int), .int .i64 (d : Int)] 120) → W.cell? ⟨w.heap.size, 0, none⟩ = some (.int .i64 (a : Int)) ∧ W.cell? ⟨w.heap.size, 1, none⟩ = some (.int .i64 (b : Int)) ∧ W.cell? ⟨w.heap.size + 1, 0, none⟩ = some (.int .i64 (c : Int)) ∧ W.cell? ⟨w.heap.size + 1, 1, none⟩ = some (.int .i64 (d : Int)) ∧ Below w.heap.size w W := by
  rintro W rfl
  obtain ⟨h1, h2, h3, _⟩ := frame2 w (.cells #[.int .i64 (a : Int), .int .i64 (b : Int)] 120) #[.int .i64 (c : Int), .int .i64 (d : Int)] 120
  refine ⟨?_, ?_, ?_, ?_, h3⟩
  · rw [cell_of_row _ _ 0 _ _ _ h1]; rfl
  · rw [cell_of_row _ _ 1 _ _ _ h1]; rfl
  · rw [cell_of_row _ _ 0 _ _ _ h2]; rfl
  · rw [cell_of_row _ _ 1 _ _ _ h2]; rfl
set_option maxHeartbeats 2000000 in
set_option maxRecDepth 100000 in
theorem outside_any (c d : Nat) (hcd : c < d) : ∀ (n a b : Nat) (w : World), b - a = n → a < b → b ≤ 9223372036854775807 →
    Calls Tryd.prog 74 #[sv a b, sv c d] w fun e w' => ∃ v, e = .returned v ∧ SpV w' w.heap.size v (outL a b c d) ∧ Below w.heap.size w w' := by
  intro n
  induction n using Nat.strongRecOn with
  | ind n ih =>
  intro a b w hn hab hb
  have HA : Hid (∀ W, Calls Tryd.prog 105 #[.agg #[.int .i64 (a : Int), .int .i64 (b : Int)], .agg #[.int .i64 (c : Int), .int .i64 (d : Int)]] W fun e w' => e = .returned (.bool (decide (b ≤ c ∨ d ≤ a))) ∧ Below W.heap.size W w') := fun W => apart_any a b c d W
  have HI : Hid (∀ W, Calls Tryd.prog 106 #[.agg #[.int .i64 (a : Int), .int .i64 (b : Int)], .agg #[.int .i64 (c : Int), .int .i64 (d : Int)]] W fun e w' => e = .returned (.bool (decide (c ≤ a ∧ b ≤ d))) ∧ Below W.heap.size W w') := fun W => within_any a b c d W
  obtain ⟨W0, HW0⟩ : ∃ W, Hid (W = (w.alloc (.cells #[.int .i64 (a : Int), .int .i64 (b : Int)] 120)).alloc (.cells #[.int .i64 (c : Int), .int .i64 (d : Int)] 120)) := ⟨_, rfl⟩
  have HT := two_cells w a b c d W0 HW0.out
  have HC : Hid (∀ W, Below W0.heap.size W0 W → W.cell? ⟨w.heap.size, 0, none⟩ = some (.int .i64 (a : Int)) ∧ W.cell? ⟨w.heap.size, 1, none⟩ = some (.int .i64 (b : Int)) ∧ W.cell? ⟨w.heap.size + 1, 0, none⟩ = some (.int .i64 (c : Int)) ∧ W.cell? ⟨w.heap.size + 1, 1, none⟩ = some (.int .i64 (d : Int))) := fun W hW =>
    ⟨bel_cell2 hW (Nat.le_refl _) HT.1, bel_cell2 hW (Nat.le_refl _) HT.2.1, bel_cell2 hW (Nat.le_refl _) HT.2.2.1, bel_cell2 hW (Nat.le_refl _) HT.2.2.2.1⟩
  have HB0 : Hid (Below w.heap.size w W0) := HT.2.2.2.2
  obtain ⟨c0, c1, c2, c3⟩ := HC.out _ (Below.refl _ _)
  clear HT
  by_cases h1 : b ≤ c ∨ d ≤ a
  case pos =>
    have HO : Hid (outL a b c d = [(a, b)]) := outL_apart h1
    rw [HO.out]
    rw [decide_eq_true h1] at HA
    clear h1 ih hn hab hb hcd
    unfold sv
    go_enter Tryd.func74, Tryd.ntmps74
    go_upto_region 1 with fail
    rw [← HW0.out]
    go_wp2_with fail
    refine (HA.out _).mono ?_
    rintro e w1 ⟨rfl, hb1⟩
    obtain ⟨e0, e1, -, -⟩ := HC.out _ hb1
    have HB1 : Hid (Below w.heap.size w w1) := HB0.out.trans (hb1.mono HB0.out.size)
    clear hb1 c0 c1 c2 c3
    go_wp2
    go_ret
    exact ⟨_, rfl, (spv_one w1 a b).mono HB1.out.size, HB1.out.trans ((bel_alloc w1 _).mono HB1.out.size)⟩
  case neg =>
  rw [decide_eq_false h1] at HA
  by_cases h2 : c ≤ a ∧ b ≤ d
  case pos =>
    have HO : Hid (outL a b c d = []) := outL_within h1 h2
    rw [HO.out]
    rw [decide_eq_true h2] at HI
    clear h1 h2 ih hn hab hb hcd
    unfold sv
    go_enter Tryd.func74, Tryd.ntmps74
    go_upto_region 1 with fail
    rw [← HW0.out]
    go_wp2_with fail
    refine (HA.out _).mono ?_
    rintro e w1 ⟨rfl, hb1⟩
    obtain ⟨e0, e1, e2, e3⟩ := HC.out _ hb1
    have HB1 : Hid (Below W0.heap.size W0 w1) := hb1
    clear hb1 c0 c1 c2 c3
    go_wp2_with fail
    refine (HI.out _).mono ?_
    rintro e w2 ⟨rfl, hb2⟩
    have HB2 : Hid (Below w.heap.size w w2) := HB0.out.trans ((HB1.out.trans (hb2.mono HB1.out.size)).mono HB0.out.size)
    clear hb2 e0 e1 e2 e3
    go_wp2
    go_ret
    exact ⟨_, rfl, spv_nil _ _, HB2.out⟩
  case neg =>
  rw [decide_eq_false h2] at HI
  obtain ⟨h3, h4⟩ := outL_two hcd hab hb h1 h2
  obtain ⟨s1, s2, -, -, -⟩ := halfN_spec (b - a) h3 (by omega)
  have HH : Hid (∀ W, Calls Tryd.prog 86 #[.agg #[.int .i64 (a : Int), .int .i64 (b : Int)]] W fun e w' => e = .returned (.tuple #[sv a (a + halfN (b - a)), sv (a + halfN (b - a)) b]) ∧ Below W.heap.size W w') := fun W => halves_any a b W (by omega) hb
  have I1 := ih (a + halfN (b - a) - a) (by omega) a (a + halfN (b - a))
  have I2 := ih (b - (a + halfN (b - a))) (by omega) (a + halfN (b - a)) b
  have l1 : (outL a (a + halfN (b - a)) c d).length ≤ 127 := outL_len hcd (by omega) (by omega)
  have l2 : (outL (a + halfN (b - a)) b c d).length ≤ 127 := outL_len hcd (by omega) hb
  rw [h4]
  obtain ⟨m, HM⟩ : ∃ m, Hid (a + halfN (b - a) = m) := ⟨_, rfl⟩
  rw [HM.out] at HH I1 I2 l1 l2 ⊢
  have HI1 : Hid (∀ W, Calls Tryd.prog 74 #[.agg #[.int .i64 (a : Int), .int .i64 (m : Int)], .agg #[.int .i64 (c : Int), .int .i64 (d : Int)]] W fun e w' => ∃ v, e = .returned v ∧ SpV w' W.heap.size v (outL a m c d) ∧ Below W.heap.size W w') := fun W => I1 W rfl (by have := HM.out; omega) (by have := HM.out; omega)
  have HI2 : Hid (∀ W, Calls Tryd.prog 74 #[.agg #[.int .i64 (m : Int), .int .i64 (b : Int)], .agg #[.int .i64 (c : Int), .int .i64 (d : Int)]] W fun e w' => ∃ v, e = .returned v ∧ SpV w' W.heap.size v (outL m b c d) ∧ Below W.heap.size W w') := fun W => I2 W rfl (by have := HM.out; omega) hb
  have HLL : Hid ((outL a m c d).length + (outL m b c d).length ≤ 1000000) := by show _ ≤ _; omega
  obtain ⟨L1, HL1⟩ : ∃ l, Hid (outL a m c d = l) := ⟨_, rfl⟩
  obtain ⟨L2, HL2⟩ : ∃ l, Hid (outL m b c d = l) := ⟨_, rfl⟩
  rw [HL1.out] at HI1 HLL ⊢
  rw [HL2.out] at HI2 HLL ⊢
  clear h1 h2 h3 h4 s1 s2 ih hn hab hb hcd I1 I2 l1 l2
  unfold sv at HH ⊢
  obtain ⟨i0, hi, hz0, hz1, hz2⟩ := info_parts info78
  go_enter Tryd.func74, Tryd.ntmps74
  go_upto_region 1 with fail
  rw [← HW0.out]
  go_wp2_with fail
  refine (HA.out _).mono ?_
  rintro e w1 ⟨rfl, hb1⟩
  obtain ⟨e0, e1, e2, e3⟩ := HC.out _ hb1
  have HB1 : Hid (Below W0.heap.size W0 w1) := hb1
  clear hb1 c0 c1 c2 c3
  go_wp2_with fail
  refine (HI.out _).mono ?_
  rintro e w2 ⟨rfl, hb2⟩
  have HB2 : Hid (Below W0.heap.size W0 w2) := HB1.out.trans (hb2.mono HB1.out.size)
  clear hb2 e0 e1 e2 e3
  obtain ⟨e0, e1, e2, e3⟩ := HC.out _ HB2.out
  go_wp2_with fail
  refine (HH.out _).mono ?_
  rintro e w3 ⟨rfl, hb3⟩
  have HB3 : Hid (Below W0.heap.size W0 w3) := HB2.out.trans (hb3.mono HB2.out.size)
  clear hb3 e0 e1 e2 e3
  go_upto_region 6 with fail
  obtain ⟨W4, HW4⟩ : ∃ W, Hid (W = (w3.alloc (.cells #[.int .i64 (a : Int), .int .i64 (m : Int)] 120)).alloc (.cells #[.int .i64 (m : Int), .int .i64 (b : Int)] 120)) := ⟨_, rfl⟩
  have HT4 := two_cells w3 a m m b W4 HW4.out
  rw [← HW4.out]
  have HB4 : Hid (Below W0.heap.size W0 W4) := HB3.out.trans (HT4.2.2.2.2.mono HB3.out.size)
  have HS : Hid (∀ W, Below W4.heap.size W4 W → W.cell? ⟨w3.heap.size, 0, none⟩ = some (.int .i64 (a : Int)) ∧ W.cell? ⟨w3.heap.size, 1, none⟩ = some (.int .i64 (m : Int)) ∧ W.cell? ⟨w3.heap.size + 1, 0, none⟩ = some (.int .i64 (m : Int)) ∧ W.cell? ⟨w3.heap.size + 1, 1, none⟩ = some (.int .i64 (b : Int)) ∧ W.cell? ⟨w.heap.size + 1, 0, none⟩ = some (.int .i64 (c : Int)) ∧ W.cell? ⟨w.heap.size + 1, 1, none⟩ = some (.int .i64 (d : Int))) := fun W hW =>
    ⟨bel_cell2 hW (Nat.le_refl _) HT4.1, bel_cell2 hW (Nat.le_refl _) HT4.2.1, bel_cell2 hW (Nat.le_refl _) HT4.2.2.1, bel_cell2 hW (Nat.le_refl _) HT4.2.2.2.1, bel_cell2 hW (Nat.le_refl _) (HC.out _ HB4.out).2.2.1, bel_cell2 hW (Nat.le_refl _) (HC.out _ HB4.out).2.2.2⟩
  have HBW : Hid (Below w.heap.size w W4) := HB0.out.trans (HB4.out.mono HB0.out.size)
  clear HT4 HW4
  refine wp_region_held_drew (S := fun W => W.cell? ⟨w3.heap.size, 0, none⟩ = some (.int .i64 (a : Int)) ∧ W.cell? ⟨w3.heap.size, 1, none⟩ = some (.int .i64 (m : Int)) ∧ W.cell? ⟨w3.heap.size + 1, 0, none⟩ = some (.int .i64 (m : Int)) ∧ W.cell? ⟨w3.heap.size + 1, 1, none⟩ = some (.int .i64 (b : Int)) ∧ W.cell? ⟨w.heap.size + 1, 0, none⟩ = some (.int .i64 (c : Int)) ∧ W.cell? ⟨w.heap.size + 1, 1, none⟩ = some (.int .i64 (d : Int))) (by kernel_rfl) (HS.out _ (Below.drew (Below.refl _ _))) (fun hS => ?_)
  refine wpAnyH_take (i := 0) (v := ?_) rfl (by kernel_rfl) (by kernel_rfl) (by kernel_rfl) (fun _ _ _ h => h) (Or.inl ⟨by rfl, ?_⟩) (by assumption) ?_
  rotate_left
  · (intro w hSw; (try dsimp only at hSw); go_simp; try with_reducible rfl)
  simp only [Act.put, List.getElem_toArray, List.getElem_cons_zero, List.setIfInBounds_toArray, List.set_cons_zero, List.set_cons_succ]
  refine wpAnyH_take (i := 1) (v := ?_) rfl (by kernel_rfl) (by kernel_rfl) (by kernel_rfl) (fun _ _ _ h => h) (Or.inl ⟨by rfl, ?_⟩) (by assumption) ?_
  rotate_left
  · (intro w hSw; (try dsimp only at hSw); go_simp; try with_reducible rfl)
  simp only [Act.put, List.getElem_toArray, List.getElem_cons_zero, List.getElem_cons_succ, List.setIfInBounds_toArray, List.set_cons_zero, List.set_cons_succ]
  refine wpAnyH_take (i := 3) (v := ?_) rfl (by kernel_rfl) (by kernel_rfl) (by kernel_rfl) (fun _ _ _ h => h) (Or.inl ⟨by rfl, ?_⟩) (by assumption) ?_
  rotate_left
  · (intro w hSw; (try dsimp only at hSw); go_simp; try with_reducible rfl)
  simp only [Act.put, List.getElem_toArray, List.getElem_cons_zero, List.getElem_cons_succ, List.setIfInBounds_toArray, List.set_cons_zero, List.set_cons_succ]
  refine wpAnyH_take (i := 4) (v := ?_) rfl (by kernel_rfl) (by kernel_rfl) (by kernel_rfl) (fun _ _ _ h => h) (Or.inl ⟨by rfl, ?_⟩) (by assumption) ?_
  rotate_left
  · (intro w hSw; (try dsimp only at hSw); go_simp; try with_reducible rfl)
  simp only [Act.put, List.getElem_toArray, List.getElem_cons_zero, List.getElem_cons_succ, List.setIfInBounds_toArray, List.set_cons_zero, List.set_cons_succ]
  refine wpAnyH_ready (rs := [2]) (by kernel_rfl) (by simp) ?_
  refine AllReadyH.cons rfl (fun K hK => ?_) AllReadyH.nil
  go_simp
  refine (HI1.out _).mono ?_
  rintro e w5 ⟨v5, rfl, hs5, hb5⟩
  have HB5 : Hid (Below W4.heap.size W4 w5) := (Below.drew (Below.refl _ _)).trans hb5
  have HV5 : Hid (SpV w5 W4.heap.size v5 L1) := hs5
  go_wp2_with fail
  refine hK.out _ _ (HS.out _ HB5.out) (fun hHeld2 => ?_)
  clear hK K hb5 hs5
  refine wpAnyH_ready (rs := [5]) (by kernel_rfl) (by simp) ?_
  refine AllReadyH.cons rfl (fun K hK => ?_) AllReadyH.nil
  go_simp
  refine (HI2.out _).mono ?_
  rintro e w6 ⟨v6, rfl, hs6, hb6⟩
  have HB6 : Hid (Below W4.heap.size W4 w6) := HB5.out.trans (hb6.mono HB5.out.size)
  have HV6 : Hid (SpV w6 w5.heap.size v6 L2) := hs6
  have HV56 : Hid (SpV w6 W4.heap.size v5 L1) := HV5.out.below hb6 (Nat.le_refl _)
  go_wp2_with fail
  refine hK.out _ _ (HS.out _ HB6.out) (fun hHeld2 => ?_)
  clear hK K hb6 hs6
  refine wpAnyH_ready (rs := [6]) (by kernel_rfl) (by simp) ?_
  refine AllReadyH.cons rfl (fun K hK => ?_) AllReadyH.nil
  refine step_append_two _ rfl (.tmp 22) (.tmp 25) 117 120 rfl i0 _ 2 16 Tryd.underlying117 hi hz0 hz1 hz2 rfl (by decide) W4.heap.size v5 L1.length (spanC L1) rfl HV56.out.1 HB6.out.size w5.heap.size v6 L2.length (spanC L2) rfl HV6.out.1 (spanC_one _) HLL.out (by decide) ?_
  intro v7 w7 hown7 hb7 hn7
  have HB7 : Hid (Below W4.heap.size W4 w7) := HB6.out.trans hb7
  have HV7 : Hid (SpV w7 W4.heap.size v7 (L1 ++ L2)) := ⟨by rw [spanC_app, List.length_append]; exact hown7, fun h => by
    obtain ⟨h1, h2⟩ := List.append_eq_nil_iff.1 h
    exact hn7 (HV56.out.2 h1) (HV6.out.2 h2)⟩
  refine hK.out _ _ (HS.out _ HB7.out) (fun hHeld2 => ?_)
  clear hK K hown7 hb7 hn7
  simp only [Act.put, List.getElem_toArray, List.getElem_cons_zero, List.getElem_cons_succ, List.setIfInBounds_toArray, List.set_cons_zero, List.set_cons_succ]
  refine wpAnyH_take (i := 7) (v := ?_) rfl (by kernel_rfl) (by kernel_rfl) (by kernel_rfl) (fun _ _ _ h => h) (Or.inl ⟨by rfl, ?_⟩) (by assumption) ?_
  rotate_left
  · (intro w hSw; (try dsimp only at hSw); go_simp; try with_reducible rfl)
  simp only [Act.put, List.getElem_toArray, List.getElem_cons_zero, List.getElem_cons_succ, List.setIfInBounds_toArray, List.set_cons_zero, List.set_cons_succ]
  refine wpAnyH_done (by kernel_rfl) ?_ _
  clear hS hHeld2
  go_wp2_with fail
  go_ret
  exact ⟨_, rfl, HV7.out.mono HBW.out.size, HBW.out.trans (HB7.out.mono HBW.out.size)⟩
end Go.Proofs.YtecacjddggljgaaDoor.Sm
namespace Go.Proofs
open Go.Shelf
def Tryd.revL_ren : Go.Shelf.Ren := ⟨fun | 35 => 120 | n => n, fun | 23 => 145 | 22 => 141 | 3 => 3 | 4 => 4 | 0 => 0 | n => n, fun | n => n⟩
theorem Tryd.revL : Go.Proofs.SlLaysE0.n35 Tryd.prog Tryd.revL_ren := {
  mixed := by kernel_rfl
  f35 := ⟨Tryd.f120.name, by decide, Tryd.func120.trans (congrArg some (by kernel_rfl))⟩
  t0 := Tryd.underlying0
  a0 := Tryd.isAgg0
  z0 := Tryd.sizeOf0
  v0 := Tryd.zeroValue0
  t3 := Tryd.underlying3
  a3 := Tryd.isAgg3
  z3 := Tryd.sizeOf3
  v3 := Tryd.zeroValue3
  t4 := Tryd.underlying4
  a4 := Tryd.isAgg4
  z4 := Tryd.sizeOf4
  v4 := Tryd.zeroValue4
  t22 := Tryd.underlying141
  a22 := Tryd.isAgg141
  z22 := Tryd.sizeOf141
  v22 := Tryd.zeroValue141 }
end Go.Proofs
namespace Go.Proofs.YtecacjddggljgaaDoor.Sm
open Go.RowKit Go.Sort Go.Shelf
/-- A step: the part beside, and whether what comes up stands at the right. -/
structure St where
  a : Nat
  b : Nat
  r : Bool
def fnS (r : Bool) : Value := .func (.func (if r then 119 else 87)) #[] #[]
def encS (p : St) : List Value := [.int .i64 (p.a : Int), .int .i64 (p.b : Int), fnS p.r]
theorem encS_len (p : St) : (encS p).length = 3 := rfl
theorem encS_one (p : St) : ∀ u ∈ encS p, u.oneCell' = true := by
  intro u hu
  simp only [encS, List.mem_cons, List.not_mem_nil, or_false] at hu
  rcases hu with rfl | rfl | rfl <;> rfl
/-- The steps from the root down to leaf i. -/
def dnF : Nat → Nat → Nat → Nat → List St
  | 0, _, _, _ => []
  | f + 1, a, b, i => if b - a ≤ 1 then [] else if i < a + halfN (b - a) then ⟨a + halfN (b - a), b, false⟩ :: dnF f a (a + halfN (b - a)) i else ⟨a, a + halfN (b - a), true⟩ :: dnF f (a + halfN (b - a)) b i
def dnL (a b i : Nat) : List St := dnF 64 a b i
def upL (n i : Nat) : List St := (dnL 0 n i).reverse
theorem dnF_fuel (i : Nat) : ∀ (k f g a b : Nat), b - a ≤ 2 ^ k → k < f → k < g → b ≤ 9223372036854775807 → dnF f a b i = dnF g a b i := by
  intro k
  induction k with
  | zero =>
    intro f g a b hk hf hg _
    obtain ⟨f, rfl⟩ : ∃ f', f = f' + 1 := ⟨f - 1, by omega⟩
    obtain ⟨g, rfl⟩ : ∃ g', g = g' + 1 := ⟨g - 1, by omega⟩
    rw [dnF, dnF, if_pos (by simpa using hk), if_pos (by simpa using hk)]
  | succ k ih =>
    intro f g a b hk hf hg hb
    obtain ⟨f, rfl⟩ : ∃ f', f = f' + 1 := ⟨f - 1, by omega⟩
    obtain ⟨g, rfl⟩ : ∃ g', g = g' + 1 := ⟨g - 1, by omega⟩
    rw [dnF, dnF]
    by_cases h1 : b - a ≤ 1
    · rw [if_pos h1, if_pos h1]
    · rw [if_neg h1, if_neg h1]
      obtain ⟨l1, l2⟩ := halfN_le (b - a) k (by omega) (by omega) hk
      obtain ⟨s1, s2, -, -, -⟩ := halfN_spec (b - a) (by omega) (by omega)
      rw [ih f g a (a + halfN (b - a)) (by omega) (by omega) (by omega) (by omega), ih f g (a + halfN (b - a)) b (by omega) (by omega) (by omega) hb]
theorem dnL_two {a b : Nat} (i : Nat) (h : 2 ≤ b - a) (hb : b ≤ 9223372036854775807) : dnL a b i = if i < a + halfN (b - a) then ⟨a + halfN (b - a), b, false⟩ :: dnL a (a + halfN (b - a)) i else ⟨a, a + halfN (b - a), true⟩ :: dnL (a + halfN (b - a)) b i := by
  have hp := pow63
  obtain ⟨l1, l2⟩ := halfN_le (b - a) 62 h (by omega) (by have : (2 : Nat) ^ (62 + 1) = 2 ^ 63 := rfl; omega)
  obtain ⟨s1, s2, -, -, -⟩ := halfN_spec (b - a) h (by omega)
  unfold dnL
  rw [dnF, if_neg (by omega), dnF_fuel i 62 63 64 a (a + halfN (b - a)) (by omega) (by omega) (by omega) (by omega), dnF_fuel i 62 63 64 (a + halfN (b - a)) b (by omega) (by omega) (by omega) hb]
theorem dnL_one {a b : Nat} (i : Nat) (h : b - a ≤ 1) : dnL a b i = [] := by unfold dnL; rw [dnF, if_pos h]
theorem dnF_len (i : Nat) : ∀ (f a b : Nat), (dnF f a b i).length ≤ f
  | 0, _, _ => Nat.le_refl _
  | f + 1, a, b => by
    rw [dnF]
    split
    · exact Nat.zero_le _
    · split
      · rw [List.length_cons]; have := dnF_len i f a (a + halfN (b - a)); omega
      · rw [List.length_cons]; have := dnF_len i f (a + halfN (b - a)) b; omega
theorem dnL_len (a b i : Nat) : (dnL a b i).length ≤ 64 := dnF_len i 64 a b
theorem upL_len (n i : Nat) : (upL n i).length ≤ 64 := by unfold upL; rw [List.length_reverse]; exact dnL_len _ _ _
theorem dnF_in (i : Nat) : ∀ (f a b : Nat), a ≤ i → i < b → b ≤ 9223372036854775807 → ∀ p ∈ dnF f a b i, a ≤ p.a ∧ p.a < p.b ∧ p.b ≤ b := by
  intro f
  induction f with
  | zero => intro a b _ _ _ p hp; cases hp
  | succ f ih =>
    intro a b ha hb hbb p hp
    rw [dnF] at hp
    split at hp
    · cases hp
    · rename_i h1
      obtain ⟨s1, s2, -, -, -⟩ := halfN_spec (b - a) (by omega) (by omega)
      split at hp
      · rename_i h2
        rcases List.mem_cons.1 hp with h | h
        · subst h
          exact ⟨by show a ≤ a + halfN (b - a); omega, by show a + halfN (b - a) < b; omega, Nat.le_refl _⟩
        · have := ih a (a + halfN (b - a)) ha h2 (by omega) p h; omega
      · rename_i h2
        rcases List.mem_cons.1 hp with h | h
        · subst h
          exact ⟨Nat.le_refl _, by show a < a + halfN (b - a); omega, by show a + halfN (b - a) ≤ b; omega⟩
        · have := ih (a + halfN (b - a)) b (by omega) hb hbb p h; omega
theorem upL_in {n i : Nat} (hi : i < n) (hn : n ≤ 9223372036854775807) : ∀ p ∈ upL n i, 0 ≤ p.a ∧ p.a < p.b ∧ p.b ≤ n := fun p hp => dnF_in i 64 0 n (Nat.zero_le _) hi hn p (List.mem_reverse.1 hp)
/-- The cells of steps. -/
def flatS (es : List St) : List Value := es.flatMap encS
theorem flatS_cons (e : St) (es : List St) : flatS (e :: es) = encS e ++ flatS es := by simp [flatS]
theorem flatS_append (a b : List St) : flatS (a ++ b) = flatS a ++ flatS b := by simp [flatS]
theorem flatS_len : ∀ es : List St, (flatS es).length = es.length * 3
  | [] => rfl
  | e :: es => by rw [flatS_cons, List.length_append, flatS_len es, encS_len, List.length_cons]; omega
theorem flatS_at [Inhabited St] : ∀ (es : List St) (i c : Nat), i < es.length → c < 3 → (flatS es)[i * 3 + c]? = (encS es[i]!)[c]?
  | [], i, c, h, _ => by simp at h
  | e :: es, 0, c, _, hc => by
    rw [flatS_cons, Nat.zero_mul, Nat.zero_add, List.getElem?_append_left (by rw [encS_len]; exact hc)]; rfl
  | e :: es, i + 1, c, h, hc => by
    rw [flatS_cons, List.getElem?_append_right (by rw [encS_len]; omega), encS_len, show (i + 1) * 3 + c - 3 = i * 3 + c by omega, flatS_at es i c (by simpa using h) hc]
    simp
theorem flatS_get [Inhabited St] (es : List St) (t : Nat) (h : t < es.length * 3) : (flatS es)[t]? = (encS es[t / 3]!)[t % 3]? := by
  have := flatS_at es (t / 3) (t % 3) (by omega) (by omega)
  rwa [show t / 3 * 3 + t % 3 = t by omega] at this
theorem encS_get! [Inhabited St] (e : St) (c : Nat) (h : c < 3) : (encS e)[c]? = some (encS e)[c]! := by
  rw [getElem!_pos _ c (by rw [encS_len]; exact h), List.getElem?_eq_getElem]
theorem info92 : (Tryd.prog.info? 145).map (fun i => (i.zero, i.size, i.bytes)) = some (some (.agg #[.int .i64 0, .int .i64 0, .nilFunc]), 3, 24) := by kernel_rfl
theorem get!_toListS [Inhabited St] (d : Array St) (i : Nat) : d.toList[i]! = d[i]! := by
  by_cases h : i < d.size
  · rw [getElem!_pos d i h, getElem!_pos d.toList i (by simpa using h)]; simp
  · rw [getElem!_neg d i h, getElem!_neg d.toList i (by simpa using h)]
theorem own_holdsS [Inhabited St] {w : World} {base g n cap : Nat} {d : Array St} (h : w.ownsRow base 145 3 (.slice (some ⟨g, 0, none⟩) n cap) n (flatS d.toList)) : HoldsK encS 3 w g 0 d := by
  intro t ht
  rw [size_flatK] at ht
  refine ⟨?_, ?_⟩
  · rw [get_flatK _ _ _ t ht]
    have := h.cells (g := g) rfl t ((encS d[t / 3]!)[t % 3]!) (by rw [flatS_get _ t (by simpa using ht), encS_get! _ _ (by omega), get!_toListS])
    rw [Addr.add_lit] at this
    exact this
  · obtain ⟨_, hh⟩ := h
    rcases hh with ⟨h0, _⟩ | ⟨g', cap', cur, hv, _, hg, _⟩
    · cases h0
    · cases hv
      exact frozen_of_row w g _ _ 145 hg
/-- Steps that lie at a slice. -/
def StV (w : World) (base : Nat) (ao : Option Addr) (l : List St) : Prop := 0 < l.length → ∃ g, ao = some ⟨g, 0, none⟩ ∧ base ≤ g ∧ ∀ i p, l[i]? = some p → w.cell? ⟨g, i * 3, none⟩ = some (.int .i64 (p.a : Int)) ∧ w.cell? ⟨g, i * 3 + 1, none⟩ = some (.int .i64 (p.b : Int)) ∧ w.cell? ⟨g, i * 3 + 2, none⟩ = some (fnS p.r)
theorem StV.below {w w' : World} {base B : Nat} {ao : Option Addr} {l : List St} (h : StV w base ao l) (hb : Below B w w') (hB : w.heap.size ≤ B) : StV w' base ao l := fun hp => by
  obtain ⟨g, h1, h2, h3⟩ := h hp
  exact ⟨g, h1, h2, fun i p hip => ⟨bel_cell2 hb hB (h3 i p hip).1, bel_cell2 hb hB (h3 i p hip).2.1, bel_cell2 hb hB (h3 i p hip).2.2⟩⟩
theorem holds_st [Inhabited St] {w : World} {g base : Nat} {d : Array St} (hg : base ≤ g) (h : HoldsK encS 3 w g 0 d) : StV w base (some ⟨g, 0, none⟩) d.toList := by
  intro _
  refine ⟨g, rfl, hg, fun i p hip => ?_⟩
  have hi : i < d.size := by simpa using (List.getElem?_eq_some_iff.1 hip).1
  have hp : d[i]! = p := by rw [getElem!_pos d i hi]; simpa [List.getElem?_eq_some_iff, hi] using hip
  have hc : ∀ c, c < 3 → w.cell? ⟨g, i * 3 + c, none⟩ = some (encS p)[c]! := fun c hc => by
    have := (h (i * 3 + c) (by rw [size_flatK]; omega)).1
    rw [get_flatK _ _ _ _ (by omega), show (i * 3 + c) / 3 = i by omega, show (i * 3 + c) % 3 = c by omega, hp, Nat.zero_add] at this
    exact this
  exact ⟨hc 0 (by omega), hc 1 (by omega), hc 2 (by omega)⟩
theorem bel_put [Inhabited St] (B : Nat) (w : World) (g off n : Nat) (d : Array St) (hg : B ≤ g) (_hB : B ≤ w.heap.size) : Below B w (putRowK encS 3 (Sort.ahead w n) g off d) := by
  refine ⟨rfl, rfl, rfl, by show w.heap.size ≤ (w.heap.modify g _).size; simp, fun k hk => ?_⟩
  show (w.heap.modify g _)[k]? = _
  rw [Array.getElem?_modify, if_neg (by omega)]
/-- slices.Reverse of steps. -/
theorem reverse_any [Inhabited St] (base : Nat) (v : Value) (l : List St) (w : World) (h : w.ownsRow base 145 3 v l.length (flatS l)) (hn : l.length ≤ 64) (hB : base ≤ w.heap.size) :
    Calls Tryd.prog 120 #[v] w fun e w' => e = .returned (.tuple #[]) ∧ (∃ ao c, v = .slice ao l.length c ∧ StV w' base ao l.reverse) ∧ Below base w w' := by
  have h' := h
  rcases h'.2 with ⟨h1, h2⟩ | ⟨g, cap, cur, h1, hg, _⟩
  · have hl : l = [] := List.eq_nil_of_length_eq_zero h2
    subst hl
    subst h1
    refine (AnyQ.slices_Reverse_empty Tryd.revL none 0 w).mono ?_
    rintro e w' ⟨rfl, rfl⟩
    exact ⟨rfl, ⟨none, 0, rfl, fun h => by simp at h⟩, Below.refl _ _⟩
  · subst h1
    have hH := own_holdsS (d := l.toArray) (by simpa using h)
    have hc := AnyQ.slices_Reverse Tryd.revL 3 Tryd.isAgg145 Tryd.sizeOf145 encS encS_len encS_one g 0 cap l.toArray w hH (by simp; omega)
    have e1 : l.toArray.size = l.length := by simp
    rw [e1] at hc
    refine hc.mono ?_
    rintro e w' ⟨rfl, n, rfl⟩
    refine ⟨rfl, ⟨_, cap, rfl, ?_⟩, bel_put _ _ _ _ _ _ hg hB⟩
    have hh := holdsK_putRowK encS 3 (Sort.ahead w n) g 0 l.toArray l.toArray.reverse (holdsK_ahead encS 3 w n g 0 l.toArray hH) (by simp)
    have := holds_st hg hh
    simpa using this
end Go.Proofs.YtecacjddggljgaaDoor.Sm

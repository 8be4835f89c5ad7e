/-
  Flags in memory, scores as sums, and what a step takes away: mathematics and laws.
-/
import Derived.Test.YtnkbhojflcckmaaPkY
import Derived.Test.YtnkbhojflcckmaaPkT
import Derived.Test.YtnkbhojflcckmaaPkX
import Derived.Laws.MakeOwn
import Derived.OwnWalk
namespace Go.Proofs.Ytnkbhojflcckmaa
open Go.RowKit
set_option linter.unusedSectionVars false
/-! ### Flags -/
def FlagB (w : World) (g : Nat) (l : List Bool) : Prop := w.heap[g]? = some (.cells (l.map Value.bool).toArray 4 (0, 0))
theorem FlagB.lt {w : World} {g : Nat} {l : List Bool} (h : FlagB w g l) : g < w.heap.size := (Array.getElem?_eq_some_iff.1 h).1
theorem FlagB.below {w w' : World} {g B : Nat} {l : List Bool} (h : FlagB w g l) (hb : Below B w w') (hB : g < B) : FlagB w' g l := (hb.block g hB).trans h
theorem FlagB.keep {w w' : World} {g : Nat} {l : List Bool} (h : FlagB w g l) (hb : Below w.heap.size w w') : FlagB w' g l := h.below hb h.lt
theorem FlagB.at_ {w : World} {g : Nat} {l : List Bool} (h : FlagB w g l) {i : Nat} (hi : i < l.length) : w.cell? ⟨g, i, none⟩ = some (.bool (l.getD i false)) := by
  rw [cell_of_row _ _ _ _ _ _ h]; simp [hi]
theorem FlagB.frozen {w : World} {g : Nat} {l : List Bool} (h : FlagB w g l) (i : Nat) : w.frozen? ⟨g, i, none⟩ = false := frozen_of_row w g i _ 4 h
theorem FlagB.set {w : World} {g i : Nat} {l : List Bool} {b : Bool} (h : FlagB w g l) : FlagB (w.setCell ⟨g, i, none⟩ (.bool b)) g (l.set i b) := by
  rw [setCell_eq_setRow w g i _ 4 (0, 0) _ h, List.setIfInBounds_toArray]
  unfold FlagB
  rw [List.map_set]
  exact setRow_heap w g _ _ 4 (0, 0) h
theorem FlagB.bel {w w0 : World} {g i B : Nat} {l : List Bool} {v : Value} (h : FlagB w g l) (hb : Below B w0 w) (hB : B ≤ g) : Below B w0 (w.setCell ⟨g, i, none⟩ v) := by
  rw [setCell_eq_setRow w g i _ 4 (0, 0) v h]
  exact below_setRow hb hB _
theorem wpList_make_flags {ops : Array Oper} {rest : List Oper} {o : Oper} {a : Act} {Q : Exit → Act → World → Prop} (w : World)
    (hg : o.guard = none) (x y : Operand) (hop : o.op = Op.makeSlice 35 x y) (n : Nat) (hn : n ≤ 1000000) (hx : a.eval x = .int .i64 (n : Int)) (hy : a.eval y = .int .i64 (n : Int))
    (hK : ∀ w', FlagB w' w.heap.size (List.replicate n false) → Below w.heap.size w w' → wpList Try.prog ops Q rest (a.put o.dst (.slice (some ⟨w.heap.size, 0, none⟩) n n)) w') :
    wpList Try.prog ops Q (o :: rest) a w := by
  obtain ⟨i0, hi, hz0, hz1, hz2⟩ := info_parts info4
  refine wpList_make_full w hg x y 35 hop w.heap.size 4 i0 (.bool false) 1 Try.underlying35 hi hz0 hz1 .i64 .i64 _ _ n hx hy rfl rfl (by rw [hz2]; omega) (by unfold maxLen; omega) (Nat.le_refl _) ?_
  intro w' hown hgrow
  refine hK w' ?_ ((Below.refl _ _).grown hgrow (Nat.le_refl _) (fun k hk => by cases hk))
  rcases hown.2 with ⟨h0, _⟩ | ⟨g, cap, cur, h1, hb, hh, hnc, hm, hs, ht⟩
  · cases h0
  · cases h1
    have hcur : cur.toList = List.replicate n (Value.bool false) := by
      rw [List.take_of_length_le (by simp; omega)] at ht
      rw [ht]
      apply List.ext_getElem
      · simp [madeCells]
      · intro i h1 h2
        simp [madeCells, Value.cells, Nat.mod_one]
    unfold FlagB
    rw [hh]
    congr 2
    rw [List.map_replicate, ← hcur]
/-! ### Scores as sums -/
def wayE (x : Tb) : Int := x.ct * (3 - x.lv)
def scE (ts : List Tb) : Int := (ts.map wayE).sum
theorem scE_app (a b : List Tb) : scE (a ++ b) = scE a + scE b := by unfold scE; rw [List.map_append, List.sum_append]
theorem scE_one (x : Tb) : scE [x] = wayE x := by simp [scE]
theorem sum_perm {a b : List Int} (h : a.Perm b) : a.sum = b.sum := by
  induction h with
  | nil => rfl
  | cons x _ ih => simp [ih]
  | swap x y l => simp; omega
  | trans _ _ h1 h2 => exact h1.trans h2
theorem scE_perm {a b : List Tb} (h : a.Perm b) : scE a = scE b := sum_perm (h.map wayE)
/-- Small enough to be reckoned as it stands. -/
def OkT (x : Tb) : Prop := 0 ≤ x.lv ∧ x.lv ≤ 3 ∧ 0 ≤ x.ct ∧ x.ct ≤ 100000
theorem OkT.way {x : Tb} (h : OkT x) : wayT x = wayE x ∧ 0 ≤ wayE x ∧ wayE x ≤ 300000 := by
  obtain ⟨h1, h2, h3, h4⟩ := h
  have hb : 0 ≤ x.ct * (3 - x.lv) ∧ x.ct * (3 - x.lv) ≤ 300000 := by
    have : x.lv = 0 ∨ x.lv = 1 ∨ x.lv = 2 ∨ x.lv = 3 := by omega
    rcases this with h | h | h | h <;> rw [h] <;> omega
  refine ⟨?_, hb.1, hb.2⟩
  unfold wayT wayE
  rw [if_pos ⟨h1, h2⟩]
  unfold wrap64; omega
theorem scE_bound : ∀ (ts : List Tb), (∀ x ∈ ts, OkT x) → 0 ≤ scE ts ∧ scE ts ≤ ts.length * 300000
  | [], _ => by simp [scE]
  | x :: l, h => by
    have h1 := scE_bound l (fun y hy => h y (by simp [hy]))
    have h2 := (h x (by simp)).way
    have h3 : scE (x :: l) = wayE x + scE l := by simp [scE]
    rw [h3, List.length_cons]
    omega
theorem scN_exact (ts : List Tb) (h : ∀ x ∈ ts, OkT x) (hl : ts.length ≤ 1000000) : ∀ i, i ≤ ts.length → scN ts i = scE (ts.take i)
  | 0, _ => by simp [scN, scE]
  | i + 1, hi => by
    have hx : ts.getD i zT = ts[i] := getD_at ts i zT (by omega)
    have hO := h _ (List.getElem_mem (show i < ts.length by omega))
    rw [scN_succ, scN_exact ts h hl i (by omega), hx, hO.way.1, List.take_succ_eq_append_getElem (by omega), scE_app, scE_one]
    have hb := scE_bound (ts.take i) (fun y hy => h y (List.mem_of_mem_take hy))
    have hL : ((ts.take i).length : Int) ≤ 1000000 := by rw [List.length_take]; omega
    have := hO.way.2
    unfold wrap64; omega
theorem sc_all (ts : List Tb) (h : ∀ x ∈ ts, OkT x) (hl : ts.length ≤ 1000000) : scN ts ts.length = scE ts := by
  rw [scN_exact ts h hl _ (Nat.le_refl _), List.take_length]
theorem RightT.ok {x : Tb} (h : RightT x) : OkT x := ⟨h.1, h.2.1, by have := h.2.2.1; omega, by have := h.2.2.2.1; omega⟩
/-! ### What is taken, what stays -/
def ctE (ts : List Tb) : Int := (ts.map Tb.ct).sum
theorem ctE_app (a b : List Tb) : ctE (a ++ b) = ctE a + ctE b := by unfold ctE; rw [List.map_append, List.sum_append]
theorem ctE_one (x : Tb) : ctE [x] = x.ct := by simp [ctE]
/-- Who is taken. -/
def inB (ts : List Tb) (f : Nat) (j : Nat) : Bool := mineB ts f j || lowB ts f j
def outN (ts : List Tb) (f i : Nat) : List Nat := (List.range i).filter fun j => !(inB ts f j)
theorem outN_succ (ts : List Tb) (f i : Nat) : outN ts f (i + 1) = if inB ts f i then outN ts f i else outN ts f i ++ [i] := by
  unfold outN
  rw [List.range_succ, List.filter_append]
  by_cases h : inB ts f i = true
  · rw [if_pos h, List.filter_cons_of_neg (by simp [h]), List.filter_nil, List.append_nil]
  · rw [if_neg h, List.filter_cons_of_pos (by simp [h]), List.filter_nil]
theorem outN_le (ts : List Tb) (f i : Nat) : (outN ts f i).length ≤ i := by
  have := List.length_filter_le (fun j => !(inB ts f j)) (List.range i)
  rwa [List.length_range] at this
theorem tabsAt_len (ts : List Tb) (l : List Nat) : (tabsAt ts l).length = l.length := by simp [tabsAt]
theorem tabsAt_append (ts : List Tb) (a b : List Nat) : tabsAt ts (a ++ b) = tabsAt ts a ++ tabsAt ts b := by simp [tabsAt]
theorem tabsAt_range (ts : List Tb) : tabsAt ts (List.range ts.length) = ts := range_getD ts
theorem take_out_perm (ts : List Tb) (f : Nat) : (tabsAt ts (inL ts f) ++ tabsAt ts (outN ts f ts.length)).Perm ts := by
  have h := (List.filter_append_perm (inB ts f) (List.range ts.length)).map fun j => ts.getD j zT
  rw [List.map_append] at h
  have e := tabsAt_range ts
  unfold tabsAt at e
  rw [e] at h
  exact h
theorem mem_in {ts : List Tb} {f : Nat} {x : Tb} (h : x ∈ tabsAt ts (inL ts f)) : x ∈ ts := by
  simp only [tabsAt, List.mem_map] at h
  obtain ⟨j, hj, rfl⟩ := h
  exact getD_mem (mem_inN.1 hj).1
theorem mem_out {ts : List Tb} {f : Nat} {x : Tb} (h : x ∈ tabsAt ts (outN ts f ts.length)) : x ∈ ts := by
  simp only [tabsAt, List.mem_map, outN, List.mem_filter, List.mem_range] at h
  obtain ⟨j, ⟨hj, _⟩, rfl⟩ := h
  exact getD_mem hj
theorem in_level {ts : List Tb} {f : Nat} {j : Nat} (h : j ∈ inL ts f) : (ts.getD j zT).lv = f ∨ (ts.getD j zT).lv = (f : Int) + 1 := by
  rcases (mem_inN.1 h).2 with h | h
  · left
    simp only [mineB, Bool.and_eq_true, decide_eq_true_eq] at h; exact h.1
  · right
    simp only [lowB, touB, Bool.and_eq_true, decide_eq_true_eq] at h; exact h.1.1
/-- One of them is of the upper level. -/
theorem up_one {ts : List Tb} {f : Nat} (h : pickF ts = some f) : upL ts f ≠ [] := by
  have hc : 1 ≤ cnt ts f := by
    rw [pickF_cnt] at h
    split at h
    · cases h; show 1 ≤ cnt ts 0; omega
    · split at h
      · cases h; show 1 ≤ cnt ts 1; omega
      · split at h
        · cases h; show 1 ≤ cnt ts 2; omega
        · cases h
  unfold upL
  apply upN_nil
  intro h0
  have := plc_count (onB f) ts
  rw [h0] at this
  unfold cnt at hc
  rw [← this] at hc
  simp at hc
theorem ct_levels {f : Int} : ∀ (P : List Tb), (∀ x ∈ P, (x.lv = f ∨ x.lv = f + 1) ∧ 1 ≤ x.ct) → ctE P * (2 - f) ≤ scE P ∧ 0 ≤ ctE P ∧ (P.length : Int) ≤ ctE P ∧ ((∃ x ∈ P, x.lv = f) → ctE P * (2 - f) < scE P)
  | [], _ => by simp [ctE, scE]
  | x :: l, h => by
    obtain ⟨h1, h2, h3, h4⟩ := ct_levels l (fun y hy => h y (by simp [hy]))
    obtain ⟨hx, hc⟩ := h x (by simp)
    have e1 : ctE (x :: l) = x.ct + ctE l := by simp [ctE]
    have e2 : scE (x :: l) = wayE x + scE l := by simp [scE]
    have e3 : (x.ct + ctE l) * (2 - f) = x.ct * (2 - f) + ctE l * (2 - f) := Int.add_mul _ _ _
    have e4 : wayE x = x.ct * (3 - x.lv) := rfl
    rw [e1, e2, e3, List.length_cons]
    have hway : x.lv = f → wayE x = x.ct * (2 - f) + x.ct := fun h => by
      rw [e4, h, show (3 - f) = (2 - f) + 1 by omega, Int.mul_add, Int.mul_one]
    have hway2 : x.lv = f + 1 → wayE x = x.ct * (2 - f) := fun h => by
      rw [e4, h, show (3 - (f + 1)) = 2 - f by omega]
    refine ⟨?_, by omega, by omega, ?_⟩
    · rcases hx with h | h
      · have := hway h; omega
      · have := hway2 h; omega
    · rintro ⟨y, hy, hyf⟩
      rcases List.mem_cons.1 hy with rfl | hy
      · have := hway hyf; omega
      · have h9 := h4 ⟨y, hy, hyf⟩
        rcases hx with h | h
        · have := hway h; omega
        · have := hway2 h; omega
/-- Of what is picked and of what comes for it. -/
theorem less_math {ts N : List Tb} {f : Nat} (hp : pickF ts = some f) (hT : ∀ x ∈ ts, 0 ≤ x.lv ∧ x.lv ≤ 3 ∧ 1 ≤ x.ct) (hN : ∀ x ∈ N, x.lv = (f : Int) + 1) (hct : ctE N ≤ ctE (tabsAt ts (inL ts f))) (hf : f < 3) :
    scE (tabsAt ts (outN ts f ts.length) ++ N) < scE ts := by
  have e1 := scE_perm (take_out_perm ts f)
  rw [scE_app] at e1
  have hmem : ∀ x ∈ tabsAt ts (inL ts f), (x.lv = (f : Int) ∨ x.lv = (f : Int) + 1) ∧ 1 ≤ x.ct := fun x hx => by
    refine ⟨?_, (hT x (mem_in hx)).2.2⟩
    simp only [tabsAt, List.mem_map] at hx
    obtain ⟨j, hj, rfl⟩ := hx
    exact in_level hj
  obtain ⟨-, h2, -, h4⟩ := ct_levels (tabsAt ts (inL ts f)) hmem
  have hone : ∃ x ∈ tabsAt ts (inL ts f), x.lv = (f : Int) := by
    have h1 := up_one hp
    cases hu : upL ts f with
    | nil => exact absurd hu h1
    | cons j l =>
      have hj : j ∈ upL ts f := by rw [hu]; simp
      obtain ⟨hj1, hj2⟩ := mem_upN.1 hj
      refine ⟨ts.getD j zT, ?_, ?_⟩
      · simp only [tabsAt, List.mem_map]
        exact ⟨j, mem_inN.2 ⟨hj1, .inl hj2⟩, rfl⟩
      · simp only [mineB, Bool.and_eq_true, decide_eq_true_eq] at hj2; exact hj2.1
  have h5 := h4 hone
  have hNs : scE N = ctE N * (2 - (f : Int)) := by
    clear h5 h4 h2 e1 hct
    induction N with
    | nil => simp [scE, ctE]
    | cons x l ih =>
      have e1 : ctE (x :: l) = x.ct + ctE l := by simp [ctE]
      have e2 : scE (x :: l) = wayE x + scE l := by simp [scE]
      have hx := hN x (by simp)
      rw [e1, e2, ih (fun y hy => hN y (by simp [hy])), Int.add_mul]
      unfold wayE
      rw [hx, show (3 - ((f : Int) + 1)) = 2 - (f : Int) by omega]
  rw [scE_app]
  have hle : ctE N * (2 - (f : Int)) ≤ ctE (tabsAt ts (inL ts f)) * (2 - (f : Int)) := Int.mul_le_mul_of_nonneg_right hct (by omega)
  omega
end Go.Proofs.Ytnkbhojflcckmaa

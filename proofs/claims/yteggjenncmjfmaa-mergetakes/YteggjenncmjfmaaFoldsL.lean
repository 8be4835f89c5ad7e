/-
  Parts of a row of entries, and an append in a drawn region.
-/
import Derived.Test.YteggjenncmjfmaaSame
import Derived.Deep.DeepCutAuto
namespace Go.Proofs.Yteggjenncmjfmaa
open Go.RowKit Go.Sort Go.Shelf
set_option linter.unusedSectionVars false
variable [Inhabited E] [DecidableEq E]
theorem own_entsV0 {w : World} {base : Nat} {v : Value} {n : Nat} {es : List E} (h : w.ownsRow base 29 4 v n (flatE es)) (hn : es.length = n) : ∃ ao c, v = .slice ao n c ∧ EntsV w ao n es ∧ (ao = none → c = 0) := by
  by_cases hp : 0 < n
  · obtain ⟨g, c, rfl, hE, _⟩ := own_shapeE h hp
    exact ⟨_, c, rfl, ⟨hn, fun _ => ⟨g, 0, rfl, hE⟩⟩, fun h => by cases h⟩
  · obtain rfl : n = 0 := by omega
    rcases h.2 with ⟨hv, _⟩ | ⟨g, cap, cur, rfl, _⟩
    · exact ⟨none, 0, hv, ⟨hn, fun h => absurd h (by omega)⟩, fun _ => rfl⟩
    · exact ⟨_, cap, rfl, ⟨hn, fun h => absurd h (by omega)⟩, fun h => by cases h⟩
theorem bel_drewN {B : Nat} {w w' : World} (h : Below B w w') : ∀ n, Below B w (w'.drewN n)
  | 0 => h
  | n + 1 => (bel_drewN h n).drew
theorem EntsV.take {w : World} {ao : Option Addr} {n : Nat} {es : List E} (h : EntsV w ao n es) (k : Nat) (hk : k ≤ n) : EntsV w ao k (es.take k) := by
  refine ⟨by rw [List.length_take, h.1]; omega, fun hp => ?_⟩
  obtain ⟨b, off, h1, h2⟩ := h.2 (by omega)
  refine ⟨b, off, h1, fun j u hu => h2 j u ?_⟩
  have := List.take_append_drop k es
  rw [← this, flatE_append]
  rw [List.getElem?_append_left (List.getElem?_eq_some_iff.1 hu).1]
  exact hu
theorem EntsV.drop {w : World} {b off n : Nat} {es : List E} (h : EntsV w (some ⟨b, off, none⟩) n es) (k : Nat) (hk : k ≤ n) : EntsV w (some ⟨b, off + k * 4, none⟩) (n - k) (es.drop k) := by
  refine ⟨by rw [List.length_drop, h.1], fun hp => ?_⟩
  obtain ⟨b', off', h1, h2⟩ := h.2 (by omega)
  cases h1
  refine ⟨b, off + k * 4, rfl, fun j u hu => ?_⟩
  have := h2 (k * 4 + j) u (by
    rw [← List.take_append_drop k es, flatE_append, List.getElem?_append_right (by rw [flatE_len, List.length_take, h.1]; omega), flatE_len, List.length_take, h.1, Nat.min_eq_left hk, Nat.add_sub_cancel_left]
    exact hu)
  rw [← Nat.add_assoc] at this
  exact this
/-- What 'l[k:]' is, whatever l's room. -/
theorem EntsV.from {w : World} {ao : Option Addr} {n c : Nat} {es : List E} (h : EntsV w ao n es) (k : Nat) (hk : k ≤ n) (hc : n ≤ c) :
    EntsV w (if c = k then ao else Option.map (fun x => x.add (k * 4)) ao) (n - k) (es.drop k) := by
  by_cases hp : 0 < n - k
  · obtain ⟨b, off, rfl, _⟩ := h.2 (by omega)
    rw [if_neg (by omega)]
    rw [Option.map_some, Addr.add_lit]
    exact h.drop k hk
  · exact ⟨by rw [List.length_drop, h.1], fun hq => absurd hq hp⟩
theorem entsV_nil (w : World) (ao : Option Addr) : EntsV w ao 0 [] := ⟨rfl, fun h => absurd h (by omega)⟩
theorem own_emptyE (w : World) : (w.alloc (.cells #[] 29)).ownsRow w.heap.size 29 4 (.slice (some ⟨w.heap.size, 0, none⟩) 0 0) 0 (flatE []) :=
  World.ownsRow_made w #[] 0 (Nat.le_refl _) (by unfold maxLen; omega) rfl
theorem wp_append_ents {o : Oper} {a : Act} {K : Act → World → Prop} {Q : Exit → Act → World → Prop} (w : World)
    (s x : Operand) (hop : o.op = Op.call { callee := Callee.builtin Builtin.append, args := #[s, x], argTypes := #[25, 25] })
    (base : Nat) (v : Value) (n : Nat) (xs : List E) (hs : a.eval s = v) (hown : w.ownsRow base 29 4 v n (flatE xs)) (hbase : base ≤ w.heap.size)
    (ao : Option Addr) (m c : Nat) (ys : List E) (hx : a.eval x = .slice ao m c) (hE : EntsV w ao m ys) (h0 : ao = none → c = 0)
    (hb : n + m ≤ 1000000000000)
    (hK : ∀ v' w', w'.ownsRow base 29 4 v' (xs ++ ys).length (flatE (xs ++ ys)) → Below base w w' → K (a.put o.dst v') w') :
    o.wp Try.prog a w K Q := by
  obtain ⟨i0, hi, hz0, hz1, hz2⟩ := info_parts info23
  have hn : n = xs.length := by have := hown.1; rw [flatE_len] at this; omega
  have hml := hE.1
  cases ao with
  | none =>
    have hm : m = 0 := by
      by_cases hp : 0 < m
      · obtain ⟨b, off, h1, _⟩ := hE.2 hp; cases h1
      · omega
    obtain rfl := h0 rfl
    subst hm
    have hys : ys = [] := List.eq_nil_of_length_eq_zero hml
    subst hys
    have hrun := run_append_owned_none (P := Try.prog) (w := w) base 25 o.type 29 i0 4 Try.underlying25 hi v n (flatE xs) hown
    unfold Oper.wp
    simp [execOp, hop, resolve, invoke, builtin, hs, hx, hrun, Result.andThen]
    exact hK v w (by rw [List.append_nil, ← hn]; exact hown) (Below.refl _ _)
  | some ad =>
    refine wp_append_own w s x 25 hop base 29 i0 _ 4 48 Try.underlying25 hi hz0 hz1 hz2 rfl (by decide) v n (flatE xs) hs hown ad m c (flatE ys) hx (by rw [flatE_len]; omega) ?_ (flatE_one ys) (by unfold maxLen; omega) (by omega) hbase ?_
    · intro j u hu
      have hp : 0 < m := by
        have := (List.getElem?_eq_some_iff.1 hu).1
        rw [flatE_len] at this; omega
      obtain ⟨b, off, h1, h2⟩ := hE.2 hp
      cases h1
      rw [Addr.add_lit]
      exact h2 j u hu
    · intro v' w' h1 h2 _
      refine hK v' w' ?_ ((Below.refl _ _).grown h2 hbase (fun k hk => (hown.lt k hk).1))
      rw [List.length_append, hml, ← hn, flatE_append]
      exact h1
theorem step_append_ents {ops : Array Oper} {o : Oper} {a : Act} {K : Act → World → Prop} {Q : Exit → Act → World → Prop} {E0 : Prop} (w : World)
    (hg : o.guard = none) (s x : Operand) (hop : o.op = Op.call { callee := Callee.builtin Builtin.append, args := #[s, x], argTypes := #[25, 25] })
    (base : Nat) (v : Value) (n : Nat) (xs : List E) (hs : a.eval s = v) (hown : w.ownsRow base 29 4 v n (flatE xs)) (hbase : base ≤ w.heap.size)
    (ao : Option Addr) (m c : Nat) (ys : List E) (hx : a.eval x = .slice ao m c) (hE : EntsV w ao m ys) (h0 : ao = none → c = 0)
    (hb : n + m ≤ 1000000000000)
    (hK : ∀ v' w', w'.ownsRow base 29 4 v' (xs ++ ys).length (flatE (xs ++ ys)) → Below base w w' → K (a.put o.dst v') w') :
    if Region.wanted o (yielded ops a.tmps) = true then Oper.wp Try.prog o a w K Q else E0 := by
  have hw : Region.wanted o (yielded ops a.tmps) = true := by simp [Region.wanted, hg]
  rw [if_pos hw]
  exact wp_append_ents w s x hop base v n xs hs hown hbase ao m c ys hx hE h0 hb hK
theorem rem_nat (a : Int) (l : Nat) (h : 0 < a) : a % ((l : Int) + 1) = ((a.toNat % (l + 1) : Nat) : Int) := by
  obtain ⟨n, rfl⟩ : ∃ n : Nat, a = n := ⟨a.toNat, by omega⟩
  rw [Int.toNat_natCast, Int.natCast_emod, Int.natCast_add]
  rfl
end Go.Proofs.Yteggjenncmjfmaa

/-
  A row of lists appended onto an own one.
-/
import Derived.Test.YteggjenncmjfmaaMtB
import Derived.Test.YteggjenncmjfmaaApartW
namespace Go.Proofs.Yteggjenncmjfmaa
open Go.RowKit
set_option linter.unusedSectionVars false
set_option linter.unusedVariables false
variable [Inhabited E] [DecidableEq E] [Inhabited RV]
theorem wpList_append_parts {ops : Array Oper} {rest : List Oper} {o : Oper} {a : Act} {Q : Exit → Act → World → Prop} (w : World)
    (hg : o.guard = none) (s x : Operand) (hop : o.op = Op.call { callee := Callee.builtin Builtin.append, args := #[s, x], argTypes := #[22, 22] })
    (base : Nat) (v : Value) (n : Nat) (xs : List Value) (hs : a.eval s = v) (hown : w.ownsRow base 25 1 v n xs) (hxl : xs.length = n) (hbase : base ≤ w.heap.size)
    (ao : Option Addr) (m c : Nat) (ys : List PV) (hx : a.eval x = .slice ao m c) (hyl : ys.length = m) (hys : ∀ p ∈ ys, PIn w p) (hcell : 0 < m → ∃ b off, ao = some ⟨b, off, none⟩ ∧ ∀ i p, ys[i]? = some p → w.cell? ⟨b, off + i, none⟩ = some p.v) (h0 : ao = none → c = 0)
    (hb : n + m ≤ 1000000000000)
    (hK : ∀ v' w', w'.ownsRow base 25 1 v' (xs ++ ys.map PV.v).length (xs ++ ys.map PV.v) → Below base w w' → wpList Try.prog ops Q rest (a.put o.dst v') w') :
    wpList Try.prog ops Q (o :: rest) a w := by
  refine wpList_plain hg fun K hK2 => ?_
  obtain ⟨i0, hi, hz0, hz1, hz2⟩ := info_parts info25
  cases ao with
  | none =>
    have hm : m = 0 := by
      by_cases hp : 0 < m
      · obtain ⟨b, off, h1, _⟩ := hcell hp; cases h1
      · omega
    obtain rfl := h0 rfl
    subst hm
    have hys2 : ys = [] := List.eq_nil_of_length_eq_zero hyl
    subst hys2
    have hrun := run_append_owned_none (P := Try.prog) (w := w) base 22 o.type 25 i0 1 Try.underlying22 hi v n xs hown
    unfold Oper.wp
    simp [execOp, hop, resolve, invoke, builtin, hs, hx, hrun, Result.andThen]
    exact hK2 _ _ (hK v w (by rw [List.map_nil, List.append_nil, hxl]; exact hown) (Below.refl _ _))
  | some ad =>
    have hone : ∀ u ∈ ys.map PV.v, u.oneCell' = true := fun u hu => by
      obtain ⟨p, hp, rfl⟩ := List.mem_map.1 hu
      obtain ⟨ao, c, h1, -⟩ := hys p hp
      rw [h1]; rfl
    refine wp_append_own w s x 22 hop base 25 i0 _ 1 24 Try.underlying22 hi hz0 hz1 hz2 rfl (by decide) v n xs hs hown ad m c (ys.map PV.v) hx (by rw [List.length_map, hyl, Nat.mul_one]) ?_ hone (by unfold maxLen; omega) (by omega) hbase ?_
    · intro j u hu
      have hp : 0 < m := by
        have := (List.getElem?_eq_some_iff.1 hu).1
        rw [List.length_map] at this; omega
      obtain ⟨b, off, h1, h2⟩ := hcell hp
      cases h1
      rw [Addr.add_lit]
      rw [List.getElem?_map, Option.map_eq_some_iff] at hu
      obtain ⟨p, hp2, rfl⟩ := hu
      exact h2 j p hp2
    · intro v' w' h1 h2 _
      refine hK2 _ _ (hK v' w' ?_ ((Below.refl _ _).grown h2 hbase (fun k hk => (hown.lt k hk).1)))
      rw [List.length_append, List.length_map, hyl, hxl]
      exact h1
end Go.Proofs.Yteggjenncmjfmaa

/-
  What the document's own Pick answers: a contract over this translation.
-/
import Derived.Test.YtnkbhojflcckmaaPkS
namespace Go.Proofs.Ytnkbhojflcckmaa
open Go.RowKit
set_option linter.unusedSectionVars false
theorem info4 : (Try.prog.info? 4).map (fun i => (i.zero, i.size, i.bytes)) = some (some (.bool false), 1, 1) := by kernel_rfl
theorem wpList_append_bool {ops : Array Oper} {rest : List Oper} {o : Oper} {a : Act} {Q : Exit → Act → World → Prop} (w : World)
    (hg : o.guard = none) (s x : Operand) (hop : o.op = Op.call { callee := Callee.builtin Builtin.append, args := #[s, x], argTypes := #[35, 35] })
    (base : Nat) (v : Value) (n : Nat) (l : List Bool) (hs : a.eval s = v) (hown : w.ownsRow base 4 1 v n (l.map Value.bool)) (hbase : base ≤ w.heap.size)
    (g : Nat) (i : Bool) (hx : a.eval x = .slice (some ⟨g, 0, none⟩) 1 1) (hc : w.cell? ⟨g, 0, none⟩ = some (.bool i))
    (hb : n ≤ 1000000000)
    (hK : ∀ v' w', w'.ownsRow base 4 1 v' (l ++ [i]).length ((l ++ [i]).map Value.bool) → w.grownBy w' v.ownBlock → Below base w w' → wpList Try.prog ops Q rest (a.put o.dst v') w') :
    wpList Try.prog ops Q (o :: rest) a w := by
  obtain ⟨i0, hi, hz0, hz1, hz2⟩ := info_parts info4
  have hn : n = l.length := by have := hown.1; rw [List.length_map] at this; omega
  refine wpList_append_own w hg s x 35 hop base 4 i0 (.bool false) 1 1 Try.underlying35 hi hz0 hz1 hz2 rfl (by decide) v n (l.map Value.bool) hs hown ⟨g, 0, none⟩ 1 1 [.bool i] hx rfl ?_ (by intro u hu; rw [List.mem_singleton.1 hu]; rfl) (by unfold maxLen; omega) (by omega) hbase ?_
  · intro j u hu
    have hj := (List.getElem?_eq_some_iff.1 hu).1
    have : j = 0 := by simpa using hj
    subst this
    rw [Addr.add_lit]
    have hu2 : u = .bool i := by simpa using hu.symm
    rw [hu2]; exact hc
  · intro v' w' h1 h2 _
    refine hK v' w' ?_ h2 ((Below.refl _ _).grown h2 hbase (fun k hk => (hown.lt k hk).1))
    rw [List.length_append, ← hn, List.map_append]
    exact h1
/-- A row of flags lies in a slice. -/
def BoolsV (w : World) (ao : Option Addr) (n : Nat) (l : List Bool) : Prop := l.length = n ∧ (0 < n → ∃ b, ao = some ⟨b, 0, none⟩ ∧ ∀ i, i < n → w.cell? ⟨b, i, none⟩ = some (.bool (l.getD i false)))
theorem BoolsV.keep {w w' : World} {ao : Option Addr} {n : Nat} {l : List Bool} (h : BoolsV w ao n l) (hb : Below w.heap.size w w') : BoolsV w' ao n l :=
  ⟨h.1, fun hp => by
    obtain ⟨b, h1, h2⟩ := h.2 hp
    exact ⟨b, h1, fun i hi => by
      have h3 := h2 i hi
      rw [← h3]
      exact World.cell?_of_block (hb.block b (World.block_lt_of_cell? w _ h3))⟩⟩
theorem own_boolsV {w : World} {base : Nat} {v : Value} {n : Nat} {l : List Bool} (h : w.ownsRow base 4 1 v n (l.map Value.bool)) : ∃ ao c, v = .slice ao n c ∧ BoolsV w ao n l ∧ n = l.length := by
  have hl : n = l.length := by have := h.1; rw [List.length_map] at this; omega
  rcases h.2 with ⟨rfl, h0⟩ | ⟨g, cap, cur, rfl, hb, hg, hn, hm, hs, ht⟩
  · exact ⟨none, 0, by rw [h0], ⟨hl.symm, fun hp => absurd hp (by omega)⟩, hl⟩
  · refine ⟨_, cap, rfl, ⟨hl.symm, fun _ => ⟨g, rfl, fun i hi => ?_⟩⟩, hl⟩
    have hi2 : i < l.length := by omega
    have := h.cells (g := g) rfl i (.bool (l.getD i false)) (by simp [hi2])
    rwa [Addr.add_lit, Nat.zero_add] at this
/-- Is there one of these already? -/
def smB (ts : List Tb) (f i : Nat) : Bool := !(upN ts f i).isEmpty
theorem mineB_sm (ts : List Tb) (f i : Nat) : mineB ts f i = (decide ((ts.getD i zT).lv = f) && (decide (f = 0) || !(smB ts f i))) := by
  unfold mineB smB
  rw [upN_isEmpty, Bool.not_not]
theorem smB_succ (ts : List Tb) (f i : Nat) : smB ts f (i + 1) = (mineB ts f i || smB ts f i) := by
  unfold smB
  rw [upN_succ]
  by_cases h : mineB ts f i = true
  · rw [if_pos h, h]; simp
  · rw [if_neg h]; simp [Bool.not_eq_true _ ▸ h]
/-- What stands behind the first tables. -/
structure PkAt (ts : List Tb) (f i : Nat) (lo hi : ByteArray) (sm : Bool) (mb : List Bool) : Prop where
  l : loP ts f i = lo
  h : hiP ts f i = hi
  s : smB ts f i = sm
  m : (List.range i).map (mineB ts f) = mb
theorem PkAt.start (ts : List Tb) (f : Nat) : PkAt ts f 0 ByteArray.empty ByteArray.empty false [] := ⟨rfl, rfl, rfl, rfl⟩
theorem range_snoc (ts : List Tb) (f i : Nat) : (List.range (i + 1)).map (mineB ts f) = (List.range i).map (mineB ts f) ++ [mineB ts f i] := by rw [List.range_succ, List.map_append]; rfl
theorem PkAt.no {ts : List Tb} {f i : Nat} {lo hi : ByteArray} {sm : Bool} {mb : List Bool} (h : PkAt ts f i lo hi sm mb) (hm : mineB ts f i = false) : PkAt ts f (i + 1) lo hi sm (mb ++ [false]) :=
  ⟨by rw [loP_succ, hm]; exact h.l, by rw [hiP_succ, hm]; exact h.h, by rw [smB_succ, hm, h.s]; rfl, by rw [range_snoc, h.m, hm]⟩
theorem PkAt.yes0 {ts : List Tb} {f i : Nat} {lo hi : ByteArray} {mb : List Bool} (h : PkAt ts f i lo hi false mb) (hm : mineB ts f i = true) : PkAt ts f (i + 1) (ts.getD i zT).first (ts.getD i zT).last true (mb ++ [true]) := by
  have he : (upN ts f i).isEmpty = true := by have := h.s; unfold smB at this; simpa using this
  exact ⟨by rw [loP_succ, hm, he]; rfl, by rw [hiP_succ, hm, he]; rfl, by rw [smB_succ, hm]; rfl, by rw [range_snoc, h.m, hm]⟩
theorem PkAt.yes1 {ts : List Tb} {f i : Nat} {lo hi : ByteArray} {mb : List Bool} (h : PkAt ts f i lo hi true mb) (hm : mineB ts f i = true) : PkAt ts f (i + 1) (minS lo (ts.getD i zT).first) (maxS hi (ts.getD i zT).last) true (mb ++ [true]) := by
  have he : (upN ts f i).isEmpty = false := by have := h.s; unfold smB at this; simpa using this
  exact ⟨by rw [loP_succ, hm, he, h.l]; rfl, by rw [hiP_succ, hm, he, h.h]; rfl, by rw [smB_succ, hm]; rfl, by rw [range_snoc, h.m, hm]⟩
end Go.Proofs.Ytnkbhojflcckmaa

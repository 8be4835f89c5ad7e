/-
  Where the document's Merge stands: what it has gathered, and the tails, lie apart.
-/
import Derived.Test.YteggjenncmjfmaaMtB
import Derived.Test.YteggjenncmjfmaaMtC
namespace Go.Proofs.Yteggjenncmjfmaa
open Go.RowKit
set_option linter.unusedSectionVars false
set_option linter.unusedVariables false
variable [Inhabited E] [DecidableEq E] [Inhabited RV]
/-- A row of lists of which only the row is its own, read. -/
theorem OwnT.lists {w wr : World} {v : Value} {Ps : List PV} (h : OwnT w wr v Ps) (hl : Ps.length ≤ 9223372036854775807) : ∃ ao c, v = .slice ao Ps.length c ∧ ∃ R, ListsV wr ao Ps.length R ∧ R.map RV.l = Ps.map PV.l := by
  have hr := h.row
  rcases hr.2 with ⟨rfl, h0⟩ | ⟨g, cap, cur, rfl, hb, hg, hn, hm, hs, ht⟩
  · obtain ⟨R, r1, r2, -⟩ := lists_of (ao := none) hl h.pin (fun hp => absurd hp (by omega))
    exact ⟨none, 0, by rw [h0], R, r1, r2⟩
  · obtain ⟨R, r1, r2, -⟩ := lists_of (ao := some ⟨g, 0, none⟩) hl h.pin (fun hp => ⟨g, 0, rfl, fun i p hi => by
      have := hr.cells (g := g) rfl i p.v (by rw [List.getElem?_map, hi]; rfl)
      rwa [Addr.add_lit] at this⟩)
    exact ⟨_, cap, rfl, R, r1, r2⟩
structure MR (w wr : World) (v : Value) (Ps : List PV) (x : Value) (G : List E) : Prop where
  tails : OwnT w wr v Ps
  row : wr.ownsRow w.heap.size 29 4 x G.length (flatE G)
  far : ∀ k, x.ownBlock = some k → v.ownBlock ≠ some k
theorem MR.grow {w wr w' : World} {v x : Value} {Ps : List PV} {G : List E} (h : MR w wr v Ps x G) (hb : Below wr.heap.size wr w') : MR w w' v Ps x G :=
  ⟨h.tails.grow hb, own_below h.row hb (Nat.le_refl _), h.far⟩
theorem MR.store {w wr : World} {b n c : Nat} {x : Value} {Ps : List PV} {G : List E} (h : MR w wr (.slice (some ⟨b, 0, none⟩) n c) Ps x G) (hn : Ps.length = n) (hb : w.heap.size ≤ b) (i : Nat) {q : PV} (hq : PIn w q) :
    MR w (wr.setCell ⟨b, i, none⟩ q.v) (.slice (some ⟨b, 0, none⟩) n c) (Ps.set i q) x G :=
  ⟨h.tails.store hn hb i hq, row_block h.row (fun k hk => heap_set_ne wr i q.v (fun e => h.far k hk (by rw [e]; rfl))), h.far⟩
theorem MR.more {w wr w7 : World} {g7 cap7 : Nat} {v x : Value} {Ps : List PV} {G : List E} {e : E} (h : MR w wr v Ps x G)
    (hr : w7.ownsRow w.heap.size 29 4 (.slice (some ⟨g7, 0, none⟩) (G.length + 1) cap7) (G.length + 1) (flatE G ++ encE e)) (hg : wr.grownBy w7 x.ownBlock) (hl : x.ownBlock = some g7 ∨ g7 = wr.heap.size) :
    MR w w7 v Ps (.slice (some ⟨g7, 0, none⟩) (G.length + 1) cap7) (G ++ [e]) := by
  have hsz : w.heap.size ≤ wr.heap.size := h.tails.bel.size
  have hb : Below w.heap.size w w7 := h.tails.bel.trans ((Below.refl _ _).grown hg hsz (fun k hk => (h.row.lt k hk).1))
  refine ⟨⟨row_block h.tails.row (fun k hk => hg.block k (h.tails.row.lt k hk).2 (fun e => h.far k e.symm hk)), h.tails.parts, hb⟩, ?_, fun k hk ho => ?_⟩
  · rw [List.length_append, List.length_singleton, flatE_append]
    have : flatE [e] = encE e := by simp [flatE]
    rw [this]; exact hr
  · cases hk
    rcases hl with q | q
    · exact h.far _ q ho
    · have h1 : g7 < wr.heap.size := (h.tails.row.lt _ ho).2
      omega
/-- One of the tails. -/
theorem MR.at_ {w wr : World} {po : Option Addr} {n pc : Nat} {x : Value} {Ps : List PV} {G : List E} (h : MR w wr (.slice po n pc) Ps x G) (hn : Ps.length = n) (i : Nat) (hi : i < n) :
    ∃ g p ao c, po = some ⟨g, 0, none⟩ ∧ w.heap.size ≤ g ∧ Ps[i]? = some p ∧ p.v = .slice ao p.l.length c ∧ wr.cell? ⟨g, i, none⟩ = some (.slice ao p.l.length c) ∧ wr.frozen? ⟨g, i, none⟩ = false ∧ EntsV wr ao p.l.length p.l ∧ PIn w p ∧ p.l.length ≤ c ∧ c ≤ 9223372036854775807 := by
  have hr := h.tails.row
  have hp : Ps[i]? = some (Ps[i]'(by omega)) := List.getElem?_eq_getElem _
  obtain ⟨p, hpe⟩ : ∃ p, Ps[i]'(by omega) = p := ⟨_, rfl⟩
  rw [hpe] at hp
  have hpm : p ∈ Ps := List.mem_of_getElem? hp
  obtain ⟨ao, c, q1, q2, q3, q4, -⟩ := h.tails.pin p hpm
  rcases hr.2 with ⟨hv, h0⟩ | ⟨g, cap, cur, hv, hb, -⟩
  · omega
  · cases hv
    refine ⟨g, p, ao, c, rfl, hb, hp, q1, ?_, hr.frozenAt i, q2, h.tails.parts p hpm, q3, q4⟩
    have := hr.cells (g := g) rfl i p.v (by rw [List.getElem?_map, hp]; rfl)
    rw [Addr.add_lit, Nat.zero_add, q1] at this
    exact this
end Go.Proofs.Yteggjenncmjfmaa

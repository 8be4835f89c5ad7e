/-
  There is an end: mathematics and laws.
-/
import Derived.Test.YtnkbhojflcckmaaPkAB
namespace Go.Proofs.Ytnkbhojflcckmaa
open Go.RowKit
set_option linter.unusedSectionVars false
theorem ctE_perm {a b : List Tb} (h : a.Perm b) : ctE a = ctE b := sum_perm (h.map Tb.ct)
/-- What stands while there are steps. -/
structure StT (T : List Tb) : Prop where
  ok : ∀ x ∈ T, OkT x ∧ 1 ≤ x.ct
  ct : ctE T ≤ 38400
  len : T.length ≤ 600
theorem ct64 : ∀ (P : List Tb), (∀ x ∈ P, 0 ≤ x.ct ∧ x.ct ≤ 64) → 0 ≤ ctE P ∧ ctE P ≤ P.length * 64
  | [], _ => by simp [ctE]
  | x :: l, h => by
    have h1 := ct64 l (fun y hy => h y (by simp [hy]))
    have h2 := h x (by simp)
    have e1 : ctE (x :: l) = x.ct + ctE l := by simp [ctE]
    rw [e1, List.length_cons]
    omega
theorem StT.start (ts : List Tb) : StT (rightL ts) := by
  have hl := right_len ts
  refine ⟨fun x hx => ⟨(right_mem hx).ok, (right_mem hx).2.2.1⟩, ?_, hl⟩
  have := ct64 (rightL ts) (fun x hx => by have := right_mem hx; unfold RightT at this; omega)
  omega
/-- The one that comes for them. -/
def madeT (T : List Tb) (f : Nat) (L : List Nat) (i : Nat) : Tb := mkT ((f : Int) + 1) (ctE (tabsAt T (L.take i))) (frL T L i) (frH T L i)
theorem madeT_zero (T : List Tb) (f : Nat) {L : List Nat} (h : 0 < L.length) : madeT T f L 0 = mkT ((f : Int) + 1) 0 (T.getD (L.getD 0 0) zT).first (T.getD (L.getD 0 0) zT).last := by
  unfold madeT; rw [frL_zero T h, frH_zero T h]; rfl
theorem madeT_succ (T : List Tb) (f : Nat) {L : List Nat} {i : Nat} (h : i < L.length) (x : Tb) (hx : T.getD (L.getD i 0) zT = x) :
    madeT T f L (i + 1) = (((madeT T f L i).cnt ((madeT T f L i).ct + x.ct)).fst (minS (madeT T f L i).first x.first)).lst (maxS (madeT T f L i).last x.last) := by
  have e1 : ctE (tabsAt T (L.take (i + 1))) = ctE (tabsAt T (L.take i)) + x.ct := by
    rw [take_getD L i h, tabsAt_append, ctE_app]; congr 1
    show ctE [T.getD (L.getD i 0) zT] = _
    rw [hx, ctE_one]
  unfold madeT
  rw [e1, frL_succ T h, frH_succ T h, hx]
  rfl
theorem in_out_len (T : List Tb) (f : Nat) : (inL T f).length + (outN T f T.length).length = T.length := by
  have := (take_out_perm T f).length_eq
  rw [List.length_append, tabsAt_len, tabsAt_len] at this
  exact this
/-- PickEnds' mathematics: one step. -/
theorem ends_math {T N : List Tb} {f : Nat} (hS : StT T) (hp : pickF T = some f) (hN : N.Perm (tabsAt T (outN T f T.length) ++ [madeT T f (inL T f) (inL T f).length])) : StT N ∧ scE N < scE T := by
  have hf := pickF_lt hp
  have hpos := inL_pos hp
  have e0 : (inL T f).take (inL T f).length = inL T f := List.take_length
  have hmc : (madeT T f (inL T f) (inL T f).length).ct = ctE (tabsAt T (inL T f)) := by unfold madeT; rw [e0]; rfl
  have hml : (madeT T f (inL T f) (inL T f).length).lv = (f : Int) + 1 := rfl
  have h1 := ctE_perm (take_out_perm T f)
  rw [ctE_app] at h1
  have hin : ∀ x ∈ tabsAt T (inL T f), (x.lv = (f : Int) ∨ x.lv = (f : Int) + 1) ∧ 1 ≤ x.ct := fun x hx => by
    refine ⟨?_, (hS.ok x (mem_in hx)).2⟩
    simp only [tabsAt, List.mem_map] at hx
    obtain ⟨j, hj, rfl⟩ := hx
    exact in_level hj
  have h2 := ct_levels (tabsAt T (inL T f)) hin
  rw [tabsAt_len] at h2
  have h3 := ctE_le (tabsAt T (outN T f T.length)) (fun x hx => by have := (hS.ok x (mem_out hx)).1; unfold OkT at this; omega)
  have hct := hS.ct
  have hN2 := ctE_perm hN
  rw [ctE_app, ctE_one, hmc] at hN2
  refine ⟨⟨fun x hx => ?_, by omega, ?_⟩, ?_⟩
  · have hx2 := hN.mem_iff.1 hx
    rcases List.mem_append.1 hx2 with h | h
    · exact hS.ok x (mem_out h)
    · rw [List.mem_singleton.1 h]
      unfold OkT
      rw [hmc, hml]
      omega
  · have := hN.length_eq
    rw [List.length_append, tabsAt_len, List.length_singleton] at this
    have h4 := in_out_len T f
    have := hS.len
    omega
  · have h5 := less_math (N := [madeT T f (inL T f) (inL T f).length]) hp (fun x hx => by have := hS.ok x hx; unfold OkT at this; omega) (fun x hx => by rw [List.mem_singleton.1 hx]; exact hml) (by rw [ctE_one, hmc]; omega) hf
    rw [scE_perm hN]
    exact h5
/-! ### Laws -/
theorem set_other {w : World} {g i k : Nat} {cs : Array Value} {t : TypeId} {v : Value} (h : w.heap[g]? = some (.cells cs t (0, 0))) (hk : k ≠ g) : (w.setCell ⟨g, i, none⟩ v).heap[k]? = w.heap[k]? := by
  rw [setCell_eq_setRow w g i _ t (0, 0) v h]
  exact setRow_other w g k _ hk
/-- The made one, and the flags. -/
structure EI (w0 w : World) (gm gf : Nat) (m : Tb) (fl : List Bool) : Prop where
  box : Box w gm m
  flag : FlagB w gf fl
  bel : Below w0.heap.size w0 w
  ne : gf ≠ gm
  hm : w0.heap.size ≤ gm
  hf : w0.heap.size ≤ gf
theorem EI.keep {w0 w w' : World} {gm gf : Nat} {m : Tb} {fl : List Bool} (h : EI w0 w gm gf m fl) (hb : Below w.heap.size w w') : EI w0 w' gm gf m fl :=
  ⟨h.box.keep hb, h.flag.keep hb, h.bel.trans (hb.mono h.bel.size), h.ne, h.hm, h.hf⟩
theorem EI.setM {w0 w : World} {gm gf i : Nat} {m m' : Tb} {fl : List Bool} {v : Value} (h : EI w0 w gm gf m fl) (hv : (encT m).set i v = encT m') : EI w0 (w.setCell ⟨gm, i, none⟩ v) gm gf m' fl :=
  ⟨h.box.set hv, (set_other h.box h.ne).trans h.flag, below_set h.box h.bel h.hm, h.ne, h.hm, h.hf⟩
theorem EI.setF {w0 w : World} {gm gf i : Nat} {m : Tb} {fl : List Bool} {b : Bool} (h : EI w0 w gm gf m fl) : EI w0 (w.setCell ⟨gf, i, none⟩ (.bool b)) gm gf m (fl.set i b) :=
  ⟨(set_other h.flag h.ne.symm).trans h.box, h.flag.set, h.flag.bel h.bel h.hf, h.ne, h.hm, h.hf⟩
theorem Box.set_far {w : World} {g k i : Nat} {x m : Tb} {v : Value} (h : Box w k x) (hg : Box w g m) (hk : k ≠ g) : Box (w.setCell ⟨g, i, none⟩ v) k x := (set_other hg hk).trans h
theorem yieldsIf_build {ops : Array Oper} {S : World → Prop} {op : Oper} {a : Act} (hw : Region.wanted op (yielded ops a.tmps) = true) (t : TypeId) (parts : Array (Nat × Operand)) (ho : op.op = .build t parts) (cells : Array Value) (vs : List (Nat × Value)) (hb : Try.prog.built t vs = some cells) (hv : (parts.toList.map fun (y : Nat × Operand) => (y.1, a.eval y.2)) = vs) : YieldsIf Try.prog ops S op (.agg cells) a :=
  .inl ⟨hw, fun w _ => by
    subst hv
    rw [← Array.toList_map] at hb
    unfold execOp
    simp only [ho, Sem.run_bind, run_build w t _ cells hb, Result.andThen_ok, Sem.run_pure]⟩
end Go.Proofs.Ytnkbhojflcckmaa

/-
  merge.headsOf: a contract over this translation.
-/
import Derived.Test.YteggjenncmjfmaaMgG
namespace Go.Proofs.Yteggjenncmjfmaa
open Go.RowKit
set_option linter.unusedSectionVars false
variable [Inhabited E] [DecidableEq E] [Inhabited RV]
/-- A row of lists in memory, each with its place in it. -/
def ListsV (w : World) (ao : Option Addr) (n : Nat) (R : List RV) : Prop :=
  R.length = n ∧ (∀ r ∈ R, RIn w r) ∧ (∀ i, i < n → R[i]!.age = i) ∧ (0 < n → ∃ b off, ao = some ⟨b, off, none⟩ ∧ ∀ i, i < n → w.cell? ⟨b, off + i, none⟩ = some (.slice R[i]!.ao R[i]!.n R[i]!.c))
theorem ListsV.below {w w' : World} {ao : Option Addr} {n B : Nat} {R : List RV} (h : ListsV w ao n R) (hb : Below B w w') (hB : w.heap.size ≤ B) : ListsV w' ao n R :=
  ⟨h.1, fun r hr => (h.2.1 r hr).below hb hB, h.2.2.1, fun hp => by
    obtain ⟨b, off, h1, h2⟩ := h.2.2.2 hp
    exact ⟨b, off, h1, fun i hi => bel_cell hb hB (h2 i hi)⟩⟩
def full (R : List RV) : List RV := R.filter fun r => !r.l.isEmpty
theorem full_snoc (R : List RV) (i : Nat) (hi : i < R.length) : full (R.take (i + 1)) = full (R.take i) ++ (if R[i]!.l = [] then [] else [R[i]!]) := by
  have : R.take (i + 1) = R.take i ++ [R[i]!] := by
    rw [List.take_succ_eq_append_getElem hi, getElem!_pos R i hi]
  rw [this]
  unfold full
  rw [List.filter_append]
  congr 1
  generalize R[i]! = r
  cases h : r.l with
  | nil => simp [h]
  | cons e t => simp [h]
/-- Heads, of which all was made behind w0, and nothing that was made behind w. -/
def Hw (w0 w : World) (g : Nat) (R : List RV) (own : Nat → Prop) : Prop := Hs own w0 w g R ∧ ∀ k, own k → k < w.heap.size
theorem Hs.now {own : Nat → Prop} {w0 w : World} {g : Nat} {R : List RV} (h : Hs own w0 w g R) : Hs (here own w) w0 w g R := ⟨h.at_.now, h.bel, fun k hk => h.new k hk.1, h.rows, h.heap⟩
set_option maxRecDepth 100000 in
set_option maxHeartbeats 1000000 in
theorem headsOf_any (ao : Option Addr) (n c : Nat) (R : List RV) (w : World) (h : ListsV w ao n R) (hb : n ≤ 1000000) :
    Calls Try.prog 19 #[.slice ao n c] w fun e w' => ∃ g S own, e = .returned (.pointer (some ⟨g, 0, none⟩)) ∧ S.Perm (full R) ∧ Hs own w w' g S ∧ (∀ k, own k → k < w'.heap.size) ∧ Below w.heap.size w w' := by
  have HL : Hid (ListsV w ao n R) := h
  have HBN : Hid (n ≤ 1000000) := hb
  have h0 : Hid (Hs (fun k => k = w.heap.size) w (w.alloc (.cells (headsC (.slice none 0 0)) 52)) w.heap.size []) := by
    refine ⟨⟨.slice none 0 0, rfl, by rw [heap_alloc_get, if_pos rfl], World.ownsRow_nil _ _ _ _, fun k hk => (by cases hk)⟩, bel_alloc _ _, fun k hk => (by rw [hk]; exact Nat.le_refl _), fun r hr => (by cases hr), fun i hi => absurd hi (Nat.not_lt_zero i)⟩
  clear h hb
  go_enter Try.func19, Try.ntmps19
  go_wp2_with fail
  go_loopw [10] (fun x wr => ∃ (i : Nat) (S : List RV) (own : Nat → Prop), x = .int .i64 i ∧ i ≤ n ∧ Hid (S.Perm (full (R.take i)) ∧ Hs own w wr w.heap.size S ∧ (∀ k, own k → k < wr.heap.size) ∧ Below w.heap.size w wr)) (fun x _ => n - (intOf x).toNat)
  case atStart => exact ⟨0, [], _, rfl, Nat.zero_le _, by rw [List.take_zero]; exact List.Perm.refl _, h0.out, fun k hk => by rw [hk]; simp, bel_alloc _ _⟩
  case round =>
    obtain ⟨i, S, own, rfl, hin, HI⟩ := hrel
    by_cases hlt : i < n
    · have hltz : (i : Int) < (n : Int) := by omega
      have hib : (i : Int) ≤ 1000000 := by have := HBN.out; omega
      obtain ⟨b, off, rfl, hcell⟩ := HL.out.2.2.2 (by omega)
      have c0 := bel_cell HI.out.2.2.2 (Nat.le_refl _) (hcell i hlt)
      have hage := HL.out.2.2.1 i hlt
      obtain ⟨r, HRI⟩ : ∃ r, Hid (R[i]! = r) := ⟨_, rfl⟩
      rw [HRI.out] at c0 hage
      have hlen := HL.out.1
      have HRR : Hid (RIn w r) := HL.out.2.1 r (by rw [← HRI.out, getElem!_pos R i (by omega)]; exact List.getElem_mem _)
      have HSN : Hid (full (R.take (i + 1)) = full (R.take i) ++ (if r.l = [] then [] else [r])) := by show _ = _; rw [full_snoc R i (by omega), HRI.out]
      have HB : Hid (S.length < 1000000) := by
        have h1 := HI.out.1.length_eq
        have h2 : (full (R.take i)).length ≤ (R.take i).length := List.length_filter_le _ _
        rw [List.length_take] at h2
        have := HBN.out
        show _ < _; omega
      have HK : Hid _ := keep_any HI.out.2.1 r HRR.out HB.out
      rw [hage] at HK
      obtain ⟨a1, o1, n1, c1, l1⟩ := r
      simp only at c0 HK
      clear hcell hage hlen
      go_wp2_with fail
      refine Calls.mono HK.out ?_
      rintro e w2 ⟨rfl, T, hp, hs, ho⟩
      have HF : Hid (T.Perm (full (R.take (i + 1))) ∧ Hs (here (grow own wr) w2) w w2 w.heap.size T ∧ (∀ k, here (grow own wr) w2 k → k < w2.heap.size) ∧ Below w.heap.size w w2) := ⟨by rw [HSN.out]; exact hp.trans (List.Perm.append_right _ HI.out.1), hs.now, fun k hk => hk.2, hs.bel⟩
      clear hp hs ho HK c0
      go_wp2_with fail
      go_roundw
      case rel => exact ⟨i + 1, T, _, by go_num, by omega, HF.out⟩
      case measure => simp [intOf]; omega
    · have hltz : ¬ (i : Int) < (n : Int) := by omega
      have HT : Hid (R.take i = R) := by show _ = _; rw [List.take_of_length_le (by rw [HL.out.1]; omega)]
      rw [HT.out] at HI
      go_wp2_with fail
      go_ret
      exact ⟨_, rfl, S, HI.out.1, own, HI.out.2⟩
end Go.Proofs.Yteggjenncmjfmaa

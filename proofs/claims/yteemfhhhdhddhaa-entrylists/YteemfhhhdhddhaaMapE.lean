/-
  What entry.Map answers: contracts over this translation.
-/
import Derived.Test.YteemfhhhdhddhaaFoldsL
import Derived.Lib.SliceRun
import Derived.Lib.LazyBuf
namespace Go.Proofs.Yteemfhhhdhddhaa
open Go.RowKit Go.Sort Go.Shelf
set_option linter.unusedSectionVars false
variable [Inhabited E] [DecidableEq E]
set_option maxRecDepth 100000 in
theorem mapf_any (k v : ByteArray) (d : Bool) (q : Int) (w : World) :
    Calls Try.prog 56 #[.agg #[.string k, .string v, .bool d, .int .i64 q]] w fun e w' => e = .returned (.bool d) ∧ Below w.heap.size w w' := by
  go_enter Try.func56, Try.ntmps56
  go_wp2
  go_ret
  exact ⟨rfl, bel_alloc _ _⟩
/-- The place of the first that is taken away: all, where there is none. -/
def firstDel (es : List E) : Nat := es.findIdx fun e => e.del
theorem firstDel_at {es : List E} {i : Nat} (hi : i < es.length) (h : es[i]!.del = true) (hb : ∀ j, j < i → es[j]!.del = false) : firstDel es = i := by
  unfold firstDel
  rw [List.findIdx_eq hi]
  refine ⟨by rw [getElem!_pos es i hi] at h; exact h, fun j hj => ?_⟩
  have := hb j hj
  rw [getElem!_pos es j (by omega)] at this
  exact this
theorem firstDel_none {es : List E} (hb : ∀ j, j < es.length → es[j]!.del = false) : firstDel es = es.length := by
  unfold firstDel
  rw [List.findIdx_eq_length]
  intro x hx
  obtain ⟨i, hi, rfl⟩ := List.getElem_of_mem hx
  have := hb i hi
  rwa [getElem!_pos es i hi] at this
set_option maxRecDepth 100000 in
set_option maxHeartbeats 2000000 in
theorem index_any (ao : Option Addr) (n c : Nat) (es : List E) (w : World) (hE : EntsV w ao n es) (hbig : n ≤ 1000000000000) :
    Calls Try.prog 75 #[.slice ao n c, .func (.func 56) #[] #[]] w fun e w' => e = .returned (.int .i64 (if firstDel es < n then (firstDel es : Int) else -1)) ∧ Below w.heap.size w w' := by
  have HE : Hid (EntsV w ao n es) := hE
  clear hE
  have HLN : Hid (es.length = n) := HE.out.1
  obtain ⟨r, HRV⟩ : ∃ r : Int, Hid ((if firstDel es < n then (firstDel es : Int) else -1) = r) := ⟨_, rfl⟩
  rw [HRV.out]
  go_enter Try.func75, Try.ntmps75
  go_wp2
  go_loopw [5, 8] (fun _ x wr => ∃ i : Nat, x = .int .i64 i ∧ i ≤ n ∧ Hid (∀ j, j < i → es[j]!.del = false) ∧ Below w.heap.size w wr) (fun _ x _ => n - (intOf x).toNat)
  case atStart => exact ⟨0, rfl, by omega, fun j hj => absurd hj (by omega), Below.refl _ _⟩
  case round =>
    obtain ⟨i, rfl, hin, HF, hbr⟩ := hrel
    have HBR : Hid (Below w.heap.size w wr) := hbr
    by_cases hlt : i < n
    · have hltz : (i : Int) < (n : Int) := by omega
      obtain ⟨b, off, hao, hEn⟩ := (HE.out.below hbr (Nat.le_refl _)).2 (by omega)
      obtain ⟨k0, v0, d0, q0, HX⟩ : ∃ k0 v0 d0 q0, Hid (es[i]! = E.mk k0 v0 d0 q0) := ⟨_, _, _, _, rfl⟩
      obtain ⟨c0, c1, c2, c3⟩ := ents_four hEn i (by rw [HLN.out]; omega) HX.out
      subst hao
      clear hEn hbr
      go_wp2_with fail
      refine (mapf_any k0 v0 d0 q0 _).mono ?_
      rintro e w2 ⟨rfl, hb2⟩
      have HB2 : Hid (Below w.heap.size w w2) := HBR.out.trans (hb2.mono HBR.out.size)
      clear hb2
      cases d0 with
      | true =>
        have HR : Hid (r = (i : Int)) := by
          show _ = _
          rw [← HRV.out, firstDel_at (by rw [HLN.out]; exact hlt) (by rw [HX.out]) HF.out, if_pos hlt]
        go_wp2
        go_ret
        exact ⟨by rw [HR.out]; rfl, HB2.out⟩
      | false =>
        have HF2 : Hid (∀ j, j < i + 1 → es[j]!.del = false) := by
          show ∀ _, _
          intro j hj
          by_cases h : j < i
          · exact HF.out j h
          · rw [show j = i by omega, HX.out]
        clear HF
        go_wp2
        go_roundw
        case rel => exact ⟨i + 1, by go_num, by omega, HF2, HB2.out⟩
        case measure => simp [intOf]; omega
    · have hltz : ¬ (i : Int) < (n : Int) := by omega
      have HR : Hid (r = -1) := by
        show _ = _
        rw [← HRV.out, firstDel_none (fun j hj => HF.out j (by have := HLN.out; omega)), HLN.out, if_neg (by omega)]
      clear hbr
      go_wp2
      go_ret
      exact ⟨by rw [HR.out]; rfl, HBR.out⟩
theorem flatE_set : ∀ (L : List E) (i : Nat) (k v : ByteArray) (d : Bool) (q : Int), i < L.length → ((((flatE L).set (i * 4) (.string k)).set (i * 4 + 1) (.string v)).set (i * 4 + 2) (.bool d)).set (i * 4 + 3) (.int .i64 q) = flatE (L.set i ⟨k, v, d, q⟩)
  | [], i, _, _, _, _, h => absurd h (by simp)
  | e :: L, 0, k, v, d, q, _ => by
    rw [flatE_cons, List.set_cons_zero, flatE_cons]; rfl
  | e :: L, i + 1, k, v, d, q, h => by
    rw [flatE_cons, List.set_cons_succ, flatE_cons, ← flatE_set L i k v d q (by simpa using h)]
    have h4 : (encE e).length = 4 := rfl
    rw [List.set_append_right _ _ (by rw [h4]; omega), List.set_append_right _ _ (by rw [h4]; omega), List.set_append_right _ _ (by rw [h4]; omega), List.set_append_right _ _ (by rw [h4]; omega), h4]
    rw [show (i + 1) * 4 - 4 = i * 4 by omega, show (i + 1) * 4 + 1 - 4 = i * 4 + 1 by omega, show (i + 1) * 4 + 2 - 4 = i * 4 + 2 by omega, show (i + 1) * 4 + 3 - 4 = i * 4 + 3 by omega]
/-- An entry that is stored into an owned row. -/
theorem own_set {w : World} {base g n cap : Nat} {L : List E} (h : w.ownsRow base 23 4 (.slice (some ⟨g, 0, none⟩) n cap) n (flatE L)) (i : Nat) (hi : i < n) (k v : ByteArray) (d : Bool) (q : Int) :
    ((((w.setCell ⟨g, i * 4, none⟩ (.string k)).setCell ⟨g, i * 4 + 1, none⟩ (.string v)).setCell ⟨g, i * 4 + 2, none⟩ (.bool d)).setCell ⟨g, i * 4 + 3, none⟩ (.int .i64 q)).ownsRow base 23 4 (.slice (some ⟨g, 0, none⟩) n cap) n (flatE (L.set i ⟨k, v, d, q⟩)) := by
  have hl : i < L.length := by have := h.1; rw [flatE_len] at this; omega
  rw [← flatE_set L i k v d q hl]
  exact ((((h.stored _ _).1.stored _ _).1).stored _ _).1.stored _ _ |>.1
end Go.Proofs.Yteemfhhhdhddhaa

/-
  What the document's Map answers: a contract over this translation.
-/
import Derived.Test.YteemfhhhdhddhaaRefFo
namespace Go.Proofs.Yteemfhhhdhddhaa
open Go.RowKit Go.Sort Go.Shelf
set_option linter.unusedSectionVars false
variable [Inhabited E] [DecidableEq E]
set_option maxRecDepth 100000 in
set_option maxHeartbeats 4000000 in
theorem refMap_any (ao : Option Addr) (n c : Nat) (es : List E) (w : World) (hE : EntsV w ao n es) (hbig : n ≤ 1000000) :
    Calls Try.prog 31 #[.slice ao n c] w fun e w' => ∃ ao m c, e = .returned (.slice ao m c) ∧ EntsV w' ao m (filt (foldS es)) ∧ Below w.heap.size w w' := by
  have HF : Hid _ := refFold_any ao n c es w hE hbig
  have hlen := foldS_len es
  rw [hE.1] at hlen
  clear hE
  obtain ⟨f, HG⟩ : ∃ f, Hid (foldS es = f) := ⟨_, rfl⟩
  rw [HG.out] at HF hlen ⊢
  go_enter Try.func31, Try.ntmps31
  go_wp2_with fail
  refine Calls.mono HF.out ?_
  rintro e w1 ⟨v1, rfl, hown1, hb1⟩
  obtain ⟨ao1, c1, rfl, hE1⟩ := own_entsV hown1 rfl
  have HB1 : Hid (Below w.heap.size w w1) := hb1
  obtain ⟨l, HL⟩ : ∃ l, Hid (f.length = l) := ⟨_, rfl⟩
  rw [HL.out] at hE1 hlen ⊢
  have HE1 : Hid (EntsV w1 ao1 l f) := hE1
  clear hown1 hb1 HF hE1
  go_wp2
  go_loopw [3, 5] (fun o x wr => ∃ i : Nat, x = .int .i64 i ∧ i ≤ l ∧ Hid (wr.ownsRow w1.heap.size 23 4 o (filt (f.take i)).length (flatE (filt (f.take i)))) ∧ Hid (Below w1.heap.size w1 wr)) (fun _ x _ => l - (intOf x).toNat)
  case atStart => exact ⟨0, rfl, by omega, World.ownsRow_nil _ _ _ _, Below.refl _ _⟩
  case round =>
    obtain ⟨i, rfl, hil, HO, HB⟩ := hrel
    by_cases hlt : i < l
    · have hltz : (i : Int) < (l : Int) := by omega
      have hif : i < f.length := by rw [HL.out]; exact hlt
      obtain ⟨b, off, hao, hEn⟩ := (HE1.out.below HB.out (Nat.le_refl _)).2 (by omega)
      obtain ⟨k0, v0, d0, q0, HX⟩ : ∃ k0 v0 d0 q0, Hid (f[i]! = E.mk k0 v0 d0 q0) := ⟨_, _, _, _, rfl⟩
      obtain ⟨c0, c1', c2, c3⟩ := ents_four hEn i hif HX.out
      subst hao
      have HSN : Hid (filt (f.take (i + 1)) = filt (f.take i) ++ (if d0 then [] else [⟨k0, v0, d0, q0⟩])) := filt_snoc f i hif _ HX.out
      have hfl := filt_len (f.take i)
      rw [List.length_take] at hfl
      obtain ⟨F, HFF⟩ : ∃ F, Hid (filt (f.take i) = F) := ⟨_, rfl⟩
      rw [HFF.out] at HO HSN hfl
      clear hEn
      cases d0 with
      | true =>
        go_wp2
        go_roundw
        case rel =>
          refine ⟨i + 1, by go_num, by omega, ?_, HB⟩
          rw [HSN.out]
          simp only [if_true, List.append_nil]
          exact HO
        case measure => simp [intOf]; omega
      | false =>
        have HOA : Hid ((wr.alloc (Obj.cells #[.string k0, .string v0, .bool false, .int .i64 q0] 23)).ownsRow w1.heap.size 23 4 u3 F.length (flatE F)) := HO.out.alloc _
        have HXA : Hid (EntsV (wr.alloc (Obj.cells #[.string k0, .string v0, .bool false, .int .i64 q0] 23)) (some ⟨wr.heap.size, 0, none⟩) 1 [(⟨k0, v0, false, q0⟩ : E)]) := ent_one wr k0 v0 false q0
        have HBA : Hid (Below w1.heap.size w1 (wr.alloc (Obj.cells #[.string k0, .string v0, .bool false, .int .i64 q0] 23))) := HB.out.alloc HB.out.size _
        go_wp2_with (at_builtin; refine wpList_append_ents _ rfl (.tmp 20) (.tmp 25) rfl w1.heap.size _ F.length F rfl HOA.out HBA.out.size _ 1 1 [(⟨k0, v0, false, q0⟩ : E)] rfl HXA.out (fun h => by cases h) (by omega) ?_)
        intro v6 w6 hown6 hb6
        have HO6 : Hid (w6.ownsRow w1.heap.size 23 4 v6 (F.length + 1) (flatE (F ++ [(⟨k0, v0, false, q0⟩ : E)]))) := hown6
        have HB6 : Hid (Below w1.heap.size w1 w6) := HBA.out.trans hb6
        clear hown6 hb6 HOA HXA c0 c1' c2 c3
        go_wp2
        go_roundw
        case rel =>
          refine ⟨i + 1, by go_num, by omega, ?_, HB6⟩
          rw [HSN.out, List.length_append]
          exact HO6
        case measure => simp [intOf]; omega
    · have hltz : ¬ (i : Int) < (l : Int) := by omega
      have HT : Hid (f.take i = f) := by show _ = _; rw [List.take_of_length_le (by rw [HL.out]; omega)]
      rw [HT.out] at HO
      obtain ⟨ao3, c3, hv, hE3⟩ := own_entsV HO.out rfl
      subst hv
      have HE3 : Hid (EntsV wr ao3 (filt f).length (filt f)) := hE3
      have HZ : Hid (Below w.heap.size w wr) := HB1.out.trans (HB.out.mono HB1.out.size)
      clear hE3 HO
      obtain ⟨m, HM⟩ : ∃ m, Hid ((filt f).length = m) := ⟨_, rfl⟩
      rw [HM.out] at HE3 ⊢
      go_wp2
      go_ret
      exact ⟨_, _, ⟨_, rfl⟩, HE3.out, HZ.out⟩
end Go.Proofs.Yteemfhhhdhddhaa

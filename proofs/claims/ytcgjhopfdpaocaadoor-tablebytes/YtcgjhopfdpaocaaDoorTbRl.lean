/-
  What marlstoneref11.Leaves answers: a contract over this translation.
-/
import Derived.Test.YtcgjhopfdpaocaaDoorTbRf
import Derived.Test.YtcgjhopfdpaocaaDoorPartBJ
import Derived.Test.YtcgjhopfdpaocaaDoorSRefR
import Derived.Test.YtcgjhopfdpaocaaDoorTbI
namespace Go.Proofs.YtcgjhopfdpaocaaDoor
open Go.RowKit Go.Sort Go.Shelf
set_option linter.unusedSectionVars false
variable [Inhabited E] [DecidableEq E]
/-- The strings of entries. -/
def strE (es : List E) : List ByteArray := es.map fun e => ⟨(bytesB e).toArray⟩
theorem strC_snoc (xs : List ByteArray) (x : ByteArray) : Sm.strC (xs ++ [x]) = Sm.strC xs ++ [.string x] := by simp [Sm.strC]
theorem strE_len (es : List E) : (strE es).length = es.length := by simp [strE]
theorem strE_B (es : List E) : (strE es).map Sm.strB = es.map bytesB := by
  unfold strE
  rw [List.map_map]
  refine List.map_congr_left fun e _ => ?_
  exact Sm.strB_mk _
set_option maxRecDepth 100000 in
set_option maxHeartbeats 4000000 in
theorem refLeavesT_any (ao : Option Addr) (n c : Nat) (es : List E) (w : World) (hE : EntsV w ao n es) (hsm : Small es) (hbig : n ≤ 1000) :
    Calls Tryd.prog 18 #[.slice ao n c] w fun e w' => ∃ v, e = .returned v ∧ w'.ownsRow w.heap.size 9 1 v n (Sm.strC (strE es)) ∧ Below w.heap.size w w' := by
  obtain ⟨i0, hi, hz0, hz1, hz2⟩ := info_parts Sm.info9
  have HE : Hid (EntsV w ao n es) := hE
  have HS : Hid (Small es) := hsm
  clear hE hsm
  go_enter Tryd.func18, Tryd.ntmps18
  go_wp2
  go_loopw [3, 4] (fun o x wr => ∃ (i : Nat), x = .int .i64 i ∧ i ≤ n ∧ Hid (wr.ownsRow w.heap.size 9 1 o i (Sm.strC (strE (es.take i)))) ∧ Hid (Below w.heap.size w wr)) (fun _ x _ => n - (intOf x).toNat)
  case atStart => exact ⟨0, rfl, by omega, World.ownsRow_nil _ _ _ _, Below.refl _ _⟩
  case round =>
    obtain ⟨i, rfl, hin, HO, HB⟩ := hrel
    by_cases hlt : i < n
    · have hltz : (i : Int) < (n : Int) := by omega
      obtain ⟨b, off, hao, hEn⟩ := HE.out.2 (by omega)
      have hln := HE.out.1
      have hEr : Ents wr b off es := hEn.below HB.out (Nat.le_refl _)
      obtain ⟨k0, v0, d0, q0, HX⟩ : ∃ k0 v0 d0 q0, Hid (es[i]! = E.mk k0 v0 d0 q0) := ⟨_, _, _, _, rfl⟩
      obtain ⟨c0, c1, c2, c3⟩ := ents_four hEr i (by omega) HX.out
      obtain ⟨s0, s1⟩ := small_at HS.out i (by omega) HX.out
      have HTS : Hid (es.take (i + 1) = es.take i ++ [⟨k0, v0, d0, q0⟩]) := by show _ = _; rw [take_snoc es i (by omega), HX.out]
      subst hao
      obtain ⟨bb, HBB⟩ : ∃ x : ByteArray, Hid ((⟨(bytesB ⟨k0, v0, d0, q0⟩).toArray⟩ : ByteArray) = x) := ⟨_, rfl⟩
      have HCB := fun w => refBytes_any k0 v0 d0 q0 w (by omega) (by omega)
      rw [HBB.out] at HCB
      have HCB : Hid _ := HCB
      clear hEr hEn s0 s1 hln
      go_wp2_with fail
      refine (HCB.out _).mono ?_
      rintro e w2 ⟨rfl, hb2⟩
      have hB2 : Below wr.heap.size wr w2 := hb2
      have HB2 : Hid (Below wr.heap.size wr w2) := hB2
      have HR2 : Hid ((w2.alloc (.cells #[.string bb] 9)).ownsRow w.heap.size 9 1 u3 i (Sm.strC (strE (es.take i)))) := (own_below HO.out hB2 (Nat.le_refl _)).alloc _
      have HSZ : Hid (w.heap.size ≤ w2.heap.size) := Nat.le_trans HB.out.size hB2.size
      clear hb2 hB2 c0 c1 c2 c3 HCB
      go_wp2_with (at_builtin; refine wpList_append_own _ rfl (.tmp 11) (.tmp 17) 42 rfl w.heap.size 9 i0 _ 1 16 Tryd.underlying42 hi hz0 hz1 hz2 rfl (by decide) _ i (Sm.strC (strE (es.take i))) rfl HR2.out ⟨w2.heap.size, 0, none⟩ 1 1 [.string bb] rfl rfl (cell_one_new _ _ _) (by simp [Value.oneCell']) (by unfold maxLen; omega) (by omega) (by simp; have := HSZ.out; omega) ?_)
      intro v6 w6 hown6 hgr6 _
      have hkb : KB w.heap.size w2 w6 := kb_grow (by decide) (own_below HO.out HB2.out (Nat.le_refl _)) HSZ.out hgr6
      have HN : Hid (w6.ownsRow w.heap.size 9 1 v6 (i + 1) (Sm.strC (strE (es.take (i + 1))))) := by
        show World.ownsRow _ _ _ _ _ _ _
        rw [HTS.out]
        unfold strE at hown6 ⊢
        rw [List.map_append, List.map_cons, List.map_nil, HBB.out, strC_snoc]
        exact hown6
      have HB6 : Hid (Below w.heap.size w w6) := (HB.out.trans (HB2.out.mono HB.out.size)).trans hkb.bel
      clear hown6 hgr6 hkb
      go_wp2
      go_roundw
      case rel => exact ⟨i + 1, by go_num, by omega, HN, HB6⟩
      case measure => simp [intOf]; omega
    · have hltz : ¬ (i : Int) < (n : Int) := by omega
      obtain rfl : i = n := by omega
      have HT : Hid (es.take i = es) := List.take_of_length_le (by have := HE.out.1; omega)
      have HO2 := HO.out
      rw [HT.out] at HO2
      have HO3 : Hid _ := HO2
      clear HO2
      go_wp2
      go_ret
      exact ⟨_, rfl, HO3.out, HB.out⟩
end Go.Proofs.YtcgjhopfdpaocaaDoor

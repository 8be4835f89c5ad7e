/-
  What marlstonelaw04's few and shown answer: contracts over this translation.
-/
import Derived.Test.YteemfhhhdhddhaaBlock2
namespace Go.Proofs.Yteemfhhhdhddhaa
open Go.RowKit Go.Sort Go.Shelf
set_option linter.unusedSectionVars false
variable [Inhabited E] [DecidableEq E]
set_option maxRecDepth 100000 in
set_option maxHeartbeats 1000000 in
theorem blockBytes_wrong (ao : Option Addr) (n c : Nat) (es : List E) (w : World) (hE : EntsV w ao n es) (hsm : Small es) (hbig : n ≤ 1000000000000) (hf : fitB es = false) :
    Calls Try.prog 38 #[.slice ao n c] w fun e w' => e = .returned (.tuple #[.slice none 0 0, .int .i64 1]) ∧ Below w.heap.size w w' := by
  have CF := fit_any ao n c es w hE hsm hbig
  rw [hf] at CF
  have HCF : Hid _ := CF
  clear CF hE hsm hf
  go_enter Try.func38, Try.ntmps38
  go_wp2_with fail
  refine Calls.mono HCF.out ?_
  rintro e w1 ⟨rfl, hb1⟩
  have HB : Hid _ := hb1
  clear hb1
  go_wp2
  go_ret2
  exact ⟨rfl, HB.out⟩
set_option maxRecDepth 100000 in
set_option maxHeartbeats 4000000 in
theorem few4_any (ao : Option Addr) (n c most : Nat) (es : List E) (w : World) (hE : EntsV w ao n es) (hsm : Small es) (hbig : n ≤ 9223372036854775807) (hmost : most ≤ 1000) :
    Calls Try.prog 37 #[.slice ao n c, .int .i64 most] w fun e w' => ∃ v', e = .returned v' ∧ w'.ownsRow w.heap.size 23 4 v' (fewS 130 1030 most es).length (flatE (fewS 130 1030 most es)) ∧ Below w.heap.size w w' := by
  obtain ⟨i0, hi, hz0, hz1, hz2⟩ := info_parts info23
  have HE : Hid _ := hE
  clear hE
  go_enter Try.func37, Try.ntmps37
  go_wp2
  go_loopw [5, 6, 7] (fun o x _ wr => ∃ i : Nat, x = .int .i64 i ∧ i ≤ n ∧ i ≤ most ∧ wr.ownsRow w.heap.size 23 4 o (fewS 130 1030 i es).length (flatE (fewS 130 1030 i es)) ∧ Below w.heap.size w wr) (fun _ x _ _ => n - (intOf x).toNat)
  case atStart => exact ⟨0, rfl, by omega, by omega, World.ownsRow_nil _ _ _ _, Below.refl _ _⟩
  case round =>
    obtain ⟨i, rfl, hin, him, hown, hbel⟩ := hrel
    by_cases hlt : i < n
    · have hltz : (i : Int) < (n : Int) := by omega
      by_cases hlm : i < most
      · have hlmz : (i : Int) < (most : Int) := by omega
        obtain ⟨b, off, hao, hEn⟩ := HE.out.2 (by omega)
        have hln := HE.out.1
        have hEr : Ents wr b off es := hEn.below hbel (Nat.le_refl _)
        obtain ⟨k0, v0, d0, q0, HX⟩ : ∃ k0 v0 d0 q0, Hid (es[i]! = E.mk k0 v0 d0 q0) := ⟨_, _, _, _, rfl⟩
        obtain ⟨c0, c1, c2, c3⟩ := ents_four hEr i (by omega) HX.out
        obtain ⟨s0, s1⟩ := small_at hsm i (by omega) HX.out
        subst hao
        obtain ⟨m1, hm1⟩ : ∃ m, m = min k0.size 130 := ⟨_, rfl⟩
        obtain ⟨m2, hm2⟩ : ∃ m, m = min v0.size 1030 := ⟨_, rfl⟩
        have hz3 : min ((k0.size : Nat) : Int) 130 = (m1 : Int) := by omega
        have hz4 : min ((v0.size : Nat) : Int) 1030 = (m2 : Int) := by omega
        have hl1 : (m1 : Int) ≤ (k0.size : Int) := by omega
        have hl2 : (m2 : Int) ≤ (v0.size : Int) := by omega
        have HY : Hid (cutE 130 1030 ⟨k0, v0, d0, q0⟩ = ⟨k0.extract 0 m1, v0.extract 0 m2, d0, q0⟩) := by show _ = _; rw [cutE, hm1, hm2]
        clear hm1 hm2
        obtain ⟨done, HD⟩ : ∃ done, Hid (fewS 130 1030 i es = done) := ⟨_, rfl⟩
        rw [HD.out] at hown
        have hlenD : done.length ≤ 1000 := by rw [← HD.out, fewS_len]; omega
        have HBO : Hid _ := And.intro hown hbel
        clear hEr hEn hown hbel hln
        obtain ⟨w5, HW5⟩ : ∃ w5, Hid (w5 = wr.alloc (Obj.cells #[.string (k0.extract 0 m1), .string (v0.extract 0 m2), .bool d0, .int .i64 q0] 23)) := ⟨_, rfl⟩
        have hb5 : Below wr.heap.size wr w5 := by rw [HW5.out]; exact bel_alloc _ _
        have hbel5 : Below w.heap.size w w5 := HBO.out.2.trans (hb5.mono HBO.out.2.size)
        have HOA : Hid ((w5.alloc (Obj.cells #[.string (k0.extract 0 m1), .string (v0.extract 0 m2), .bool d0, .int .i64 q0] 23)).ownsRow w.heap.size 23 4 u5 done.length (flatE done)) := (own_below HBO.out.1 hb5 (Nat.le_refl _)).alloc _
        have HCA : Hid (∀ j u, (encE (E.mk (k0.extract 0 m1) (v0.extract 0 m2) d0 q0))[j]? = some u → (w5.alloc (Obj.cells #[.string (k0.extract 0 m1), .string (v0.extract 0 m2), .bool d0, .int .i64 q0] 23)).cell? ((⟨w5.heap.size, 0, none⟩ : Addr).add j) = some u) := ent_laid w5 _ _ d0 q0
        have HBA : Hid (w.heap.size ≤ (w5.alloc (Obj.cells #[.string (k0.extract 0 m1), .string (v0.extract 0 m2), .bool d0, .int .i64 q0] 23)).heap.size) := by show _ ≤ _; have := hbel5.size; simp; omega
        have HB5 : Hid _ := hbel5
        clear hb5 hbel5
        rw [HW5.out] at HOA HCA HBA
        have hsz5 : (wr.alloc (Obj.cells #[.string (k0.extract 0 m1), .string (v0.extract 0 m2), .bool d0, .int .i64 q0] 23)).heap.size = wr.heap.size + 1 := by simp
        rw [hsz5] at HCA
        clear hsz5
        go_wp2_with (at_builtin; refine wpList_append_own _ rfl (.tmp 39) (.tmp 41) 35 rfl w.heap.size 23 i0 _ 4 48 Try.underlying35 hi hz0 hz1 hz2 rfl (by decide) _ done.length (flatE done) rfl HOA.out ⟨wr.heap.size + 1, 0, none⟩ 1 1 (encE (E.mk (k0.extract 0 m1) (v0.extract 0 m2) d0 q0)) rfl rfl HCA.out (encE_one _) (by unfold maxLen; omega) (by omega) HBA.out ?_)
        intro v' w6 hown6 hgr6 _
        have hbel6 : Below w.heap.size w w6 := (HB5.out.alloc HB5.out.size _).trans (by rw [HW5.out]; exact (Below.refl _ _).grown hgr6 HBA.out (fun k hk => (HOA.out.lt k hk).1))
        clear hgr6 HOA HCA
        have HN : Hid _ := And.intro hown6 hbel6
        clear hown6 hbel6
        go_wp2
        go_roundw
        case rel =>
          refine ⟨i + 1, by go_num, by omega, by omega, ?_, HN.out.2⟩
          rw [fewS_snoc _ _ _ _ (by rw [HE.out.1]; omega), HD.out, HX.out, HY.out, flatE_append, List.length_append]
          simpa [flatE] using HN.out.1
        case measure => simp [intOf]; omega
      · have hlmz : ¬ (i : Int) < (most : Int) := by omega
        have hi2 : i = most := by omega
        have HN : Hid _ := And.intro hown hbel
        clear hown hbel
        go_wp2
        go_ret
        exact ⟨_, rfl, by rw [← hi2]; exact HN.out.1, HN.out.2⟩
    · have hltz : ¬ (i : Int) < (n : Int) := by omega
      have HT : Hid (fewS 130 1030 most es = fewS 130 1030 i es) := fewS_all _ _ _ _ (by rw [HE.out.1]; omega) _ (by rw [HE.out.1]; omega)
      have HN : Hid _ := And.intro hown hbel
      clear hown hbel
      go_wp2
      go_ret
      exact ⟨_, rfl, by rw [HT.out]; exact HN.out.1, HN.out.2⟩
def eA1 : E := ⟨⟨#[97]⟩, ⟨#[118]⟩, false, 1⟩
def eAB : E := ⟨⟨#[97, 98]⟩, ⟨#[]⟩, true, 2⟩
theorem block_shown : blockB [eA1, eAB] = [0, 1, 97, 0, 1, 1, 118, 1, 1, 98, 1, 2, 0, 0, 0, 0, 0, 0, 0, 1] := by kernel_rfl
theorem fit_shown : fitB [eA1, eAB] = true := by decide
theorem small_shown : Small [eA1, eAB] := by
  intro e he
  simp only [List.mem_cons, List.not_mem_nil, or_false] at he
  rcases he with rfl | rfl <;> exact ⟨by decide, by decide⟩
theorem ents_two (w : World) : Ents (w.alloc (Obj.cells (flatE [eA1, eAB]).toArray 23)) w.heap.size 0 [eA1, eAB] := fun j u hu => by
  have hb : (w.alloc (Obj.cells (flatE [eA1, eAB]).toArray 23)).heap[w.heap.size]? = some (Obj.cells (flatE [eA1, eAB]).toArray 23) := by rw [heap_alloc_get, if_pos rfl]
  rw [Nat.zero_add, cell_of_row _ _ _ _ _ _ hb]
  simpa using hu
set_option maxRecDepth 100000 in
set_option maxHeartbeats 4000000 in
theorem shown4_any (w : World) : Calls Try.prog 36 #[] w fun e w' => e = .returned (.bool true) ∧ Below w.heap.size w w' := by
  have CB := fun w b hE => blockBytes_some (some ⟨b, 0, none⟩) 2 2 [eA1, eAB] w ⟨rfl, fun _ => ⟨b, 0, rfl, hE⟩⟩ small_shown fit_shown
  rw [block_shown] at CB
  have HCB : Hid _ := CB
  have HCW : Hid _ := fun w => blockBytes_wrong none 0 0 [] w ⟨rfl, fun h => absurd h (by omega)⟩ (fun _ he => by cases he) (by omega) (by decide)
  clear CB
  go_enter Try.func36, Try.ntmps36
  go_wp2_with fail
  refine (HCB.out _ _ (ents_two w)).mono ?_
  rintro e w1 ⟨v1, rfl, hown1, hbel1⟩
  obtain ⟨g1, c1, rfl, _, _, _, _⟩ := own_shape hown1 (by decide)
  have hb1 := own_row_bytes hown1
  clear hown1
  go_wp2_with fail
  refine (HCW.out _).mono ?_
  rintro e w2 ⟨rfl, hbel2⟩
  have hb2 := bytes_kept hb1 hbel2 (Nat.le_refl _)
  have hcv : (convert 24 9 (.slice (some ⟨g1, 0, none⟩) 20 c1)).run Try.prog w2 = .ok (.string ⟨#[0, 1, 97, 0, 1, 1, 118, 1, 1, 98, 1, 2, 0, 0, 0, 0, 0, 0, 0, 1]⟩) w2 := str_bytes c1 hb2
  have HB : Hid (Below w.heap.size w w2) := ((bel_alloc w _).trans (hbel1.mono (by simp))).trans (hbel2.mono (by have := hbel1.size; simp at this; omega))
  clear hbel1 hbel2 hb1 hb2
  go_wp2
  go_ret
  exact ⟨rfl, HB.out⟩
end Go.Proofs.Yteemfhhhdhddhaa

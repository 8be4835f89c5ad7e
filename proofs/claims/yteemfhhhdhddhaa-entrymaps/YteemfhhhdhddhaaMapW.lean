/-
  What entry.Map answers: a contract over this translation.
-/
import Derived.Test.YteemfhhhdhddhaaMapD
namespace Go.Proofs.Yteemfhhhdhddhaa
open Go.RowKit Go.Sort Go.Shelf
set_option linter.unusedSectionVars false
variable [Inhabited E] [DecidableEq E]
set_option maxRecDepth 100000 in
theorem delete_nil (w : World) :
    Calls Try.prog 55 #[.slice none 0 0, .func (.func 56) #[] #[]] w fun e w' => e = .returned (.slice none 0 0) ∧ Below w.heap.size w w' := by
  have HCI : Hid _ := index_any none 0 0 [] w (entsV_nil w none) (by omega)
  rw [if_neg (by omega)] at HCI
  go_enter Try.func55, Try.ntmps55
  go_wp2_with fail
  refine Calls.mono HCI.out ?_
  rintro e w1 ⟨rfl, hb1⟩
  have HB1 : Hid (Below w.heap.size w w1) := hb1
  clear hb1
  go_wp2
  go_ret
  exact ⟨rfl, HB1.out⟩
set_option maxRecDepth 100000 in
theorem map_any (ao : Option Addr) (n c : Nat) (es : List E) (w : World) (hE : EntsV w ao n es) (hbig : n ≤ 1000000000000) :
    Calls Try.prog 30 #[.slice ao n c] w fun e w' => ∃ ao m c, e = .returned (.slice ao m c) ∧ EntsV w' ao m (filt (foldS es)) ∧ Below w.heap.size w w' := by
  have HF : Hid _ := fold_any ao n c es w hE hbig
  have hlen := foldS_len es
  rw [hE.1] at hlen
  clear hE
  obtain ⟨f, HG⟩ : ∃ f, Hid (foldS es = f) := ⟨_, rfl⟩
  rw [HG.out] at HF hlen ⊢
  go_enter Try.func30, Try.ntmps30
  go_wp2_with fail
  refine Calls.mono HF.out ?_
  rintro e w1 ⟨v1, rfl, hown1, hb1⟩
  rcases hown1.2 with ⟨hv, h0⟩ | ⟨g, cap, cur, hv, _⟩
  · have hf0 : f = [] := List.eq_nil_of_length_eq_zero h0
    subst hv
    subst hf0
    clear hown1 HF
    go_wp2_with fail
    refine (delete_nil w1).mono ?_
    rintro e w2 ⟨rfl, hb2⟩
    have HB2 : Hid (Below w.heap.size w w2) := hb1.trans (hb2.mono hb1.size)
    clear hb1 hb2
    go_wp2
    go_ret
    exact ⟨_, _, _, rfl, entsV_nil _ _, HB2.out⟩
  · subst hv
    have HD : Hid _ := delete_any w.heap.size g f.length cap f w1 hown1 (by omega)
    have HB1 : Hid (Below w.heap.size w w1) := hb1
    clear hown1 HF hb1
    go_wp2_with fail
    refine Calls.mono HD.out ?_
    rintro e w2 ⟨ao2, m2, c2, rfl, hE2, hb2⟩
    have HE2 : Hid (EntsV w2 ao2 m2 (filt f)) := hE2
    have HB2 : Hid (Below w.heap.size w w2) := HB1.out.trans hb2
    clear hE2 hb2
    go_wp2
    go_ret
    exact ⟨_, _, _, rfl, HE2.out, HB2.out⟩
end Go.Proofs.Yteemfhhhdhddhaa

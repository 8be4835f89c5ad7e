/-
  What slices.Concat of two rows of numbers answers: a contract over this translation.
-/
import Derived.Test.YtnkbhojflcckmaaPkI
import Derived.Test.YtnkbhojflcckmaaGrw
namespace Go.Proofs.Ytnkbhojflcckmaa
open Go.RowKit
set_option linter.unusedSectionVars false
theorem wpList_append_ints {ops : Array Oper} {rest : List Oper} {o : Oper} {a : Act} {Q : Exit → Act → World → Prop} (w : World)
    (hg : o.guard = none) (s x : Operand) (hop : o.op = Op.call { callee := Callee.builtin Builtin.append, args := #[s, x], argTypes := #[24, 24] })
    (base : Nat) (v : Value) (n : Nat) (xs : List Nat) (hs : a.eval s = v) (hown : w.ownsRow base 3 1 v n (cellsI xs)) (hbase : base ≤ w.heap.size)
    (ao : Option Addr) (m c : Nat) (ys : List Nat) (hx : a.eval x = .slice ao m c) (hE : IntsV w ao m ys) (h0 : ao = none → c = 0)
    (hb : n + m ≤ 100000000000)
    (hK : ∀ v' w', w'.ownsRow base 3 1 v' (xs ++ ys).length (cellsI (xs ++ ys)) → Below base w w' → wpList Try.prog ops Q rest (a.put o.dst v') w') :
    wpList Try.prog ops Q (o :: rest) a w := by
  obtain ⟨i0, hi, hz0, hz1, hz2⟩ := info_parts info3
  have hn : n = xs.length := by have := hown.1; rw [cellsI_len] at this; omega
  have hml := hE.1
  cases ao with
  | none =>
    have hm : m = 0 := by
      by_cases hp : 0 < m
      · obtain ⟨b, off, h1, _⟩ := hE.2 hp; cases h1
      · omega
    obtain rfl := h0 rfl
    subst hm
    have hys : ys = [] := List.eq_nil_of_length_eq_zero hml
    subst hys
    refine wpList_append_own_none hg s x 24 hop base 3 i0 1 Try.underlying24 hi v n (cellsI xs) hs hown hx ?_
    exact hK v w (by rw [List.append_nil, ← hn]; exact hown) (Below.refl _ _)
  | some ad =>
    refine wpList_append_own w hg s x 24 hop base 3 i0 (.int .i64 0) 1 8 Try.underlying24 hi hz0 hz1 hz2 rfl (by decide) v n (cellsI xs) hs hown ad m c (cellsI ys) hx (by rw [cellsI_len]; omega) ?_ (cellsI_one ys) (by unfold maxLen; omega) (by omega) hbase ?_
    · intro j u hu
      have hj : j < ys.length := by
        have := (List.getElem?_eq_some_iff.1 hu).1
        rwa [cellsI_len] at this
      obtain ⟨b, off, h1, h2⟩ := hE.2 (by omega)
      cases h1
      rw [Addr.add_lit]
      have hu2 : u = .int .i64 ((ys.getD j 0 : Nat) : Int) := by
        simp only [cellsI, List.getElem?_map] at hu
        rw [List.getD_eq_getElem?_getD]
        rw [List.getElem?_eq_getElem hj] at hu ⊢
        simpa using hu.symm
      rw [hu2]
      exact h2 j (by omega)
    · intro v' w' h1 h2 _
      refine hK v' w' ?_ ((Below.refl _ _).grown h2 hbase (fun k hk => (hown.lt k hk).1))
      rw [List.length_append, hml, ← hn, cellsI_append]
      exact h1
/-- slices.Grow(nil, n). -/
theorem grow_any (n : Nat) (w : World) (hn : n ≤ 1000000) :
    Calls Try.prog 32 #[.slice none 0 0, .int .i64 n] w fun e w' => ∃ v, e = .returned v ∧ w'.ownsRow w.heap.size 3 1 v 0 (cellsI []) ∧ Below w.heap.size w w' := by
  by_cases h0 : n = 0
  · subst h0
    refine (Any8.slices_Grow_room Try.growI none 0 0 0 w (by omega) (by omega) (by omega) (by omega)).mono ?_
    rintro e w' ⟨rfl, rfl⟩
    exact ⟨_, rfl, World.ownsRow_nil _ _ _ _, Below.refl _ _⟩
  · obtain ⟨i0, hi, hz0, hz1, hz2⟩ := info_parts info3
    refine (Any8.slices_Grow_grow Try.growI i0 (.int .i64 0) hi hz0 (by rw [hz1]; decide) none 0 0 n [] w (by omega) (by omega) (by rw [hz2]; omega) (by omega) (by simp) (fun _ => rfl) (fun a h => by cases h)).mono ?_
    rintro e w' ⟨rfl, rfl⟩
    have hcap : 0 + n ≤ grownCap w (0 + n) 0 3 := grownCap_ge w (0 + n) 0 3
    refine ⟨_, rfl, World.ownsRow_made w.drew _ _ (Nat.le_refl _) (grownCap_le_maxLen w (0 + n) 0 3 (by unfold maxLen; omega)) ?_, ?_⟩
    · simp only [Array.size_append, size_zeroCells, List.size_toArray, List.length_nil]
      show 0 + (0 + n - 0) * 1 + _ * 1 = _ * 1
      show 0 + (0 + n - 0) * 1 + (grownCap w (0 + n) 0 3 - (0 + n)) * 1 = grownCap w (0 + n) 0 3 * 1
      omega
    · exact (Below.refl w.heap.size w).trans ((bel_drewN (Below.refl _ _) 1).trans (show Below w.heap.size (w.drewN 1) _ from bel_alloc (w.drewN 1) _))
set_option maxRecDepth 100000 in
set_option maxHeartbeats 8000000 in
theorem concat_any (g : Nat) (a1 : Option Addr) (n1 c1 : Nat) (l1 : List Nat) (a2 : Option Addr) (n2 c2 : Nat) (l2 : List Nat) (w : World)
    (hc0 : w.cell? ⟨g, 0, none⟩ = some (.slice a1 n1 c1)) (hc1 : w.cell? ⟨g, 1, none⟩ = some (.slice a2 n2 c2)) (h1 : IntsV w a1 n1 l1) (h2 : IntsV w a2 n2 l2)
    (z1 : a1 = none → c1 = 0) (z2 : a2 = none → c2 = 0) (hn1 : n1 ≤ 1000) (hn2 : n2 ≤ 1000) :
    Calls Try.prog 23 #[.slice (some ⟨g, 0, none⟩) 2 2] w fun e w' => ∃ v, e = .returned v ∧ w'.ownsRow w.heap.size 3 1 v (l1 ++ l2).length (cellsI (l1 ++ l2)) ∧ Below w.heap.size w w' := by
  have H1 : Hid _ := h1
  have H2 : Hid _ := h2
  have HC0 : Hid (∀ W, Below w.heap.size w W → W.cell? ⟨g, 0, none⟩ = some (.slice a1 n1 c1)) := fun W hW => by rw [← hc0]; exact World.cell?_of_block (hW.block g (World.block_lt_of_cell? w _ hc0))
  have HC1 : Hid (∀ W, Below w.heap.size w W → W.cell? ⟨g, 1, none⟩ = some (.slice a2 n2 c2)) := fun W hW => by rw [← hc1]; exact World.cell?_of_block (hW.block g (World.block_lt_of_cell? w _ hc1))
  have HZ1 : Hid _ := z1
  have HZ2 : Hid _ := z2
  have HL1 : Hid _ := h1.1
  have HL2 : Hid _ := h2.1
  clear h1 h2 hc0 hc1 z1 z2
  go_enter Try.func23, Try.ntmps23
  go_wp2
  go_loopw [3, 5, 11] (fun z _ x wr => ∃ i : Nat, x = .int .i64 i ∧ i ≤ 2 ∧ z = .int .i64 ((if i = 0 then 0 else if i = 1 then n1 else n1 + n2 : Nat) : Int) ∧ wr = w) (fun _ _ x _ => 2 - (intOf x).toNat)
  case atStart => exact ⟨0, rfl, by omega, rfl, rfl⟩
  case round =>
    obtain ⟨i, rfl, hin, rfl, rfl⟩ := hrel
    have e0 := HC0.out _ (Below.refl _ _)
    have e1 := HC1.out _ (Below.refl _ _)
    by_cases h0 : i = 0
    · subst h0
      have hnz : ¬ ((n1 : Int) < 0) := by omega
      go_wp2
      go_roundw
      case rel => exact ⟨1, by go_num, by omega, by go_num, trivial⟩
      case measure => simp [intOf]
    · by_cases h1 : i = 1
      · subst h1
        have hnz : ¬ (((n1 + n2 : Nat) : Int) < 0) := by omega
        go_wp2
        go_roundw
        case rel => exact ⟨2, by go_num, by omega, by go_num, trivial⟩
        case measure => simp [intOf]
      · obtain rfl : i = 2 := by omega
        obtain ⟨wo, hwo⟩ : ∃ W, W = wr := ⟨_, rfl⟩
        subst hwo
        have HG : Hid _ := grow_any (n1 + n2) wo (by omega)
        clear e0 e1
        go_wp2_with fail
        refine Calls.mono HG.out ?_
        rintro e w2 ⟨v, rfl, hown, hb2⟩
        have HO2 : Hid _ := And.intro hown hb2
        clear hown hb2
        go_wp2
        go_loopw [6, 8, 27] (fun z _ x wq => ∃ i : Nat, x = .int .i64 i ∧ i ≤ 2 ∧ wq.ownsRow wo.heap.size 3 1 z ((if i = 0 then [] else if i = 1 then l1 else l1 ++ l2 : List Nat)).length (cellsI (if i = 0 then [] else if i = 1 then l1 else l1 ++ l2)) ∧ Below wo.heap.size wo wq) (fun _ _ x _ => 2 - (intOf x).toNat)
        case atStart => exact ⟨0, rfl, by omega, HO2.out.1, HO2.out.2⟩
        case round =>
          obtain ⟨i, rfl, hin, hown, hbel⟩ := hrel
          have HO : Hid _ := And.intro hown hbel
          have e0 := HC0.out _ hbel
          have e1 := HC1.out _ hbel
          have HWS : Hid (wo.heap.size ≤ wr.heap.size) := hbel.size
          have HV1 : Hid (IntsV wr a1 n1 l1) := IntsV.keep H1.out hbel
          have HV2 : Hid (IntsV wr a2 n2 l2) := IntsV.keep H2.out hbel
          clear hown hbel
          by_cases h0 : i = 0
          · subst h0
            clear e1
            go_wp2_with (at_builtin; refine wpList_append_ints _ rfl (.tmp 31) (.tmp 32) rfl wo.heap.size _ 0 [] rfl HO.out.1 HWS.out a1 n1 c1 l1 rfl HV1.out HZ1.out (by omega) ?_)
            intro v6 w6 hown6 hb6
            have HN : Hid _ := And.intro hown6 (HO.out.2.trans hb6)
            clear hown6 hb6
            go_wp2
            go_roundw
            case rel => exact ⟨1, by go_num, by omega, HN.out.1, HN.out.2⟩
            case measure => simp [intOf]
          · by_cases h1 : i = 1
            · subst h1
              clear e0
              have HO1 : Hid (wr.ownsRow wo.heap.size 3 1 u6 l1.length (cellsI l1)) := HO.out.1
              go_wp2_with (at_builtin; refine wpList_append_ints _ rfl (.tmp 31) (.tmp 32) rfl wo.heap.size _ l1.length l1 rfl HO1.out HWS.out a2 n2 c2 l2 rfl HV2.out HZ2.out (by have := HL1.out; omega) ?_)
              intro v6 w6 hown6 hb6
              have HN : Hid _ := And.intro hown6 (HO.out.2.trans hb6)
              clear hown6 hb6
              go_wp2
              go_roundw
              case rel => exact ⟨2, by go_num, by omega, by simpa using HN.out.1, HN.out.2⟩
              case measure => simp [intOf]
            · obtain rfl : i = 2 := by omega
              clear e0 e1
              go_wp2
              go_ret
              exact ⟨u6, rfl, HO.out.1, HO.out.2⟩
end Go.Proofs.Ytnkbhojflcckmaa

/-
  What the document's Find and Fold answer: contracts over this translation.
-/
import Derived.Test.YteggjenncmjfmaaMapE
import Derived.Deep.DeepCutAuto
namespace Go.Proofs.Yteggjenncmjfmaa
open Go.RowKit Go.Sort Go.Shelf
set_option linter.unusedSectionVars false
variable [Inhabited E] [DecidableEq E]
set_option maxRecDepth 100000 in
set_option maxHeartbeats 2000000 in
theorem refFind_any (ao : Option Addr) (n c : Nat) (es : List E) (key : ByteArray) (w : World) (hE : EntsV w ao n es) (hbig : n ≤ 1000000000000) :
    Calls Try.prog 15 #[.slice ao n c, .string key] w fun e w' => e = .returned (.tuple #[.int .i64 (belowN key es : Nat), .bool (isIn key es)]) ∧ Below w.heap.size w w' := by
  have HE : Hid (EntsV w ao n es) := hE
  clear hE
  go_enter Try.func15, Try.ntmps15
  go_wp2
  go_loopw [6, 7, 8] (fun s6 s7 x wr => ∃ i : Nat, x = .int .i64 i ∧ i ≤ n ∧ s6 = .int .i64 (belowN key (es.take i) : Nat) ∧ s7 = .bool (isIn key (es.take i)) ∧ Below w.heap.size w wr) (fun _ _ x _ => n - (intOf x).toNat)
  case atStart => exact ⟨0, rfl, by omega, rfl, rfl, Below.refl _ _⟩
  case round =>
    obtain ⟨i, rfl, hin, rfl, rfl, hbel⟩ := hrel
    by_cases hlt : i < n
    · have hltz : (i : Int) < (n : Int) := by omega
      obtain ⟨b, off, hao, hEn⟩ := HE.out.2 (by omega)
      have hln := HE.out.1
      have hEr : Ents wr b off es := hEn.below hbel (Nat.le_refl _)
      obtain ⟨k0, v0, d0, q0, HX⟩ : ∃ k0 v0 d0 q0, Hid (es[i]! = E.mk k0 v0 d0 q0) := ⟨_, _, _, _, rfl⟩
      obtain ⟨c0, c1, c2, c3⟩ := ents_four hEr i (by omega) HX.out
      subst hao
      obtain ⟨m, HM⟩ : ∃ m, Hid (belowN key (es.take i) = m) := ⟨_, rfl⟩
      obtain ⟨y, HY⟩ : ∃ y, Hid (isIn key (es.take i) = y) := ⟨_, rfl⟩
      rw [HM.out, HY.out]
      have hm : m ≤ n := by rw [← HM.out]; have := belowN_le key (es.take i); rw [List.length_take] at this; omega
      have HM2 : Hid (belowN key (es.take (i + 1)) = m + if cmpS k0 key < 0 then 1 else 0) := by
        show _ = _
        rw [take_snoc es i (by omega), HX.out, ← HM.out]
        unfold belowN
        rw [List.countP_append]
        by_cases h : cmpS k0 key < 0 <;> simp [h]
      have HY2 : Hid (isIn key (es.take (i + 1)) = (y || decide (k0 = key))) := by
        show _ = _
        rw [take_snoc es i (by omega), HX.out, ← HY.out]
        unfold isIn
        rw [List.any_append]
        simp
      have HB : Hid _ := hbel
      clear hEr hEn hbel hln
      have e1 := less_cmpS k0 key
      have e2 := eq_cmpS k0 key
      by_cases h1 : cmpS k0 key < 0
      · have e1' : Op.bytesLess k0.toList key.toList = true := by rw [e1]; exact decide_eq_true h1
        have h2 : ¬ k0 = key := fun h => by rw [h] at h1; have := cmpS_ord.self key; omega
        have e2' : (k0.toList == key.toList) = false := by rw [e2]; exact decide_eq_false h2
        clear e1 e2
        cases y with
        | true =>
          go_wp2
          go_roundw
          case rel => exact ⟨i + 1, by go_num, by omega, by rw [HM2.out, if_pos h1]; go_num, by rw [HY2.out, decide_eq_false h2, Bool.or_false], HB.out⟩
          case measure => simp [intOf]; omega
        | false =>
          go_wp2
          go_roundw
          case rel => exact ⟨i + 1, by go_num, by omega, by rw [HM2.out, if_pos h1]; go_num, by rw [HY2.out, decide_eq_false h2, Bool.or_false], HB.out⟩
          case measure => simp [intOf]; omega
      · have e1' : Op.bytesLess k0.toList key.toList = false := by rw [e1]; exact decide_eq_false h1
        by_cases h2 : k0 = key
        · have e2' : (k0.toList == key.toList) = true := by rw [e2]; exact decide_eq_true h2
          have H2 : Hid _ := h2
          clear e1 e2 h2
          cases y with
          | true =>
            go_wp2
            go_roundw
            case rel => exact ⟨i + 1, by go_num, by omega, by rw [HM2.out, if_neg h1]; rfl, by rw [HY2.out, decide_eq_true H2.out, Bool.or_true], HB.out⟩
            case measure => simp [intOf]; omega
          | false =>
            go_wp2
            go_roundw
            case rel => exact ⟨i + 1, by go_num, by omega, by rw [HM2.out, if_neg h1]; rfl, by rw [HY2.out, decide_eq_true H2.out, Bool.or_true], HB.out⟩
            case measure => simp [intOf]; omega
        · have e2' : (k0.toList == key.toList) = false := by rw [e2]; exact decide_eq_false h2
          clear e1 e2
          cases y with
          | true =>
            go_wp2
            go_roundw
            case rel => exact ⟨i + 1, by go_num, by omega, by rw [HM2.out, if_neg h1]; rfl, by rw [HY2.out, decide_eq_false h2, Bool.or_false], HB.out⟩
            case measure => simp [intOf]; omega
          | false =>
            go_wp2
            go_roundw
            case rel => exact ⟨i + 1, by go_num, by omega, by rw [HM2.out, if_neg h1]; rfl, by rw [HY2.out, decide_eq_false h2, Bool.or_false], HB.out⟩
            case measure => simp [intOf]; omega
    · have hltz : ¬ (i : Int) < (n : Int) := by omega
      have HT : Hid (es.take i = es) := by show _ = _; rw [List.take_of_length_le (by rw [HE.out.1]; omega)]
      rw [HT.out]
      obtain ⟨m, HM⟩ : ∃ m, Hid (belowN key es = m) := ⟨_, rfl⟩
      obtain ⟨y, HY⟩ : ∃ y, Hid (isIn key es = y) := ⟨_, rfl⟩
      rw [HM.out, HY.out]
      go_wp2
      go_ret2
      exact ⟨by rw [HM.out, HY.out]; rfl, hbel⟩
theorem insS_place (e : E) : ∀ {l : List E}, Ks l → insS l e = if isIn e.key l then (if l[belowN e.key l]!.seq ≤ e.seq then l.set (belowN e.key l) e else l) else l.take (belowN e.key l) ++ [e] ++ l.drop (belowN e.key l)
  | [], _ => by simp [insS, isIn, belowN]
  | x :: r, h => by
    have hr := (List.pairwise_cons.1 h).2
    have hx := (List.pairwise_cons.1 h).1
    have ih := insS_place e hr
    rw [insS, belowN_cons]
    by_cases c : cmpS x.key e.key < 0
    · have hne : ¬ x.key = e.key := fun hh => by rw [hh] at c; have := cmpS_ord.self e.key; omega
      have hin : isIn e.key (x :: r) = isIn e.key r := by simp [isIn, hne]
      rw [if_pos c, if_pos c, hin, ih, Nat.add_comm 1]
      cases isIn e.key r with
      | true =>
        simp only [if_true]
        have hg : (x :: r)[belowN e.key r + 1]! = r[belowN e.key r]! := by simp
        rw [hg]
        by_cases hs : r[belowN e.key r]!.seq ≤ e.seq
        · rw [if_pos hs, if_pos hs]; rfl
        · rw [if_neg hs, if_neg hs]
      | false => simp
    · have hz : belowN e.key r = 0 := belowN_zero fun y hy hc => c (by
        have h1 := hx y hy
        exact cmpS_ord.ltle h1 (by omega))
      rw [if_neg c, if_neg c, hz]
      by_cases he : x.key = e.key
      · have hin : isIn e.key (x :: r) = true := by simp [isIn, he]
        rw [if_pos he, hin]
        simp
      · have hin : isIn e.key (x :: r) = false := by
          simp only [isIn, List.any_cons, Bool.or_eq_false_iff, decide_eq_false_iff_not, List.any_eq_false, decide_eq_true_eq]
          exact ⟨he, fun y hy hc => c (by rw [← hc]; exact hx y hy)⟩
        rw [if_neg he, hin]
        simp
theorem foldS_snoc (l : List E) (i : Nat) (hi : i < l.length) : foldS (l.take (i + 1)) = insS (foldS (l.take i)) l[i]! := by
  rw [take_snoc l i hi]
  unfold foldS
  rw [List.foldl_append]
  rfl
end Go.Proofs.Yteggjenncmjfmaa

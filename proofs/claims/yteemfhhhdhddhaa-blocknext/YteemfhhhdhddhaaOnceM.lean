/-
  There is one way to write an entry: plain mathematics, no program.
-/
import Derived.Test.YteemfhhhdhddhaaRow
namespace Go.Proofs.Yteemfhhhdhddhaa
open Go.RowKit
set_option linter.unusedSectionVars false
variable [Inhabited E] [DecidableEq E]
theorem take_add (l : List UInt8) (a b : Nat) : l.take (a + b) = l.take a ++ (l.drop a).take b := by
  rw [List.take_add]
theorem textOf_once (bs s : List UInt8) (n : Nat) (h : textOf bs = (s, n, true)) : 1 ≤ n ∧ n ≤ bs.length ∧ bs.take n = textB s ∧ s.length < 18446744073709551616 := by
  unfold textOf at h
  split at h
  · cases h
  · rename_i hc
    obtain ⟨⟨v, k, ok⟩, hg⟩ : ∃ x, getB bs = x := ⟨_, rfl⟩
    rw [hg] at h hc
    simp only [Prod.mk.injEq, and_true] at h
    have hok : ok = true := by cases ok with | true => rfl | false => exact absurd (.inl rfl) hc
    subst hok
    obtain ⟨h1, h2, h3, h4, _⟩ := getB_once bs v k hg
    obtain ⟨hs, hn⟩ := h
    have hlen : v ≤ bs.length - k := by
      have : ¬ (bs.length - k < v) := fun h => hc (.inr h)
      omega
    have hsl : s.length = v := by rw [← hs, List.length_take, List.length_drop]; omega
    refine ⟨by omega, by omega, ?_, by omega⟩
    rw [← hn, take_add, h4, hs, textB, hsl]
theorem wrap64_right {v : Nat} (hv : v < 18446744073709551616) (h1 : 1 ≤ wrap64 (v : Int)) (h2 : wrap64 (v : Int) ≤ 1099511627776) : wrap64 (v : Int) = v ∧ (wrap64 (v : Int)).toNat = v := by
  unfold wrap64 at *
  omega
theorem num0 {x : Nat} (h : ¬ 1 < x) (h2 : ¬ x = 1) : x = 0 := by omega
theorem num1 {k m l : Nat} (h1 : 1 ≤ k) (h2 : k ≤ l) (h3 : m ≤ l - k) : 1 ≤ 1 + k + m ∧ 1 + k + m ≤ l + 1 := by omega
theorem num2 {k m n l : Nat} (h1 : 1 ≤ k) (h2 : k ≤ l) (h3 : m ≤ l - k) (h4 : n ≤ l - (k + m)) : 1 ≤ 1 + k + m + n ∧ 1 + k + m + n ≤ l + 1 := by omega
theorem num3 (k m n : Nat) : 1 + k + m + n = (k + m + n) + 1 := by omega
theorem parse_once {bs : List UInt8} {e : E} {n : Nat} (h : parseOf bs = some (e, n)) : rightB e = true ∧ 1 ≤ n ∧ n ≤ bs.length ∧ bs.take n = bytesB e := by
  unfold parseOf at h
  split at h
  · rename_i x m hr
    split at h
    · rename_i hrt
      cases h
      cases bs with
      | nil => simp [readOf] at hr
      | cons t r =>
        simp only [readOf] at hr
        split at hr
        · cases hr
        · rename_i ht
          obtain ⟨⟨v, k, ok⟩, hg⟩ : ∃ x, getB r = x := ⟨_, rfl⟩
          rw [hg] at hr
          simp only at hr
          split at hr
          · cases hr
          · rename_i hok
            have hok : ok = true := by simpa using hok
            subst hok
            obtain ⟨g1, g2, g3, g4, _⟩ := getB_once r v k hg
            obtain ⟨⟨s, m1, ok1⟩, hg1⟩ : ∃ x, textOf (r.drop k) = x := ⟨_, rfl⟩
            rw [hg1] at hr
            simp only at hr
            split at hr
            · cases hr
            · rename_i hok1
              have hok1 : ok1 = true := by simpa using hok1
              subst hok1
              obtain ⟨t1, t2, t3, t4⟩ := textOf_once _ _ _ hg1
              rw [List.length_drop] at t2
              split at hr
              · rename_i ht1
                cases hr
                have hR := hrt
                simp only [rightB, decide_eq_true_eq] at hR
                obtain ⟨w1, w2⟩ := wrap64_right g1 hR.2.2.2.2.1 hR.2.2.2.2.2
                have htt : t = 1 := UInt8.toNat_inj.1 ht1
                refine ⟨hrt, (num1 g2 g3 t2).1, by rw [List.length_cons]; exact (num1 g2 g3 t2).2, ?_⟩
                rw [bytesB, hrt]
                simp only [if_true, headB]
                rw [show 1 + k + m1 = (k + m1) + 1 from by rw [Nat.add_assoc, Nat.add_comm], List.take_succ_cons, take_add, g4, t3, w2, htt, strB_mk]
                rfl
              · rename_i ht1
                obtain ⟨⟨s2, m2, ok2⟩, hg2⟩ : ∃ x, textOf (r.drop (k + m1)) = x := ⟨_, rfl⟩
                rw [hg2] at hr
                simp only at hr
                split at hr
                · cases hr
                · rename_i hok2
                  have hok2 : ok2 = true := by simpa using hok2
                  subst hok2
                  obtain ⟨u1, u2, u3, u4⟩ := textOf_once _ _ _ hg2
                  rw [List.length_drop] at u2
                  cases hr
                  have hR := hrt
                  simp only [rightB, decide_eq_true_eq] at hR
                  obtain ⟨w1, w2⟩ := wrap64_right g1 hR.2.2.2.2.1 hR.2.2.2.2.2
                  have htt : t = 0 := UInt8.toNat_inj.1 (num0 ht ht1)
                  refine ⟨hrt, (num2 g2 g3 t2 u2).1, by rw [List.length_cons]; exact (num2 g2 g3 t2 u2).2, ?_⟩
                  rw [bytesB, hrt]
                  simp only [if_true, headB, Bool.false_eq_true, if_false]
                  rw [show 1 + k + m1 + m2 = (k + m1 + m2) + 1 from num3 k m1 m2, List.take_succ_cons, take_add, take_add, g4, t3, u3, w2, htt, strB_mk, strB_mk]
                  rfl
    · cases h
  · cases h
end Go.Proofs.Yteemfhhhdhddhaa

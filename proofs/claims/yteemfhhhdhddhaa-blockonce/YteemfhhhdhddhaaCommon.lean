/-
  What block.common and the document's common answer: contracts over this translation.
-/
import Derived.Test.YteemfhhhdhddhaaFixed
namespace Go.Proofs.Yteemfhhhdhddhaa
open Go.RowKit Go.Sort Go.Shelf
set_option linter.unusedSectionVars false
variable [Inhabited E] [DecidableEq E]
/-- With how many like bytes both begin. -/
def comN : List UInt8 → List UInt8 → Nat
  | a :: x, b :: y => if a = b then comN x y + 1 else 0
  | _, _ => 0
theorem comN_le : ∀ a b : List UInt8, comN a b ≤ a.length ∧ comN a b ≤ b.length
  | [], _ => by simp [comN]
  | _ :: _, [] => by simp [comN]
  | a :: x, b :: y => by
    have := comN_le x y
    rw [comN]
    split <;> simp <;> omega
theorem comN_step (a b : List UInt8) (k : Nat) (h1 : k < a.length) (h2 : k < b.length) : comN (a.drop k) (b.drop k) = if a[k] = b[k] then comN (a.drop (k + 1)) (b.drop (k + 1)) + 1 else 0 := by
  rw [List.drop_eq_getElem_cons h1, List.drop_eq_getElem_cons h2, comN]
theorem comN_end (a b : List UInt8) (k : Nat) (h : a.length ≤ k ∨ b.length ≤ k) : comN (a.drop k) (b.drop k) = 0 := by
  rcases h with h | h
  · rw [List.drop_eq_nil_of_le h]; rfl
  · rw [List.drop_eq_nil_of_le h]; cases a.drop k <;> rfl
theorem strB_at (s : ByteArray) (k : Nat) (h : k < s.size) : (strB s)[k]'(by rw [strB_length]; exact h) = s[k] := rfl
set_option maxRecDepth 100000 in
set_option maxHeartbeats 2000000 in
theorem common_any (s t : ByteArray) (w : World) (hs : s.size ≤ 9223372036854775807) :
    Calls Try.prog 76 #[.string s, .string t] w fun e w' => e = .returned (.int .i64 (comN (strB s) (strB t) : Nat)) ∧ Below w.heap.size w w' := by
  obtain ⟨r, HR⟩ : ∃ r, Hid (comN (strB s) (strB t) = r) := ⟨_, rfl⟩
  rw [HR.out]
  go_enter Try.func76, Try.ntmps76
  go_wp2
  go_loopw [5] (fun x wr => ∃ k : Nat, x = .int .i64 k ∧ k ≤ s.size ∧ Hid (r = k + comN ((strB s).drop k) ((strB t).drop k)) ∧ Below w.heap.size w wr) (fun x _ => s.size - (intOf x).toNat)
  case atStart => exact ⟨0, rfl, by omega, (by show _ = _; rw [← HR.out]; simp), Below.refl _ _⟩
  case round =>
    obtain ⟨k, rfl, hks, HK, hbel⟩ := hrel
    have HB : Hid _ := hbel
    clear hbel
    by_cases h1 : k < s.size
    · have h1z : (k : Int) < (s.size : Int) := by omega
      have d1 : decide ((k : Int) < (s.size : Int)) = true := decide_eq_true h1z
      by_cases h2 : k < t.size
      · have h2z : (k : Int) < (t.size : Int) := by omega
        have d2 : decide ((k : Int) < (t.size : Int)) = true := decide_eq_true h2z
        have hst := comN_step (strB s) (strB t) k (by rw [strB_length]; exact h1) (by rw [strB_length]; exact h2)
        rw [strB_at s k h1, strB_at t k h2] at hst
        by_cases h3 : s[k] = t[k]
        · have e3 : ((s[k].toNat : Int) == (t[k].toNat : Int)) = true := by simp [h3]
          have HZ : Hid (r = (k + 1) + comN ((strB s).drop (k + 1)) ((strB t).drop (k + 1))) := by show _ = _; rw [HK.out, hst, if_pos h3]; omega
          clear hst h3
          go_wp2_with fail
          go_quiet (fail)
          go_wp2
          go_roundw
          case rel => exact ⟨k + 1, by go_num, by omega, HZ, bel_drewN HB.out nq⟩
          case measure => simp [intOf]; omega
        · have e3 : ((s[k].toNat : Int) == (t[k].toNat : Int)) = false := by
            simp only [beq_eq_false_iff_ne, ne_eq]
            intro h
            exact h3 (UInt8.toNat_inj.1 (by omega))
          have HZ : Hid (r = k) := by show _ = _; rw [HK.out, hst, if_neg h3]; rfl
          clear hst h3
          go_wp2_with fail
          go_quiet (fail)
          go_wp2
          go_ret
          exact ⟨by rw [HZ.out]; rfl, bel_drewN HB.out nq⟩
      · have d2 : decide ((k : Int) < (t.size : Int)) = false := decide_eq_false (by omega)
        have h2z : ¬ (k : Int) < (t.size : Int) := by omega
        have HZ : Hid (r = k) := by show _ = _; rw [HK.out, comN_end _ _ _ (.inr (by rw [strB_length]; omega))]; rfl
        go_wp2_with fail
        go_quiet (fail)
        go_wp2
        go_ret
        exact ⟨by rw [HZ.out]; rfl, bel_drewN HB.out nq⟩
    · have d1 : decide ((k : Int) < (s.size : Int)) = false := decide_eq_false (by omega)
      have h1z : ¬ (k : Int) < (s.size : Int) := by omega
      have HZ : Hid (r = k) := by show _ = _; rw [HK.out, comN_end _ _ _ (.inl (by rw [strB_length]; omega))]; rfl
      go_wp2_with fail
      go_quiet (fail)
      go_wp2
      go_ret
      exact ⟨by rw [HZ.out]; rfl, bel_drewN HB.out nq⟩
end Go.Proofs.Yteemfhhhdhddhaa

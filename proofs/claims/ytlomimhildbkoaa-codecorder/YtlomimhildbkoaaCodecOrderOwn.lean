/-
  A number that is not smaller has not fewer bytes, and seven bits more are a byte more: proved for any two numbers, without conditions.
-/
import Derived.Test.YtlomimhildbkoaaRows
import Derived.Test.YtlomimhildbkoaaShown
import Derived.WalkKit
import Derived.ProofKit
import Derived.OpenShut
import Derived.ShutString
import Derived.ChangeOld
import Derived.Below
namespace Go.Proofs.Ytlomimhildbkoaa
namespace CodecOrderWalk
open Go.ChangeShapes Go.WideShapes Go.ChangeAt Go.RowKit
open Go.ChangeMaps (open_string shut_string)
set_option linter.unusedVariables false

theorem own : ownKnob Try.prog.godebug = none := by kernel_rfl

theorem ret_bool {a b : Bool} (h : a = b) : Ending.returned (.bool a) = .returned (.bool b) := by rw [h]

set_option maxRecDepth 100000 in
set_option maxHeartbeats 1000000 in
theorem walk_nat (v u : Nat) (w : World) (hv : v < 18446744073709551616) (hu : u < 18446744073709551616) :
    Calls Try.prog 7 #[.int .u64 v, .int .u64 u] w fun e w2 => e = .returned (.bool true) ∧ Below w.heap.size w w2 := by
  by_cases hgt : u < v
  · have hm := sz_mono u v (by omega)
    by_cases h128 : u < 128
    · have ha := sz_small u h128
      have hc := sz_small (u / 128) (by omega)
      have ha1 : sz u ≤ 1 := by omega
      have ha2 : 1 ≤ sz u := by omega
      have hc1 : sz (u / 128) ≤ 1 := by omega
      have hc2 : 1 ≤ sz (u / 128) := by omega
      clear ha hc
      go_enter Try.func7, Try.ntmps7
      go_wp2_with fail
      refine (shown_any w).mono ?_
      rintro e w1 ⟨rfl, hbel⟩
      go_wp2_with fail
      refine (size_any u _ (by omega)).mono ?_
      rintro e w2 ⟨rfl, rfl⟩
      go_wp2_with fail
      refine (size_any v _ (by omega)).mono ?_
      rintro e w3 ⟨rfl, rfl⟩
      go_wp2_with fail
      rw [show ((u : Nat) : Int) / 128 = ((u / 128 : Nat) : Int) from by omega]
      refine (size_any (u / 128) _ (by omega)).mono ?_
      rintro e w4 ⟨rfl, rfl⟩
      go_wp2
      go_ret
      exact ⟨rfl, hbel⟩
    · have hc := sz_more u (by omega) (by omega)
      have hc1 : sz u ≤ sz (u / 128) + 1 := by omega
      have hc2 : sz (u / 128) + 1 ≤ sz u := by omega
      have hc3 := sz_le (u / 128)
      clear hc
      go_enter Try.func7, Try.ntmps7
      go_wp2_with fail
      refine (shown_any w).mono ?_
      rintro e w1 ⟨rfl, hbel⟩
      go_wp2_with fail
      refine (size_any u _ (by omega)).mono ?_
      rintro e w2 ⟨rfl, rfl⟩
      go_wp2_with fail
      refine (size_any v _ (by omega)).mono ?_
      rintro e w3 ⟨rfl, rfl⟩
      go_wp2_with fail
      rw [show ((u : Nat) : Int) / 128 = ((u / 128 : Nat) : Int) from by omega]
      refine (size_any (u / 128) _ (by omega)).mono ?_
      rintro e w4 ⟨rfl, rfl⟩
      go_wp2
      go_ret
      exact ⟨ret_bool (by rw [beq_iff_eq]; omega), hbel⟩
  · have hm := sz_mono v u (by omega)
    by_cases h128 : v < 128
    · have ha := sz_small v h128
      have hc := sz_small (v / 128) (by omega)
      have ha1 : sz v ≤ 1 := by omega
      have ha2 : 1 ≤ sz v := by omega
      have hc1 : sz (v / 128) ≤ 1 := by omega
      have hc2 : 1 ≤ sz (v / 128) := by omega
      clear ha hc
      go_enter Try.func7, Try.ntmps7
      go_wp2_with fail
      refine (shown_any w).mono ?_
      rintro e w1 ⟨rfl, hbel⟩
      go_wp2_with fail
      refine (size_any v _ (by omega)).mono ?_
      rintro e w2 ⟨rfl, rfl⟩
      go_wp2_with fail
      refine (size_any u _ (by omega)).mono ?_
      rintro e w3 ⟨rfl, rfl⟩
      go_wp2_with fail
      rw [show ((v : Nat) : Int) / 128 = ((v / 128 : Nat) : Int) from by omega]
      refine (size_any (v / 128) _ (by omega)).mono ?_
      rintro e w4 ⟨rfl, rfl⟩
      go_wp2
      go_ret
      exact ⟨rfl, hbel⟩
    · have hc := sz_more v (by omega) (by omega)
      have hc1 : sz v ≤ sz (v / 128) + 1 := by omega
      have hc2 : sz (v / 128) + 1 ≤ sz v := by omega
      have hc3 := sz_le (v / 128)
      clear hc
      go_enter Try.func7, Try.ntmps7
      go_wp2_with fail
      refine (shown_any w).mono ?_
      rintro e w1 ⟨rfl, hbel⟩
      go_wp2_with fail
      refine (size_any v _ (by omega)).mono ?_
      rintro e w2 ⟨rfl, rfl⟩
      go_wp2_with fail
      refine (size_any u _ (by omega)).mono ?_
      rintro e w3 ⟨rfl, rfl⟩
      go_wp2_with fail
      rw [show ((v : Nat) : Int) / 128 = ((v / 128 : Nat) : Int) from by omega]
      refine (size_any (v / 128) _ (by omega)).mono ?_
      rintro e w4 ⟨rfl, rfl⟩
      go_wp2
      go_ret
      exact ⟨ret_bool (by rw [beq_iff_eq]; omega), hbel⟩

theorem walk (a0 : Int) (a1 : Int) (w0 : (Lit.int .u64 a0).wf = true) (w1 : (Lit.int .u64 a1).wf = true) (w : World) :
    Calls Try.prog 7 #[.int .u64 a0, .int .u64 a1] w fun e w' => e = .returned (.bool true) ∧ Below w.heap.size w w' := by
  have b0 := bounds_u64 w0
  have b1 := bounds_u64 w1
  obtain ⟨n0, rfl⟩ := Int.eq_ofNat_of_zero_le b0.1
  obtain ⟨n1, rfl⟩ := Int.eq_ofNat_of_zero_le b1.1
  exact walk_nat n0 n1 w (by omega) (by omega)

set_option maxRecDepth 100000 in
theorem lifted (os : Os) (started : os.Started) (H : Type) (enc : TypeId × Value → H) :
    ReturnsInHanded {} Try.checked os 7 .any (Rows.codecOrderSpec.pre6 enc Try.prog Try.f7 Rows.codecOrderRow.domain false) (Rows.codecOrderSpec.post enc Try.prog Try.f7 false true false false) := by
  refine returnsInHanded_of_change (C := Try.checked) own started (by kernel_rfl) Try.func7
    (ChangeSpec.witness6 (enc := enc) (C := Try.checked) false ⟨#[], #[.int .u64 0, .int .u64 0], []⟩ 8 (by kernel_rfl) (by kernel_rfl) (by kernel_rfl) (by kernel_rfl)) ?_
  intro W base args ds gs before hval0 hW hcnd _
  have hval : ∀ (j : Nat) t v, Try.f7.params[j]? = some t → args[j]? = some v → Value.okWide Try.prog W .any base t v := hval0
  have hW' := hW
  obtain ⟨p, q, hA0, hV, rfl, hfz, hnd⟩ := hW
  have hA : DataW.TrodAll enc Try.prog W 0 (fun _ => true) true Try.f7.params.toList args.toList ds p := hA0
  rw [Try.params7] at hA hval
  obtain ⟨v0, vs0, d0, ds0, p0, q0, hargs, rfl, rfl, h0, r0⟩ := trodAll_cons hA
  obtain ⟨v1, vs1, d1, ds1, p1, q1, rfl, rfl, rfl, h1, r1⟩ := trodAll_cons r0
  obtain ⟨rfl, rfl, rfl⟩ := trodAll_nil r1
  obtain rfl : args = #[v0, v1] := by cases args; simp_all
  obtain ⟨rfl, rfl⟩ := trodVars_none hV
  obtain ⟨a0, rfl, rfl, rfl, w0⟩ := open_int Try.underlying23 (hval 0 23 v0 rfl rfl) h0
  obtain ⟨a1, rfl, rfl, rfl, w1⟩ := open_int Try.underlying23 (hval 1 23 v1 rfl rfl) h1
  clear hA0 hval0
  refine (walk a0 a1 w0 w1 W).mono fun e W' ⟨he, bel⟩ => ?_
  subst he
  exact ⟨_, rfl, _, _, _, [], _, [], hW', trodAll_mk1 (shut_bool Try.underlying4 _), (trodAll_cons_mk (shut_int Try.underlying23 w0) (trodAll_cons_mk (shut_int Try.underlying23 w1) trodAll_mk0)), rfl, bel.frame _, fun h => by cases h⟩

theorem over : Rows.codecOrderRow.holds Try.pinned (OpenSpec.ofChange Rows.codecOrderSpec) :=
  OpenClaim.holds_of_wide 7 Try.f7 rfl rfl rfl rfl rfl rfl rfl ⟨rfl, rfl, rfl, rfl, rfl⟩ rfl rfl rfl rfl rfl (by kernel_rfl) Try.func7 (by kernel_rfl)
    (of_decide_eq_true (by kernel_rfl)) (by unfold Func.isWrapper; first | (rw [if_pos (by decide +kernel)]; kernel_rfl) | (rw [if_neg (by decide +kernel)]; exact ⟨rfl, rfl⟩))
    (fun os started H enc _ => lifted os started H enc)

end CodecOrderWalk

/-- The statement. -/
theorem codecOrder_holds : Rows.CodecOrderSaid := CodecOrderWalk.over
#print axioms codecOrder_holds
end Go.Proofs.Ytlomimhildbkoaa

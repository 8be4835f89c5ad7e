/-
  What DiskFull's disk comes to: no walk.
-/
import Derived.Test.YtomeghngjiaofaaDkT
import Derived.Test.YtomeghngjiaofaaDkX
namespace Go.Proofs.Ytomeghngjiaofaa
open Go.RowKit
theorem and1023 (n : Int) : bits .and .i64 n 1023 = n % 1024 := by
  have hm : (BitVec.ofInt 64 1023).toNat = 2 ^ 10 - 1 := by decide
  have key : (BitVec.ofInt 64 n &&& BitVec.ofInt 64 1023).toNat = (n % ((2 ^ 64 : Nat) : Int)).toNat % 2 ^ 10 := by
    rw [BitVec.toNat_and, BitVec.toNat_ofInt, hm, Nat.and_two_pow_sub_one_eq_mod]
  show IntKind.i64.wrap ((BitVec.ofInt 64 n &&& BitVec.ofInt 64 1023).toNat : Nat) = n % 1024
  rw [key, IntKind.wrap_i64]
  omega
def fA (c : Nat) (la lb : List UInt8) (pcs : List (Nat × Nat)) : Dk := ⟨c, [⟨0, sA, la⟩, ⟨1, sB, lb⟩], pcs, false, 0, 0, 2⟩
def fB (c : Nat) (lb : List UInt8) (pcs : List (Nat × Nat)) : Dk := ⟨c, [⟨1, sB, lb⟩], pcs, false, 0, 0, 2⟩
theorem fA_pre (c : Nat) (la lb : List UInt8) (pcs : List (Nat × Nat)) : (fA c la lb pcs).pre = fA c la lb pcs := rfl
theorem fB_pre (c : Nat) (lb : List UInt8) (pcs : List (Nat × Nat)) : (fB c lb pcs).pre = fB c lb pcs := rfl
theorem fA_used (c : Nat) (la lb : List UInt8) (pcs : List (Nat × Nat)) : usedL (fA c la lb pcs).L = la.length + lb.length := by simp [fA, usedL]
theorem fB_used (c : Nat) (lb : List UInt8) (pcs : List (Nat × Nat)) : usedL (fB c lb pcs).L = lb.length := by simp [fB, usedL]
theorem chkA : chk false [sA] = 0 := by kernel_rfl
theorem chkB : chk false [sB] = 0 := by kernel_rfl
theorem fA_findA (c : Nat) (la lb : List UInt8) (pcs : List (Nat × Nat)) : findL (fA c la lb pcs).L sA = some ⟨0, sA, la⟩ := rfl
theorem fA_findB (c : Nat) (la lb : List UInt8) (pcs : List (Nat × Nat)) : findL (fA c la lb pcs).L sB = some ⟨1, sB, lb⟩ := rfl
theorem fB_findB (c : Nat) (lb : List UInt8) (pcs : List (Nat × Nat)) : findL (fB c lb pcs).L sB = some ⟨1, sB, lb⟩ := rfl
theorem new_a (c : Nat) : ((Dk.new c).create sA) = (0, ⟨c, [⟨0, sA, []⟩], [], false, 0, 0, 1⟩) := rfl
theorem new_b (c : Nat) : (Dk.create ⟨c, [⟨0, sA, []⟩], [], false, 0, 0, 1⟩ sB) = (0, fA c [] [] []) := rfl
theorem fA_appA (c : Nat) (la lb bs : List UInt8) (pcs : List (Nat × Nat)) : (c < la.length + lb.length + bs.length → (fA c la lb pcs).append sA bs = (4, fA c la lb pcs)) ∧ (la.length + lb.length + bs.length ≤ c → ∃ ps, (fA c la lb pcs).append sA bs = (0, fA c (la ++ bs) lb ps)) := by
  have h0 : (fA c la lb pcs).append sA bs = (fA c la lb pcs).putIn 0 bs := by
    unfold Dk.append
    rw [fA_pre, if_neg (by show ¬ chk false [sA] ≠ 0; rw [chkA]; simp), fA_findA]
  rw [h0]
  unfold Dk.putIn
  rw [fA_used]
  refine ⟨fun h => if_pos h, fun h => ?_⟩
  rw [if_neg (by show ¬ c < _; omega)]
  by_cases hb : bs.length = 0
  · rw [if_pos hb, List.length_eq_zero_iff.1 hb, List.append_nil]
    exact ⟨pcs, rfl⟩
  · rw [if_neg hb]
    exact ⟨_, rfl⟩
theorem fA_appB (c : Nat) (la lb bs : List UInt8) (pcs : List (Nat × Nat)) : (c < la.length + lb.length + bs.length → (fA c la lb pcs).append sB bs = (4, fA c la lb pcs)) ∧ (la.length + lb.length + bs.length ≤ c → ∃ ps, (fA c la lb pcs).append sB bs = (0, fA c la (lb ++ bs) ps)) := by
  have h0 : (fA c la lb pcs).append sB bs = (fA c la lb pcs).putIn 1 bs := by
    unfold Dk.append
    rw [fA_pre, if_neg (by show ¬ chk false [sB] ≠ 0; rw [chkB]; simp), fA_findB]
  rw [h0]
  unfold Dk.putIn
  rw [fA_used]
  refine ⟨fun h => if_pos h, fun h => ?_⟩
  rw [if_neg (by show ¬ c < _; omega)]
  by_cases hb : bs.length = 0
  · rw [if_pos hb, List.length_eq_zero_iff.1 hb, List.append_nil]
    exact ⟨pcs, rfl⟩
  · rw [if_neg hb]
    exact ⟨_, rfl⟩
theorem fB_appB (c : Nat) (lb bs : List UInt8) (pcs : List (Nat × Nat)) : (c < lb.length + bs.length → (fB c lb pcs).append sB bs = (4, fB c lb pcs)) ∧ (lb.length + bs.length ≤ c → ∃ ps, (fB c lb pcs).append sB bs = (0, fB c (lb ++ bs) ps)) := by
  have h0 : (fB c lb pcs).append sB bs = (fB c lb pcs).putIn 1 bs := by
    unfold Dk.append
    rw [fB_pre, if_neg (by show ¬ chk false [sB] ≠ 0; rw [chkB]; simp), fB_findB]
  rw [h0]
  unfold Dk.putIn
  rw [fB_used]
  refine ⟨fun h => if_pos h, fun h => ?_⟩
  rw [if_neg (by show ¬ c < _; omega)]
  by_cases hb : bs.length = 0
  · rw [if_pos hb, List.length_eq_zero_iff.1 hb, List.append_nil]
    exact ⟨pcs, rfl⟩
  · rw [if_neg hb]
    exact ⟨_, rfl⟩
theorem fA_readA (c : Nat) (la lb : List UInt8) (pcs : List (Nat × Nat)) : (fA c la lb pcs).read sA = (la, 0) := by
  unfold Dk.read
  rw [if_neg (by show ¬ chk false [sA] ≠ 0; rw [chkA]; simp), fA_findA]
theorem fA_readB (c : Nat) (la lb : List UInt8) (pcs : List (Nat × Nat)) : (fA c la lb pcs).read sB = (lb, 0) := by
  unfold Dk.read
  rw [if_neg (by show ¬ chk false [sB] ≠ 0; rw [chkB]; simp), fA_findB]
theorem fA_del (c : Nat) (la lb : List UInt8) (pcs : List (Nat × Nat)) : (fA c la lb pcs).delete sA = (0, fB c lb (forgetL pcs 0)) := by
  unfold Dk.delete
  rw [fA_pre, if_neg (by show ¬ chk false [sA] ≠ 0; rw [chkA]; simp), fA_findA]
  rfl
theorem bS_size (l : List UInt8) : (bS l).size = l.length := by simp [bS, ByteArray.size]
theorem bS_app (l m : List UInt8) : bS l ++ bS m = bS (l ++ m) := ByteArray.mk_append_mk l m
theorem str_same (l m : List UInt8) : ((bS l).toList == (bS m).toList) = decide (l = m) := by
  rw [ByteArray.toList_eq, ByteArray.toList_eq]
  have h1 : (bS l).data.toList = l := by simp [bS]
  have h2 : (bS m).data.toList = m := by simp [bS]
  rw [h1, h2]
  by_cases h : l = m
  · subst h; simp
  · simp [h]
theorem str_bS {w : World} {ao : Option Addr} {n : Nat} {bs : List UInt8} (cap : Nat) (h : Bytes w ao n bs) : (convert 28 9 (.slice ao n cap)).run Try.prog w = .ok (.string (bS bs)) w := str_bytes cap h
theorem bytes_drewN {w : World} {ao : Option Addr} {n : Nat} {bs : List UInt8} (k : Nat) (h : Bytes w ao n bs) : Bytes (w.drewN k) ao n bs := bytes_kept h (bel_drewN (Below.refl w.heap.size w) k) (Nat.le_refl _)
theorem str_eq (s t : ByteArray) : (s.toList == t.toList) = decide (s = t) := by
  have h := str_same s.data.toList t.data.toList
  have e1 : bS s.data.toList = s := by simp [bS]
  have e2 : bS t.data.toList = t := by simp [bS]
  rw [e1, e2] at h
  rw [h]
  by_cases e : s = t
  · subst e; simp
  · rw [decide_eq_false e, decide_eq_false]
    intro q
    apply e
    rw [← e1, ← e2, q]
end Go.Proofs.Ytomeghngjiaofaa

/-
  What DiskRenames's disk comes to: no walk.
-/
import Derived.Test.YtomeghngjiaofaaNamM
namespace Go.Proofs.Ytomeghngjiaofaa
open Go.RowKit
abbrev sX : ByteArray := ⟨#[120]⟩
abbrev sY : ByteArray := ⟨#[121]⟩
def big : Nat := 1099511627776
def pc0 (i : Nat) (l : List UInt8) : List (Nat × Nat) := if l.length = 0 then [] else [(i, l.length)]
def r1 : Dk := ⟨big, [⟨0, sX, []⟩], [], false, 0, 0, 1⟩
def r2 (S : List UInt8) : Dk := ⟨big, [⟨0, sX, S⟩], pc0 0 S, false, 0, 0, 1⟩
def r3 (S : List UInt8) : Dk := ⟨big, [⟨0, sX, S⟩], [], false, 0, 0, 1⟩
def r4 (S : List UInt8) : Dk := ⟨big, [⟨0, sX, S⟩, ⟨1, sY, []⟩], [], false, 0, 0, 2⟩
def r5 (S O : List UInt8) : Dk := ⟨big, [⟨0, sX, S⟩, ⟨1, sY, O⟩], pc0 1 O, false, 0, 0, 2⟩
def r6 (S O T : List UInt8) : Dk := ⟨big, [⟨0, sX, S ++ T⟩, ⟨1, sY, O⟩], pc0 1 O ++ pc0 0 T, false, 0, 0, 2⟩
def r7 (S T : List UInt8) : Dk := ⟨big, [⟨0, sY, S ++ T⟩], pc0 0 T, false, 0, 0, 2⟩
def r8 (S T : List UInt8) (k : Int) : Dk := ⟨big, [⟨0, sY, S ++ T.take (keepI k T.length)⟩], [], true, 0, 0, 2⟩
def r9 (S T : List UInt8) (k : Int) : Dk := ⟨big, [⟨0, sY, S ++ T.take (keepI k T.length)⟩], [], false, 0, 0, 2⟩
theorem chkX : chk false [sX] = 0 := by kernel_rfl
theorem chkY : chk false [sY] = 0 := by kernel_rfl
theorem chkXY : chk false [sX, sY] = 0 := by kernel_rfl
theorem rn1 : (Dk.new big).create sX = (0, r1) := by
  simp [Dk.create, Dk.pre, Dk.new, chkX, r1, findL]
theorem rn2 (S : List UInt8) (h : S.length ≤ 1048576) : r1.append sX S = (0, r2 S) := by
  have h1 : ¬ big < S.length := by unfold big; omega
  by_cases h0 : S.length = 0
  · have := List.length_eq_zero_iff.1 h0
    subst this
    simp [Dk.append, Dk.putIn, Dk.pre, r1, r2, findL, usedL, chkX, pc0]
  · simp [Dk.append, Dk.putIn, Dk.pre, r1, r2, findL, usedL, chkX, pc0, onId, putF, h1, h0]
theorem rn3 (S : List UInt8) : (r2 S).sync sX = (0, r3 S) := by
  by_cases h0 : S.length = 0
  · simp [Dk.sync, Dk.pre, r2, r3, findL, chkX, Dk.forget, forgetL, pc0, h0]
  · simp [Dk.sync, Dk.pre, r2, r3, findL, chkX, Dk.forget, forgetL, pc0, h0]
theorem rn4 (S : List UInt8) : (r3 S).create sY = (0, r4 S) := by
  simp [Dk.create, Dk.pre, r3, r4, chkY, findL]
theorem rn5 (S O : List UInt8) (h : S.length + O.length ≤ 1048576) : (r4 S).append sY O = (0, r5 S O) := by
  have h1 : ¬ big < S.length + O.length := by unfold big; omega
  by_cases h0 : O.length = 0
  · have := List.length_eq_zero_iff.1 h0
    subst this
    simp at h1
    simp [Dk.append, Dk.putIn, Dk.pre, r4, r5, findL, usedL, chkY, pc0, h1]
  · simp [Dk.append, Dk.putIn, Dk.pre, r4, r5, findL, usedL, chkY, pc0, onId, putF, h1, h0]
theorem rn6 (S O T : List UInt8) (h : S.length + O.length + T.length ≤ 1048576) : (r5 S O).append sX T = (0, r6 S O T) := by
  have h1 : ¬ big < S.length + O.length + T.length := by unfold big; omega
  by_cases h0 : T.length = 0
  · have := List.length_eq_zero_iff.1 h0
    subst this
    simp at h1
    simp [Dk.append, Dk.putIn, Dk.pre, r5, r6, findL, usedL, chkX, pc0, h1]
  · simp [Dk.append, Dk.putIn, Dk.pre, r5, r6, findL, usedL, chkX, pc0, onId, putF, h1, h0]
theorem rn7 (S O T : List UInt8) : (r6 S O T).rename sX sY = (0, r7 S T) := by
  have hp : forgetL (pc0 1 O ++ pc0 0 T) 1 = pc0 0 T := by
    unfold forgetL pc0
    rw [List.filter_append]
    by_cases h0 : O.length = 0 <;> by_cases h1 : T.length = 0 <;> simp [h0, h1]
  simp [Dk.rename, Dk.pre, r6, r7, findL, chkXY, Dk.over, Dk.drop, Dk.named, outId, onId, nameF, hp]
theorem rn8 (S T : List UInt8) : (r7 S T).read sX = ([], 5) := by
  simp [Dk.read, r7, findL, chkX]
theorem rn9 (S T : List UInt8) : (r7 S T).read sY = (S ++ T, 0) := by
  simp [Dk.read, r7, findL, chkY]
theorem rn10 (S T : List UInt8) : usedL (r7 S T).L = S.length + T.length := by simp [r7, usedL]
theorem rn11 (S T : List UInt8) (k : Int) : (r7 S T).crash k = r8 S T k := by
  unfold Dk.crash
  show (if false = true then _ else _) = _
  rw [if_neg (by simp)]
  by_cases h0 : T.length = 0
  · have := List.length_eq_zero_iff.1 h0
    subst this
    simp [r7, r8, pc0, crashL]
  · have e1 : crashL (r7 S T).L (r7 S T).pcs k = [⟨0, sY, S ++ T.take (keepI k T.length)⟩] := by
      have hl := keepI_le k T.length
      simp only [r7, pc0, h0, if_false, crashL, onId, List.map_cons, List.map_nil, if_true, cutF]
      congr 2
      rw [List.length_append, List.take_append]
      rw [List.take_of_length_le (by omega)]
      congr 2
      omega
    rw [e1]
    rfl
theorem rn12 (S T : List UInt8) (k : Int) : (r9 S T k).read sY = (S ++ T.take (keepI k T.length), 0) := by
  simp [Dk.read, r9, findL, chkY]
theorem rn13 (S T : List UInt8) (k : Int) : (r9 S T k).list = [bytesN sY] := by
  simp [Dk.list, r9, namesL]
theorem rn14 (S T : List UInt8) (k : Int) : usedL (r9 S T k).L ≤ S.length + T.length := by
  simp [r9, usedL]
  exact Nat.min_le_right _ _
end Go.Proofs.Ytomeghngjiaofaa

/-
  What DiskNames's disk comes to: no walk.
-/
import Derived.Test.YtomeghngjiaofaaFulM
import Derived.Test.YtomeghngjiaofaaDkJ
namespace Go.Proofs.Ytomeghngjiaofaa
open Go.RowKit
def nz : Dk := Dk.new 100
def n1 (s : ByteArray) : Dk := ⟨100, [⟨0, s, []⟩], [], false, 0, 0, 1⟩
def n2 (s : ByteArray) : Dk := ⟨100, [⟨0, s, [120]⟩], [(0, 1)], false, 0, 0, 1⟩
def n3 : Dk := ⟨100, [], [], false, 0, 0, 1⟩
theorem chk1 {s : ByteArray} (h : badName s = false) : chk false [s] = 0 := by simp [chk, h]
theorem chk2 {s t : ByteArray} (h : badName s = false) (h2 : badName t = false) : chk false [s, t] = 0 := by simp [chk, h, h2]
theorem chkb {s : ByteArray} (h : badName s = true) : chk false [s] = 1 := by simp [chk, h]
theorem chkb2 {s t : ByteArray} (h : badName s = true ∨ badName t = true) : chk false [s, t] = 1 := by
  rcases h with h | h <;> simp [chk, h]
section
variable {s o : ByteArray}
theorem nm1 (h : badName s = false) : nz.create s = (0, n1 s) := by
  have := chk1 h
  simp [Dk.create, Dk.pre, nz, Dk.new, this, n1, findL]
theorem nm2 (h : badName s = false) : (n1 s).create s = (7, n1 s) := by
  have := chk1 h
  simp [Dk.create, Dk.pre, this, n1, findL]
theorem nm3 (h : badName s = false) : (n1 s).append s [120] = (0, n2 s) := by
  have := chk1 h
  simp [Dk.append, Dk.putIn, Dk.pre, this, n1, n2, findL, usedL, onId, putF]
theorem nm4 (h : badName s = false) : (n2 s).read s = ([120], 0) := by
  have := chk1 h
  simp [Dk.read, this, n2, findL]
theorem nm5 : (n2 s).list = [bytesN s] := by
  simp [Dk.list, n2, namesL]
theorem nm6 (h : badName s = false) (h2 : badName o = false) (hne : ¬ s = o) : (n2 s).rename s o = (0, n2 o) := by
  have := chk2 h h2
  simp [Dk.rename, Dk.pre, this, n2, findL, Dk.over, Dk.named, onId, nameF, hne]
theorem nm7 (h : badName s = false) (h2 : badName o = false) (hne : ¬ s = o) : (n2 o).rename s o = (5, n2 o) := by
  have := chk2 h h2
  have hne' : ¬ o = s := fun e => hne e.symm
  simp [Dk.rename, Dk.pre, this, n2, findL, hne']
theorem nm8 (h : badName s = false) : (n2 s).delete s = (0, n3) := by
  have := chk1 h
  simp [Dk.delete, Dk.pre, this, n2, n3, findL, Dk.drop, outId, forgetL]
theorem nm9 (h : badName s = false) : n3.delete s = (5, n3) := by
  have := chk1 h
  simp [Dk.delete, Dk.pre, this, n3, findL]
theorem nm10 : n3.list = [] := by simp [Dk.list, n3, namesL]
theorem nb1 (h : badName s = true) : nz.create s = (1, nz) := by
  have := chkb h
  simp [Dk.create, Dk.pre, nz, Dk.new, this]
theorem nb2 (h : badName s = true) : nz.read s = ([], 1) := by
  have := chkb h
  simp [Dk.read, nz, Dk.new, this]
theorem nb3 (h : badName s = true) : nz.append s [] = (1, nz) := by
  have := chkb h
  simp [Dk.append, Dk.pre, nz, Dk.new, this]
theorem nb4 (h : badName s = true) : nz.sync s = (1, nz) := by
  have := chkb h
  simp [Dk.sync, Dk.pre, nz, Dk.new, this]
theorem nb5 (h : badName s = true ∨ badName o = true) : nz.rename s o = (1, nz) := by
  have := chkb2 h
  simp [Dk.rename, Dk.pre, nz, Dk.new, this]
theorem nb6 (h : badName s = true) : nz.delete s = (1, nz) := by
  have := chkb h
  simp [Dk.delete, Dk.pre, nz, Dk.new, this]
theorem nb7 : nz.list = [] := by simp [Dk.list, nz, Dk.new, namesL]
end
theorem encN (s : ByteArray) : encStr (bytesN s) = .string s := by
  show Value.string ⟨s.data.toList.toArray⟩ = _
  simp
/-- A row of one text. -/
theorem row_one {w : World} {B : Nat} {v : Value} {s : ByteArray} (h : w.ownsRow B 9 1 v [bytesN s].length ([bytesN s].map encStr)) : ∃ gl c, v = .slice (some ⟨gl, 0, none⟩) 1 c ∧ w.cell? ⟨gl, 0, none⟩ = some (.string s) := by
  rcases h.2 with ⟨_, h0⟩ | ⟨gl, cap, cur, rfl, _⟩
  · simp at h0
  · refine ⟨gl, cap, rfl, ?_⟩
    have := h.cells (g := gl) rfl 0 (encStr (bytesN s)) rfl
    rw [encN, Addr.add_lit] at this
    exact this
end Go.Proofs.Ytomeghngjiaofaa

/-
  What DiskArmed's two disks come to: no walk.
-/
import Derived.Test.YtomeghngjiaofaaOrdM
namespace Go.Proofs.Ytomeghngjiaofaa
open Go.RowKit
/-- A step that writes. -/
def Dk.step (A : Dk) (k : Nat) (s t : ByteArray) (b : List UInt8) : Int × Dk :=
  if k = 1 then A.create s else if k = 2 then A.append s b else if k = 3 then A.sync s else if k = 4 then A.rename s t else A.delete s
/-- Up, and no call armed. -/
def Dk.idle (A : Dk) : Prop := A.down = false ∧ A.left = 0 ∧ A.keep = 0
theorem pre_idle {A : Dk} (h : ¬ 0 < A.left) : A.pre = A := by unfold Dk.pre; rw [if_neg (fun e => h e.2)]
theorem pre_down {A : Dk} (h : A.down = true) : A.pre = A := by unfold Dk.pre; rw [if_neg (fun e => by rw [h] at e; cases e.1)]
theorem pre_last {A : Dk} (h : A.down = false) (k : Int) : (A.arm 1 k).pre = A.crash k := by
  unfold Dk.pre
  rw [if_pos ⟨h, by show (0 : Int) < 1; omega⟩, if_pos (by rfl)]
  exact Dk.crash_arm h 1 k k
theorem pre_more {A : Dk} (h : A.down = false) (l k : Int) (hl : 2 ≤ l) : (A.arm l k).pre = A.arm (l - 1) k := by
  unfold Dk.pre
  rw [if_pos ⟨h, by show (0 : Int) < l; omega⟩, if_neg (by show ¬ l = 1; omega)]
  rfl
theorem down_chk {d : Bool} (h : d = true) (ts : List ByteArray) : chk d ts = 6 := by unfold chk; rw [h]; rfl
/-- Down: every step is ErrDown, and changes nothing. -/
theorem step_down {A : Dk} (h : A.down = true) (k : Nat) (s t : ByteArray) (b : List UInt8) : A.step k s t b = (6, A) := by
  have hp := pre_down h
  have h6 : chk A.down [s] = 6 := down_chk h _
  have h7 : chk A.down [s, t] = 6 := down_chk h _
  unfold Dk.step
  split
  · unfold Dk.create; rw [hp, h6, if_pos (by decide)]
  · split
    · unfold Dk.append; rw [hp, h6, if_pos (by decide)]
    · split
      · unfold Dk.sync; rw [hp, h6, if_pos (by decide)]
      · split
        · unfold Dk.rename; rw [hp, h7, if_pos (by decide)]
        · unfold Dk.delete; rw [hp, h6, if_pos (by decide)]
theorem crash_down {A : Dk} (h : A.down = false) (k : Int) : (A.crash k).down = true := by unfold Dk.crash; rw [h]; rfl
/-- A step depends on what stands behind its first part alone. -/
theorem step_pre (A B : Dk) (h : A.pre = B) (hB : B.pre = B) (k : Nat) (s t : ByteArray) (b : List UInt8) : A.step k s t b = B.step k s t b := by
  have e1 : A.create s = B.create s := by unfold Dk.create; rw [h, hB]
  have e2 : A.append s b = B.append s b := by unfold Dk.append; rw [h, hB]
  have e3 : A.sync s = B.sync s := by unfold Dk.sync; rw [h, hB]
  have e4 : A.rename s t = B.rename s t := by unfold Dk.rename; rw [h, hB]
  have e5 : A.delete s = B.delete s := by unfold Dk.delete; rw [h, hB]
  unfold Dk.step
  rw [e1, e2, e3, e4, e5]
/-- The armed one at its call: as the one that was crashed. -/
theorem step_last {A : Dk} (h : A.down = false) (k : Int) (j : Nat) (s t : ByteArray) (b : List UInt8) : (A.arm 1 k).step j s t b = (A.crash k).step j s t b :=
  step_pre _ _ (pre_last h k) (pre_down (crash_down h k)) j s t b
theorem arm_parts (A : Dk) (l k : Int) : (A.arm l k).L = A.L ∧ (A.arm l k).pcs = A.pcs ∧ (A.arm l k).cap = A.cap ∧ (A.arm l k).down = A.down ∧ (A.arm l k).next = A.next := ⟨rfl, rfl, rfl, rfl, rfl⟩
theorem over_arm (A : Dk) (l k : Int) (i : Nat) (t : ByteArray) : (A.arm l k).over i t = (A.over i t).arm l k := by
  unfold Dk.over
  rw [(arm_parts A l k).1]
  cases findL A.L t with
  | none => rfl
  | some y =>
    show (if y.id = i then A.arm l k else (A.arm l k).drop y.id) = (if y.id = i then A else A.drop y.id).arm l k
    split <;> rfl
/-- The calls ahead: as if nothing were. -/
theorem step_more {A : Dk} (h : A.idle) (l k : Int) (hl : 2 ≤ l) (j : Nat) (s t : ByteArray) (b : List UInt8) : (A.arm l k).step j s t b = ((A.step j s t b).1, (A.step j s t b).2.arm (l - 1) k) := by
  have hp : A.pre = A := pre_idle (by rw [h.2.1]; decide)
  have hq := pre_more h.1 l k hl
  have ha := arm_parts A (l - 1) k
  unfold Dk.step
  split
  · unfold Dk.create
    rw [hp, hq, ha.1, ha.2.2.2.1]
    split
    · rfl
    · split <;> rfl
  · split
    · unfold Dk.append
      rw [hp, hq, ha.1, ha.2.2.2.1]
      split
      · rfl
      · cases findL A.L s with
        | none => rfl
        | some x =>
          show (A.arm (l - 1) k).putIn x.id b = ((A.putIn x.id b).1, (A.putIn x.id b).2.arm (l - 1) k)
          unfold Dk.putIn
          rw [ha.1, ha.2.2.1]
          split
          · rfl
          · split <;> rfl
    · split
      · unfold Dk.sync
        rw [hp, hq, ha.1, ha.2.2.2.1]
        split
        · rfl
        · cases findL A.L s <;> rfl
      · split
        · unfold Dk.rename
          rw [hp, hq, ha.1, ha.2.2.2.1]
          split
          · rfl
          · cases findL A.L s with
            | none => rfl
            | some x =>
              show ((0 : Int), ((A.arm (l - 1) k).over x.id t).named x.id t) = (0, ((A.over x.id t).named x.id t).arm (l - 1) k)
              rw [over_arm]
              rfl
        · unfold Dk.delete
          rw [hp, hq, ha.1, ha.2.2.2.1]
          split
          · rfl
          · cases findL A.L s <;> rfl
theorem over_idle {A : Dk} (h : A.idle) (i : Nat) (t : ByteArray) : (A.over i t).idle := by
  unfold Dk.over
  cases findL A.L t with
  | none => exact h
  | some y =>
    show (if y.id = i then A else A.drop y.id).idle
    split
    · exact h
    · exact h
theorem chk_ne6 (ts : List ByteArray) : chk false ts ≠ 6 := by
  unfold chk
  rw [if_neg (by simp)]
  split <;> decide
theorem n0 : (0 : Int) ≠ 6 := by decide
theorem n4 : (4 : Int) ≠ 6 := by decide
theorem n5 : (5 : Int) ≠ 6 := by decide
theorem n7 : (7 : Int) ≠ 6 := by decide
/-- Up and idle it stays, and answers no ErrDown. -/
theorem step_idle {A : Dk} (h : A.idle) (j : Nat) (s t : ByteArray) (b : List UInt8) : (A.step j s t b).2.idle ∧ (A.step j s t b).1 ≠ 6 := by
  have hp : A.pre = A := pre_idle (by rw [h.2.1]; decide)
  have hd := h.1
  have hc := fun ts => chk_ne6 ts
  unfold Dk.step
  split
  · unfold Dk.create
    rw [hp, hd]
    split
    · exact ⟨h, hc _⟩
    · split
      · exact ⟨h, n7⟩
      · exact ⟨⟨rfl, h.2.1, h.2.2⟩, n0⟩
  · split
    · unfold Dk.append
      rw [hp, hd]
      split
      · exact ⟨h, hc _⟩
      · cases findL A.L s with
        | none => exact ⟨h, n5⟩
        | some x =>
          show (A.putIn x.id b).2.idle ∧ (A.putIn x.id b).1 ≠ 6
          unfold Dk.putIn
          split
          · exact ⟨h, n4⟩
          · split
            · exact ⟨h, n0⟩
            · exact ⟨h, n0⟩
    · split
      · unfold Dk.sync
        rw [hp, hd]
        split
        · exact ⟨h, hc _⟩
        · cases findL A.L s with
          | none => exact ⟨h, n5⟩
          | some x => exact ⟨h, n0⟩
      · split
        · unfold Dk.rename
          rw [hp, hd]
          split
          · exact ⟨h, hc _⟩
          · cases findL A.L s with
            | none => exact ⟨h, n5⟩
            | some x => exact ⟨over_idle h x.id t, n0⟩
        · unfold Dk.delete
          rw [hp, hd]
          split
          · exact ⟨h, hc _⟩
          · cases findL A.L s with
            | none => exact ⟨h, n5⟩
            | some x => exact ⟨h, n0⟩
theorem crash_used {A : Dk} (h : A.wf) (k : Int) : usedL (A.crash k).L ≤ usedL A.L := by
  unfold Dk.crash
  split
  · exact Nat.le_refl _
  · exact (crashL_spec A.pcs A.L k h.ids h.enough).2.2
theorem pre_used {A : Dk} (h : A.wf) : usedL A.pre.L ≤ usedL A.L := by
  unfold Dk.pre
  split
  · split
    · exact crash_used h _
    · exact Nat.le_refl _
  · exact Nat.le_refl _
theorem out_used {A : Dk} (h : A.wf) {x : Fl} (hx : x ∈ A.L) : usedL (A.drop x.id).L ≤ usedL A.L := by
  have := usedL_out h.ids hx
  show usedL (outId A.L x.id) ≤ _
  omega
theorem step_used {A : Dk} (h : A.wf) (j : Nat) (s t : ByteArray) (b : List UInt8) : usedL (A.step j s t b).2.L ≤ usedL A.L + b.length := by
  have hp := pre_used h
  have hw := h.pre
  unfold Dk.step
  split
  · unfold Dk.create
    split
    · show usedL A.pre.L ≤ _; omega
    · split
      · show usedL A.pre.L ≤ _; omega
      · show usedL (A.pre.L ++ [⟨A.pre.next, s, []⟩]) ≤ _
        have : usedL (A.pre.L ++ [⟨A.pre.next, s, []⟩]) = usedL A.pre.L := by simp [usedL]
        omega
  · split
    · unfold Dk.append
      split
      · show usedL A.pre.L ≤ _; omega
      · cases hf : findL A.pre.L s with
        | none => show usedL A.pre.L ≤ _; omega
        | some x =>
          show usedL (A.pre.putIn x.id b).2.L ≤ _
          unfold Dk.putIn
          split
          · show usedL A.pre.L ≤ _; omega
          · split
            · show usedL A.pre.L ≤ _; omega
            · show usedL (onId A.pre.L x.id (putF b)) ≤ _
              have h1 := usedL_onId (putF b) hw.ids (findL_some hf).1
              have h2 : (putF b x).body.length = x.body.length + b.length := by simp [putF]
              rw [h2] at h1
              omega
    · split
      · unfold Dk.sync
        split
        · show usedL A.pre.L ≤ _; omega
        · cases hf : findL A.pre.L s with
          | none => show usedL A.pre.L ≤ _; omega
          | some x => show usedL A.pre.L ≤ _; omega
      · split
        · unfold Dk.rename
          split
          · show usedL A.pre.L ≤ _; omega
          · cases hf : findL A.pre.L s with
            | none => show usedL A.pre.L ≤ _; omega
            | some x =>
              show usedL (onId (A.pre.over x.id t).L x.id (nameF t)) ≤ _
              rw [usedL_named]
              have h3 : usedL (A.pre.over x.id t).L ≤ usedL A.pre.L := by
                unfold Dk.over
                cases hft : findL A.pre.L t with
                | none => exact Nat.le_refl _
                | some y =>
                  show usedL (if y.id = x.id then A.pre else A.pre.drop y.id).L ≤ _
                  split
                  · exact Nat.le_refl _
                  · exact out_used hw (findL_some hft).1
              omega
        · unfold Dk.delete
          split
          · show usedL A.pre.L ≤ _; omega
          · cases hf : findL A.pre.L s with
            | none => show usedL A.pre.L ≤ _; omega
            | some x =>
              have h3 := out_used hw (findL_some hf).1
              show usedL (A.pre.drop x.id).L ≤ _
              omega
end Go.Proofs.Ytomeghngjiaofaa

/-
  DiskApart: three disks apart; no walk.
-/
import Derived.Test.YtomeghngjiaofaaArmT
import Derived.Test.YtomeghngjiaofaaDkY
import Derived.Test.YtomeghngjiaofaaDkCl
namespace Go.Proofs.Ytomeghngjiaofaa
open Go.RowKit
theorem crash_cap (A : Dk) (k : Int) : (A.crash k).cap = A.cap := by
  unfold Dk.crash
  split <;> rfl
theorem pre_cap (A : Dk) : A.pre.cap = A.cap := by
  unfold Dk.pre
  split
  · split
    · exact crash_cap A _
    · rfl
  · rfl
theorem putIn_cap (A : Dk) (i : Nat) (b : List UInt8) : (A.putIn i b).2.cap = A.cap := by
  unfold Dk.putIn
  split
  · rfl
  · split <;> rfl
theorem over_cap (A : Dk) (i : Nat) (t : ByteArray) : (A.over i t).cap = A.cap := by
  unfold Dk.over
  repeat (first | rfl | split)
theorem act_cap (A : Dk) (kd nn mm : Int) (nm dst : ByteArray) (bs : List UInt8) : (A.act kd nn mm nm dst bs).2.cap = A.cap := by
  unfold Dk.act
  split
  · unfold Dk.create
    split
    · exact pre_cap A
    · split <;> exact pre_cap A
  split
  · unfold Dk.append
    split
    · exact pre_cap A
    · split
      · exact pre_cap A
      · rw [putIn_cap]; exact pre_cap A
  split
  · unfold Dk.sync
    split
    · exact pre_cap A
    · split <;> exact pre_cap A
  split
  · unfold Dk.rename
    split
    · exact pre_cap A
    · split
      · exact pre_cap A
      · show (A.pre.over _ dst).cap = _
        rw [over_cap]; exact pre_cap A
  split
  · unfold Dk.delete
    split
    · exact pre_cap A
    · split <;> exact pre_cap A
  split
  · exact crash_cap A nn
  split
  · rfl
  split <;> rfl
theorem act_fit {A : Dk} {c : Nat} (hc : A.cap = c) (hs : c ≤ 140737488355328) (bn : Nat) : A.pre.cap < usedL A.pre.L + bn ∨ usedL A.pre.L + bn ≤ 140737488355328 := by
  rw [pre_cap, hc]
  omega
/-- Three disks, apart from one another. -/
def Three (C : Nat → Prop) (w : World) (ga gb gc : Nat) (DA DB DC : Dk) (N : Nat) : Prop := ∃ PA PB PC : Nat → Prop, DiskAt PA w ga DA N ∧ DiskAt PB w gb DB N ∧ DiskAt PC w gc DC N ∧ (∀ k, PA k → ¬ PB k) ∧ (∀ k, PA k → ¬ PC k) ∧ (∀ k, PB k → ¬ PC k) ∧ (∀ k, PA k → C k ∧ k < w.heap.size) ∧ (∀ k, PB k → C k ∧ k < w.heap.size) ∧ (∀ k, PC k → C k ∧ k < w.heap.size)
section
variable {C : Nat → Prop} {w : World} {ga gb gc : Nat} {DA DB DC DA' DB' DC' : Dk} {N : Nat}
theorem Three.rot (h : Three C w ga gb gc DA DB DC N) : Three C w gb gc ga DB DC DA N := by
  obtain ⟨PA, PB, PC, a, b, c, h1, h2, h3, i, j, l⟩ := h
  exact ⟨PB, PC, PA, b, c, a, h3, fun k q p => h1 k p q, fun k q p => h2 k p q, j, l, i⟩
theorem Three.two (h : Three C w ga gb gc DA DB DC N) : Two C w ga gb DA DB N := by
  obtain ⟨PA, PB, PC, a, b, c, h1, h2, h3, i, j, l⟩ := h
  exact ⟨PA, PB, a, b, h1, i, j⟩
theorem three_A {f : FuncId} {args : Array Value} {E : Ending} (h : Three C w ga gb gc DA DB DC N) (hC : ∀ k, w.heap.size ≤ k → C k) (hop : ∀ own : Nat → Prop, (∀ k, own k → C k) → DiskAt own w ga DA N → Calls Try.prog f args w fun e w' => e = E ∧ DiskAt (grow own w) w' ga DA' (N + 1) ∧ Only own w w') :
    Calls Try.prog f args w fun e w' => e = E ∧ Three C w' ga gb gc DA' DB DC (N + 1) ∧ Only C w w' := by
  obtain ⟨PA, PB, PC, a, b, c, h1, h2, h3, i, j, l⟩ := h
  refine (hop PA (fun k e => (i k e).1) a).mono ?_
  rintro e w' ⟨rfl, hd, ho⟩
  refine ⟨rfl, ⟨here (grow PA w) w', PB, PC, hd.now, (b.keep (fun k hk e => ho.block k hk (fun q => h1 k q e))).mono (fun _ _ e => e) (Nat.le_succ _), (c.keep (fun k hk e => ho.block k hk (fun q => h2 k q e))).mono (fun _ _ e => e) (Nat.le_succ _), ?_, ?_, h3, ?_, ?_, ?_⟩, ho.mono (fun k e => .inl (i k e).1)⟩
  · intro k e q
    rcases e.1 with x | x
    · exact h1 k x q
    · have := (j k q).2; omega
  · intro k e q
    rcases e.1 with x | x
    · exact h2 k x q
    · have := (l k q).2; omega
  · intro k e
    refine ⟨?_, e.2⟩
    rcases e.1 with x | x
    · exact (i k x).1
    · exact hC k x
  · intro k e
    exact ⟨(j k e).1, Nat.lt_of_lt_of_le (j k e).2 ho.size⟩
  · intro k e
    exact ⟨(l k e).1, Nat.lt_of_lt_of_le (l k e).2 ho.size⟩
theorem three_B {f : FuncId} {args : Array Value} {E : Ending} (h : Three C w ga gb gc DA DB DC N) (hC : ∀ k, w.heap.size ≤ k → C k) (hop : ∀ own : Nat → Prop, (∀ k, own k → C k) → DiskAt own w gb DB N → Calls Try.prog f args w fun e w' => e = E ∧ DiskAt (grow own w) w' gb DB' (N + 1) ∧ Only own w w') :
    Calls Try.prog f args w fun e w' => e = E ∧ Three C w' ga gb gc DA DB' DC (N + 1) ∧ Only C w w' := by
  refine (three_A h.rot hC hop).mono ?_
  rintro e w' ⟨rfl, a, b⟩
  exact ⟨rfl, a.rot.rot, b⟩
theorem three_C {f : FuncId} {args : Array Value} {E : Ending} (h : Three C w ga gb gc DA DB DC N) (hC : ∀ k, w.heap.size ≤ k → C k) (hop : ∀ own : Nat → Prop, (∀ k, own k → C k) → DiskAt own w gc DC N → Calls Try.prog f args w fun e w' => e = E ∧ DiskAt (grow own w) w' gc DC' (N + 1) ∧ Only own w w') :
    Calls Try.prog f args w fun e w' => e = E ∧ Three C w' ga gb gc DA DB DC' (N + 1) ∧ Only C w w' := by
  refine (three_A h.rot.rot hC hop).mono ?_
  rintro e w' ⟨rfl, a, b⟩
  exact ⟨rfl, a.rot, b⟩
theorem Three.mono (h : Three C w ga gb gc DA DB DC N) {N' : Nat} (hN : N ≤ N') : Three C w ga gb gc DA DB DC N' := by
  obtain ⟨PA, PB, PC, a, b, c, r⟩ := h
  exact ⟨PA, PB, PC, a.mono (fun _ _ e => e) hN, b.mono (fun _ _ e => e) hN, c.mono (fun _ _ e => e) hN, r⟩
/-- The first of two is cloned. -/
theorem two_clone (h : Two C w ga gb DA DB N) (hC : ∀ k, w.heap.size ≤ k → C k) (hN : N ≤ 1000000) (hbig : usedL DA.L ≤ 140737488355328) :
    Calls Try.prog 15 #[.pointer (some ⟨ga, 0, none⟩)] w fun e w' => ∃ gc, e = .returned (.pointer (some ⟨gc, 0, none⟩)) ∧ Three C w' ga gb gc DA DB DA N ∧ Below w.heap.size w w' := by
  obtain ⟨PA, PB, a, b, h1, i, j⟩ := h
  refine (clone_dk a hN hbig).mono ?_
  rintro e w' ⟨gc, rfl, -, hd, hb⟩
  refine ⟨gc, rfl, ⟨PA, PB, here (fun k => w.heap.size ≤ k) w', a.grown hb, b.grown hb, hd.now, h1, ?_, ?_, ?_, ?_, ?_⟩, hb⟩
  · intro k e q
    have h2 := (i k e).2
    have h3 := q.1
    omega
  · intro k e q
    have h2 := (j k e).2
    have h3 := q.1
    omega
  · intro k e
    exact ⟨(i k e).1, Nat.lt_of_lt_of_le (i k e).2 hb.size⟩
  · intro k e
    exact ⟨(j k e).1, Nat.lt_of_lt_of_le (j k e).2 hb.size⟩
  · intro k e
    exact ⟨hC k e.1, e.2⟩
end
end Go.Proofs.Ytomeghngjiaofaa

/-
  What block.must and the cursor's number, text and del answer: contracts over this translation.
-/
import Derived.Test.YteemfhhhdhddhaaCodec
import Derived.Deep.RegionWith
import Derived.Deep.DeepCutAuto
namespace Go.Proofs.Yteemfhhhdhddhaa
open Go.RowKit
/-- What a reader gives up with. -/
def nb : List PanicEntry := [{ v := .iface 79 (.agg #[]), recovered := false }]
theorem must_yes (w : World) : Calls Try.prog 78 #[.bool true] w fun e w' => e = .returned (.tuple #[]) ∧ w' = w := by
  go_enter Try.func78, Try.ntmps78
  go_wp2
  go_end0
  exact ⟨rfl, rfl⟩
theorem must_no (w : World) : Calls Try.prog 78 #[.bool false] w fun e w' => e = .panicked nb ∧ w' = w := by
  go_enter Try.func78, Try.ntmps78
  go_wp2
  exact ⟨rfl, rfl, rfl⟩
theorem gb_refl (w : World) (r : Option Nat) : w.grownBy w r := ⟨rfl, rfl, rfl, Nat.le_refl _, fun _ _ _ => rfl⟩
theorem gb_trans {a w w' : World} {r : Option Nat} (h : a.grownBy w r) (k : w.grownBy w' r) : a.grownBy w' r :=
  ⟨k.os.trans h.os, k.tape.trans h.tape, k.output.trans h.output, Nat.le_trans h.size k.size, fun i hi hn => (k.block i (Nat.lt_of_lt_of_le hi h.size) hn).trans (h.block i hi hn)⟩
theorem gb_below {a w w' : World} {r : Option Nat} {B : Nat} (h : a.grownBy w r) (hb : Below B w w') (hB : w.heap.size ≤ B) : a.grownBy w' r :=
  ⟨hb.os.trans h.os, hb.tape.trans h.tape, hb.output.trans h.output, Nat.le_trans h.size hb.size, fun i hi hn => (hb.block i (by have := h.size; omega)).trans (h.block i hi hn)⟩
theorem gb_drewN {w w' : World} {r : Option Nat} (h : w.grownBy w' r) (q : Nat) : w.grownBy (w'.drewN q) r := gb_below h (bel_drewN (Below.refl w'.heap.size w') q) (Nat.le_refl _)
theorem gb_set {a w : World} {g : Nat} (h : a.grownBy w (some g)) (j : Nat) (v : Value) : a.grownBy (w.setCell ⟨g, j, none⟩ v) (some g) :=
  ⟨h.os, h.tape, h.output, by rw [show (w.setCell ⟨g, j, none⟩ v).heap.size = w.heap.size by simp]; exact h.size, fun k hk hn => by rw [Below.heap_setCell w ⟨g, j, none⟩ v k (fun e => hn (by rw [e]))]; exact h.block k hk hn⟩
theorem gb_alloc {a w : World} {r : Option Nat} (h : a.grownBy w r) (o : Obj) : a.grownBy (w.alloc o) r := gb_below h ((Below.refl _ _).alloc (Nat.le_refl _) o) (Nat.le_refl _)
theorem heap_drewN (w : World) (q : Nat) : (w.drewN q).heap = w.heap := by
  induction q with
  | zero => rfl
  | succ q ih => exact ih
theorem heap_set2 (w : World) (g : Nat) (a b v : Value) (t : TypeId) (hg : w.heap[g]? = some (.cells #[a, b] t (0, 0))) : (w.setCell ⟨g, 1, none⟩ v).heap[g]? = some (.cells #[a, v] t (0, 0)) := by
  unfold World.setCell
  simp only [Array.getElem?_modify, if_pos, hg, Option.map_some]
  rfl
/-- The cursor in block g: the bytes' slice, and the place. -/
def CurAt (w : World) (g : Nat) (v : Value) (at_ : Nat) : Prop := w.heap[g]? = some (.cells #[v, .int .i64 at_] 94 (0, 0))
theorem CurAt.cells {w : World} {g : Nat} {v : Value} {at_ : Nat} (h : CurAt w g v at_) : w.cell? ⟨g, 0, none⟩ = some v ∧ w.cell? ⟨g, 1, none⟩ = some (.int .i64 at_) := by
  unfold CurAt at h
  constructor <;> simp [World.cell?, h]
theorem CurAt.frozen {w : World} {g : Nat} {v : Value} {at_ : Nat} (h : CurAt w g v at_) (j : Nat) : w.frozen? ⟨g, j, none⟩ = false := by
  unfold CurAt at h
  simp [World.frozen?, h]
theorem wrap_at {a k n : Nat} (h : a + k ≤ n) (hn : n ≤ 9223372036854775807) : wrap64 ((a : Int) + (k : Int)) = ((a + k : Nat) : Int) := by unfold wrap64; omega
theorem cur_set {w : World} {g : Nat} {v : Value} {at_ : Nat} (h : CurAt w g v at_) (q : Nat) (z : Nat) : CurAt ((w.drewN q).setCell ⟨g, 1, none⟩ (.int .i64 z)) g v z ∧ w.grownBy ((w.drewN q).setCell ⟨g, 1, none⟩ (.int .i64 z)) (some g) :=
  ⟨heap_set2 _ g _ _ _ 94 (by rw [heap_drewN]; exact h), gb_set (gb_drewN (gb_refl _ _) q) 1 _⟩
set_option maxRecDepth 100000 in
set_option maxHeartbeats 1000000 in
theorem number_any (g b off n c at_ : Nat) (bs : List UInt8) (w : World) (hg : CurAt w g (.slice (some ⟨b, off, none⟩) n c) at_) (hb : Bytes w (some ⟨b, off, none⟩) n bs) (hat : at_ ≤ n) (hnc : n < c) (hc : c ≤ 9223372036854775807) :
    Calls Try.prog 86 #[.pointer (some ⟨g, 0, none⟩)] w fun e w' => w.grownBy w' (some g) ∧
      (if (getB (bs.drop at_)).2.2 = true then e = .returned (.int .u64 (getB (bs.drop at_)).1) ∧ CurAt w' g (.slice (some ⟨b, off, none⟩) n c) (at_ + (getB (bs.drop at_)).2.1)
       else e = .panicked nb) := by
  obtain ⟨c0, c1⟩ := hg.cells
  have fz := hg.frozen 1
  have hatc : (at_ : Int) < (c : Int) := by omega
  have hatn : (at_ : Int) ≤ (n : Int) := by omega
  have CG := fun q => get_any (some ⟨b, off + at_, none⟩) (n - at_) (c - at_) (bs.drop at_) (w.drewN q) (bytes_kept (bytes_drop hb at_) (bel_drewN (Below.refl w.heap.size w) q) (Nat.le_refl _)) (by omega)
  have HG : Hid _ := hg
  have HL : Hid (bs.length = n) := hb.1
  obtain ⟨⟨v, k, ok⟩, HX⟩ : ∃ x, Hid (getB (bs.drop at_) = x) := ⟨_, rfl⟩
  rw [HX.out] at CG ⊢
  have HCG : Hid _ := CG
  clear CG hg hb
  go_enter Try.func86, Try.ntmps86
  go_wp2_with fail
  go_quiet ((go_at_call 68; exact Calls.quiet_of_same (HCG.out _)))
  cases ok with
  | true =>
    have hk : at_ + k ≤ n := by
      have := (getB_once _ _ _ HX.out).2.2.1
      rw [List.length_drop, HL.out] at this
      omega
    have hw := wrap_at hk (by omega)
    go_wp2_with fail
    refine (must_yes _).mono ?_
    rintro e w2 ⟨rfl, rfl⟩
    go_wp2
    go_ret
    obtain ⟨h1, h2⟩ := cur_set HG.out nq (at_ + k)
    exact ⟨h2, rfl, h1⟩
  | false =>
    go_wp2_with fail
    refine (must_no _).mono ?_
    rintro e w2 ⟨rfl, rfl⟩
    go_wp2_with fail
    exact ⟨rfl, gb_drewN (gb_refl _ _) _, rfl⟩
set_option maxRecDepth 100000 in
set_option maxHeartbeats 1000000 in
theorem textc_any (g b off n c at_ : Nat) (bs : List UInt8) (w : World) (hg : CurAt w g (.slice (some ⟨b, off, none⟩) n c) at_) (hb : Bytes w (some ⟨b, off, none⟩) n bs) (hat : at_ ≤ n) (hnc : n < c) (hc : c ≤ 9223372036854775807) :
    Calls Try.prog 87 #[.pointer (some ⟨g, 0, none⟩)] w fun e w' => w.grownBy w' (some g) ∧ w'.heap.size = w.heap.size ∧
      (if (textOf (bs.drop at_)).2.2 = true then e = .returned (.string ⟨(textOf (bs.drop at_)).1.toArray⟩) ∧ CurAt w' g (.slice (some ⟨b, off, none⟩) n c) (at_ + (textOf (bs.drop at_)).2.1)
       else e = .panicked nb) := by
  obtain ⟨c0, c1⟩ := hg.cells
  have fz := hg.frozen 1
  have hatc : (at_ : Int) < (c : Int) := by omega
  have hatn : (at_ : Int) ≤ (n : Int) := by omega
  have CG := fun q => text_any (some ⟨b, off + at_, none⟩) (n - at_) (c - at_) (bs.drop at_) (w.drewN q) (bytes_kept (bytes_drop hb at_) (bel_drewN (Below.refl w.heap.size w) q) (Nat.le_refl _)) (by omega) (by omega)
  have HG : Hid _ := hg
  have HL : Hid (bs.length = n) := hb.1
  have hlen : (textOf (bs.drop at_)).2.2 = true → at_ + (textOf (bs.drop at_)).2.1 ≤ n := by
    intro h
    unfold textOf at h ⊢
    split at h
    · cases h
    · rename_i hc
      rw [if_neg hc]
      have h1 : (getB (bs.drop at_)).2.2 = true := by cases hh : (getB (bs.drop at_)).2.2 with | true => rfl | false => exact absurd (.inl hh) hc
      have := getB_once (bs.drop at_) (getB (bs.drop at_)).1 (getB (bs.drop at_)).2.1 (by rw [← h1])
      have h2 : (bs.drop at_).length = n - at_ := by rw [List.length_drop, HL.out]
      simp only
      omega
  obtain ⟨⟨v, k, ok⟩, HX⟩ : ∃ x, Hid (textOf (bs.drop at_) = x) := ⟨_, rfl⟩
  rw [HX.out] at CG hlen ⊢
  have HCG : Hid _ := CG
  clear CG hg hb
  go_enter Try.func87, Try.ntmps87
  go_wp2_with fail
  go_quiet ((go_at_call 69; exact Calls.quiet_of_same (HCG.out _)))
  cases ok with
  | true =>
    have hw := wrap_at (hlen rfl) (by omega)
    clear hlen
    go_wp2_with fail
    refine (must_yes _).mono ?_
    rintro e w2 ⟨rfl, rfl⟩
    go_wp2
    go_ret
    obtain ⟨h1, h2⟩ := cur_set HG.out nq (at_ + k)
    exact ⟨h2, by simp, rfl, h1⟩
  | false =>
    go_wp2_with fail
    refine (must_no _).mono ?_
    rintro e w2 ⟨rfl, rfl⟩
    go_wp2_with fail
    exact ⟨rfl, gb_drewN (gb_refl _ _) _, by rw [heap_drewN], rfl⟩
set_option maxRecDepth 100000 in
set_option maxHeartbeats 1000000 in
theorem del_end (g b off n c at_ : Nat) (w : World) (hg : CurAt w g (.slice (some ⟨b, off, none⟩) n c) at_) (hat : ¬ at_ < n) :
    Calls Try.prog 88 #[.pointer (some ⟨g, 0, none⟩)] w fun e w' => w.grownBy w' (some g) ∧ e = .panicked nb := by
  obtain ⟨c0, c1⟩ := hg.cells
  have hatn : ¬ (at_ : Int) < (n : Int) := by omega
  have hatd : decide ((at_ : Int) < (n : Int)) = false := by simp; omega
  clear hg
  go_enter Try.func88, Try.ntmps88
  go_wp2_with fail
  refine wp_region_held_drew (S := fun w' => w'.cell? ⟨g, 0, none⟩ = some (.slice (some ⟨b, off, none⟩) n c) ∧ w'.cell? ⟨g, 1, none⟩ = some (.int .i64 at_)) (by kernel_rfl) ⟨c0, c1⟩ (fun hS => ?_)
  refine wpAnyH_take (i := 0) (v := ?_) rfl (by kernel_rfl) (by kernel_rfl) (by kernel_rfl) (fun _ _ _ h => h) (Or.inl ⟨by rfl, ?_⟩) (by assumption) ?_
  rotate_left
  · (intro w hSw; (try dsimp only at hSw); go_simp; try with_reducible rfl)
  simp only [Act.put, List.getElem_toArray, List.getElem_cons_zero, List.setIfInBounds_toArray, List.set_cons_zero, List.set_cons_succ]
  refine wpAnyH_take (i := 1) (v := ?_) rfl (by kernel_rfl) (by kernel_rfl) (by kernel_rfl) (fun _ _ _ h => h) (Or.inl ⟨by rfl, ?_⟩) (by assumption) ?_
  rotate_left
  · (intro w hSw; (try dsimp only at hSw); go_simp; try with_reducible rfl)
  simp only [Act.put, List.getElem_toArray, List.getElem_cons_zero, List.getElem_cons_succ, List.setIfInBounds_toArray, List.set_cons_zero, List.set_cons_succ]
  refine wpAnyH_take (i := 2) (v := ?_) rfl (by kernel_rfl) (by kernel_rfl) (by kernel_rfl) (fun _ _ _ h => h) (Or.inl ⟨by rfl, ?_⟩) (by assumption) ?_
  rotate_left
  · (intro w hSw; (try dsimp only at hSw); go_simp; try with_reducible rfl)
  simp only [Act.put, List.getElem_toArray, List.getElem_cons_zero, List.getElem_cons_succ, List.setIfInBounds_toArray, List.set_cons_zero, List.set_cons_succ]
  refine wpAnyH_take (i := 3) (v := ?_) rfl (by kernel_rfl) (by kernel_rfl) (by kernel_rfl) (fun _ _ _ h => h) (Or.inl ⟨by rfl, ?_⟩) (by assumption) ?_
  rotate_left
  · (intro w hSw; (try dsimp only at hSw); go_simp; try with_reducible rfl)
  simp only [Act.put, List.getElem_toArray, List.getElem_cons_zero, List.getElem_cons_succ, List.setIfInBounds_toArray, List.set_cons_zero, List.set_cons_succ]
  refine wpAnyH_take (i := 4) (v := ?_) rfl (by kernel_rfl) (by kernel_rfl) (by kernel_rfl) (fun _ _ _ h => h) (Or.inl ⟨by rfl, ?_⟩) (by assumption) ?_
  rotate_left
  · (intro w hSw; (try dsimp only at hSw); go_simp; try with_reducible rfl)
  simp only [Act.put, List.getElem_toArray, List.getElem_cons_zero, List.getElem_cons_succ, List.setIfInBounds_toArray, List.set_cons_zero, List.set_cons_succ]
  refine wpAnyH_take (i := 5) (v := ?_) rfl (by kernel_rfl) (by kernel_rfl) (by kernel_rfl) (fun _ _ _ h => h) (Or.inl ⟨by rfl, ?_⟩) (by assumption) ?_
  rotate_left
  · (intro w hSw; (try dsimp only at hSw); go_simp; try with_reducible rfl)
  simp only [Act.put, List.getElem_toArray, List.getElem_cons_zero, List.getElem_cons_succ, List.setIfInBounds_toArray, List.set_cons_zero, List.set_cons_succ]
  refine wpAnyH_take (i := 6) (v := ?_) rfl (by kernel_rfl) (by kernel_rfl) (by kernel_rfl) (fun _ _ _ h => h) (Or.inl ⟨by rfl, ?_⟩) (by assumption) ?_
  rotate_left
  · (intro w hSw; (try dsimp only at hSw); go_simp; try with_reducible rfl)
  simp only [Act.put, List.getElem_toArray, List.getElem_cons_zero, List.getElem_cons_succ, List.setIfInBounds_toArray, List.set_cons_zero, List.set_cons_succ]
  refine wpAnyH_take (i := 7) (v := ?_) rfl (by kernel_rfl) (by kernel_rfl) (by kernel_rfl) (fun _ _ _ h => h) (Or.inl ⟨by rfl, ?_⟩) (by assumption) ?_
  rotate_left
  · (intro w hSw; (try dsimp only at hSw); go_simp; try with_reducible rfl)
  simp only [Act.put, List.getElem_toArray, List.getElem_cons_zero, List.getElem_cons_succ, List.setIfInBounds_toArray, List.set_cons_zero, List.set_cons_succ]
  refine wpAnyH_take (i := 8) (v := ?_) rfl (by kernel_rfl) (by kernel_rfl) (by kernel_rfl) (fun _ _ _ h => h) (Or.inl ⟨by rfl, ?_⟩) (by assumption) ?_
  rotate_left
  · (intro w hSw; (try dsimp only at hSw); go_simp; try with_reducible rfl)
  simp only [Act.put, List.getElem_toArray, List.getElem_cons_zero, List.getElem_cons_succ, List.setIfInBounds_toArray, List.set_cons_zero, List.set_cons_succ]
  refine wpAnyH_take (i := 9) (v := ?_) rfl (by kernel_rfl) (by kernel_rfl) (by kernel_rfl) (fun _ _ _ h => h) (Or.inl ⟨by rfl, ?_⟩) (by assumption) ?_
  rotate_left
  · (intro w hSw; (try dsimp only at hSw); go_simp; try with_reducible rfl)
  simp only [Act.put, List.getElem_toArray, List.getElem_cons_zero, List.getElem_cons_succ, List.setIfInBounds_toArray, List.set_cons_zero, List.set_cons_succ]
  refine wpAnyH_ready (rs := [10]) (by kernel_rfl) (by simp) ?_
  refine AllReadyH.cons rfl (fun K hK => ?_) ?_
  rotate_left
  · exact AllReadyH.nil
  go_simp
  refine (must_no _).mono ?_
  rintro e w2 ⟨rfl, rfl⟩
  exact ⟨rfl, gb_below (gb_refl _ _) (Below.refl w.heap.size w).drew (Nat.le_refl _), rfl⟩
set_option maxRecDepth 100000 in
set_option maxHeartbeats 1000000 in
theorem del_at (g b off n c at_ : Nat) (t : UInt8) (w : World) (hg : CurAt w g (.slice (some ⟨b, off, none⟩) n c) at_) (hcell : w.cell? ⟨b, off + at_, none⟩ = some (.int .u8 t.toNat)) (hat : at_ < n) (hn : n ≤ 9223372036854775807) :
    Calls Try.prog 88 #[.pointer (some ⟨g, 0, none⟩)] w fun e w' => w.grownBy w' (some g) ∧
      (if 1 < t.toNat then e = .panicked nb else e = .returned (.bool (decide (t.toNat = 1))) ∧ CurAt w' g (.slice (some ⟨b, off, none⟩) n c) (at_ + 1)) := by
  obtain ⟨c0, c1⟩ := hg.cells
  have fz := hg.frozen 1
  have hatn : (at_ : Int) < (n : Int) := by omega
  have hat0 : (0 : Int) ≤ (at_ : Int) := by omega
  have hw : wrap64 ((at_ : Int) + 1) = ((at_ + 1 : Nat) : Int) := wrap_at (k := 1) (n := n) (by omega) hn
  have HG : Hid _ := hg
  clear hg
  by_cases h2 : 1 < t.toNat
  · have q0 : ((t.toNat : Int) == 0) = false := by simp; omega
    have q1 : ((t.toNat : Int) == 1) = false := by simp; omega
    simp only [if_pos h2]
    go_enter Try.func88, Try.ntmps88
    go_wp2_with fail
    go_quiet ((go_at_call 78; exact Calls.quiet_of_same (must_yes _)))
    go_wp2_with fail
    go_quiet (fail)
    go_wp2_with fail
    refine (must_no _).mono ?_
    rintro e w2 ⟨rfl, rfl⟩
    go_wp2_with fail
    exact ⟨rfl, gb_drewN (gb_refl _ _) _, rfl⟩
  · simp only [if_neg h2]
    have ht : t.toNat = 0 ∨ t.toNat = 1 := by omega
    clear h2
    rcases ht with h | h
    · have q0 : ((t.toNat : Int) == 0) = true := by simp; omega
      have q1 : ((t.toNat : Int) == 1) = false := by simp; omega
      have HD : Hid (decide (t.toNat = 1) = false) := by show _ = _; rw [h]; rfl
      rw [HD.out]
      clear h
      go_enter Try.func88, Try.ntmps88
      go_wp2_with fail
      go_quiet ((go_at_call 78; exact Calls.quiet_of_same (must_yes _)))
      go_wp2_with fail
      go_quiet (fail)
      go_wp2_with fail
      refine (must_yes _).mono ?_
      rintro e w2 ⟨rfl, rfl⟩
      go_wp2
      go_ret
      obtain ⟨h1, h2⟩ := cur_set HG.out (_ + nq) (at_ + 1)
      exact ⟨h2, rfl, h1⟩
    · have q0 : ((t.toNat : Int) == 0) = false := by simp; omega
      have q1 : ((t.toNat : Int) == 1) = true := by simp; omega
      have HD : Hid (decide (t.toNat = 1) = true) := by show _ = _; rw [h]; rfl
      rw [HD.out]
      clear h
      go_enter Try.func88, Try.ntmps88
      go_wp2_with fail
      go_quiet ((go_at_call 78; exact Calls.quiet_of_same (must_yes _)))
      go_wp2_with fail
      go_quiet (fail)
      go_wp2_with fail
      refine (must_yes _).mono ?_
      rintro e w2 ⟨rfl, rfl⟩
      go_wp2
      go_ret
      obtain ⟨h1, h2⟩ := cur_set HG.out (_ + nq) (at_ + 1)
      exact ⟨h2, rfl, h1⟩
end Go.Proofs.Yteemfhhhdhddhaa

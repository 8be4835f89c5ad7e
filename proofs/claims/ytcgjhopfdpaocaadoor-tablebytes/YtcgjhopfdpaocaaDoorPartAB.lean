/-
  What block.must and the cursor's number, text and del answer: contracts over this translation. What entry.Right, marlstoneref03.Right and entry.byKeyAndSeq answer: contracts over this translation. What entry.byKeyAndSeq answers, and the comparison's laws: a contract over this translation. Stable sorts and what entries come to: plain mathematics, no program.
-/
import Derived.Test.YtcgjhopfdpaocaaDoorCodec
import Derived.Deep.RegionWith
import Derived.Deep.DeepCutAuto
import Derived.Shelf.SlSortCmp.InsertionK
import Derived.Shelf.Small.Strs
namespace Go.Proofs.YtcgjhopfdpaocaaDoor
open Go.RowKit
/-- What a reader gives up with. -/
def nb : List PanicEntry := [{ v := .iface 124 (.agg #[]), recovered := false }]
theorem must_yes (w : World) : Calls Tryd.prog 103 #[.bool true] w fun e w' => e = .returned (.tuple #[]) ∧ w' = w := by
  go_enter Tryd.func103, Tryd.ntmps103
  go_wp2
  go_end0
  exact ⟨rfl, rfl⟩
theorem must_no (w : World) : Calls Tryd.prog 103 #[.bool false] w fun e w' => e = .panicked nb ∧ w' = w := by
  go_enter Tryd.func103, Tryd.ntmps103
  go_wp2
  exact ⟨rfl, rfl, rfl⟩
theorem gb_refl (w : World) (r : Option Nat) : w.grownBy w r := ⟨rfl, rfl, rfl, Nat.le_refl _, fun _ _ _ => rfl⟩
theorem gb_trans {a w w' : World} {r : Option Nat} (h : a.grownBy w r) (k : w.grownBy w' r) : a.grownBy w' r :=
  ⟨k.os.trans h.os, k.tape.trans h.tape, k.output.trans h.output, Nat.le_trans h.size k.size, fun i hi hn => (k.block i (Nat.lt_of_lt_of_le hi h.size) hn).trans (h.block i hi hn)⟩
theorem gb_below {a w w' : World} {r : Option Nat} {B : Nat} (h : a.grownBy w r) (hb : Below B w w') (hB : w.heap.size ≤ B) : a.grownBy w' r :=
  ⟨hb.os.trans h.os, hb.tape.trans h.tape, hb.output.trans h.output, Nat.le_trans h.size hb.size, fun i hi hn => (hb.block i (by have := h.size; omega)).trans (h.block i hi hn)⟩
theorem gb_drewN {w w' : World} {r : Option Nat} (h : w.grownBy w' r) (q : Nat) : w.grownBy (w'.drewN q) r := gb_below h (bel_drewN (Below.refl w'.heap.size w') q) (Nat.le_refl _)
theorem gb_set {a w : World} {g : Nat} (h : a.grownBy w (some g)) (j : Nat) (v : Value) : a.grownBy (w.setCell ⟨g, j, none⟩ v) (some g) :=
  ⟨h.os, h.tape, h.output, by rw [show (w.setCell ⟨g, j, none⟩ v).heap.size = w.heap.size by simp]; exact h.size, fun k hk hn => by rw [Below.heap_setCell w ⟨g, j, none⟩ v k (fun e => hn (by rw [e]))]; exact h.block k hk hn⟩
theorem gb_alloc {a w : World} {r : Option Nat} (h : a.grownBy w r) (o : Obj) : a.grownBy (w.alloc o) r := gb_below h ((Below.refl _ _).alloc (Nat.le_refl _) o) (Nat.le_refl _)
theorem heap_drewN (w : World) (q : Nat) : (w.drewN q).heap = w.heap := by
  induction q with
  | zero => rfl
  | succ q ih => exact ih
theorem heap_set2 (w : World) (g : Nat) (a b v : Value) (t : TypeId) (hg : w.heap[g]? = some (.cells #[a, b] t (0, 0))) : (w.setCell ⟨g, 1, none⟩ v).heap[g]? = some (.cells #[a, v] t (0, 0)) := by
  unfold World.setCell
  simp only [Array.getElem?_modify, if_pos, hg, Option.map_some]
  rfl
/-- The cursor in block g: the bytes' slice, and the place. -/
def CurAt (w : World) (g : Nat) (v : Value) (at_ : Nat) : Prop := w.heap[g]? = some (.cells #[v, .int .i64 at_] 142 (0, 0))
theorem CurAt.cells {w : World} {g : Nat} {v : Value} {at_ : Nat} (h : CurAt w g v at_) : w.cell? ⟨g, 0, none⟩ = some v ∧ w.cell? ⟨g, 1, none⟩ = some (.int .i64 at_) := by
  unfold CurAt at h
  constructor <;> simp [World.cell?, h]
theorem CurAt.frozen {w : World} {g : Nat} {v : Value} {at_ : Nat} (h : CurAt w g v at_) (j : Nat) : w.frozen? ⟨g, j, none⟩ = false := by
  unfold CurAt at h
  simp [World.frozen?, h]
theorem wrap_at {a k n : Nat} (h : a + k ≤ n) (hn : n ≤ 9223372036854775807) : wrap64 ((a : Int) + (k : Int)) = ((a + k : Nat) : Int) := by unfold wrap64; omega
theorem cur_set {w : World} {g : Nat} {v : Value} {at_ : Nat} (h : CurAt w g v at_) (q : Nat) (z : Nat) : CurAt ((w.drewN q).setCell ⟨g, 1, none⟩ (.int .i64 z)) g v z ∧ w.grownBy ((w.drewN q).setCell ⟨g, 1, none⟩ (.int .i64 z)) (some g) :=
  ⟨heap_set2 _ g _ _ _ 142 (by rw [heap_drewN]; exact h), gb_set (gb_drewN (gb_refl _ _) q) 1 _⟩
set_option maxRecDepth 100000 in
set_option maxHeartbeats 1000000 in
theorem number_any (g b off n c at_ : Nat) (bs : List UInt8) (w : World) (hg : CurAt w g (.slice (some ⟨b, off, none⟩) n c) at_) (hb : Bytes w (some ⟨b, off, none⟩) n bs) (hat : at_ ≤ n) (hnc : n < c) (hc : c ≤ 9223372036854775807) :
    Calls Tryd.prog 114 #[.pointer (some ⟨g, 0, none⟩)] w fun e w' => w.grownBy w' (some g) ∧
      (if (getB (bs.drop at_)).2.2 = true then e = .returned (.int .u64 (getB (bs.drop at_)).1) ∧ CurAt w' g (.slice (some ⟨b, off, none⟩) n c) (at_ + (getB (bs.drop at_)).2.1)
       else e = .panicked nb) := by
  obtain ⟨c0, c1⟩ := hg.cells
  have fz := hg.frozen 1
  have hatc : (at_ : Int) < (c : Int) := by omega
  have hatn : (at_ : Int) ≤ (n : Int) := by omega
  have CG := fun q => get_any (some ⟨b, off + at_, none⟩) (n - at_) (c - at_) (bs.drop at_) (w.drewN q) (bytes_kept (bytes_drop hb at_) (bel_drewN (Below.refl w.heap.size w) q) (Nat.le_refl _)) (by omega)
  have HG : Hid _ := hg
  have HL : Hid (bs.length = n) := hb.1
  obtain ⟨⟨v, k, ok⟩, HX⟩ : ∃ x, Hid (getB (bs.drop at_) = x) := ⟨_, rfl⟩
  rw [HX.out] at CG ⊢
  have HCG : Hid _ := CG
  clear CG hg hb
  go_enter Tryd.func114, Tryd.ntmps114
  go_wp2_with fail
  go_quiet ((go_at_call 76; exact Calls.quiet_of_same (HCG.out _)))
  cases ok with
  | true =>
    have hk : at_ + k ≤ n := by
      have := (getB_once _ _ _ HX.out).2.2.1
      rw [List.length_drop, HL.out] at this
      omega
    have hw := wrap_at hk (by omega)
    go_wp2_with fail
    refine (must_yes _).mono ?_
    rintro e w2 ⟨rfl, rfl⟩
    go_wp2
    go_ret
    obtain ⟨h1, h2⟩ := cur_set HG.out nq (at_ + k)
    exact ⟨h2, rfl, h1⟩
  | false =>
    go_wp2_with fail
    refine (must_no _).mono ?_
    rintro e w2 ⟨rfl, rfl⟩
    go_wp2_with fail
    exact ⟨rfl, gb_drewN (gb_refl _ _) _, rfl⟩
set_option maxRecDepth 100000 in
set_option maxHeartbeats 1000000 in
theorem textc_any (g b off n c at_ : Nat) (bs : List UInt8) (w : World) (hg : CurAt w g (.slice (some ⟨b, off, none⟩) n c) at_) (hb : Bytes w (some ⟨b, off, none⟩) n bs) (hat : at_ ≤ n) (hnc : n < c) (hc : c ≤ 9223372036854775807) :
    Calls Tryd.prog 115 #[.pointer (some ⟨g, 0, none⟩)] w fun e w' => w.grownBy w' (some g) ∧ w'.heap.size = w.heap.size ∧
      (if (textOf (bs.drop at_)).2.2 = true then e = .returned (.string ⟨(textOf (bs.drop at_)).1.toArray⟩) ∧ CurAt w' g (.slice (some ⟨b, off, none⟩) n c) (at_ + (textOf (bs.drop at_)).2.1)
       else e = .panicked nb) := by
  obtain ⟨c0, c1⟩ := hg.cells
  have fz := hg.frozen 1
  have hatc : (at_ : Int) < (c : Int) := by omega
  have hatn : (at_ : Int) ≤ (n : Int) := by omega
  have CG := fun q => text_any (some ⟨b, off + at_, none⟩) (n - at_) (c - at_) (bs.drop at_) (w.drewN q) (bytes_kept (bytes_drop hb at_) (bel_drewN (Below.refl w.heap.size w) q) (Nat.le_refl _)) (by omega) (by omega)
  have HG : Hid _ := hg
  have HL : Hid (bs.length = n) := hb.1
  have hlen : (textOf (bs.drop at_)).2.2 = true → at_ + (textOf (bs.drop at_)).2.1 ≤ n := by
    intro h
    unfold textOf at h ⊢
    split at h
    · cases h
    · rename_i hc
      rw [if_neg hc]
      have h1 : (getB (bs.drop at_)).2.2 = true := by cases hh : (getB (bs.drop at_)).2.2 with | true => rfl | false => exact absurd (.inl hh) hc
      have := getB_once (bs.drop at_) (getB (bs.drop at_)).1 (getB (bs.drop at_)).2.1 (by rw [← h1])
      have h2 : (bs.drop at_).length = n - at_ := by rw [List.length_drop, HL.out]
      simp only
      omega
  obtain ⟨⟨v, k, ok⟩, HX⟩ : ∃ x, Hid (textOf (bs.drop at_) = x) := ⟨_, rfl⟩
  rw [HX.out] at CG hlen ⊢
  have HCG : Hid _ := CG
  clear CG hg hb
  go_enter Tryd.func115, Tryd.ntmps115
  go_wp2_with fail
  go_quiet ((go_at_call 77; exact Calls.quiet_of_same (HCG.out _)))
  cases ok with
  | true =>
    have hw := wrap_at (hlen rfl) (by omega)
    clear hlen
    go_wp2_with fail
    refine (must_yes _).mono ?_
    rintro e w2 ⟨rfl, rfl⟩
    go_wp2
    go_ret
    obtain ⟨h1, h2⟩ := cur_set HG.out nq (at_ + k)
    exact ⟨h2, by simp, rfl, h1⟩
  | false =>
    go_wp2_with fail
    refine (must_no _).mono ?_
    rintro e w2 ⟨rfl, rfl⟩
    go_wp2_with fail
    exact ⟨rfl, gb_drewN (gb_refl _ _) _, by rw [heap_drewN], rfl⟩
set_option maxRecDepth 100000 in
set_option maxHeartbeats 1000000 in
theorem del_end (g b off n c at_ : Nat) (w : World) (hg : CurAt w g (.slice (some ⟨b, off, none⟩) n c) at_) (hat : ¬ at_ < n) :
    Calls Tryd.prog 116 #[.pointer (some ⟨g, 0, none⟩)] w fun e w' => w.grownBy w' (some g) ∧ e = .panicked nb := by
  obtain ⟨c0, c1⟩ := hg.cells
  have hatn : ¬ (at_ : Int) < (n : Int) := by omega
  have hatd : decide ((at_ : Int) < (n : Int)) = false := by simp; omega
  clear hg
  go_enter Tryd.func116, Tryd.ntmps116
  go_wp2_with fail
  refine wp_region_held_drew (S := fun w' => w'.cell? ⟨g, 0, none⟩ = some (.slice (some ⟨b, off, none⟩) n c) ∧ w'.cell? ⟨g, 1, none⟩ = some (.int .i64 at_)) (by kernel_rfl) ⟨c0, c1⟩ (fun hS => ?_)
  refine wpAnyH_take (i := 0) (v := ?_) rfl (by kernel_rfl) (by kernel_rfl) (by kernel_rfl) (fun _ _ _ h => h) (Or.inl ⟨by rfl, ?_⟩) (by assumption) ?_
  rotate_left
  · (intro w hSw; (try dsimp only at hSw); go_simp; try with_reducible rfl)
  simp only [Act.put, List.getElem_toArray, List.getElem_cons_zero, List.setIfInBounds_toArray, List.set_cons_zero, List.set_cons_succ]
  refine wpAnyH_take (i := 1) (v := ?_) rfl (by kernel_rfl) (by kernel_rfl) (by kernel_rfl) (fun _ _ _ h => h) (Or.inl ⟨by rfl, ?_⟩) (by assumption) ?_
  rotate_left
  · (intro w hSw; (try dsimp only at hSw); go_simp; try with_reducible rfl)
  simp only [Act.put, List.getElem_toArray, List.getElem_cons_zero, List.getElem_cons_succ, List.setIfInBounds_toArray, List.set_cons_zero, List.set_cons_succ]
  refine wpAnyH_take (i := 2) (v := ?_) rfl (by kernel_rfl) (by kernel_rfl) (by kernel_rfl) (fun _ _ _ h => h) (Or.inl ⟨by rfl, ?_⟩) (by assumption) ?_
  rotate_left
  · (intro w hSw; (try dsimp only at hSw); go_simp; try with_reducible rfl)
  simp only [Act.put, List.getElem_toArray, List.getElem_cons_zero, List.getElem_cons_succ, List.setIfInBounds_toArray, List.set_cons_zero, List.set_cons_succ]
  refine wpAnyH_take (i := 3) (v := ?_) rfl (by kernel_rfl) (by kernel_rfl) (by kernel_rfl) (fun _ _ _ h => h) (Or.inl ⟨by rfl, ?_⟩) (by assumption) ?_
  rotate_left
  · (intro w hSw; (try dsimp only at hSw); go_simp; try with_reducible rfl)
  simp only [Act.put, List.getElem_toArray, List.getElem_cons_zero, List.getElem_cons_succ, List.setIfInBounds_toArray, List.set_cons_zero, List.set_cons_succ]
  refine wpAnyH_take (i := 4) (v := ?_) rfl (by kernel_rfl) (by kernel_rfl) (by kernel_rfl) (fun _ _ _ h => h) (Or.inl ⟨by rfl, ?_⟩) (by assumption) ?_
  rotate_left
  · (intro w hSw; (try dsimp only at hSw); go_simp; try with_reducible rfl)
  simp only [Act.put, List.getElem_toArray, List.getElem_cons_zero, List.getElem_cons_succ, List.setIfInBounds_toArray, List.set_cons_zero, List.set_cons_succ]
  refine wpAnyH_take (i := 5) (v := ?_) rfl (by kernel_rfl) (by kernel_rfl) (by kernel_rfl) (fun _ _ _ h => h) (Or.inl ⟨by rfl, ?_⟩) (by assumption) ?_
  rotate_left
  · (intro w hSw; (try dsimp only at hSw); go_simp; try with_reducible rfl)
  simp only [Act.put, List.getElem_toArray, List.getElem_cons_zero, List.getElem_cons_succ, List.setIfInBounds_toArray, List.set_cons_zero, List.set_cons_succ]
  refine wpAnyH_take (i := 6) (v := ?_) rfl (by kernel_rfl) (by kernel_rfl) (by kernel_rfl) (fun _ _ _ h => h) (Or.inl ⟨by rfl, ?_⟩) (by assumption) ?_
  rotate_left
  · (intro w hSw; (try dsimp only at hSw); go_simp; try with_reducible rfl)
  simp only [Act.put, List.getElem_toArray, List.getElem_cons_zero, List.getElem_cons_succ, List.setIfInBounds_toArray, List.set_cons_zero, List.set_cons_succ]
  refine wpAnyH_take (i := 7) (v := ?_) rfl (by kernel_rfl) (by kernel_rfl) (by kernel_rfl) (fun _ _ _ h => h) (Or.inl ⟨by rfl, ?_⟩) (by assumption) ?_
  rotate_left
  · (intro w hSw; (try dsimp only at hSw); go_simp; try with_reducible rfl)
  simp only [Act.put, List.getElem_toArray, List.getElem_cons_zero, List.getElem_cons_succ, List.setIfInBounds_toArray, List.set_cons_zero, List.set_cons_succ]
  refine wpAnyH_take (i := 8) (v := ?_) rfl (by kernel_rfl) (by kernel_rfl) (by kernel_rfl) (fun _ _ _ h => h) (Or.inl ⟨by rfl, ?_⟩) (by assumption) ?_
  rotate_left
  · (intro w hSw; (try dsimp only at hSw); go_simp; try with_reducible rfl)
  simp only [Act.put, List.getElem_toArray, List.getElem_cons_zero, List.getElem_cons_succ, List.setIfInBounds_toArray, List.set_cons_zero, List.set_cons_succ]
  refine wpAnyH_take (i := 9) (v := ?_) rfl (by kernel_rfl) (by kernel_rfl) (by kernel_rfl) (fun _ _ _ h => h) (Or.inl ⟨by rfl, ?_⟩) (by assumption) ?_
  rotate_left
  · (intro w hSw; (try dsimp only at hSw); go_simp; try with_reducible rfl)
  simp only [Act.put, List.getElem_toArray, List.getElem_cons_zero, List.getElem_cons_succ, List.setIfInBounds_toArray, List.set_cons_zero, List.set_cons_succ]
  refine wpAnyH_ready (rs := [10]) (by kernel_rfl) (by simp) ?_
  refine AllReadyH.cons rfl (fun K hK => ?_) ?_
  rotate_left
  · exact AllReadyH.nil
  go_simp
  refine (must_no _).mono ?_
  rintro e w2 ⟨rfl, rfl⟩
  exact ⟨rfl, gb_below (gb_refl _ _) (Below.refl w.heap.size w).drew (Nat.le_refl _), rfl⟩
set_option maxRecDepth 100000 in
set_option maxHeartbeats 1000000 in
theorem del_at (g b off n c at_ : Nat) (t : UInt8) (w : World) (hg : CurAt w g (.slice (some ⟨b, off, none⟩) n c) at_) (hcell : w.cell? ⟨b, off + at_, none⟩ = some (.int .u8 t.toNat)) (hat : at_ < n) (hn : n ≤ 9223372036854775807) :
    Calls Tryd.prog 116 #[.pointer (some ⟨g, 0, none⟩)] w fun e w' => w.grownBy w' (some g) ∧
      (if 1 < t.toNat then e = .panicked nb else e = .returned (.bool (decide (t.toNat = 1))) ∧ CurAt w' g (.slice (some ⟨b, off, none⟩) n c) (at_ + 1)) := by
  obtain ⟨c0, c1⟩ := hg.cells
  have fz := hg.frozen 1
  have hatn : (at_ : Int) < (n : Int) := by omega
  have hat0 : (0 : Int) ≤ (at_ : Int) := by omega
  have hw : wrap64 ((at_ : Int) + 1) = ((at_ + 1 : Nat) : Int) := wrap_at (k := 1) (n := n) (by omega) hn
  have HG : Hid _ := hg
  clear hg
  by_cases h2 : 1 < t.toNat
  · have q0 : ((t.toNat : Int) == 0) = false := by simp; omega
    have q1 : ((t.toNat : Int) == 1) = false := by simp; omega
    simp only [if_pos h2]
    go_enter Tryd.func116, Tryd.ntmps116
    go_wp2_with fail
    go_quiet ((go_at_call 103; exact Calls.quiet_of_same (must_yes _)))
    go_wp2_with fail
    go_quiet (fail)
    go_wp2_with fail
    refine (must_no _).mono ?_
    rintro e w2 ⟨rfl, rfl⟩
    go_wp2_with fail
    exact ⟨rfl, gb_drewN (gb_refl _ _) _, rfl⟩
  · simp only [if_neg h2]
    have ht : t.toNat = 0 ∨ t.toNat = 1 := by omega
    clear h2
    rcases ht with h | h
    · have q0 : ((t.toNat : Int) == 0) = true := by simp; omega
      have q1 : ((t.toNat : Int) == 1) = false := by simp; omega
      have HD : Hid (decide (t.toNat = 1) = false) := by show _ = _; rw [h]; rfl
      rw [HD.out]
      clear h
      go_enter Tryd.func116, Tryd.ntmps116
      go_wp2_with fail
      go_quiet ((go_at_call 103; exact Calls.quiet_of_same (must_yes _)))
      go_wp2_with fail
      go_quiet (fail)
      go_wp2_with fail
      refine (must_yes _).mono ?_
      rintro e w2 ⟨rfl, rfl⟩
      go_wp2
      go_ret
      obtain ⟨h1, h2⟩ := cur_set HG.out (_ + nq) (at_ + 1)
      exact ⟨h2, rfl, h1⟩
    · have q0 : ((t.toNat : Int) == 0) = false := by simp; omega
      have q1 : ((t.toNat : Int) == 1) = true := by simp; omega
      have HD : Hid (decide (t.toNat = 1) = true) := by show _ = _; rw [h]; rfl
      rw [HD.out]
      clear h
      go_enter Tryd.func116, Tryd.ntmps116
      go_wp2_with fail
      go_quiet ((go_at_call 103; exact Calls.quiet_of_same (must_yes _)))
      go_wp2_with fail
      go_quiet (fail)
      go_wp2_with fail
      refine (must_yes _).mono ?_
      rintro e w2 ⟨rfl, rfl⟩
      go_wp2
      go_ret
      obtain ⟨h1, h2⟩ := cur_set HG.out (_ + nq) (at_ + 1)
      exact ⟨h2, rfl, h1⟩
end Go.Proofs.YtcgjhopfdpaocaaDoor
namespace Go.Proofs.YtcgjhopfdpaocaaDoor
open Go.RowKit Go.Sort
/-- An entry. -/
structure E where
  key : ByteArray
  value : ByteArray
  del : Bool
  seq : Int
def encE (e : E) : List Value := [.string e.key, .string e.value, .bool e.del, .int .i64 e.seq]
def rightB (e : E) : Bool := decide (1 ≤ e.key.size ∧ e.key.size ≤ 128 ∧ e.value.size ≤ 1024 ∧ (e.del = true → e.value.size = 0) ∧ 1 ≤ e.seq ∧ e.seq ≤ 1099511627776)
theorem size_zero (s : ByteArray) : (s.size = 0) ↔ s = ByteArray.empty := by
  constructor
  · intro h; cases s with | mk d => simp [ByteArray.size] at h; subst h; rfl
  · intro h; subst h; rfl
set_option maxRecDepth 100000 in
set_option maxHeartbeats 1000000 in
theorem right_any (k v : ByteArray) (d : Bool) (q : Int) (w : World) (hk : k.size ≤ 9223372036854775807) (hv : v.size ≤ 9223372036854775807) :
    Calls Tryd.prog 43 #[.agg #[.string k, .string v, .bool d, .int .i64 q]] w fun r w' => r = .returned (.bool (rightB ⟨k, v, d, q⟩)) ∧ Below w.heap.size w w' := by
  obtain ⟨r, HR⟩ : ∃ r, Hid (rightB ⟨k, v, d, q⟩ = r) := ⟨_, rfl⟩
  rw [HR.out]
  by_cases a1 : 1 ≤ k.size
  · have b1 : (1 : Int) ≤ (k.size : Int) := by omega
    by_cases a2 : k.size ≤ 128
    · have b2 : (k.size : Int) ≤ 128 := by omega
      by_cases a3 : v.size ≤ 1024
      · have b3 : (v.size : Int) ≤ 1024 := by omega
        by_cases a4 : d = true → v.size = 0
        · have hd : d = false ∨ (d = true ∧ v = ByteArray.empty) := by
            cases d with
            | false => exact .inl rfl
            | true => exact .inr ⟨rfl, (size_zero v).1 (a4 rfl)⟩
          by_cases a5 : 1 ≤ q
          · by_cases a6 : q ≤ 1099511627776
            · have hr : r = true := by rw [← HR.out]; simp only [rightB, decide_eq_true_eq]; exact ⟨a1, a2, a3, a4, a5, a6⟩
              subst hr
              clear HR a4
              rcases hd with rfl | ⟨rfl, rfl⟩ <;> (go_enter Tryd.func43, Tryd.ntmps43; go_wp2; go_ret; exact ⟨rfl, bel_alloc _ _⟩)
            · have hr : r = false := by rw [← HR.out]; simp only [rightB, decide_eq_false_iff_not]; exact fun h => a6 h.2.2.2.2.2
              subst hr
              clear HR a4
              rcases hd with rfl | ⟨rfl, rfl⟩ <;> (go_enter Tryd.func43, Tryd.ntmps43; go_wp2; go_ret; exact ⟨rfl, bel_alloc _ _⟩)
          · have hr : r = false := by rw [← HR.out]; simp only [rightB, decide_eq_false_iff_not]; exact fun h => a5 h.2.2.2.2.1
            subst hr
            clear HR a4
            rcases hd with rfl | ⟨rfl, rfl⟩ <;> (go_enter Tryd.func43, Tryd.ntmps43; go_wp2; go_ret; exact ⟨rfl, bel_alloc _ _⟩)
        · have hr : r = false := by rw [← HR.out]; simp only [rightB, decide_eq_false_iff_not]; exact fun h => a4 h.2.2.2.1
          have hd : d = true := by cases d with | true => rfl | false => exact absurd (fun h => by cases h) a4
          subst hd
          have hve : (v.toList == []) = false := by
            have h0 : v.size ≠ 0 := fun h => a4 (fun _ => h)
            cases v with
            | mk data =>
              simp only [beq_eq_false_iff_ne, ne_eq]
              intro h
              apply h0
              have := congrArg List.length h
              simp [ByteArray.toList_eq] at this
              simpa [ByteArray.size] using this
          subst hr
          clear HR a4
          go_enter Tryd.func43, Tryd.ntmps43
          go_wp2
          go_ret
          exact ⟨rfl, bel_alloc _ _⟩
      · have b3 : ¬ ((v.size : Int) ≤ 1024) := by omega
        have hr : r = false := by rw [← HR.out]; simp only [rightB, decide_eq_false_iff_not]; exact fun h => a3 h.2.2.1
        subst hr
        clear HR
        go_enter Tryd.func43, Tryd.ntmps43
        go_wp2
        go_ret
        exact ⟨rfl, bel_alloc _ _⟩
    · have b2 : ¬ ((k.size : Int) ≤ 128) := by omega
      have hr : r = false := by rw [← HR.out]; simp only [rightB, decide_eq_false_iff_not]; exact fun h => a2 h.2.1
      subst hr
      clear HR
      go_enter Tryd.func43, Tryd.ntmps43
      go_wp2
      go_ret
      exact ⟨rfl, bel_alloc _ _⟩
  · have b1 : ¬ ((1 : Int) ≤ (k.size : Int)) := by omega
    have hr : r = false := by rw [← HR.out]; simp only [rightB, decide_eq_false_iff_not]; exact fun h => a1 h.1
    subst hr
    clear HR
    go_enter Tryd.func43, Tryd.ntmps43
    go_wp2
    go_ret
    exact ⟨rfl, bel_alloc _ _⟩
set_option maxRecDepth 100000 in
set_option maxHeartbeats 1000000 in
theorem refRight_any (k v : ByteArray) (d : Bool) (q : Int) (w : World) (hk : k.size ≤ 9223372036854775807) (hv : v.size ≤ 9223372036854775807) :
    Calls Tryd.prog 64 #[.agg #[.string k, .string v, .bool d, .int .i64 q]] w fun r w' => r = .returned (.bool (rightB ⟨k, v, d, q⟩)) ∧ Below w.heap.size w w' := by
  obtain ⟨r, HR⟩ : ∃ r, Hid (rightB ⟨k, v, d, q⟩ = r) := ⟨_, rfl⟩
  rw [HR.out]
  by_cases a1 : 1 ≤ k.size
  · have b1 : (1 : Int) ≤ (k.size : Int) := by omega
    by_cases a2 : k.size ≤ 128
    · have b2 : (k.size : Int) ≤ 128 := by omega
      by_cases a3 : v.size ≤ 1024
      · have b3 : (v.size : Int) ≤ 1024 := by omega
        by_cases a4 : d = true → v.size = 0
        · have hd : d = false ∨ (d = true ∧ v = ByteArray.empty) := by
            cases d with
            | false => exact .inl rfl
            | true => exact .inr ⟨rfl, (size_zero v).1 (a4 rfl)⟩
          by_cases a5 : 1 ≤ q
          · by_cases a6 : q ≤ 1099511627776
            · have hr : r = true := by rw [← HR.out]; simp only [rightB, decide_eq_true_eq]; exact ⟨a1, a2, a3, a4, a5, a6⟩
              subst hr
              clear HR a4
              rcases hd with rfl | ⟨rfl, rfl⟩ <;> (go_enter Tryd.func64, Tryd.ntmps64; go_wp2; go_ret; exact ⟨rfl, bel_alloc _ _⟩)
            · have hr : r = false := by rw [← HR.out]; simp only [rightB, decide_eq_false_iff_not]; exact fun h => a6 h.2.2.2.2.2
              subst hr
              clear HR a4
              rcases hd with rfl | ⟨rfl, rfl⟩ <;> (go_enter Tryd.func64, Tryd.ntmps64; go_wp2; go_ret; exact ⟨rfl, bel_alloc _ _⟩)
          · have hr : r = false := by rw [← HR.out]; simp only [rightB, decide_eq_false_iff_not]; exact fun h => a5 h.2.2.2.2.1
            subst hr
            clear HR a4
            rcases hd with rfl | ⟨rfl, rfl⟩ <;> (go_enter Tryd.func64, Tryd.ntmps64; go_wp2; go_ret; exact ⟨rfl, bel_alloc _ _⟩)
        · have hr : r = false := by rw [← HR.out]; simp only [rightB, decide_eq_false_iff_not]; exact fun h => a4 h.2.2.2.1
          have hd : d = true := by cases d with | true => rfl | false => exact absurd (fun h => by cases h) a4
          subst hd
          have hve : (v.toList == []) = false := by
            have h0 : v.size ≠ 0 := fun h => a4 (fun _ => h)
            cases v with
            | mk data =>
              simp only [beq_eq_false_iff_ne, ne_eq]
              intro h
              apply h0
              have := congrArg List.length h
              simp [ByteArray.toList_eq] at this
              simpa [ByteArray.size] using this
          subst hr
          clear HR a4
          go_enter Tryd.func64, Tryd.ntmps64
          go_wp2
          go_ret
          exact ⟨rfl, bel_alloc _ _⟩
      · have b3 : ¬ ((v.size : Int) ≤ 1024) := by omega
        have hr : r = false := by rw [← HR.out]; simp only [rightB, decide_eq_false_iff_not]; exact fun h => a3 h.2.2.1
        subst hr
        clear HR
        go_enter Tryd.func64, Tryd.ntmps64
        go_wp2
        go_ret
        exact ⟨rfl, bel_alloc _ _⟩
    · have b2 : ¬ ((k.size : Int) ≤ 128) := by omega
      have hr : r = false := by rw [← HR.out]; simp only [rightB, decide_eq_false_iff_not]; exact fun h => a2 h.2.1
      subst hr
      clear HR
      go_enter Tryd.func64, Tryd.ntmps64
      go_wp2
      go_ret
      exact ⟨rfl, bel_alloc _ _⟩
  · have b1 : ¬ ((1 : Int) ≤ (k.size : Int)) := by omega
    have hr : r = false := by rw [← HR.out]; simp only [rightB, decide_eq_false_iff_not]; exact fun h => a1 h.1
    subst hr
    clear HR
    go_enter Tryd.func64, Tryd.ntmps64
    go_wp2
    go_ret
    exact ⟨rfl, bel_alloc _ _⟩
/-- Two strings, byte by byte. -/
def cmpS (a b : ByteArray) : Int := Lib.compareBytes a.data.toList b.data.toList
def cmpI (x y : Int) : Int := if x < y then -1 else if y < x then 1 else 0
def cmpE (a b : E) : Int := if cmpS a.key b.key ≠ 0 then cmpS a.key b.key else cmpI a.seq b.seq
set_option maxRecDepth 100000 in
theorem cmpString_any (a b : ByteArray) (w : World) : Calls Tryd.prog 107 #[.string a, .string b] w fun e w' => e = .returned (.int .i64 (cmpS a b)) ∧ w' = w := by
  go_enter Tryd.func107, Tryd.ntmps107
  go_wp2
  rw [run_callFunc_extern Tryd.func118 (by kernel_rfl) (by kernel_rfl) (by kernel_rfl) (e := Extern.BytealgCompare.compare) (by kernel_rfl), Lib.run_compareString]
  simp only [Result.andThen]
  rw [Oper.upon_value]
  go_wp2
  go_ret
  exact ⟨rfl, rfl⟩
theorem compareS_any (a b : ByteArray) (w : World) : Calls Tryd.prog 90 #[.string a, .string b] w fun e w' => e = .returned (.int .i64 (cmpS a b)) ∧ w' = w := by
  go_enter Tryd.func90, Tryd.ntmps90
  go_wp2_with fail
  refine (cmpString_any a b _).mono ?_
  rintro e w' ⟨rfl, hw⟩
  subst hw
  go_wp2
  go_ret
  exact ⟨rfl, rfl⟩
set_option maxHeartbeats 1000000 in
theorem compareI_any (x y : Int) (w : World) : Calls Tryd.prog 91 #[.int .i64 x, .int .i64 y] w fun e w' => e = .returned (.int .i64 (cmpI x y)) ∧ w' = w := by
  by_cases h1 : x < y
  · have HC : Hid (cmpI x y = -1) := by show _ = _; rw [cmpI, if_pos h1]
    rw [HC.out]
    go_enter Tryd.func91, Tryd.ntmps91
    go_wp2
    go_ret
    exact ⟨rfl, rfl⟩
  · by_cases h2 : y < x
    · have HC : Hid (cmpI x y = 1) := by show _ = _; rw [cmpI, if_neg h1, if_pos h2]
      rw [HC.out]
      go_enter Tryd.func91, Tryd.ntmps91
      go_wp2
      go_ret
      exact ⟨rfl, rfl⟩
    · have HC : Hid (cmpI x y = 0) := by show _ = _; rw [cmpI, if_neg h1, if_neg h2]
      rw [HC.out]
      go_enter Tryd.func91, Tryd.ntmps91
      go_wp2
      go_ret
      exact ⟨rfl, rfl⟩
set_option maxHeartbeats 1000000 in
theorem or_any (g : Nat) (u v : Int) (w : World) (h0 : w.cell? ⟨g, 0, none⟩ = some (.int .i64 u)) (h1 : w.cell? ⟨g, 1, none⟩ = some (.int .i64 v)) :
    Calls Tryd.prog 89 #[.slice (some ⟨g, 0, none⟩) 2 2] w fun e w' => e = .returned (.int .i64 (if u ≠ 0 then u else v)) ∧ w' = w := by
  by_cases hu : u = 0
  · subst hu
    rw [if_neg (by simp)]
    by_cases hv : v = 0
    · subst hv
      go_enter Tryd.func89, Tryd.ntmps89
      go_wp2
      refine wp_loop_rounds 3 ?_
      rw [rounds_succ]
      go_wp2
      rw [rounds_succ]
      go_wp2
      rw [rounds_succ]
      go_wp2
      go_ret
      exact ⟨rfl, rfl⟩
    · have hv' : (v == 0) = false := by simpa using hv
      have hv2 : (v != 0) = true := by simpa using hv
      go_enter Tryd.func89, Tryd.ntmps89
      go_wp2
      refine wp_loop_rounds 2 ?_
      rw [rounds_succ]
      go_wp2
      rw [rounds_succ]
      go_wp2
      go_ret
      exact ⟨rfl, rfl⟩
  · rw [if_pos hu]
    have hu' : (u == 0) = false := by simpa using hu
    have hu2 : (u != 0) = true := by simpa using hu
    go_enter Tryd.func89, Tryd.ntmps89
    go_wp2
    refine wp_loop_rounds 1 ?_
    rw [rounds_succ]
    go_wp2
    go_ret
    exact ⟨rfl, rfl⟩
end Go.Proofs.YtcgjhopfdpaocaaDoor
namespace Go.Proofs.YtcgjhopfdpaocaaDoor
open Go.RowKit Go.Sort
theorem heap_alloc_get (w : World) (o : Obj) (i : Nat) : (w.alloc o).heap[i]? = if i = w.heap.size then some o else w.heap[i]? := by
  show (w.heap.push o)[i]? = _
  rw [Array.getElem?_push]
theorem pair_cell (u v : Value) (t : TypeId) (W : World) (g : Nat) (hg : g = W.heap.size) :
    (W.alloc (Obj.cells #[u, v] t)).drew.cell? ⟨g, 0, none⟩ = some u ∧ (W.alloc (Obj.cells #[u, v] t)).drew.cell? ⟨g, 1, none⟩ = some v := by
  have h : (W.alloc (Obj.cells #[u, v] t)).drew.heap[g]? = some (.cells #[u, v] t) := by
    show (W.alloc _).heap[g]? = _
    rw [heap_alloc_get, if_pos hg]
  exact ⟨by rw [cell_of_row _ _ _ _ _ _ h]; rfl, by rw [cell_of_row _ _ _ _ _ _ h]; rfl⟩
set_option maxRecDepth 100000 in
set_option maxHeartbeats 1000000 in
/-- byKeyAndSeq: two blocks and one more are laid, and it may draw. -/
theorem byKey_any (a b : E) (w : World) : Calls Tryd.prog 75 #[.agg (encE a).toArray, .agg (encE b).toArray] w fun e w' => e = .returned (.int .i64 (cmpE a b)) ∧ ∃ q os', w' = grow (w.drewN q) os' := by
  obtain ⟨k1, v1, d1, q1⟩ := a
  obtain ⟨k2, v2, d2, q2⟩ := b
  obtain ⟨c, HC⟩ : ∃ c, Hid (c = cmpS k1 k2) := ⟨_, rfl⟩
  obtain ⟨i, HI⟩ : ∃ i, Hid (i = cmpI q1 q2) := ⟨_, rfl⟩
  have HE : Hid (cmpE ⟨k1, v1, d1, q1⟩ ⟨k2, v2, d2, q2⟩ = if c ≠ 0 then c else i) := by show _ = _; rw [cmpE, HC.out, HI.out]
  rw [HE.out]
  obtain ⟨r, HR⟩ : ∃ r, Hid ((if c ≠ 0 then c else i) = r) := ⟨_, rfl⟩
  rw [HR.out]
  have HO : Hid (∀ g w, w.cell? ⟨g, 0, none⟩ = some (.int .i64 c) → w.cell? ⟨g, 1, none⟩ = some (.int .i64 i) → Calls Tryd.prog 89 #[.slice (some ⟨g, 0, none⟩) 2 2] w fun e w' => e = .returned (.int .i64 r) ∧ w' = w) := by
    show ∀ g w, _ → _ → _
    intro g w h0 h1; rw [← HR.out]; exact or_any g c i w h0 h1
  have C1 := fun w => compareS_any k1 k2 w
  have C2 := fun w => compareI_any q1 q2 w
  rw [← HC.out] at C1
  rw [← HI.out] at C2
  have HC1 : Hid (_) := C1
  have HC2 : Hid (_) := C2
  clear C1 C2
  simp only [encE]
  go_enter Tryd.func75, Tryd.ntmps75
  go_wp2_with fail
  go_region_held3 (fun w' => w'.cell? ⟨w.heap.size, 0, none⟩ = some (.string k1) ∧ w'.cell? ⟨w.heap.size + 1, 0, none⟩ = some (.string k2) ∧ w'.cell? ⟨w.heap.size, 3, none⟩ = some (.int .i64 q1) ∧ w'.cell? ⟨w.heap.size + 1, 3, none⟩ = some (.int .i64 q2)) (first | assumption | go_keep) (first | (go_at_call 90; refine (HC1.out _).mono ?_; rintro e w' ⟨rfl, rfl⟩) | (go_at_call 91; refine (HC2.out _).mono ?_; rintro e w' ⟨rfl, rfl⟩) | (go_at_call 89; refine (HO.out _ _ (pair_cell _ _ _ _ _ (by simp)).1 (pair_cell _ _ _ _ _ (by simp)).2).mono ?_; rintro e w' ⟨rfl, rfl⟩))
  all_goals go_wp2
  all_goals go_ret
  all_goals exact ⟨rfl, 1, _, by rw [alloc_eq_grow, alloc_eq_grow, alloc_eq_grow, grow_grow, grow_grow]; rfl⟩
variable [Inhabited E]
theorem byKeyLays (blk off size : Nat) (w : World) : CmpLays Tryd.prog 75 #[] encE 4 cmpE blk off size w :=
  fun _ _ _ _ x y => byKey_any x y _
end Go.Proofs.YtcgjhopfdpaocaaDoor
namespace Go.Proofs.YtcgjhopfdpaocaaDoor
set_option linter.unusedSectionVars false
variable [Inhabited E]
/-- A total preorder by a comparison. -/
structure Ord3 {α : Type} (cf : α → α → Int) : Prop where
  anti : ∀ a b, cf a b < 0 ↔ 0 < cf b a
  trans : ∀ a b c, cf a b ≤ 0 → cf b c ≤ 0 → cf a c ≤ 0
section
variable {α : Type} {cf : α → α → Int}
theorem Ord3.self (h : Ord3 cf) (a : α) : cf a a = 0 := by have := h.anti a a; omega
theorem Ord3.zero (h : Ord3 cf) (a b : α) : cf a b = 0 ↔ cf b a = 0 := by
  have h1 := h.anti a b; have h2 := h.anti b a
  constructor <;> intro h0 <;> omega
theorem Ord3.ltle (h : Ord3 cf) {a b c : α} (h1 : cf a b < 0) (h2 : cf b c ≤ 0) : cf a c < 0 := by
  have h3 := h.trans a b c (by omega) h2
  have h4 := h.anti a c; have h5 := h.anti c a; have h6 := h.anti a b; have h7 := h.anti b a
  have h8 := h.trans b c a h2
  omega
theorem Ord3.lelt (h : Ord3 cf) {a b c : α} (h1 : cf a b ≤ 0) (h2 : cf b c < 0) : cf a c < 0 := by
  have h3 := h.trans a b c h1 (by omega)
  have h4 := h.anti a c; have h5 := h.anti c a; have h6 := h.anti b c; have h7 := h.anti c b
  have h8 := h.trans c a b
  omega
/-- Of a's class. -/
def cls (cf : α → α → Int) (c x : α) : Bool := cf c x == 0
/-- S is l, sorted, and stably so. -/
structure Stab (cf : α → α → Int) (l S : List α) : Prop where
  srt : S.Pairwise fun a b => cf a b ≤ 0
  keep : ∀ c, S.filter (cls cf c) = l.filter (cls cf c)
  perm : S.Perm l
def Up (cf : α → α → Int) (l : List α) : Prop := l.Pairwise fun a b => cf a b ≤ 0
theorem cls_swap (h : Ord3 cf) (Y X : List α) (hlt : ∀ y ∈ Y, ∀ x ∈ X, cf y x < 0) (c : α) : (Y ++ X).filter (cls cf c) = (X ++ Y).filter (cls cf c) := by
  rw [List.filter_append, List.filter_append]
  by_cases hY : Y.filter (cls cf c) = []
  · rw [hY, List.nil_append, List.append_nil]
  · have hX : X.filter (cls cf c) = [] := by
      obtain ⟨y, hy⟩ := List.exists_mem_of_ne_nil _ hY
      rw [List.mem_filter] at hy
      rw [List.filter_eq_nil_iff]
      intro x hx hcx
      have h1 := hlt y hy.1 x hx
      have hy2 := hy.2
      simp only [cls, beq_iff_eq] at hy2 hcx
      have h2 := (h.zero c y).1 hy2
      have h3 := h.trans x c y (by have := (h.zero c x).1 hcx; omega) (by omega)
      have h4 := h.anti y x
      have h5 := h.anti x y
      omega
    rw [hX, List.nil_append, List.append_nil]
/-- Two sorted pieces, cut so that the middle ones may change places. -/
theorem stab_cross (h : Ord3 cf) {X1 X2 Y1 Y2 R1 R2 : List α} (hX : Up cf (X1 ++ X2)) (hY : Up cf (Y1 ++ Y2))
    (h12 : ∀ x ∈ X1, ∀ y ∈ Y2, cf x y ≤ 0) (h21 : ∀ y ∈ Y1, ∀ x ∈ X2, cf y x < 0) (s1 : Stab cf (X1 ++ Y1) R1) (s2 : Stab cf (X2 ++ Y2) R2) :
    Stab cf ((X1 ++ X2) ++ (Y1 ++ Y2)) (R1 ++ R2) := by
  have hX' := List.pairwise_append.1 hX
  have hY' := List.pairwise_append.1 hY
  refine ⟨?_, fun c => ?_, ?_⟩
  · rw [List.pairwise_append]
    refine ⟨s1.srt, s2.srt, fun a ha b hb => ?_⟩
    rw [s1.perm.mem_iff, List.mem_append] at ha
    rw [s2.perm.mem_iff, List.mem_append] at hb
    rcases ha with ha | ha <;> rcases hb with hb | hb
    · exact hX'.2.2 a ha b hb
    · exact h12 a ha b hb
    · have := h21 a ha b hb; omega
    · exact hY'.2.2 a ha b hb
  · have hc := cls_swap h Y1 X2 h21 c
    rw [List.filter_append, List.filter_append] at hc
    rw [List.filter_append, s1.keep, s2.keep]
    simp only [List.filter_append, List.append_assoc]
    rw [← List.append_assoc ((Y1).filter _), hc, List.append_assoc]
  · refine (s1.perm.append s2.perm).trans ?_
    have h1 : (Y1 ++ X2).Perm (X2 ++ Y1) := List.perm_append_comm
    have h2 := ((h1.append_right Y2).append_left X1)
    simpa [List.append_assoc] using h2
theorem stab_refl {l : List α} (hl : Up cf l) : Stab cf l l := ⟨hl, fun _ => rfl, .refl _⟩
theorem Stab.trans_app {A B S T R : List α} (hA : Stab cf A S) (hB : Stab cf B T) (hR : Stab cf (S ++ T) R) : Stab cf (A ++ B) R :=
  ⟨hR.srt, fun c => by rw [hR.keep, List.filter_append, hA.keep, hB.keep, List.filter_append], hR.perm.trans (hA.perm.append hB.perm)⟩
end
end Go.Proofs.YtcgjhopfdpaocaaDoor

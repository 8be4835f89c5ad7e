/-
  What sum.putWord and sum.closing do: contracts over this translation.
-/
import Derived.Test.YtiimmknnlciljaaDoorSBytes
namespace Go.Proofs.YtiimmknnlciljaaDoor.Sm
open Go.RowKit
/-- Four bytes of a word, the highest first. -/
def word4 (x : UInt32) : List UInt8 := [UInt8.ofNat (x.toNat / 16777216), UInt8.ofNat (x.toNat / 65536 % 256), UInt8.ofNat (x.toNat / 256 % 256), UInt8.ofNat (x.toNat % 256)]
theorem splice_nil {α : Type} (C : List α) (o : Nat) : splice C o [] = C := by simp [splice]
theorem splice_cons {α : Type} (C : List α) (o : Nat) (v : α) (vs : List α) (h : o < C.length) : splice C o (v :: vs) = splice (C.set o v) (o + 1) vs := by
  unfold splice
  rw [List.drop_set_of_lt (by omega), List.take_add_one, List.take_set_of_le (by omega), List.getElem?_set_self h, show o + (v :: vs).length = o + 1 + vs.length by simp only [List.length_cons]; omega]
  simp
theorem set_list (w : World) (g i : Nat) (C : List Value) (t : TypeId) (v : Value) (hg : w.heap[g]? = some (.cells C.toArray t (0, 0))) : w.setCell ⟨g, i, none⟩ v = w.setRow g (C.set i v).toArray := by
  rw [setCell_eq_setRow w g i _ t (0, 0) v hg, List.setIfInBounds_toArray]
theorem set4 (w : World) (g o : Nat) (C : List Value) (t : TypeId) (v0 v1 v2 v3 : Value) (hg : w.heap[g]? = some (.cells C.toArray t (0, 0))) (hC : o + 4 ≤ C.length) :
    (((w.setCell ⟨g, o, none⟩ v0).setCell ⟨g, o + 1, none⟩ v1).setCell ⟨g, o + 2, none⟩ v2).setCell ⟨g, o + 3, none⟩ v3 = w.setRow g (splice C o [v0, v1, v2, v3]).toArray := by
  rw [set_list w g o C t v0 hg]
  rw [set_list _ g (o + 1) (C.set o v0) t v1 (setRow_heap w g _ _ t _ hg), setRow_setRow]
  rw [set_list _ g (o + 2) _ t v2 (setRow_heap w g _ _ t _ hg), setRow_setRow]
  rw [set_list _ g (o + 3) _ t v3 (setRow_heap w g _ _ t _ hg), setRow_setRow]
  rw [splice_cons _ _ _ _ (by omega), splice_cons _ _ _ _ (by simp; omega), splice_cons _ _ _ _ (by simp; omega), splice_cons _ _ _ _ (by simp; omega), splice_nil]
theorem word4_cells (x : UInt32) : cellsOf (word4 x) = [.int .u8 ((x.toNat : Int) / (16777216 : Int)), .int .u8 ((x.toNat : Int) / (65536 : Int) % (256 : Int)), .int .u8 ((x.toNat : Int) / (256 : Int) % (256 : Int)), .int .u8 ((x.toNat : Int) % (256 : Int))] := by
  have hx := x.toNat_lt
  simp only [cellsOf, word4, List.map_cons, List.map_nil]
  rw [toNat_ofNat _ (by omega), toNat_ofNat _ (by omega), toNat_ofNat _ (by omega), toNat_ofNat _ (by omega)]
  rfl
set_option maxRecDepth 100000 in
set_option maxHeartbeats 1000000 in
theorem putWord_any (g o len cap : Nat) (C : List Value) (ty : TypeId) (x : UInt32) (w : World) (hg : w.heap[g]? = some (.cells C.toArray ty (0, 0))) (hlen : 4 ≤ len) (hC : o + 4 ≤ C.length) :
    Calls Tryd.prog 64 #[.slice (some ⟨g, o, none⟩) len cap, .int .u32 x.toNat] w fun e w' => e = .returned (.tuple #[]) ∧ w' = w.setRow g (splice C o (cellsOf (word4 x))).toArray := by
  have hx := x.toNat_lt
  have l0 : (0 : Int) < (len : Int) := by omega
  have l1 : (1 : Int) < (len : Int) := by omega
  have l2 : (2 : Int) < (len : Int) := by omega
  have l3 : (3 : Int) < (len : Int) := by omega
  have c0 : w.cell? ⟨g, o, none⟩ = some (C[o]'(by omega)) := by rw [cell_of_row w g o _ _ _ hg]; simp
  have c1 : w.cell? ⟨g, o + 1, none⟩ = some (C[o + 1]'(by omega)) := by rw [cell_of_row w g (o + 1) _ _ _ hg]; simp
  have c2 : w.cell? ⟨g, o + 2, none⟩ = some (C[o + 2]'(by omega)) := by rw [cell_of_row w g (o + 2) _ _ _ hg]; simp
  have c3 : w.cell? ⟨g, o + 3, none⟩ = some (C[o + 3]'(by omega)) := by rw [cell_of_row w g (o + 3) _ _ _ hg]; simp
  have hfz : ∀ j, w.frozen? ⟨g, j, none⟩ = false := fun j => frozen_of_row w g j _ _ hg
  go_enter Tryd.func64, Tryd.ntmps64
  go_wp2
  go_end0
  rw [set4 w g o C ty _ _ _ _ hg hC, word4_cells]
  exact ⟨rfl, rfl⟩
/-- What stands behind a text of so many bytes. -/
def zerosOf (n : Nat) : Nat := (64 + 55 - n % 64) % 64
def closeB (n : Nat) : List UInt8 := 128 :: List.replicate (zerosOf n) 0 ++ (word4 (UInt32.ofNat (8 * n % 18446744073709551616 / 4294967296)) ++ word4 (UInt32.ofNat (8 * n % 4294967296)))
theorem closeB_length (n : Nat) : (closeB n).length = 1 + zerosOf n + 8 := by simp [closeB, word4]; omega
theorem splice_at {α : Type} (P R A : List α) (k : Nat) (hk : k = P.length) : splice (P ++ R) k A = P ++ (A ++ R.drop A.length) := by
  subst hk
  unfold splice
  rw [List.take_left', List.drop_append]
  · simp
  · rfl
theorem close_cells (n z : Nat) (hz : zerosOf n = z) : splice (splice ((cellsOf (List.replicate (1 + z + 8) 0)).set 0 (.int .u8 128)) (1 + z) (cellsOf (word4 (UInt32.ofNat (8 * n % 18446744073709551616 / 4294967296))))) (1 + z + 4) (cellsOf (word4 (UInt32.ofNat (8 * n % 4294967296)))) = cellsOf (closeB n) := by
  have h1 : (cellsOf (List.replicate (1 + z + 8) 0)).set 0 (.int .u8 128) = cellsOf (128 :: List.replicate z 0) ++ cellsOf (List.replicate 8 0) := by
    rw [← cellsOf_append, show 1 + z + 8 = (z + 8) + 1 by omega, List.replicate_succ, ← List.replicate_append_replicate]
    rfl
  rw [h1, splice_at _ _ _ _ (by simp [cellsOf]; omega), ← List.append_assoc, splice_at _ _ _ _ (by simp [cellsOf, word4]; omega)]
  subst hz
  simp [cellsOf, closeB, word4]
theorem made_zero (n : Nat) : (madeCells #[Value.int .u8 0] n).toList = cellsOf (List.replicate n 0) := by
  apply List.ext_getElem
  · simp [madeCells, cellsOf]
  · intro i h1 h2
    simp [madeCells, cellsOf, Nat.mod_one]
theorem own_block {w : World} {base g n : Nat} {xs : List Value} (h : w.ownsRow base 5 1 (.slice (some ⟨g, 0, none⟩) n n) n xs) : w.heap[g]? = some (.cells xs.toArray 5 (0, 0)) := by
  obtain ⟨hl, h | ⟨g', cap, cur, hv, _, hg, _, _, hs, ht⟩⟩ := h
  · exact absurd h.1 (by simp)
  · injection hv with h1 h2 h3
    injection h1 with h1
    injection h1 with h1
    subst h1; subst h3
    rw [hg, ← ht, List.take_of_length_le (by simp; omega)]
set_option maxRecDepth 100000 in
set_option maxHeartbeats 1000000 in
theorem closing_any (n : Nat) (w : World) :
    Calls Tryd.prog 63 #[.int .u64 n] w fun e w' => ∃ g m, e = .returned (.slice (some ⟨g, 0, none⟩) m m) ∧ m = (closeB n).length ∧ w.heap.size ≤ g ∧ w'.heap[g]? = some (.cells (cellsOf (closeB n)).toArray 5 (0, 0)) ∧ Below w.heap.size w w' := by
  obtain ⟨z, hz⟩ : ∃ z, zerosOf n = z := ⟨_, rfl⟩
  have hz64 : z < 64 := by rw [← hz]; unfold zerosOf; omega
  have hrem : (IntKind.u64.wrap (55 - (n : Int))).tmod 64 = (z : Int) := by
    rw [IntKind.wrap_u64, Int.tmod_eq_emod_of_nonneg (by omega), ← hz]; unfold zerosOf; omega
  have hw1 : IntKind.u64.wrap (1 + (z : Int)) = 1 + (z : Int) := by rw [IntKind.wrap_u64]; omega
  have hw2 : IntKind.u64.wrap (1 + (z : Int) + 8) = 1 + (z : Int) + 8 := by rw [IntKind.wrap_u64]; omega
  obtain ⟨x1, hhi, HX1⟩ : ∃ x1 : UInt32, IntKind.u64.wrap ((n : Int) * 8) / 4294967296 % 4294967296 = (x1.toNat : Int) ∧ Hid (x1 = UInt32.ofNat (8 * n % 18446744073709551616 / 4294967296)) :=
    ⟨_, by rw [IntKind.wrap_u64, UInt32.toNat_ofNat']; omega, rfl⟩
  obtain ⟨x2, hlo, HX2⟩ : ∃ x2 : UInt32, IntKind.u64.wrap ((n : Int) * 8) % 4294967296 = (x2.toNat : Int) ∧ Hid (x2 = UInt32.ofNat (8 * n % 4294967296)) :=
    ⟨_, by rw [IntKind.wrap_u64, UInt32.toNat_ofNat']; omega, rfl⟩
  have hw3 : IntKind.u64.wrap (1 + (z : Int) + 4) = 1 + (z : Int) + 4 := by rw [IntKind.wrap_u64]; omega
  obtain ⟨i0, hi, hz0, hz1, hz2⟩ := info_parts info5
  go_enter Tryd.func63, Tryd.ntmps63
  go_wp2_with (refine wpList_make_full w rfl (.tmp 11) (.tmp 11) 25 rfl w.heap.size 5 i0 (.int .u8 0) 1 Tryd.underlying25 hi hz0 hz1 .u64 .u64 _ _ (1 + z + 8) rfl rfl ?hL ?hL2 ?b2 ?b3 (Nat.le_refl _) ?_)
  case hL => omega
  case hL2 => omega
  case b2 => rw [hz2]; omega
  case b3 => unfold maxLen; omega
  intro w1 hown hgrow
  have hbel : Below w.heap.size w w1 := (Below.refl _ _).grown hgrow (Nat.le_refl _) (fun k hk => by cases hk)
  have hblk := own_block hown
  rw [made_zero] at hblk
  clear hown hgrow hi hz0 hz1 hz2
  generalize hgq : w.heap.size = g at *
  have c0 : w1.cell? ⟨g, 0, none⟩ = some (.int .u8 0) := by rw [cell_of_row w1 g 0 _ _ _ hblk]; simp [cellsOf]
  have hfz := frozen_of_row w1 g 0 _ _ hblk
  have e0 : (0 : Int) < ((1 + z + 8 : Nat) : Int) := by omega
  go_wp2_with fail
  rw [set_list w1 g 0 _ 5 _ hblk]
  refine (putWord_any g (1 + z) 8 8 _ 5 x1 _ (setRow_heap w1 g _ _ 5 _ hblk) (by omega) (by simp [cellsOf])).mono ?_
  rintro e w' ⟨rfl, rfl⟩
  rw [setRow_setRow]
  obtain ⟨C2, HC2⟩ : ∃ C2, Hid (C2 = splice ((cellsOf (List.replicate (1 + z + 8) 0)).set 0 (Value.int IntKind.u8 128)) (1 + z) (cellsOf (word4 x1))) := ⟨_, rfl⟩
  have hlen2 : C2.length = 1 + z + 8 := by
    rw [HC2.out, length_splice]
    · simp [cellsOf]
    · simp [cellsOf, word4]
  rw [← HC2.out]
  have hblk2 := setRow_heap w1 g _ C2.toArray 5 _ hblk
  have hbel2 : Below g w (w1.setRow g C2.toArray) := below_setRow hbel (Nat.le_refl _) _
  generalize hw2q : w1.setRow g C2.toArray = w2 at *
  clear hblk c0 hfz hw2q
  go_wp2_with fail
  refine (putWord_any g (1 + z + 4) 4 4 _ 5 x2 _ hblk2 (by omega) (by omega)).mono ?_
  rintro e w' ⟨rfl, rfl⟩
  have hblk3 := setRow_heap w2 g _ (splice C2 (1 + z + 4) (cellsOf (word4 x2))).toArray 5 _ hblk2
  have hbel3 : Below g w (w2.setRow g (splice C2 (1 + z + 4) (cellsOf (word4 x2))).toArray) := below_setRow hbel2 (Nat.le_refl _) _
  generalize w2.setRow g (splice C2 (1 + z + 4) (cellsOf (word4 x2))).toArray = w3 at *
  rw [HC2.out, HX1.out, HX2.out, close_cells n z hz, ← hgq] at hblk3
  rw [← hgq] at hbel3
  clear hblk2 hbel2 HC2 HX1 HX2 hlen2
  have HM : Hid (1 + z + 8 = (closeB n).length) := by show _ = _; rw [closeB_length, hz]
  go_wp2
  go_ret
  exact ⟨w.heap.size, 1 + z + 8, by rw [hgq]; rfl, HM.out, Nat.le_refl _, hblk3, hbel3⟩
end Go.Proofs.YtiimmknnlciljaaDoor.Sm

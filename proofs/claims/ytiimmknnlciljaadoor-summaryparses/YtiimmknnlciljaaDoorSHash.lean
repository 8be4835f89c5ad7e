/-
  A Hash in memory, and what a piece that is written makes of it. No walk.
-/
import Derived.Test.YtiimmknnlciljaaDoorSClose
namespace Go.Proofs.YtiimmknnlciljaaDoor.Sm
open Go.RowKit

theorem splice_mid {α : Type} (A B C X : List α) (k off : Nat) (hk : k = A.length + off) (h : off + X.length ≤ B.length) : splice (A ++ (B ++ C)) k X = A ++ (splice B off X ++ C) := by
  subst hk
  unfold splice
  have h1 : (A ++ (B ++ C)).take (A.length + off) = A ++ B.take off := by
    rw [List.take_append, List.take_of_length_le (by omega), show A.length + off - A.length = off by omega, List.take_append_of_le_length (by omega)]
  have h2 : (A ++ (B ++ C)).drop (A.length + off + X.length) = B.drop (off + X.length) ++ C := by
    rw [List.drop_append, List.drop_eq_nil_of_le (by omega), show A.length + off + X.length - A.length = off + X.length by omega, List.drop_append_of_le_length (by omega)]
    simp
  rw [h1, h2]
  simp
theorem cells_splice (p x : List UInt8) (off : Nat) : splice (cellsOf p) off (cellsOf x) = cellsOf (splice p off x) := by
  simp [splice, cellsOf, List.map_take, List.map_drop]

def hashCells (s : S8) (part : List UInt8) (n : Nat) : List Value := wcells s.list ++ (cellsOf part ++ [.int .u64 n])
theorem hash_length (s : S8) (part : List UInt8) (n : Nat) (h : part.length = 64) : (hashCells s part n).length = 73 := by
  simp [hashCells, wcells, S8.list, cellsOf, h]
theorem hash_splice (s : S8) (part x : List UInt8) (n off : Nat) (h : part.length = 64) (hx : off + x.length ≤ 64) : splice (hashCells s part n) (8 + off) (cellsOf x) = hashCells s (splice part off x) n := by
  unfold hashCells
  rw [splice_mid (wcells s.list) (cellsOf part) _ (cellsOf x) (8 + off) off (by simp [wcells, S8.list]) (by simp [cellsOf]; omega), cells_splice]
theorem hash_set (s : S8) (part : List UInt8) (n m : Nat) (h : part.length = 64) : (hashCells s part n).set 72 (.int .u64 m) = hashCells s part m := by
  unfold hashCells
  rw [List.set_append_right _ _ (by simp [wcells, S8.list]), List.set_append_right _ _ (by simp [wcells, S8.list, cellsOf, h])]
  simp [wcells, S8.list, cellsOf, h]
theorem hash_words (s t : S8) (part : List UInt8) (n : Nat) : splice (hashCells s part n) 0 (wcells t.list) = hashCells t part n := by
  unfold hashCells splice
  simp [wcells, S8.list]

theorem chain_append (l m : List UInt8) : ∀ n, 64 * n ≤ l.length → chain (l ++ m) n = chain l n
  | 0, _ => rfl
  | n + 1, h => by
    rw [chain, chain, chain_append l m n (by omega), List.drop_append_of_le_length (by omega), List.take_append_of_le_length (by simp; omega)]

/-- What a block holds that is a Hash into which 'all' was written. -/
def Part (part all : List UInt8) : Prop := part.length = 64 ∧ part.take (all.length % 64) = all.drop (64 * (all.length / 64))
def HH (w : World) (b : Nat) (all : List UInt8) : Prop := ∃ part, Part part all ∧ w.heap[b]? = some (.cells (hashCells (chain all (all.length / 64)) part all.length).toArray 91 (0, 0))

theorem part_more (part all x : List UInt8) (h : Part part all) (hx : all.length % 64 + x.length ≤ 64) (hr : (all.length + x.length) % 64 ≠ 0) :
    Part (splice part (all.length % 64) x) (all ++ x) ∧ chain (all ++ x) ((all ++ x).length / 64) = chain all (all.length / 64) := by
  obtain ⟨hl, ht⟩ := h
  have hdiv : (all.length + x.length) / 64 = all.length / 64 := by omega
  have hmod : (all.length + x.length) % 64 = all.length % 64 + x.length := by omega
  refine ⟨⟨by rw [length_splice _ _ _ (by omega)]; exact hl, ?_⟩, ?_⟩
  · rw [List.length_append, hdiv, hmod, List.drop_append_of_le_length (by omega), ← ht]
    unfold splice
    rw [← List.append_assoc, List.take_append_of_le_length (by simp; omega), List.take_of_length_le (by simp; omega)]
  · rw [List.length_append, hdiv, chain_append _ _ _ (by omega)]

theorem part_full (part all x : List UInt8) (h : Part part all) (hx : all.length % 64 + x.length = 64) :
    Part (splice part (all.length % 64) x) (all ++ x) ∧ chain (all ++ x) ((all ++ x).length / 64) = comp (chain all (all.length / 64)) (splice part (all.length % 64) x) := by
  obtain ⟨hl, ht⟩ := h
  have hdiv : (all.length + x.length) / 64 = all.length / 64 + 1 := by omega
  have hmod : (all.length + x.length) % 64 = 0 := by omega
  refine ⟨⟨by rw [length_splice _ _ _ (by omega)]; exact hl, ?_⟩, ?_⟩
  · rw [List.length_append, hdiv, hmod, List.take_zero, List.drop_eq_nil_of_le (by simp; omega)]
  · rw [List.length_append, hdiv, chain, chain_append _ _ _ (by omega)]
    congr 1
    rw [List.drop_append_of_le_length (by omega), ← ht, List.take_of_length_le (by simp; omega)]
    unfold splice
    rw [hx, List.drop_eq_nil_of_le (by omega)]
    simp

/-- Nothing is turned but one block. -/
structure Chg (b : Nat) (w w' : World) : Prop where
  os : w'.os = w.os
  tape : w'.tape = w.tape
  output : w'.output = w.output
  size : w.heap.size ≤ w'.heap.size
  block : ∀ k, k < w.heap.size → k ≠ b → w'.heap[k]? = w.heap[k]?
theorem Chg.refl (b : Nat) (w : World) : Chg b w w := ⟨rfl, rfl, rfl, Nat.le_refl _, fun _ _ _ => rfl⟩
theorem Chg.trans {b : Nat} {u v w : World} (h : Chg b u v) (k : Chg b v w) : Chg b u w :=
  ⟨k.os.trans h.os, k.tape.trans h.tape, k.output.trans h.output, Nat.le_trans h.size k.size, fun i hi hn => (k.block i (Nat.lt_of_lt_of_le hi h.size) hn).trans (h.block i hi hn)⟩
theorem Chg.bel {b B : Nat} {u v w : World} (h : Chg b u v) (k : Below B v w) (hB : v.heap.size ≤ B) : Chg b u w :=
  h.trans ⟨k.os, k.tape, k.output, k.size, fun i hi _ => k.block i (by omega)⟩
theorem Chg.drew {b : Nat} {u v : World} (h : Chg b u v) : Chg b u v.drew := ⟨h.os, h.tape, h.output, h.size, h.block⟩
theorem Chg.row {b : Nat} {u v : World} (h : Chg b u v) (cs : Array Value) : Chg b u (v.setRow b cs) :=
  h.trans ⟨rfl, rfl, rfl, by simp, fun k _ hn => setRow_other v b k cs hn⟩
theorem Chg.below {b B : Nat} {w w' : World} (h : Chg b w w') (hb : B ≤ b) (hB : B ≤ w.heap.size) : Below B w w' :=
  ⟨h.os, h.tape, h.output, h.size, fun k hk => h.block k (by omega) (by omega)⟩
theorem bytes_chg {w w' : World} {b : Nat} {ao : Option Addr} {n : Nat} {bs : List UInt8} (h : Bytes w ao n bs) (hc : Chg b w w') (hne : ∀ x, ao = some x → x.block ≠ b) : Bytes w' ao n bs := by
  refine ⟨h.1, fun i c hi => ?_⟩
  obtain ⟨x, hx, hcell⟩ := h.2 i c hi
  refine ⟨x, hx, ?_⟩
  have hlt := World.block_lt_of_cell? w _ hcell
  have hb : (x.add i).block = x.block := by unfold Addr.add; split <;> rfl
  rw [World.cell?_of_block (hc.block _ hlt (by rw [hb]; exact hne x hx))]
  exact hcell
theorem WW.chg {w w' : World} {b c : Nat} {ws : List UInt32} (h : WW w c ws) (hc : Chg b w w') (hb : c ≠ b) (hlt : c < w.heap.size) : WW w' c ws := fun t ht => by
  rw [World.cell?_of_block (hc.block c hlt hb)]; exact h t ht
theorem bytes_drop {w : World} {b off : Nat} {n : Nat} {bs : List UInt8} (h : Bytes w (some ⟨b, off, none⟩) n bs) (k : Nat) : Bytes w (some ⟨b, off + k, none⟩) (n - k) (bs.drop k) := by
  refine ⟨by rw [List.length_drop, h.1], fun i c hi => ⟨_, rfl, ?_⟩⟩
  rw [List.getElem?_drop] at hi
  obtain ⟨x, hx, hc⟩ := h.2 (k + i) c hi
  cases hx
  rw [Addr.add_lit] at hc ⊢
  rw [Nat.add_assoc]
  exact hc
end Go.Proofs.YtiimmknnlciljaaDoor.Sm

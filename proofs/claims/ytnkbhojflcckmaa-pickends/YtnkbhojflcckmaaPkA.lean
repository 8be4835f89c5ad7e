/-
  What the texts of this seat share: the library's walks, strings in order. No walk of its own.
-/
import Derived.Test.YtnkbhojflcckmaaProg
import Derived.WalkKit
import Derived.WalkSpells
import Derived.WalkLawsBesides
import Derived.Lib.Walk
import Derived.Lib.AppendStr
import Derived.OpenShut
import Derived.Deep.QuietTactic
import Derived.BigQuiet
import Derived.Laws.AppendOwnNone
import Derived.Laws.CopyOwn
import Derived.Lib.MinMax
import Derived.Deep.RegionHeld3
import Derived.Deep.MidRow
import Derived.Below
import Derived.Shelf.Small.Strs
import Derived.Great.BuildSlice
import Derived.Great.FillDense
import Derived.Deep.DeepCutAuto
import Derived.Deep.CutBlock
import Derived.Laws.Tables
import Derived.Laws.Rows
namespace Go.Proofs.Ytnkbhojflcckmaa
open Go.RowKit
set_option linter.unusedSectionVars false
theorem bel_alloc (w : World) (o : Obj) : Below w.heap.size w (w.alloc o) := (Below.refl _ _).alloc (Nat.le_refl _) o
theorem ownsRow_mono {w : World} {B B' : Nat} {e : TypeId} {size : Nat} {v : Value} {n : Nat} {xs : List Value} (h : w.ownsRow B e size v n xs) (hB : B' ≤ B) : w.ownsRow B' e size v n xs := by
  obtain ⟨h1, h2⟩ := h
  refine ⟨h1, ?_⟩
  rcases h2 with h2 | ⟨g, cap, cur, hv, hg, r⟩
  · exact .inl h2
  · exact .inr ⟨g, cap, cur, hv, by omega, r⟩
theorem own_below {w w' : World} {B base : Nat} {e : TypeId} {size : Nat} {v : Value} {n : Nat} {xs : List Value} (h : w.ownsRow base e size v n xs) (hb : Below B w w') (hB : w.heap.size ≤ B) : w'.ownsRow base e size v n xs := by
  refine ⟨h.1, ?_⟩
  rcases h.2 with hn | ⟨g, cap, cur, rfl, hbg, hg, r⟩
  · exact .inl hn
  · have hlt := (Array.getElem?_eq_some_iff.1 hg).1
    exact .inr ⟨g, cap, cur, rfl, hbg, by rw [hb.block g (by omega)]; exact hg, r⟩
theorem toNat_ofNat (v : Nat) (h : v < 256) : (UInt8.ofNat v).toNat = v := by
  simp [UInt8.toNat_ofNat']
  omega
/-- Bytes as cells. -/
def cellsOf (bs : List UInt8) : List Value := bs.map fun b => Value.int .u8 b.toNat
theorem cellsOf_length (bs : List UInt8) : (cellsOf bs).length = bs.length := by simp [cellsOf]
theorem cellsOf_append (a b : List UInt8) : cellsOf (a ++ b) = cellsOf a ++ cellsOf b := by simp [cellsOf]
theorem cellsOf_one (bs : List UInt8) : ∀ u ∈ cellsOf bs, u.oneCell' = true := by
  intro u hu
  simp only [cellsOf, List.mem_map] at hu
  obtain ⟨b, _, rfl⟩ := hu
  rfl
theorem bel_drewN {B : Nat} {w w' : World} (h : Below B w w') : ∀ n, Below B w (w'.drewN n)
  | 0 => h
  | n + 1 => (bel_drewN h n).drew
/-- A total preorder by a comparison. -/
structure Ord3 {α : Type} (cf : α → α → Int) : Prop where
  anti : ∀ a b, cf a b < 0 ↔ 0 < cf b a
  trans : ∀ a b c, cf a b ≤ 0 → cf b c ≤ 0 → cf a c ≤ 0
section
variable {α : Type} {cf : α → α → Int}
theorem Ord3.self (h : Ord3 cf) (a : α) : cf a a = 0 := by have := h.anti a a; omega
theorem Ord3.zero (h : Ord3 cf) (a b : α) : cf a b = 0 ↔ cf b a = 0 := by
  have h1 := h.anti a b; have h2 := h.anti b a
  constructor <;> intro h0 <;> omega
theorem Ord3.ltle (h : Ord3 cf) {a b c : α} (h1 : cf a b < 0) (h2 : cf b c ≤ 0) : cf a c < 0 := by
  have h3 := h.trans a b c (by omega) h2
  have h4 := h.anti a c; have h5 := h.anti c a; have h6 := h.anti a b; have h7 := h.anti b a
  have h8 := h.trans b c a h2
  omega
theorem Ord3.lelt (h : Ord3 cf) {a b c : α} (h1 : cf a b ≤ 0) (h2 : cf b c < 0) : cf a c < 0 := by
  have h3 := h.trans a b c h1 (by omega)
  have h4 := h.anti a c; have h5 := h.anti c a; have h6 := h.anti b c; have h7 := h.anti c b
  have h8 := h.trans c a b
  omega
end
theorem size_zero (s : ByteArray) : (s.size = 0) ↔ s = ByteArray.empty := by
  constructor
  · intro h; cases s with | mk d => simp [ByteArray.size] at h; subst h; rfl
  · intro h; subst h; rfl
/-- Two strings, byte by byte. -/
def cmpS (a b : ByteArray) : Int := Lib.compareBytes a.data.toList b.data.toList
theorem cb_self : ∀ a : List UInt8, Lib.compareBytes a a = 0
  | [] => rfl
  | x :: a => by rw [Lib.compareBytes, if_neg (UInt8.lt_irrefl x), if_neg (UInt8.lt_irrefl x)]; exact cb_self a
theorem cb_eq : ∀ a b : List UInt8, Lib.compareBytes a b = 0 → a = b
  | [], [], _ => rfl
  | [], _ :: _, h => by simp [Lib.compareBytes] at h
  | _ :: _, [], h => by simp [Lib.compareBytes] at h
  | x :: a, y :: b, h => by
    rw [Lib.compareBytes] at h
    split at h
    · omega
    · split at h
      · omega
      · rename_i h1 h2
        have := cb_eq a b h
        have hxy : x = y := UInt8.le_antisymm (UInt8.not_lt.1 h2) (UInt8.not_lt.1 h1)
        rw [this, hxy]
theorem cb_anti : ∀ a b : List UInt8, Lib.compareBytes a b < 0 ↔ 0 < Lib.compareBytes b a
  | [], [] => by simp [Lib.compareBytes]
  | [], _ :: _ => by simp [Lib.compareBytes]
  | _ :: _, [] => by simp [Lib.compareBytes]
  | x :: a, y :: b => by
    have ih := cb_anti a b
    rw [Lib.compareBytes, Lib.compareBytes]
    by_cases h1 : x < y
    · rw [if_pos h1, if_neg (UInt8.not_lt.2 (UInt8.le_of_lt h1)), if_pos h1]; omega
    · by_cases h2 : y < x
      · rw [if_neg h1, if_pos h2, if_pos h2]; omega
      · rw [if_neg h1, if_neg h2, if_neg h2, if_neg h1]; exact ih
theorem cb_trans : ∀ a b c : List UInt8, Lib.compareBytes a b ≤ 0 → Lib.compareBytes b c ≤ 0 → Lib.compareBytes a c ≤ 0
  | [], _, [], _, _ => by simp [Lib.compareBytes]
  | [], _, _ :: _, _, _ => by simp [Lib.compareBytes]
  | _ :: _, [], _, h, _ => by simp [Lib.compareBytes] at h
  | _ :: _, _ :: _, [], _, h => by simp [Lib.compareBytes] at h
  | x :: a, y :: b, z :: c, h1, h2 => by
    have ih := cb_trans a b c
    rw [Lib.compareBytes] at h1 h2 ⊢
    by_cases p : x < y
    · by_cases q : y < z
      · rw [if_pos (UInt8.lt_trans p q)]; omega
      · rw [if_neg q] at h2
        by_cases q2 : z < y
        · rw [if_pos q2] at h2; omega
        · have : y = z := UInt8.le_antisymm (UInt8.not_lt.1 q2) (UInt8.not_lt.1 q)
          subst this
          rw [if_pos p]; omega
    · rw [if_neg p] at h1
      by_cases p2 : y < x
      · rw [if_pos p2] at h1; omega
      · rw [if_neg p2] at h1
        have : x = y := UInt8.le_antisymm (UInt8.not_lt.1 p2) (UInt8.not_lt.1 p)
        subst this
        by_cases q : x < z
        · rw [if_pos q]; omega
        · rw [if_neg q] at h2 ⊢
          by_cases q2 : z < x
          · rw [if_pos q2] at h2; omega
          · rw [if_neg q2] at h2 ⊢
            exact ih h1 h2
theorem less_cb : ∀ a b : List UInt8, Op.bytesLess a b = decide (Lib.compareBytes a b < 0)
  | [], [] => rfl
  | [], _ :: _ => rfl
  | _ :: _, [] => rfl
  | x :: a, y :: b => by
    have ih := less_cb a b
    rw [Op.bytesLess, Lib.compareBytes]
    by_cases h1 : x < y
    · simp [h1]
    · by_cases h2 : y < x
      · have : x ≠ y := fun e => by subst e; exact UInt8.lt_irrefl x h2
        simp [h1, h2, this]
      · have : x = y := UInt8.le_antisymm (UInt8.not_lt.1 h2) (UInt8.not_lt.1 h1)
        subst this
        simp [UInt8.lt_irrefl, ih]
theorem cmpS_ord : Ord3 cmpS := ⟨fun _ _ => cb_anti _ _, fun _ _ _ => cb_trans _ _ _⟩
theorem cmpS_eq {a b : ByteArray} : cmpS a b = 0 ↔ a = b := by
  constructor
  · intro h
    have := cb_eq _ _ h
    exact ByteArray.ext (Array.toList_inj.1 this)
  · intro h; subst h; exact cb_self _
theorem less_cmpS (a b : ByteArray) : Op.bytesLess a.toList b.toList = decide (cmpS a b < 0) := by
  rw [ByteArray.toList_eq, ByteArray.toList_eq]; exact less_cb _ _
theorem eq_cmpS (a b : ByteArray) : (a.toList == b.toList) = decide (a = b) := by
  rw [ByteArray.toList_eq, ByteArray.toList_eq]
  by_cases h : a = b
  · subst h; simp
  · have : ¬ a.data = b.data := fun e => h (ByteArray.ext e)
    simp [h, this]
theorem eq_nil (hi : ByteArray) : (hi.toList == []) = decide (hi = ByteArray.empty) := by
  have h := eq_cmpS hi ByteArray.empty
  rwa [show ByteArray.empty.toList = [] from by decide +kernel] at h
theorem le_cmpS (a b : ByteArray) : (Op.bytesLess a.toList b.toList || (a.toList == b.toList)) = decide (cmpS a b ≤ 0) := by
  rw [less_cmpS, eq_cmpS]
  by_cases h : a = b
  · subst h; have := cmpS_ord.self a; simp [this]
  · have h2 : cmpS a b ≠ 0 := fun h3 => h (cmpS_eq.1 h3)
    rw [decide_eq_false h, Bool.or_false]
    exact decide_eq_decide.2 ⟨fun x => by omega, fun x => by omega⟩
theorem le_cases (a b : ByteArray) : (Op.bytesLess a.toList b.toList = true ∧ decide (cmpS a b ≤ 0) = true) ∨ (Op.bytesLess a.toList b.toList = false ∧ (a.toList == b.toList) = true ∧ decide (cmpS a b ≤ 0) = true) ∨ (Op.bytesLess a.toList b.toList = false ∧ (a.toList == b.toList) = false ∧ decide (cmpS a b ≤ 0) = false) := by
  have h := le_cmpS a b
  cases h1 : Op.bytesLess a.toList b.toList <;> cases h2 : (a.toList == b.toList) <;> rw [h1, h2] at h <;> simp_all
theorem cell_kept {B : Nat} {w w' : World} (h : Below B w w') {g i : Nat} {v : Value} (hg : g < B) (hc : w.cell? ⟨g, i, none⟩ = some v) : w'.cell? ⟨g, i, none⟩ = some v := by
  simp only [World.cell?] at hc ⊢
  rw [h.block g hg]; exact hc
theorem ge_cmpS (a b : ByteArray) : Op.bytesLess b.toList a.toList = !decide (cmpS a b ≤ 0) := by
  rw [less_cmpS]
  have := cmpS_ord.anti b a
  by_cases h : cmpS a b ≤ 0
  · rw [decide_eq_true h, decide_eq_false (by omega)]; rfl
  · rw [decide_eq_false h, decide_eq_true (by omega)]; rfl
/-- Nothing is turned but one block. -/
structure Chg (b : Nat) (w w' : World) : Prop where
  os : w'.os = w.os
  tape : w'.tape = w.tape
  output : w'.output = w.output
  size : w.heap.size ≤ w'.heap.size
  block : ∀ k, k < w.heap.size → k ≠ b → w'.heap[k]? = w.heap[k]?
theorem Chg.refl (b : Nat) (w : World) : Chg b w w := ⟨rfl, rfl, rfl, Nat.le_refl _, fun _ _ _ => rfl⟩
theorem Chg.trans {b : Nat} {u v w : World} (h : Chg b u v) (k : Chg b v w) : Chg b u w :=
  ⟨k.os.trans h.os, k.tape.trans h.tape, k.output.trans h.output, Nat.le_trans h.size k.size, fun i hi hn => (k.block i (Nat.lt_of_lt_of_le hi h.size) hn).trans (h.block i hi hn)⟩
theorem Chg.bel {b B : Nat} {u v w : World} (h : Chg b u v) (k : Below B v w) (hB : v.heap.size ≤ B) : Chg b u w :=
  h.trans ⟨k.os, k.tape, k.output, k.size, fun i hi _ => k.block i (by omega)⟩
theorem Chg.drew {b : Nat} {u v : World} (h : Chg b u v) : Chg b u v.drew := ⟨h.os, h.tape, h.output, h.size, h.block⟩
theorem Chg.row {b : Nat} {u v : World} (h : Chg b u v) (cs : Array Value) : Chg b u (v.setRow b cs) :=
  h.trans ⟨rfl, rfl, rfl, by simp, fun k _ hn => setRow_other v b k cs hn⟩
theorem Chg.below {b B : Nat} {w w' : World} (h : Chg b w w') (hb : B ≤ b) (hB : B ≤ w.heap.size) : Below B w w' :=
  ⟨h.os, h.tape, h.output, h.size, fun k hk => h.block k (by omega) (by omega)⟩
theorem drewN_heap (w : World) : ∀ n, (w.drewN n).heap = w.heap
  | 0 => rfl
  | n + 1 => drewN_heap w n
theorem wp_gen {P : Program} {c : Code} {Q : Exit → Act → World → Prop} {a : Act} {w : World} (R : World → Prop) (hR : R w) (h : ∀ w1, R w1 → Code.wp P c Q a w1) : Code.wp P c Q a w := h w hR
theorem cell_row_far {w : World} {g : Nat} {a : Addr} {v : Value} {cs : Array Value} (hc : w.cell? a = some v) (hne : a.block ≠ g) : (w.setRow g cs).cell? a = some v := by
  rw [World.cell?_of_block (((Chg.refl g w).row cs).block a.block (World.block_lt_of_cell? w a hc) hne)]; exact hc
theorem frame2 (w : World) (o1 : Obj) (A : Array Value) (t : TypeId) : ((w.alloc o1).alloc (.cells A t)).heap[w.heap.size]? = some o1 ∧ ((w.alloc o1).alloc (.cells A t)).heap[w.heap.size + 1]? = some (.cells A t (0, 0)) ∧ Below w.heap.size w ((w.alloc o1).alloc (.cells A t)) ∧ ((w.alloc o1).alloc (.cells A t)).heap.size = w.heap.size + 2 := by
  refine ⟨?_, ?_, (bel_alloc w _).trans ((bel_alloc _ _).mono (by simp)), by simp⟩
  · rw [Below.heap_alloc _ _ _ (by simp)]; exact heap_alloc_new w _
  · have := heap_alloc_new (w.alloc o1) (.cells A t)
    simpa using this
end Go.Proofs.Ytnkbhojflcckmaa

/-
  What marlstonelaw01.shown answers: true, in new memory alone.
-/
import Derived.Test.YtlomimhildbkoaaPutMore
namespace Go.Proofs.Ytlomimhildbkoaa
open Go.RowKit

theorem foldl_push (bs : List UInt8) : ∀ s : ByteArray, (bs.map (fun b => (b.toNat : Int))).foldl (fun r n => r.push (UInt8.ofNat n.toNat)) s = ⟨s.data ++ bs.toArray⟩ := by
  induction bs with
  | nil => intro s; simp
  | cons b t ih =>
    intro s
    rw [List.map_cons, List.foldl_cons, ih]
    have hb : UInt8.ofNat ((b.toNat : Int)).toNat = b := by simp
    rw [hb]
    show ByteArray.mk (s.data.push b ++ t.toArray) = _
    simp

theorem foldl_bytes (bs : List UInt8) : (bs.map (fun b => (b.toNat : Int))).foldl (fun r n => r.push (UInt8.ofNat n.toNat)) ByteArray.empty = ⟨bs.toArray⟩ := by
  rw [foldl_push]
  show ByteArray.mk (#[] ++ bs.toArray) = _
  simp

/-- 'string(b)'. -/
theorem str_bytes {w : World} {ao : Option Addr} {n : Nat} {bs : List UInt8} (cap : Nat) (h : Bytes w ao n bs) :
    (convert 22 9 (.slice ao n cap)).run Try.prog w = .ok (.string ⟨bs.toArray⟩) w := by
  rw [run_convert_bytes_string w 22 9 5 _ _ _ Try.underlying22 Try.underlying5 Try.underlying9]
  cases ao with
  | none =>
    have hb : bs = [] := by
      cases bs with
      | nil => rfl
      | cons b t =>
        obtain ⟨x, hx, _⟩ := h.2 0 b (by simp)
        cases hx
    subst hb
    simp [Conv.bytesToString]
    rfl
  | some x =>
    have hl := run_loadCells_list (P := Try.prog) (w := w) x (cellsOf bs) (fun j u hu => by
      obtain ⟨c, hc, rfl⟩ := cellsOf_at hu
      obtain ⟨y, hy, hcell⟩ := h.2 j c hc
      cases hy
      exact hcell)
    rw [cellsOf_length, h.1] at hl
    have e : cellsOf bs = (bs.map fun b => (b.toNat : Int)).map (Value.int .u8) := by simp [cellsOf]
    rw [e] at hl
    rw [run_bytesToString w x n cap _ hl, foldl_bytes]

theorem own_bytes {w : World} {base : Nat} {v : Value} {n : Nat} {bs : List UInt8} (h : w.ownsRow base 5 1 v n (cellsOf bs)) :
    ∃ ao cap, v = .slice ao n cap ∧ Bytes w ao n bs ∧ (ao = none → cap = 0) ∧ n ≤ cap ∧ cap ≤ maxLen ∧ n = bs.length ∧ (∀ x, ao = some x → base ≤ x.block ∧ x.block < w.heap.size) := by
  have hlen : n = bs.length := by have := h.1; rw [cellsOf_length] at this; omega
  rcases h.2 with ⟨rfl, h0⟩ | ⟨g, cap, cur, rfl, hb, hg, hn, hm, hs, ht⟩
  · subst h0
    have : bs = [] := List.eq_nil_of_length_eq_zero hlen.symm
    subst this
    exact ⟨none, 0, rfl, ⟨rfl, fun i c hi => by simp at hi⟩, fun _ => rfl, Nat.le_refl _, by simp [maxLen], rfl, fun x hx => by cases hx⟩
  · refine ⟨_, cap, rfl, ⟨hlen.symm, fun i c hi => ⟨_, rfl, ?_⟩⟩, fun h => (by cases h), hn, hm, hlen, fun x hx => ?_⟩
    · exact h.cells (g := g) rfl i _ (by simp [cellsOf, hi])
    · cases hx
      exact ⟨hb, (Array.getElem?_eq_some_iff.1 hg).1⟩

theorem bytes_below {w w' : World} {B : Nat} {ao : Option Addr} {n : Nat} {bs : List UInt8} (h : Bytes w ao n bs) (hb : Below B w w') (hB : ∀ x, ao = some x → x.block < B) : Bytes w' ao n bs := by
  refine ⟨h.1, fun i c hi => ?_⟩
  obtain ⟨x, hx, hc⟩ := h.2 i c hi
  refine ⟨x, hx, ?_⟩
  have hblk : (x.add i).block = x.block := by unfold Addr.add; split <;> rfl
  rw [hb.cell (p := x.add i) (by rw [hblk]; exact hB x hx)]
  exact hc

theorem bytes_nil (w : World) : Bytes w none 0 [] := ⟨rfl, fun i c hi => by simp at hi⟩

/-- Two bytes that were written out. -/
theorem bytes_two (w : World) (a b : UInt8) : Bytes (w.alloc (.cells #[.int .u8 (a.toNat : Int), .int .u8 (b.toNat : Int)] 5)) (some ⟨w.heap.size, 0, none⟩) 2 [a, b] := by
  refine ⟨rfl, fun i c hi => ⟨_, rfl, ?_⟩⟩
  match i, hi with
  | 0, hi => simp at hi; subst hi; simp [Addr.add]
  | 1, hi => simp at hi; subst hi; simp [Addr.add]
  | n + 2, hi => simp at hi

theorem get_8001 (w : World) : Calls Try.prog 18 #[.slice (some ⟨w.heap.size, 0, none⟩) 2 2] (w.alloc (.cells #[.int .u8 128, .int .u8 1] 5)) fun e w' =>
    e = .returned (.tuple #[.int .u64 128, .int .i64 2, .bool true]) ∧ w' = w.alloc (.cells #[.int .u8 128, .int .u8 1] 5) := by
  have h := get_any _ 2 2 [128, 1] _ (bytes_two w 128 1) (by decide)
  rw [show getB [128, 1] = (128, 2, true) from by decide +kernel] at h
  exact h
theorem get_8000 (w : World) (k : Nat) (hk : k = w.heap.size) : Calls Try.prog 18 #[.slice (some ⟨k, 0, none⟩) 2 2] (w.alloc (.cells #[.int .u8 128, .int .u8 0] 5)) fun e w' =>
    e = .returned (.tuple #[.int .u64 0, .int .i64 0, .bool false]) ∧ w' = w.alloc (.cells #[.int .u8 128, .int .u8 0] 5) := by
  subst hk
  have h := get_any _ 2 2 [128, 0] _ (bytes_two w 128 0) (by decide)
  rw [show getB [128, 0] = (0, 0, false) from by decide +kernel] at h
  exact h
theorem put_300 (w : World) : Calls Try.prog 10 #[.slice none 0 0, .int .u64 300] w fun e w' => ∃ ao cap, e = .returned (.slice ao 2 cap) ∧ Bytes w' ao 2 [172, 2] ∧ Below w.heap.size w w' := by
  refine (put_any none 0 0 [] 300 w (by omega) (by omega) (fun _ => rfl) (bytes_nil w) (by omega) (by omega)).mono ?_
  rintro e w' ⟨v', rfl, hown, hbel⟩
  rw [show [] ++ putB 300 = [172, 2] from by decide +kernel] at hown
  obtain ⟨ao, cap, rfl, hb, _⟩ := own_bytes hown
  exact ⟨ao, cap, rfl, hb, hbel⟩
theorem putText_ab (w : World) : Calls Try.prog 11 #[.slice none 0 0, .string ⟨#[97, 98]⟩] w fun e w' => ∃ ao cap, e = .returned (.slice ao 3 cap) ∧ Bytes w' ao 3 [2, 97, 98] ∧ Below w.heap.size w w' := by
  refine (putText_any none 0 0 [] ⟨#[97, 98]⟩ w (by omega) (by omega) (fun _ => rfl) (bytes_nil w) (by decide)).mono ?_
  rintro e w' ⟨v', rfl, hown, hbel⟩
  rw [show [] ++ textB (strB ⟨#[97, 98]⟩) = [2, 97, 98] from by decide +kernel] at hown
  obtain ⟨ao, cap, rfl, hb, _⟩ := own_bytes hown
  exact ⟨ao, cap, rfl, hb, hbel⟩

set_option maxRecDepth 100000 in
set_option maxHeartbeats 400000 in
theorem shown_any (w : World) : Calls Try.prog 9 #[] w fun e w' => e = .returned (.bool true) ∧ Below w.heap.size w w' := by
  go_enter Try.func9, Try.ntmps9
  go_wp2_with fail
  refine (get_8001 w).mono ?_
  rintro e w' ⟨rfl, rfl⟩
  go_wp2_with fail
  refine (get_8000 (w.alloc (.cells #[.int .u8 128, .int .u8 1] 5)) (w.heap.size + 1) (by simp)).mono ?_
  rintro e w' ⟨rfl, rfl⟩
  go_wp2_with fail
  refine (put_300 _).mono ?_
  rintro e w1 ⟨ao, cap, rfl, hb, hbel⟩
  have hs := str_bytes cap hb
  have hbel1 : Below w.heap.size w w1 := (((Below.refl _ _).alloc (Nat.le_refl _) _).alloc (by simp) _).trans (hbel.mono (by simp; omega))
  clear hbel hb
  go_wp2_with fail
  refine (putText_ab _).mono ?_
  rintro e w2 ⟨ao2, cap2, rfl, hb2, hbel2⟩
  have hs2 := str_bytes cap2 hb2
  have hbel3 : Below w.heap.size w w2 := hbel1.trans (hbel2.mono hbel1.size)
  clear hbel2 hb2 hbel1
  go_wp2
  go_ret
  exact ⟨rfl, hbel3⟩
end Go.Proofs.Ytlomimhildbkoaa

/-
  What sum.Of and sum.CRC answer: contracts over this translation.
-/
import Derived.Test.YtiimmknnlciljaaDoorSSum
namespace Go.Proofs.YtiimmknnlciljaaDoor.Sm
open Go.RowKit
theorem shaB_length (all : List UInt8) : (shaB all).length = 32 := by
  rw [shaB, ← digFill_all]; exact digFill_length _ 8 (by omega)
set_option maxRecDepth 100000 in
set_option maxHeartbeats 1000000 in
theorem write_nil (b : Nat) (ao : Option Addr) (cap : Nat) (w : World) :
    Calls Tryd.prog 50 #[.pointer (some ⟨b, 0, none⟩), .slice ao 0 cap] w fun e w' => e = .returned (.tuple #[]) ∧ w' = w := by
  go_enter Tryd.func50, Tryd.ntmps50
  go_wp2
  go_loopw [1] (fun x wr => x = .slice ao 0 cap ∧ wr = w) (fun _ _ => 0)
  case atStart => exact ⟨rfl, rfl⟩
  case round =>
    obtain ⟨rfl, rfl⟩ := hrel
    go_wp2
    go_end0
    exact ⟨rfl, rfl⟩
theorem bytes_or {w : World} {ao : Option Addr} {n : Nat} {bs : List UInt8} (hb : Bytes w ao n bs) : (∀ x, ao = some x → x.block < w.heap.size) ∨ bs = [] := by
  cases hq : bs with
  | nil => exact .inr rfl
  | cons c t =>
    refine .inl (fun x hx => ?_)
    obtain ⟨y, hy, hc⟩ := hb.2 0 c (by rw [hq]; rfl)
    rw [hx] at hy; cases hy
    exact World.block_lt_of_cell? w _ hc
/-- Write, of whatever came in ahead of the Hash. -/
theorem write_old (b B : Nat) (all bs : List UInt8) (ao : Option Addr) (n cap : Nat) (w : World) (hH : HH w b all) (hb : Bytes w ao n bs) (hne : (∀ x, ao = some x → x.block < B) ∨ bs = []) (hB : B ≤ b) (hnc : n ≤ cap) (hcap : cap ≤ 9223372036854775807)
    (hK : WW w 0 ks) (hb0 : 0 < b) (hbs : b < w.heap.size) (hbig : all.length + n < 9223372036854775807) :
    Calls Tryd.prog 50 #[.pointer (some ⟨b, 0, none⟩), .slice ao n cap] w fun e w' => e = .returned (.tuple #[]) ∧ HH w' b (all ++ bs) ∧ Chg b w w' := by
  rcases hne with hne | rfl
  · exact write_any b all bs ao n cap w hH hb (fun x hx => by have := hne x hx; omega) hnc hcap hK hb0 hbs hbig
  · obtain rfl : n = 0 := hb.1.symm
    refine (write_nil b ao cap w).mono ?_
    rintro e w' ⟨rfl, rfl⟩
    exact ⟨rfl, by rw [List.append_nil]; exact hH, Chg.refl _ _⟩
set_option maxRecDepth 100000 in
set_option maxHeartbeats 1000000 in
theorem of_any (ao : Option Addr) (n cap : Nat) (bs : List UInt8) (w : World) (hb : Bytes w ao n bs) (hnc : n ≤ cap) (hcap : cap ≤ 9223372036854774000) (hK : WW w 0 ks) (h0 : 0 < w.heap.size) :
    Calls Tryd.prog 30 #[.slice ao n cap] w fun e w' => e = .returned (.agg (cellsOf (shaB bs)).toArray) ∧ Below w.heap.size w w' := by
  obtain ⟨D, HD⟩ : ∃ D, Hid (D = (cellsOf (shaB bs)).toArray) := ⟨_, rfl⟩
  have hDs : D.size = 32 := by rw [HD.out, List.size_toArray, cellsOf_length, shaB_length]
  have hD1 : D.all (·.oneCell') = true := by rw [HD.out]; exact all_oneCell_toArray (cellsOf_one _)
  rw [← HD.out]
  have hor := bytes_or hb
  have hbl := hb.1
  go_enter Tryd.func30, Tryd.ntmps30
  go_wp2_with fail
  obtain ⟨A, HA⟩ : ∃ A : Array Value, Hid (A = (cellsOf (List.replicate 32 0)).toArray) := ⟨_, rfl⟩
  have hA : A.size = 32 := by rw [HA.out]; rfl
  refine (new_any _).mono ?_
  rintro e w1 ⟨b, rfl, hb1, hb2, hH, hbel1⟩
  have hbelA : Below w.heap.size w w1 := (bel_alloc _ _).trans (hbel1.mono (by simp))
  have hsz : w.heap.size + 1 ≤ b := by simpa using hb1
  have hres : w1.heap[w.heap.size]? = some (.cells A 32) := by
    rw [HA.out]; exact (hbel1.block _ (by simp)).trans (heap_alloc_new _ _)
  have hbw := bytes_kept hb hbelA (Nat.le_refl _)
  have hK1 := hK.below hbelA h0
  clear hbel1 hb1 hb hK
  generalize hn : w.heap.size = r at *
  have HOR : Hid ((∀ x, ao = some x → x.block < r) ∨ bs = []) := hor
  clear hor HA
  go_wp2_with fail
  refine (write_old b r [] bs ao n cap w1 hH hbw HOR.out (by omega) hnc (by omega) hK1 (by omega) hb2 (by simp; omega)).mono ?_
  rintro e w2 ⟨rfl, hH2, hchg⟩
  rw [List.nil_append] at hH2
  have hs2 := hchg.size
  have hK2 := hK1.chg hchg (by omega) (by omega)
  have hres2 := (hchg.block r (by omega) (by omega)).trans hres
  have hbel2 : Below r w w2 := hbelA.trans (hchg.below (by omega) (by omega))
  clear hres hK1 hbw hchg hbelA
  go_wp2_with fail
  refine (sum_any b bs w2 hH2 hK2 (by omega) (by omega) (by omega)).mono ?_
  rintro e w3 ⟨rfl, hbel3⟩
  rw [← HD.out]
  have hres3 := (hbel3.block r (by omega)).trans hres2
  have hbelF : Below r w w3 := hbel2.trans (hbel3.mono (by omega))
  clear hres2 hK2 hH2 hbel3 hbel2 HD
  go_wp2_with (refine wpList_store_row rfl 32 (.tmp 2) (.tmp 9) rfl r D rfl rfl 32 A hres3 ?hs2 ?ho hD1 ?_)
  case hs2 => rw [size24, hDs]
  case ho => rw [hA, hDs]
  refine bodyPost_ret (results_cell_row rfl _ _ r 32 D (0, 0) _ rfl (setRow_heap _ _ _ _ _ _ hres3) Tryd.underlying32 rfl (by rw [size24, hDs])) rfl ?_
  exact ⟨rfl, by rw [hn]; exact below_setRow hbelF (Nat.le_refl _) _⟩

end Go.Proofs.YtiimmknnlciljaaDoor.Sm

/-
  disk.Used, disk.Up, check.
-/
import Derived.Test.YtomeghngjiaofaaDskM
import Derived.Test.YtomeghngjiaofaaBas
namespace Go.Proofs.Ytomeghngjiaofaa
open Go.RowKit
theorem used_any (g : Nat) (u : Int) (w : World) (h : w.cell? ⟨g, 1, none⟩ = some (.int .i64 u)) : Calls Try.prog 33 #[.pointer (some ⟨g, 0, none⟩)] w fun e w' => e = .returned (.int .i64 u) ∧ w' = w := by
  go_enter Try.func33, Try.ntmps33
  go_wp2_with fail
  go_ret
  exact ⟨rfl, rfl⟩
theorem up_any (g : Nat) (down : Bool) (w : World) (h : w.cell? ⟨g, 4, none⟩ = some (.bool down)) : Calls Try.prog 29 #[.pointer (some ⟨g, 0, none⟩)] w fun e w' => e = .returned (.bool (!down)) ∧ w' = w := by
  go_enter Try.func29, Try.ntmps29
  go_wp2_with fail
  go_ret
  exact ⟨rfl, rfl⟩
def badName (s : ByteArray) : Bool := decide (s.size < 1) || decide (64 < s.size)
def chk (down : Bool) (ts : List ByteArray) : Int := if down then 6 else if ts.any badName then 1 else 0
theorem dcheck_any (g : Nat) (down : Bool) (ao : Option Addr) (n c b off : Nat) (ts : List ByteArray) (w : World) (hd : w.cell? ⟨g, 4, none⟩ = some (.bool down)) (ht : ∀ j s, ts[j]? = some s → w.cell? ⟨b, off + j, none⟩ = some (.string s)) (hn : ts.length = n) (hao : 0 < n → ao = some ⟨b, off, none⟩) (hsm : n ≤ 1000) :
    Calls Try.prog 51 #[.pointer (some ⟨g, 0, none⟩), .slice ao n c] w fun e w' => e = .returned (.int .i64 (chk down ts)) ∧ w' = w := by
  have HT : Hid (∀ j s, ts[j]? = some s → w.cell? ⟨b, off + j, none⟩ = some (.string s)) := ht
  have HN : Hid (ts.length = n) := hn
  have HAO : Hid (0 < n → ao = some ⟨b, off, none⟩) := hao
  have HSM : Hid (n ≤ 1000) := hsm
  clear ht hn hao hsm
  go_enter Try.func51, Try.ntmps51
  cases down with
  | true =>
    go_wp2_with fail
    go_ret
    exact ⟨rfl, rfl⟩
  | false =>
    go_wp2_with fail
    go_loopw [13] (fun a wr => ∃ (j : Nat), Hid (j ≤ n) ∧ a = .int .i64 j ∧ Hid ((ts.take j).any badName = false) ∧ w = wr) (fun a _ => n - (intOf a).toNat)
    case atStart => exact ⟨0, Nat.zero_le _, rfl, rfl, rfl⟩
    case round =>
      obtain ⟨j, HJ, rfl, HG, rfl⟩ := hrel
      by_cases hj : j < n
      · obtain ⟨s, hs⟩ : ∃ s, ts[j]? = some s := ⟨ts[j]'(by rw [HN.out]; exact hj), by simp⟩
        obtain rfl := HAO.out (Nat.lt_of_le_of_lt (Nat.zero_le _) hj)
        have hc := HT.out j s hs
        have hj' : (j : Int) < (n : Int) := Int.ofNat_lt.2 hj
        have hj0 : (0 : Int) ≤ (j : Int) := Int.natCast_nonneg _
        have HJN : Hid (j < n) := hj
        have HTK : Hid (ts.take (j + 1) = ts.take j ++ [s]) := by show _ = _; rw [List.take_add_one, hs]; rfl
        have HSG : Hid (ts[j]? = some s) := hs
        have HINC : Hid (wrap64 ((j : Int) + 1) = ((j + 1 : Nat) : Int)) := winc (Nat.lt_of_lt_of_le hj (Nat.le_trans HSM.out (by decide)))
        clear hj hs
        by_cases h1 : s.size < 1
        · have h1i : (s.size : Int) < 1 := by omega
          clear HINC
          go_wp2_with fail
          go_ret
          refine ⟨?_, rfl⟩
          have hb : ts.any badName = true := List.any_eq_true.2 ⟨s, List.mem_of_getElem? HSG.out, by simp [badName, h1]⟩
          simp [chk, hb]
        · by_cases h2 : 64 < s.size
          · have h1i : ¬ (s.size : Int) < 1 := by omega
            have h2i : (64 : Int) < (s.size : Int) := by omega
            clear HINC
            go_wp2_with fail
            go_ret
            refine ⟨?_, rfl⟩
            have hb : ts.any badName = true := List.any_eq_true.2 ⟨s, List.mem_of_getElem? HSG.out, by simp [badName, h2]⟩
            simp [chk, hb]
          · have h1i : ¬ (s.size : Int) < 1 := by omega
            have h2i : ¬ (64 : Int) < (s.size : Int) := by omega
            have HG2 : Hid ((ts.take (j + 1)).any badName = false) := by
              have h5 : badName s = false := by unfold badName; rw [decide_eq_false h1, decide_eq_false h2]; rfl
              show _ = _; rw [HTK.out, List.any_append, HG.out]; simp [h5]
            have hinc := HINC.out
            clear h1 h2
            go_wp2_with fail
            exact ⟨⟨j + 1, HJN.out, by first | rfl | rw [hinc], HG2, by first | rfl | trivial⟩, by first | exact meas_up HJN.out | (rw [hinc]; exact meas_up HJN.out)⟩
      · have hj' : ¬ (j : Int) < (n : Int) := fun h => hj (Int.ofNat_lt.1 h)
        have hb : ts.any badName = false := by have h5 := HG.out; rwa [List.take_of_length_le (by rw [HN.out]; omega)] at h5
        have HB : Hid (ts.any badName = false) := hb
        clear hb hj
        go_wp2_with fail
        go_ret
        exact ⟨by simp [chk, HB.out], rfl⟩
end Go.Proofs.Ytomeghngjiaofaa

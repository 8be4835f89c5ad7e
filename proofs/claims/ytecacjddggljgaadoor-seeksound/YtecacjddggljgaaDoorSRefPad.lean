/-
  What the document's answer marlstoneref02.Padded answers: a contract over this translation.
-/
import Derived.Test.YtecacjddggljgaaDoorSTail
namespace Go.Proofs.YtecacjddggljgaaDoor.Sm
open Go.RowKit
def lenB (m : Nat) : List UInt8 := [7, 6, 5, 4, 3, 2, 1, 0].map fun i => UInt8.ofNat (m / 2 ^ (8 * i) % 256)
theorem lenB_at (m i : Nat) (hi : i ≤ 7) : (lenB m)[7 - i]? = some (UInt8.ofNat (m / 2 ^ (8 * i) % 256)) := by
  match i, hi with
  | 0, _ => rfl
  | 1, _ => rfl
  | 2, _ => rfl
  | 3, _ => rfl
  | 4, _ => rfl
  | 5, _ => rfl
  | 6, _ => rfl
  | 7, _ => rfl
theorem lenB_eq (n : Nat) (h : 8 * n < 18446744073709551616) : word4 (UInt32.ofNat (8 * n % 18446744073709551616 / 4294967296)) ++ word4 (UInt32.ofNat (8 * n % 4294967296)) = lenB (8 * n) := by
  have e1 : (UInt32.ofNat (8 * n % 18446744073709551616 / 4294967296)).toNat = 8 * n / 4294967296 := by rw [UInt32.toNat_ofNat']; omega
  have e2 : (UInt32.ofNat (8 * n % 4294967296)).toNat = 8 * n % 4294967296 := by rw [UInt32.toNat_ofNat']; omega
  have k7 : 8 * n / 4294967296 / 16777216 = 8 * n / 2 ^ (8 * 7) % 256 := by simp only [Nat.reduceMul, Nat.reducePow]; omega
  have k6 : 8 * n / 4294967296 / 65536 % 256 = 8 * n / 2 ^ (8 * 6) % 256 := by simp only [Nat.reduceMul, Nat.reducePow]; omega
  have k5 : 8 * n / 4294967296 / 256 % 256 = 8 * n / 2 ^ (8 * 5) % 256 := by simp only [Nat.reduceMul, Nat.reducePow]; omega
  have k4 : 8 * n / 4294967296 % 256 = 8 * n / 2 ^ (8 * 4) % 256 := by simp only [Nat.reduceMul, Nat.reducePow]
  have k3 : 8 * n % 4294967296 / 16777216 = 8 * n / 2 ^ (8 * 3) % 256 := by simp only [Nat.reduceMul, Nat.reducePow]; omega
  have k2 : 8 * n % 4294967296 / 65536 % 256 = 8 * n / 2 ^ (8 * 2) % 256 := by simp only [Nat.reduceMul, Nat.reducePow]; omega
  have k1 : 8 * n % 4294967296 / 256 % 256 = 8 * n / 2 ^ (8 * 1) % 256 := by simp only [Nat.reduceMul, Nat.reducePow]; omega
  have k0 : 8 * n % 4294967296 % 256 = 8 * n / 2 ^ (8 * 0) % 256 := by simp only [Nat.reduceMul, Nat.reducePow]; omega
  rw [word4, word4, e1, e2, k7, k6, k5, k4, k3, k2, k1, k0]
  rfl
theorem byte_num (m i : Nat) : (m : Int) / 2 ^ (8 * i) % 256 = ((UInt8.ofNat (m / 2 ^ (8 * i) % 256)).toNat : Int) := by
  rw [toNat_ofNat _ (by omega)]; simp
theorem one_at (w : World) (c : UInt8) (v : Value) (h : v = .int .u8 (c.toNat : Int)) : (w.alloc (.cells #[v] 5)).cell? (Addr.add ⟨w.heap.size, 0, none⟩ 0) = some (.int .u8 c.toNat) := by
  subst h
  rw [Addr.add_lit, Nat.zero_add, cell_of_row _ _ 0 _ 5 (0, 0) (heap_alloc_new _ _)]
  rfl
set_option maxRecDepth 100000 in
set_option maxHeartbeats 1000000 in
theorem padded_any (s : ByteArray) (w : World) (hs : s.size ≤ 3000) :
    Calls Tryd.prog 146 #[.string s] w fun e w' => ∃ v, e = .returned v ∧ OwnT w' w.heap.size v (strB s ++ closeB s.size) ∧ Below w.heap.size w w' := by
  obtain ⟨n, hn⟩ : ∃ n, s.size = n := ⟨_, rfl⟩
  have hconv := Lib.run_convert_string_bytes (P := Tryd.prog) w 9 27 5 s Tryd.underlying9 Tryd.underlying27 Tryd.underlying5
  have hO := ownT_conv w s (by omega)
  have hbel := bel_conv w s
  have hsl := strB_length s
  rw [hn] at hO hconv hsl hs ⊢
  have HN : Hid (s.size = n) := hn
  clear hn
  generalize Lib.bytesWorld w 5 s = w1 at *
  generalize grownCap w n 0 5 = c1 at *
  have HO : Hid (OwnT w1 w.heap.size (.slice (some ⟨w.heap.size, 0, none⟩) n c1) (strB s)) := hO
  clear hO
  have hs1 := hbel.size
  have hszn := HN.out
  obtain ⟨z, HZ⟩ : ∃ z, Hid (z = zerosOf n) := ⟨_, rfl⟩
  have hz64 : z < 64 := by rw [HZ.out]; unfold zerosOf; omega
  have HZM : Hid (∀ j, j ≤ z → ((n + 1 + j) % 64 = 56 ↔ j = z)) := fun j hj => by rw [HZ.out] at *; unfold zerosOf at *; omega
  have HCL : Hid (closeB n = 128 :: List.replicate z 0 ++ lenB (8 * n)) := by show _ = _; rw [closeB, lenB_eq n (by omega), ← HZ.out]
  go_enter Tryd.func146, Tryd.ntmps146
  go_wp2_with (at_builtin; refine wpList_append_tail _ rfl (.tmp 8) (.tmp 9) rfl w.heap.size _ (strB s) rfl (HO.out.below (bel_alloc _ _) (Nat.le_refl _)) (by simp; omega) ⟨w1.heap.size, 0, none⟩ 1 128 rfl (one_at w1 128 _ rfl) (by omega) ?_)
  intro v2 w2 hO2 hbel2
  have hbw2 : Below w.heap.size w w2 := hbel.trans (((bel_alloc _ _).mono hbel.size).trans hbel2)
  clear hbel hbel2 HO hconv
  have hs2 := hbw2.size
  generalize hnn : w.heap.size = n0 at *
  have HO2 : Hid (OwnT w2 n0 v2 (strB s ++ [128])) := hO2
  clear hO2
  go_wp2_with fail
  go_loopw [3] (fun a wr => ∃ (j : Nat) (v : Value), j ≤ z ∧ v = a ∧ OwnT wr n0 v (strB s ++ 128 :: List.replicate j 0) ∧ Below n0 w wr ∧ n0 ≤ wr.heap.size) (fun a _ => match a with | .slice _ l _ => n + 1 + z - l | _ => 0)
  case atStart => exact ⟨0, _, by omega, rfl, HO2.out, hbw2, hs2⟩
  case round =>
    clear HO2
    obtain ⟨j, v, hj, rfl, hO, hbr, hsr⟩ := hrel
    have hl : (strB s ++ 128 :: List.replicate j 0).length = n + 1 + j := by simp [hsl]; omega
    have HO := hO
    obtain ⟨g, cap, cur, fz, hv, h2, h3, h4, h5, h6, h7, h8⟩ := hO
    have HOO : Hid (OwnT wr n0 v (strB s ++ 128 :: List.replicate j 0)) := HO
    rw [hl] at hv
    clear h3 h4 h5 h6 h7 h8 HO
    subst hv
    have hmod : (((n + 1 + j : Nat) : Int)).tmod 64 = (((n + 1 + j) % 64 : Nat) : Int) := by rw [Int.tmod_eq_emod_of_nonneg (by omega)]; omega
    have hjm := HZM.out j hj
    by_cases hjz : j = z
    · subst hjz
      have hne : (((n : Int) + 1 + (j : Int)) % 64 != 56) = false := by
        have : (n + 1 + j) % 64 = 56 := hjm.2 rfl
        simp; omega
      have HCL2 : Hid (strB s ++ closeB n = (strB s ++ 128 :: List.replicate j 0) ++ lenB (8 * n)) := by show _ = _; rw [HCL.out]; simp
      obtain ⟨A, HA⟩ : ∃ A : List UInt8, Hid (A = strB s ++ 128 :: List.replicate j 0) := ⟨strB s ++ 128 :: List.replicate j 0, rfl⟩
      rw [← HA.out] at HOO HCL2 hl
      have hn8 : ((n : Int) * 8) = ((8 * n : Nat) : Int) := by omega
      obtain ⟨m, hm⟩ : ∃ m, m = 8 * n := ⟨_, rfl⟩
      rw [← hm] at HCL2 hn8
      have hml : m < 18446744073709551616 := by omega
      have HM : Hid (m = 8 * n) := hm
      clear hjm hm HZM HCL HA
      go_wp2_with fail
      go_loopw [3, 5] (fun a t wq => ∃ (k : Nat) (v : Value), k ≤ 8 ∧ v = a ∧ t = .int .i64 (7 - (k : Int)) ∧ OwnT wq n0 v (A ++ (lenB m).take k) ∧ Below n0 w wq ∧ n0 ≤ wq.heap.size) (fun _ t _ => (intOf t + 1).toNat)
      case atStart => exact ⟨0, _, by omega, rfl, rfl, by rw [List.take_zero, List.append_nil]; exact HOO.out, hbr, hsr⟩
      case round =>
        clear HOO hbr hsr
        obtain ⟨k, v, hk, rfl, rfl, hO, hbr, hsr⟩ := hrel
        by_cases hk8 : k < 8
        · obtain ⟨i, hi⟩ : ∃ i, i = 7 - k := ⟨_, rfl⟩
          have hki : 7 - (k : Int) = (i : Int) := by omega
          rw [hki]
          have hi7 : (i : Int) ≤ 7 := by omega
          have hi0 : (0 : Int) ≤ (i : Int) := by omega
          have hx := lenB_at m i (by omega)
          have hnum := byte_num m i
          rw [show 7 - i = k by omega] at hx
          have HT : Hid (A ++ ((lenB m).take k ++ [UInt8.ofNat (m / 2 ^ (8 * i) % 256)]) = A ++ (lenB m).take (k + 1)) := by
            show _ = _; rw [List.take_add_one, hx]; rfl
          generalize UInt8.ofNat (m / 2 ^ (8 * i) % 256) = c at *
          have hcl := c.toNat_lt
          have hl2 : (A ++ (lenB m).take k).length ≤ 4000 := by rw [List.length_append, hl, List.length_take]; omega
          have HOK : Hid (OwnT wr n0 v (A ++ (lenB m).take k)) := hO
          have HK : Hid (i = 7 - k) := hi
          clear hO hx hi
          go_wp2_with (at_builtin; refine wpList_append_tail _ rfl (.tmp 26) (.tmp 33) rfl n0 v (A ++ (lenB m).take k) rfl (HOK.out.below (bel_alloc _ _) (Nat.le_refl _)) (by simp; omega) ⟨wr.heap.size, 0, none⟩ 1 c rfl (one_at wr c _ rfl) (by omega) ?_)
          intro v3 w3 hO3 hbel3
          rw [HT.out] at hO3
          have hbw3 : Below n0 w w3 := (hbr.trans ((bel_alloc _ _).mono hsr)).trans hbel3
          have hs3 := hbw3.size
          have HO3 : Hid (OwnT w3 n0 v3 (A ++ (lenB m).take (k + 1))) := hO3
          clear hO3 HOK hbel3 hnum
          go_wp2
          go_roundw
          case rel => exact ⟨k + 1, _, by omega, rfl, by have := HK.out; congr 1; omega, HO3.out, hbw3, by omega⟩
          case measure => first | (simp [intOf]; done) | (simp [intOf]; omega)
        · obtain rfl : k = 8 := by omega
          rw [show (lenB m).take 8 = lenB m from rfl, ← HCL2.out] at hO
          have HOK : Hid (OwnT wr n0 v (strB s ++ closeB n)) := hO
          have h78 : (7 : Int) - ((8 : Nat) : Int) = -1 := by omega
          rw [h78]
          clear hO
          go_wp2
          go_ret
          exact ⟨v, rfl, by rw [hnn]; exact HOK.out, by rw [hnn]; exact hbr⟩
    · have hne : ((((n + 1 + j) % 64 : Nat) : Int) != 56) = true := by
        have : (n + 1 + j) % 64 ≠ 56 := fun h => hjz (hjm.1 h)
        simp; omega
      generalize hmm : (n + 1 + j) % 64 = mm at *
      clear hjm
      go_wp2_with (at_builtin; refine wpList_append_tail _ rfl (.tmp 15) (.tmp 16) rfl n0 _ (strB s ++ 128 :: List.replicate j 0) rfl (HOO.out.below (bel_alloc _ _) (Nat.le_refl _)) (by simp; omega) ⟨wr.heap.size, 0, none⟩ 1 0 rfl (one_at wr 0 _ rfl) (by rw [hl]; omega) ?_)
      intro v3 w3 hO3 hbel3
      rw [← List.replicate_succ'] at hO3
      have hbw3 : Below n0 w w3 := (hbr.trans ((bel_alloc _ _).mono hsr)).trans hbel3
      have hs3 := hbw3.size
      have hl3 : (strB s ++ 128 :: List.replicate (j + 1) 0).length = n + 1 + (j + 1) := by simp [hsl]; omega
      have HO3 : Hid (OwnT w3 n0 v3 (strB s ++ 128 :: List.replicate (j + 1) 0)) := hO3
      obtain ⟨g3, cap3, cur3, fz3, hv3, k2, k3, k4, k5, k6, k7, k8⟩ := hO3
      rw [hl3] at hv3
      clear k3 k4 k5 k6 k7 k8 HOO hbel3
      subst hv3
      go_wp2
      go_roundw
      case rel => exact ⟨j + 1, _, by omega, rfl, HO3.out, hbw3, by omega⟩
      case measure => simp; omega
end Go.Proofs.YtecacjddggljgaaDoor.Sm

/-
  The statement FrameApart, walked.
-/
import Derived.Test.YtaejcclepahefaaShown
import Derived.BigQuiet
namespace Go.Proofs.Ytaejcclepahefaa
open Go.RowKit
theorem wadd8 {m k : Nat} (h : 8 + m = k) (hm : m ≤ 1000) : wrap64 ((m : Int) + 8) = (k : Int) := by unfold wrap64; omega
theorem frame_drop (a : List UInt8) : (frameB a).drop 8 = a := by
  unfold frameB
  rw [← List.append_assoc, List.drop_append, List.drop_of_length_le (by simp [fixB_length])]
  simp [fixB_length]
theorem fix_front (v : Nat) (hv : v < 4294967296) (r : List UInt8) (n : Nat) (hn : 4 ≤ n) : (fixOf ((fixB v ++ r).take n)).1 = v := by
  rw [List.take_append, List.take_of_length_le (by rw [fixB_length]; exact hn), fixOf_fixB v hv]
theorem frame_apart (a b : List UInt8) (n : Nat) (ha : a.length ≤ 65536) (hb : b.length ≤ 65536) (hn : n = min (8 + a.length) (8 + b.length)) (h : (frameB a).take n = (frameB b).take n) : a = b := by
  have h1 := congrArg (fun l => (fixOf l).1) h
  simp only [frameB] at h1
  rw [fix_front _ (by omega) _ _ (by omega), fix_front _ (by omega) _ _ (by omega)] at h1
  rw [List.take_of_length_le (by rw [frameB_length]; omega), List.take_of_length_le (by rw [frameB_length]; omega)] at h
  have h2 := congrArg (List.drop 8) h
  rwa [frame_drop, frame_drop] at h2
def bS (l : List UInt8) : ByteArray := ⟨l.toArray⟩
theorem str_same (l m : List UInt8) : ((bS l).toList == (bS m).toList) = decide (l = m) := by
  rw [ByteArray.toList_eq, ByteArray.toList_eq]
  have h1 : (bS l).data.toList = l := by simp [bS]
  have h2 : (bS m).data.toList = m := by simp [bS]
  rw [h1, h2]
  by_cases h : l = m
  · subst h; simp
  · simp [h]
theorem str_bS {w : World} {ao : Option Addr} {n : Nat} {bs : List UInt8} (cap : Nat) (h : Bytes w ao n bs) : (convert 28 9 (.slice ao n cap)).run Try.prog w = .ok (.string (bS bs)) w := str_bytes cap h
theorem bytes_drewN {w : World} {ao : Option Addr} {n : Nat} {bs : List UInt8} (k : Nat) (h : Bytes w ao n bs) : Bytes (w.drewN k) ao n bs := bytes_kept h (bel_drewN (Below.refl w.heap.size w) k) (Nat.le_refl _)
/-- Put behind nothing. -/
theorem put_nil (b : SV) (k : Nat) (w : World) (h2 : Bytes w b.ao b.n b.bs) (f2 : b.fine) (hb : b.n ≤ 65536) (hk : 8 + b.n = k) :
    Calls Try.prog 44 #[.slice none 0 0, .slice b.ao b.n b.c] w fun e w' => ∃ g c, e = .returned (.tuple #[.slice (some ⟨g, 0, none⟩) k c, .int .i64 0]) ∧ w'.ownsRow w.heap.size 5 1 (.slice (some ⟨g, 0, none⟩) k c) k (cellsOf (frameB b.bs)) ∧ (k ≤ c ∧ c ≤ 9223372036854775807) ∧ (w.heap.size ≤ g ∧ g < w'.heap.size) ∧ Below w.heap.size w w' := by
  refine (put_any ⟨none, 0, 0, []⟩ b w (bytes_nil w) h2 ⟨fun _ => rfl, Nat.le_refl _, (by show 0 ≤ 9223372036854775807; omega)⟩ f2 hb (by show 0 ≤ 140737488250000; omega)).mono ?_
  rintro e w' ⟨v, rfl, hown, hbel⟩
  simp only [Nat.zero_add, hk, List.nil_append] at hown
  obtain ⟨g, c, rfl, h3, h4, h5, h6⟩ := own_shape hown (by omega)
  exact ⟨g, c, rfl, hown, ⟨h5, h6⟩, ⟨h3, h4⟩, hbel⟩
set_option maxRecDepth 100000 in
set_option maxHeartbeats 4000000 in
theorem apart_walk (a b : SV) (w : World) (h1 : Bytes w a.ao a.n a.bs) (h2 : Bytes w b.ao b.n b.bs) (f1 : a.fine) (f2 : b.fine) :
    Calls Try.prog 17 #[.slice a.ao a.n a.c, .slice b.ao b.n b.c] w fun e w' => e = .returned (.bool true) ∧ Below w.heap.size w w' := by
  obtain ⟨ao, an, ac, xs⟩ := a
  obtain ⟨bo, bn, bc, bs⟩ := b
  simp only at h1 h2 ⊢
  have g1 : an ≤ ac := f1.2.1
  have g2 : bn ≤ bc := f2.2.1
  have g3 : ac ≤ 9223372036854775807 := f1.2.2
  have g4 : bc ≤ 9223372036854775807 := f2.2.2
  obtain ⟨m, hm⟩ : ∃ m, min an 1000 = m := ⟨_, rfl⟩
  obtain ⟨p, hp⟩ : ∃ p, min bn 1000 = p := ⟨_, rfl⟩
  have hmin : min (an : Int) 1000 = (m : Int) := by omega
  have hmin2 : min (bn : Int) 1000 = (p : Int) := by omega
  have k1 : (0 : Int) ≤ (m : Int) := by omega
  have k2 : (m : Int) ≤ (ac : Int) := by omega
  have k3 : (0 : Int) ≤ (p : Int) := by omega
  have k4 : (p : Int) ≤ (bc : Int) := by omega
  obtain ⟨x, HX⟩ : ∃ x, Hid (xs.take m = x) := ⟨_, rfl⟩
  obtain ⟨y, HY⟩ : ∃ y, Hid (bs.take p = y) := ⟨_, rfl⟩
  have HA : Hid (∀ W, Below w.heap.size w W → Bytes W ao m x) := fun W hW => by rw [← HX.out]; exact bytes_take (bytes_kept h1 hW (Nat.le_refl _)) m (by omega)
  have HB : Hid (∀ W, Below w.heap.size w W → Bytes W bo p y) := fun W hW => by rw [← HY.out]; exact bytes_take (bytes_kept h2 hW (Nat.le_refl _)) p (by omega)
  have FA : Hid (SV.fine ⟨ao, m, ac, x⟩) := ⟨f1.1, (by show m ≤ ac; omega), g3⟩
  have FB : Hid (SV.fine ⟨bo, p, bc, y⟩) := ⟨f2.1, (by show p ≤ bc; omega), g4⟩
  have hxl : Hid (x.length = m) := (HA.out w (Below.refl _ _)).1
  have hyl : Hid (y.length = p) := (HB.out w (Below.refl _ _)).1
  have hm1 : m ≤ 1000 := by omega
  have hp1 : p ≤ 1000 := by omega
  obtain ⟨km, hkm⟩ : ∃ k, 8 + m = k := ⟨_, rfl⟩
  obtain ⟨kp, hkp⟩ : ∃ k, 8 + p = k := ⟨_, rfl⟩
  clear h1 h2 f1 f2 HX HY hm hp
  go_enter Try.func17, Try.ntmps17
  go_wp2_with fail
  refine (shown_any w).mono ?_
  rintro e w1 ⟨rfl, hb1⟩
  have HP := put_nil ⟨ao, m, ac, x⟩ km w1 (HA.out _ hb1) FA.out (by show m ≤ 65536; omega) hkm
  have HPP : Hid _ := HP
  have HB1 : Hid (Below w.heap.size w w1) := hb1
  clear hb1 HP
  go_wp2_with fail
  refine Calls.mono HPP.out ?_
  rintro e w2 ⟨gx, cx, rfl, hox, ⟨q1, q2⟩, ⟨q3, q4⟩, hb2⟩
  have HB2 : Hid (Below w.heap.size w w2) := HB1.out.trans (hb2.mono HB1.out.size)
  have HOX : Hid (Bytes w2 (some ⟨gx, 0, none⟩) km (frameB x)) := own_row_bytes hox
  have HP := put_nil ⟨bo, p, bc, y⟩ kp w2 (HB.out _ HB2.out) FB.out (by show p ≤ 65536; omega) hkp
  have HPP2 : Hid _ := HP
  clear hb2 HP hox HPP q3 q4
  go_wp2_with fail
  refine Calls.mono HPP2.out ?_
  rintro e w3 ⟨gy, cy, rfl, hoy, ⟨q5, q6⟩, ⟨q7, q8⟩, hb3⟩
  have HB3 : Hid (Below w.heap.size w w3) := HB2.out.trans (hb3.mono HB2.out.size)
  have HOX3 : Hid (Bytes w3 (some ⟨gx, 0, none⟩) km (frameB x)) := bytes_kept HOX.out hb3 (Nat.le_refl _)
  have HOY3 : Hid (Bytes w3 (some ⟨gy, 0, none⟩) kp (frameB y)) := own_row_bytes hoy
  clear hb3 hoy HPP2 HOX HB1 HB2 q7 q8
  have r1 : (8 : Int) + (m : Int) = (km : Int) := by omega
  have n1 : ¬ cx = 8 ∨ cx = 8 := by omega
  obtain ⟨nx, hnx⟩ : ∃ z, (if cx = 8 then some (⟨gx, 0, none⟩ : Addr) else some ⟨gx, 8, none⟩) = z := ⟨_, rfl⟩
  obtain ⟨ny, hny⟩ : ∃ z, (if cy = 8 then some (⟨gy, 0, none⟩ : Addr) else some ⟨gy, 8, none⟩) = z := ⟨_, rfl⟩
  have cv1 : ∀ k, (convert 28 9 (.slice nx (km - 8) (cx - 8))).run Try.prog (w3.drewN k) = .ok (.string (bS x)) (w3.drewN k) := fun k => str_bS _ (bytes_drewN k (by
    have h := bytes_drop HOX3.out 8
    rw [frame_drop, Nat.zero_add] at h
    rw [← hnx]
    split
    · have e : km - 8 = 0 := by omega
      rw [e] at h ⊢
      exact ⟨h.1, fun i c hi => by have := (List.getElem?_eq_some_iff.1 hi).1; rw [h.1] at this; omega⟩
    · exact h))
  have cv2 : ∀ k, (convert 28 9 (.slice ny (kp - 8) (cy - 8))).run Try.prog (w3.drewN k) = .ok (.string (bS y)) (w3.drewN k) := fun k => str_bS _ (bytes_drewN k (by
    have h := bytes_drop HOY3.out 8
    rw [frame_drop, Nat.zero_add] at h
    rw [← hny]
    split
    · have e : kp - 8 = 0 := by omega
      rw [e] at h ⊢
      exact ⟨h.1, fun i c hi => by have := (List.getElem?_eq_some_iff.1 hi).1; rw [h.1] at this; omega⟩
    · exact h))
  have cv3 : ∀ k, (convert 28 9 (.slice ao m ac)).run Try.prog (w3.drewN k) = .ok (.string (bS x)) (w3.drewN k) := fun k => str_bS _ (bytes_drewN k (HA.out _ HB3.out))
  have cv4 : ∀ k, (convert 28 9 (.slice bo p bc)).run Try.prog (w3.drewN k) = .ok (.string (bS y)) (w3.drewN k) := fun k => str_bS _ (bytes_drewN k (HB.out _ HB3.out))
  clear n1
  have HH : Hid (HA = HA) := rfl
  clear HH hmin hmin2 k1 k2 k3 k4 g1 g2 g3 g4
  have j1 : (8 : Int) ≤ (km : Int) := by omega
  have j2 : (8 : Int) ≤ (kp : Int) := by omega
  have j3 : (km : Int) ≤ (cx : Int) := by omega
  have j4 : (kp : Int) ≤ (cy : Int) := by omega
  have w8 : IntKind.i64.wrap ((m : Int) + 8) = (km : Int) := (IntWalk.i64_left _).trans (wadd8 hkm hm1)
  have w9 : IntKind.i64.wrap ((p : Int) + 8) = (kp : Int) := (IntWalk.i64_left _).trans (wadd8 hkp hp1)
  have HAP : Hid (∀ n, n = min km kp → ((bS ((frameB x).take n)).toList == (bS ((frameB y).take n)).toList) = decide (x = y)) := fun n hn => by
    rw [str_same]
    by_cases e : x = y
    · subst e; simp
    · rw [decide_eq_false e]
      exact decide_eq_false fun h => e (frame_apart x y n (by rw [hxl.out]; omega) (by rw [hyl.out]; omega) (by rw [hxl.out, hyl.out, hkm, hkp]; exact hn) h)
  obtain ⟨n, hn⟩ : ∃ n, min km kp = n := ⟨_, rfl⟩
  have hmn : min (km : Int) (kp : Int) = (n : Int) := by omega
  have i1 : (0 : Int) ≤ (n : Int) := by omega
  have i2 : (n : Int) ≤ (cx : Int) := by omega
  have i3 : (n : Int) ≤ (cy : Int) := by omega
  have HI4 : Hid (n ≤ km ∧ n ≤ kp) := ⟨by omega, by omega⟩
  have HNQ : Hid (((bS ((frameB x).take n)).toList == (bS ((frameB y).take n)).toList) = decide (x = y)) := HAP.out n hn.symm
  clear r1 hkm hkp q1 q2 q5 q6 hm1 hp1 HAP
  clear hn
  go_wp2_with fail
  go_quiet (fail)
  have HB4 : Hid (Below w.heap.size w (w3.drewN nq)) := bel_drewN HB3.out nq
  have HOX4 : Hid (Bytes (w3.drewN nq) (some ⟨gx, 0, none⟩) km (frameB x)) := bytes_drewN nq HOX3.out
  have HOY4 : Hid (Bytes (w3.drewN nq) (some ⟨gy, 0, none⟩) kp (frameB y)) := bytes_drewN nq HOY3.out
  clear cv1 cv2 cv3 cv4 HOX3 HOY3 HB3 hnx hny w8 w9
  generalize w3.drewN nq = w4 at *
  obtain ⟨sx, HSX⟩ : ∃ z, Hid (bS ((frameB x).take n) = z) := ⟨_, rfl⟩
  obtain ⟨sy, HSY⟩ : ∃ z, Hid (bS ((frameB y).take n) = z) := ⟨_, rfl⟩
  obtain ⟨r, HR⟩ : ∃ r, Hid (decide (x = y) = r) := ⟨_, rfl⟩
  have hbx : (sx.toList == sy.toList) = r := by rw [← HSX.out, ← HSY.out, HNQ.out, HR.out]
  have hby : ((bS x).toList == (bS y).toList) = r := by rw [str_same, HR.out]
  have cv5 : ∀ k, (convert 28 9 (.slice (some ⟨gx, 0, none⟩) n cx)).run Try.prog (w4.drewN k) = .ok (.string sx) (w4.drewN k) := fun k => by
    rw [← HSX.out]; exact str_bS _ (bytes_drewN k (bytes_take HOX4.out n HI4.out.1))
  have cv6 : ∀ k, (convert 28 9 (.slice (some ⟨gy, 0, none⟩) n cy)).run Try.prog (w4.drewN k) = .ok (.string sy) (w4.drewN k) := fun k => by
    rw [← HSY.out]; exact str_bS _ (bytes_drewN k (bytes_take HOY4.out n HI4.out.2))
  clear HNQ
  go_wp2_with fail
  go_quiet (fail)
  have HB5 : Hid (Below w.heap.size w (w4.drewN nq)) := bel_drewN HB4.out nq
  clear cv5 cv6 HOX4 HOY4 HB4
  generalize w4.drewN nq = w5 at *
  have cv7 : (convert 28 9 (.slice ao m ac)).run Try.prog w5 = .ok (.string (bS x)) w5 := str_bS _ (HA.out _ HB5.out)
  have cv8 : (convert 28 9 (.slice bo p bc)).run Try.prog w5 = .ok (.string (bS y)) w5 := str_bS _ (HB.out _ HB5.out)
  go_wp2_with fail
  go_ret
  exact ⟨rfl, HB5.out⟩
end Go.Proofs.Ytaejcclepahefaa

/-
  What the document's answers Made, Put and Next of frames answer: contracts over this translation.
-/
import Derived.Test.YtaejcclepahefaaApartW
namespace Go.Proofs.Ytaejcclepahefaa
open Go.RowKit
theorem bS_app (l m : List UInt8) : bS l ++ bS m = bS (l ++ m) := ByteArray.mk_append_mk l m
theorem strB_bS (l : List UInt8) : strB (bS l) = l := strB_mk l
theorem bS_size (l : List UInt8) : (bS l).size = l.length := by rw [← strB_length, strB_bS]
theorem refFix (v : Nat) (w : World) (hv : v < 4294967296) : Calls Try.prog 88 #[.string ⟨#[]⟩, .int .u32 v] w fun e w' => e = .returned (.string (bS (fixB v))) ∧ Below w.heap.size w w' := by
  refine (refPutFixed_any ⟨#[]⟩ v w (by show 0 ≤ 4611686018427387904; omega) hv).mono ?_
  rintro e w' ⟨rfl, hb⟩
  exact ⟨rfl, hb⟩
set_option maxRecDepth 100000 in
set_option maxHeartbeats 1000000 in
theorem refMade_any (l : List UInt8) (w : World) (hl : l.length ≤ 1000000) :
    Calls Try.prog 71 #[.string (bS l)] w fun e w' => e = .returned (.string (bS (frameB l))) ∧ Below w.heap.size w w' := by
  obtain ⟨n, hn⟩ : ∃ n, (bS l).size = n := ⟨_, rfl⟩
  have hnl : Hid (l.length = n) := by rw [← hn, bS_size]; exact rfl
  have hn1 : n ≤ 1000000 := by rw [← hn, bS_size]; exact hl
  have hw32 : (n : Int) % 4294967296 = (n : Int) := by omega
  have HA1 : Hid (bS (fixB n) ++ bS l = bS (fixB n ++ l)) := bS_app _ _
  obtain ⟨q, HQ⟩ : ∃ q, Hid ((crcB (fixB n ++ l)).toNat = q) := ⟨_, rfl⟩
  have hq : q < 4294967296 := by rw [← HQ.out]; exact UInt32.toNat_lt _
  have HC : Hid (∀ w, Calls Try.prog 89 #[.string (bS (fixB n) ++ bS l)] w fun e w' => e = .returned (.int .u32 (q : Int)) ∧ w' = w) := fun w => by
    rw [HA1.out]
    have h := refCRC_any (bS (fixB n ++ l)) w (by rw [bS_size, List.length_append, fixB_length, hnl.out]; omega)
    rw [strB_bS, HQ.out] at h; exact h
  have HE : Hid (bS (fixB n) ++ bS (fixB q) ++ bS l = bS (frameB l)) := by
    show _ = _
    rw [bS_app, bS_app, frameB, hnl.out, HQ.out, List.append_assoc]
  have s1 : (bS (fixB n)).size = 4 := bS_size _
  have s2 : (bS (fixB q)).size = 4 := bS_size _
  obtain ⟨F, HF⟩ : ∃ F, Hid (bS (frameB l) = F) := ⟨_, rfl⟩
  rw [HF.out] at HE ⊢
  have HR1 : Hid _ := refFix n w (by omega)
  have HR2 : Hid (∀ w, Calls Try.prog 88 #[.string ⟨#[]⟩, .int .u32 q] w fun e w' => e = .returned (.string (bS (fixB q))) ∧ Below w.heap.size w w') := fun w => refFix q w hq
  generalize bS (fixB n) = x at *
  generalize bS (fixB q) = y at *
  generalize bS l = z at *
  clear HA1 HQ hnl HF hl
  have s3 : x.size + z.size ≤ 9223372036854775807 := by omega
  have s4 : (x ++ y).size = 8 := by rw [ByteArray.size_append, s1, s2]
  go_enter Try.func71, Try.ntmps71
  go_wp2_with fail
  refine Calls.mono HR1.out ?_
  rintro e w1 ⟨rfl, hb1⟩
  have HB1 : Hid (Below w.heap.size w w1) := hb1
  clear hb1 HR1
  go_wp2_with fail
  refine Calls.mono (HC.out _) ?_
  rintro e w2 ⟨rfl, rfl⟩
  go_wp2_with fail
  refine Calls.mono (HR2.out _) ?_
  rintro e w3 ⟨rfl, hb3⟩
  have HB3 : Hid (Below w.heap.size w w3) := HB1.out.trans (hb3.mono HB1.out.size)
  clear hb3 HR2 HB1
  go_wp2_with fail
  go_ret
  exact ⟨by rw [← HE.out]; rfl, HB3.out⟩
set_option maxRecDepth 100000 in
set_option maxHeartbeats 1000000 in
theorem refPut_any (o l : List UInt8) (w : World) (hl : l.length ≤ 65536) (ho : o.length ≤ 1000000000) :
    Calls Try.prog 45 #[.string (bS o), .string (bS l)] w fun e w' => e = .returned (.tuple #[.string (bS (o ++ frameB l)), .int .i64 0]) ∧ Below w.heap.size w w' := by
  have HM : Hid _ := refMade_any l w (by omega)
  have HA : Hid (bS o ++ bS (frameB l) = bS (o ++ frameB l)) := bS_app _ _
  have h1 : ¬ (65536 : Int) < ((bS l).size : Int) := by rw [bS_size]; omega
  have h2 : (bS o).size + (bS (frameB l)).size ≤ 9223372036854775807 := by rw [bS_size, bS_size, frameB_length]; omega
  generalize bS (o ++ frameB l) = F at *
  generalize bS (frameB l) = y at *
  generalize bS o = x at *
  generalize bS l = z at *
  clear hl ho
  go_enter Try.func45, Try.ntmps45
  go_wp2_with fail
  refine Calls.mono HM.out ?_
  rintro e w1 ⟨rfl, hb1⟩
  have HB1 : Hid (Below w.heap.size w w1) := hb1
  clear hb1 HM
  go_wp2_with fail
  go_ret2
  exact ⟨by rw [← HA.out]; rfl, HB1.out⟩
end Go.Proofs.Ytaejcclepahefaa

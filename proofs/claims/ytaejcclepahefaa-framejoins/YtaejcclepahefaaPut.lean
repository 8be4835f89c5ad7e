/-
  What frame's Put and Next answer: contracts over this translation.
-/
import Derived.Test.YtaejcclepahefaaJoined
namespace Go.Proofs.Ytaejcclepahefaa
open Go.RowKit
/-- A frame's bytes. -/
def frameB (body : List UInt8) : List UInt8 := fixB body.length ++ (fixB (crcB (fixB body.length ++ body)).toNat ++ body)
theorem fixB_length (v : Nat) : (fixB v).length = 4 := rfl
theorem frameB_length (body : List UInt8) : (frameB body).length = 8 + body.length := by simp [frameB, fixB_length]; omega
/-- What the first frame of bytes is: its body, how many bytes it has in all, and the error. -/
def nextF (bs : List UInt8) : List UInt8 × Nat × Nat :=
  if bs.length < 4 then ([], 0, 5) else if 65536 < (fixOf bs).1 then ([], 0, 2) else if bs.length < 8 + (fixOf bs).1 then ([], 0, 5)
  else if (fixOf (bs.drop 4)).1 = (crcB (bs.take 4 ++ (bs.drop 8).take (fixOf bs).1)).toNat then ((bs.drop 8).take (fixOf bs).1, 8 + (fixOf bs).1, 0) else ([], 0, 2)
theorem wadd {x q n : Nat} (h : x + q ≤ n) (hn : n ≤ 9223372036854775807) : wrap64 ((x : Int) + (q : Int)) = ((x + q : Nat) : Int) := by unfold wrap64; omega
theorem putFixed_new (v : Nat) (w : World) (hv : v < 4294967296) :
    Calls Try.prog 68 #[.slice none 0 0, .int .u32 v] w fun e w' => ∃ g c, e = .returned (.slice (some ⟨g, 0, none⟩) 4 c) ∧ Bytes w' (some ⟨g, 0, none⟩) 4 (fixB v) ∧ (4 ≤ c ∧ c ≤ 9223372036854775807) ∧ Below w.heap.size w w' := by
  refine (putFixed_any none 0 0 [] v w (by omega) (by omega) (fun _ => rfl) (bytes_nil w) hv (by omega)).mono ?_
  rintro e w' ⟨v', rfl, hown, hbel⟩
  rw [List.nil_append, fixB_length] at hown
  obtain ⟨g, c, rfl, h1, h2, h3, h4⟩ := own_shape hown (by omega)
  exact ⟨g, c, rfl, own_row_bytes hown, ⟨h3, h4⟩, hbel⟩
set_option maxRecDepth 100000 in
set_option maxHeartbeats 1000000 in
theorem put_large (a b : SV) (w : World) (hb : 65536 < b.n) :
    Calls Try.prog 44 #[.slice a.ao a.n a.c, .slice b.ao b.n b.c] w fun e w' => e = .returned (.tuple #[.slice none 0 0, .int .i64 3]) ∧ w' = w := by
  have h : (65536 : Int) < (b.n : Int) := by omega
  go_enter Try.func44, Try.ntmps44
  go_wp2_with fail
  go_ret2
  exact ⟨rfl, rfl⟩
set_option maxRecDepth 100000 in
set_option maxHeartbeats 2000000 in
/-- What has a frame. -/
theorem put_any (a b : SV) (w : World) (h1 : Bytes w a.ao a.n a.bs) (h2 : Bytes w b.ao b.n b.bs) (f1 : a.fine) (f2 : b.fine) (hb : b.n ≤ 65536) (ha : a.n ≤ 140737488250000) :
    Calls Try.prog 44 #[.slice a.ao a.n a.c, .slice b.ao b.n b.c] w fun e w' => ∃ v, e = .returned (.tuple #[v, .int .i64 0]) ∧ w'.ownsRow w.heap.size 5 1 v (a.n + (8 + b.n)) (cellsOf (a.bs ++ frameB b.bs)) ∧ Below w.heap.size w w' := by
  have h : ¬ (65536 : Int) < (b.n : Int) := by omega
  have HA : Hid (Bytes w a.ao a.n a.bs) := h1
  have HB : Hid (Bytes w b.ao b.n b.bs) := h2
  have F1 : Hid (a.fine) := f1
  have F2 : Hid (b.fine) := f2
  have hw32 : (b.n : Int) % 4294967296 = (b.n : Int) := by omega
  clear h1 h2 f1 f2
  go_enter Try.func44, Try.ntmps44
  go_wp2_with fail
  refine (putFixed_new b.n w (by omega)).mono ?_
  rintro e w1 ⟨g, c, rfl, hL, hc, hbel1⟩
  obtain ⟨L, hLL⟩ : ∃ L : SV, L = ⟨some ⟨g, 0, none⟩, 4, c, fixB b.n⟩ := ⟨_, rfl⟩
  have HL : Hid (Bytes w1 L.ao L.n L.bs) := by rw [hLL]; exact hL
  have FL : Hid (L.fine) := by rw [hLL]; exact ⟨fun h => (by cases h), hc.1, hc.2⟩
  have HB1 : Hid (Below w.heap.size w w1) := hbel1
  have HCK := check_any L b w1 HL.out (bytes_kept HB.out HB1.out (Nat.le_refl _)) FL.out F2.out (by rw [hLL]; show 4 + b.n ≤ _; omega)
  obtain ⟨q, HQ⟩ : ∃ q, Hid ((crcB (L.bs ++ b.bs)).toNat = q) := ⟨_, rfl⟩
  rw [HQ.out] at HCK
  have hq : q < 4294967296 := by rw [← HQ.out]; exact UInt32.toNat_lt _
  have HCK2 : Hid _ := HCK
  have HLL : Hid (L.n = 4 ∧ L.bs = fixB b.n) := by rw [hLL]; exact ⟨rfl, rfl⟩
  have e1 : Value.slice (some ⟨g, 0, none⟩) 4 c = .slice L.ao L.n L.c := by rw [hLL]
  have e2 : (Value.slice (some ⟨g, 0, none⟩) ((4 : Nat) : Int).toNat c) = .slice L.ao L.n L.c := e1
  clear hLL HCK hL hbel1 hc
  rw [e1]
  clear e1 e2
  go_wp2_with fail
  refine Calls.mono HCK2.out ?_
  rintro e w2 ⟨rfl, hbel2⟩
  have HB2 : Hid (Below w1.heap.size w1 w2) := hbel2
  clear hbel2 HCK2
  go_wp2_with fail
  refine (putFixed_new q w2 hq).mono ?_
  rintro e w3 ⟨g3, c3, rfl, hC, hc3, hbel3⟩
  have hs1 := HB1.out.size
  have hs2 := HB2.out.size
  have hs3 := hbel3.size
  obtain ⟨C, hCC⟩ : ∃ C : SV, C = ⟨some ⟨g3, 0, none⟩, 4, c3, fixB q⟩ := ⟨_, rfl⟩
  have b03 : Below w.heap.size w w3 := HB1.out.trans ((HB2.out.mono hs1).trans (hbel3.mono (by omega)))
  have HP := parts_four w3 a L C b (bytes_kept HA.out b03 (Nat.le_refl _)) (bytes_kept HL.out (HB2.out.trans (hbel3.mono hs2)) (Nat.le_refl _)) (by rw [hCC]; exact hC) (bytes_kept HB.out b03 (Nat.le_refl _)) F1.out FL.out (by rw [hCC]; exact ⟨fun h => (by cases h), hc3.1, hc3.2⟩) F2.out
  have e3 : Value.slice (some ⟨g3, 0, none⟩) 4 c3 = .slice C.ao C.n C.c := by rw [hCC]
  have HALL : Hid (allB [a, L, C, b] 4 = a.bs ++ frameB b.bs) := by
    show allB [a, L, C, b] 4 = _
    simp only [allB, frameB, List.take, List.map, List.flatten_cons, List.flatten_nil, List.append_nil]
    rw [hCC, HB.out.1, ← HQ.out, HLL.out.2]
  have HN : Hid ((allB [a, L, C, b] 4).length = a.n + (8 + b.n)) := by show _ = _; rw [HALL.out, List.length_append, frameB_length, HA.out.1, HB.out.1]
  have HPP : Hid _ := HP
  have HB3 : Hid (Below w.heap.size w w3) := b03
  rw [e3]
  clear hCC HP hC hc3 hbel3 b03 e3 HL FL HB1 HB2 HLL HQ hq hs1 hs2 hs3 HA HB
  go_wp2_with fail
  refine (joined_any w3.heap.size 4 4 _ _ _ rfl HPP.out (by omega) HN.out (by omega)).mono ?_
  rintro e w4 ⟨v, rfl, hown, hbel⟩
  rw [HALL.out] at hown
  have hsz := HB3.out.size
  have HO : Hid (w4.ownsRow w.heap.size 5 1 v (a.n + (8 + b.n)) (cellsOf (a.bs ++ frameB b.bs))) := ownsRow_mono hown (by simp; omega)
  have HBB : Hid (Below w.heap.size w w4) := HB3.out.trans (((bel_alloc _ _).trans (hbel.mono (by simp))).mono hsz)
  clear hown hbel HPP HALL HN HB3
  go_wp2_with fail
  go_ret2
  exact ⟨_, rfl, HO.out, HBB.out⟩
end Go.Proofs.Ytaejcclepahefaa

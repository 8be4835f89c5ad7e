/-
  What codec.PutText and codec.PutFixed answer, behind any bytes: contracts over this translation.
-/
import Derived.Test.YtlomimhildbkoaaPut
import Derived.Lib.AppendStr
namespace Go.Proofs.Ytlomimhildbkoaa
open Go.RowKit

/-- The bytes of a string. -/
def strB (s : ByteArray) : List UInt8 := s.data.toList
theorem strB_length (s : ByteArray) : (strB s).length = s.size := by simp [strB]

/-- The bytes of a text. -/
def textB (s : List UInt8) : List UInt8 := putB s.length ++ s

set_option maxRecDepth 100000 in
set_option maxHeartbeats 400000 in
theorem putText_any (ao : Option Addr) (n cap : Nat) (bs : List UInt8) (s : ByteArray) (w : World) (hn : n ≤ cap) (hcap : cap ≤ 9223372036854775807) (h0 : ao = none → cap = 0) (hb : Bytes w ao n bs) (hbig : n + s.size ≤ 140737488355000) :
    Calls Try.prog 11 #[.slice ao n cap, .string s] w fun e w' => ∃ v', e = .returned v' ∧ w'.ownsRow w.heap.size 5 1 v' (bs ++ textB (strB s)).length (cellsOf (bs ++ textB (strB s))) ∧ Below w.heap.size w w' := by
  obtain ⟨i0, hi, hz0, hz1, hz2⟩ := info_parts info5
  go_enter Try.func11, Try.ntmps11
  go_wp2_with fail
  refine (put_any ao n cap bs s.size w hn hcap h0 hb (by omega) (by omega)).mono ?_
  rintro e w' ⟨v1, rfl, hown, hbel⟩
  have hl1 := putB_le s.size
  have hbl : bs.length ≤ n := by rw [hb.1]; exact Nat.le_refl _
  have hsz := hbel.size
  go_wp2_with (at_builtin; refine Lib.wpList_append_own_string _ rfl (.tmp 9) (.tmp 10) 22 9 rfl w.heap.size 5 i0 Try.underlying22 Try.underlying9 hi hz0 hz1 hz2 _ _ _ rfl hown s rfl ?h63 ?hby hsz ?_)
  case h63 => unfold maxLen; rw [List.length_append]; omega
  case hby => rw [List.length_append]; omega
  intro v' w2 hown2 hgrow _
  have hbel2 := hbel.grown hgrow hsz (fun k hk => (hown.lt k hk).1)
  go_wp2
  go_ret
  refine ⟨v', rfl, ?_, hbel2⟩
  have e1 : (bs ++ textB (strB s)).length = (bs ++ putB s.size).length + s.size := by simp [textB, strB_length]; omega
  have e2 : cellsOf (bs ++ textB (strB s)) = cellsOf (bs ++ putB s.size) ++ Lib.strCells s := by
    simp only [textB, strB_length, ← List.append_assoc]
    rw [cellsOf_append (bs ++ putB s.size)]; rfl
  rw [e1, e2, List.length_append]
  exact hown2

/-- The four bytes of a number, the highest first. -/
def fixB (v : Nat) : List UInt8 := [UInt8.ofNat (v / 16777216 % 256), UInt8.ofNat (v / 65536 % 256), UInt8.ofNat (v / 256 % 256), UInt8.ofNat (v % 256)]

theorem fix1 (v : Nat) (h : v < 4294967296) : (v : Int) / 16777216 = ((UInt8.ofNat (v / 16777216 % 256)).toNat : Int) := by rw [toNat_ofNat _ (by omega)]; omega
theorem fix2 (v : Nat) : (v : Int) / 65536 % 256 = ((UInt8.ofNat (v / 65536 % 256)).toNat : Int) := by rw [toNat_ofNat _ (by omega)]; omega
theorem fix3 (v : Nat) : (v : Int) / 256 % 256 = ((UInt8.ofNat (v / 256 % 256)).toNat : Int) := by rw [toNat_ofNat _ (by omega)]; omega
theorem fix4 (v : Nat) : (v : Int) % 256 = ((UInt8.ofNat (v % 256)).toNat : Int) := by rw [toNat_ofNat _ (by omega)]; omega
theorem cell_four (w : World) (a b c d : UInt8) : ∀ j u, (cellsOf [a, b, c, d])[j]? = some u →
    (w.alloc (.cells #[.int .u8 (a.toNat : Int), .int .u8 (b.toNat : Int), .int .u8 (c.toNat : Int), .int .u8 (d.toNat : Int)] 5)).cell? ((⟨w.heap.size, 0, none⟩ : Addr).add j) = some u := by
  intro j u hj
  match j, hj with
  | 0, hj => simp [cellsOf] at hj; subst hj; simp [Addr.add]
  | 1, hj => simp [cellsOf] at hj; subst hj; simp [Addr.add]
  | 2, hj => simp [cellsOf] at hj; subst hj; simp [Addr.add]
  | 3, hj => simp [cellsOf] at hj; subst hj; simp [Addr.add]
  | n + 4, hj => simp [cellsOf] at hj

set_option maxRecDepth 100000 in
set_option maxHeartbeats 400000 in
theorem putFixed_any (ao : Option Addr) (n cap : Nat) (bs : List UInt8) (v : Nat) (w : World) (hn : n ≤ cap) (hcap : cap ≤ 9223372036854775807) (h0 : ao = none → cap = 0) (hb : Bytes w ao n bs) (hv : v < 4294967296) (hbig : n ≤ 140737488355000) :
    Calls Try.prog 12 #[.slice ao n cap, .int .u32 v] w fun e w' => ∃ v', e = .returned v' ∧ w'.ownsRow w.heap.size 5 1 v' (bs ++ fixB v).length (cellsOf (bs ++ fixB v)) ∧ Below w.heap.size w w' := by
  have hbuf : Buf w w.heap.size (.slice ao n n) bs := .inl ⟨ao, by rw [hb.1], by rw [hb.1]; exact hb⟩
  have hbl : bs.length ≤ n := by rw [hb.1]; exact Nat.le_refl _
  clear hb
  go_enter Try.func12, Try.ntmps12
  go_wp2_with fail
  refine (alone_any ao n cap w hn hcap h0).mono ?_
  rintro e w' ⟨rfl, rfl⟩
  clear h0
  go_wp2_with (at_builtin; refine wpList_append_buf _ rfl (.tmp 6) (.tmp 18) rfl w'.heap.size _ bs rfl (hbuf.alloc _) ?hb ⟨w'.heap.size, 0, none⟩ 4 4 (fixB v) rfl rfl (by decide) ?hc ?hlen ?_)
  case hb => simp
  case hc =>
    rw [fix1 v hv, fix2 v, fix3 v, fix4 v]
    exact cell_four w' _ _ _ _
  case hlen => omega
  intro v' w1 hown' hbel'
  have hbelA : Below w'.heap.size w' w1 := ((Below.refl _ _).alloc (Nat.le_refl _) _).trans hbel'
  clear hbuf hbel'
  go_wp2
  go_ret
  exact ⟨v', rfl, by rw [List.length_append]; exact hown', hbelA⟩
end Go.Proofs.Ytlomimhildbkoaa

/-
  The walk over marlstonelaw01.CodecGets.
-/
import Derived.Test.YtlomimhildbkoaaRefs
namespace Go.Proofs.Ytlomimhildbkoaa
open Go.RowKit

/-- An empty slice that was written out. -/
theorem own_empty (w : World) : (w.alloc (.cells #[] 5)).ownsRow w.heap.size 5 1 (.slice (some ⟨w.heap.size, 0, none⟩) 0 0) 0 (cellsOf []) :=
  World.ownsRow_made w #[] 0 (Nat.le_refl _) (by unfold maxLen; omega) rfl

theorem bel_alloc (w : World) (o : Obj) : Below w.heap.size w (w.alloc o) := (Below.refl _ _).alloc (Nat.le_refl _) _

set_option maxRecDepth 100000 in
set_option maxHeartbeats 1000000 in
theorem gets_walk (ao : Option Addr) (len cap : Nat) (bs : List UInt8) (w : World) (hb : Bytes w ao len bs) (h0 : ao = none → cap = 0) (hlc : len ≤ cap) (hcap : cap ≤ 140737488355328) :
    Calls Try.prog 4 #[.slice ao len cap] w fun e w' => e = .returned (.bool true) ∧ Below w.heap.size w w' := by
  have hlen := hb.1
  obtain ⟨q, hq⟩ : ∃ q : ByteArray, q = ⟨bs.toArray⟩ := ⟨_, rfl⟩
  have hqB : strB q = bs := by rw [hq]; exact strB_mk bs
  have hqs : q.size ≤ 9223372036854775807 := by rw [← strB_length, hqB]; omega
  have hstr : ∀ {w' : World} {ao' : Option Addr} {n' : Nat} (c' : Nat), Bytes w' ao' n' bs → (convert 22 9 (.slice ao' n' c')).run Try.prog w' = .ok (.string q) w' := fun c' h => by rw [hq]; exact str_bytes c' h
  have R1 := fun w => refGet_any q w hqs
  have R2 := fun w => refText_any q w hqs
  have R3 := fun w => refFixed_any q w hqs
  rw [hqB] at R1 R2 R3
  have HS : Hid (∀ {w' : World} {ao' : Option Addr} {n' : Nat} (c' : Nat), Bytes w' ao' n' bs → (convert 22 9 (.slice ao' n' c')).run Try.prog w' = .ok (.string q) w') := hstr
  clear hstr hqB hq hlen
  go_enter Try.func4, Try.ntmps4
  go_wp2_with fail
  refine (shown_any w).mono ?_
  rintro e w1 ⟨rfl, hbel⟩
  have hb1 := bytes_kept hb hbel (Nat.le_refl _)
  have hb2 := bytes_kept hb1 (bel_alloc w1 (.cells #[] 5)) (Nat.le_refl _)
  have hown := own_empty w1
  clear hb
  go_wp2_with (at_builtin; refine wpList_append_read _ rfl (.tmp 22) (.tmp 23) rfl w1.heap.size _ 0 [] rfl hown ?hbase ao len cap bs rfl hb2 h0 ?hb ?_)
  case hbase => simp
  case hb => omega
  intro ao2 n2 c2 w2 hbo hlc2 hcm2 hn2 hbel2
  have hB2 : Below w1.heap.size w1 w2 := (bel_alloc w1 _).trans hbel2
  have hb3 := bytes_kept hb1 hB2 (Nat.le_refl _)
  have hB : Below w.heap.size w w2 := hbel.trans (hB2.mono hbel.size)
  clear hown hb2 hbel2 hB2 hb1 hbel
  go_wp2_with fail
  refine (get_any ao2 n2 c2 bs _ hbo (by omega)).mono ?_
  rintro e w3 ⟨rfl, hw⟩
  subst hw
  have hsb := HS.out cap hb3
  go_wp2_with fail
  refine (R1 _).mono ?_
  rintro e w4 ⟨rfl, hw⟩
  subst hw
  go_wp2_with fail
  refine (text_any ao2 n2 c2 bs _ hbo hlc2 hcm2).mono ?_
  rintro e w5 ⟨rfl, hw⟩
  subst hw
  go_wp2_with fail
  refine (R2 _).mono ?_
  rintro e w6 ⟨rfl, hw⟩
  subst hw
  go_wp2_with fail
  refine (fixed_any ao2 n2 c2 bs _ hbo).mono ?_
  rintro e w7 ⟨rfl, hbel7⟩
  have hbo7 := bytes_kept hbo hbel7 (Nat.le_refl _)
  have hb7 := bytes_kept hb3 hbel7 (Nat.le_refl _)
  have hB7 := hB.trans (hbel7.mono hB.size)
  have hsb7 := HS.out cap hb7
  clear hbo hb3 hB hbel7 hsb
  go_wp2_with fail
  refine (R3 _).mono ?_
  rintro e w8 ⟨rfl, hbel8⟩
  have hsb8 := HS.out cap (bytes_kept hb7 hbel8 (Nat.le_refl _))
  have hso8 := HS.out c2 (bytes_kept hbo7 hbel8 (Nat.le_refl _))
  have hB8 := hB7.trans (hbel8.mono hB7.size)
  clear hbo7 hb7 hB7 hbel8 hsb7 R1 R2 R3
  go_wp2
  go_ret
  exact ⟨rfl, hB8⟩
end Go.Proofs.Ytlomimhildbkoaa

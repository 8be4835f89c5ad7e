/-
  What entry.Bytes answers: a contract over this translation.
-/
import Derived.Test.YteemfhhhdhddhaaFold
import Derived.Deep.RegionHeld3
namespace Go.Proofs.Yteemfhhhdhddhaa
open Go.RowKit Go.Sort Go.Shelf
set_option linter.unusedSectionVars false
variable [Inhabited E]
def headB (e : E) : List UInt8 := (if e.del then 1 else 0) :: putB e.seq.toNat ++ textB (strB e.key)
/-- An entry's bytes: none for one that is not right. -/
def bytesB (e : E) : List UInt8 := if rightB e then (if e.del then headB e else headB e ++ textB (strB e.value)) else []
theorem put_tag (t : UInt8) (v m : Nat) (hm : (t :: putB v).length = m) (hv : v < 18446744073709551616) (W : World) (g : Nat) (hb : Bytes W (some ⟨g, 0, none⟩) 1 [t]) :
    Calls Try.prog 49 #[.slice (some ⟨g, 0, none⟩) 1 1, .int .u64 v] W fun e w' => ∃ g' c', e = .returned (.slice (some ⟨g', 0, none⟩) m c') ∧ Bytes w' (some ⟨g', 0, none⟩) m (t :: putB v) ∧ m ≤ c' ∧ c' ≤ 9223372036854775807 ∧ Below W.heap.size W w' := by
  refine (put_shape (some ⟨g, 0, none⟩) 1 1 [t] v m hm W (Nat.le_refl _) (by omega) (fun h => by cases h) hb hv (by omega)).mono ?_
  rintro e w' ⟨g', c', rfl, hown, _, _, hbel⟩
  have hp : 0 < m := by rw [← hm]; simp
  obtain ⟨g2, c2, h1, _, _, h2, h3⟩ := own_shape hown hp
  cases h1
  exact ⟨g', c', rfl, own_row_bytes hown, h2, h3, hbel⟩
theorem text_tag (bs : List UInt8) (s : ByteArray) (n m : Nat) (hm : (bs ++ textB (strB s)).length = m) (hbig : n + s.size ≤ 140737488355000) (W : World) (g c : Nat) (hn : n ≤ c) (hc : c ≤ 9223372036854775807) (hb : Bytes W (some ⟨g, 0, none⟩) n bs) :
    Calls Try.prog 48 #[.slice (some ⟨g, 0, none⟩) n c, .string s] W fun e w' => ∃ g' c', e = .returned (.slice (some ⟨g', 0, none⟩) m c') ∧ w'.ownsRow W.heap.size 5 1 (.slice (some ⟨g', 0, none⟩) m c') m (cellsOf (bs ++ textB (strB s))) ∧ m ≤ c' ∧ c' ≤ 9223372036854775807 ∧ Below W.heap.size W w' := by
  refine (putText_shape (some ⟨g, 0, none⟩) n c bs s m hm W hn hc (fun h => by cases h) hb hbig).mono ?_
  rintro e w' ⟨g', c', rfl, hown, _, _, hbel⟩
  have hp : 0 < m := by
    have := putB_pos (strB s).length
    rw [← hm, List.length_append, textB, List.length_append]; omega
  obtain ⟨g2, c2, h1, _, _, h2, h3⟩ := own_shape hown hp
  cases h1
  exact ⟨g', c', rfl, hown, h2, h3, hbel⟩
theorem right_parts {e : E} (h : rightB e = true) : e.key.size ≤ 128 ∧ e.value.size ≤ 1024 ∧ ∃ qn : Nat, e.seq = qn ∧ 1 ≤ qn ∧ qn ≤ 1099511627776 := by
  simp only [rightB, decide_eq_true_eq] at h
  obtain ⟨_, h2, h3, _, h5, h6⟩ := h
  exact ⟨h2, h3, e.seq.toNat, by omega, by omega, by omega⟩
set_option maxRecDepth 100000 in
set_option maxHeartbeats 4000000 in
theorem bytes_any (k v : ByteArray) (d : Bool) (q : Int) (w : World) (hk : k.size ≤ 9223372036854775807) (hv : v.size ≤ 9223372036854775807) :
    Calls Try.prog 24 #[.agg #[.string k, .string v, .bool d, .int .i64 q]] w fun e w' => ∃ v', e = .returned v' ∧ w'.ownsRow w.heap.size 5 1 v' (bytesB ⟨k, v, d, q⟩).length (cellsOf (bytesB ⟨k, v, d, q⟩)) ∧ Below w.heap.size w w' := by
  obtain ⟨r, HR⟩ : ∃ r, Hid (rightB ⟨k, v, d, q⟩ = r) := ⟨_, rfl⟩
  obtain ⟨out, HOUT⟩ : ∃ o, Hid (bytesB ⟨k, v, d, q⟩ = o) := ⟨_, rfl⟩
  rw [HOUT.out]
  have CR := fun w => right_any k v d q w hk hv
  rw [HR.out] at CR
  have HC : Hid _ := CR
  clear CR
  go_enter Try.func24, Try.ntmps24
  go_wp2_with fail
  refine (HC.out _).mono ?_
  rintro e w1 ⟨rfl, hbel⟩
  have hblk : w1.heap[w.heap.size]? = some (Obj.cells #[.string k, .string v, .bool d, .int .i64 q] 23) := by rw [hbel.block _ (by simp), heap_alloc_get, if_pos rfl]
  have hB1 : Below w.heap.size w w1 := (bel_alloc w _).trans (hbel.mono (by simp))
  have hsz1 : w.heap.size < w1.heap.size := by have := hbel.size; simp at this; omega
  have b0 : w1.cell? ⟨w.heap.size, 0, none⟩ = some (.string k) := by rw [cell_of_row _ _ _ _ _ _ hblk]; rfl
  have b1 : w1.cell? ⟨w.heap.size, 1, none⟩ = some (.string v) := by rw [cell_of_row _ _ _ _ _ _ hblk]; rfl
  have b2 : w1.cell? ⟨w.heap.size, 2, none⟩ = some (.bool d) := by rw [cell_of_row _ _ _ _ _ _ hblk]; rfl
  have b3 : w1.cell? ⟨w.heap.size, 3, none⟩ = some (.int .i64 q) := by rw [cell_of_row _ _ _ _ _ _ hblk]; rfl
  clear hblk hbel HC
  have HB1 : Hid _ := hB1
  clear hB1
  cases r with
  | false =>
    have HN : Hid (out = []) := by show _ = _; rw [← HOUT.out, bytesB, HR.out]; rfl
    go_wp2
    go_ret
    exact ⟨_, rfl, by rw [HN.out]; exact World.ownsRow_nil _ _ _ _, HB1.out⟩
  | true =>
    obtain ⟨h1, h2, qn, h3, h4, h5⟩ := right_parts HR.out
    simp only at h1 h2 h3
    subst h3
    have hwr : IntKind.u64.wrap (qn : Int) = qn := by rw [IntKind.wrap_u64]; omega
    cases d with
    | true =>
      obtain ⟨m1, HM1⟩ : ∃ m, Hid (((1 : UInt8) :: putB qn).length = m) := ⟨_, rfl⟩
      obtain ⟨m2, HM2⟩ : ∃ m, Hid (((1 : UInt8) :: putB qn ++ textB (strB k)).length = m) := ⟨_, rfl⟩
      have hm1 : m1 ≤ 11 := by have := putB_le qn; rw [← HM1.out, List.length_cons]; omega
      have HP : Hid _ := fun W g hb => put_tag 1 qn m1 HM1.out (by omega) W g hb
      have HT : Hid _ := fun W g c hn hc hb => text_tag ((1 : UInt8) :: putB qn) k m1 m2 HM2.out (by omega) W g c hn hc hb
      have HN : Hid (out = (1 : UInt8) :: putB qn ++ textB (strB k)) := by show _ = _; rw [← HOUT.out, bytesB, HR.out]; rfl
      clear HOUT HR
      go_wp2_with fail
      go_region_held3 (fun w' => w'.cell? ⟨w.heap.size, 0, none⟩ = some (.string k) ∧ w'.cell? ⟨w.heap.size, 3, none⟩ = some (.int .i64 (qn : Int))) (first | assumption | go_keep) (first | (go_at_call 49; refine (HP.out _ _ (bytes_drew1 (bytes_one _ 1))).mono ?_; rintro e w2 ⟨g2, c2, rfl, hb2, hn2, hc2, hbel2⟩; have hS2 := And.intro (bel_cell hbel2 (Nat.le_refl _) (bel_cell (Below.drew (bel_alloc w1 _)) (Nat.le_refl _) b0)) (bel_cell hbel2 (Nat.le_refl _) (bel_cell (Below.drew (bel_alloc w1 _)) (Nat.le_refl _) b3))) | (go_at_call 48; refine (HT.out _ g2 c2 hn2 hc2 hb2).mono ?_; rintro e w3 ⟨g3, c3, rfl, hown3, hn3, hc3, hbel3⟩; have hS3 := And.intro (bel_cell hbel3 (Nat.le_refl _) hS2.1) (bel_cell hbel3 (Nat.le_refl _) hS2.2)))
      have hB2 : Below w1.heap.size w1 w2 := (Below.drew (bel_alloc w1 _)).trans (hbel2.mono (by simp))
      have hB3 : Below w1.heap.size w1 w3 := hB2.trans (hbel3.mono hB2.size)
      have HZ : Hid _ := And.intro (ownsRow_mono hown3 (Nat.le_trans (Nat.le_of_lt hsz1) hB2.size)) (HB1.out.trans (hB3.mono (Nat.le_of_lt hsz1)))
      clear hB2 hB3 hS2 hS3 hbel2 hbel3 hb2 hown3 HP HT
      go_wp2
      go_ret
      exact ⟨_, rfl, by rw [HN.out, HM2.out]; exact HZ.out.1, HZ.out.2⟩
    | false =>
      obtain ⟨m1, HM1⟩ : ∃ m, Hid (((0 : UInt8) :: putB qn).length = m) := ⟨_, rfl⟩
      obtain ⟨m2, HM2⟩ : ∃ m, Hid (((0 : UInt8) :: putB qn ++ textB (strB k)).length = m) := ⟨_, rfl⟩
      obtain ⟨m3, HM3⟩ : ∃ m, Hid ((((0 : UInt8) :: putB qn ++ textB (strB k)) ++ textB (strB v)).length = m) := ⟨_, rfl⟩
      have hm1 : m1 ≤ 11 := by have := putB_le qn; rw [← HM1.out, List.length_cons]; omega
      have hm2 : m2 ≤ 149 := by
        have h6 := putB_le qn
        have h7 := putB_le (strB k).length
        have h8 := strB_length k
        rw [← HM2.out, List.length_append, List.length_cons, textB, List.length_append]; omega
      have HP : Hid _ := fun W g hb => put_tag 0 qn m1 HM1.out (by omega) W g hb
      have HT : Hid _ := fun W g c hn hc hb => text_tag ((0 : UInt8) :: putB qn) k m1 m2 HM2.out (by omega) W g c hn hc hb
      have HN : Hid (out = ((0 : UInt8) :: putB qn ++ textB (strB k)) ++ textB (strB v)) := by show _ = _; rw [← HOUT.out, bytesB, HR.out]; rfl
      clear HOUT HR
      go_wp2_with fail
      go_region_held3 (fun w' => w'.cell? ⟨w.heap.size, 0, none⟩ = some (.string k) ∧ w'.cell? ⟨w.heap.size, 3, none⟩ = some (.int .i64 (qn : Int))) (first | assumption | go_keep) (first | (go_at_call 49; refine (HP.out _ _ (bytes_drew1 (bytes_one _ 0))).mono ?_; rintro e w2 ⟨g2, c2, rfl, hb2, hn2, hc2, hbel2⟩; have hS2 := And.intro (bel_cell hbel2 (Nat.le_refl _) (bel_cell (Below.drew (bel_alloc w1 _)) (Nat.le_refl _) b0)) (bel_cell hbel2 (Nat.le_refl _) (bel_cell (Below.drew (bel_alloc w1 _)) (Nat.le_refl _) b3))) | (go_at_call 48; refine (HT.out _ g2 c2 hn2 hc2 hb2).mono ?_; rintro e w3 ⟨g3, c3, rfl, hown3, hn3, hc3, hbel3⟩; have hS3 := And.intro (bel_cell hbel3 (Nat.le_refl _) hS2.1) (bel_cell hbel3 (Nat.le_refl _) hS2.2)))
      have hB2 : Below w1.heap.size w1 w2 := (Below.drew (bel_alloc w1 _)).trans (hbel2.mono (by simp))
      have hB3 : Below w1.heap.size w1 w3 := hB2.trans (hbel3.mono hB2.size)
      have hb3 := own_row_bytes hown3
      have d1 := bel_cell hB3 (Nat.le_refl _) b1
      have HBB : Hid _ := HB1.out.trans (hB3.mono (Nat.le_of_lt hsz1))
      have hsz3 : w.heap.size ≤ w3.heap.size := HBB.out.size
      clear hB2 hB3 hS2 hS3 hbel2 hbel3 hb2 hown3 HP HT b0 b1 b2 b3
      go_wp2_with fail
      refine (text_tag ((0 : UInt8) :: putB qn ++ textB (strB k)) v m2 m3 HM3.out (by omega) _ g3 c3 hn3 hc3 hb3).mono ?_
      rintro e w4 ⟨g4, c4, rfl, hown4, hn4, hc4, hbel4⟩
      have HZ : Hid _ := And.intro (ownsRow_mono hown4 hsz3) (HBB.out.trans (hbel4.mono hsz3))
      clear hown4 hbel4 hb3
      go_wp2
      go_ret
      exact ⟨_, rfl, by rw [HN.out, HM3.out]; exact HZ.out.1, HZ.out.2⟩
end Go.Proofs.Yteemfhhhdhddhaa

/-
  What frame's joined and check answer, and bytes.Clone: contracts over this translation.
-/
import Derived.Test.YtaejcclepahefaaCrc
import Derived.Lib.SliceRun
namespace Go.Proofs.Ytaejcclepahefaa
open Go.RowKit
theorem winc {i : Nat} (h : i < 9223372036854775807) : wrap64 ((i : Int) + 1) = ((i + 1 : Nat) : Int) := by unfold wrap64; omega
/-- A slice of bytes: where it lies, and what it is. -/
structure SV where
  ao : Option Addr
  n : Nat
  c : Nat
  bs : List UInt8
def SV.fine (s : SV) : Prop := (s.ao = none → s.c = 0) ∧ s.n ≤ s.c ∧ s.c ≤ 9223372036854775807
/-- Slices that lie in a row. -/
def PartsAt (w : World) (b off : Nat) (l : List SV) : Prop := ∀ i s, l[i]? = some s → w.cell? ⟨b, off + i, none⟩ = some (.slice s.ao s.n s.c) ∧ Bytes w s.ao s.n s.bs ∧ s.fine
def allB (l : List SV) (k : Nat) : List UInt8 := ((l.take k).map SV.bs).flatten
theorem allB_succ (l : List SV) (i : Nat) (s : SV) (h : l[i]? = some s) : allB l (i + 1) = allB l i ++ s.bs := by
  unfold allB
  rw [List.take_add_one, h]
  simp
theorem allB_le (l : List SV) : ∀ i, (allB l i).length ≤ (allB l l.length).length := by
  intro i
  unfold allB
  rw [List.take_length]
  conv => rhs; rw [← List.take_append_drop i l]
  rw [List.map_append, List.flatten_append, List.length_append]
  omega
theorem PartsAt.below {w w' : World} {b off B : Nat} {l : List SV} (h : PartsAt w b off l) (hb : Below B w w') (hB : w.heap.size ≤ B) : PartsAt w' b off l := by
  intro i s hs
  obtain ⟨h1, h2, h3⟩ := h i s hs
  have := World.block_lt_of_cell? w _ h1
  exact ⟨by rw [hb.cell (p := ⟨b, off + i, none⟩) (Nat.lt_of_lt_of_le this hB)]; exact h1, bytes_kept h2 hb hB, h3⟩
set_option maxRecDepth 100000 in
set_option maxHeartbeats 1000000 in
theorem joined_any (b k cap : Nat) (l : List SV) (m : Nat) (w : World) (hl : l.length = k) (hp : PartsAt w b 0 l) (hk : k ≤ 1000) (hsum : (allB l k).length = m) (hm : m ≤ 140737488355328) :
    Calls Try.prog 70 #[.slice (some ⟨b, 0, none⟩) k cap] w fun e w' => ∃ v, e = .returned v ∧ w'.ownsRow w.heap.size 5 1 v m (cellsOf (allB l k)) ∧ Below w.heap.size w w' := by
  have HP : Hid (PartsAt w b 0 l) := hp
  have HL : Hid (l.length = k) := hl
  have HS : Hid ((allB l k).length = m) := hsum
  have HM : Hid (m ≤ 140737488355328) := hm
  clear hp hl hsum hm
  generalize hn0 : w.heap.size = n0 at *
  go_enter Try.func70, Try.ntmps70
  go_wp2_with fail
  go_loopw [3, 8] (fun v t wr => ∃ (i : Nat) (a : Value), i ≤ k ∧ t = .int .i64 i ∧ a = v ∧ wr.ownsRow n0 5 1 a (allB l i).length (cellsOf (allB l i)) ∧ Below n0 w wr ∧ n0 ≤ wr.heap.size) (fun _ t _ => (k - intOf t).toNat)
  case atStart => exact ⟨0, _, by omega, rfl, rfl, ⟨rfl, .inl ⟨rfl, rfl⟩⟩, Below.refl _ _, by omega⟩
  case round =>
    obtain ⟨i, a, hi, rfl, rfl, hown, hbr, hqr⟩ := hrel
    by_cases hlt : i < k
    · obtain ⟨p, hpp⟩ : ∃ p, l[i]? = some p := ⟨l[i]'(by rw [HL.out]; exact hlt), by simp⟩
      have hil' : (i : Int) < (k : Int) := by omega
      have hi0 : (0 : Int) ≤ (i : Int) := by omega
      obtain ⟨pao, pn, pc, pbs⟩ := p
      obtain ⟨hc1, hc2, hc3, hc4, hc5⟩ := (HP.out.below hbr (by omega)) i _ hpp
      rw [Nat.zero_add] at hc1
      simp only at hc1 hc2 hc3 hc4 hc5
      have HALL : Hid (allB l (i + 1) = allB l i ++ pbs) := allB_succ l i _ hpp
      have hsz : (allB l i).length + pn ≤ 140737488355328 := by
        have h1 := allB_le l (i + 1)
        rw [HALL.out, HL.out, HS.out, List.length_append, hc2.1] at h1
        have := HM.out; omega
      have HBY : Hid (Bytes wr pao pn pbs) := hc2
      have HOWN : Hid (wr.ownsRow n0 5 1 a (allB l i).length (cellsOf (allB l i))) := hown
      have HC3 : Hid (pao = none → pc = 0) := hc3
      clear hc2 hpp hown hc3
      go_wp2_with (at_builtin; refine wpList_append_bytes _ rfl (.tmp 12) (.tmp 13) rfl n0 _ _ (allB l i) rfl HOWN.out hqr pao pn pc pbs rfl HBY.out HC3.out hsz ?_)
      intro v4 w4 hown4 hbel4
      have HO4 : Hid (w4.ownsRow n0 5 1 v4 (allB l (i + 1)).length (cellsOf (allB l (i + 1)))) := by show World.ownsRow _ _ _ _ _ _ _; rw [HALL.out, List.length_append]; exact hown4
      have HB4 : Hid (Below n0 w w4) := hbr.trans hbel4
      have HZ4 : Hid (n0 ≤ w4.heap.size) := Nat.le_trans hqr hbel4.size
      have hinc : wrap64 ((i : Int) + 1) = ((i + 1 : Nat) : Int) := winc (by omega)
      clear HOWN HBY HALL hbr hbel4 hown4 hqr hc1
      go_wp2_with fail
      exact ⟨⟨i + 1, _, by omega, rfl, rfl, HO4.out, HB4.out, HZ4.out⟩, by simp [intOf]; omega⟩
    · obtain rfl : i = k := by omega
      have hil' : ¬ (i : Int) < (i : Int) := by omega
      rw [HS.out] at hown
      have HO : Hid (wr.ownsRow n0 5 1 a m (cellsOf (allB l i))) := hown
      have HB : Hid (Below n0 w wr) := hbr
      clear hown hbr
      go_wp2_with fail
      go_ret
      exact ⟨_, rfl, HO.out, HB.out⟩
theorem parts_two (w : World) (s t : SV) (h1 : Bytes w s.ao s.n s.bs) (h2 : Bytes w t.ao t.n t.bs) (f1 : s.fine) (f2 : t.fine) : PartsAt (w.alloc (.cells #[.slice s.ao s.n s.c, .slice t.ao t.n t.c] 28)) w.heap.size 0 [s, t] := by
  intro i u hu
  match i, hu with
  | 0, hu => simp at hu; subst hu; exact ⟨by simp, bytes_kept h1 (bel_alloc _ _) (Nat.le_refl _), f1⟩
  | 1, hu => simp at hu; subst hu; exact ⟨by simp, bytes_kept h2 (bel_alloc _ _) (Nat.le_refl _), f2⟩
  | k + 2, hu => simp at hu
theorem parts_four (w : World) (s t u v : SV) (h1 : Bytes w s.ao s.n s.bs) (h2 : Bytes w t.ao t.n t.bs) (h3 : Bytes w u.ao u.n u.bs) (h4 : Bytes w v.ao v.n v.bs) (f1 : s.fine) (f2 : t.fine) (f3 : u.fine) (f4 : v.fine) : PartsAt (w.alloc (.cells #[.slice s.ao s.n s.c, .slice t.ao t.n t.c, .slice u.ao u.n u.c, .slice v.ao v.n v.c] 28)) w.heap.size 0 [s, t, u, v] := by
  intro i x hu
  match i, hu with
  | 0, hu => simp at hu; subst hu; exact ⟨by simp, bytes_kept h1 (bel_alloc _ _) (Nat.le_refl _), f1⟩
  | 1, hu => simp at hu; subst hu; exact ⟨by simp, bytes_kept h2 (bel_alloc _ _) (Nat.le_refl _), f2⟩
  | 2, hu => simp at hu; subst hu; exact ⟨by simp, bytes_kept h3 (bel_alloc _ _) (Nat.le_refl _), f3⟩
  | 3, hu => simp at hu; subst hu; exact ⟨by simp, bytes_kept h4 (bel_alloc _ _) (Nat.le_refl _), f4⟩
  | k + 4, hu => simp at hu
set_option maxRecDepth 100000 in
set_option maxHeartbeats 1000000 in
/-- The check of a length and a body. -/
theorem check_any (s t : SV) (w : World) (h1 : Bytes w s.ao s.n s.bs) (h2 : Bytes w t.ao t.n t.bs) (f1 : s.fine) (f2 : t.fine) (hn : s.n + t.n ≤ 140737488355328) :
    Calls Try.prog 69 #[.slice s.ao s.n s.c, .slice t.ao t.n t.c] w fun e w' => e = .returned (.int .u32 (crcB (s.bs ++ t.bs)).toNat) ∧ Below w.heap.size w w' := by
  have HP : Hid (PartsAt (w.alloc (.cells #[.slice s.ao s.n s.c, .slice t.ao t.n t.c] 28)) w.heap.size 0 [s, t]) := parts_two w s t h1 h2 f1 f2
  have HA : Hid (allB [s, t] 2 = s.bs ++ t.bs) := by simp [Hid, allB]
  have HN : Hid ((allB [s, t] 2).length = s.n + t.n) := by show _ = _; rw [HA.out, List.length_append, h1.1, h2.1]
  obtain ⟨ao, n, c, bs⟩ := s
  obtain ⟨bo, m, d, cs⟩ := t
  simp only at hn
  obtain ⟨q, HQ⟩ : ∃ q, Hid (crcB (bs ++ cs) = q) := ⟨_, rfl⟩
  simp only
  rw [HQ.out]
  clear h1 h2 f1 f2
  go_enter Try.func69, Try.ntmps69
  go_wp2_with fail
  refine (joined_any w.heap.size 2 2 _ _ _ rfl HP.out (by omega) HN.out hn).mono ?_
  rintro e w2 ⟨v, rfl, hown, hbel⟩
  rw [HA.out] at hown
  obtain ⟨ao3, c3, rfl, hb3, -, hlc3, hcm3, -, -⟩ := own_bytes hown
  have HB : Hid (Below w.heap.size w w2) := (bel_alloc _ _).trans (hbel.mono (by simp))
  have HC : Hid (Calls Try.prog 87 #[.slice ao3 (n + m) c3] w2 fun e w' => e = .returned (.int .u32 q.toNat) ∧ w' = w2) := by rw [← HQ.out]; exact crc_any _ _ _ _ _ hb3 (by omega)
  clear hown hbel hb3 HP HA HN
  go_wp2_with fail
  refine Calls.mono HC.out ?_
  rintro e w3 ⟨rfl, rfl⟩
  go_wp2_with fail
  go_ret
  exact ⟨rfl, HB.out⟩
set_option maxRecDepth 100000 in
set_option maxHeartbeats 1000000 in
/-- bytes.Clone: new memory, or nil. -/
theorem clone_any (ao : Option Addr) (n c : Nat) (bs : List UInt8) (w : World) (hb : Bytes w ao n bs) (h0 : ao = none → c = 0) (hn : n ≤ 140737488355328) :
    Calls Try.prog 50 #[.slice ao n c] w fun e w' => ∃ v, e = .returned v ∧ w'.ownsRow w.heap.size 5 1 v n (cellsOf bs) ∧ Below w.heap.size w w' := by
  have q28 : ∀ (w : World) (a : Option Addr) (n c n' c' : Nat), (binOp .eql 28 (.slice a n c) (.slice none n' c')).run Try.prog w = .ok (.bool a.isNone) w := fun w a n c n' c' => Lib.run_eql_slice_nil w 28 5 a n c n' c' Try.underlying28
  cases ao with
  | none =>
    have hbs : bs = [] := by
      cases bs with
      | nil => rfl
      | cons b t => obtain ⟨x, hx, _⟩ := hb.2 0 b rfl; cases hx
    subst hbs
    obtain rfl : n = 0 := by have := hb.1; simpa using this.symm
    clear hb h0
    go_enter Try.func50, Try.ntmps50
    go_wp2_with fail
    go_ret
    exact ⟨_, rfl, ⟨rfl, .inl ⟨rfl, rfl⟩⟩, Below.refl _ _⟩
  | some x =>
    have HBY : Hid (Bytes (w.alloc (.cells #[] 5)) (some x) n bs) := bytes_kept hb (bel_alloc _ _) (Nat.le_refl _)
    have HL : Hid (bs.length = n) := hb.1
    have HOWN : Hid ((w.alloc (.cells #[] 5)).ownsRow w.heap.size 5 1 (.slice (some ⟨w.heap.size, 0, none⟩) 0 0) 0 (cellsOf [])) := own_empty w
    clear hb h0
    go_enter Try.func50, Try.ntmps50
    go_wp2_with (at_builtin; refine wpList_append_bytes _ rfl (.tmp 5) (.tmp 6) rfl w.heap.size _ 0 [] rfl HOWN.out (by simp) (some x) n c bs rfl HBY.out (fun h => by cases h) (by omega) ?_)
    intro v4 w4 hown4 hbel4
    have HO : Hid (w4.ownsRow w.heap.size 5 1 v4 n (cellsOf bs)) := by
      show World.ownsRow _ _ _ _ _ _ _
      rw [HL.out] at hown4; exact hown4
    have HB : Hid (Below w.heap.size w w4) := (bel_alloc _ _).trans hbel4
    clear hown4 hbel4 HBY HOWN
    go_wp2_with fail
    go_ret
    exact ⟨_, rfl, HO.out, HB.out⟩
end Go.Proofs.Ytaejcclepahefaa

/-
  What frame's Next answers: a contract over this translation.
-/
import Derived.Test.YtaejcclepahefaaPut
namespace Go.Proofs.Ytaejcclepahefaa
open Go.RowKit
/-- What Next answers, and where it lies. -/
def NextR (bs : List UInt8) (base : Nat) (e : Ending) (w' : World) : Prop := ∃ v, e = .returned (.tuple #[v, .int .i64 ((nextF bs).2.1 : Int), .int .i64 ((nextF bs).2.2 : Int)]) ∧ w'.ownsRow base 5 1 v (nextF bs).1.length (cellsOf (nextF bs).1)
theorem nil_owns (w : World) (base : Nat) : w.ownsRow base 5 1 (.slice none 0 0) 0 (cellsOf []) := ⟨rfl, .inl ⟨rfl, rfl⟩⟩
theorem fixOf_lt (bs : List UInt8) : (fixOf bs).1 < 4294967296 := by
  unfold fixOf
  split
  · simp
  · have := (bs.getD 0 0).toNat_lt; have := (bs.getD 1 0).toNat_lt; have := (bs.getD 2 0).toNat_lt; have := (bs.getD 3 0).toNat_lt
    simp only; omega
theorem fixOf_ok (bs : List UInt8) : (fixOf bs).2 = decide (4 ≤ bs.length) := by
  unfold fixOf
  split
  · simp; omega
  · simp; omega
set_option maxRecDepth 100000 in
set_option maxHeartbeats 2000000 in
theorem next_any (a : SV) (w : World) (h1 : Bytes w a.ao a.n a.bs) (f1 : a.fine) :
    Calls Try.prog 46 #[.slice a.ao a.n a.c] w fun e w' => NextR a.bs w.heap.size e w' ∧ Below w.heap.size w w' := by
  obtain ⟨ao, n, c, bs⟩ := a
  simp only at h1 ⊢
  have hl := h1.1
  obtain ⟨R, HR⟩ : ∃ R : Ending → World → Prop, Hid (R = fun e w' => NextR bs w.heap.size e w' ∧ Below w.heap.size w w') := ⟨_, rfl⟩
  rw [← HR.out]
  have HF1 := fixed_any ao n c bs w h1
  obtain ⟨x, HX⟩ : ∃ x, Hid ((fixOf bs).1 = x) := ⟨_, rfl⟩
  have hx : x < 4294967296 := by rw [← HX.out]; exact fixOf_lt bs
  rw [HX.out, fixOf_ok bs] at HF1
  by_cases h4 : bs.length < 4
  · have HRR : Hid (∀ w', Below w.heap.size w w' → R (.returned (.tuple #[.slice none 0 0, .int .i64 0, .int .i64 5])) w') := fun w' hb => by
      have e : nextF bs = ([], 0, 5) := by unfold nextF; rw [if_pos h4]
      rw [HR.out]; exact ⟨⟨.slice none 0 0, by rw [e]; rfl, by rw [e]; exact nil_owns _ _⟩, hb⟩
    rw [show decide (4 ≤ bs.length) = false by simp; omega] at HF1
    have HF : Hid _ := HF1
    clear HF1 h1 f1 HR
    go_enter Try.func46, Try.ntmps46
    go_wp2_with fail
    refine Calls.mono HF.out ?_
    rintro e w1 ⟨rfl, hb1⟩
    have HB1 : Hid (Below w.heap.size w w1) := hb1
    clear hb1 HF
    go_wp2_with fail
    go_ret3
    exact HRR.out _ HB1.out
  rw [show decide (4 ≤ bs.length) = true by simp; omega] at HF1
  have HF : Hid _ := HF1
  clear HF1
  by_cases hbig : 65536 < x
  · have HRR : Hid (∀ w', Below w.heap.size w w' → R (.returned (.tuple #[.slice none 0 0, .int .i64 0, .int .i64 2])) w') := fun w' hb => by
      have e : nextF bs = ([], 0, 2) := by unfold nextF; rw [if_neg h4, if_pos (by rw [HX.out]; exact hbig)]
      rw [HR.out]; exact ⟨⟨.slice none 0 0, by rw [e]; rfl, by rw [e]; exact nil_owns _ _⟩, hb⟩
    have hb' : (65536 : Int) < (x : Int) := by omega
    clear h1 f1 HR
    go_enter Try.func46, Try.ntmps46
    go_wp2_with fail
    refine Calls.mono HF.out ?_
    rintro e w1 ⟨rfl, hb1⟩
    have HB1 : Hid (Below w.heap.size w w1) := hb1
    clear hb1 HF
    go_wp2_with fail
    go_ret3
    exact HRR.out _ HB1.out
  have hb' : ¬ (65536 : Int) < (x : Int) := by omega
  have hsum : wrap64 (8 + (x : Int)) = ((8 + x : Nat) : Int) := by unfold wrap64; omega
  by_cases hs : n < 8 + x
  · have HRR : Hid (∀ w', Below w.heap.size w w' → R (.returned (.tuple #[.slice none 0 0, .int .i64 0, .int .i64 5])) w') := fun w' hb => by
      have e : nextF bs = ([], 0, 5) := by unfold nextF; rw [if_neg h4, if_neg (by rw [HX.out]; exact hbig), if_pos (by rw [HX.out, hl]; exact hs)]
      rw [HR.out]; exact ⟨⟨.slice none 0 0, by rw [e]; rfl, by rw [e]; exact nil_owns _ _⟩, hb⟩
    have hs' : (n : Int) < ((8 + x : Nat) : Int) := by omega
    have hs2 : decide (n < 8 + x) = true := by simp; exact hs
    clear h1 f1 HR
    go_enter Try.func46, Try.ntmps46
    go_wp2_with fail
    refine Calls.mono HF.out ?_
    rintro e w1 ⟨rfl, hb1⟩
    have HB1 : Hid (Below w.heap.size w w1) := hb1
    clear hb1 HF
    go_wp2_with fail
    go_ret3
    exact HRR.out _ HB1.out
  have hs' : ¬ (n : Int) < ((8 + x : Nat) : Int) := by omega
  have hs2 : decide (n < 8 + x) = false := by simp; omega
  obtain ⟨b, off, rfl, hcells⟩ := bytes_at h1 (by omega)
  have HBY : Hid (Bytes w (some ⟨b, off, none⟩) n bs) := h1
  have hnc : n ≤ c := f1.2.1
  have hc9 : c ≤ 9223372036854775807 := f1.2.2
  obtain ⟨nx, hnx⟩ : ∃ a, (if c = 8 then some (⟨b, off, none⟩ : Addr) else some ⟨b, off + 8, none⟩) = a := ⟨_, rfl⟩
  have HBD : Hid (∀ W, Below w.heap.size w W → Bytes W nx x ((bs.drop 8).take x)) := fun W hW => by
    refine bytes_kept ?_ hW (Nat.le_refl _)
    rw [← hnx]
    split
    · obtain rfl : x = 0 := by omega
      exact ⟨by simp, fun i c hi => by simp at hi⟩
    · exact bytes_take (bytes_drop h1 8) x (by omega)
  have HBH : Hid (∀ W, Below w.heap.size w W → Bytes W (some ⟨b, off, none⟩) 4 (bs.take 4)) := fun W hW => bytes_take (bytes_kept h1 hW (Nat.le_refl _)) 4 (by omega)
  have HBC : Hid (∀ W, Below w.heap.size w W → Bytes W (some ⟨b, off + 4, none⟩) (n - 4) (bs.drop 4)) := fun W hW => bytes_drop (bytes_kept h1 hW (Nat.le_refl _)) 4
  have HNX : Hid (nx = none → c - 8 = 0) := fun h => by rw [← hnx] at h; split at h <;> cases h
  obtain ⟨bd, HBB⟩ : ∃ bd, Hid ((bs.drop 8).take x = bd) := ⟨_, rfl⟩
  obtain ⟨q, HQ⟩ : ∃ q, Hid ((crcB (bs.take 4 ++ bd)).toNat = q) := ⟨_, rfl⟩
  obtain ⟨y, HY⟩ : ∃ y, Hid ((fixOf (bs.drop 4)).1 = y) := ⟨_, rfl⟩
  have HBL : Hid (bd.length = x) := by show _ = _; rw [← HBB.out]; simp; omega
  have HNF : Hid (nextF bs = if y = q then (bd, 8 + x, 0) else ([], 0, 2)) := by
    show _ = _
    unfold nextF
    rw [if_neg h4, if_neg (by rw [HX.out]; exact hbig), if_neg (by rw [HX.out, hl]; exact hs), HX.out, HBB.out, HQ.out, HY.out]
  have HCK : Hid (∀ W, Below w.heap.size w W → Calls Try.prog 69 #[.slice (some ⟨b, off, none⟩) 4 c, .slice nx x (c - 8)] W fun e w' => e = .returned (.int .u32 (q : Int)) ∧ Below W.heap.size W w') := fun W hW => by
    have h := check_any ⟨some ⟨b, off, none⟩, 4, c, bs.take 4⟩ ⟨nx, x, c - 8, bd⟩ W (HBH.out W hW) (by rw [← HBB.out]; exact HBD.out W hW) ⟨fun h => (by cases h), (by show 4 ≤ c; omega), hc9⟩ ⟨HNX.out, (by show x ≤ c - 8; omega), (by show c - 8 ≤ _; omega)⟩ (by show 4 + x ≤ _; omega)
    rw [HQ.out] at h
    exact h
  have HF2 : Hid (∀ W, Below w.heap.size w W → Calls Try.prog 72 #[.slice (some ⟨b, off + 4, none⟩) (n - 4) (c - 4)] W fun e w' => e = .returned (.tuple #[.int .u32 (y : Int), .bool (fixOf (bs.drop 4)).2]) ∧ Below W.heap.size W w') := fun W hW => by
    have h := fixed_any (some ⟨b, off + 4, none⟩) (n - 4) (c - 4) (bs.drop 4) W (HBC.out W hW)
    rw [HY.out] at h
    exact h
  obtain ⟨yo, HYO⟩ : ∃ yo, Hid ((fixOf (bs.drop 4)).2 = yo) := ⟨_, rfl⟩
  rw [HYO.out] at HF2
  have HCL : Hid (∀ W, Below w.heap.size w W → Calls Try.prog 50 #[.slice nx x (c - 8)] W fun e w' => ∃ v, e = .returned v ∧ w'.ownsRow W.heap.size 5 1 v x (cellsOf bd) ∧ Below W.heap.size W w') := fun W hW =>
    clone_any nx x (c - 8) bd W (by rw [← HBB.out]; exact HBD.out W hW) HNX.out (by omega)
  clear h1 f1 hcells HBY HBD HBH HBC HNX HBB HQ HYO HY HX
  go_enter Try.func46, Try.ntmps46
  go_wp2_with fail
  refine Calls.mono HF.out ?_
  rintro e w1 ⟨rfl, hb1⟩
  have HB1 : Hid (Below w.heap.size w w1) := hb1
  clear hb1 HF
  go_wp2_with fail
  refine Calls.mono (HF2.out w1 HB1.out) ?_
  rintro e w2 ⟨rfl, hb2⟩
  have HB2 : Hid (Below w.heap.size w w2) := HB1.out.trans (hb2.mono HB1.out.size)
  clear hb2 HF2 HB1
  go_wp2_with fail
  refine Calls.mono (HCK.out w2 HB2.out) ?_
  rintro e w3 ⟨rfl, hb3⟩
  have HB3 : Hid (Below w.heap.size w w3) := HB2.out.trans (hb3.mono HB2.out.size)
  clear hb3 HCK HB2
  by_cases hyq : y = q
  · have hyq' : (y : Int) = (q : Int) := by omega
    have HN : Hid (nextF bs = (bd, 8 + x, 0)) := by show _ = _; rw [HNF.out, if_pos hyq]
    clear HNF hyq
    go_wp2_with fail
    refine Calls.mono (HCL.out w3 HB3.out) ?_
    rintro e w4 ⟨v, rfl, hown, hb4⟩
    have HB4 : Hid (Below w.heap.size w w4) := HB3.out.trans (hb4.mono HB3.out.size)
    have HO : Hid (w4.ownsRow w.heap.size 5 1 v x (cellsOf bd)) := ownsRow_mono hown HB3.out.size
    have HRR : Hid (R (.returned (.tuple #[v, .int .i64 (8 + (x : Int)), .int .i64 0])) w4) := by
      rw [HR.out]; exact ⟨⟨v, by rw [HN.out]; simp, by rw [HN.out]; show World.ownsRow _ _ _ _ _ bd.length (cellsOf bd); rw [HBL.out]; exact HO.out⟩, HB4.out⟩
    clear hown hb4 HB3 HCL HO HB4 HN HR
    go_wp2_with fail
    go_ret3
    exact HRR.out
  · have hyq' : ¬ (y : Int) = (q : Int) := by omega
    have hyq2 : decide ((y : Int) = (q : Int)) = false := by simp; omega
    have HN : Hid (nextF bs = ([], 0, 2)) := by show _ = _; rw [HNF.out, if_neg hyq]
    have HRR : Hid (R (.returned (.tuple #[.slice none 0 0, .int .i64 0, .int .i64 2])) w3) := by
      rw [HR.out]; exact ⟨⟨.slice none 0 0, by rw [HN.out]; rfl, by rw [HN.out]; exact nil_owns _ _⟩, HB3.out⟩
    clear HNF HN HR HCL HB3
    go_wp2_with fail
    go_ret3
    exact HRR.out
end Go.Proofs.Ytaejcclepahefaa

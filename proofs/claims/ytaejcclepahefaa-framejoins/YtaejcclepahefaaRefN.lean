/-
  What the document's answer Next of frames answers: a contract over this translation.
-/
import Derived.Test.YtaejcclepahefaaRefP
namespace Go.Proofs.Ytaejcclepahefaa
open Go.RowKit
theorem four_at (bs : List UInt8) (h : 4 ≤ bs.length) : ∃ a b c d r, bs = a :: b :: c :: d :: r := by
  match bs, h with
  | a :: b :: c :: d :: r, _ => exact ⟨a, b, c, d, r, rfl⟩
theorem fixB_fixOf (bs : List UInt8) (h : 4 ≤ bs.length) : fixB (fixOf bs).1 = bs.take 4 := by
  obtain ⟨a, b, c, d, r, rfl⟩ := four_at bs h
  have ha := a.toNat_lt; have hb := b.toNat_lt; have hc := c.toNat_lt; have hd := d.toNat_lt
  have e : (fixOf (a :: b :: c :: d :: r)).1 = a.toNat * 16777216 + b.toNat * 65536 + c.toNat * 256 + d.toNat := by
    unfold fixOf; rw [if_neg (by simp)]; rfl
  rw [e]
  have back : ∀ (x : UInt8) (n : Nat), n = x.toNat → UInt8.ofNat n = x := fun x n h => by subst h; simp
  simp only [fixB, List.take]
  rw [back a _ (by omega), back b _ (by omega), back c _ (by omega), back d _ (by omega)]
theorem frame_eq (bs : List UInt8) (v : Nat) (hv : (fixOf bs).1 = v) (h8 : 8 + v ≤ bs.length) :
    frameB ((bs.drop 8).take v) = bs.take (8 + v) ↔ (fixOf (bs.drop 4)).1 = (crcB (bs.take 4 ++ (bs.drop 8).take v)).toNat := by
  have hl : ((bs.drop 8).take v).length = v := by simp; omega
  have h4 : fixB v = bs.take 4 := by rw [← hv]; exact fixB_fixOf bs (by omega)
  have h5 : fixB (fixOf (bs.drop 4)).1 = (bs.drop 4).take 4 := fixB_fixOf _ (by simp; omega)
  have e1 : bs.take (8 + v) = bs.take 4 ++ ((bs.drop 4).take 4 ++ (bs.drop 8).take v) := by
    rw [show 8 + v = 4 + (4 + v) by omega, List.take_add, List.take_add, List.drop_drop]
  unfold frameB
  rw [hl, h4, e1]
  constructor
  · intro h
    have h6 := (List.append_cancel_left h)
    have h7 := List.append_cancel_right h6
    rw [← h5] at h7
    have h8 := congrArg (fun l => (fixOf l).1) h7
    have f : ∀ q, q < 4294967296 → (fixOf (fixB q)).1 = q := fun q hq => by have := fixOf_fixB q hq []; rw [List.append_nil] at this; rw [this]
    rw [f _ (UInt32.toNat_lt _), f _ (fixOf_lt _)] at h8
    exact h8.symm
  · intro h
    rw [← h, h5]
def nextR3 (l : List UInt8) : Value := .tuple #[.string (bS (nextF l).1), .int .i64 ((nextF l).2.1 : Int), .int .i64 ((nextF l).2.2 : Int)]
theorem extract_bS (l : List UInt8) (a v : Nat) : (bS l).extract a (a + v) = bS ((l.drop a).take v) := by
  have := extract_strB (bS l) a v; rw [strB_bS] at this; exact this
set_option maxRecDepth 100000 in
set_option maxHeartbeats 2000000 in
theorem refNext_any (l : List UInt8) (w : World) (hl : l.length ≤ 100000) :
    Calls Try.prog 47 #[.string (bS l)] w fun e w' => e = .returned (nextR3 l) ∧ Below w.heap.size w w' := by
  have hsz : (bS l).size = l.length := bS_size l
  obtain ⟨n, hn⟩ : ∃ n, l.length = n := ⟨_, rfl⟩
  rw [hn] at hsz hl
  by_cases h4 : n < 4
  · have h4' : (n : Int) < 4 := by omega
    have HR : Hid (nextR3 l = .tuple #[.string ⟨#[]⟩, .int .i64 0, .int .i64 5]) := by
      show _ = _
      unfold nextR3 nextF; rw [if_pos (by omega)]; rfl
    generalize bS l = s at *
    rw [HR.out]
    go_enter Try.func47, Try.ntmps47
    go_wp2_with fail
    go_ret3
    exact ⟨rfl, Below.refl _ _⟩
  have h4' : ¬ (n : Int) < 4 := by omega
  have HF := refFixed_any (bS l) w (by rw [hsz]; omega)
  rw [strB_bS, fixOf_ok, show decide (4 ≤ l.length) = true by simp; omega] at HF
  obtain ⟨v, HV⟩ : ∃ v, Hid ((fixOf l).1 = v) := ⟨_, rfl⟩
  rw [HV.out] at HF
  have hv : v < 4294967296 := by rw [← HV.out]; exact fixOf_lt l
  have HFF : Hid _ := HF
  clear HF
  by_cases hb : 65536 < v
  · have hb' : (65536 : Int) < (v : Int) := by omega
    have HR : Hid (nextR3 l = .tuple #[.string ⟨#[]⟩, .int .i64 0, .int .i64 2]) := by
      show _ = _
      unfold nextR3 nextF; rw [if_neg (by omega), if_pos (by rw [HV.out]; exact hb)]; rfl
    rw [HR.out]
    generalize bS l = s at *
    go_enter Try.func47, Try.ntmps47
    go_wp2_with fail
    refine Calls.mono HFF.out ?_
    rintro e w1 ⟨rfl, hb1⟩
    have HB1 : Hid (Below w.heap.size w w1) := hb1
    clear hb1 HFF
    go_wp2_with fail
    go_ret3
    exact ⟨rfl, HB1.out⟩
  have hb' : ¬ (65536 : Int) < (v : Int) := by omega
  have hsum : wrap64 (8 + (v : Int)) = ((8 + v : Nat) : Int) := by unfold wrap64; omega
  have hsum2 : IntKind.i64.wrap (8 + (v : Int)) = ((8 + v : Nat) : Int) := (IntWalk.i64_left _).trans hsum
  by_cases hs : n < 8 + v
  · have hs' : (n : Int) < ((8 + v : Nat) : Int) := by omega
    have HR : Hid (nextR3 l = .tuple #[.string ⟨#[]⟩, .int .i64 0, .int .i64 5]) := by
      show _ = _
      unfold nextR3 nextF; rw [if_neg (by omega), if_neg (by rw [HV.out]; exact hb), if_pos (by rw [HV.out]; omega)]; rfl
    rw [HR.out]
    have hs3 : (n : Int) < 8 + (v : Int) := by omega
    generalize bS l = s at *
    clear hsum2
    go_enter Try.func47, Try.ntmps47
    go_wp2_with fail
    refine Calls.mono HFF.out ?_
    rintro e w1 ⟨rfl, hb1⟩
    have HB1 : Hid (Below w.heap.size w w1) := hb1
    clear hb1 HFF
    go_wp2_with fail
    go_ret3
    exact ⟨rfl, HB1.out⟩
  have hs' : ¬ (n : Int) < ((8 + v : Nat) : Int) := by omega
  have hs3 : ¬ (n : Int) < 8 + (v : Int) := by omega
  have hs4 : 8 + (v : Int) ≤ (n : Int) := by omega
  have hs5 : decide (n < 8 + v) = false := by simp; omega
  obtain ⟨bd, HBD⟩ : ∃ bd, Hid ((l.drop 8).take v = bd) := ⟨_, rfl⟩
  have HBL : Hid (bd.length = v) := by show _ = _; rw [← HBD.out]; simp; omega
  have ex1 : (bS l).extract 8 (8 + v) = bS bd := by rw [extract_bS, HBD.out]
  have ex2 : (bS l).extract 0 (8 + v) = bS (l.take (8 + v)) := by
    have := extract_bS l 0 (8 + v); rw [Nat.zero_add, List.drop_zero] at this; exact this
  have HM : Hid (∀ w, Calls Try.prog 71 #[.string (bS bd)] w fun e w' => e = .returned (.string (bS (frameB bd))) ∧ Below w.heap.size w w') := fun w => refMade_any bd w (by rw [HBL.out]; omega)
  have HEQ := frame_eq l v HV.out (by omega)
  rw [HBD.out] at HEQ
  obtain ⟨r, HR⟩ : ∃ r, Hid (decide ((fixOf (l.drop 4)).1 = (crcB (l.take 4 ++ bd)).toNat) = r) := ⟨_, rfl⟩
  have hsame : ((bS (frameB bd)).toList == (bS (l.take (8 + v))).toList) = r := by
    rw [str_same, ← HR.out]
    by_cases h : (fixOf (l.drop 4)).1 = (crcB (l.take 4 ++ bd)).toNat
    · rw [decide_eq_true h, decide_eq_true (HEQ.2 h)]
    · rw [decide_eq_false h, decide_eq_false (fun e => h (HEQ.1 e))]
  have HNX : Hid (nextR3 l = if r = true then .tuple #[.string (bS bd), .int .i64 (8 + (v : Int)), .int .i64 0] else .tuple #[.string ⟨#[]⟩, .int .i64 0, .int .i64 2]) := by
    show _ = _
    unfold nextR3 nextF
    rw [if_neg (by omega), if_neg (by rw [HV.out]; exact hb), if_neg (by rw [HV.out]; omega), HV.out, HBD.out, ← HR.out]
    by_cases h : (fixOf (l.drop 4)).1 = (crcB (l.take 4 ++ bd)).toNat
    · rw [if_pos h, if_pos (decide_eq_true h)]; simp
    · rw [if_neg h, if_neg (by rw [decide_eq_false h]; decide)]; rfl
  rw [HNX.out]
  generalize bS (frameB bd) = fb at *
  generalize bS (l.take (8 + v)) = tb at *
  generalize bS bd = sb at *
  generalize bS l = s at *
  clear HEQ HBD HNX HR HBL HV
  go_enter Try.func47, Try.ntmps47
  go_wp2_with fail
  refine Calls.mono HFF.out ?_
  rintro e w1 ⟨rfl, hb1⟩
  have HB1 : Hid (Below w.heap.size w w1) := hb1
  clear hb1 HFF
  go_wp2_with fail
  rw [ex1]
  have hs6 : (0 : Int) ≤ 8 + (v : Int) := by omega
  have hto : ((8 : Int) + (v : Int)).toNat = 8 + v := by omega
  go_region_held3 (fun _ => True) (first | exact True.intro | assumption) (first | (go_at_call 71; refine Calls.mono (HM.out _) ?_; rintro e w2 ⟨rfl, hb2⟩; have HB2 : Hid (Below w.heap.size w w2) := (Below.drew HB1.out).trans (hb2.mono HB1.out.size); clear hb2))
  cases r with
  | true =>
    go_wp2_with fail
    go_ret3
    exact ⟨rfl, HB2.out⟩
  | false =>
    go_wp2_with fail
    go_ret3
    exact ⟨rfl, HB2.out⟩
end Go.Proofs.Ytaejcclepahefaa

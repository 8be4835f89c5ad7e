/-
  What the document's answers of layer 1 (package marlstoneref01) answer: contracts over this translation.
-/
import Derived.Test.YtlomimhildbkoaaBack
namespace Go.Proofs.Ytlomimhildbkoaa
open Go.RowKit

theorem str_drop (s : ByteArray) (k : Nat) (h : k < s.size) : (strB s).drop k = s[k] :: (strB s).drop (k + 1) := by
  have h2 : k < (strB s).length := by rw [strB_length]; exact h
  rw [List.drop_eq_getElem_cons h2]
  rfl

set_option maxRecDepth 100000 in
set_option maxHeartbeats 400000 in
theorem refGet_any (s : ByteArray) (w : World) (hs : s.size ≤ 9223372036854775807) :
    Calls Try.prog 19 #[.string s] w fun e w' =>
      e = .returned (.tuple #[.int .u64 (getB (strB s)).1, .int .i64 (getB (strB s)).2.1, .bool (getB (strB s)).2.2]) ∧ w' = w := by
  go_enter Try.func19, Try.ntmps19
  go_wp2
  go_loop [5, 6] (fun x i => ∃ (k X : Nat), k ≤ s.size ∧ k ≤ 9 ∧ i = .int .i64 k ∧ x = .int .u64 X ∧ X < 128 ^ k ∧ getB (strB s) = getF k X ((strB s).drop k)) (fun _ i => s.size - (intOf i).toNat)
  case atStart => exact ⟨0, 0, by omega, by omega, rfl, rfl, by omega, rfl⟩
  case round =>
    obtain ⟨k, X, hk, hk9, rfl, rfl, hX, hd⟩ := hrel
    by_cases hlt : k < s.size
    · have HD : Hid (getB (strB s) = getF k X (s[k] :: (strB s).drop (k + 1))) := by show _ = _; rw [hd, ← str_drop]
      have hc256 : s[k].toNat < 256 := s[k].toNat_lt
      have HO : Hid ((k = 9 → s[k].toNat ≤ 1) → bits .or .u64 (X : Int) (IntKind.u64.wrap ((s[k].toNat : Int) % 128 * 2 ^ (7 * k))) = ((X + s[k].toNat % 128 * 128 ^ k : Nat) : Int) ∧ X + s[k].toNat % 128 * 128 ^ k < 128 ^ (k + 1) ∧ X + s[k].toNat % 128 * 128 ^ k < 18446744073709551616) :=
        fun h => or_step X k s[k].toNat hk9 hX hc256 h
      clear hd hX
      by_cases hk : k = 9
      · subst hk
        by_cases h1 : 1 < s[9].toNat
        · have HV : Hid (getB (strB s) = (0, 0, false)) := by show _ = _; rw [HD.out, getF_step, if_pos ⟨rfl, h1⟩]
          clear HD HO
          go_wp2
          go_ret3
          exact ⟨tup3 (by rw [HV.out]; rfl) (by rw [HV.out]; rfl) (by rw [HV.out]), rfl⟩
        · by_cases h0 : s[9].toNat = 0
          · have HV : Hid (getB (strB s) = (0, 0, false)) := by show _ = _; rw [HD.out, getF_step, if_neg (by omega), if_neg (by omega), if_pos ⟨h0, by omega⟩]
            clear HD HO
            go_wp2
            go_ret3
            exact ⟨tup3 (by rw [HV.out]; rfl) (by rw [HV.out]; rfl) (by rw [HV.out]), rfl⟩
          · have HV : Hid (getB (strB s) = (X + s[9].toNat % 128 * 128 ^ 9, 9 + 1, true)) := by show _ = _; rw [HD.out, getF_step, if_neg (by omega), if_neg (by omega), if_neg (by omega)]
            have HE' : Hid (bits .or .u64 (X : Int) ((s[9].toNat : Int) % 128 * 9223372036854775808) = ((X + s[9].toNat % 128 * 128 ^ 9 : Nat) : Int)) := by
              have h := (HO.out (by omega)).1
              rw [show (2 : Int) ^ (7 * 9) = 9223372036854775808 from by decide, IntWalk.u64_in _ ⟨by omega, by omega⟩] at h
              exact h
            clear HD HO
            have hb : (((s[9].toNat : Int)) == 0) = false := by simp; omega
            go_wp2
            go_ret3
            exact ⟨tup3 (by rw [HV.out]; exact HE'.out) (by rw [HV.out]; rfl) (by rw [HV.out]), rfl⟩
      · by_cases h128 : 128 ≤ s[k].toNat
        · have HV : Hid (getB (strB s) = getF (k + 1) (X + s[k].toNat % 128 * 128 ^ k) ((strB s).drop (k + 1))) := by show _ = _; rw [HD.out, getF_step, if_neg (by omega), if_pos h128]
          have HE : Hid (_ ∧ _ ∧ _) := HO.out (by omega)
          clear HD HO
          go_wp2
          go_round
          case rel => exact ⟨k + 1, X + s[k].toNat % 128 * 128 ^ k, by omega, by omega, by go_num, by rw [HE.out.1], HE.out.2.1, HV.out⟩
          case measure => simp [intOf]; omega
        · by_cases h0 : s[k].toNat = 0 ∧ 0 < k
          · have HV : Hid (getB (strB s) = (0, 0, false)) := by show _ = _; rw [HD.out, getF_step, if_neg (by omega), if_neg (by omega), if_pos h0]
            obtain ⟨h0, hk0⟩ := h0
            clear HD HO
            go_wp2
            go_ret3
            exact ⟨tup3 (by rw [HV.out]; rfl) (by rw [HV.out]; rfl) (by rw [HV.out]), rfl⟩
          · have HV : Hid (getB (strB s) = (X + s[k].toNat % 128 * 128 ^ k, k + 1, true)) := by show _ = _; rw [HD.out, getF_step, if_neg (by omega), if_neg (by omega), if_neg h0]
            have HE : Hid (_ ∧ _ ∧ _) := HO.out (by omega)
            clear HD HO
            by_cases hk0 : 0 < k
            · have hb : (((s[k].toNat : Int)) == 0) = false := by simp; omega
              clear h0
              go_wp2
              go_ret3
              exact ⟨tup3 (by rw [HV.out]; exact HE.out.1) (by rw [HV.out]; rfl) (by rw [HV.out]), rfl⟩
            · have hk1 : k < 1 := by omega
              clear h0 hk0
              go_wp2
              go_ret3
              exact ⟨tup3 (by rw [HV.out]; exact HE.out.1) (by rw [HV.out]; rfl) (by rw [HV.out]), rfl⟩
    · have HV : Hid (getB (strB s) = (0, 0, false)) := by show _ = _; rw [hd, List.drop_eq_nil_of_le (by rw [strB_length]; omega)]; rfl
      clear hd
      go_wp2
      go_ret3
      exact ⟨tup3 (by rw [HV.out]; rfl) (by rw [HV.out]; rfl) (by rw [HV.out]), rfl⟩

theorem str_mk (s : ByteArray) : s = ⟨(strB s).toArray⟩ := by
  cases s
  simp [strB]
theorem strB_mk (l : List UInt8) : strB ⟨l.toArray⟩ = l := by simp [strB]

theorem extract_strB (s : ByteArray) (a v : Nat) : s.extract a (a + v) = ⟨(((strB s).drop a).take v).toArray⟩ := by
  have h := ByteArray.extract_mk (strB s) a (a + v)
  rw [← str_mk s, Nat.add_sub_cancel_left] at h
  exact h

set_option maxRecDepth 100000 in
set_option maxHeartbeats 400000 in
theorem refText_any (s : ByteArray) (w : World) (hs : s.size ≤ 9223372036854775807) :
    Calls Try.prog 21 #[.string s] w fun e w' =>
      e = .returned (.tuple #[.string ⟨(textOf (strB s)).1.toArray⟩, .int .i64 (textOf (strB s)).2.1, .bool (textOf (strB s)).2.2]) ∧ w' = w := by
  have hl := strB_length s
  by_cases hno : (getB (strB s)).2.2 = false
  · rw [show textOf (strB s) = ([], 0, false) from by unfold textOf; rw [if_pos (.inl hno)]]
    have HG := refGet_any s w hs
    rw [hno] at HG
    clear hno hl
    go_enter Try.func21, Try.ntmps21
    go_wp2_with fail
    refine HG.mono ?_
    rintro e w2 ⟨rfl, rfl⟩
    go_wp2
    go_ret3
    exact ⟨rfl, rfl⟩
  · have hyes : getB (strB s) = ((getB (strB s)).1, (getB (strB s)).2.1, true) := by
      have : (getB (strB s)).2.2 = true := by simpa using hno
      rw [← this]
    generalize (getB (strB s)).1 = v at hyes
    generalize (getB (strB s)).2.1 = n at hyes
    obtain ⟨hv, hn1, hn2, _, _⟩ := getB_once _ v n hyes
    have hn3 : n ≤ s.size := by omega
    have HG := refGet_any s w hs
    rw [hyes] at HG
    by_cases hsh : s.size - n < v
    · rw [show textOf (strB s) = ([], 0, false) from by unfold textOf; rw [hyes]; rw [if_pos (.inr (by rw [hl]; exact hsh))]]
      have h1 : (s.size : Int) - (n : Int) < (v : Int) := by omega
      clear hyes hno hl
      go_enter Try.func21, Try.ntmps21
      go_wp2_with fail
      refine HG.mono ?_
      rintro e w2 ⟨rfl, rfl⟩
      go_wp2
      go_ret3
      exact ⟨rfl, rfl⟩
    · rw [show textOf (strB s) = (((strB s).drop n).take v, n + v, true) from by
        unfold textOf; rw [hyes]; rw [if_neg (by rw [hl]; simp; omega)]]
      have h1 : (v : Int) ≤ (s.size : Int) - (n : Int) := by omega
      rw [← extract_strB s n v]
      clear hyes hno hl
      go_enter Try.func21, Try.ntmps21
      go_wp2_with fail
      refine HG.mono ?_
      rintro e w2 ⟨rfl, rfl⟩
      go_wp2
      go_ret3
      exact ⟨rfl, rfl⟩

theorem run_index_at (s : ByteArray) (k : Nat) (h : k < s.size) (w : World) : (Instr.index 9 (.string s) (.int .i64 (k : Int))).run Try.prog w = .ok (.int .u8 (s[k].toNat : Int)) w := by
  rw [run_index_string w 9 s .i64 (k : Int) Try.underlying9, dif_pos ⟨by omega, by omega⟩]
  rfl

set_option maxRecDepth 100000 in
set_option maxHeartbeats 400000 in
theorem refFixed_any (s : ByteArray) (w : World) (hs : s.size ≤ 9223372036854775807) :
    Calls Try.prog 23 #[.string s] w fun e w' => e = .returned (.tuple #[.int .u32 (fixOf (strB s)).1, .bool (fixOf (strB s)).2]) ∧ Below w.heap.size w w' := by
  by_cases h4 : s.size < 4
  · rw [show fixOf (strB s) = (0, false) from by unfold fixOf; rw [if_pos (by rw [strB_length]; omega)]]
    have h1 : (s.size : Int) < 4 := by omega
    go_enter Try.func23, Try.ntmps23
    go_wp2
    go_ret2
    exact ⟨rfl, Below.refl _ _⟩
  · have g : ∀ k (h : k < s.size), (strB s).getD k 0 = s[k] := fun k h => by
      rw [List.getD_eq_getElem?_getD, List.getElem?_eq_getElem (by rw [strB_length]; exact h)]; rfl
    rw [show fixOf (strB s) = ((s[0].toNat * 16777216 + s[1].toNat * 65536 + s[2].toNat * 256 + s[3].toNat), true) from by
      unfold fixOf; rw [if_neg (by rw [strB_length]; omega), g 0 (by omega), g 1 (by omega), g 2 (by omega), g 3 (by omega)]]
    have hx := fun (k : Nat) (h : k < s.size) (w : World) => run_index_at s k h w
    have hx0 : ∀ w : World, (Instr.index 9 (.string s) (.int .i64 0)).run Try.prog w = .ok (.int .u8 (s[0].toNat : Int)) w := fun w => hx 0 (by omega) w
    have hx1 : ∀ w : World, (Instr.index 9 (.string s) (.int .i64 1)).run Try.prog w = .ok (.int .u8 (s[1].toNat : Int)) w := fun w => hx 1 (by omega) w
    have hx2 : ∀ w : World, (Instr.index 9 (.string s) (.int .i64 2)).run Try.prog w = .ok (.int .u8 (s[2].toNat : Int)) w := fun w => hx 2 (by omega) w
    have hx3 : ∀ w : World, (Instr.index 9 (.string s) (.int .i64 3)).run Try.prog w = .ok (.int .u8 (s[3].toNat : Int)) w := fun w => hx 3 (by omega) w
    generalize s[0] = c0 at *
    generalize s[1] = c1 at *
    generalize s[2] = c2 at *
    generalize s[3] = c3 at *
    have hi4 : ¬ ((s.size : Int) < 4) := by omega
    have b0 := c0.toNat_lt
    have b1 := c1.toNat_lt
    have b2 := c2.toNat_lt
    have b3 := c3.toNat_lt
    clear g h4 hx
    go_enter Try.func23, Try.ntmps23
    go_wp2
    go_quiet (fail)
    go_wp2
    go_ret2
    refine ⟨tup2 ?_ rfl, bel_drewN (Below.refl _ _) nq⟩
    exact or_four c0.toNat c1.toNat c2.toNat c3.toNat b0 b1 b2 b3

/-- One byte that was written out. -/
theorem bytes_one (w : World) (a : UInt8) : Bytes (w.alloc (.cells #[.int .u8 (a.toNat : Int)] 5)) (some ⟨w.heap.size, 0, none⟩) 1 [a] := by
  refine ⟨rfl, fun i c hi => ⟨_, rfl, ?_⟩⟩
  match i, hi with
  | 0, hi => simp at hi; subst hi; simp [Addr.add]
  | n + 1, hi => simp at hi

set_option maxRecDepth 100000 in
set_option maxHeartbeats 400000 in
theorem refPut_any (s : ByteArray) (v : Nat) (w : World) (hv : v < 18446744073709551616) (hs : s.size ≤ 4611686018427387904) :
    Calls Try.prog 13 #[.string s, .int .u64 v] w fun e w' => e = .returned (.string ⟨(strB s ++ putB v).toArray⟩) ∧ Below w.heap.size w w' := by
  go_enter Try.func13, Try.ntmps13
  go_wp2
  go_loopw [0, 1] (fun t x wr => ∃ (u : Nat) (done : List UInt8), x = .int .u64 u ∧ u < 18446744073709551616 ∧ putB v = done ++ putB u ∧ t = .string ⟨(strB s ++ done).toArray⟩ ∧ Below w.heap.size w wr) (fun _ x _ => (intOf x).toNat)
  case atStart => exact ⟨v, [], rfl, hv, rfl, by rw [List.append_nil, ← str_mk], Below.refl _ _⟩
  case round =>
    obtain ⟨u, done, rfl, hu, hp, rfl, hbel⟩ := hrel
    obtain ⟨t, ht⟩ : ∃ t : ByteArray, t = ⟨(strB s ++ done).toArray⟩ := ⟨_, rfl⟩
    have hts : t.size ≤ 4611686018427387914 := by
      have h1 := putB_le v
      rw [hp, List.length_append] at h1
      have h2 := strB_length s
      rw [ht]
      show (strB s ++ done).toArray.size ≤ _
      rw [List.size_toArray, List.length_append]
      omega
    rw [← ht]
    have HP : Hid (putB v = done ++ putB u) := hp
    have HT : Hid (t = ⟨(strB s ++ done).toArray⟩) := ht
    have hsize := hbel.size
    clear hp ht
    by_cases hlt : 128 ≤ u
    · obtain ⟨c, hcd⟩ : ∃ c : UInt8, c = UInt8.ofNat (u % 128 + 128) := ⟨_, rfl⟩
      have hcn : (u : Int) % 128 + 128 = (c.toNat : Int) := by rw [hcd, toNat_ofNat _ (by omega)]; omega
      have HP2 : Hid (putB v = done ++ [c] ++ putB (u / 128)) := by
        show _ = _
        rw [HP.out, putB_more u hlt hu, hcd, List.append_assoc]; rfl
      obtain ⟨q, hq⟩ : ∃ q : ByteArray, q = ⟨[c].toArray⟩ := ⟨_, rfl⟩
      have hqs : q.size ≤ 1 := by rw [hq]; exact Nat.le_refl _
      have HQ : Hid (t ++ q = ⟨(strB s ++ (done ++ [c])).toArray⟩) := by
        show _ = _
        rw [HT.out, hq, ByteArray.mk_append_mk, List.append_assoc]
      have hcv := str_bytes 1 (bytes_one wr c)
      rw [← hq, ← hcn] at hcv
      have hbelA : Below w.heap.size w (wr.alloc (.cells #[.int .u8 ((u : Int) % 128 + 128)] 5)) := hbel.alloc hsize _
      clear HP HT hcd hcn hq
      go_wp2
      go_roundw
      case rel => exact ⟨u / 128, done ++ [c], by go_num, by omega, HP2.out, by rw [HQ.out], hbelA⟩
      case measure => simp [intOf]; omega
    · obtain ⟨c, hcd⟩ : ∃ c : UInt8, c = UInt8.ofNat u := ⟨_, rfl⟩
      have hcn : (u : Int) = (c.toNat : Int) := by rw [hcd, toNat_ofNat _ (by omega)]
      have HP2 : Hid (putB v = done ++ [c]) := by
        show _ = _
        rw [HP.out, putB_small u (by omega), hcd]
      obtain ⟨q, hq⟩ : ∃ q : ByteArray, q = ⟨[c].toArray⟩ := ⟨_, rfl⟩
      have hqs : q.size ≤ 1 := by rw [hq]; exact Nat.le_refl _
      have HQ : Hid (t ++ q = ⟨(strB s ++ (done ++ [c])).toArray⟩) := by
        show _ = _
        rw [HT.out, hq, ByteArray.mk_append_mk, List.append_assoc]
      have hcv := str_bytes 1 (bytes_one wr c)
      rw [← hq, ← hcn] at hcv
      have hbelA : Below w.heap.size w (wr.alloc (.cells #[.int .u8 (u : Int)] 5)) := hbel.alloc hsize _
      clear HP HT hcd hcn hq
      go_wp2
      go_ret
      exact ⟨by rw [HP2.out, ← HQ.out]; rfl, hbelA⟩

set_option maxRecDepth 100000 in
set_option maxHeartbeats 400000 in
theorem refSize_any (v : Nat) (w : World) (hv : v < 18446744073709551616) :
    Calls Try.prog 17 #[.int .u64 v] w fun e w' => e = .returned (.int .i64 (sz v)) ∧ Below w.heap.size w w' := by
  have hl := sz_le v
  have HP := refPut_any ⟨#[]⟩ v w hv (by decide)
  rw [show strB ⟨#[]⟩ = [] from rfl, List.nil_append] at HP
  have hsz : (⟨(putB v).toArray⟩ : ByteArray).size = sz v := List.size_toArray
  generalize (⟨(putB v).toArray⟩ : ByteArray) = q at *
  go_enter Try.func17, Try.ntmps17
  go_wp2_with fail
  refine HP.mono ?_
  rintro e w' ⟨rfl, hbel⟩
  go_wp2
  go_ret
  exact ⟨rfl, hbel⟩

set_option maxRecDepth 100000 in
set_option maxHeartbeats 400000 in
theorem refPutText_any (s t : ByteArray) (w : World) (hs : s.size ≤ 4611686018427387904) (ht : t.size ≤ 2305843009213693952) :
    Calls Try.prog 14 #[.string s, .string t] w fun e w' => e = .returned (.string ⟨(strB s ++ textB (strB t)).toArray⟩) ∧ Below w.heap.size w w' := by
  have hl := putB_le t.size
  have HP := refPut_any s t.size w (by omega) hs
  have hsz : (⟨(strB s ++ putB t.size).toArray⟩ : ByteArray).size ≤ 4611686018427387914 := by
    show (strB s ++ putB t.size).toArray.size ≤ _
    rw [List.size_toArray, List.length_append, strB_length]
    omega
  have HQ : Hid ((⟨(strB s ++ putB t.size).toArray⟩ : ByteArray) ++ t = ⟨(strB s ++ textB (strB t)).toArray⟩) := by
    show _ = _
    rw [textB, strB_length, ← List.append_assoc]
    rw [str_mk t, strB_mk, ByteArray.mk_append_mk]
    rfl
  generalize (⟨(strB s ++ putB t.size).toArray⟩ : ByteArray) = q at *
  go_enter Try.func14, Try.ntmps14
  go_wp2_with fail
  refine HP.mono ?_
  rintro e w' ⟨rfl, hbel⟩
  go_wp2
  go_ret
  exact ⟨by rw [← HQ.out]; rfl, hbel⟩

/-- Four bytes that were written out. -/
theorem bytes_four (w : World) (a b c d : UInt8) : Bytes (w.alloc (.cells #[.int .u8 (a.toNat : Int), .int .u8 (b.toNat : Int), .int .u8 (c.toNat : Int), .int .u8 (d.toNat : Int)] 5)) (some ⟨w.heap.size, 0, none⟩) 4 [a, b, c, d] := by
  refine ⟨rfl, fun i x hi => ⟨_, rfl, ?_⟩⟩
  match i, hi with
  | 0, hi => simp at hi; subst hi; simp [Addr.add]
  | 1, hi => simp at hi; subst hi; simp [Addr.add]
  | 2, hi => simp at hi; subst hi; simp [Addr.add]
  | 3, hi => simp at hi; subst hi; simp [Addr.add]
  | n + 4, hi => simp at hi

set_option maxRecDepth 100000 in
set_option maxHeartbeats 400000 in
theorem refPutFixed_any (s : ByteArray) (v : Nat) (w : World) (hs : s.size ≤ 4611686018427387904) (hv : v < 4294967296) :
    Calls Try.prog 15 #[.string s, .int .u32 v] w fun e w' => e = .returned (.string ⟨(strB s ++ fixB v).toArray⟩) ∧ Below w.heap.size w w' := by
  have hcv := str_bytes 4 (bytes_four w (UInt8.ofNat (v / 16777216 % 256)) (UInt8.ofNat (v / 65536 % 256)) (UInt8.ofNat (v / 256 % 256)) (UInt8.ofNat (v % 256)))
  rw [← fix1 v hv, ← fix2 v, ← fix3 v, ← fix4 v] at hcv
  have hqs : (⟨(fixB v).toArray⟩ : ByteArray).size ≤ 4 := by show (fixB v).toArray.size ≤ _; rw [List.size_toArray]; exact Nat.le_refl _
  have HQ : Hid (s ++ ⟨(fixB v).toArray⟩ = ⟨(strB s ++ fixB v).toArray⟩) := by
    have h := ByteArray.mk_append_mk (strB s) (fixB v)
    rw [← str_mk s] at h
    exact h
  have hcv2 : (convert 22 9 (.slice (some ⟨w.heap.size, 0, none⟩) 4 4)).run Try.prog (w.alloc (.cells #[.int .u8 ((v : Int) / 16777216), .int .u8 ((v : Int) / 65536 % 256), .int .u8 ((v : Int) / 256 % 256), .int .u8 ((v : Int) % 256)] 5)) = .ok (.string ⟨(fixB v).toArray⟩) (w.alloc (.cells #[.int .u8 ((v : Int) / 16777216), .int .u8 ((v : Int) / 65536 % 256), .int .u8 ((v : Int) / 256 % 256), .int .u8 ((v : Int) % 256)] 5)) := hcv
  clear hcv
  generalize (⟨(fixB v).toArray⟩ : ByteArray) = q at *
  go_enter Try.func15, Try.ntmps15
  go_wp2
  go_ret
  exact ⟨by rw [← HQ.out]; rfl, (Below.refl _ _).alloc (Nat.le_refl _) _⟩
end Go.Proofs.Ytlomimhildbkoaa

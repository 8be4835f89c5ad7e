/-
  The document's Split answers what the program's Split answers.
-/
import Derived.Test.YteggjenncmjfmaaApartW
import Derived.Test.YteggjenncmjfmaaMgU
namespace Go.Proofs.Yteggjenncmjfmaa
open Go.RowKit
set_option linter.unusedSectionVars false
set_option linter.unusedVariables false
variable [Inhabited E] [DecidableEq E] [Inhabited RV]
theorem upN_qr (q k r : Nat) (hr : r < k) : upN (q * k + r) k = q + if 0 < r then 1 else 0 := by
  have hk : 0 < k := by omega
  unfold upN
  by_cases h : 0 < r
  · rw [if_pos h, show q * k + r + k - 1 = (r - 1) + (q + 1) * k by rw [Nat.add_mul]; omega, Nat.add_mul_div_right _ _ hk, Nat.div_eq_of_lt (by omega)]; omega
  · rw [if_neg h, show q * k + r + k - 1 = (k - 1) + q * k by omega, Nat.add_mul_div_right _ _ hk, Nat.div_eq_of_lt (by omega)]; omega
theorem split_step {es : List E} {a q r i k : Nat} (hi : i < k) (hr : r < k) (hm : es.length - a = q * (k - i) + (r - i)) :
    splitN (k - i) (es.drop a) = (es.drop a).take (q + if i < r then 1 else 0) :: splitN (k - (i + 1)) (es.drop (a + (q + if i < r then 1 else 0))) ∧
      es.length - (a + (q + if i < r then 1 else 0)) = q * (k - (i + 1)) + (r - (i + 1)) ∧ (a ≤ es.length → a + (q + if i < r then 1 else 0) ≤ es.length) := by
  have h1 : upN (es.drop a).length (k - i) = q + if i < r then 1 else 0 := by
    rw [List.length_drop, hm, upN_qr q (k - i) (r - i) (by omega)]
    by_cases h : i < r
    · rw [if_pos h, if_pos (by omega)]
    · rw [if_neg h, if_neg (by omega)]
  have h2 : q * (k - i) = q * (k - (i + 1)) + q := by
    rw [show k - i = (k - (i + 1)) + 1 by omega, Nat.mul_add, Nat.mul_one]
  refine ⟨?_, ?_, ?_⟩
  · rw [show k - i = (k - (i + 1)) + 1 by omega, splitN]
    rw [show k - (i + 1) + 1 = k - i by omega, h1, List.drop_drop]
  · split <;> omega
  · split <;> omega
set_option maxRecDepth 100000 in
set_option maxHeartbeats 1000000 in
theorem refSplit_any (ao : Option Addr) (n c : Nat) (es : List E) (w : World) (hE : EntsV w ao n es) (hnc : n ≤ c) (hc : c ≤ 9223372036854775807) (h0 : ao = none → c = 0) (hb : n ≤ 100000) :
    Calls Try.prog 17 #[.slice ao n c] w fun e w' => ∃ v Ps, e = .returned v ∧ Ps.map PV.l = splitL es ∧ OwnP w' w.heap.size v Ps ∧ Below w.heap.size w w' := by
  have HN : Hid (es.length = n ∧ n ≤ 100000 ∧ n ≤ c ∧ c ≤ 9223372036854775807 ∧ (ao = none → c = 0)) := ⟨hE.1, hb, hnc, hc, h0⟩
  have HE : Hid (EntsV w ao n es) := hE
  have hn100 : (n : Int) ≤ 100000 := by omega
  have hncz : (n : Int) ≤ (c : Int) := by omega
  obtain ⟨k, HK⟩ : ∃ k, Hid (upN n 64 = k) := ⟨_, rfl⟩
  have HK2 : Hid (∀ j : Nat, j * 64 < n ↔ j < k) := fun j => by have := HK.out; unfold upN at this; omega
  have HKN : Hid (k ≤ n) := by have := HK.out; unfold upN at this; show k ≤ n; omega
  clear hE hb hnc hc h0
  go_enter Try.func17, Try.ntmps17
  go_wp2_with fail
  go_loopw [4] (fun s wr => ∃ j : Nat, s = .int .i64 j ∧ j ≤ k ∧ Hid (Below w.heap.size w wr ∧ OwnP wr w.heap.size (.slice (some ⟨w.heap.size, 0, none⟩) 0 0) [])) (fun s _ => k - (intOf s).toNat)
  case atStart => exact ⟨0, rfl, Nat.zero_le _, bel_alloc _ _, ownP_empty w⟩
  case round =>
    obtain ⟨j, rfl, hjk, HJ⟩ := hrel
    have hjz : (j : Int) ≤ 100000 := by have := HKN.out; omega
    by_cases hlt : j < k
    · have hltz : (j : Int) * 64 < (n : Int) := by have := (HK2.out j).2 hlt; omega
      go_wp2_with fail
      go_roundw
      case rel => exact ⟨j + 1, by go_num, by omega, HJ.out⟩
      case measure => simp [intOf]; omega
    · have hltz : ¬ (j : Int) * 64 < (n : Int) := by have := mt (HK2.out j).1 hlt; omega
      obtain rfl : j = k := by omega
      clear hlt hjk
      go_wp2_with fail
      obtain ⟨q, HQ⟩ : ∃ q, Hid (n / j = q) := ⟨_, rfl⟩
      obtain ⟨r, HR⟩ : ∃ r, Hid (n % j = r) := ⟨_, rfl⟩
      go_loopw [3, 5, 6, 7] (fun s3 s5 s6 _ wr => ∃ (a i : Nat) (Ps : List PV), s5 = .int .i64 a ∧ s6 = .int .i64 i ∧ i ≤ j ∧ Hid (Ps.map PV.l ++ splitN (j - i) (es.drop a) = splitL es ∧ OwnP wr w.heap.size s3 Ps ∧ Below w.heap.size w wr) ∧ Hid (a ≤ n ∧ n - a = q * (j - i) + (r - i))) (fun _ _ s6 _ _ => j - (intOf s6).toNat)
      case atStart => exact ⟨0, 0, [], rfl, rfl, Nat.zero_le _, ⟨by rw [splitL, HN.out.1, HK.out]; rfl, HJ.out.2, HJ.out.1⟩, ⟨Nat.zero_le _, by rw [← HQ.out, ← HR.out, Nat.mul_comm]; exact (Nat.div_add_mod n j).symm⟩⟩
      case round =>
        obtain ⟨a, i, Ps, rfl, rfl, hij, HP, HA⟩ := hrel
        by_cases hik : i < j
        · have hikz : (i : Int) < (j : Int) := by omega
          have hjnz : ¬ (j : Int) = 0 := by omega
          obtain ⟨u, HU⟩ : ∃ u, Hid ((q + if i < r then 1 else 0) = u) := ⟨_, rfl⟩
          have HST := split_step (es := es) (a := a) (q := q) (r := r) (i := i) (k := j) hik (by rw [← HR.out]; exact Nat.mod_lt _ (by omega)) (by rw [HN.out.1]; exact HA.out.2)
          rw [HU.out, HN.out.1] at HST
          have HS : Hid _ := HST
          clear HST
          have hq100 : (q : Int) ≤ 100000 := by have h1 := HQ.out; have h2 := Nat.div_le_self n j; omega
          have hwq : wrap64 ((n : Int) / (j : Int)) = (q : Int) := by rw [← Int.natCast_ediv, HQ.out]; unfold wrap64; omega
          have hwr : (n : Int) % (j : Int) = (r : Int) := by rw [← Int.natCast_emod, HR.out]
          go_upto_if 30 with fail
          simp only [hwq, hwr]
          clear hwq hwr hjnz
          go_cut [7] (fun s wx => s = .int .i64 (u : Int) ∧ wr = wx)
          case first =>
            by_cases hir : i < r
            · have hirz : (i : Int) < (r : Int) := by omega
              have hu : u = q + 1 := by rw [← HU.out, if_pos hir]
              subst hu
              go_wp2_with fail
              go_meet
              case rel => exact ⟨by first | rfl | go_num, rfl⟩
            · have hirz : ¬ (i : Int) < (r : Int) := by omega
              have hu : u = q := by rw [← HU.out, if_neg hir]; rfl
              subst hu
              go_wp2_with fail
              go_meet
              case rel => exact ⟨rfl, rfl⟩
          case rest =>
            obtain ⟨rfl, rfl⟩ := hcut
            clear hq100
            have HAU : Hid (a + u ≤ n) := HS.out.2.2 HA.out.1
            have haz : (a : Int) + (u : Int) ≤ (n : Int) := by have := HAU.out; omega
            have han : (a : Int) ≤ (n : Int) := by have := HAU.out; omega
            have HU1 : Hid (1 ≤ u) := by
              have h1 : 0 < n / j := Nat.div_pos HKN.out (by omega)
              have h2 := HQ.out
              have h3 := HU.out
              show 1 ≤ u
              omega
            obtain ⟨b, off, hao, hEn⟩ := HE.out.2 (by have := HU1.out; have := HAU.out; omega)
            subst hao
            have hca : ¬ c = a := by have := HU1.out; have := HAU.out; have := HN.out; omega
            have hacz : (a : Int) < (c : Int) := by have := HU1.out; have := HAU.out; have := HN.out; omega
            have HNX : Hid (EntsV w (some ⟨b, off + a * 4, none⟩) u ((es.drop a).take u)) := by
              have h1 := HE.out.from a HA.out.1 HN.out.2.2.1
              rw [if_neg hca, Option.map_some, Addr.add_lit] at h1
              exact h1.take u (by have := HAU.out; omega)
            have HB2 : Hid (Below w.heap.size w (wr.alloc (.cells #[] 29))) := HP.out.2.2.alloc HP.out.2.2.size _
            have F1 := HNX.out.below HB2.out (Nat.le_refl _)
            have HBU : Hid (u ≤ 100000) := by have := HAU.out; have := HN.out; show u ≤ _; omega
            clear hEn
            obtain ⟨X, HX⟩ : ∃ x, Hid ((es.drop a).take u = x) := ⟨_, rfl⟩
            rw [HX.out] at F1
            have F2 : EntsV (wr.alloc (.cells #[] 29)) (some ⟨b, off + a * 4, none⟩) (a + u - a) X := by rw [Nat.add_sub_cancel_left]; exact F1
            have HPL : Hid (Ps.length < 1000000) := by
              have h1 := congrArg List.length HP.out.1
              rw [List.length_append, List.length_map, splitN_len, splitL, splitN_len] at h1
              have := upN_le64 es.length
              have := HN.out
              show _ < _; omega
            go_wp2_with (at_builtin; refine wpList_append_ents (wr.alloc (.cells #[] 29)) rfl (.tmp 34) (.tmp 40) rfl wr.heap.size (.slice (some ⟨wr.heap.size, 0, none⟩) 0 0) 0 [] rfl (own_emptyE wr) (by simp) (some ⟨b, off + a * 4, none⟩) (a + u - a) (c - a) X rfl F2 (fun h => by cases h) (by have := HBU.out; omega) ?_)
            intro v3 w3 ho3 hb3
            obtain ⟨xo, xc, rfl, -⟩ := ent_slice ho3 rfl
            have HB3 : Hid (Below wr.heap.size wr w3) := (bel_alloc _ _).trans hb3
            have HO4 : Hid ((w3.alloc (.cells #[.slice xo X.length xc] 25)).ownsRow wr.heap.size 29 4 (.slice xo X.length xc) X.length (flatE X) ∧ Below wr.heap.size wr (w3.alloc (.cells #[.slice xo X.length xc] 25))) := ⟨own_below ho3 (bel_alloc _ _) (Nat.le_refl _), HB3.out.alloc HB3.out.size _⟩
            have HRW : Hid ((w3.alloc (.cells #[.slice xo X.length xc] 25)).ownsRow w.heap.size 25 1 u3 Ps.length (Ps.map PV.v)) := (HP.out.2.1.below HO4.out.2 (Nat.le_refl _)).row
            have HSZ : Hid (w.heap.size ≤ wr.heap.size ∧ w.heap.size ≤ (w3.alloc (.cells #[.slice xo X.length xc] 25)).heap.size) := ⟨HP.out.2.2.size, Nat.le_trans HP.out.2.2.size HO4.out.2.size⟩
            obtain ⟨i0, hi, hz0, hz1, hz2⟩ := info_parts info25
            clear ho3 hb3 F1 F2
            go_wp2_with (at_builtin; refine wpList_append_lies _ rfl (.tmp 33) (.tmp 42) 22 rfl w.heap.size 25 i0 _ 1 24 Try.underlying22 hi hz0 hz1 hz2 rfl (by decide) u3 Ps.length (Ps.map PV.v) rfl HRW.out ⟨w3.heap.size, 0, none⟩ 1 1 [.slice xo X.length xc] rfl rfl (World.news_of_block (cs := #[.slice xo X.length xc]) (t := 25) (fr := (0, 0)) (by rw [heap_alloc_get, if_pos rfl])) (fun x hx => by rw [List.mem_singleton.1 hx]; rfl) (by decide) (by have := HPL.out; unfold maxLen; omega) (by have := HPL.out; omega) HSZ.out.2 _ rfl ?_)
            intro g7 cap7 w7 hr7 hg7 hl7 hlt7
            have HP7 : Hid (OwnP w7 w.heap.size (.slice (some ⟨g7, 0, none⟩) (Ps.length + 1) cap7) (Ps ++ [⟨.slice xo X.length xc, X⟩]) ∧ Below w.heap.size w w7) := ⟨HP.out.2.1.snoc HO4.out.2 HO4.out.1 HSZ.out.1 hr7 hg7, (HP.out.2.2.trans (HO4.out.2.mono HSZ.out.1)).trans ((Below.refl _ _).grown hg7 HSZ.out.2 (fun k hk => (HRW.out.lt k hk).1))⟩
            clear hr7 hg7 hl7 hlt7 HRW
            go_wp2_with fail
            go_roundw
            case rel => exact ⟨a + u, i + 1, Ps ++ [⟨.slice xo X.length xc, X⟩], by go_num, by go_num, by omega, ⟨by rw [List.map_append, List.append_assoc, ← HP.out.1, HS.out.1, HX.out]; rfl, HP7.out.1, HP7.out.2⟩, ⟨HAU.out, HS.out.2.1⟩⟩
            case measure => simp [intOf]; omega
        · have hikz : ¬ (i : Int) < (j : Int) := by omega
          obtain rfl : i = j := by omega
          have HF : Hid (Ps.map PV.l = splitL es) := by have := HP.out.1; rw [Nat.sub_self, splitN, List.append_nil] at this; exact this
          clear hik
          go_wp2_with fail
          go_ret
          exact ⟨_, rfl, Ps, HF.out, HP.out.2.1, HP.out.2.2⟩
end Go.Proofs.Yteggjenncmjfmaa

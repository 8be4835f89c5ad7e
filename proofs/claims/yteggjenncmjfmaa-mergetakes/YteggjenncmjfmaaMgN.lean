/-
  merge.Split: a contract over this translation.
-/
import Derived.Test.YteggjenncmjfmaaMgL
namespace Go.Proofs.Yteggjenncmjfmaa
open Go.RowKit
set_option linter.unusedSectionVars false
variable [Inhabited E] [DecidableEq E] [Inhabited RV]
def upN (a b : Nat) : Nat := (a + b - 1) / b
def splitN : Nat → List E → List (List E)
  | 0, _ => []
  | k + 1, l => l.take (upN l.length (k + 1)) :: splitN k (l.drop (upN l.length (k + 1)))
def splitL (l : List E) : List (List E) := splitN (upN l.length 64) l
theorem upN_one {m k : Nat} (hk : 0 < k) (h : k ≤ m) : 1 ≤ upN m k ∧ upN m k + (k - 1) ≤ m := by
  unfold upN
  have h1 : k ≤ m + k - 1 := by omega
  refine ⟨(Nat.le_div_iff_mul_le hk).2 (by omega), ?_⟩
  obtain ⟨j, rfl⟩ : ∃ j, m = k + j := ⟨m - k, by omega⟩
  have h2 : (k + j + k - 1) / k ≤ 1 + j := by
    refine Nat.le_of_lt_succ ((Nat.div_lt_iff_lt_mul hk).2 ?_)
    have : (1 + j).succ * k = 2 * k + j * k := by rw [Nat.succ_eq_add_one, Nat.add_mul, Nat.add_mul]; omega
    have h3 : j ≤ j * k := Nat.le_mul_of_pos_right j hk
    omega
  omega
theorem upN_le64 (m : Nat) : upN m 64 ≤ m := by unfold upN; omega
theorem splitN_len : ∀ (k : Nat) (l : List E), (splitN k l).length = k
  | 0, _ => rfl
  | k + 1, l => by rw [splitN, List.length_cons, splitN_len k]
set_option maxRecDepth 100000 in
set_option maxHeartbeats 1000000 in
theorem rup_any (a b : Nat) (w : World) (hb : 0 < b) (h1 : a ≤ 1000000) (h2 : b ≤ 1000000) : Calls Try.prog 24 #[.int .i64 (a : Int), .int .i64 (b : Int)] w fun e w' => e = .returned (.int .i64 ((upN a b : Nat) : Int)) ∧ w' = w := by
  have e1 : (((a + b - 1 : Nat) : Int)) = (a : Int) + (b : Int) - 1 := by omega
  have HU : Hid (((a : Int) + (b : Int) - 1) / (b : Int) = ((upN a b : Nat) : Int)) := by show _ = _; rw [← e1]; exact (Int.natCast_ediv _ _).symm
  have a1 : (0 : Int) ≤ (a : Int) := by omega
  have a2 : (a : Int) ≤ 1000000 := by omega
  have b1 : (1 : Int) ≤ (b : Int) := by omega
  have b2 : (b : Int) ≤ 1000000 := by omega
  have c1 : ¬ (b : Int) = 0 := by omega
  have c2 : (0 : Int) ≤ (a : Int) + (b : Int) - 1 := by omega
  clear e1 hb h1 h2
  go_enter Try.func24, Try.ntmps24
  go_wp2
  go_ret
  exact ⟨by rw [HU.out]; rfl, rfl⟩
set_option maxRecDepth 100000 in
set_option maxHeartbeats 1000000 in
theorem split_any (ao : Option Addr) (n c : Nat) (es : List E) (w : World) (hE : EntsV w ao n es) (hnc : n ≤ c) (hc : c ≤ 9223372036854775807) (hb : n ≤ 100000) :
    Calls Try.prog 16 #[.slice ao n c] w fun e w' => ∃ v Ps, e = .returned v ∧ Ps.map PV.l = splitL es ∧ OwnP w' w.heap.size v Ps ∧ Below w.heap.size w w' := by
  have HN : Hid (es.length = n ∧ n ≤ 100000) := ⟨hE.1, hb⟩
  have HE : Hid (EntsV w ao n es ∧ n ≤ c ∧ c ≤ 9223372036854775807) := ⟨hE, hnc, hc⟩
  have C0 : Hid _ := rup_any n 64 w (by decide) (by omega) (by decide)
  clear hE hb hnc hc
  go_enter Try.func16, Try.ntmps16
  go_wp2_with fail
  refine Calls.mono C0.out ?_
  rintro e w1 ⟨rfl, rfl⟩
  go_wp2_with fail
  go_loopg [0, 3, 4] n (fun gk s0 s3 s4 wr => ∃ (k : Nat) (ro : Option Addr) (rn rc : Nat) (rest : List E) (Ps : List PV), s0 = .slice ro rn rc ∧ s4 = .int .i64 k ∧ k ≤ gk ∧ Hid (EntsV w1 ro rn rest ∧ rn ≤ rc ∧ rc ≤ 9223372036854775807 ∧ k ≤ rn ∧ rn ≤ n) ∧ Hid (Ps.map PV.l ++ splitN k rest = splitL es ∧ OwnP wr w1.heap.size s3 Ps ∧ Below w1.heap.size w1 wr))
  case atStart => exact ⟨upN n 64, ao, n, c, es, [], rfl, rfl, upN_le64 n, ⟨HE.out.1, HE.out.2.1, HE.out.2.2, upN_le64 n, Nat.le_refl _⟩, ⟨by rw [splitL, HN.out.1]; rfl, ownP_nil _ _, Below.refl _ _⟩⟩
  case round =>
    obtain ⟨k, ro, rn, rc, rest, Ps, rfl, rfl, hgk, HR, HP⟩ := hrel
    by_cases hk : k = 0
    · subst hk
      have HF : Hid (Ps.map PV.l = splitL es) := by have := HP.out.1; rw [splitN, List.append_nil] at this; exact this
      go_wp2_with fail
      go_ret
      exact ⟨_, Ps, rfl, HF.out, HP.out.2.1, HP.out.2.2⟩
    · obtain ⟨u, HU⟩ : ∃ u, Hid (upN rn k = u) := ⟨_, rfl⟩
      have HUU : Hid (1 ≤ u ∧ u + (k - 1) ≤ rn) := by rw [← HU.out]; exact upN_one (by omega) HR.out.2.2.2.1
      have C1 : Hid (∀ W, Calls Try.prog 24 #[.int .i64 (rn : Int), .int .i64 (k : Int)] W fun e w' => e = .returned (.int .i64 (u : Int)) ∧ w' = W) := fun W => by rw [← HU.out]; exact rup_any rn k W (by omega) (by have := HR.out; have := HN.out; omega) (by have := HR.out; have := HN.out; omega)
      have hkz : (0 : Int) < (k : Int) := by omega
      have HK : Hid (0 < k ∧ k ≤ rn ∧ k ≤ gk) := ⟨by omega, HR.out.2.2.2.1, hgk⟩
      have HTK : Hid (EntsV w1 ro u (rest.take u)) := HR.out.1.take u (by have := HUU.out; omega)
      have hurn : (u : Int) ≤ (rn : Int) := by have := HUU.out; omega
      have hurc : (u : Int) ≤ (rc : Int) := by have := HR.out; omega
      have hrnc : (rn : Int) ≤ (rc : Int) := by have := HR.out; omega
      clear hk hgk
      go_wp2_with fail
      refine (C1.out _).mono ?_
      rintro e w2 ⟨rfl, rfl⟩
      go_wp2_with fail
      obtain ⟨b, off, hro, hEn⟩ := HTK.out.2 HUU.out.1
      subst hro
      have HCL : Hid (rest.length = rn ∧ (rest.take u).length = u) := ⟨HR.out.1.1, HTK.out.1⟩
      refine (clone_any b off u rc (rest.take u) w2 HTK.out.1 (hEn.below HP.out.2.2 (Nat.le_refl _)) (by have := HUU.out; have := HR.out; have := HN.out; omega) HUU.out.1).mono ?_
      rintro e w3 ⟨g3, cap3, rfl, hg3, hown3, hb3⟩
      have HO3 : Hid (w3.ownsRow w2.heap.size 29 4 (.slice (some ⟨g3, 0, none⟩) u cap3) (rest.take u).length (flatE (rest.take u)) ∧ Below w2.heap.size w2 w3) := ⟨by rw [HCL.out.2]; exact hown3, hb3⟩
      clear hEn hg3 hown3 hb3
      have HPL : Hid (Ps.length < 1000000) := by
        have h1 := congrArg List.length HP.out.1
        rw [List.length_append, List.length_map, splitN_len, splitL, splitN_len] at h1
        have := upN_le64 es.length
        have := HN.out
        show _ < _; omega
      have HO4 : Hid ((w3.alloc (.cells #[.slice (some ⟨g3, 0, none⟩) u cap3] 25)).ownsRow w2.heap.size 29 4 (.slice (some ⟨g3, 0, none⟩) u cap3) (rest.take u).length (flatE (rest.take u)) ∧ Below w2.heap.size w2 (w3.alloc (.cells #[.slice (some ⟨g3, 0, none⟩) u cap3] 25))) := ⟨own_below HO3.out.1 (bel_alloc _ _) (Nat.le_refl _), HO3.out.2.alloc HO3.out.2.size _⟩
      have HRW : Hid ((w3.alloc (.cells #[.slice (some ⟨g3, 0, none⟩) u cap3] 25)).ownsRow w1.heap.size 25 1 u3 Ps.length (Ps.map PV.v)) := (HP.out.2.1.below HO4.out.2 (Nat.le_refl _)).row
      have HSZ : Hid (w1.heap.size ≤ w2.heap.size ∧ w1.heap.size ≤ (w3.alloc (.cells #[.slice (some ⟨g3, 0, none⟩) u cap3] 25)).heap.size) := ⟨HP.out.2.2.size, Nat.le_trans HP.out.2.2.size HO4.out.2.size⟩
      obtain ⟨i0, hi, hz0, hz1, hz2⟩ := info_parts info25
      go_wp2_with (at_builtin; refine wpList_append_lies _ rfl (.tmp 17) (.tmp 22) 22 rfl w1.heap.size 25 i0 _ 1 24 Try.underlying22 hi hz0 hz1 hz2 rfl (by decide) u3 Ps.length (Ps.map PV.v) rfl HRW.out ⟨w3.heap.size, 0, none⟩ 1 1 [.slice (some ⟨g3, 0, none⟩) u cap3] rfl rfl (World.news_of_block (cs := #[.slice (some ⟨g3, 0, none⟩) u cap3]) (t := 25) (fr := (0, 0)) (by rw [heap_alloc_get, if_pos rfl])) (fun x hx => by rw [List.mem_singleton.1 hx]; rfl) (by decide) (by have := HPL.out; unfold maxLen; omega) (by have := HPL.out; omega) HSZ.out.2 _ rfl ?_)
      intro g7 cap7 w7 hr7 hg7 hl7 hlt7
      have HP7 : Hid (OwnP w7 w1.heap.size (.slice (some ⟨g7, 0, none⟩) (Ps.length + 1) cap7) (Ps ++ [⟨.slice (some ⟨g3, 0, none⟩) u cap3, rest.take u⟩]) ∧ Below w1.heap.size w1 w7) := ⟨HP.out.2.1.snoc HO4.out.2 HO4.out.1 HSZ.out.1 hr7 hg7, (HP.out.2.2.trans (HO4.out.2.mono HSZ.out.1)).trans ((Below.refl _ _).grown hg7 HSZ.out.2 (fun k hk => (HRW.out.lt k hk).1))⟩
      clear hr7 hg7 hl7 hlt7 HRW
      have HNX : Hid ((rc = u → EntsV w1 (some ⟨b, off, none⟩) (rn - u) (rest.drop u)) ∧ (¬ rc = u → EntsV w1 (some ⟨b, off + u * 4, none⟩) (rn - u) (rest.drop u))) := by
        have h1 := HR.out.1.from u (by have := HUU.out; omega) HR.out.2.1
        refine ⟨fun e => by rw [if_pos e] at h1; exact h1, fun e => ?_⟩
        rw [if_neg e, Option.map_some, Addr.add_lit] at h1
        exact h1
      have HSP : Hid (splitN k rest = rest.take u :: splitN (k - 1) (rest.drop u)) := by
        obtain ⟨k', rfl⟩ : ∃ k', k = k' + 1 := ⟨k - 1, by have := HK.out; omega⟩
        show _ = _
        rw [splitN, HCL.out.1, HU.out]; rfl
      have hk1 : (1 : Int) ≤ (k : Int) := by omega
      have hkb : (k : Int) ≤ 1000000 := by have := HR.out; have := HN.out; have := HK.out; omega
      go_wp2_with fail
      all_goals
        go_roundg (k - 1)
        case measure => have := HK.out; omega
        case rel =>
          have q1 := HR.out.2.1
          have q2 := HR.out.2.2
          have q3 := HUU.out
          have q4 := HK.out.1
          have hgn : Value.int IntKind.i64 ((k : Int) - 1) = Value.int IntKind.i64 ((k - 1 : Nat) : Int) := by congr 1; omega
          first
            | exact ⟨k - 1, _, rn - u, 0, rest.drop u, _, rfl, hgn, Nat.le_refl _, ⟨HNX.out.1 (by first | assumption | rfl), by omega, by omega, by omega, by omega⟩, ⟨by rw [List.map_append, List.append_assoc, ← HP.out.1, HSP.out]; rfl, HP7.out.1, HP7.out.2⟩⟩
            | exact ⟨k - 1, _, rn - u, rc - u, rest.drop u, _, rfl, hgn, Nat.le_refl _, ⟨HNX.out.2 (by assumption), by omega, by omega, by omega, by omega⟩, ⟨by rw [List.map_append, List.append_assoc, ← HP.out.1, HSP.out]; rfl, HP7.out.1, HP7.out.2⟩⟩
end Go.Proofs.Yteggjenncmjfmaa

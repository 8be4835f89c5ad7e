/-
  The walk of marlstonelaw05.TreeWide.
-/
import Derived.Test.YtaebpnednhkfhaaDoorPartP
import Derived.Test.YtaebpnednhkfhaaDoorShown
import Derived.Test.YtaebpnednhkfhaaDoorSplitsW
namespace Go.Proofs.YtaebpnednhkfhaaDoor
open Go.RowKit
def bl (l : List St) : List Value := l.map fun s => .bool (!s.r)
theorem info4 : (Tryd.prog.info? 4).map (fun i => (i.zero, i.size, i.bytes)) = some (some (.bool false), 1, 1) := by kernel_rfl
theorem bl_app (a b : List St) : bl (a ++ b) = bl a ++ bl b := by unfold bl; rw [List.map_append]
theorem bool_cell (w : World) (b : Bool) : ∀ j u, [Value.bool b][j]? = some u → (w.alloc (.cells #[.bool b] 4)).cell? ((⟨w.heap.size, 0, none⟩ : Addr).add j) = some u := by
  intro j u hu
  rw [Addr.add_lit, cell_of_row _ _ _ _ _ _ (heap_alloc_new w _)]
  simpa using hu
theorem built24 (c : UInt8) : Tryd.prog.built 24 [(0, .int .u8 (c.toNat : Int))] = some (cellsOf (c :: List.replicate 31 0)).toArray := by kernel_rfl
theorem wpList_buildV {ops : Array Oper} {rest : List Oper} {o : Oper} {a : Act} {w : World} {Q : Exit → Act → World → Prop} (hg : o.guard = none) (t : TypeId) (parts : Array (Nat × Operand)) (ho : o.op = .build t parts) (cells : Array Value) (vs : List (Nat × Value)) (hb : Tryd.prog.built t vs = some cells) (hv : (parts.toList.map fun (y : Nat × Operand) => (y.1, a.eval y.2)) = vs)
    (h : wpList Tryd.prog ops Q rest (a.put o.dst (.agg cells)) w) : wpList Tryd.prog ops Q (o :: rest) a w :=
  wpList_plain hg fun _ hK => by
    subst hv
    rw [← Array.toList_map] at hb
    unfold Oper.wp execOp
    simp only [ho, Sem.run_bind, run_build w t _ cells hb, Result.andThen_ok, Sem.run_pure]
    exact hK _ _ h
theorem inc8 (c : UInt8) : IntKind.u8.wrap ((c.toNat : Int) + 1) = (((c + 1).toNat : Nat) : Int) := by
  have h := c.toNat_lt
  show ((c.toNat : Int) + 1) % 256 = _
  rw [UInt8.toNat_add]
  show ((c.toNat : Int) + 1) % 256 = (((c.toNat + 1) % 256 : Nat) : Int)
  omega
set_option maxRecDepth 100000 in
set_option maxHeartbeats 20000000 in
theorem wide_walk (N i : Nat) (la : Option Addr) (ln lc : Nat) (lb : List UInt8) (pa : Option Addr) (bn bc : Nat) (ds : List (List UInt8)) (w : World) (hi0 : i < N) (hN : N ≤ 9223372036854775807)
    (hK : WW w 0 ks) (h0 : 0 < w.heap.size) (hB : Bytes w la ln lb) (hl0 : la = none → lc = 0) (hlc : ln ≤ lc) (hPt : PathV w pa ds) (hpl : ds.length = bn) :
    Calls Tryd.prog 10 #[.int .i64 (N : Int), .int .i64 (i : Int), .slice la ln lc, .slice pa bn bc] w fun e w' => e = .returned (.bool true) ∧ Below w.heap.size w w' := by
  obtain ⟨j0, hj, hz0, hz1, hz2⟩ := info_parts info4
  have HKW : Hid (∀ W, Below w.heap.size w W → WW W 0 ks ∧ 0 < W.heap.size) := fun W hW => ⟨hK.below hW h0, Nat.lt_of_lt_of_le h0 hW.size⟩
  have HSH : Hid (∀ W, Below w.heap.size w W → Calls Tryd.prog 20 #[] W fun e w' => e = .returned (.bool true) ∧ Below W.heap.size W w') := fun W hW => shown_any W (hK.below hW h0) (Nat.lt_of_lt_of_le h0 hW.size)
  have HLT : Hid (i < N ∧ N ≤ 9223372036854775807) := ⟨hi0, hN⟩
  obtain ⟨k, HKD⟩ : ∃ m : Nat, Hid (min ln 200 = m) := ⟨_, rfl⟩
  have hk : min (ln : Int) 200 = (k : Int) := by have := HKD.out; omega
  have hkc : (k : Int) ≤ (lc : Int) := by have := HKD.out; omega
  obtain ⟨B, HBD⟩ : ∃ P, Hid (lb.take k = P) := ⟨_, rfl⟩
  have HBY : Hid (∀ W, Below w.heap.size w W → Bytes W la k B) := fun W hW => by rw [← HBD.out]; exact bytes_take (bytes_kept hB hW (Nat.le_refl _)) k (by have := HKD.out; omega)
  have HPT : Hid (∀ W, Below w.heap.size w W → PathV W pa ds) := fun W hW => hPt.below hW (Nat.le_refl _)
  have HFX : Hid ((la = none → lc = 0) ∧ k ≤ 200 ∧ ds.length = bn) := ⟨hl0, by have := HKD.out; omega, hpl⟩
  obtain ⟨u0, HU0⟩ : ∃ d, Hid (leafD 256 B = d) := ⟨_, rfl⟩
  have HU0L : Hid (u0.length = 32) := by show _ = _; rw [← HU0.out]; exact leafD_length _ _
  have HLF : Hid (∀ W, Below w.heap.size w W → Calls Tryd.prog 31 #[.slice la k lc] W fun e w' => e = .returned (.agg (cellsOf u0).toArray) ∧ Below W.heap.size W w') := fun W hW => by
    have h := leafN_any la k lc B W (HBY.out W hW) HFX.out.1 (by have := HFX.out; omega) (HKW.out W hW).1 (HKW.out W hW).2
    rw [HU0.out] at h; exact h
  have hN1 : ¬ (N : Int) < 1 := by omega
  have hN1d : decide ((N : Int) < 1) = false := decide_eq_false hN1
  have hi1 : ¬ (i : Int) < 0 := by omega
  have hi1d : decide ((i : Int) < 0) = false := decide_eq_false hi1
  have hN1n : decide (N < 1) = false := decide_eq_false (by omega)
  have hi2 : ¬ (N : Int) ≤ (i : Int) := by omega
  have hi2d : decide ((N : Int) ≤ (i : Int)) = false := decide_eq_false hi2
  have hi2n : decide (N ≤ i) = false := decide_eq_false (by omega)
  clear hi0 hN hK h0 hB hl0 hlc hPt hpl
  go_enter Tryd.func10, Tryd.ntmps10
  go_wp2_with fail
  refine (HSH.out _ (Below.refl _ _)).mono ?_
  rintro e w1 ⟨rfl, hb1⟩
  have HB1 : Hid (Below w.heap.size w w1) := hb1
  clear hb1 HSH
  go_wp2_with fail
  clear hN1 hN1d hN1n hi1 hi1d hi2 hi2d hi2n hk hkc
  go_loopw [10, 11, 12, 13] (fun s10 s11 s12 _ wr => ∃ (a b : Nat) (l : List St), s11 = .int .i64 ((b - a : Nat) : Int) ∧ s12 = .int .i64 ((i - a : Nat) : Int) ∧ Hid (a ≤ i ∧ i < b ∧ b ≤ N) ∧ Hid (l ++ dnL a b i = dnL 0 N i) ∧ Hid (wr.ownsRow w1.heap.size 4 1 s10 l.length (bl l)) ∧ Hid (Below w1.heap.size w1 wr)) (fun _ x _ _ _ => (intOf x).toNat)
  case atStart => exact ⟨0, N, [], rfl, rfl, ⟨Nat.zero_le _, HLT.out.1, Nat.le_refl _⟩, rfl, World.ownsRow_nil _ _ _ _, Below.refl _ _⟩
  case round =>
    obtain ⟨a, b, l, rfl, rfl, HAB, HDN, HOW, HBE⟩ := hrel
    by_cases h2 : 2 ≤ b - a
    case pos =>
      have hgt : (1 : Int) < ((b - a : Nat) : Int) := by omega
      obtain ⟨n, HN⟩ : ∃ x : Nat, Hid (b - a = x) := ⟨_, rfl⟩
      have HN2 : Hid (2 ≤ n ∧ n ≤ 9223372036854775807) := by have := HN.out; have := HAB.out; have := HLT.out; show _ ∧ _; omega
      simp only [HN.out] at hgt ⊢
      clear h2
      go_wp2_with fail
      clear hgt
      obtain ⟨wo, hwo⟩ : ∃ W, W = wr := ⟨_, rfl⟩
      subst hwo
      go_loopw [13] (fun s13 wq => ∃ j : Nat, s13 = .int .i64 ((2 ^ j : Nat) : Int) ∧ 2 ^ j < n ∧ Hid (wq = wo)) (fun x _ => n - (intOf x).toNat)
      case atStart => exact ⟨0, rfl, by have := HN2.out; simp; omega, rfl⟩
      case round =>
        obtain ⟨j, rfl, hjn, HWQ⟩ := hrel
        obtain ⟨k2, HK2⟩ : ∃ k : Nat, Hid (2 ^ j = k) := ⟨_, rfl⟩
        have HK1 : Hid (1 ≤ 2 ^ j) := Nat.one_le_two_pow
        rw [HK2.out] at hjn HK1 ⊢
        obtain ⟨nk, HNK⟩ : ∃ x : Nat, Hid (n - k2 = x) := ⟨_, rfl⟩
        have hsub : wrap64 ((n : Int) - (k2 : Int)) = (nk : Int) := by rw [← HNK.out]; exact wsub (Nat.le_of_lt hjn) HN2.out.2
        by_cases hlt : k2 < nk
        case pos =>
          have hltz : (k2 : Int) < (nk : Int) := by omega
          obtain ⟨k3, HK3⟩ : ∃ q : Nat, Hid (2 * k2 = q) := ⟨_, rfl⟩
          have hdbl : wrap64 ((k2 : Int) * 2) = (k3 : Int) := by have h1 := HK3.out; have h2 := HNK.out; have h3 := HN2.out; unfold wrap64; omega
          have HK4 : Hid (2 ^ (j + 1) = k3 ∧ k3 < n ∧ k2 < k3) := by have h0 := HK1.out; have h1 := HK3.out; have h2 := HNK.out; refine ⟨?_, ?_, ?_⟩; rw [Nat.pow_succ, HK2.out]; omega; omega; omega
          clear hlt hjn
          go_wp2_with fail
          refine ⟨⟨j + 1, ?_, by rw [HK4.out.1]; exact HK4.out.2.1, HWQ⟩, ?_⟩
          · rw [HK4.out.1, hdbl]
          · have := HK4.out; rw [hdbl]; simp [intOf]; omega
        case neg =>
          have hltz : ¬ (k2 : Int) < (nk : Int) := by omega
          have HHF : Hid (halfN n = k2) := by show _ = _; rw [← HK2.out]; exact half_is (by rw [HK2.out]; exact hjn) (by rw [HK2.out]; have := HNK.out; omega) HN2.out.2
          clear hlt
          obtain ⟨m, HM⟩ : ∃ m : Nat, Hid (a + k2 = m) := ⟨_, rfl⟩
          have HMM : Hid (a < m ∧ m < b) := by have h0 := HK1.out; have := HM.out; have := HN.out; show _ ∧ _; omega
          have HD2 : Hid _ := dnL_two (a := a) (b := b) i (by have := HN.out; have := HN2.out; omega) (by have := HAB.out; have := HLT.out; omega)
          rw [HN.out, HHF.out, HM.out] at HD2
          obtain ⟨v, HV⟩ : ∃ v : Bool, Hid (decide (i < m) = v) := ⟨_, rfl⟩
          obtain ⟨st, HST⟩ : ∃ s : St, Hid (s = if i < m then ⟨m, b, false⟩ else ⟨a, m, true⟩) := ⟨_, rfl⟩
          have HSR : Hid ((!st.r) = v) := by
            show _ = _
            rw [HST.out, ← HV.out]
            by_cases h : i < m
            · rw [if_pos h, decide_eq_true h]; rfl
            · rw [if_neg h, decide_eq_false h]; rfl
          have HL64 : Hid (l.length ≤ 64) := by
            have h := congrArg List.length HDN.out
            rw [List.length_append] at h
            have := dnL_len 0 N i
            show _ ≤ _
            omega
          have hwq := HWQ.out
          subst hwq
          have hvz : decide (((i - a : Nat) : Int) < (k2 : Int)) = v := by
            rw [← HV.out]; exact decide_eq_decide.2 (by have := HM.out; have := HAB.out; omega)
          have hvn : decide (i - a < k2) = v := by
            rw [← HV.out]; exact decide_eq_decide.2 (by have := HM.out; have := HAB.out; omega)
          have HOA : Hid ((wr.alloc (.cells #[.bool v] 4)).ownsRow w1.heap.size 4 1 u10 l.length (bl l)) := HOW.out.alloc _
          have HCA : Hid (∀ j u, [Value.bool v][j]? = some u → (wr.alloc (.cells #[.bool v] 4)).cell? ((⟨wr.heap.size, 0, none⟩ : Addr).add j) = some u) := bool_cell wr v
          have HBA : Hid (w1.heap.size ≤ (wr.alloc (.cells #[.bool v] 4)).heap.size) := by show _ ≤ _; have := HBE.out.size; simp; omega
          go_upto_region 12 with fail
          clear hltz hsub
          go_upto_region 13 with (at_builtin; refine wpList_append_own _ rfl (.tmp 56) (.tmp 60) 58 rfl w1.heap.size 4 j0 _ 1 1 Tryd.underlying58 hj hz0 hz1 hz2 rfl (by decide) _ l.length (bl l) rfl HOA.out ⟨wr.heap.size, 0, none⟩ 1 1 [.bool v] rfl rfl HCA.out (fun u hu => by rw [List.mem_singleton.1 hu]; rfl) (by have := HL64.out; unfold maxLen; omega) (by have := HL64.out; omega) HBA.out ?_; intro v6 w6 hown6 hgr6 _)
          have HO6 : Hid (w6.ownsRow w1.heap.size 4 1 v6 (l ++ [st]).length (bl (l ++ [st]))) := by
            show World.ownsRow _ _ _ _ _ _ _
            rw [bl_app, List.length_append, show bl [st] = [Value.bool v] from by unfold bl; rw [List.map_cons, HSR.out]; rfl]
            exact hown6
          have HB6 : Hid (Below w1.heap.size w1 w6) := (HBE.out.alloc HBE.out.size _).trans ((Below.refl _ _).grown hgr6 HBA.out (fun k hk => (HOA.out.lt k hk).1))
          clear hown6 hgr6 hvz hvn
          by_cases him : i < m
          case pos =>
            have himz : ((i - a : Nat) : Int) < (k2 : Int) := by have := HM.out; have := HAB.out; omega
            have himn : i - a < k2 := by have := HM.out; have := HAB.out; omega
            have himd : decide (i - a < k2) = true := decide_eq_true himn
            have HDN2 : Hid ((l ++ [st]) ++ dnL a m i = dnL 0 N i) := by
              have h := HDN.out
              rw [HD2.out, if_pos him] at h
              show _ = _
              rw [List.append_assoc, HST.out, if_pos him]
              exact h
            go_wp2_with fail
            refine ⟨⟨a, m, l ++ [st], ?_, rfl, ⟨by have := HAB.out; omega, him, by have := HAB.out; have := HMM.out; omega⟩, HDN2, HO6, HB6⟩, ?_⟩
            · rw [show m - a = k2 from by have := HM.out; omega]
            · have := HM.out; have := HN.out; have := HMM.out; simp [intOf]; omega
          case neg =>
            have himz : ¬ ((i - a : Nat) : Int) < (k2 : Int) := by have := HM.out; have := HAB.out; omega
            have himn : ¬ i - a < k2 := by have := HM.out; have := HAB.out; omega
            have himd : decide (i - a < k2) = false := decide_eq_false himn
            have HAB2 : Hid (m ≤ i ∧ i < b ∧ b ≤ N) := by have := HAB.out; show _ ∧ _ ∧ _; omega
            have hs1 : wrap64 (((i - a : Nat) : Int) - (k2 : Int)) = ((i - m : Nat) : Int) := by rw [wsub (by have := HM.out; have := HAB.out; omega) (by have := HAB.out; have := HLT.out; omega), show i - a - k2 = i - m from by have := HM.out; omega]
            have hs2 : wrap64 ((n : Int) - (k2 : Int)) = ((b - m : Nat) : Int) := by clear hs1; rw [wsub (by have := HM.out; have := HMM.out; have := HN.out; omega) HN2.out.2, show n - k2 = b - m from by have := HM.out; have := HN.out; omega]
            have HDN2 : Hid ((l ++ [st]) ++ dnL m b i = dnL 0 N i) := by
              have h := HDN.out
              rw [HD2.out, if_neg him] at h
              show _ = _
              rw [List.append_assoc, HST.out, if_neg him]
              exact h
            go_wp2_with fail
            refine ⟨⟨m, b, l ++ [st], by first | rfl | rw [hs2], by first | rfl | rw [hs1], HAB2, HDN2, HO6, HB6⟩, ?_⟩
            (try rw [hs2])
            clear hs1 hs2 himz himn himd
            have := HM.out; have := HN.out; have := HMM.out; simp [intOf]; omega
    case neg =>
      have hgt : ¬ (1 : Int) < ((b - a : Nat) : Int) := by omega
      have HLL : Hid (l = dnL 0 N i) := by have h := HDN.out; rw [dnL_one i (by omega), List.append_nil] at h; exact h
      obtain ⟨L, HL⟩ : ∃ L : Nat, Hid (l.length = L) := ⟨_, rfl⟩
      have HL64 : Hid (L ≤ 64) := by show _ ≤ _; rw [← HL.out, HLL.out]; exact dnL_len _ _ _
      have HBX : Hid (Below w.heap.size w wr) := HB1.out.trans (HBE.out.mono HB1.out.size)
      clear h2
      go_wp2_with fail
      clear hgt
      refine (HLF.out _ HBX.out).mono ?_
      rintro e wX ⟨rfl, hbX⟩
      have HBXX : Hid (Below w.heap.size w wX) := HBX.out.trans (hbX.mono HBX.out.size)
      have HOX : Hid (wX.ownsRow w1.heap.size 4 1 u10 L (bl l)) := by have h := own_below HOW.out hbX (Nat.le_refl _); rw [HL.out] at h; exact h
      clear hbX
      have HNX : Hid ((wX.alloc (.cells #[Value.int IntKind.u8 0, Value.int IntKind.u8 0, Value.int IntKind.u8 0, Value.int IntKind.u8 0, Value.int IntKind.u8 0, Value.int IntKind.u8 0, Value.int IntKind.u8 0, Value.int IntKind.u8 0, Value.int IntKind.u8 0, Value.int IntKind.u8 0, Value.int IntKind.u8 0, Value.int IntKind.u8 0, Value.int IntKind.u8 0, Value.int IntKind.u8 0, Value.int IntKind.u8 0, Value.int IntKind.u8 0, Value.int IntKind.u8 0, Value.int IntKind.u8 0, Value.int IntKind.u8 0, Value.int IntKind.u8 0, Value.int IntKind.u8 0, Value.int IntKind.u8 0, Value.int IntKind.u8 0, Value.int IntKind.u8 0, Value.int IntKind.u8 0, Value.int IntKind.u8 0, Value.int IntKind.u8 0, Value.int IntKind.u8 0, Value.int IntKind.u8 0, Value.int IntKind.u8 0, Value.int IntKind.u8 0, Value.int IntKind.u8 0] 24)).heap[wX.heap.size]? = some (.cells #[Value.int IntKind.u8 0, Value.int IntKind.u8 0, Value.int IntKind.u8 0, Value.int IntKind.u8 0, Value.int IntKind.u8 0, Value.int IntKind.u8 0, Value.int IntKind.u8 0, Value.int IntKind.u8 0, Value.int IntKind.u8 0, Value.int IntKind.u8 0, Value.int IntKind.u8 0, Value.int IntKind.u8 0, Value.int IntKind.u8 0, Value.int IntKind.u8 0, Value.int IntKind.u8 0, Value.int IntKind.u8 0, Value.int IntKind.u8 0, Value.int IntKind.u8 0, Value.int IntKind.u8 0, Value.int IntKind.u8 0, Value.int IntKind.u8 0, Value.int IntKind.u8 0, Value.int IntKind.u8 0, Value.int IntKind.u8 0, Value.int IntKind.u8 0, Value.int IntKind.u8 0, Value.int IntKind.u8 0, Value.int IntKind.u8 0, Value.int IntKind.u8 0, Value.int IntKind.u8 0, Value.int IntKind.u8 0, Value.int IntKind.u8 0] 24 (0, 0))) := heap_alloc_new wX _
      obtain ⟨g, HG⟩ : ∃ g : Nat, Hid (wX.heap.size = g) := ⟨_, rfl⟩
      have HIU0 : Hid ((Tryd.prog.info? 24).map (·.size) = some (cellsOf u0).toArray.size) := by show _ = _; rw [size24, dig_size HU0L.out]
      go_upto_region 19 with (refine wpList_store_row rfl 24 (.tmp 15) (.tmp 73) rfl wX.heap.size (cellsOf u0).toArray rfl rfl 24 _ HNX.out HIU0.out (by rw [dig_size HU0L.out]; rfl) (cells_all _) ?_)
      have HRY0 := setRow_heap _ _ _ (cellsOf u0).toArray _ _ HNX.out
      have HBY0 : Below wX.heap.size wX ((wX.alloc (.cells #[Value.int IntKind.u8 0, Value.int IntKind.u8 0, Value.int IntKind.u8 0, Value.int IntKind.u8 0, Value.int IntKind.u8 0, Value.int IntKind.u8 0, Value.int IntKind.u8 0, Value.int IntKind.u8 0, Value.int IntKind.u8 0, Value.int IntKind.u8 0, Value.int IntKind.u8 0, Value.int IntKind.u8 0, Value.int IntKind.u8 0, Value.int IntKind.u8 0, Value.int IntKind.u8 0, Value.int IntKind.u8 0, Value.int IntKind.u8 0, Value.int IntKind.u8 0, Value.int IntKind.u8 0, Value.int IntKind.u8 0, Value.int IntKind.u8 0, Value.int IntKind.u8 0, Value.int IntKind.u8 0, Value.int IntKind.u8 0, Value.int IntKind.u8 0, Value.int IntKind.u8 0, Value.int IntKind.u8 0, Value.int IntKind.u8 0, Value.int IntKind.u8 0, Value.int IntKind.u8 0, Value.int IntKind.u8 0, Value.int IntKind.u8 0] 24)).setRow wX.heap.size (cellsOf u0).toArray) := below_row (bel_alloc wX _) (Nat.le_refl _) _
      obtain ⟨wY, HWY⟩ : ∃ W, Hid ((wX.alloc (.cells #[Value.int IntKind.u8 0, Value.int IntKind.u8 0, Value.int IntKind.u8 0, Value.int IntKind.u8 0, Value.int IntKind.u8 0, Value.int IntKind.u8 0, Value.int IntKind.u8 0, Value.int IntKind.u8 0, Value.int IntKind.u8 0, Value.int IntKind.u8 0, Value.int IntKind.u8 0, Value.int IntKind.u8 0, Value.int IntKind.u8 0, Value.int IntKind.u8 0, Value.int IntKind.u8 0, Value.int IntKind.u8 0, Value.int IntKind.u8 0, Value.int IntKind.u8 0, Value.int IntKind.u8 0, Value.int IntKind.u8 0, Value.int IntKind.u8 0, Value.int IntKind.u8 0, Value.int IntKind.u8 0, Value.int IntKind.u8 0, Value.int IntKind.u8 0, Value.int IntKind.u8 0, Value.int IntKind.u8 0, Value.int IntKind.u8 0, Value.int IntKind.u8 0, Value.int IntKind.u8 0, Value.int IntKind.u8 0, Value.int IntKind.u8 0] 24)).setRow wX.heap.size (cellsOf u0).toArray = W) := ⟨_, rfl⟩
      rw [HWY.out] at HRY0 HBY0 ⊢
      simp only [HG.out] at HRY0 HBY0 ⊢
      have HRY : Hid (wY.heap[g]? = some (.cells (cellsOf u0).toArray 24 (0, 0))) := HRY0
      have HBY1 : Hid (Below g wX wY) := HBY0
      clear HRY0 HBY0 HWY HNX
      have HU10 : Hid (∃ lao lcap, u10 = .slice lao L lcap ∧ (0 < L → ∃ gl, lao = some ⟨gl, 0, none⟩)) := by
        rcases HOX.out.2 with ⟨h1, h2⟩ | ⟨gl, cap, cur, h1, -⟩
        · exact ⟨none, 0, by rw [h1, h2], fun h => absurd h (by omega)⟩
        · exact ⟨_, cap, h1, fun _ => ⟨gl, rfl⟩⟩
      obtain ⟨lao, lcap, hu10, hla⟩ := HU10.out
      have HLA : Hid (0 < L → ∃ gl, lao = some ⟨gl, 0, none⟩) := hla
      subst hu10
      clear hla HU10
      have hsub1 : wrap64 ((L : Int) - 1) = (L : Int) - 1 := by have := HL64.out; unfold wrap64; omega
      have HNO : Hid (∀ W p q, Below g wX W → p.length = 32 → q.length = 32 → Calls Tryd.prog 28 #[.agg (cellsOf p).toArray, .agg (cellsOf q).toArray] W fun e w' => e = .returned (dv (nodeD 256 p q)) ∧ Below W.heap.size W w') := fun W p q hW h1 h2 => by
        have hW2 : Below w.heap.size w W := HBXX.out.trans (hW.mono (by rw [← HG.out]; exact HBXX.out.size))
        exact nodeN_any p q W h1 h2 (HKW.out W hW2).1 (HKW.out W hW2).2
      have HBG : Hid (∀ W, Below g wX W → Below w.heap.size w W) := fun W hW => HBXX.out.trans (hW.mono (by rw [← HG.out]; exact HBXX.out.size))
      have HGZ : Hid (∀ W, Below g wX W → g ≤ W.heap.size) := fun W hW => by rw [← HG.out]; exact hW.size
      go_wp2_with fail
      (try simp only [hsub1])
      clear hsub1
      go_loopw [14, 16, 17] (fun s14 s16 _ wr => ∃ (r : Nat) (P : List (List UInt8)) (u : List UInt8), s16 = .int .i64 ((r : Int) - 1) ∧ r ≤ L ∧ Hid (P.length + r = L) ∧ Hid (climbD 256 u0 ((upL N i).take P.length) P = u ∧ u.length = 32) ∧ Hid (wr.heap[g]? = some (.cells (cellsOf u).toArray 24 (0, 0))) ∧ Hid (DgO wr (g + 1) s14 P) ∧ Hid (Below g wX wr)) (fun _ x _ _ => (intOf x + 1).toNat)
      case atStart => exact ⟨L, [], u0, rfl, Nat.le_refl _, by show _ = _; simp, ⟨by unfold climbD; simp, HU0L.out⟩, HRY, dgo_nil _ _, HBY1⟩
      case round =>
        obtain ⟨r, P, u, rfl, hrL, HLEN, HCUL, HUR, HPO, HBR⟩ := hrel
        have HCU : Hid (climbD 256 u0 ((upL N i).take P.length) P = u) := HCUL.out.1
        have HUL : Hid (u.length = 32) := HCUL.out.2
        have HIU : Hid ((Tryd.prog.info? 24).map (·.size) = some (cellsOf u).toArray.size) := by show _ = _; rw [size24, dig_size HUL.out]
        obtain ⟨ao14, c14, hu14, hc14, hc15, hpv14⟩ := HPO.out.path
        cases r with
        | zero =>
          have hge : ¬ (0 : Int) ≤ ((0 : Nat) : Int) - 1 := by omega
          subst hu14
          have HPV : Hid (∀ W, Below wr.heap.size wr W → PathV W ao14 P) := fun W hW => hpv14.below hW (Nat.le_refl _)
          have HC14 : Hid (P.length ≤ c14 ∧ c14 ≤ 9223372036854775807) := ⟨hc14, hc15⟩
          obtain ⟨c0, t0, HCT⟩ : ∃ c t, Hid (u = c :: t) := by
            cases hu : u with
            | nil => have h := HUL.out; rw [hu] at h; cases h
            | cons c t => exact ⟨c, t, rfl⟩
          obtain ⟨u2, HU2⟩ : ∃ x, Hid ((c0 + 1) :: t0 = x) := ⟨_, rfl⟩
          have HU2L : Hid (u2.length = 32) := by show _ = _; have h := HUL.out; rw [← HU2.out]; rw [HCT.out] at h; simpa using h
          have HNE : Hid (u ≠ u2) := by
            intro h
            rw [HCT.out, ← HU2.out] at h
            have h2 := (List.cons.inj h).1
            have h3 := congrArg UInt8.toNat h2
            rw [UInt8.toNat_add] at h3
            have h4 := c0.toNat_lt
            have h5 : (1 : UInt8).toNat = 1 := rfl
            rw [h5] at h3
            omega
          have HPL : Hid (P.length = (upL N i).length) := by
            have h := HLEN.out; have h2 := HL.out
            show _ = _
            unfold upL; rw [List.length_reverse, ← HLL.out]; omega
          have HCT1 : Hid (ckB 256 u N (i : Int) B P = true) := by
            show _ = _
            unfold ckB
            have h := HCU.out
            rw [HPL.out, List.take_length] at h
            rw [Int.toNat_natCast, Int.toNat_natCast, decide_eq_true ⟨by omega, by have := HLT.out; omega, HPL.out⟩, HU0.out, h, beq_self_eq_true]; rfl
          have HCT2 : Hid (ckB 256 u2 N (i : Int) B P = false) := by
            show _ = _
            unfold ckB
            have h := HCU.out
            rw [HPL.out, List.take_length] at h
            rw [Int.toNat_natCast, Int.toNat_natCast, HU0.out, h, beq_eq_false_iff_ne.2 HNE.out, Bool.and_false]
          obtain ⟨q, HQ⟩ : ∃ q : Nat, Hid (P.length = q) := ⟨_, rfl⟩
          simp only [HQ.out]
          have HC1 : Hid (∀ W, Below wr.heap.size wr W → Calls Tryd.prog 41 #[.agg (cellsOf u).toArray, .int .i64 (N : Int), .int .i64 (i : Int), .slice la k lc, .slice ao14 q c14] W fun e w' => e = .returned (.bool true) ∧ Below W.heap.size W w') := fun W hW => by
            have hW2 := HBG.out W (HBR.out.trans (hW.mono (HGZ.out _ HBR.out)))
            have h := checkN_any u N (i : Int) la k lc B ao14 q c14 P W HUL.out (by have := HLT.out; omega) HQ.out (by have := HC14.out; have := HQ.out; omega) HC14.out.2 (HPV.out W hW) (HBY.out W hW2) HFX.out.1 (by have := HFX.out; omega) (HKW.out W hW2).1 (HKW.out W hW2).2
            rw [HCT1.out] at h; exact h
          have HC2 : Hid (∀ W, Below wr.heap.size wr W → Calls Tryd.prog 41 #[.agg (cellsOf u2).toArray, .int .i64 (N : Int), .int .i64 (i : Int), .slice la k lc, .slice ao14 q c14] W fun e w' => e = .returned (.bool false) ∧ Below W.heap.size W w') := fun W hW => by
            have hW2 := HBG.out W (HBR.out.trans (hW.mono (HGZ.out _ HBR.out)))
            have h := checkN_any u2 N (i : Int) la k lc B ao14 q c14 P W HU2L.out (by have := HLT.out; omega) HQ.out (by have := HC14.out; have := HQ.out; omega) HC14.out.2 (HPV.out W hW) (HBY.out W hW2) HFX.out.1 (by have := HFX.out; omega) (HKW.out W hW2).1 (HKW.out W hW2).2
            rw [HCT2.out] at h; exact h
          clear hc14 hc15 hpv14 HCUL
          have HNN : Hid ((wr.alloc (.cells #[Value.int IntKind.u8 0, Value.int IntKind.u8 0, Value.int IntKind.u8 0, Value.int IntKind.u8 0, Value.int IntKind.u8 0, Value.int IntKind.u8 0, Value.int IntKind.u8 0, Value.int IntKind.u8 0, Value.int IntKind.u8 0, Value.int IntKind.u8 0, Value.int IntKind.u8 0, Value.int IntKind.u8 0, Value.int IntKind.u8 0, Value.int IntKind.u8 0, Value.int IntKind.u8 0, Value.int IntKind.u8 0, Value.int IntKind.u8 0, Value.int IntKind.u8 0, Value.int IntKind.u8 0, Value.int IntKind.u8 0, Value.int IntKind.u8 0, Value.int IntKind.u8 0, Value.int IntKind.u8 0, Value.int IntKind.u8 0, Value.int IntKind.u8 0, Value.int IntKind.u8 0, Value.int IntKind.u8 0, Value.int IntKind.u8 0, Value.int IntKind.u8 0, Value.int IntKind.u8 0, Value.int IntKind.u8 0, Value.int IntKind.u8 0] 24)).heap[wr.heap.size]? = some (.cells #[Value.int IntKind.u8 0, Value.int IntKind.u8 0, Value.int IntKind.u8 0, Value.int IntKind.u8 0, Value.int IntKind.u8 0, Value.int IntKind.u8 0, Value.int IntKind.u8 0, Value.int IntKind.u8 0, Value.int IntKind.u8 0, Value.int IntKind.u8 0, Value.int IntKind.u8 0, Value.int IntKind.u8 0, Value.int IntKind.u8 0, Value.int IntKind.u8 0, Value.int IntKind.u8 0, Value.int IntKind.u8 0, Value.int IntKind.u8 0, Value.int IntKind.u8 0, Value.int IntKind.u8 0, Value.int IntKind.u8 0, Value.int IntKind.u8 0, Value.int IntKind.u8 0, Value.int IntKind.u8 0, Value.int IntKind.u8 0, Value.int IntKind.u8 0, Value.int IntKind.u8 0, Value.int IntKind.u8 0, Value.int IntKind.u8 0, Value.int IntKind.u8 0, Value.int IntKind.u8 0, Value.int IntKind.u8 0, Value.int IntKind.u8 0] 24 (0, 0))) := heap_alloc_new wr _
          go_upto_region 30 with (first | (refine wpList_load_row rfl 24 (.tmp 15) rfl g rfl 24 (cellsOf u).toArray (0, 0) _ HUR.out Tryd.underlying24 rfl HIU.out ?_) | (refine wpList_store_row rfl 24 (.tmp 18) (.tmp 108) rfl wr.heap.size (cellsOf u).toArray rfl rfl 24 _ HNN.out HIU.out (by rw [dig_size HUL.out]; rfl) (cells_all _) ?_))
          have HR3 := setRow_heap _ _ _ (cellsOf u).toArray _ _ HNN.out
          have HB3 : Below wr.heap.size wr ((wr.alloc (.cells #[Value.int IntKind.u8 0, Value.int IntKind.u8 0, Value.int IntKind.u8 0, Value.int IntKind.u8 0, Value.int IntKind.u8 0, Value.int IntKind.u8 0, Value.int IntKind.u8 0, Value.int IntKind.u8 0, Value.int IntKind.u8 0, Value.int IntKind.u8 0, Value.int IntKind.u8 0, Value.int IntKind.u8 0, Value.int IntKind.u8 0, Value.int IntKind.u8 0, Value.int IntKind.u8 0, Value.int IntKind.u8 0, Value.int IntKind.u8 0, Value.int IntKind.u8 0, Value.int IntKind.u8 0, Value.int IntKind.u8 0, Value.int IntKind.u8 0, Value.int IntKind.u8 0, Value.int IntKind.u8 0, Value.int IntKind.u8 0, Value.int IntKind.u8 0, Value.int IntKind.u8 0, Value.int IntKind.u8 0, Value.int IntKind.u8 0, Value.int IntKind.u8 0, Value.int IntKind.u8 0, Value.int IntKind.u8 0, Value.int IntKind.u8 0] 24)).setRow wr.heap.size (cellsOf u).toArray) := below_row (bel_alloc wr _) (Nat.le_refl _) _
          obtain ⟨w3, HW3⟩ : ∃ W, Hid ((wr.alloc (.cells #[Value.int IntKind.u8 0, Value.int IntKind.u8 0, Value.int IntKind.u8 0, Value.int IntKind.u8 0, Value.int IntKind.u8 0, Value.int IntKind.u8 0, Value.int IntKind.u8 0, Value.int IntKind.u8 0, Value.int IntKind.u8 0, Value.int IntKind.u8 0, Value.int IntKind.u8 0, Value.int IntKind.u8 0, Value.int IntKind.u8 0, Value.int IntKind.u8 0, Value.int IntKind.u8 0, Value.int IntKind.u8 0, Value.int IntKind.u8 0, Value.int IntKind.u8 0, Value.int IntKind.u8 0, Value.int IntKind.u8 0, Value.int IntKind.u8 0, Value.int IntKind.u8 0, Value.int IntKind.u8 0, Value.int IntKind.u8 0, Value.int IntKind.u8 0, Value.int IntKind.u8 0, Value.int IntKind.u8 0, Value.int IntKind.u8 0, Value.int IntKind.u8 0, Value.int IntKind.u8 0, Value.int IntKind.u8 0, Value.int IntKind.u8 0] 24)).setRow wr.heap.size (cellsOf u).toArray = W) := ⟨_, rfl⟩
          rw [HW3.out] at HR3 HB3 ⊢
          have HR3 : Hid _ := HR3
          have HB3 : Hid (Below wr.heap.size wr w3) := HB3
          clear HW3 HNN hge
          have hc3 : w3.cell? ⟨wr.heap.size, 0, none⟩ = some (.int .u8 (c0.toNat : Int)) := by rw [cell_of_row _ _ 0 _ _ _ HR3.out, HCT.out]; rfl
          have hf3 : w3.frozen? ⟨wr.heap.size, 0, none⟩ = false := frozen_of_row w3 _ 0 _ _ HR3.out
          have hinc := inc8 c0
          have hset := heap_set w3 wr.heap.size 0 _ _ (.int .u8 (((c0 + 1).toNat : Nat) : Int)) HR3.out
          have e2 : (cellsOf u).toArray.setIfInBounds 0 (.int .u8 (((c0 + 1).toNat : Nat) : Int)) = (cellsOf u2).toArray := by rw [HCT.out, ← HU2.out]; simp [cellsOf]
          rw [e2] at hset
          have HSET : Hid _ := hset
          obtain ⟨b8, HB8⟩ : ∃ b : Nat, Hid ((c0 + 1).toNat = b) := ⟨_, rfl⟩
          simp only [HB8.out] at hinc HSET
          clear hset e2
          go_upto_region 31 with fail
          obtain ⟨w4, HW4⟩ : ∃ W, Hid (w3.setCell ⟨wr.heap.size, 0, none⟩ (.int .u8 (b8 : Int)) = W) := ⟨_, rfl⟩
          have HB4 : Below wr.heap.size wr (w3.setCell ⟨wr.heap.size, 0, none⟩ (.int .u8 (b8 : Int))) := HB3.out.setCell (Nat.le_refl _) _
          rw [HW4.out] at HSET HB4 ⊢
          have HB4 : Hid (Below wr.heap.size wr w4) := HB4
          have HU4 : Hid (w4.heap[g]? = some (.cells (cellsOf u).toArray 24 (0, 0))) := (HB4.out.block _ (Array.getElem?_eq_some_iff.1 HUR.out).1).trans HUR.out
          have HIU2 : Hid ((Tryd.prog.info? 24).map (·.size) = some (cellsOf u2).toArray.size) := by show _ = _; rw [size24, dig_size HU2L.out]
          clear HW4 hc3 hf3 hinc
          go_wp2_with (refine wpList_load_rowG (by rfl) 24 (.tmp 15) rfl g rfl 24 (cellsOf u).toArray (0, 0) _ HU4.out Tryd.underlying24 rfl HIU.out ?_)
          refine (HC1.out _ HB4.out).mono ?_
          rintro e w5 ⟨rfl, hb5⟩
          have HB5 : Hid (Below wr.heap.size wr w5) := HB4.out.trans (hb5.mono HB4.out.size)
          have HU5 : Hid (w5.heap[wr.heap.size]? = some (.cells (cellsOf u2).toArray 24 (0, 0))) := (hb5.block _ (Array.getElem?_eq_some_iff.1 HSET.out).1).trans HSET.out
          clear hb5
          go_wp2_with (refine wpList_load_rowG (by rfl) 24 (.tmp 18) rfl wr.heap.size rfl 24 (cellsOf u2).toArray (0, 0) _ HU5.out Tryd.underlying24 rfl HIU2.out ?_)
          refine (HC2.out _ HB5.out).mono ?_
          rintro e w6 ⟨rfl, hb6⟩
          have HB6 : Hid (Below wr.heap.size wr w6) := HB5.out.trans (hb6.mono HB5.out.size)
          clear hb6
          go_wp2_with fail
          go_ret
          exact ⟨rfl, HBG.out _ (HBR.out.trans (HB6.out.mono (HGZ.out _ HBR.out)))⟩
        | succ r =>
          have hk1 : (((r + 1 : Nat) : Int) - 1) = (r : Int) := by omega
          simp only [hk1]
          have hge : (0 : Int) ≤ (r : Int) := by omega
          have hge2 : ¬ (r : Int) < 0 := by omega
          obtain ⟨gl, hgl⟩ := HLA.out (by omega)
          subst hgl
          obtain ⟨q, HQ⟩ : ∃ q : Nat, Hid (P.length = q) := ⟨_, rfl⟩
          rw [HQ.out] at hu14
          subst hu14
          obtain ⟨st, HST⟩ : ∃ s : St, Hid (l[r]? = some s) := ⟨_, List.getElem?_eq_getElem (by have := HL.out; omega)⟩
          have HUP : Hid ((upL N i)[P.length]? = some st) := by
            show _ = _
            have h1 := HLEN.out
            have h2 := HL.out
            unfold upL
            rw [← HLL.out, List.getElem?_reverse (by omega), show l.length - 1 - P.length = r by omega]
            exact HST.out
          have HLM : Hid (∀ W, Below g wX W → W.cell? ⟨gl, r, none⟩ = some (.bool (!st.r))) := fun W hW => by
            have h := (own_below HOX.out hW (by rw [HG.out]; exact Nat.le_refl _)).cells (g := gl) rfl r (.bool (!st.r)) (by unfold bl; rw [List.getElem?_map, HST.out]; rfl)
            rw [Addr.add_lit, Nat.zero_add] at h
            exact h
          have hrL2 : (r : Int) < (L : Int) := by omega
          have hrLn : r < L := by omega
          have hdec : wrap64 ((r : Int) - 1) = (r : Int) - 1 := by have := HL64.out; unfold wrap64; omega
          obtain ⟨c, HC⟩ : ∃ c : UInt8, Hid (UInt8.ofNat r = c) := ⟨_, rfl⟩
          have HCN : Hid (c.toNat = r) := by show _ = _; rw [← HC.out]; exact toNat_ofNat _ (by have := HL64.out; omega)
          have hcv : IntKind.u8.wrap (r : Int) = (c.toNat : Int) := by rw [HCN.out]; have := HL64.out; show (r : Int) % 256 = _; omega
          obtain ⟨x0, HX0⟩ : ∃ x : List UInt8, Hid (c :: List.replicate 31 0 = x) := ⟨_, rfl⟩
          have HX0L : Hid (x0.length = 32) := by show _ = _; rw [← HX0.out]; simp
          obtain ⟨h, HH⟩ : ∃ h : Nat, Hid (wr.heap.size = h) := ⟨_, rfl⟩
          have HGH : Hid (g < h) := by show _ < _; rw [← HH.out]; exact (Array.getElem?_eq_some_iff.1 HUR.out).1
          have HHN : Hid (∀ k, (Value.slice ao14 q c14).ownBlock = some k → k < h) := fun k hk => by rw [← HH.out]; exact (HPO.out.1.lt k hk).2
          clear hc14 hc15 hpv14 HCUL hrL
          have HBX0 : Hid (Tryd.prog.built 24 [(0, .int .u8 (c.toNat : Int))] = some (cellsOf x0).toArray) := by show _ = _; rw [← HX0.out]; exact built24 c
          have HNN : Hid ((wr.alloc (.cells #[Value.int IntKind.u8 0, Value.int IntKind.u8 0, Value.int IntKind.u8 0, Value.int IntKind.u8 0, Value.int IntKind.u8 0, Value.int IntKind.u8 0, Value.int IntKind.u8 0, Value.int IntKind.u8 0, Value.int IntKind.u8 0, Value.int IntKind.u8 0, Value.int IntKind.u8 0, Value.int IntKind.u8 0, Value.int IntKind.u8 0, Value.int IntKind.u8 0, Value.int IntKind.u8 0, Value.int IntKind.u8 0, Value.int IntKind.u8 0, Value.int IntKind.u8 0, Value.int IntKind.u8 0, Value.int IntKind.u8 0, Value.int IntKind.u8 0, Value.int IntKind.u8 0, Value.int IntKind.u8 0, Value.int IntKind.u8 0, Value.int IntKind.u8 0, Value.int IntKind.u8 0, Value.int IntKind.u8 0, Value.int IntKind.u8 0, Value.int IntKind.u8 0, Value.int IntKind.u8 0, Value.int IntKind.u8 0, Value.int IntKind.u8 0] 24)).heap[wr.heap.size]? = some (.cells #[Value.int IntKind.u8 0, Value.int IntKind.u8 0, Value.int IntKind.u8 0, Value.int IntKind.u8 0, Value.int IntKind.u8 0, Value.int IntKind.u8 0, Value.int IntKind.u8 0, Value.int IntKind.u8 0, Value.int IntKind.u8 0, Value.int IntKind.u8 0, Value.int IntKind.u8 0, Value.int IntKind.u8 0, Value.int IntKind.u8 0, Value.int IntKind.u8 0, Value.int IntKind.u8 0, Value.int IntKind.u8 0, Value.int IntKind.u8 0, Value.int IntKind.u8 0, Value.int IntKind.u8 0, Value.int IntKind.u8 0, Value.int IntKind.u8 0, Value.int IntKind.u8 0, Value.int IntKind.u8 0, Value.int IntKind.u8 0, Value.int IntKind.u8 0, Value.int IntKind.u8 0, Value.int IntKind.u8 0, Value.int IntKind.u8 0, Value.int IntKind.u8 0, Value.int IntKind.u8 0, Value.int IntKind.u8 0, Value.int IntKind.u8 0] 24 (0, 0))) := heap_alloc_new wr _
          go_upto_region 23 with (first | (refine wpList_buildV rfl 24 #[(0, .tmp 82)] rfl (cellsOf x0).toArray _ HBX0.out rfl ?_) | (refine wpList_store_row rfl 24 (.tmp 17) (.tmp 83) rfl wr.heap.size (cellsOf x0).toArray rfl rfl 24 _ HNN.out (by rw [size24, dig_size HX0L.out]) (by rw [dig_size HX0L.out]; rfl) (cells_all _) ?_))
          clear hcv hge hge2
          have HA0 := setRow_heap _ _ _ (cellsOf x0).toArray _ _ HNN.out
          have HA1 : Below wr.heap.size wr ((wr.alloc (.cells #[Value.int IntKind.u8 0, Value.int IntKind.u8 0, Value.int IntKind.u8 0, Value.int IntKind.u8 0, Value.int IntKind.u8 0, Value.int IntKind.u8 0, Value.int IntKind.u8 0, Value.int IntKind.u8 0, Value.int IntKind.u8 0, Value.int IntKind.u8 0, Value.int IntKind.u8 0, Value.int IntKind.u8 0, Value.int IntKind.u8 0, Value.int IntKind.u8 0, Value.int IntKind.u8 0, Value.int IntKind.u8 0, Value.int IntKind.u8 0, Value.int IntKind.u8 0, Value.int IntKind.u8 0, Value.int IntKind.u8 0, Value.int IntKind.u8 0, Value.int IntKind.u8 0, Value.int IntKind.u8 0, Value.int IntKind.u8 0, Value.int IntKind.u8 0, Value.int IntKind.u8 0, Value.int IntKind.u8 0, Value.int IntKind.u8 0, Value.int IntKind.u8 0, Value.int IntKind.u8 0, Value.int IntKind.u8 0, Value.int IntKind.u8 0] 24)).setRow wr.heap.size (cellsOf x0).toArray) := below_row (bel_alloc wr _) (Nat.le_refl _) _
          obtain ⟨w5, HW5⟩ : ∃ W, Hid ((wr.alloc (.cells #[Value.int IntKind.u8 0, Value.int IntKind.u8 0, Value.int IntKind.u8 0, Value.int IntKind.u8 0, Value.int IntKind.u8 0, Value.int IntKind.u8 0, Value.int IntKind.u8 0, Value.int IntKind.u8 0, Value.int IntKind.u8 0, Value.int IntKind.u8 0, Value.int IntKind.u8 0, Value.int IntKind.u8 0, Value.int IntKind.u8 0, Value.int IntKind.u8 0, Value.int IntKind.u8 0, Value.int IntKind.u8 0, Value.int IntKind.u8 0, Value.int IntKind.u8 0, Value.int IntKind.u8 0, Value.int IntKind.u8 0, Value.int IntKind.u8 0, Value.int IntKind.u8 0, Value.int IntKind.u8 0, Value.int IntKind.u8 0, Value.int IntKind.u8 0, Value.int IntKind.u8 0, Value.int IntKind.u8 0, Value.int IntKind.u8 0, Value.int IntKind.u8 0, Value.int IntKind.u8 0, Value.int IntKind.u8 0, Value.int IntKind.u8 0] 24)).setRow wr.heap.size (cellsOf x0).toArray = W) := ⟨_, rfl⟩
          rw [HW5.out] at HA0 HA1 ⊢
          rw [HH.out] at HA0
          have HA0 : Hid (w5.heap[h]? = some (.cells (cellsOf x0).toArray 24 (0, 0))) := HA0
          have HA1 : Hid (Below wr.heap.size wr w5) := HA1
          have HB5 : Hid (Below g wX w5) := HBR.out.trans (HA1.out.mono (HGZ.out _ HBR.out))
          have HU5 : Hid (w5.heap[g]? = some (.cells (cellsOf u).toArray 24 (0, 0))) := (HA1.out.block _ (Array.getElem?_eq_some_iff.1 HUR.out).1).trans HUR.out
          have HP5 : Hid (DgO w5 (g + 1) (.slice ao14 q c14) P) := HPO.out.below HA1.out (Nat.le_refl _)
          simp only [HH.out]
          clear HW5 HA1 HNN
          by_cases hqb : q < bn
          case pos =>
            have hqz : (q : Int) < (bn : Int) := by omega
            obtain ⟨xx, HXF⟩ : ∃ d, Hid (ds[q]? = some d) := ⟨_, List.getElem?_eq_getElem (by have := HFX.out; omega)⟩
            obtain ⟨pb, pf, hpa, hpr⟩ := (HPT.out _ (HBG.out _ HB5.out)).2 (by have := HFX.out; omega)
            subst hpa
            have HXL : Hid (xx.length = 32) := (HPT.out _ (HBG.out _ HB5.out)).1 xx (List.mem_of_getElem? HXF.out)
            have HPX : Hid (w5.rangeAt pb (pf + q * 32) (cellsOf xx)) := hpr q xx HXF.out
            have HIXL : Hid ((Tryd.prog.info? 24).map (·.size) = some (cellsOf xx).length) := by show _ = _; rw [size24, cellsOf_length, HXL.out]
            clear hpr
            go_upto_region 25 with (first | (refine wpList_load_mid rfl 24 (.tmp 92) rfl pb (pf + q * 32) rfl (cellsOf xx) _ HPX.out Tryd.underlying24 rfl HIXL.out ?_) | (refine wpList_store_row rfl 24 (.tmp 17) (.tmp 93) rfl h (cellsOf xx).toArray rfl rfl 24 _ HA0.out (by rw [size24, dig_size HXL.out]) (by rw [dig_size HX0L.out, dig_size HXL.out]) (cells_all _) ?_))
            have HR6 := setRow_heap _ _ _ (cellsOf xx).toArray _ _ HA0.out
            obtain ⟨wb, HWB⟩ : ∃ W, Hid (w5.setRow h (cellsOf xx).toArray = W) := ⟨_, rfl⟩
            have HBB : Hid (Below g wX wb) := by show Below _ _ _; rw [← HWB.out]; exact below_row HB5.out (Nat.le_of_lt HGH.out) _
            have Hub : Hid (wb.heap[g]? = some (.cells (cellsOf u).toArray 24 (0, 0))) := by show _ = _; rw [← HWB.out]; exact (((Chg.refl h w5).row _).block g (Array.getElem?_eq_some_iff.1 HU5.out).1 (by have := HGH.out; omega)).trans HU5.out
            have HPB : Hid (DgO wb (g + 1) (.slice ao14 q c14) P) := ⟨own_keep HP5.out.1 (fun k hk => by rw [← HWB.out]; exact ((Chg.refl h w5).row _).block k (HP5.out.1.lt k hk).2 (by have := HHN.out k hk; omega)), HP5.out.2⟩
            rw [HWB.out] at HR6 ⊢
            have Hxb : Hid (wb.heap[h]? = some (.cells (cellsOf xx).toArray 24 (0, 0))) := HR6
            clear HR6 HWB HA0 HB5 HU5 HP5 hqz HPX hqb
            have HIX : Hid ((Tryd.prog.info? 24).map (·.size) = some (cellsOf xx).toArray.size) := by show _ = _; rw [size24, dig_size HXL.out]
            have HOA : Hid (DgO (wb.alloc (.cells (cellsOf xx).toArray 24)) (g + 1) (.slice ao14 q c14) P) := ⟨(HPB.out.1).alloc _, HPB.out.2⟩
            have HCA : Hid (∀ j u, (cellsOf xx)[j]? = some u → (wb.alloc (.cells (cellsOf xx).toArray 24)).cell? ((⟨wb.heap.size, 0, none⟩ : Addr).add j) = some u) := dig_cells wb xx
            have HBA : Hid (g + 1 ≤ (wb.alloc (.cells (cellsOf xx).toArray 24)).heap.size) := by show _ ≤ _; have := (Array.getElem?_eq_some_iff.1 Hub.out).1; simp; omega
            go_upto_region 26 with (first | (refine wpList_load_row rfl 24 (.tmp 17) rfl h rfl 24 (cellsOf xx).toArray (0, 0) _ Hxb.out Tryd.underlying24 rfl HIX.out ?_) | (refine wpList_build_dig _ rfl (.tmp 95) rfl xx rfl HXL.out ?_) | (at_builtin; refine wpList_append_dgAt _ rfl (.tmp 94) (.tmp 96) rfl (g + 1) _ P rfl HOA.out HBA.out ⟨wb.heap.size, 0, none⟩ 1 xx rfl HXL.out HCA.out (by have := HLEN.out; have := HL64.out; omega) ?_; intro v6 w6 hown6 hgr6 hloc6))
            have HP6 : Hid (DgO w6 (g + 1) v6 (P ++ [xx])) := hown6
            have HKP : Hid (∀ qq, qq < wb.heap.size → (∀ k, (Value.slice ao14 q c14).ownBlock = some k → qq ≠ k) → w6.heap[qq]? = wb.heap[qq]?) := fun qq hq hne => by
              rw [hgr6.block qq (by simp; omega) (fun e => hne qq e.symm rfl)]
              exact Below.heap_alloc _ _ _ hq
            have HB6 : Hid (Below g wX w6) := (HBB.out.alloc (HGZ.out _ HBB.out) _).trans (((Below.refl (g + 1) _).grown hgr6 HBA.out (fun k hk => (HOA.out.1.lt k hk).1)).mono (by omega))
            have Hu6 : Hid (w6.heap[g]? = some (.cells (cellsOf u).toArray 24 (0, 0))) := (HKP.out g (Array.getElem?_eq_some_iff.1 Hub.out).1 (fun k hk => by have := (HPB.out.1.lt k hk).1; omega)).trans Hub.out
            have Hxx6 : Hid (w6.heap[h]? = some (.cells (cellsOf xx).toArray 24 (0, 0))) := (HKP.out h (Array.getElem?_eq_some_iff.1 Hxb.out).1 (fun k hk => by have := HHN.out k hk; omega)).trans Hxb.out
            clear hown6 hgr6 hloc6
            have hlm := HLM.out w6 HB6.out
            cases hst : st.r with
            | false =>
              have HSR : Hid (st.r = false) := hst
              rw [hst] at hlm
              clear hst
              go_wp2_with (first | (refine wpList_load_row rfl 24 (.tmp 15) rfl g rfl 24 (cellsOf u).toArray (0, 0) _ Hu6.out Tryd.underlying24 rfl HIU.out ?_) | (refine wpList_load_row rfl 24 (.tmp 17) rfl h rfl 24 (cellsOf xx).toArray (0, 0) _ Hxx6.out Tryd.underlying24 rfl HIX.out ?_))
              refine (HNO.out w6 u xx HB6.out HUL.out HXL.out).mono ?_
              rintro e w7 ⟨rfl, hb7⟩
              unfold dv
              have HU7 : Hid (w7.heap[g]? = some (.cells (cellsOf u).toArray 24 (0, 0))) := (hb7.block _ (Array.getElem?_eq_some_iff.1 Hu6.out).1).trans Hu6.out
              have HP7 : Hid (DgO w7 (g + 1) v6 (P ++ [xx])) := HP6.out.below hb7 (Nat.le_refl _)
              have HB7 : Hid (Below g wX w7) := HB6.out.trans (hb7.mono (HGZ.out _ HB6.out))
              have HNL : Hid ((nodeD 256 u xx).length = 32) := nodeD_length _ _ _
              clear hb7
              go_wp2_with (refine wpList_store_row rfl 24 (.tmp 15) (.tmp 104) rfl g (cellsOf (nodeD 256 u xx)).toArray rfl rfl 24 _ HU7.out (by rw [size24, dig_size HNL.out]) (by rw [dig_size HUL.out, dig_size HNL.out]) (cells_all _) ?_)
              have HR8 := setRow_heap _ _ _ (cellsOf (nodeD 256 u xx)).toArray _ _ HU7.out
              have HB8 : Hid (Below g wX (w7.setRow g (cellsOf (nodeD 256 u xx)).toArray)) := below_row HB7.out (Nat.le_refl _) _
              have HP8 : Hid (DgO (w7.setRow g (cellsOf (nodeD 256 u xx)).toArray) (g + 1) v6 (P ++ [xx])) := ⟨own_keep HP7.out.1 (fun q hq => by
                have hge := (HP7.out.1.lt q hq).1
                have hlt := (HP7.out.1.lt q hq).2
                exact ((Chg.refl g w7).row _).block q hlt (by omega)), HP7.out.2⟩
              have HR8 : Hid _ := HR8
              refine ⟨⟨r, P ++ [xx], nodeD 256 u xx, by first | rfl | (simp; omega), by omega, ?_, ⟨?_, nodeD_length _ _ _⟩, HR8.out, HP8.out, HB8.out⟩, by simp [intOf]; omega⟩
              · have := HLEN.out; show _ = _; rw [List.length_append]; simp; omega
              · have hcl := climb_snoc 256 u0 (upL N i) (P ++ [xx]) P.length st xx HUP.out (by simp)
                rw [List.take_left' rfl, HCU.out] at hcl
                have e : (P ++ [xx]).take (P.length + 1) = P ++ [xx] := List.take_of_length_le (by simp)
                rw [e] at hcl
                rw [List.length_append, show P.length + [xx].length = P.length + 1 from rfl, hcl]
                unfold joinS
                dsimp only
                rw [HSR.out]; rfl
            | true =>
              have HSR : Hid (st.r = true) := hst
              rw [hst] at hlm
              clear hst
              go_wp2_with (first | (refine wpList_load_row rfl 24 (.tmp 17) rfl h rfl 24 (cellsOf xx).toArray (0, 0) _ Hxx6.out Tryd.underlying24 rfl HIX.out ?_) | (refine wpList_load_row rfl 24 (.tmp 15) rfl g rfl 24 (cellsOf u).toArray (0, 0) _ Hu6.out Tryd.underlying24 rfl HIU.out ?_))
              refine (HNO.out w6 xx u HB6.out HXL.out HUL.out).mono ?_
              rintro e w7 ⟨rfl, hb7⟩
              unfold dv
              have HU7 : Hid (w7.heap[g]? = some (.cells (cellsOf u).toArray 24 (0, 0))) := (hb7.block _ (Array.getElem?_eq_some_iff.1 Hu6.out).1).trans Hu6.out
              have HP7 : Hid (DgO w7 (g + 1) v6 (P ++ [xx])) := HP6.out.below hb7 (Nat.le_refl _)
              have HB7 : Hid (Below g wX w7) := HB6.out.trans (hb7.mono (HGZ.out _ HB6.out))
              have HNL : Hid ((nodeD 256 xx u).length = 32) := nodeD_length _ _ _
              clear hb7
              go_wp2_with (refine wpList_store_row rfl 24 (.tmp 15) (.tmp 107) rfl g (cellsOf (nodeD 256 xx u)).toArray rfl rfl 24 _ HU7.out (by rw [size24, dig_size HNL.out]) (by rw [dig_size HUL.out, dig_size HNL.out]) (cells_all _) ?_)
              have HR8 := setRow_heap _ _ _ (cellsOf (nodeD 256 xx u)).toArray _ _ HU7.out
              have HB8 : Hid (Below g wX (w7.setRow g (cellsOf (nodeD 256 xx u)).toArray)) := below_row HB7.out (Nat.le_refl _) _
              have HP8 : Hid (DgO (w7.setRow g (cellsOf (nodeD 256 xx u)).toArray) (g + 1) v6 (P ++ [xx])) := ⟨own_keep HP7.out.1 (fun q hq => by
                have hge := (HP7.out.1.lt q hq).1
                have hlt := (HP7.out.1.lt q hq).2
                exact ((Chg.refl g w7).row _).block q hlt (by omega)), HP7.out.2⟩
              have HR8 : Hid _ := HR8
              refine ⟨⟨r, P ++ [xx], nodeD 256 xx u, by first | rfl | (simp; omega), by omega, ?_, ⟨?_, nodeD_length _ _ _⟩, HR8.out, HP8.out, HB8.out⟩, by simp [intOf]; omega⟩
              · have := HLEN.out; show _ = _; rw [List.length_append]; simp; omega
              · have hcl := climb_snoc 256 u0 (upL N i) (P ++ [xx]) P.length st xx HUP.out (by simp)
                rw [List.take_left' rfl, HCU.out] at hcl
                have e : (P ++ [xx]).take (P.length + 1) = P ++ [xx] := List.take_of_length_le (by simp)
                rw [e] at hcl
                rw [List.length_append, show P.length + [xx].length = P.length + 1 from rfl, hcl]
                unfold joinS
                dsimp only
                rw [HSR.out]; rfl
          case neg =>
            have hqz : ¬ (q : Int) < (bn : Int) := by omega
            obtain ⟨xx, HXE⟩ : ∃ x, Hid (x0 = x) := ⟨_, rfl⟩
            have HXL : Hid (xx.length = 32) := by show _ = _; rw [← HXE.out]; exact HX0L.out
            go_upto_region 25 with fail
            obtain ⟨wb, hwb⟩ : ∃ W, W = w5 := ⟨_, rfl⟩
            subst hwb
            have HBB : Hid (Below g wX wb) := HB5
            have Hub : Hid (wb.heap[g]? = some (.cells (cellsOf u).toArray 24 (0, 0))) := HU5
            have HPB : Hid (DgO wb (g + 1) (.slice ao14 q c14) P) := HP5
            have Hxb : Hid (wb.heap[h]? = some (.cells (cellsOf xx).toArray 24 (0, 0))) := by show _ = _; rw [← HXE.out]; exact HA0.out
            clear HA0 HB5 HU5 HP5 hqz hqb
            have HIX : Hid ((Tryd.prog.info? 24).map (·.size) = some (cellsOf xx).toArray.size) := by show _ = _; rw [size24, dig_size HXL.out]
            have HOA : Hid (DgO (wb.alloc (.cells (cellsOf xx).toArray 24)) (g + 1) (.slice ao14 q c14) P) := ⟨(HPB.out.1).alloc _, HPB.out.2⟩
            have HCA : Hid (∀ j u, (cellsOf xx)[j]? = some u → (wb.alloc (.cells (cellsOf xx).toArray 24)).cell? ((⟨wb.heap.size, 0, none⟩ : Addr).add j) = some u) := dig_cells wb xx
            have HBA : Hid (g + 1 ≤ (wb.alloc (.cells (cellsOf xx).toArray 24)).heap.size) := by show _ ≤ _; have := (Array.getElem?_eq_some_iff.1 Hub.out).1; simp; omega
            go_upto_region 26 with (first | (refine wpList_load_row rfl 24 (.tmp 17) rfl h rfl 24 (cellsOf xx).toArray (0, 0) _ Hxb.out Tryd.underlying24 rfl HIX.out ?_) | (refine wpList_build_dig _ rfl (.tmp 95) rfl xx rfl HXL.out ?_) | (at_builtin; refine wpList_append_dgAt _ rfl (.tmp 94) (.tmp 96) rfl (g + 1) _ P rfl HOA.out HBA.out ⟨wb.heap.size, 0, none⟩ 1 xx rfl HXL.out HCA.out (by have := HLEN.out; have := HL64.out; omega) ?_; intro v6 w6 hown6 hgr6 hloc6))
            have HP6 : Hid (DgO w6 (g + 1) v6 (P ++ [xx])) := hown6
            have HKP : Hid (∀ qq, qq < wb.heap.size → (∀ k, (Value.slice ao14 q c14).ownBlock = some k → qq ≠ k) → w6.heap[qq]? = wb.heap[qq]?) := fun qq hq hne => by
              rw [hgr6.block qq (by simp; omega) (fun e => hne qq e.symm rfl)]
              exact Below.heap_alloc _ _ _ hq
            have HB6 : Hid (Below g wX w6) := (HBB.out.alloc (HGZ.out _ HBB.out) _).trans (((Below.refl (g + 1) _).grown hgr6 HBA.out (fun k hk => (HOA.out.1.lt k hk).1)).mono (by omega))
            have Hu6 : Hid (w6.heap[g]? = some (.cells (cellsOf u).toArray 24 (0, 0))) := (HKP.out g (Array.getElem?_eq_some_iff.1 Hub.out).1 (fun k hk => by have := (HPB.out.1.lt k hk).1; omega)).trans Hub.out
            have Hxx6 : Hid (w6.heap[h]? = some (.cells (cellsOf xx).toArray 24 (0, 0))) := (HKP.out h (Array.getElem?_eq_some_iff.1 Hxb.out).1 (fun k hk => by have := HHN.out k hk; omega)).trans Hxb.out
            clear hown6 hgr6 hloc6
            have hlm := HLM.out w6 HB6.out
            cases hst : st.r with
            | false =>
              have HSR : Hid (st.r = false) := hst
              rw [hst] at hlm
              clear hst
              go_wp2_with (first | (refine wpList_load_row rfl 24 (.tmp 15) rfl g rfl 24 (cellsOf u).toArray (0, 0) _ Hu6.out Tryd.underlying24 rfl HIU.out ?_) | (refine wpList_load_row rfl 24 (.tmp 17) rfl h rfl 24 (cellsOf xx).toArray (0, 0) _ Hxx6.out Tryd.underlying24 rfl HIX.out ?_))
              refine (HNO.out w6 u xx HB6.out HUL.out HXL.out).mono ?_
              rintro e w7 ⟨rfl, hb7⟩
              unfold dv
              have HU7 : Hid (w7.heap[g]? = some (.cells (cellsOf u).toArray 24 (0, 0))) := (hb7.block _ (Array.getElem?_eq_some_iff.1 Hu6.out).1).trans Hu6.out
              have HP7 : Hid (DgO w7 (g + 1) v6 (P ++ [xx])) := HP6.out.below hb7 (Nat.le_refl _)
              have HB7 : Hid (Below g wX w7) := HB6.out.trans (hb7.mono (HGZ.out _ HB6.out))
              have HNL : Hid ((nodeD 256 u xx).length = 32) := nodeD_length _ _ _
              clear hb7
              go_wp2_with (refine wpList_store_row rfl 24 (.tmp 15) (.tmp 104) rfl g (cellsOf (nodeD 256 u xx)).toArray rfl rfl 24 _ HU7.out (by rw [size24, dig_size HNL.out]) (by rw [dig_size HUL.out, dig_size HNL.out]) (cells_all _) ?_)
              have HR8 := setRow_heap _ _ _ (cellsOf (nodeD 256 u xx)).toArray _ _ HU7.out
              have HB8 : Hid (Below g wX (w7.setRow g (cellsOf (nodeD 256 u xx)).toArray)) := below_row HB7.out (Nat.le_refl _) _
              have HP8 : Hid (DgO (w7.setRow g (cellsOf (nodeD 256 u xx)).toArray) (g + 1) v6 (P ++ [xx])) := ⟨own_keep HP7.out.1 (fun q hq => by
                have hge := (HP7.out.1.lt q hq).1
                have hlt := (HP7.out.1.lt q hq).2
                exact ((Chg.refl g w7).row _).block q hlt (by omega)), HP7.out.2⟩
              have HR8 : Hid _ := HR8
              refine ⟨⟨r, P ++ [xx], nodeD 256 u xx, by first | rfl | (simp; omega), by omega, ?_, ⟨?_, nodeD_length _ _ _⟩, HR8.out, HP8.out, HB8.out⟩, by simp [intOf]; omega⟩
              · have := HLEN.out; show _ = _; rw [List.length_append]; simp; omega
              · have hcl := climb_snoc 256 u0 (upL N i) (P ++ [xx]) P.length st xx HUP.out (by simp)
                rw [List.take_left' rfl, HCU.out] at hcl
                have e : (P ++ [xx]).take (P.length + 1) = P ++ [xx] := List.take_of_length_le (by simp)
                rw [e] at hcl
                rw [List.length_append, show P.length + [xx].length = P.length + 1 from rfl, hcl]
                unfold joinS
                dsimp only
                rw [HSR.out]; rfl
            | true =>
              have HSR : Hid (st.r = true) := hst
              rw [hst] at hlm
              clear hst
              go_wp2_with (first | (refine wpList_load_row rfl 24 (.tmp 17) rfl h rfl 24 (cellsOf xx).toArray (0, 0) _ Hxx6.out Tryd.underlying24 rfl HIX.out ?_) | (refine wpList_load_row rfl 24 (.tmp 15) rfl g rfl 24 (cellsOf u).toArray (0, 0) _ Hu6.out Tryd.underlying24 rfl HIU.out ?_))
              refine (HNO.out w6 xx u HB6.out HXL.out HUL.out).mono ?_
              rintro e w7 ⟨rfl, hb7⟩
              unfold dv
              have HU7 : Hid (w7.heap[g]? = some (.cells (cellsOf u).toArray 24 (0, 0))) := (hb7.block _ (Array.getElem?_eq_some_iff.1 Hu6.out).1).trans Hu6.out
              have HP7 : Hid (DgO w7 (g + 1) v6 (P ++ [xx])) := HP6.out.below hb7 (Nat.le_refl _)
              have HB7 : Hid (Below g wX w7) := HB6.out.trans (hb7.mono (HGZ.out _ HB6.out))
              have HNL : Hid ((nodeD 256 xx u).length = 32) := nodeD_length _ _ _
              clear hb7
              go_wp2_with (refine wpList_store_row rfl 24 (.tmp 15) (.tmp 107) rfl g (cellsOf (nodeD 256 xx u)).toArray rfl rfl 24 _ HU7.out (by rw [size24, dig_size HNL.out]) (by rw [dig_size HUL.out, dig_size HNL.out]) (cells_all _) ?_)
              have HR8 := setRow_heap _ _ _ (cellsOf (nodeD 256 xx u)).toArray _ _ HU7.out
              have HB8 : Hid (Below g wX (w7.setRow g (cellsOf (nodeD 256 xx u)).toArray)) := below_row HB7.out (Nat.le_refl _) _
              have HP8 : Hid (DgO (w7.setRow g (cellsOf (nodeD 256 xx u)).toArray) (g + 1) v6 (P ++ [xx])) := ⟨own_keep HP7.out.1 (fun q hq => by
                have hge := (HP7.out.1.lt q hq).1
                have hlt := (HP7.out.1.lt q hq).2
                exact ((Chg.refl g w7).row _).block q hlt (by omega)), HP7.out.2⟩
              have HR8 : Hid _ := HR8
              refine ⟨⟨r, P ++ [xx], nodeD 256 xx u, by first | rfl | (simp; omega), by omega, ?_, ⟨?_, nodeD_length _ _ _⟩, HR8.out, HP8.out, HB8.out⟩, by simp [intOf]; omega⟩
              · have := HLEN.out; show _ = _; rw [List.length_append]; simp; omega
              · have hcl := climb_snoc 256 u0 (upL N i) (P ++ [xx]) P.length st xx HUP.out (by simp)
                rw [List.take_left' rfl, HCU.out] at hcl
                have e : (P ++ [xx]).take (P.length + 1) = P ++ [xx] := List.take_of_length_le (by simp)
                rw [e] at hcl
                rw [List.length_append, show P.length + [xx].length = P.length + 1 from rfl, hcl]
                unfold joinS
                dsimp only
                rw [HSR.out]; rfl
end Go.Proofs.YtaebpnednhkfhaaDoor

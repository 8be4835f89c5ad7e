/-
  MemRanges: the walk.
-/
import Derived.Test.YtaamekkbgaeafaaDoorMmR
import Derived.Test.YtaamekkbgaeafaaDoorSame
import Derived.Test.YtaamekkbgaeafaaDoorPartK
namespace Go.Proofs.YtaamekkbgaeafaaDoor
open Go.RowKit
set_option linter.unusedSectionVars false
set_option linter.unusedVariables false
variable [Inhabited E] [DecidableEq E]
theorem below_le {a b : ByteArray} (h : cmpS a b ≤ 0) : ∀ (es : List E), belowN a es ≤ belowN b es := by
  intro es
  unfold belowN
  refine List.countP_mono_left (fun e _ he => ?_)
  simp only [decide_eq_true_eq] at he ⊢
  have h1 := cmpS_ord.trans e.key a b (by omega) h
  by_cases h2 : cmpS e.key b = 0
  · have h3 := cmpS_eq.1 h2
    rw [h3] at he
    have h4 := (cmpS_ord.anti b a).1 he
    omega
  · omega
theorem eq_or_lt (a : ByteArray) : a = ⟨#[]⟩ ∨ cmpS ⟨#[]⟩ a < 0 := by
  by_cases h : a = ⟨#[]⟩
  · exact .inl h
  · refine .inr ?_
    have h1 : ¬ cmpS a ⟨#[]⟩ < 0 := by
      rw [show cmpS a ⟨#[]⟩ < 0 ↔ (decide (cmpS a ⟨#[]⟩ < 0) = true) by simp, ← less_cmpS, Lib.toList_data ⟨#[]⟩]
      cases a.toList <;> simp [Op.bytesLess]
    have h2 : ¬ cmpS a ⟨#[]⟩ = 0 := fun e => h (cmpS_eq.1 e)
    exact (cmpS_ord.anti ⟨#[]⟩ a).2 (by omega)
theorem ranges_join {lo hi : ByteArray} (hlo : lo ≠ ⟨#[]⟩) (hhi : hi ≠ ⟨#[]⟩) (h : cmpS lo hi ≤ 0) (es : List E) : rangeL ⟨#[]⟩ lo es ++ rangeL lo hi es ++ rangeL hi ⟨#[]⟩ es = es := by
  have h0 : belowN ⟨#[]⟩ es = 0 := by
    have h9 : belowN ⟨#[]⟩ es = 0 := by
      rw [belowN, List.countP_eq_zero]
      intro e _
      simp only [decide_eq_true_eq]
      rw [show cmpS e.key ⟨#[]⟩ < 0 ↔ (decide (cmpS e.key ⟨#[]⟩ < 0) = true) by simp, ← less_cmpS, Lib.toList_data ⟨#[]⟩]
      cases e.key.toList <;> simp [Op.bytesLess]
    exact h9
  have h1 := below_le h es
  have h2 := belowN_le hi es
  have e1 : rangeL ⟨#[]⟩ lo es = es.take (belowN lo es) := by rw [rangeL, toN, if_neg hlo, h0]; simp
  have e2 : rangeL lo hi es = (es.drop (belowN lo es)).take (belowN hi es - belowN lo es) := by rw [rangeL, toN, if_neg hhi, Nat.max_eq_right h1]
  have e3 : rangeL hi ⟨#[]⟩ es = es.drop (belowN hi es) := by
    rw [rangeL, toN, if_pos rfl]
    exact List.take_of_length_le (by rw [List.length_drop]; exact Nat.le_refl _)
  rw [e1, e2, e3]
  have e4 : es.drop (belowN hi es) = (es.drop (belowN lo es)).drop (belowN hi es - belowN lo es) := by rw [List.drop_drop]; congr 1; omega
  rw [e4, List.append_assoc, List.take_append_drop, List.take_append_drop]
theorem own_sl {w : World} {base n : Nat} {v : Value} {es : List E} (h : w.ownsRow base 29 4 v n (flatE es)) : ∃ ao c, v = .slice ao n c ∧ EntsV w ao n es ∧ (ao = none → c = 0) := by
  have hl : es.length = n := by have := h.1; rw [flatE_len] at this; omega
  rcases h.2 with ⟨rfl, h0⟩ | ⟨b, cap, cur, rfl, hB, hgg, hn, hm, rest⟩
  · subst h0
    have he : es = [] := List.eq_nil_of_length_eq_zero hl
    subst he
    exact ⟨none, 0, rfl, ⟨rfl, fun x => absurd x (Nat.lt_irrefl _)⟩, fun _ => rfl⟩
  · obtain ⟨ao, c, e1, e2⟩ := own_entsV h hl
    cases e1
    exact ⟨_, _, rfl, e2, fun x => by cases x⟩
theorem range_len (lo hi : ByteArray) (es : List E) : (rangeL lo hi es).length ≤ es.length := by
  rw [rangeL, List.length_take, List.length_drop]; omega
/-- An entry that was cut. -/
theorem cut_form (k v : ByteArray) (d : Bool) (q : Int) : ∃ k2 v2, cutE 130 1030 ⟨k, v, d, q⟩ = ⟨k2, v2, d, q⟩ ∧ k2.size ≤ 9223372036854775807 ∧ v2.size ≤ 9223372036854775807 := by
  refine ⟨_, _, rfl, ?_, ?_⟩
  · simp only [ByteArray.size_extract]; omega
  · simp only [ByteArray.size_extract]; omega
set_option maxRecDepth 100000 in
set_option maxHeartbeats 2000000 in
theorem ranges_walk (ao : Option Addr) (n c : Nat) (es : List E) (lo hi : ByteArray) (w : World) (hE : EntsV w ao n es) (hS : Small es) (hnc : n ≤ c) (hc : c ≤ 9223372036854775807) (hK : KK w) :
    Calls Tryd.prog 7 #[.slice ao n c, .string lo, .string hi] w fun e w' => e = .returned (.bool true) ∧ Below w.heap.size w w' := by
  have hk2 := hK.2
  obtain ⟨B, HB⟩ : ∃ B, Hid (w.heap.size = B) := ⟨_, rfl⟩
  rw [HB.out] at hk2
  rw [HB.out]
  have HE : Hid (∀ W, Below B w W → EntsV W ao n es) := fun W hW => hE.below hW (by rw [HB.out]; exact Nat.le_refl _)
  go_enter Tryd.func7, Tryd.ntmps7
  go_wp2_with (go_at_call 9; refine (shown_any w hK).mono ?_; rintro e w1 ⟨rfl, hb1, hk1⟩)
  rw [HB.out] at hb1
  have hs1 : B ≤ w1.heap.size := by have := hb1.size; rw [HB.out] at this; exact this
  refine (new_fr B w1 hk1 hs1 hk2).mono ?_
  rintro e w2 ⟨g, rfl, hM2, hb2, hk2x⟩
  have hb2x := hb1.trans hb2
  clear hk1 hb1 hb2 hs1 hK hE
  go_wp2_with fail
  go_loopw [9, 10] (fun x9 _ wr => ∃ i A, x9 = .int .i64 (i : Nat) ∧ i ≤ n ∧ i ≤ 40 ∧ Hid (MemAt (Fr B) wr g A ∧ KK wr ∧ Below B w wr)) (fun x _ _ => 40 - (intOf x).toNat)
  case atStart => exact ⟨0, mm0, rfl, by omega, by omega, hM2, hk2x, hb2x⟩
  case round =>
    obtain ⟨i, A, rfl, hi1, hi2, HI⟩ := hrel
    by_cases hin : i < n ∧ i < 40
    · obtain ⟨hi3, hi4⟩ := hin
      have hz1 : (i : Int) < (n : Int) := by omega
      have hz2 : (i : Int) < 40 := by omega
      obtain ⟨b, off, rfl, hEn⟩ := (HE.out wr HI.out.2.2).2 (by omega)
      obtain ⟨k, v, d, q, hx⟩ : ∃ k v d q, es[i]! = ⟨k, v, d, q⟩ := ⟨_, _, _, _, rfl⟩
      obtain ⟨f0, f1, f2, f3⟩ := ents_four hEn i (by rw [(HE.out wr HI.out.2.2).1]; exact hi3) hx
      obtain ⟨sk, sv⟩ := small_at hS i (by rw [(HE.out wr HI.out.2.2).1]; exact hi3) hx
      obtain ⟨k2, v2, HC, sk2, sv2⟩ := cut_form k v d q
      have hcc := cut_any k v d q wr sk sv
      rw [HC] at hcc
      have HCC : Hid (Calls Tryd.prog 12 #[.agg #[.string k, .string v, .bool d, .int .i64 q]] wr fun e w' => e = .returned (.agg #[.string k2, .string v2, .bool d, .int .i64 q]) ∧ Below wr.heap.size wr w') := hcc
      clear hcc HC hEn hx sk sv
      go_wp2_with (go_at_call 12; refine Calls.mono HCC.out ?_; rintro e w3 ⟨rfl, hb3⟩)
      have hbA : Below wr.heap.size wr (w3.alloc (Obj.cells #[Value.string k2, Value.string v2, Value.bool d, Value.int IntKind.i64 ((i : Int) + 1)] 29)) := hb3.trans ((bel_alloc w3 _).mono hb3.size)
      have hB0 : B ≤ wr.heap.size := Nat.le_trans (Nat.le_of_eq HB.out.symm) HI.out.2.2.size
      refine (put_fr B g A ⟨k2, v2, d, (i : Int) + 1⟩ _ (HI.out.1.grown hbA) (HI.out.2.1.below hbA HI.out.2.1.2) (Nat.le_trans hB0 hbA.size) hk2 sk2 sv2).mono ?_
      rintro e w5 ⟨rfl, hM5, hb5, hk5⟩
      have HN : Hid (MemAt (Fr B) w5 g (putA A ⟨k2, v2, d, (i : Int) + 1⟩) ∧ KK w5 ∧ Below B w w5) := ⟨hM5, hk5, HI.out.2.2.trans ((hbA.mono hB0).trans hb5)⟩
      clear hM5 hb5 hk5 hbA hb3 HCC f0 f1 f2 f3 HI
      go_wp2
      go_roundw
      case rel => exact ⟨i + 1, _, by go_num, by omega, by omega, HN⟩
      case measure => (try simp [intOf]); omega
    · by_cases hni : i < n
      · have hz1 : (i : Int) < (n : Int) := by omega
        have hz2 : ¬ ((i : Int) < 40) := by omega
        have dz2 : decide ((i : Int) < 40) = false := decide_eq_false hz2
        clear hin hni
        by_cases hgt : 0 < cmpS lo hi
        · have dg : (Op.bytesLess lo.toList hi.toList || lo.toList == hi.toList) = false := by
            rw [less_cmpS, eq_cmpS]
            have hne : lo ≠ hi := fun e => by rw [cmpS_eq.2 e] at hgt; omega
            simp [hne]; omega
          have hle : cmpS hi lo ≤ 0 := by have := (cmpS_ord.anti hi lo).2 hgt; omega
          clear hgt
          by_cases helo : hi = ⟨#[]⟩
          · have z1 : (hi.toList == []) = true := by rw [helo, Lib.toList_data]; rfl
            have HR : Hid (Calls Tryd.prog 17 #[.pointer (some ⟨g, 0, none⟩), .string ⟨#[]⟩, .string ⟨#[]⟩] wr fun e w' => ∃ v', e = .returned v' ∧ w'.ownsRow wr.heap.size 29 4 v' A.es.length (flatE A.es) ∧ Below wr.heap.size wr w') := by
              have := range_mem (Fr B) g A ⟨#[]⟩ ⟨#[]⟩ wr HI.out.1
              rw [range_all] at this
              exact this
            clear helo
            go_wp2_with fail
            refine Calls.mono HR.out ?_
            rintro e w5 ⟨v5, rfl, ho5, hb5⟩
            obtain ⟨ao5, c5, rfl, he5, h05⟩ := own_sl ho5
            go_wp2_with fail
            refine (all_mem (Fr B) g A w5 (HI.out.1.grown hb5)).mono ?_
            rintro e w6 ⟨v6, rfl, ho6, hb6⟩
            obtain ⟨ao6, c6, rfl, he6, h06⟩ := own_sl ho6
            have he56 := he5.below hb6 (Nat.le_refl _)
            have hN : A.es.length ≤ 64 := HI.out.1.1.len
            have hB0 : B ≤ wr.heap.size := Nat.le_trans (Nat.le_of_eq HB.out.symm) HI.out.2.2.size
            have hbf : Below B w w6 := HI.out.2.2.trans ((hb5.mono hB0).trans (hb6.mono (Nat.le_trans hB0 hb5.size)))
            clear hb5 hb6 he5 ho5 ho6 HR
            go_wp2_with fail
            refine (same_any ao5 A.es.length c5 A.es ao6 A.es.length c6 A.es w6 he56 he6 (by omega) (by omega)).mono ?_
            rintro e w7 ⟨rfl, hb7⟩
            rw [decide_eq_true rfl]
            clear he56 he6
            go_wp2
            go_ret
            exact ⟨rfl, hbf.trans (hb7.mono (Nat.le_trans (Nat.le_of_eq HB.out.symm) hbf.size))⟩
          · have z1 : (hi.toList == []) = false := by rw [show ([] : List UInt8) = (⟨#[]⟩ : ByteArray).toList by rw [Lib.toList_data], eq_cmpS]; exact decide_eq_false helo
            have hhi2 : lo ≠ ⟨#[]⟩ := fun e => by
              rw [e] at hle
              have h9 := (eq_or_lt hi).resolve_left helo
              have h8 := (cmpS_ord.anti ⟨#[]⟩ hi).1 h9
              omega
            have HJ : Hid (rangeL ⟨#[]⟩ hi A.es ++ rangeL hi lo A.es ++ rangeL lo ⟨#[]⟩ A.es = A.es) := ranges_join helo hhi2 hle A.es
            have hN : A.es.length ≤ 64 := HI.out.1.1.len
            have l1 := range_len ⟨#[]⟩ hi A.es
            have l2 := range_len hi lo A.es
            have l3 := range_len lo ⟨#[]⟩ A.es
            obtain ⟨L1, HL1⟩ : ∃ L, Hid (rangeL ⟨#[]⟩ hi A.es = L) := ⟨_, rfl⟩
            obtain ⟨L2, HL2⟩ : ∃ L, Hid (rangeL hi lo A.es = L) := ⟨_, rfl⟩
            obtain ⟨L3, HL3⟩ : ∃ L, Hid (rangeL lo ⟨#[]⟩ A.es = L) := ⟨_, rfl⟩
            rw [HL1.out] at l1
            rw [HL2.out] at l2
            rw [HL3.out] at l3
            rw [HL1.out, HL2.out, HL3.out] at HJ
            have hB0 : B ≤ wr.heap.size := Nat.le_trans (Nat.le_of_eq HB.out.symm) HI.out.2.2.size
            clear helo hhi2 hle
            have hbE := bel_alloc wr (.cells #[] 29)
            have HOW0 : Hid ((wr.alloc (.cells #[] 29)).ownsRow wr.heap.size 29 4 (.slice (some ⟨wr.heap.size, 0, none⟩) 0 0) 0 (flatE [])) := World.ownsRow_made wr #[] 0 (Nat.le_refl _) (by decide) rfl
            go_wp2_with fail
            have hr1 := range_mem (Fr B) g A ⟨#[]⟩ hi _ (HI.out.1.grown hbE)
            rw [HL1.out] at hr1
            refine hr1.mono ?_
            rintro e r1 ⟨x1, rfl, ho1, hq1⟩
            obtain ⟨ao1, c1, rfl, he1, h01⟩ := own_sl ho1
            have hbR1 : Below wr.heap.size wr r1 := hbE.trans (hq1.mono hbE.size)
            have HOR1 : Hid (r1.ownsRow wr.heap.size 29 4 (.slice (some ⟨wr.heap.size, 0, none⟩) 0 0) 0 (flatE ([]))) := own_below HOW0.out hq1 (Nat.le_refl _)
            have HER1 : Hid (EntsV r1 ao1 L1.length L1) := he1
            have H0R1 : Hid (ao1 = none → c1 = 0) := h01
            have HSR1 : Hid (wr.heap.size ≤ r1.heap.size) := hbR1.size
            clear hr1 ho1 hq1 he1 h01 HOW0
            go_wp2_with (at_builtin; (refine wpList_append_ents _ rfl (.tmp 53) (.tmp 56) rfl wr.heap.size (.slice (some ⟨wr.heap.size, 0, none⟩) 0 0) 0 ([]) rfl HOR1.out HSR1.out ao1 L1.length c1 L1 rfl HER1.out H0R1.out (by omega) ?_); intro y1 s1 hoy1 hby1)
            have hbS1 : Below wr.heap.size wr s1 := hbR1.trans hby1
            have HOW1 : Hid (s1.ownsRow wr.heap.size 29 4 y1 ([] ++ L1).length (flatE ([] ++ L1))) := hoy1
            clear hoy1 hby1 hbR1 HER1 H0R1 HSR1 HOR1
            have hr2 := range_mem (Fr B) g A hi lo _ (HI.out.1.grown hbS1)
            rw [HL2.out] at hr2
            refine hr2.mono ?_
            rintro e r2 ⟨x2, rfl, ho2, hq2⟩
            obtain ⟨ao2, c2, rfl, he2, h02⟩ := own_sl ho2
            have hbR2 : Below wr.heap.size wr r2 := hbS1.trans (hq2.mono hbS1.size)
            have HOR2 : Hid (r2.ownsRow wr.heap.size 29 4 y1 ([] ++ L1).length (flatE ([] ++ L1))) := own_below HOW1.out hq2 (Nat.le_refl _)
            have HER2 : Hid (EntsV r2 ao2 L2.length L2) := he2
            have H0R2 : Hid (ao2 = none → c2 = 0) := h02
            have HSR2 : Hid (wr.heap.size ≤ r2.heap.size) := hbR2.size
            clear hr2 ho2 hq2 he2 h02 HOW1
            go_wp2_with (at_builtin; (refine wpList_append_ents _ rfl (.tmp 57) (.tmp 61) rfl wr.heap.size y1 ([] ++ L1).length ([] ++ L1) rfl HOR2.out HSR2.out ao2 L2.length c2 L2 rfl HER2.out H0R2.out (by simp only [List.length_append, List.length_nil]; omega) ?_); intro y2 s2 hoy2 hby2)
            have hbS2 : Below wr.heap.size wr s2 := hbR2.trans hby2
            have HOW2 : Hid (s2.ownsRow wr.heap.size 29 4 y2 ([] ++ L1 ++ L2).length (flatE ([] ++ L1 ++ L2))) := hoy2
            clear hoy2 hby2 hbR2 HER2 H0R2 HSR2 HOR2
            have hr3 := range_mem (Fr B) g A lo ⟨#[]⟩ _ (HI.out.1.grown hbS2)
            rw [HL3.out] at hr3
            refine hr3.mono ?_
            rintro e r3 ⟨x3, rfl, ho3, hq3⟩
            obtain ⟨ao3, c3, rfl, he3, h03⟩ := own_sl ho3
            have hbR3 : Below wr.heap.size wr r3 := hbS2.trans (hq3.mono hbS2.size)
            have HOR3 : Hid (r3.ownsRow wr.heap.size 29 4 y2 ([] ++ L1 ++ L2).length (flatE ([] ++ L1 ++ L2))) := own_below HOW2.out hq3 (Nat.le_refl _)
            have HER3 : Hid (EntsV r3 ao3 L3.length L3) := he3
            have H0R3 : Hid (ao3 = none → c3 = 0) := h03
            have HSR3 : Hid (wr.heap.size ≤ r3.heap.size) := hbR3.size
            clear hr3 ho3 hq3 he3 h03 HOW2
            go_wp2_with (at_builtin; (refine wpList_append_ents _ rfl (.tmp 62) (.tmp 65) rfl wr.heap.size y2 ([] ++ L1 ++ L2).length ([] ++ L1 ++ L2) rfl HOR3.out HSR3.out ao3 L3.length c3 L3 rfl HER3.out H0R3.out (by simp only [List.length_append, List.length_nil]; omega) ?_); intro y3 s3 hoy3 hby3)
            have hbS3 : Below wr.heap.size wr s3 := hbR3.trans hby3
            have HOW3 : Hid (s3.ownsRow wr.heap.size 29 4 y3 ([] ++ L1 ++ L2 ++ L3).length (flatE ([] ++ L1 ++ L2 ++ L3))) := hoy3
            clear hoy3 hby3 hbR3 HER3 H0R3 HSR3 HOR3
            have hall : ([] ++ L1 ++ L2 ++ L3) = A.es := by rw [List.nil_append]; exact HJ.out
            have HOW9 : Hid (s3.ownsRow wr.heap.size 29 4 y3 A.es.length (flatE A.es)) := by
              have := HOW3.out
              rw [hall] at this
              exact this
            clear HOW3 hall HJ HL1 HL2 HL3 l1 l2 l3
            obtain ⟨ao9, c9, rfl, he9, h09⟩ := own_sl HOW9.out
            refine (all_mem (Fr B) g A s3 (HI.out.1.grown hbS3)).mono ?_
            rintro e w6 ⟨v6, rfl, ho6, hb6⟩
            obtain ⟨ao6, c6, rfl, he6, h06⟩ := own_sl ho6
            have he56 := he9.below hb6 (Nat.le_refl _)
            have hbf : Below B w w6 := HI.out.2.2.trans ((hbS3.mono hB0).trans (hb6.mono (Nat.le_trans hB0 hbS3.size)))
            clear hb6 ho6 HOW9 he9
            go_wp2_with fail
            refine (same_any ao9 A.es.length c9 A.es ao6 A.es.length c6 A.es w6 he56 he6 (by omega) (by omega)).mono ?_
            rintro e w7 ⟨rfl, hb7⟩
            rw [decide_eq_true rfl]
            have he57 := he56.below hb7 (Nat.le_refl _)
            clear he56 he6
            have hks : sortedB A.es = true := sortedB_ks.2 HI.out.1.1.ks
            go_wp2_with fail
            refine (sorted_any ao9 A.es.length c9 A.es w7 he57 (by omega)).mono ?_
            rintro e w8 ⟨rfl, hb8⟩
            rw [hks]
            clear he57 hks
            have hbf7 : Below B w w7 := hbf.trans (hb7.mono (Nat.le_trans (Nat.le_of_eq HB.out.symm) hbf.size))
            go_wp2
            go_ret
            exact ⟨rfl, hbf7.trans (hb8.mono (Nat.le_trans (Nat.le_of_eq HB.out.symm) hbf7.size))⟩
        · have dg : (Op.bytesLess lo.toList hi.toList || lo.toList == hi.toList) = true := by
            rw [less_cmpS, eq_cmpS]
            by_cases he : cmpS lo hi = 0
            · simp [cmpS_eq.1 he]
            · simp; left; omega
          have hle : cmpS lo hi ≤ 0 := by omega
          clear hgt
          by_cases helo : lo = ⟨#[]⟩
          · have z1 : (lo.toList == []) = true := by rw [helo, Lib.toList_data]; rfl
            have HR : Hid (Calls Tryd.prog 17 #[.pointer (some ⟨g, 0, none⟩), .string ⟨#[]⟩, .string ⟨#[]⟩] wr fun e w' => ∃ v', e = .returned v' ∧ w'.ownsRow wr.heap.size 29 4 v' A.es.length (flatE A.es) ∧ Below wr.heap.size wr w') := by
              have := range_mem (Fr B) g A ⟨#[]⟩ ⟨#[]⟩ wr HI.out.1
              rw [range_all] at this
              exact this
            clear helo
            go_wp2_with fail
            refine Calls.mono HR.out ?_
            rintro e w5 ⟨v5, rfl, ho5, hb5⟩
            obtain ⟨ao5, c5, rfl, he5, h05⟩ := own_sl ho5
            go_wp2_with fail
            refine (all_mem (Fr B) g A w5 (HI.out.1.grown hb5)).mono ?_
            rintro e w6 ⟨v6, rfl, ho6, hb6⟩
            obtain ⟨ao6, c6, rfl, he6, h06⟩ := own_sl ho6
            have he56 := he5.below hb6 (Nat.le_refl _)
            have hN : A.es.length ≤ 64 := HI.out.1.1.len
            have hB0 : B ≤ wr.heap.size := Nat.le_trans (Nat.le_of_eq HB.out.symm) HI.out.2.2.size
            have hbf : Below B w w6 := HI.out.2.2.trans ((hb5.mono hB0).trans (hb6.mono (Nat.le_trans hB0 hb5.size)))
            clear hb5 hb6 he5 ho5 ho6 HR
            go_wp2_with fail
            refine (same_any ao5 A.es.length c5 A.es ao6 A.es.length c6 A.es w6 he56 he6 (by omega) (by omega)).mono ?_
            rintro e w7 ⟨rfl, hb7⟩
            rw [decide_eq_true rfl]
            clear he56 he6
            go_wp2
            go_ret
            exact ⟨rfl, hbf.trans (hb7.mono (Nat.le_trans (Nat.le_of_eq HB.out.symm) hbf.size))⟩
          · have z1 : (lo.toList == []) = false := by rw [show ([] : List UInt8) = (⟨#[]⟩ : ByteArray).toList by rw [Lib.toList_data], eq_cmpS]; exact decide_eq_false helo
            have hhi2 : hi ≠ ⟨#[]⟩ := fun e => by
              rw [e] at hle
              have h9 := (eq_or_lt lo).resolve_left helo
              have h8 := (cmpS_ord.anti ⟨#[]⟩ lo).1 h9
              omega
            have HJ : Hid (rangeL ⟨#[]⟩ lo A.es ++ rangeL lo hi A.es ++ rangeL hi ⟨#[]⟩ A.es = A.es) := ranges_join helo hhi2 hle A.es
            have hN : A.es.length ≤ 64 := HI.out.1.1.len
            have l1 := range_len ⟨#[]⟩ lo A.es
            have l2 := range_len lo hi A.es
            have l3 := range_len hi ⟨#[]⟩ A.es
            obtain ⟨L1, HL1⟩ : ∃ L, Hid (rangeL ⟨#[]⟩ lo A.es = L) := ⟨_, rfl⟩
            obtain ⟨L2, HL2⟩ : ∃ L, Hid (rangeL lo hi A.es = L) := ⟨_, rfl⟩
            obtain ⟨L3, HL3⟩ : ∃ L, Hid (rangeL hi ⟨#[]⟩ A.es = L) := ⟨_, rfl⟩
            rw [HL1.out] at l1
            rw [HL2.out] at l2
            rw [HL3.out] at l3
            rw [HL1.out, HL2.out, HL3.out] at HJ
            have hB0 : B ≤ wr.heap.size := Nat.le_trans (Nat.le_of_eq HB.out.symm) HI.out.2.2.size
            clear helo hhi2 hle
            have hbE := bel_alloc wr (.cells #[] 29)
            have HOW0 : Hid ((wr.alloc (.cells #[] 29)).ownsRow wr.heap.size 29 4 (.slice (some ⟨wr.heap.size, 0, none⟩) 0 0) 0 (flatE [])) := World.ownsRow_made wr #[] 0 (Nat.le_refl _) (by decide) rfl
            go_wp2_with fail
            have hr1 := range_mem (Fr B) g A ⟨#[]⟩ lo _ (HI.out.1.grown hbE)
            rw [HL1.out] at hr1
            refine hr1.mono ?_
            rintro e r1 ⟨x1, rfl, ho1, hq1⟩
            obtain ⟨ao1, c1, rfl, he1, h01⟩ := own_sl ho1
            have hbR1 : Below wr.heap.size wr r1 := hbE.trans (hq1.mono hbE.size)
            have HOR1 : Hid (r1.ownsRow wr.heap.size 29 4 (.slice (some ⟨wr.heap.size, 0, none⟩) 0 0) 0 (flatE ([]))) := own_below HOW0.out hq1 (Nat.le_refl _)
            have HER1 : Hid (EntsV r1 ao1 L1.length L1) := he1
            have H0R1 : Hid (ao1 = none → c1 = 0) := h01
            have HSR1 : Hid (wr.heap.size ≤ r1.heap.size) := hbR1.size
            clear hr1 ho1 hq1 he1 h01 HOW0
            go_wp2_with (at_builtin; (refine wpList_append_ents _ rfl (.tmp 53) (.tmp 56) rfl wr.heap.size (.slice (some ⟨wr.heap.size, 0, none⟩) 0 0) 0 ([]) rfl HOR1.out HSR1.out ao1 L1.length c1 L1 rfl HER1.out H0R1.out (by omega) ?_); intro y1 s1 hoy1 hby1)
            have hbS1 : Below wr.heap.size wr s1 := hbR1.trans hby1
            have HOW1 : Hid (s1.ownsRow wr.heap.size 29 4 y1 ([] ++ L1).length (flatE ([] ++ L1))) := hoy1
            clear hoy1 hby1 hbR1 HER1 H0R1 HSR1 HOR1
            have hr2 := range_mem (Fr B) g A lo hi _ (HI.out.1.grown hbS1)
            rw [HL2.out] at hr2
            refine hr2.mono ?_
            rintro e r2 ⟨x2, rfl, ho2, hq2⟩
            obtain ⟨ao2, c2, rfl, he2, h02⟩ := own_sl ho2
            have hbR2 : Below wr.heap.size wr r2 := hbS1.trans (hq2.mono hbS1.size)
            have HOR2 : Hid (r2.ownsRow wr.heap.size 29 4 y1 ([] ++ L1).length (flatE ([] ++ L1))) := own_below HOW1.out hq2 (Nat.le_refl _)
            have HER2 : Hid (EntsV r2 ao2 L2.length L2) := he2
            have H0R2 : Hid (ao2 = none → c2 = 0) := h02
            have HSR2 : Hid (wr.heap.size ≤ r2.heap.size) := hbR2.size
            clear hr2 ho2 hq2 he2 h02 HOW1
            go_wp2_with (at_builtin; (refine wpList_append_ents _ rfl (.tmp 57) (.tmp 61) rfl wr.heap.size y1 ([] ++ L1).length ([] ++ L1) rfl HOR2.out HSR2.out ao2 L2.length c2 L2 rfl HER2.out H0R2.out (by simp only [List.length_append, List.length_nil]; omega) ?_); intro y2 s2 hoy2 hby2)
            have hbS2 : Below wr.heap.size wr s2 := hbR2.trans hby2
            have HOW2 : Hid (s2.ownsRow wr.heap.size 29 4 y2 ([] ++ L1 ++ L2).length (flatE ([] ++ L1 ++ L2))) := hoy2
            clear hoy2 hby2 hbR2 HER2 H0R2 HSR2 HOR2
            have hr3 := range_mem (Fr B) g A hi ⟨#[]⟩ _ (HI.out.1.grown hbS2)
            rw [HL3.out] at hr3
            refine hr3.mono ?_
            rintro e r3 ⟨x3, rfl, ho3, hq3⟩
            obtain ⟨ao3, c3, rfl, he3, h03⟩ := own_sl ho3
            have hbR3 : Below wr.heap.size wr r3 := hbS2.trans (hq3.mono hbS2.size)
            have HOR3 : Hid (r3.ownsRow wr.heap.size 29 4 y2 ([] ++ L1 ++ L2).length (flatE ([] ++ L1 ++ L2))) := own_below HOW2.out hq3 (Nat.le_refl _)
            have HER3 : Hid (EntsV r3 ao3 L3.length L3) := he3
            have H0R3 : Hid (ao3 = none → c3 = 0) := h03
            have HSR3 : Hid (wr.heap.size ≤ r3.heap.size) := hbR3.size
            clear hr3 ho3 hq3 he3 h03 HOW2
            go_wp2_with (at_builtin; (refine wpList_append_ents _ rfl (.tmp 62) (.tmp 65) rfl wr.heap.size y2 ([] ++ L1 ++ L2).length ([] ++ L1 ++ L2) rfl HOR3.out HSR3.out ao3 L3.length c3 L3 rfl HER3.out H0R3.out (by simp only [List.length_append, List.length_nil]; omega) ?_); intro y3 s3 hoy3 hby3)
            have hbS3 : Below wr.heap.size wr s3 := hbR3.trans hby3
            have HOW3 : Hid (s3.ownsRow wr.heap.size 29 4 y3 ([] ++ L1 ++ L2 ++ L3).length (flatE ([] ++ L1 ++ L2 ++ L3))) := hoy3
            clear hoy3 hby3 hbR3 HER3 H0R3 HSR3 HOR3
            have hall : ([] ++ L1 ++ L2 ++ L3) = A.es := by rw [List.nil_append]; exact HJ.out
            have HOW9 : Hid (s3.ownsRow wr.heap.size 29 4 y3 A.es.length (flatE A.es)) := by
              have := HOW3.out
              rw [hall] at this
              exact this
            clear HOW3 hall HJ HL1 HL2 HL3 l1 l2 l3
            obtain ⟨ao9, c9, rfl, he9, h09⟩ := own_sl HOW9.out
            refine (all_mem (Fr B) g A s3 (HI.out.1.grown hbS3)).mono ?_
            rintro e w6 ⟨v6, rfl, ho6, hb6⟩
            obtain ⟨ao6, c6, rfl, he6, h06⟩ := own_sl ho6
            have he56 := he9.below hb6 (Nat.le_refl _)
            have hbf : Below B w w6 := HI.out.2.2.trans ((hbS3.mono hB0).trans (hb6.mono (Nat.le_trans hB0 hbS3.size)))
            clear hb6 ho6 HOW9 he9
            go_wp2_with fail
            refine (same_any ao9 A.es.length c9 A.es ao6 A.es.length c6 A.es w6 he56 he6 (by omega) (by omega)).mono ?_
            rintro e w7 ⟨rfl, hb7⟩
            rw [decide_eq_true rfl]
            have he57 := he56.below hb7 (Nat.le_refl _)
            clear he56 he6
            have hks : sortedB A.es = true := sortedB_ks.2 HI.out.1.1.ks
            go_wp2_with fail
            refine (sorted_any ao9 A.es.length c9 A.es w7 he57 (by omega)).mono ?_
            rintro e w8 ⟨rfl, hb8⟩
            rw [hks]
            clear he57 hks
            have hbf7 : Below B w w7 := hbf.trans (hb7.mono (Nat.le_trans (Nat.le_of_eq HB.out.symm) hbf.size))
            go_wp2
            go_ret
            exact ⟨rfl, hbf7.trans (hb8.mono (Nat.le_trans (Nat.le_of_eq HB.out.symm) hbf7.size))⟩
      · have hz1 : ¬ ((i : Int) < (n : Int)) := by omega
        have dz1 : decide ((i : Int) < (n : Int)) = false := decide_eq_false hz1
        have dz3 : decide (i < n) = false := decide_eq_false hni
        clear hin hni
        by_cases hgt : 0 < cmpS lo hi
        · have dg : (Op.bytesLess lo.toList hi.toList || lo.toList == hi.toList) = false := by
            rw [less_cmpS, eq_cmpS]
            have hne : lo ≠ hi := fun e => by rw [cmpS_eq.2 e] at hgt; omega
            simp [hne]; omega
          have hle : cmpS hi lo ≤ 0 := by have := (cmpS_ord.anti hi lo).2 hgt; omega
          clear hgt
          by_cases helo : hi = ⟨#[]⟩
          · have z1 : (hi.toList == []) = true := by rw [helo, Lib.toList_data]; rfl
            have HR : Hid (Calls Tryd.prog 17 #[.pointer (some ⟨g, 0, none⟩), .string ⟨#[]⟩, .string ⟨#[]⟩] wr fun e w' => ∃ v', e = .returned v' ∧ w'.ownsRow wr.heap.size 29 4 v' A.es.length (flatE A.es) ∧ Below wr.heap.size wr w') := by
              have := range_mem (Fr B) g A ⟨#[]⟩ ⟨#[]⟩ wr HI.out.1
              rw [range_all] at this
              exact this
            clear helo
            go_wp2_with fail
            refine Calls.mono HR.out ?_
            rintro e w5 ⟨v5, rfl, ho5, hb5⟩
            obtain ⟨ao5, c5, rfl, he5, h05⟩ := own_sl ho5
            go_wp2_with fail
            refine (all_mem (Fr B) g A w5 (HI.out.1.grown hb5)).mono ?_
            rintro e w6 ⟨v6, rfl, ho6, hb6⟩
            obtain ⟨ao6, c6, rfl, he6, h06⟩ := own_sl ho6
            have he56 := he5.below hb6 (Nat.le_refl _)
            have hN : A.es.length ≤ 64 := HI.out.1.1.len
            have hB0 : B ≤ wr.heap.size := Nat.le_trans (Nat.le_of_eq HB.out.symm) HI.out.2.2.size
            have hbf : Below B w w6 := HI.out.2.2.trans ((hb5.mono hB0).trans (hb6.mono (Nat.le_trans hB0 hb5.size)))
            clear hb5 hb6 he5 ho5 ho6 HR
            go_wp2_with fail
            refine (same_any ao5 A.es.length c5 A.es ao6 A.es.length c6 A.es w6 he56 he6 (by omega) (by omega)).mono ?_
            rintro e w7 ⟨rfl, hb7⟩
            rw [decide_eq_true rfl]
            clear he56 he6
            go_wp2
            go_ret
            exact ⟨rfl, hbf.trans (hb7.mono (Nat.le_trans (Nat.le_of_eq HB.out.symm) hbf.size))⟩
          · have z1 : (hi.toList == []) = false := by rw [show ([] : List UInt8) = (⟨#[]⟩ : ByteArray).toList by rw [Lib.toList_data], eq_cmpS]; exact decide_eq_false helo
            have hhi2 : lo ≠ ⟨#[]⟩ := fun e => by
              rw [e] at hle
              have h9 := (eq_or_lt hi).resolve_left helo
              have h8 := (cmpS_ord.anti ⟨#[]⟩ hi).1 h9
              omega
            have HJ : Hid (rangeL ⟨#[]⟩ hi A.es ++ rangeL hi lo A.es ++ rangeL lo ⟨#[]⟩ A.es = A.es) := ranges_join helo hhi2 hle A.es
            have hN : A.es.length ≤ 64 := HI.out.1.1.len
            have l1 := range_len ⟨#[]⟩ hi A.es
            have l2 := range_len hi lo A.es
            have l3 := range_len lo ⟨#[]⟩ A.es
            obtain ⟨L1, HL1⟩ : ∃ L, Hid (rangeL ⟨#[]⟩ hi A.es = L) := ⟨_, rfl⟩
            obtain ⟨L2, HL2⟩ : ∃ L, Hid (rangeL hi lo A.es = L) := ⟨_, rfl⟩
            obtain ⟨L3, HL3⟩ : ∃ L, Hid (rangeL lo ⟨#[]⟩ A.es = L) := ⟨_, rfl⟩
            rw [HL1.out] at l1
            rw [HL2.out] at l2
            rw [HL3.out] at l3
            rw [HL1.out, HL2.out, HL3.out] at HJ
            have hB0 : B ≤ wr.heap.size := Nat.le_trans (Nat.le_of_eq HB.out.symm) HI.out.2.2.size
            clear helo hhi2 hle
            have hbE := bel_alloc wr (.cells #[] 29)
            have HOW0 : Hid ((wr.alloc (.cells #[] 29)).ownsRow wr.heap.size 29 4 (.slice (some ⟨wr.heap.size, 0, none⟩) 0 0) 0 (flatE [])) := World.ownsRow_made wr #[] 0 (Nat.le_refl _) (by decide) rfl
            go_wp2_with fail
            have hr1 := range_mem (Fr B) g A ⟨#[]⟩ hi _ (HI.out.1.grown hbE)
            rw [HL1.out] at hr1
            refine hr1.mono ?_
            rintro e r1 ⟨x1, rfl, ho1, hq1⟩
            obtain ⟨ao1, c1, rfl, he1, h01⟩ := own_sl ho1
            have hbR1 : Below wr.heap.size wr r1 := hbE.trans (hq1.mono hbE.size)
            have HOR1 : Hid (r1.ownsRow wr.heap.size 29 4 (.slice (some ⟨wr.heap.size, 0, none⟩) 0 0) 0 (flatE ([]))) := own_below HOW0.out hq1 (Nat.le_refl _)
            have HER1 : Hid (EntsV r1 ao1 L1.length L1) := he1
            have H0R1 : Hid (ao1 = none → c1 = 0) := h01
            have HSR1 : Hid (wr.heap.size ≤ r1.heap.size) := hbR1.size
            clear hr1 ho1 hq1 he1 h01 HOW0
            go_wp2_with (at_builtin; (refine wpList_append_ents _ rfl (.tmp 53) (.tmp 56) rfl wr.heap.size (.slice (some ⟨wr.heap.size, 0, none⟩) 0 0) 0 ([]) rfl HOR1.out HSR1.out ao1 L1.length c1 L1 rfl HER1.out H0R1.out (by omega) ?_); intro y1 s1 hoy1 hby1)
            have hbS1 : Below wr.heap.size wr s1 := hbR1.trans hby1
            have HOW1 : Hid (s1.ownsRow wr.heap.size 29 4 y1 ([] ++ L1).length (flatE ([] ++ L1))) := hoy1
            clear hoy1 hby1 hbR1 HER1 H0R1 HSR1 HOR1
            have hr2 := range_mem (Fr B) g A hi lo _ (HI.out.1.grown hbS1)
            rw [HL2.out] at hr2
            refine hr2.mono ?_
            rintro e r2 ⟨x2, rfl, ho2, hq2⟩
            obtain ⟨ao2, c2, rfl, he2, h02⟩ := own_sl ho2
            have hbR2 : Below wr.heap.size wr r2 := hbS1.trans (hq2.mono hbS1.size)
            have HOR2 : Hid (r2.ownsRow wr.heap.size 29 4 y1 ([] ++ L1).length (flatE ([] ++ L1))) := own_below HOW1.out hq2 (Nat.le_refl _)
            have HER2 : Hid (EntsV r2 ao2 L2.length L2) := he2
            have H0R2 : Hid (ao2 = none → c2 = 0) := h02
            have HSR2 : Hid (wr.heap.size ≤ r2.heap.size) := hbR2.size
            clear hr2 ho2 hq2 he2 h02 HOW1
            go_wp2_with (at_builtin; (refine wpList_append_ents _ rfl (.tmp 57) (.tmp 61) rfl wr.heap.size y1 ([] ++ L1).length ([] ++ L1) rfl HOR2.out HSR2.out ao2 L2.length c2 L2 rfl HER2.out H0R2.out (by simp only [List.length_append, List.length_nil]; omega) ?_); intro y2 s2 hoy2 hby2)
            have hbS2 : Below wr.heap.size wr s2 := hbR2.trans hby2
            have HOW2 : Hid (s2.ownsRow wr.heap.size 29 4 y2 ([] ++ L1 ++ L2).length (flatE ([] ++ L1 ++ L2))) := hoy2
            clear hoy2 hby2 hbR2 HER2 H0R2 HSR2 HOR2
            have hr3 := range_mem (Fr B) g A lo ⟨#[]⟩ _ (HI.out.1.grown hbS2)
            rw [HL3.out] at hr3
            refine hr3.mono ?_
            rintro e r3 ⟨x3, rfl, ho3, hq3⟩
            obtain ⟨ao3, c3, rfl, he3, h03⟩ := own_sl ho3
            have hbR3 : Below wr.heap.size wr r3 := hbS2.trans (hq3.mono hbS2.size)
            have HOR3 : Hid (r3.ownsRow wr.heap.size 29 4 y2 ([] ++ L1 ++ L2).length (flatE ([] ++ L1 ++ L2))) := own_below HOW2.out hq3 (Nat.le_refl _)
            have HER3 : Hid (EntsV r3 ao3 L3.length L3) := he3
            have H0R3 : Hid (ao3 = none → c3 = 0) := h03
            have HSR3 : Hid (wr.heap.size ≤ r3.heap.size) := hbR3.size
            clear hr3 ho3 hq3 he3 h03 HOW2
            go_wp2_with (at_builtin; (refine wpList_append_ents _ rfl (.tmp 62) (.tmp 65) rfl wr.heap.size y2 ([] ++ L1 ++ L2).length ([] ++ L1 ++ L2) rfl HOR3.out HSR3.out ao3 L3.length c3 L3 rfl HER3.out H0R3.out (by simp only [List.length_append, List.length_nil]; omega) ?_); intro y3 s3 hoy3 hby3)
            have hbS3 : Below wr.heap.size wr s3 := hbR3.trans hby3
            have HOW3 : Hid (s3.ownsRow wr.heap.size 29 4 y3 ([] ++ L1 ++ L2 ++ L3).length (flatE ([] ++ L1 ++ L2 ++ L3))) := hoy3
            clear hoy3 hby3 hbR3 HER3 H0R3 HSR3 HOR3
            have hall : ([] ++ L1 ++ L2 ++ L3) = A.es := by rw [List.nil_append]; exact HJ.out
            have HOW9 : Hid (s3.ownsRow wr.heap.size 29 4 y3 A.es.length (flatE A.es)) := by
              have := HOW3.out
              rw [hall] at this
              exact this
            clear HOW3 hall HJ HL1 HL2 HL3 l1 l2 l3
            obtain ⟨ao9, c9, rfl, he9, h09⟩ := own_sl HOW9.out
            refine (all_mem (Fr B) g A s3 (HI.out.1.grown hbS3)).mono ?_
            rintro e w6 ⟨v6, rfl, ho6, hb6⟩
            obtain ⟨ao6, c6, rfl, he6, h06⟩ := own_sl ho6
            have he56 := he9.below hb6 (Nat.le_refl _)
            have hbf : Below B w w6 := HI.out.2.2.trans ((hbS3.mono hB0).trans (hb6.mono (Nat.le_trans hB0 hbS3.size)))
            clear hb6 ho6 HOW9 he9
            go_wp2_with fail
            refine (same_any ao9 A.es.length c9 A.es ao6 A.es.length c6 A.es w6 he56 he6 (by omega) (by omega)).mono ?_
            rintro e w7 ⟨rfl, hb7⟩
            rw [decide_eq_true rfl]
            have he57 := he56.below hb7 (Nat.le_refl _)
            clear he56 he6
            have hks : sortedB A.es = true := sortedB_ks.2 HI.out.1.1.ks
            go_wp2_with fail
            refine (sorted_any ao9 A.es.length c9 A.es w7 he57 (by omega)).mono ?_
            rintro e w8 ⟨rfl, hb8⟩
            rw [hks]
            clear he57 hks
            have hbf7 : Below B w w7 := hbf.trans (hb7.mono (Nat.le_trans (Nat.le_of_eq HB.out.symm) hbf.size))
            go_wp2
            go_ret
            exact ⟨rfl, hbf7.trans (hb8.mono (Nat.le_trans (Nat.le_of_eq HB.out.symm) hbf7.size))⟩
        · have dg : (Op.bytesLess lo.toList hi.toList || lo.toList == hi.toList) = true := by
            rw [less_cmpS, eq_cmpS]
            by_cases he : cmpS lo hi = 0
            · simp [cmpS_eq.1 he]
            · simp; left; omega
          have hle : cmpS lo hi ≤ 0 := by omega
          clear hgt
          by_cases helo : lo = ⟨#[]⟩
          · have z1 : (lo.toList == []) = true := by rw [helo, Lib.toList_data]; rfl
            have HR : Hid (Calls Tryd.prog 17 #[.pointer (some ⟨g, 0, none⟩), .string ⟨#[]⟩, .string ⟨#[]⟩] wr fun e w' => ∃ v', e = .returned v' ∧ w'.ownsRow wr.heap.size 29 4 v' A.es.length (flatE A.es) ∧ Below wr.heap.size wr w') := by
              have := range_mem (Fr B) g A ⟨#[]⟩ ⟨#[]⟩ wr HI.out.1
              rw [range_all] at this
              exact this
            clear helo
            go_wp2_with fail
            refine Calls.mono HR.out ?_
            rintro e w5 ⟨v5, rfl, ho5, hb5⟩
            obtain ⟨ao5, c5, rfl, he5, h05⟩ := own_sl ho5
            go_wp2_with fail
            refine (all_mem (Fr B) g A w5 (HI.out.1.grown hb5)).mono ?_
            rintro e w6 ⟨v6, rfl, ho6, hb6⟩
            obtain ⟨ao6, c6, rfl, he6, h06⟩ := own_sl ho6
            have he56 := he5.below hb6 (Nat.le_refl _)
            have hN : A.es.length ≤ 64 := HI.out.1.1.len
            have hB0 : B ≤ wr.heap.size := Nat.le_trans (Nat.le_of_eq HB.out.symm) HI.out.2.2.size
            have hbf : Below B w w6 := HI.out.2.2.trans ((hb5.mono hB0).trans (hb6.mono (Nat.le_trans hB0 hb5.size)))
            clear hb5 hb6 he5 ho5 ho6 HR
            go_wp2_with fail
            refine (same_any ao5 A.es.length c5 A.es ao6 A.es.length c6 A.es w6 he56 he6 (by omega) (by omega)).mono ?_
            rintro e w7 ⟨rfl, hb7⟩
            rw [decide_eq_true rfl]
            clear he56 he6
            go_wp2
            go_ret
            exact ⟨rfl, hbf.trans (hb7.mono (Nat.le_trans (Nat.le_of_eq HB.out.symm) hbf.size))⟩
          · have z1 : (lo.toList == []) = false := by rw [show ([] : List UInt8) = (⟨#[]⟩ : ByteArray).toList by rw [Lib.toList_data], eq_cmpS]; exact decide_eq_false helo
            have hhi2 : hi ≠ ⟨#[]⟩ := fun e => by
              rw [e] at hle
              have h9 := (eq_or_lt lo).resolve_left helo
              have h8 := (cmpS_ord.anti ⟨#[]⟩ lo).1 h9
              omega
            have HJ : Hid (rangeL ⟨#[]⟩ lo A.es ++ rangeL lo hi A.es ++ rangeL hi ⟨#[]⟩ A.es = A.es) := ranges_join helo hhi2 hle A.es
            have hN : A.es.length ≤ 64 := HI.out.1.1.len
            have l1 := range_len ⟨#[]⟩ lo A.es
            have l2 := range_len lo hi A.es
            have l3 := range_len hi ⟨#[]⟩ A.es
            obtain ⟨L1, HL1⟩ : ∃ L, Hid (rangeL ⟨#[]⟩ lo A.es = L) := ⟨_, rfl⟩
            obtain ⟨L2, HL2⟩ : ∃ L, Hid (rangeL lo hi A.es = L) := ⟨_, rfl⟩
            obtain ⟨L3, HL3⟩ : ∃ L, Hid (rangeL hi ⟨#[]⟩ A.es = L) := ⟨_, rfl⟩
            rw [HL1.out] at l1
            rw [HL2.out] at l2
            rw [HL3.out] at l3
            rw [HL1.out, HL2.out, HL3.out] at HJ
            have hB0 : B ≤ wr.heap.size := Nat.le_trans (Nat.le_of_eq HB.out.symm) HI.out.2.2.size
            clear helo hhi2 hle
            have hbE := bel_alloc wr (.cells #[] 29)
            have HOW0 : Hid ((wr.alloc (.cells #[] 29)).ownsRow wr.heap.size 29 4 (.slice (some ⟨wr.heap.size, 0, none⟩) 0 0) 0 (flatE [])) := World.ownsRow_made wr #[] 0 (Nat.le_refl _) (by decide) rfl
            go_wp2_with fail
            have hr1 := range_mem (Fr B) g A ⟨#[]⟩ lo _ (HI.out.1.grown hbE)
            rw [HL1.out] at hr1
            refine hr1.mono ?_
            rintro e r1 ⟨x1, rfl, ho1, hq1⟩
            obtain ⟨ao1, c1, rfl, he1, h01⟩ := own_sl ho1
            have hbR1 : Below wr.heap.size wr r1 := hbE.trans (hq1.mono hbE.size)
            have HOR1 : Hid (r1.ownsRow wr.heap.size 29 4 (.slice (some ⟨wr.heap.size, 0, none⟩) 0 0) 0 (flatE ([]))) := own_below HOW0.out hq1 (Nat.le_refl _)
            have HER1 : Hid (EntsV r1 ao1 L1.length L1) := he1
            have H0R1 : Hid (ao1 = none → c1 = 0) := h01
            have HSR1 : Hid (wr.heap.size ≤ r1.heap.size) := hbR1.size
            clear hr1 ho1 hq1 he1 h01 HOW0
            go_wp2_with (at_builtin; (refine wpList_append_ents _ rfl (.tmp 53) (.tmp 56) rfl wr.heap.size (.slice (some ⟨wr.heap.size, 0, none⟩) 0 0) 0 ([]) rfl HOR1.out HSR1.out ao1 L1.length c1 L1 rfl HER1.out H0R1.out (by omega) ?_); intro y1 s1 hoy1 hby1)
            have hbS1 : Below wr.heap.size wr s1 := hbR1.trans hby1
            have HOW1 : Hid (s1.ownsRow wr.heap.size 29 4 y1 ([] ++ L1).length (flatE ([] ++ L1))) := hoy1
            clear hoy1 hby1 hbR1 HER1 H0R1 HSR1 HOR1
            have hr2 := range_mem (Fr B) g A lo hi _ (HI.out.1.grown hbS1)
            rw [HL2.out] at hr2
            refine hr2.mono ?_
            rintro e r2 ⟨x2, rfl, ho2, hq2⟩
            obtain ⟨ao2, c2, rfl, he2, h02⟩ := own_sl ho2
            have hbR2 : Below wr.heap.size wr r2 := hbS1.trans (hq2.mono hbS1.size)
            have HOR2 : Hid (r2.ownsRow wr.heap.size 29 4 y1 ([] ++ L1).length (flatE ([] ++ L1))) := own_below HOW1.out hq2 (Nat.le_refl _)
            have HER2 : Hid (EntsV r2 ao2 L2.length L2) := he2
            have H0R2 : Hid (ao2 = none → c2 = 0) := h02
            have HSR2 : Hid (wr.heap.size ≤ r2.heap.size) := hbR2.size
            clear hr2 ho2 hq2 he2 h02 HOW1
            go_wp2_with (at_builtin; (refine wpList_append_ents _ rfl (.tmp 57) (.tmp 61) rfl wr.heap.size y1 ([] ++ L1).length ([] ++ L1) rfl HOR2.out HSR2.out ao2 L2.length c2 L2 rfl HER2.out H0R2.out (by simp only [List.length_append, List.length_nil]; omega) ?_); intro y2 s2 hoy2 hby2)
            have hbS2 : Below wr.heap.size wr s2 := hbR2.trans hby2
            have HOW2 : Hid (s2.ownsRow wr.heap.size 29 4 y2 ([] ++ L1 ++ L2).length (flatE ([] ++ L1 ++ L2))) := hoy2
            clear hoy2 hby2 hbR2 HER2 H0R2 HSR2 HOR2
            have hr3 := range_mem (Fr B) g A hi ⟨#[]⟩ _ (HI.out.1.grown hbS2)
            rw [HL3.out] at hr3
            refine hr3.mono ?_
            rintro e r3 ⟨x3, rfl, ho3, hq3⟩
            obtain ⟨ao3, c3, rfl, he3, h03⟩ := own_sl ho3
            have hbR3 : Below wr.heap.size wr r3 := hbS2.trans (hq3.mono hbS2.size)
            have HOR3 : Hid (r3.ownsRow wr.heap.size 29 4 y2 ([] ++ L1 ++ L2).length (flatE ([] ++ L1 ++ L2))) := own_below HOW2.out hq3 (Nat.le_refl _)
            have HER3 : Hid (EntsV r3 ao3 L3.length L3) := he3
            have H0R3 : Hid (ao3 = none → c3 = 0) := h03
            have HSR3 : Hid (wr.heap.size ≤ r3.heap.size) := hbR3.size
            clear hr3 ho3 hq3 he3 h03 HOW2
            go_wp2_with (at_builtin; (refine wpList_append_ents _ rfl (.tmp 62) (.tmp 65) rfl wr.heap.size y2 ([] ++ L1 ++ L2).length ([] ++ L1 ++ L2) rfl HOR3.out HSR3.out ao3 L3.length c3 L3 rfl HER3.out H0R3.out (by simp only [List.length_append, List.length_nil]; omega) ?_); intro y3 s3 hoy3 hby3)
            have hbS3 : Below wr.heap.size wr s3 := hbR3.trans hby3
            have HOW3 : Hid (s3.ownsRow wr.heap.size 29 4 y3 ([] ++ L1 ++ L2 ++ L3).length (flatE ([] ++ L1 ++ L2 ++ L3))) := hoy3
            clear hoy3 hby3 hbR3 HER3 H0R3 HSR3 HOR3
            have hall : ([] ++ L1 ++ L2 ++ L3) = A.es := by rw [List.nil_append]; exact HJ.out
            have HOW9 : Hid (s3.ownsRow wr.heap.size 29 4 y3 A.es.length (flatE A.es)) := by
              have := HOW3.out
              rw [hall] at this
              exact this
            clear HOW3 hall HJ HL1 HL2 HL3 l1 l2 l3
            obtain ⟨ao9, c9, rfl, he9, h09⟩ := own_sl HOW9.out
            refine (all_mem (Fr B) g A s3 (HI.out.1.grown hbS3)).mono ?_
            rintro e w6 ⟨v6, rfl, ho6, hb6⟩
            obtain ⟨ao6, c6, rfl, he6, h06⟩ := own_sl ho6
            have he56 := he9.below hb6 (Nat.le_refl _)
            have hbf : Below B w w6 := HI.out.2.2.trans ((hbS3.mono hB0).trans (hb6.mono (Nat.le_trans hB0 hbS3.size)))
            clear hb6 ho6 HOW9 he9
            go_wp2_with fail
            refine (same_any ao9 A.es.length c9 A.es ao6 A.es.length c6 A.es w6 he56 he6 (by omega) (by omega)).mono ?_
            rintro e w7 ⟨rfl, hb7⟩
            rw [decide_eq_true rfl]
            have he57 := he56.below hb7 (Nat.le_refl _)
            clear he56 he6
            have hks : sortedB A.es = true := sortedB_ks.2 HI.out.1.1.ks
            go_wp2_with fail
            refine (sorted_any ao9 A.es.length c9 A.es w7 he57 (by omega)).mono ?_
            rintro e w8 ⟨rfl, hb8⟩
            rw [hks]
            clear he57 hks
            have hbf7 : Below B w w7 := hbf.trans (hb7.mono (Nat.le_trans (Nat.le_of_eq HB.out.symm) hbf.size))
            go_wp2
            go_ret
            exact ⟨rfl, hbf7.trans (hb8.mono (Nat.le_trans (Nat.le_of_eq HB.out.symm) hbf7.size))⟩
end Go.Proofs.YtaamekkbgaeafaaDoor

/-
  MemFolds: the walk.
-/
import Derived.Test.YtaamekkbgaeafaaDoorFldM
import Derived.BigQuiet
namespace Go.Proofs.YtaamekkbgaeafaaDoor
open Go.RowKit
set_option linter.unusedSectionVars false
set_option linter.unusedVariables false
variable [Inhabited E] [DecidableEq E]
theorem four_kept {w w' : World} {b o : Nat} {x0 x1 x2 x3 : Value} (hb : Below w.heap.size w w') (h0 : w.cell? ⟨b, o, none⟩ = some x0) (h1 : w.cell? ⟨b, o + 1, none⟩ = some x1) (h2 : w.cell? ⟨b, o + 2, none⟩ = some x2) (h3 : w.cell? ⟨b, o + 3, none⟩ = some x3) :
    w'.cell? ⟨b, o, none⟩ = some x0 ∧ w'.cell? ⟨b, o + 1, none⟩ = some x1 ∧ w'.cell? ⟨b, o + 2, none⟩ = some x2 ∧ w'.cell? ⟨b, o + 3, none⟩ = some x3 := ⟨bel_cell hb (Nat.le_refl _) h0, bel_cell hb (Nat.le_refl _) h1, bel_cell hb (Nat.le_refl _) h2, bel_cell hb (Nat.le_refl _) h3⟩
theorem fold_more (l : List E) (e : E) : foldS (l ++ [e]) = insS (foldS l) e := by unfold foldS; rw [List.foldl_append]; rfl
theorem empty_eq (s : ByteArray) : (s.toList == []) = decide (s = ⟨#[]⟩) := by
  have := eq_cmpS s ⟨#[]⟩
  rw [Lib.toList_data ⟨#[]⟩] at this
  exact this
theorem ent_new (w : World) (e : E) : EntsV (w.alloc (Obj.cells (encE e).toArray 29)) (some ⟨w.heap.size, 0, none⟩) 1 [e] := by
  refine ⟨rfl, fun _ => ⟨_, _, rfl, fun j u hu => ?_⟩⟩
  rw [Nat.zero_add, cell_of_row _ _ _ _ _ _ (heap_alloc_new w _)]
  simpa [flatE] using hu
set_option maxRecDepth 100000 in
set_option maxHeartbeats 4000000 in
theorem folds_walk (ao : Option Addr) (n c : Nat) (es : List E) (lo hi : ByteArray) (w : World) (hE : EntsV w ao n es) (hS : Small es) (hnc : n ≤ c) (hc : c ≤ 9223372036854775807) (hK : KK w) :
    Calls Tryd.prog 4 #[.slice ao n c, .string lo, .string hi] w fun e w' => e = .returned (.bool true) ∧ Below w.heap.size w w' := by
  have hk2 := hK.2
  obtain ⟨B, HB⟩ : ∃ B, Hid (w.heap.size = B) := ⟨_, rfl⟩
  rw [HB.out] at hk2
  rw [HB.out]
  have HE : Hid (∀ W, Below B w W → EntsV W ao n es) := fun W hW => hE.below hW (by rw [HB.out]; exact Nat.le_refl _)
  obtain ⟨ie0, hie0, hze0, hze1, hze2⟩ := info_parts info23
  go_enter Tryd.func4, Tryd.ntmps4
  go_wp2_with (go_at_call 9; refine (shown_any w hK).mono ?_; rintro e w1 ⟨rfl, hb1, hk1⟩)
  rw [HB.out] at hb1
  have hs1 : B ≤ w1.heap.size := by have := hb1.size; rw [HB.out] at this; exact this
  refine (new_fr B w1 hk1 hs1 hk2).mono ?_
  rintro e w2 ⟨g, rfl, hM2, hb2, hk2x⟩
  have hb2x := hb1.trans hb2
  have HBES : Hid (Bes B w2 g mm0 (.slice none 0 0) [] (here (Fr B) w2)) := ⟨hM2.now, fun k hk => ⟨hk.1, hk.2⟩, ⟨rfl, .inl ⟨rfl, rfl⟩⟩, fun k hk => by cases hk⟩
  clear hk1 hb1 hb2 hs1 hK hE hM2
  go_wp2_with fail
  go_loopw [9, 10, 11] (fun x9 x10 _ wr => ∃ (i : Nat) (A : Mm) (l : List E) (own : Nat → Prop), x10 = .int .i64 (i : Nat) ∧ i ≤ n ∧ i ≤ 60 ∧ Hid (Bes B wr g A x9 l own ∧ KK wr ∧ Below B w wr ∧ A.es = foldS l ∧ A.last ≤ i ∧ l.length ≤ i)) (fun _ x _ _ => 60 - (intOf x).toNat)
  case atStart => exact ⟨0, mm0, [], here (Fr B) w2, rfl, by omega, by omega, HBES.out, hk2x, hb2x, rfl, (by show (0 : Int) ≤ 0; omega), (by simp)⟩
  case round =>
    obtain ⟨i, A, l, own, rfl, hi1, hi2, HI⟩ := hrel
    by_cases hin : i < n ∧ i < 60
    · obtain ⟨hi3, hi4⟩ := hin
      have hz1 : (i : Int) < (n : Int) := by omega
      have hz2 : (i : Int) < 60 := by omega
      obtain ⟨b, off, hao, hEn⟩ := (HE.out wr HI.out.2.2.1).2 (by omega)
      have hel := (HE.out wr HI.out.2.2.1).1
      subst hao
      obtain ⟨k, v, d, q, hx⟩ : ∃ k v d q, es[i]! = ⟨k, v, d, q⟩ := ⟨_, _, _, _, rfl⟩
      obtain ⟨f0, f1, f2, f3⟩ := ents_four hEn i (by rw [hel]; exact hi3) hx
      obtain ⟨sk, sv⟩ := small_at hS i (by rw [hel]; exact hi3) hx
      obtain ⟨k2, v2, HC, sk2, sv2⟩ := cut_form k v d q
      have hcc := cut_any k v d q wr sk sv
      rw [HC] at hcc
      have HCC : Hid (Calls Tryd.prog 12 #[.agg #[.string k, .string v, .bool d, .int .i64 q]] wr fun e w' => e = .returned (.agg #[.string k2, .string v2, .bool d, .int .i64 q]) ∧ Below wr.heap.size wr w') := hcc
      clear hcc HC hEn hx sk sv hel
      go_wp2_with (go_at_call 12; refine Calls.mono HCC.out ?_; rintro e w3 ⟨rfl, hb3⟩)
      have hbA : Below wr.heap.size wr (w3.alloc (Obj.cells #[Value.string k2, Value.string v2, Value.bool d, Value.int IntKind.i64 ((i : Int) + 1)] 29)) := hb3.trans ((bel_alloc w3 _).mono hb3.size)
      have hB0 : B ≤ wr.heap.size := Nat.le_trans (Nat.le_of_eq HB.out.symm) HI.out.2.2.1.size
      obtain ⟨rb, HRB⟩ : ∃ rb, Hid (rightB ⟨k2, v2, d, (i : Int) + 1⟩ = rb) := ⟨_, rfl⟩
      have hrc := right_any k2 v2 d ((i : Int) + 1) (w3.alloc (Obj.cells #[Value.string k2, Value.string v2, Value.bool d, Value.int IntKind.i64 ((i : Int) + 1)] 29)) sk2 sv2
      rw [HRB.out] at hrc
      refine hrc.mono ?_
      rintro e w4 ⟨rfl, hb4⟩
      have e4 : w4.heap[w3.heap.size]? = some (.cells #[Value.string k2, Value.string v2, Value.bool d, Value.int IntKind.i64 ((i : Int) + 1)] 29) := (hb4.block _ (by simp)).trans (heap_alloc_new w3 _)
      have hb4x : Below wr.heap.size wr w4 := hbA.trans (hb4.mono hbA.size)
      have hs34 : wr.heap.size ≤ w3.heap.size := hb3.size
      clear hrc hb4 hbA hb3 HCC f0 f1 f2 f3
      cases rb with
      | false =>
        have HN : Hid (Bes B w4 g A u9 l own ∧ KK w4 ∧ Below B w w4 ∧ A.es = foldS l ∧ A.last ≤ ((i + 1 : Nat) : Int) ∧ l.length ≤ i + 1) := ⟨HI.out.1.below hb4x, HI.out.2.1.below hb4x HI.out.2.1.2, HI.out.2.2.1.trans (hb4x.mono hB0), HI.out.2.2.2.1, (by have := HI.out.2.2.2.2.1; omega), (by have := HI.out.2.2.2.2.2; omega)⟩
        clear HI e4 hb4x
        go_wp2
        go_roundw
        case rel => exact ⟨i + 1, _, _, _, by go_num, by omega, by omega, HN⟩
        case measure => (try simp [intOf]); omega
      | true =>
        obtain ⟨c0, c1, c2, c3⟩ := four_cells e4
        have hBW : Bes B w4 g A u9 l own := HI.out.1.below hb4x
        have hK4 : KK w4 := HI.out.2.1.below hb4x HI.out.2.1.2
        have hesl : A.es.length ≤ l.length := by rw [HI.out.2.2.2.1]; exact foldS_len l
        have hpn : putN A ⟨k2, v2, d, (i : Int) + 1⟩ = 0 := putN_ok HRB.out (by have := HI.out.2.2.2.2.1; show A.last < (i : Int) + 1; omega) (by have := HI.out.2.2.2.2.2; omega)
        have hpm := put_mem own g A k2 v2 d ((i : Int) + 1) w4 hBW.mem hK4 (fun e => by have := (hBW.low 1 e).1; omega) sk2 sv2
        rw [putA_ok hpn, hpn] at hpm
        have HPM : Hid _ := hpm
        clear hpm
        go_wp2_with fail
        refine Calls.mono HPM.out ?_
        rintro e w5 ⟨rfl, hM5, ho5⟩
        have hs4 : w3.heap.size < w4.heap.size := heap_lt e4
        have e5 : w5.heap[w3.heap.size]? = some (.cells #[Value.string k2, Value.string v2, Value.bool d, Value.int IntKind.i64 ((i : Int) + 1)] 29) := (ho5.block _ hs4 (fun e => by have := ((HI.out.1.low _ e).2); omega)).trans e4
        have hK5 : KK w5 := hK4.only ho5 (fun e => by have := (hBW.low 1 e).1; omega)
        have hB4 : B ≤ w4.heap.size := Nat.le_trans hB0 hb4x.size
        have hbw5 : Below B w w5 := (HI.out.2.2.1.trans (hb4x.mono hB0)).trans (ho5.below (fun k hk => (hBW.low k hk).1) hB4)
        obtain ⟨own5, hBes5⟩ := hBW.put hM5 ho5 hB4
        have hB5 : B ≤ w5.heap.size := Nat.le_trans hB4 ho5.size
        have hbA5 := bel_alloc w5 (Obj.cells #[Value.string k2, Value.string v2, Value.bool d, Value.int IntKind.i64 ((i : Int) + 1)] 29)
        have HBA : Hid (Bes B (w5.alloc (Obj.cells #[Value.string k2, Value.string v2, Value.bool d, Value.int IntKind.i64 ((i : Int) + 1)] 29)) g ⟨insS A.es ⟨k2, v2, d, (i : Int) + 1⟩, (i : Int) + 1, linkB A.ch ⟨k2, v2, d, (i : Int) + 1⟩⟩ u9 l own5) := hBes5.below hbA5
        have HVN : Hid (∀ j u, (encE ⟨k2, v2, d, (i : Int) + 1⟩)[j]? = some u → (w5.alloc (Obj.cells #[Value.string k2, Value.string v2, Value.bool d, Value.int IntKind.i64 ((i : Int) + 1)] 29)).cell? ((⟨w5.heap.size, 0, none⟩ : Addr).add j) = some u) := fun j u hu => by
          rw [Addr.add_lit, Nat.zero_add, cell_of_row _ _ _ _ _ _ (heap_alloc_new w5 _)]; simpa [encE] using hu
        have HON : Hid (∀ u ∈ encE ⟨k2, v2, d, (i : Int) + 1⟩, u.oneCell' = true) := fun u hu => by have := flatE_one [⟨k2, v2, d, (i : Int) + 1⟩] u (by simpa [flatE] using hu); exact this
        have H63 : Hid (l.length + 1 ≤ maxLen) := by show _ ≤ _; have := HI.out.2.2.2.2.2; unfold maxLen; omega
        have H48 : Hid ((l.length + 1) * 48 ≤ 140737488355328) := by show _ ≤ _; have := HI.out.2.2.2.2.2; omega
        have HBS : Hid (B ≤ (w5.alloc (Obj.cells #[Value.string k2, Value.string v2, Value.bool d, Value.int IntKind.i64 ((i : Int) + 1)] 29)).heap.size) := by show _ ≤ _; simp; omega
        obtain ⟨x0, x1, x2, x3⟩ := four_cells e5
        clear HPM hM5 ho5 hBW hBes5 hb4x e4 c0 c1 c2 c3 hbA5
        go_wp2_with (at_builtin; refine wpList_append_lies _ rfl (.tmp 51) (.tmp 53) 35 rfl B 29 ie0 _ 4 48 Tryd.underlying35 hie0 hze0 hze1 hze2 rfl (by decide) u9 l.length (flatE l) rfl HBA.out.row ⟨w5.heap.size, 0, none⟩ 1 1 (encE ⟨k2, v2, d, (i : Int) + 1⟩) rfl rfl HVN.out HON.out (by decide) H63.out H48.out HBS.out (w5.heap.size + 1) (by simp) ?_; intro g6 cap6 w6 h6 hg6 hv6 hl6)
        have HN : Hid (Bes B w6 g ⟨insS A.es ⟨k2, v2, d, (i : Int) + 1⟩, (i : Int) + 1, linkB A.ch ⟨k2, v2, d, (i : Int) + 1⟩⟩ (.slice (some ⟨g6, 0, none⟩) (l.length + 1) cap6) (l ++ [⟨k2, v2, d, (i : Int) + 1⟩]) own5 ∧ KK w6 ∧ Below B w w6 ∧ insS A.es ⟨k2, v2, d, (i : Int) + 1⟩ = foldS (l ++ [⟨k2, v2, d, (i : Int) + 1⟩]) ∧ (i : Int) + 1 ≤ ((i + 1 : Nat) : Int) ∧ (l ++ [(⟨k2, v2, d, (i : Int) + 1⟩ : E)]).length ≤ i + 1) := by
          have hbel6 : Below B (w5.alloc (Obj.cells #[Value.string k2, Value.string v2, Value.bool d, Value.int IntKind.i64 ((i : Int) + 1)] 29)) w6 := (Below.refl _ _).grown hg6 HBS.out (fun k hk => (HBA.out.row.lt k hk).1)
          refine ⟨HBA.out.app ?_ hg6 (fun kk hk => ?_), (hK5.below (bel_alloc w5 _) hK5.2).below hbel6 hk2, hbw5.trans (((bel_alloc w5 _).mono hB5).trans hbel6), ?_, by omega, by have := HI.out.2.2.2.2.2; simp; omega⟩
          · rw [List.length_append, flatE_append]
            simpa [flatE] using h6
          · cases hk
            rcases hv6 with e | e
            · exact .inl e
            · exact .inr (by rw [e]; simp)
          · rw [fold_more, HI.out.2.2.2.1]
        clear h6 hg6 hv6 hl6 HBA HVN HON H63 H48 HBS x0 x1 x2 x3 hK5 hbw5 e5 hB5 hB4 HI
        go_wp2
        go_roundw
        case rel => exact ⟨i + 1, _, _, _, by go_num, by omega, by omega, HN⟩
        case measure => (try simp [intOf]); omega
    · by_cases hni : i < n
      · have hz1 : (i : Int) < (n : Int) := by omega
        have hz2 : ¬ ((i : Int) < 60) := by omega
        have dz2 : decide ((i : Int) < 60) = false := decide_eq_false hz2
        clear hin hni
        obtain ⟨wo, hwo⟩ : ∃ W, W = wr := ⟨_, rfl⟩
        subst hwo
        have hN : A.es.length ≤ 64 := HI.out.1.mem.1.len
        have hB0 : B ≤ wo.heap.size := Nat.le_trans (Nat.le_of_eq HB.out.symm) HI.out.2.2.1.size
        have hll : l.length ≤ 60 := by have := HI.out.2.2.2.2.2; omega
        obtain ⟨ao9, c9, rfl, he9, h09⟩ := own_sl HI.out.1.row
        have HFC : Hid _ := fold_any ao9 l.length c9 l wo he9 (by omega)
        have HE9 : Hid (A.es = foldS l) := HI.out.2.2.2.1
        clear he9 h09
        go_wp2_with fail
        refine Calls.mono HFC.out ?_
        rintro e w3 ⟨v3, rfl, ho3, hb3⟩
        rw [← HE9.out] at ho3
        have HM3 : Hid (MemAt own w3 g A) := HI.out.1.mem.grown hb3
        have hbw3 : Below B w w3 := HI.out.2.2.1.trans (hb3.mono hB0)
        have hB3 := Nat.le_trans hB0 hb3.size
        obtain ⟨ao3, c3, rfl, he3, h03⟩ := own_sl ho3
        clear HFC hb3 HI hll
        go_wp2_with fail
        refine (all_mem own g A w3 HM3.out).mono ?_
        rintro e w4 ⟨v4, rfl, ho4, hb4⟩
        obtain ⟨ao4, c4, rfl, he4, h04⟩ := own_sl ho4
        have he34 := he3.below hb4 (Nat.le_refl _)
        have HM4 : Hid (MemAt own w4 g A) := HM3.out.grown hb4
        have hbw4 : Below B w w4 := hbw3.trans (hb4.mono hB3)
        have hB4 := Nat.le_trans hB3 hb4.size
        clear hb4 ho4 ho3 he3 HM3 hbw3 hB3
        go_wp2_with fail
        refine (same_any ao4 A.es.length c4 A.es ao3 A.es.length c3 A.es w4 he4 he34 (by omega) (by omega)).mono ?_
        rintro e w5 ⟨rfl, hb5⟩
        rw [decide_eq_true rfl]
        have HE5 : Hid (∀ W, Below w5.heap.size w5 W → EntsV W ao3 A.es.length A.es) := fun W hW => (he34.below hb5 (Nat.le_refl _)).below hW (Nat.le_refl _)
        have HM5 : Hid (MemAt own w5 g A) := HM4.out.grown hb5
        have hbw5 : Below B w w5 := hbw4.trans (hb5.mono hB4)
        have hB5 := Nat.le_trans hB4 hb5.size
        clear hb5 he4 he34 HM4 hbw4 hB4
        obtain ⟨nn, hnn⟩ : ∃ nn, nn = A.es.length := ⟨_, rfl⟩
        have HNN : Hid (A.es.length = nn) := hnn.symm
        rw [← hnn] at hN
        simp only [← hnn]
        clear hnn
        go_wp2_with fail
        go_loopw [14, 15, 16, 17] (fun x14 x15 _ _ wr => ∃ j : Nat, x15 = .int .i64 j ∧ j ≤ nn ∧ Hid (wr.ownsRow w5.heap.size 29 4 x14 ((A.es.take j).filter (inR lo hi)).length (flatE ((A.es.take j).filter (inR lo hi))) ∧ Below w5.heap.size w5 wr)) (fun _ x _ _ _ => nn - (intOf x).toNat)
        case atStart => exact ⟨0, rfl, by omega, ⟨rfl, .inl ⟨rfl, rfl⟩⟩, Below.refl _ _⟩
        case round =>
          obtain ⟨j, rfl, hj, HP⟩ := hrel
          by_cases hjn : j < nn
          · have hz4 : (j : Int) < (nn : Int) := by omega
            obtain ⟨b3, off3, hao3, hEn3⟩ := (HE5.out wr HP.out.2).2 (by rw [HNN.out]; omega)
            subst hao3
            obtain ⟨k, v, d, q, hx⟩ : ∃ k v d q, A.es[j]! = ⟨k, v, d, q⟩ := ⟨_, _, _, _, rfl⟩
            obtain ⟨f0, f1, f2, f3⟩ := ents_four hEn3 j (by rw [HNN.out]; exact hjn) hx
            obtain ⟨g1, g2⟩ := get_own HM5.out.1.ks j (by rw [HNN.out]; exact hjn)
            have hgm := get_mem own g A k wr (HM5.out.grown HP.out.2)
            rw [hx] at g1 g2
            rw [show isIn k A.es = true from g1, show getV k A.es = ⟨k, v, d, q⟩ from g2] at hgm
            have HGM : Hid (Calls Tryd.prog 20 #[.pointer (some ⟨g, 0, none⟩), .string k] wr fun e w' => e = .returned (.tuple #[.agg #[.string k, .string v, .bool d, .int .i64 q], .bool true]) ∧ Below wr.heap.size wr w') := hgm
            have HX : Hid (A.es[j]! = ⟨k, v, d, q⟩) := hx
            have HSN : Hid _ := filter_snoc (inR lo hi) A.es j (by rw [HNN.out]; exact hjn)
            clear hgm g1 g2 hx hEn3
            go_wp2_with (go_at_call 20; refine Calls.mono HGM.out ?_; rintro e w7 ⟨rfl, hb7⟩; obtain ⟨s0, s1, s2, s3⟩ := four_kept hb7 f0 f1 f2 f3)
            have HB7 : Hid (Below wr.heap.size wr (w7.alloc (Obj.cells #[.string k, .string v, .bool d, .int .i64 q] 29))) := hb7.trans ((bel_alloc w7 _).mono hb7.size)
            obtain ⟨W8, hW8⟩ : ∃ W8, W8 = w7.alloc (Obj.cells #[.string k, .string v, .bool d, .int .i64 q] 29) := ⟨_, rfl⟩
            rw [← hW8] at HB7 ⊢
            have x8 : W8.heap[w7.heap.size]? = some (.cells #[.string k, .string v, .bool d, .int .i64 q] 29) := by rw [hW8]; exact heap_alloc_new w7 _
            obtain ⟨t0, t1, t2, t3⟩ := four_cells x8
            obtain ⟨y0, y1, y2, y3⟩ := four_kept HB7.out f0 f1 f2 f3
            have heq := fun w => equal23 k v d q k v d q w
            simp only [decide_true] at heq
            have hgd := guard23
            clear hW8 x8 hb7 f0 f1 f2 f3 HGM s0 s1 s2 s3
            go_quiet (fail)
            have HBQ : Hid (Below wr.heap.size wr (W8.drewN nq)) := bel_drewN HB7.out nq
            have q0 : (W8.drewN nq).cell? ⟨b3, off3 + j * 4, none⟩ = some (.string k) := y0
            have q1 : (W8.drewN nq).cell? ⟨b3, off3 + j * 4 + 1, none⟩ = some (.string v) := y1
            have q2 : (W8.drewN nq).cell? ⟨b3, off3 + j * 4 + 2, none⟩ = some (.bool d) := y2
            have q3 : (W8.drewN nq).cell? ⟨b3, off3 + j * 4 + 3, none⟩ = some (.int .i64 q) := y3
            obtain ⟨W9, hW9⟩ : ∃ W9, W9 = W8.drewN nq := ⟨_, rfl⟩
            rw [← hW9] at HBQ q0 q1 q2 q3 ⊢
            clear hW9 y0 y1 y2 y3 t0 t1 t2 t3 heq HB7
            have HIN : Hid (inR lo hi ⟨k, v, d, q⟩ = (!(decide (cmpS k lo < 0)) && (decide (hi = ⟨#[]⟩) || decide (cmpS k hi < 0)))) := rfl
            have hs5 : w5.heap.size ≤ wr.heap.size := HP.out.2.size
            have HNX : Hid (W9.ownsRow w5.heap.size 29 4 u14 ((A.es.take j).filter (inR lo hi)).length (flatE ((A.es.take j).filter (inR lo hi))) ∧ Below w5.heap.size w5 W9) := ⟨row_block HP.out.1 (fun k hk => HBQ.out.block k (HP.out.1.lt k hk).2), HP.out.2.trans (HBQ.out.mono hs5)⟩
            clear HP HBQ
            obtain ⟨a1, ha1⟩ : ∃ a, Op.bytesLess k.toList lo.toList = a := ⟨_, rfl⟩
            obtain ⟨a2, ha2⟩ : ∃ a, (hi.toList == []) = a := ⟨_, rfl⟩
            obtain ⟨a3, ha3⟩ : ∃ a, Op.bytesLess k.toList hi.toList = a := ⟨_, rfl⟩
            have HA : Hid (inR lo hi ⟨k, v, d, q⟩ = (!a1 && (a2 || a3))) := by
              show _ = _
              rw [HIN.out, ← ha1, ← ha2, ← ha3, less_cmpS, less_cmpS, empty_eq]
            clear HIN
            cases a1 with
            | true =>
              have hF : inR lo hi ⟨k, v, d, q⟩ = false := by rw [HA.out]; rfl
              have HN2 : Hid (W9.ownsRow w5.heap.size 29 4 u14 ((A.es.take (j + 1)).filter (inR lo hi)).length (flatE ((A.es.take (j + 1)).filter (inR lo hi))) ∧ Below w5.heap.size w5 W9) := by
                have h1 := HSN.out
                rw [HX.out, hF] at h1
                have h2 : (A.es.take (j + 1)).filter (inR lo hi) = (A.es.take j).filter (inR lo hi) := by rw [h1]; simp
                rw [h2]
                exact HNX.out
              clear hF HNX HA HSN HX
              go_wp2
              go_roundw
              case rel => exact ⟨j + 1, by go_num, by omega, HN2⟩
              case measure => (try simp [intOf]); omega
            | false =>
              cases a2 with
              | true =>
                have hF : inR lo hi ⟨k, v, d, q⟩ = true := by rw [HA.out]; rfl
                obtain ⟨L, HL⟩ : ∃ L, Hid ((A.es.take j).filter (inR lo hi) = L) := ⟨_, rfl⟩
                have HNL : Hid (L.length ≤ 64) := by show _ ≤ _; rw [← HL.out]; have := List.length_filter_le (inR lo hi) (A.es.take j); rw [List.length_take] at this; omega
                have HO9 : Hid ((W9.alloc (Obj.cells #[.string k, .string v, .bool d, .int .i64 q] 29)).ownsRow w5.heap.size 29 4 u14 L.length (flatE L)) := by
                  have := HNX.out.1
                  rw [HL.out] at this
                  exact own_below this (bel_alloc W9 _) (Nat.le_refl _)
                have HB9 : Hid (w5.heap.size ≤ (W9.alloc (Obj.cells #[.string k, .string v, .bool d, .int .i64 q] 29)).heap.size) := by show _ ≤ _; have := HNX.out.2.size; simp; omega
                have HE9x : Hid (EntsV (W9.alloc (Obj.cells #[.string k, .string v, .bool d, .int .i64 q] 29)) (some ⟨W9.heap.size, 0, none⟩) 1 [(⟨k, v, d, q⟩ : E)]) := ent_new W9 ⟨k, v, d, q⟩
                have HBB : Hid (Below w5.heap.size w5 (W9.alloc (Obj.cells #[.string k, .string v, .bool d, .int .i64 q] 29))) := HNX.out.2.trans ((bel_alloc W9 _).mono HNX.out.2.size)
                clear HNX
                go_wp2_with (at_builtin; (refine wpList_append_ents _ rfl (.tmp 107) (.tmp 112) rfl w5.heap.size u14 L.length L rfl HO9.out HB9.out (some ⟨W9.heap.size, 0, none⟩) 1 1 [(⟨k, v, d, q⟩ : E)] rfl HE9x.out (fun e => by cases e) (by have := HNL.out; omega) ?_); intro y9 s9 hoy9 hby9)
                have HN2 : Hid (s9.ownsRow w5.heap.size 29 4 y9 ((A.es.take (j + 1)).filter (inR lo hi)).length (flatE ((A.es.take (j + 1)).filter (inR lo hi))) ∧ Below w5.heap.size w5 s9) := by
                  have h1 := HSN.out
                  rw [HX.out, hF, HL.out] at h1
                  have h2 : (A.es.take (j + 1)).filter (inR lo hi) = L ++ [(⟨k, v, d, q⟩ : E)] := by rw [h1]; simp
                  rw [h2]
                  exact ⟨hoy9, HBB.out.trans hby9⟩
                clear hF HA HSN HX hoy9 hby9 HBB HE9x HB9 HO9
                go_wp2
                go_roundw
                case rel => exact ⟨j + 1, by go_num, by omega, HN2⟩
                case measure => (try simp [intOf]); omega
              | false =>
                cases a3 with
                | true =>
                  have hF : inR lo hi ⟨k, v, d, q⟩ = true := by rw [HA.out]; rfl
                  obtain ⟨L, HL⟩ : ∃ L, Hid ((A.es.take j).filter (inR lo hi) = L) := ⟨_, rfl⟩
                  have HNL : Hid (L.length ≤ 64) := by show _ ≤ _; rw [← HL.out]; have := List.length_filter_le (inR lo hi) (A.es.take j); rw [List.length_take] at this; omega
                  have HO9 : Hid ((W9.alloc (Obj.cells #[.string k, .string v, .bool d, .int .i64 q] 29)).ownsRow w5.heap.size 29 4 u14 L.length (flatE L)) := by
                    have := HNX.out.1
                    rw [HL.out] at this
                    exact own_below this (bel_alloc W9 _) (Nat.le_refl _)
                  have HB9 : Hid (w5.heap.size ≤ (W9.alloc (Obj.cells #[.string k, .string v, .bool d, .int .i64 q] 29)).heap.size) := by show _ ≤ _; have := HNX.out.2.size; simp; omega
                  have HE9x : Hid (EntsV (W9.alloc (Obj.cells #[.string k, .string v, .bool d, .int .i64 q] 29)) (some ⟨W9.heap.size, 0, none⟩) 1 [(⟨k, v, d, q⟩ : E)]) := ent_new W9 ⟨k, v, d, q⟩
                  have HBB : Hid (Below w5.heap.size w5 (W9.alloc (Obj.cells #[.string k, .string v, .bool d, .int .i64 q] 29))) := HNX.out.2.trans ((bel_alloc W9 _).mono HNX.out.2.size)
                  clear HNX
                  go_wp2_with (at_builtin; (refine wpList_append_ents _ rfl (.tmp 107) (.tmp 112) rfl w5.heap.size u14 L.length L rfl HO9.out HB9.out (some ⟨W9.heap.size, 0, none⟩) 1 1 [(⟨k, v, d, q⟩ : E)] rfl HE9x.out (fun e => by cases e) (by have := HNL.out; omega) ?_); intro y9 s9 hoy9 hby9)
                  have HN2 : Hid (s9.ownsRow w5.heap.size 29 4 y9 ((A.es.take (j + 1)).filter (inR lo hi)).length (flatE ((A.es.take (j + 1)).filter (inR lo hi))) ∧ Below w5.heap.size w5 s9) := by
                    have h1 := HSN.out
                    rw [HX.out, hF, HL.out] at h1
                    have h2 : (A.es.take (j + 1)).filter (inR lo hi) = L ++ [(⟨k, v, d, q⟩ : E)] := by rw [h1]; simp
                    rw [h2]
                    exact ⟨hoy9, HBB.out.trans hby9⟩
                  clear hF HA HSN HX hoy9 hby9 HBB HE9x HB9 HO9
                  go_wp2
                  go_roundw
                  case rel => exact ⟨j + 1, by go_num, by omega, HN2⟩
                  case measure => (try simp [intOf]); omega
                | false =>
                  have hF : inR lo hi ⟨k, v, d, q⟩ = false := by rw [HA.out]; rfl
                  have HN2 : Hid (W9.ownsRow w5.heap.size 29 4 u14 ((A.es.take (j + 1)).filter (inR lo hi)).length (flatE ((A.es.take (j + 1)).filter (inR lo hi))) ∧ Below w5.heap.size w5 W9) := by
                    have h1 := HSN.out
                    rw [HX.out, hF] at h1
                    have h2 : (A.es.take (j + 1)).filter (inR lo hi) = (A.es.take j).filter (inR lo hi) := by rw [h1]; simp
                    rw [h2]
                    exact HNX.out
                  clear hF HNX HA HSN HX
                  go_wp2
                  go_roundw
                  case rel => exact ⟨j + 1, by go_num, by omega, HN2⟩
                  case measure => (try simp [intOf]); omega
          · have hz4 : ¬ ((j : Int) < (nn : Int)) := by omega
            have hjeq : j = nn := by omega
            have hfil : (A.es.take j).filter (inR lo hi) = rangeL lo hi A.es := by rw [range_filter lo hi HM5.out.1.ks, List.take_of_length_le (by rw [HNN.out]; omega)]
            have ho6 := HP.out.1
            rw [hfil] at ho6
            obtain ⟨ao6, c6, rfl, he6, h06⟩ := own_sl ho6
            have HMr : Hid (MemAt own wr g A) := HM5.out.grown HP.out.2
            have hbwr : Below B w wr := hbw5.trans (HP.out.2.mono hB5)
            have hBr := Nat.le_trans hB5 HP.out.2.size
            have hrl := range_len lo hi A.es
            rw [HNN.out] at hrl
            clear HP ho6 hfil hjeq hjn
            go_wp2_with fail
            refine (range_mem own g A lo hi wr HMr.out).mono ?_
            rintro e w7 ⟨v7, rfl, ho7, hb7⟩
            obtain ⟨ao7, c7, rfl, he7, h07⟩ := own_sl ho7
            have he67 := he6.below hb7 (Nat.le_refl _)
            have HM7 : Hid (MemAt own w7 g A) := HMr.out.grown hb7
            have hbw7 : Below B w w7 := hbwr.trans (hb7.mono hBr)
            have hB7 := Nat.le_trans hBr hb7.size
            clear ho7 he6 hb7 HMr hbwr hBr
            go_wp2_with fail
            refine (same_any ao7 _ c7 _ ao6 _ c6 _ w7 he7 he67 (by omega) (by omega)).mono ?_
            rintro e w8 ⟨rfl, hb8⟩
            rw [decide_eq_true rfl]
            have HL8 : Hid (Calls Tryd.prog 24 #[.pointer (some ⟨g, 0, none⟩)] w8 fun e w' => e = .returned (.int .i64 (nn : Nat)) ∧ w' = w8) := by
              have := len_any own g A w8 (HM7.out.grown hb8)
              rw [HNN.out] at this
              exact this
            have hbw8 : Below B w w8 := hbw7.trans (hb8.mono hB7)
            clear he7 he67 hb8 HM7
            go_wp2_with (go_at_call 24; refine Calls.mono HL8.out ?_; rintro e wx ⟨rfl, rfl⟩)
            go_ret
            exact ⟨rfl, hbw8⟩
      · have hz1 : ¬ ((i : Int) < (n : Int)) := by omega
        have dz1 : decide ((i : Int) < (n : Int)) = false := decide_eq_false hz1
        have dz3 : decide (i < n) = false := decide_eq_false hni
        clear hin hni
        obtain ⟨wo, hwo⟩ : ∃ W, W = wr := ⟨_, rfl⟩
        subst hwo
        have hN : A.es.length ≤ 64 := HI.out.1.mem.1.len
        have hB0 : B ≤ wo.heap.size := Nat.le_trans (Nat.le_of_eq HB.out.symm) HI.out.2.2.1.size
        have hll : l.length ≤ 60 := by have := HI.out.2.2.2.2.2; omega
        obtain ⟨ao9, c9, rfl, he9, h09⟩ := own_sl HI.out.1.row
        have HFC : Hid _ := fold_any ao9 l.length c9 l wo he9 (by omega)
        have HE9 : Hid (A.es = foldS l) := HI.out.2.2.2.1
        clear he9 h09
        go_wp2_with fail
        refine Calls.mono HFC.out ?_
        rintro e w3 ⟨v3, rfl, ho3, hb3⟩
        rw [← HE9.out] at ho3
        have HM3 : Hid (MemAt own w3 g A) := HI.out.1.mem.grown hb3
        have hbw3 : Below B w w3 := HI.out.2.2.1.trans (hb3.mono hB0)
        have hB3 := Nat.le_trans hB0 hb3.size
        obtain ⟨ao3, c3, rfl, he3, h03⟩ := own_sl ho3
        clear HFC hb3 HI hll
        go_wp2_with fail
        refine (all_mem own g A w3 HM3.out).mono ?_
        rintro e w4 ⟨v4, rfl, ho4, hb4⟩
        obtain ⟨ao4, c4, rfl, he4, h04⟩ := own_sl ho4
        have he34 := he3.below hb4 (Nat.le_refl _)
        have HM4 : Hid (MemAt own w4 g A) := HM3.out.grown hb4
        have hbw4 : Below B w w4 := hbw3.trans (hb4.mono hB3)
        have hB4 := Nat.le_trans hB3 hb4.size
        clear hb4 ho4 ho3 he3 HM3 hbw3 hB3
        go_wp2_with fail
        refine (same_any ao4 A.es.length c4 A.es ao3 A.es.length c3 A.es w4 he4 he34 (by omega) (by omega)).mono ?_
        rintro e w5 ⟨rfl, hb5⟩
        rw [decide_eq_true rfl]
        have HE5 : Hid (∀ W, Below w5.heap.size w5 W → EntsV W ao3 A.es.length A.es) := fun W hW => (he34.below hb5 (Nat.le_refl _)).below hW (Nat.le_refl _)
        have HM5 : Hid (MemAt own w5 g A) := HM4.out.grown hb5
        have hbw5 : Below B w w5 := hbw4.trans (hb5.mono hB4)
        have hB5 := Nat.le_trans hB4 hb5.size
        clear hb5 he4 he34 HM4 hbw4 hB4
        obtain ⟨nn, hnn⟩ : ∃ nn, nn = A.es.length := ⟨_, rfl⟩
        have HNN : Hid (A.es.length = nn) := hnn.symm
        rw [← hnn] at hN
        simp only [← hnn]
        clear hnn
        go_wp2_with fail
        go_loopw [14, 15, 16, 17] (fun x14 x15 _ _ wr => ∃ j : Nat, x15 = .int .i64 j ∧ j ≤ nn ∧ Hid (wr.ownsRow w5.heap.size 29 4 x14 ((A.es.take j).filter (inR lo hi)).length (flatE ((A.es.take j).filter (inR lo hi))) ∧ Below w5.heap.size w5 wr)) (fun _ x _ _ _ => nn - (intOf x).toNat)
        case atStart => exact ⟨0, rfl, by omega, ⟨rfl, .inl ⟨rfl, rfl⟩⟩, Below.refl _ _⟩
        case round =>
          obtain ⟨j, rfl, hj, HP⟩ := hrel
          by_cases hjn : j < nn
          · have hz4 : (j : Int) < (nn : Int) := by omega
            obtain ⟨b3, off3, hao3, hEn3⟩ := (HE5.out wr HP.out.2).2 (by rw [HNN.out]; omega)
            subst hao3
            obtain ⟨k, v, d, q, hx⟩ : ∃ k v d q, A.es[j]! = ⟨k, v, d, q⟩ := ⟨_, _, _, _, rfl⟩
            obtain ⟨f0, f1, f2, f3⟩ := ents_four hEn3 j (by rw [HNN.out]; exact hjn) hx
            obtain ⟨g1, g2⟩ := get_own HM5.out.1.ks j (by rw [HNN.out]; exact hjn)
            have hgm := get_mem own g A k wr (HM5.out.grown HP.out.2)
            rw [hx] at g1 g2
            rw [show isIn k A.es = true from g1, show getV k A.es = ⟨k, v, d, q⟩ from g2] at hgm
            have HGM : Hid (Calls Tryd.prog 20 #[.pointer (some ⟨g, 0, none⟩), .string k] wr fun e w' => e = .returned (.tuple #[.agg #[.string k, .string v, .bool d, .int .i64 q], .bool true]) ∧ Below wr.heap.size wr w') := hgm
            have HX : Hid (A.es[j]! = ⟨k, v, d, q⟩) := hx
            have HSN : Hid _ := filter_snoc (inR lo hi) A.es j (by rw [HNN.out]; exact hjn)
            clear hgm g1 g2 hx hEn3
            go_wp2_with (go_at_call 20; refine Calls.mono HGM.out ?_; rintro e w7 ⟨rfl, hb7⟩; obtain ⟨s0, s1, s2, s3⟩ := four_kept hb7 f0 f1 f2 f3)
            have HB7 : Hid (Below wr.heap.size wr (w7.alloc (Obj.cells #[.string k, .string v, .bool d, .int .i64 q] 29))) := hb7.trans ((bel_alloc w7 _).mono hb7.size)
            obtain ⟨W8, hW8⟩ : ∃ W8, W8 = w7.alloc (Obj.cells #[.string k, .string v, .bool d, .int .i64 q] 29) := ⟨_, rfl⟩
            rw [← hW8] at HB7 ⊢
            have x8 : W8.heap[w7.heap.size]? = some (.cells #[.string k, .string v, .bool d, .int .i64 q] 29) := by rw [hW8]; exact heap_alloc_new w7 _
            obtain ⟨t0, t1, t2, t3⟩ := four_cells x8
            obtain ⟨y0, y1, y2, y3⟩ := four_kept HB7.out f0 f1 f2 f3
            have heq := fun w => equal23 k v d q k v d q w
            simp only [decide_true] at heq
            have hgd := guard23
            clear hW8 x8 hb7 f0 f1 f2 f3 HGM s0 s1 s2 s3
            go_quiet (fail)
            have HBQ : Hid (Below wr.heap.size wr (W8.drewN nq)) := bel_drewN HB7.out nq
            have q0 : (W8.drewN nq).cell? ⟨b3, off3 + j * 4, none⟩ = some (.string k) := y0
            have q1 : (W8.drewN nq).cell? ⟨b3, off3 + j * 4 + 1, none⟩ = some (.string v) := y1
            have q2 : (W8.drewN nq).cell? ⟨b3, off3 + j * 4 + 2, none⟩ = some (.bool d) := y2
            have q3 : (W8.drewN nq).cell? ⟨b3, off3 + j * 4 + 3, none⟩ = some (.int .i64 q) := y3
            obtain ⟨W9, hW9⟩ : ∃ W9, W9 = W8.drewN nq := ⟨_, rfl⟩
            rw [← hW9] at HBQ q0 q1 q2 q3 ⊢
            clear hW9 y0 y1 y2 y3 t0 t1 t2 t3 heq HB7
            have HIN : Hid (inR lo hi ⟨k, v, d, q⟩ = (!(decide (cmpS k lo < 0)) && (decide (hi = ⟨#[]⟩) || decide (cmpS k hi < 0)))) := rfl
            have hs5 : w5.heap.size ≤ wr.heap.size := HP.out.2.size
            have HNX : Hid (W9.ownsRow w5.heap.size 29 4 u14 ((A.es.take j).filter (inR lo hi)).length (flatE ((A.es.take j).filter (inR lo hi))) ∧ Below w5.heap.size w5 W9) := ⟨row_block HP.out.1 (fun k hk => HBQ.out.block k (HP.out.1.lt k hk).2), HP.out.2.trans (HBQ.out.mono hs5)⟩
            clear HP HBQ
            obtain ⟨a1, ha1⟩ : ∃ a, Op.bytesLess k.toList lo.toList = a := ⟨_, rfl⟩
            obtain ⟨a2, ha2⟩ : ∃ a, (hi.toList == []) = a := ⟨_, rfl⟩
            obtain ⟨a3, ha3⟩ : ∃ a, Op.bytesLess k.toList hi.toList = a := ⟨_, rfl⟩
            have HA : Hid (inR lo hi ⟨k, v, d, q⟩ = (!a1 && (a2 || a3))) := by
              show _ = _
              rw [HIN.out, ← ha1, ← ha2, ← ha3, less_cmpS, less_cmpS, empty_eq]
            clear HIN
            cases a1 with
            | true =>
              have hF : inR lo hi ⟨k, v, d, q⟩ = false := by rw [HA.out]; rfl
              have HN2 : Hid (W9.ownsRow w5.heap.size 29 4 u14 ((A.es.take (j + 1)).filter (inR lo hi)).length (flatE ((A.es.take (j + 1)).filter (inR lo hi))) ∧ Below w5.heap.size w5 W9) := by
                have h1 := HSN.out
                rw [HX.out, hF] at h1
                have h2 : (A.es.take (j + 1)).filter (inR lo hi) = (A.es.take j).filter (inR lo hi) := by rw [h1]; simp
                rw [h2]
                exact HNX.out
              clear hF HNX HA HSN HX
              go_wp2
              go_roundw
              case rel => exact ⟨j + 1, by go_num, by omega, HN2⟩
              case measure => (try simp [intOf]); omega
            | false =>
              cases a2 with
              | true =>
                have hF : inR lo hi ⟨k, v, d, q⟩ = true := by rw [HA.out]; rfl
                obtain ⟨L, HL⟩ : ∃ L, Hid ((A.es.take j).filter (inR lo hi) = L) := ⟨_, rfl⟩
                have HNL : Hid (L.length ≤ 64) := by show _ ≤ _; rw [← HL.out]; have := List.length_filter_le (inR lo hi) (A.es.take j); rw [List.length_take] at this; omega
                have HO9 : Hid ((W9.alloc (Obj.cells #[.string k, .string v, .bool d, .int .i64 q] 29)).ownsRow w5.heap.size 29 4 u14 L.length (flatE L)) := by
                  have := HNX.out.1
                  rw [HL.out] at this
                  exact own_below this (bel_alloc W9 _) (Nat.le_refl _)
                have HB9 : Hid (w5.heap.size ≤ (W9.alloc (Obj.cells #[.string k, .string v, .bool d, .int .i64 q] 29)).heap.size) := by show _ ≤ _; have := HNX.out.2.size; simp; omega
                have HE9x : Hid (EntsV (W9.alloc (Obj.cells #[.string k, .string v, .bool d, .int .i64 q] 29)) (some ⟨W9.heap.size, 0, none⟩) 1 [(⟨k, v, d, q⟩ : E)]) := ent_new W9 ⟨k, v, d, q⟩
                have HBB : Hid (Below w5.heap.size w5 (W9.alloc (Obj.cells #[.string k, .string v, .bool d, .int .i64 q] 29))) := HNX.out.2.trans ((bel_alloc W9 _).mono HNX.out.2.size)
                clear HNX
                go_wp2_with (at_builtin; (refine wpList_append_ents _ rfl (.tmp 107) (.tmp 112) rfl w5.heap.size u14 L.length L rfl HO9.out HB9.out (some ⟨W9.heap.size, 0, none⟩) 1 1 [(⟨k, v, d, q⟩ : E)] rfl HE9x.out (fun e => by cases e) (by have := HNL.out; omega) ?_); intro y9 s9 hoy9 hby9)
                have HN2 : Hid (s9.ownsRow w5.heap.size 29 4 y9 ((A.es.take (j + 1)).filter (inR lo hi)).length (flatE ((A.es.take (j + 1)).filter (inR lo hi))) ∧ Below w5.heap.size w5 s9) := by
                  have h1 := HSN.out
                  rw [HX.out, hF, HL.out] at h1
                  have h2 : (A.es.take (j + 1)).filter (inR lo hi) = L ++ [(⟨k, v, d, q⟩ : E)] := by rw [h1]; simp
                  rw [h2]
                  exact ⟨hoy9, HBB.out.trans hby9⟩
                clear hF HA HSN HX hoy9 hby9 HBB HE9x HB9 HO9
                go_wp2
                go_roundw
                case rel => exact ⟨j + 1, by go_num, by omega, HN2⟩
                case measure => (try simp [intOf]); omega
              | false =>
                cases a3 with
                | true =>
                  have hF : inR lo hi ⟨k, v, d, q⟩ = true := by rw [HA.out]; rfl
                  obtain ⟨L, HL⟩ : ∃ L, Hid ((A.es.take j).filter (inR lo hi) = L) := ⟨_, rfl⟩
                  have HNL : Hid (L.length ≤ 64) := by show _ ≤ _; rw [← HL.out]; have := List.length_filter_le (inR lo hi) (A.es.take j); rw [List.length_take] at this; omega
                  have HO9 : Hid ((W9.alloc (Obj.cells #[.string k, .string v, .bool d, .int .i64 q] 29)).ownsRow w5.heap.size 29 4 u14 L.length (flatE L)) := by
                    have := HNX.out.1
                    rw [HL.out] at this
                    exact own_below this (bel_alloc W9 _) (Nat.le_refl _)
                  have HB9 : Hid (w5.heap.size ≤ (W9.alloc (Obj.cells #[.string k, .string v, .bool d, .int .i64 q] 29)).heap.size) := by show _ ≤ _; have := HNX.out.2.size; simp; omega
                  have HE9x : Hid (EntsV (W9.alloc (Obj.cells #[.string k, .string v, .bool d, .int .i64 q] 29)) (some ⟨W9.heap.size, 0, none⟩) 1 [(⟨k, v, d, q⟩ : E)]) := ent_new W9 ⟨k, v, d, q⟩
                  have HBB : Hid (Below w5.heap.size w5 (W9.alloc (Obj.cells #[.string k, .string v, .bool d, .int .i64 q] 29))) := HNX.out.2.trans ((bel_alloc W9 _).mono HNX.out.2.size)
                  clear HNX
                  go_wp2_with (at_builtin; (refine wpList_append_ents _ rfl (.tmp 107) (.tmp 112) rfl w5.heap.size u14 L.length L rfl HO9.out HB9.out (some ⟨W9.heap.size, 0, none⟩) 1 1 [(⟨k, v, d, q⟩ : E)] rfl HE9x.out (fun e => by cases e) (by have := HNL.out; omega) ?_); intro y9 s9 hoy9 hby9)
                  have HN2 : Hid (s9.ownsRow w5.heap.size 29 4 y9 ((A.es.take (j + 1)).filter (inR lo hi)).length (flatE ((A.es.take (j + 1)).filter (inR lo hi))) ∧ Below w5.heap.size w5 s9) := by
                    have h1 := HSN.out
                    rw [HX.out, hF, HL.out] at h1
                    have h2 : (A.es.take (j + 1)).filter (inR lo hi) = L ++ [(⟨k, v, d, q⟩ : E)] := by rw [h1]; simp
                    rw [h2]
                    exact ⟨hoy9, HBB.out.trans hby9⟩
                  clear hF HA HSN HX hoy9 hby9 HBB HE9x HB9 HO9
                  go_wp2
                  go_roundw
                  case rel => exact ⟨j + 1, by go_num, by omega, HN2⟩
                  case measure => (try simp [intOf]); omega
                | false =>
                  have hF : inR lo hi ⟨k, v, d, q⟩ = false := by rw [HA.out]; rfl
                  have HN2 : Hid (W9.ownsRow w5.heap.size 29 4 u14 ((A.es.take (j + 1)).filter (inR lo hi)).length (flatE ((A.es.take (j + 1)).filter (inR lo hi))) ∧ Below w5.heap.size w5 W9) := by
                    have h1 := HSN.out
                    rw [HX.out, hF] at h1
                    have h2 : (A.es.take (j + 1)).filter (inR lo hi) = (A.es.take j).filter (inR lo hi) := by rw [h1]; simp
                    rw [h2]
                    exact HNX.out
                  clear hF HNX HA HSN HX
                  go_wp2
                  go_roundw
                  case rel => exact ⟨j + 1, by go_num, by omega, HN2⟩
                  case measure => (try simp [intOf]); omega
          · have hz4 : ¬ ((j : Int) < (nn : Int)) := by omega
            have hjeq : j = nn := by omega
            have hfil : (A.es.take j).filter (inR lo hi) = rangeL lo hi A.es := by rw [range_filter lo hi HM5.out.1.ks, List.take_of_length_le (by rw [HNN.out]; omega)]
            have ho6 := HP.out.1
            rw [hfil] at ho6
            obtain ⟨ao6, c6, rfl, he6, h06⟩ := own_sl ho6
            have HMr : Hid (MemAt own wr g A) := HM5.out.grown HP.out.2
            have hbwr : Below B w wr := hbw5.trans (HP.out.2.mono hB5)
            have hBr := Nat.le_trans hB5 HP.out.2.size
            have hrl := range_len lo hi A.es
            rw [HNN.out] at hrl
            clear HP ho6 hfil hjeq hjn
            go_wp2_with fail
            refine (range_mem own g A lo hi wr HMr.out).mono ?_
            rintro e w7 ⟨v7, rfl, ho7, hb7⟩
            obtain ⟨ao7, c7, rfl, he7, h07⟩ := own_sl ho7
            have he67 := he6.below hb7 (Nat.le_refl _)
            have HM7 : Hid (MemAt own w7 g A) := HMr.out.grown hb7
            have hbw7 : Below B w w7 := hbwr.trans (hb7.mono hBr)
            have hB7 := Nat.le_trans hBr hb7.size
            clear ho7 he6 hb7 HMr hbwr hBr
            go_wp2_with fail
            refine (same_any ao7 _ c7 _ ao6 _ c6 _ w7 he7 he67 (by omega) (by omega)).mono ?_
            rintro e w8 ⟨rfl, hb8⟩
            rw [decide_eq_true rfl]
            have HL8 : Hid (Calls Tryd.prog 24 #[.pointer (some ⟨g, 0, none⟩)] w8 fun e w' => e = .returned (.int .i64 (nn : Nat)) ∧ w' = w8) := by
              have := len_any own g A w8 (HM7.out.grown hb8)
              rw [HNN.out] at this
              exact this
            have hbw8 : Below B w w8 := hbw7.trans (hb8.mono hB7)
            clear he7 he67 hb8 HM7
            go_wp2_with (go_at_call 24; refine Calls.mono HL8.out ?_; rintro e wx ⟨rfl, rfl⟩)
            go_ret
            exact ⟨rfl, hbw8⟩
end Go.Proofs.YtaamekkbgaeafaaDoor

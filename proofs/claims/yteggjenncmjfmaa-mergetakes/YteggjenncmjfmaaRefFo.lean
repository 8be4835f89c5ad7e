/-
  What the document's Fold answers: a contract over this translation.
-/
import Derived.Test.YteggjenncmjfmaaRefF
import Derived.Test.YteggjenncmjfmaaMapD
namespace Go.Proofs.Yteggjenncmjfmaa
open Go.RowKit Go.Sort Go.Shelf
set_option linter.unusedSectionVars false
variable [Inhabited E] [DecidableEq E]
theorem step_append_entsk {ops : Array Oper} {o : Oper} {a : Act} {K : Act → World → Prop} {Q : Exit → Act → World → Prop} {E0 : Prop} (w : World)
    (hg : o.guard = none) (s x : Operand) (hop : o.op = Op.call { callee := Callee.builtin Builtin.append, args := #[s, x], argTypes := #[25, 25] })
    (base : Nat) (v : Value) (n : Nat) (xs : List E) (hs : a.eval s = v) (hown : w.ownsRow base 29 4 v n (flatE xs)) (hbase : base ≤ w.heap.size)
    (ao : Option Addr) (m c : Nat) (ys : List E) (hx : a.eval x = .slice ao m c) (hE : EntsV w ao m ys) (h0 : ao = none → c = 0)
    (hb : n + m ≤ 1000000000000)
    (hK : ∀ v' w', w'.ownsRow base 29 4 v' (xs ++ ys).length (flatE (xs ++ ys)) → Below base w w' → (∀ k, k < w.heap.size → some k ≠ v.ownBlock → w'.heap[k]? = w.heap[k]?) → K (a.put o.dst v') w') :
    if Region.wanted o (yielded ops a.tmps) = true then Oper.wp Try.prog o a w K Q else E0 := by
  have hw : Region.wanted o (yielded ops a.tmps) = true := by simp [Region.wanted, hg]
  rw [if_pos hw]
  obtain ⟨i0, hi, hz0, hz1, hz2⟩ := info_parts info23
  have hn : n = xs.length := by have := hown.1; rw [flatE_len] at this; omega
  have hml := hE.1
  cases ao with
  | none =>
    have hm : m = 0 := by
      by_cases hp : 0 < m
      · obtain ⟨b, off, h1, _⟩ := hE.2 hp; cases h1
      · omega
    obtain rfl := h0 rfl
    subst hm
    have hys : ys = [] := List.eq_nil_of_length_eq_zero hml
    subst hys
    have hrun := run_append_owned_none (P := Try.prog) (w := w) base 25 o.type 29 i0 4 Try.underlying25 hi v n (flatE xs) hown
    unfold Oper.wp
    simp [execOp, hop, resolve, invoke, builtin, hs, hx, hrun, Result.andThen]
    exact hK v w (by rw [List.append_nil, ← hn]; exact hown) (Below.refl _ _) (fun _ _ _ => rfl)
  | some ad =>
    refine wp_append_own w s x 25 hop base 29 i0 _ 4 48 Try.underlying25 hi hz0 hz1 hz2 rfl (by decide) v n (flatE xs) hs hown ad m c (flatE ys) hx (by rw [flatE_len]; omega) ?_ (flatE_one ys) (by unfold maxLen; omega) (by omega) hbase ?_
    · intro j u hu
      have hp : 0 < m := by
        have := (List.getElem?_eq_some_iff.1 hu).1
        rw [flatE_len] at this; omega
      obtain ⟨b, off, h1, h2⟩ := hE.2 hp
      cases h1
      rw [Addr.add_lit]
      exact h2 j u hu
    · intro v' w' h1 h2 _
      refine hK v' w' ?_ ((Below.refl _ _).grown h2 hbase (fun k hk => (hown.lt k hk).1)) h2.block
      rw [List.length_append, hml, ← hn, flatE_append]
      exact h1
theorem entsV_block {w w' : World} {g n : Nat} {es : List E} (h : EntsV w (some ⟨g, 0, none⟩) n es) (hb : w'.heap[g]? = w.heap[g]?) : EntsV w' (some ⟨g, 0, none⟩) n es := by
  refine ⟨h.1, fun hp => ?_⟩
  obtain ⟨b, off, h1, h2⟩ := h.2 hp
  cases h1
  refine ⟨g, 0, rfl, fun j u hu => ?_⟩
  rw [World.cell?_of_block (w := w) (a := ⟨g, 0 + j, none⟩) hb]
  exact h2 j u hu
theorem ent_one (w : World) (k v : ByteArray) (d : Bool) (q : Int) : EntsV (w.alloc (Obj.cells #[.string k, .string v, .bool d, .int .i64 q] 29)) (some ⟨w.heap.size, 0, none⟩) 1 [⟨k, v, d, q⟩] := by
  refine ⟨rfl, fun _ => ⟨_, 0, rfl, fun j u hu => ?_⟩⟩
  have := ent_laid w k v d q j u (by simpa [flatE] using hu)
  rwa [Addr.add_lit] at this
set_option maxRecDepth 100000 in
set_option maxHeartbeats 8000000 in
theorem refFold_any (ao : Option Addr) (n c : Nat) (es : List E) (w : World) (hE : EntsV w ao n es) (hbig : n ≤ 1000000) :
    Calls Try.prog 23 #[.slice ao n c] w fun e w' => ∃ v', e = .returned v' ∧ w'.ownsRow w.heap.size 29 4 v' (foldS es).length (flatE (foldS es)) ∧ Below w.heap.size w w' := by
  have HE : Hid (EntsV w ao n es) := hE
  have HLN : Hid (es.length = n) := hE.1
  clear hE
  go_enter Try.func23, Try.ntmps23
  go_wp2
  go_loopw [3, 4, 5, 6] (fun o x _ _ wr => ∃ i : Nat, x = .int .i64 i ∧ i ≤ n ∧ Hid (wr.ownsRow w.heap.size 29 4 o (foldS (es.take i)).length (flatE (foldS (es.take i)))) ∧ Hid (Below w.heap.size w wr)) (fun _ x _ _ _ => n - (intOf x).toNat)
  case atStart => exact ⟨0, rfl, by omega, World.ownsRow_nil _ _ _ _, Below.refl _ _⟩
  case round =>
    obtain ⟨i, rfl, hin, HO, HB⟩ := hrel
    by_cases hlt : i < n
    · have hltz : (i : Int) < (n : Int) := by omega
      have hies : i < es.length := by rw [HLN.out]; exact hlt
      obtain ⟨b, off, hao, hEn⟩ := HE.out.2 (by omega)
      obtain ⟨k0, v0, d0, q0, HX⟩ : ∃ k0 v0 d0 q0, Hid (es[i]! = E.mk k0 v0 d0 q0) := ⟨_, _, _, _, rfl⟩
      have HEN : Hid (∀ W, Below w.heap.size w W → W.cell? ⟨b, off + i * 4, none⟩ = some (.string k0) ∧ W.cell? ⟨b, off + i * 4 + 1, none⟩ = some (.string v0) ∧ W.cell? ⟨b, off + i * 4 + 2, none⟩ = some (.bool d0) ∧ W.cell? ⟨b, off + i * 4 + 3, none⟩ = some (.int .i64 q0)) := by
        show ∀ _, _
        intro W hW
        exact ents_four (hEn.below hW (Nat.le_refl _)) i hies HX.out
      have HSN : Hid (foldS (es.take (i + 1)) = insS (foldS (es.take i)) ⟨k0, v0, d0, q0⟩) := by
        show _ = _
        rw [foldS_snoc es i hies, HX.out]
      have hkO := ks_foldS (es.take i)
      have hlO := foldS_len (es.take i)
      rw [List.length_take] at hlO
      obtain ⟨O, HOO⟩ : ∃ O, Hid (foldS (es.take i) = O) := ⟨_, rfl⟩
      rw [HOO.out] at HO HSN hkO hlO
      obtain ⟨lo, HLO⟩ : ∃ l, Hid (O.length = l) := ⟨_, rfl⟩
      rw [HLO.out] at HO hlO
      have hlo : lo ≤ 1000000 := by omega
      subst hao
      clear hEn hlO
      have hrow : ∃ aoO cO, u3 = .slice aoO lo cO ∧ EntsV wr aoO lo O ∧ (aoO = none → cO = 0) ∧ lo ≤ cO ∧ cO ≤ 9223372036854775807 := by
        obtain ⟨a, c, h1, h2, h3⟩ := own_entsV0 HO.out HLO.out
        subst h1
        refine ⟨a, c, rfl, h2, h3, ?_⟩
        rcases HO.out.2 with ⟨h', h0⟩ | ⟨g, cap, cur, h', _, _, hnc, hcm, _⟩
        · injection h' with ha hb hc; omega
        · injection h' with ha hb hc; unfold maxLen at hcm; omega
      obtain ⟨aoO, cO, hv, hEO, h0O, hlc, hcO⟩ := hrow
      subst hv
      have HFI : Hid _ := refFind_any aoO lo cO O k0 wr hEO (by omega)
      have hisin := ks_isIn k0 hkO
      have hins := insS_place ⟨k0, v0, d0, q0⟩ hkO
      simp only at hins
      have hmle := belowN_le k0 O
      obtain ⟨m, HM⟩ : ∃ m, Hid (belowN k0 O = m) := ⟨_, rfl⟩
      obtain ⟨y, HY⟩ : ∃ y, Hid (isIn k0 O = y) := ⟨_, rfl⟩
      rw [HM.out, HY.out] at HFI hisin hins
      rw [HM.out, HLO.out] at hmle
      rw [HLO.out] at hisin
      have HINS : Hid _ := hins
      have HISIN : Hid _ := hisin
      have HEO : Hid (EntsV wr aoO lo O) := hEO
      have hcell := HEN.out wr HB.out
      obtain ⟨c0, c1, c2, c3⟩ := hcell
      clear hEO hins hisin hkO
      go_wp2_with fail
      refine Calls.mono HFI.out ?_
      rintro e w1 ⟨rfl, hb1⟩
      have HB1 : Hid (Below w.heap.size w w1) := HB.out.trans (hb1.mono HB.out.size)
      have HO1 : Hid (w1.ownsRow w.heap.size 29 4 (.slice aoO lo cO) lo (flatE O)) := own_below HO.out hb1 (Nat.le_refl _)
      have HEO1 : Hid (EntsV w1 aoO lo O) := HEO.out.below hb1 (Nat.le_refl _)
      clear hb1 c0 c1 c2 c3 HFI HEO HO HB
      have HS : Hid (∀ W, Below w1.heap.size w1 W → W.cell? ⟨b, off + i * 4, none⟩ = some (.string k0) ∧ W.cell? ⟨b, off + i * 4 + 1, none⟩ = some (.string v0) ∧ W.cell? ⟨b, off + i * 4 + 2, none⟩ = some (.bool d0) ∧ W.cell? ⟨b, off + i * 4 + 3, none⟩ = some (.int .i64 q0)) := by
        show ∀ _, _
        intro W hW
        exact HEN.out W (HB1.out.trans (hW.mono HB1.out.size))
      clear HEN
      cases y with
      | true =>
        have hml : m < lo := by
          have := HISIN.out
          by_cases h : m < lo
          · exact h
          · rw [decide_eq_false h] at this; simp at this
        have hmlz : (m : Int) < (lo : Int) := by omega
        obtain ⟨g, cg, hvv, hEg, hgb⟩ := own_shapeE HO1.out (by omega)
        injection hvv with hv1 _ hv3
        subst hv1
        subst hv3
        obtain ⟨kx, vx, dx, qx, HXX⟩ : ∃ k0 v0 d0 q0, Hid (O[m]! = E.mk k0 v0 d0 q0) := ⟨_, _, _, _, rfl⟩
        obtain ⟨s0, s1, s2, s3⟩ := ents_four hEg m (by rw [HLO.out]; exact hml) HXX.out
        simp only [Nat.zero_add] at s0 s1 s2 s3
        obtain ⟨c0, c1, c2, c3⟩ := HS.out w1 (Below.refl _ _)
        obtain ⟨_, hbg, hgw, _, _, _, hfz⟩ := own_cells HO1.out
        have f0 := hfz (m * 4)
        have f1 := hfz (m * 4 + 1)
        have f2 := hfz (m * 4 + 2)
        have f3 := hfz (m * 4 + 3)
        clear hEg hfz
        by_cases hq : qx ≤ q0
        · have dq : decide (qx ≤ q0) = true := decide_eq_true hq
          have HIN : Hid (foldS (es.take (i + 1)) = O.set m ⟨k0, v0, d0, q0⟩) := by
            show _ = _
            rw [HSN.out, HINS.out, if_pos rfl, HXX.out, if_pos hq]
          have HLS : Hid ((O.set m ⟨k0, v0, d0, q0⟩).length = lo) := by show _ = _; rw [List.length_set, HLO.out]
          go_wp2_with fail
          go_quiet (fail)
          have hO2 : (w1.drewN nq).ownsRow w.heap.size 29 4 (.slice (some ⟨g, 0, none⟩) lo cO) lo (flatE O) := own_below HO1.out (bel_drewN (Below.refl _ _) nq) (Nat.le_refl _)
          have HO3 : Hid (World.ownsRow _ w.heap.size 29 4 (.slice (some ⟨g, 0, none⟩) lo cO) lo (flatE (O.set m ⟨k0, v0, d0, q0⟩))) := own_set hO2 m hml k0 v0 d0 q0
          have HB3 : Hid (Below w.heap.size w (((((w1.drewN nq).setCell ⟨g, m * 4, none⟩ (.string k0)).setCell ⟨g, m * 4 + 1, none⟩ (.string v0)).setCell ⟨g, m * 4 + 2, none⟩ (.bool d0)).setCell ⟨g, m * 4 + 3, none⟩ (.int .i64 q0))) := ((((bel_drewN HB1.out nq).setCell (p := ⟨g, m * 4, none⟩) hgb (.string k0)).setCell (p := ⟨g, m * 4 + 1, none⟩) hgb (.string v0)).setCell (p := ⟨g, m * 4 + 2, none⟩) hgb (.bool d0)).setCell (p := ⟨g, m * 4 + 3, none⟩) hgb (.int .i64 q0)
          clear hO2
          go_wp2
          go_roundw
          case rel => exact ⟨i + 1, by go_num, by omega, by rw [HIN.out, HLS.out]; exact HO3, HB3⟩
          case measure => simp [intOf]; omega
        · have dq : decide (qx ≤ q0) = false := decide_eq_false hq
          have HIN : Hid (foldS (es.take (i + 1)) = O) := by
            show _ = _
            rw [HSN.out, HINS.out, if_pos rfl, HXX.out, if_neg hq]
          go_wp2_with fail
          go_quiet (fail)
          have HO3 : Hid ((w1.drewN nq).ownsRow w.heap.size 29 4 (.slice (some ⟨g, 0, none⟩) lo cO) lo (flatE O)) := own_below HO1.out (bel_drewN (Below.refl _ _) nq) (Nat.le_refl _)
          have HB3 : Hid (Below w.heap.size w (w1.drewN nq)) := bel_drewN HB1.out nq
          go_wp2
          go_roundw
          case rel => exact ⟨i + 1, by go_num, by omega, by rw [HIN.out, HLO.out]; exact HO3, HB3⟩
          case measure => simp [intOf]; omega
      | false =>
        have HIN : Hid (foldS (es.take (i + 1)) = (O.take m ++ [⟨k0, v0, d0, q0⟩]) ++ O.drop m) := by
          show _ = _
          rw [HSN.out, HINS.out]; simp
        obtain ⟨aoD, hif⟩ : ∃ a, (if cO = m then aoO else Option.map (fun x => x.add (m * 4)) aoO) = a := ⟨_, rfl⟩
        have hED := HEO1.out.from m hmle hlc
        rw [hif] at hED
        have hD0 : aoD = none → cO - m = 0 := by
          intro h
          rw [h] at hif
          by_cases hcm : cO = m
          · omega
          · rw [if_neg hcm] at hif
            cases aoO with
            | none => have := h0O rfl; omega
            | some a => cases hif
        have hT0 : aoO = none → cO = 0 := h0O
        have HT1 : Hid (∀ W, Below w1.heap.size w1 W → EntsV W aoO m (O.take m)) := by
          show ∀ _, _
          intro W hW
          exact (HEO1.out.take m hmle).below hW (Nat.le_refl _)
        have HT2 : Hid (∀ W, Below w1.heap.size w1 W → EntsV W aoD (lo - m) (O.drop m)) := by
          show ∀ _, _
          intro W hW
          exact hED.below hW (Nat.le_refl _)
        have HLT : Hid ((O.take m).length = m) := by show _ = _; rw [List.length_take, HLO.out]; omega
        have z1 : (m : Int) ≤ (lo : Int) := by omega
        have z2 : (m : Int) ≤ (cO : Int) := by omega
        have z3 : (lo : Int) ≤ (cO : Int) := by omega
        clear hED h0O
        go_upto_region 9 with fail
        refine wp_region_noPanic ?_
        refine wp_region_held_drew (S := fun w' => w'.cell? ⟨b, off + i * 4, none⟩ = some (.string k0) ∧ w'.cell? ⟨b, off + i * 4 + 1, none⟩ = some (.string v0) ∧ w'.cell? ⟨b, off + i * 4 + 2, none⟩ = some (.bool d0) ∧ w'.cell? ⟨b, off + i * 4 + 3, none⟩ = some (.int .i64 q0)) (by kernel_rfl) (HS.out _ (Below.drew (Below.refl _ _))) (fun hHeld => ?_)
        refine wpAnyH_take (i := 1) (v := ?_) rfl (by kernel_rfl) (by kernel_rfl) (by kernel_rfl) (fun _ _ _ h => h) (Or.inl ⟨by rfl, ?_⟩) (by assumption) ?_
        rotate_left
        · (intro w hSw; (try dsimp only at hSw); go_simp; try with_reducible rfl)
        simp only [Act.put, List.getElem_toArray, List.getElem_cons_zero, List.getElem_cons_succ, List.setIfInBounds_toArray, List.set_cons_zero, List.set_cons_succ]
        refine wpAnyH_take (i := 2) (v := ?_) rfl (by kernel_rfl) (by kernel_rfl) (by kernel_rfl) (fun _ _ _ h => h) (Or.inl ⟨by rfl, ?_⟩) (by assumption) ?_
        rotate_left
        · (intro w hSw; (try dsimp only at hSw); go_simp; try with_reducible rfl)
        simp only [Act.put, List.getElem_toArray, List.getElem_cons_zero, List.getElem_cons_succ, List.setIfInBounds_toArray, List.set_cons_zero, List.set_cons_succ]
        refine wpAnyH_take (i := 3) (v := ?_) rfl (by kernel_rfl) (by kernel_rfl) (by kernel_rfl) (fun _ _ _ h => h) (Or.inl ⟨by rfl, ?_⟩) (by assumption) ?_
        rotate_left
        · (intro w hSw; (try dsimp only at hSw); go_simp; try with_reducible rfl)
        simp only [Act.put, List.getElem_toArray, List.getElem_cons_zero, List.getElem_cons_succ, List.setIfInBounds_toArray, List.set_cons_zero, List.set_cons_succ]
        refine wpAnyH_take (i := 5) (v := ?_) rfl (by kernel_rfl) (by kernel_rfl) (by kernel_rfl) (fun _ _ _ h => h) (Or.inl ⟨by rfl, ?_⟩) (by assumption) ?_
        rotate_left
        · (intro w hSw; (try dsimp only at hSw); go_simp; try with_reducible rfl)
        simp only [Act.put, List.getElem_toArray, List.getElem_cons_zero, List.getElem_cons_succ, List.setIfInBounds_toArray, List.set_cons_zero, List.set_cons_succ]
        refine wpAnyH_take (i := 6) (v := ?_) rfl (by kernel_rfl) (by kernel_rfl) (by kernel_rfl) (fun _ _ _ h => h) (Or.inl ⟨by rfl, ?_⟩) (by assumption) ?_
        rotate_left
        · (intro w hSw; (try dsimp only at hSw); go_simp; try with_reducible rfl)
        simp only [Act.put, List.getElem_toArray, List.getElem_cons_zero, List.getElem_cons_succ, List.setIfInBounds_toArray, List.set_cons_zero, List.set_cons_succ]
        refine wpAnyH_take (i := 7) (v := ?_) rfl (by kernel_rfl) (by kernel_rfl) (by kernel_rfl) (fun _ _ _ h => h) (Or.inl ⟨by rfl, ?_⟩) (by assumption) ?_
        rotate_left
        · (intro w hSw; (try dsimp only at hSw); go_simp; try with_reducible rfl)
        simp only [Act.put, List.getElem_toArray, List.getElem_cons_zero, List.getElem_cons_succ, List.setIfInBounds_toArray, List.set_cons_zero, List.set_cons_succ]
        refine wpAnyH_take (i := 8) (v := ?_) rfl (by kernel_rfl) (by kernel_rfl) (by kernel_rfl) (fun _ _ _ h => h) (Or.inl ⟨by rfl, ?_⟩) (by assumption) ?_
        rotate_left
        · (intro w hSw; (try dsimp only at hSw); go_simp; try with_reducible rfl)
        simp only [Act.put, List.getElem_toArray, List.getElem_cons_zero, List.getElem_cons_succ, List.setIfInBounds_toArray, List.set_cons_zero, List.set_cons_succ]
        refine wpAnyH_take (i := 11) (v := ?_) rfl (by kernel_rfl) (by kernel_rfl) (by kernel_rfl) (fun _ _ _ h => h) (Or.inl ⟨by rfl, ?_⟩) (by assumption) ?_
        rotate_left
        · (intro w hSw; (try dsimp only at hSw); go_simp; try with_reducible rfl)
        simp only [Act.put, List.getElem_toArray, List.getElem_cons_zero, List.getElem_cons_succ, List.setIfInBounds_toArray, List.set_cons_zero, List.set_cons_succ]
        refine wpAnyH_take (i := 12) (v := ?_) rfl (by kernel_rfl) (by kernel_rfl) (by kernel_rfl) (fun _ _ _ h => h) (Or.inl ⟨by rfl, ?_⟩) (by assumption) ?_
        rotate_left
        · (intro w hSw; (try dsimp only at hSw); go_simp; try with_reducible rfl)
        simp only [Act.put, List.getElem_toArray, List.getElem_cons_zero, List.getElem_cons_succ, List.setIfInBounds_toArray, List.set_cons_zero, List.set_cons_succ]
        refine wpAnyH_take (i := 13) (v := ?_) rfl (by kernel_rfl) (by kernel_rfl) (by kernel_rfl) (fun _ _ _ h => h) (Or.inl ⟨by rfl, ?_⟩) (by assumption) ?_
        rotate_left
        · (intro w hSw; (try dsimp only at hSw); go_simp; try with_reducible rfl)
        simp only [Act.put, List.getElem_toArray, List.getElem_cons_zero, List.getElem_cons_succ, List.setIfInBounds_toArray, List.set_cons_zero, List.set_cons_succ]
        refine wpAnyH_ready (rs := [0, 9]) (by kernel_rfl) (by simp) ?_
        refine AllReadyH.cons rfl (fun K hK => ?_) ?_
        · go_simp
          have hWA : Below w1.heap.size w1 ((w1.drew).alloc (.cells #[] 29)) := (Below.drew (Below.refl w1.heap.size w1)).alloc (Below.drew (Below.refl w1.heap.size w1)).size _
          have hOA : ((w1.drew).alloc (.cells #[] 29)).ownsRow w1.heap.size 29 4 (.slice (some ⟨(w1.drew).heap.size, 0, none⟩) 0 0) 0 (flatE []) := ownsRow_mono (own_emptyE (w1.drew)) (Below.drew (Below.refl w1.heap.size w1)).size
          refine hK.out _ _ (HS.out _ hWA) (fun hHeld2 => ?_)
          clear hK K
          refine wpAnyH_ready (rs := [4, 9]) (by kernel_rfl) (by simp) ?_
          refine AllReadyH.cons rfl (fun K hK => ?_) ?_
          · refine step_append_entsk _ rfl (.tmp 42) (.tmp 45) rfl w1.heap.size (.slice (some ⟨(w1.drew).heap.size, 0, none⟩) 0 0) 0 [] rfl hOA hWA.size _ _ _ (O.take m) rfl (HT1.out _ hWA) hT0 (by omega) ?_
            intro vP wP hownP hbP hkP
            rw [List.nil_append, HLT.out] at hownP
            have hWP : Below w1.heap.size w1 wP := hWA.trans hbP
            refine hK.out _ _ (HS.out _ hWP) (fun hHeld2 => ?_)
            clear hK K
            simp only [Act.put, List.getElem_toArray, List.getElem_cons_zero, List.getElem_cons_succ, List.setIfInBounds_toArray, List.set_cons_zero, List.set_cons_succ]
            have hownQ' := hownP
            refine wpAnyH_ready (rs := [9]) (by kernel_rfl) (by simp) ?_
            refine AllReadyH.cons rfl (fun K hK => ?_) ?_
            rotate_left
            · exact AllReadyH.nil
            go_simp
            have hWB : Below w1.heap.size w1 ((wP).alloc (.cells #[.string k0, .string v0, .bool d0, .int .i64 q0] 29)) := hWP.alloc hWP.size _
            have hXB : EntsV ((wP).alloc (.cells #[.string k0, .string v0, .bool d0, .int .i64 q0] 29)) (some ⟨(wP).heap.size, 0, none⟩) 1 [(⟨k0, v0, d0, q0⟩ : E)] := ent_one (wP) k0 v0 d0 q0
            refine hK.out _ _ (HS.out _ hWB) (fun hHeld2 => ?_)
            clear hK K
            have hownQ := hownP.alloc (.cells #[.string k0, .string v0, .bool d0, .int .i64 q0] 29)
            refine wpAnyH_ready (rs := [10]) (by kernel_rfl) (by simp) ?_
            refine AllReadyH.cons rfl (fun K hK => ?_) ?_
            rotate_left
            · exact AllReadyH.nil
            refine step_append_entsk _ rfl (.tmp 46) (.tmp 51) rfl w1.heap.size _ m (O.take m) rfl hownQ hWB.size _ _ _ [(⟨k0, v0, d0, q0⟩ : E)] rfl hXB (fun h => by cases h) (by omega) ?_
            intro vQ wQ hownR hbQ hkQ
            rw [List.length_append, HLT.out, List.length_singleton] at hownR
            have hWQ : Below w1.heap.size w1 wQ := hWB.trans hbQ
            refine hK.out _ _ (HS.out _ hWQ) (fun hHeld2 => ?_)
            clear hK K
            simp only [Act.put, List.getElem_toArray, List.getElem_cons_zero, List.getElem_cons_succ, List.setIfInBounds_toArray, List.set_cons_zero, List.set_cons_succ]
            refine wpAnyH_ready (rs := [14]) (by kernel_rfl) (by simp) ?_
            refine AllReadyH.cons rfl (fun K hK => ?_) ?_
            rotate_left
            · exact AllReadyH.nil
            refine step_append_entsk _ rfl (.tmp 52) (.tmp 55) rfl w1.heap.size _ (m + 1) (O.take m ++ [(⟨k0, v0, d0, q0⟩ : E)]) rfl hownR hWQ.size _ _ _ (O.drop m) rfl (HT2.out _ hWQ) hD0 (by omega) ?_
            intro vR wR hownS hbR hkR
            have hWR : Below w1.heap.size w1 wR := hWQ.trans hbR
            have HOZ : Hid (wR.ownsRow w.heap.size 29 4 vR ((O.take m ++ [(⟨k0, v0, d0, q0⟩ : E)]) ++ O.drop m).length (flatE ((O.take m ++ [(⟨k0, v0, d0, q0⟩ : E)]) ++ O.drop m))) := ownsRow_mono hownS HB1.out.size
            have HBZ : Hid (Below w.heap.size w wR) := HB1.out.trans (hWR.mono HB1.out.size)
            refine hK.out _ _ (HS.out _ hWR) (fun hHeld2 => ?_)
            clear hK K
            simp only [Act.put, List.getElem_toArray, List.getElem_cons_zero, List.getElem_cons_succ, List.setIfInBounds_toArray, List.set_cons_zero, List.set_cons_succ]
            refine wpAnyH_take (i := 15) (v := ?_) rfl (by kernel_rfl) (by kernel_rfl) (by kernel_rfl) (fun _ _ _ h => h) (Or.inl ⟨by rfl, ?_⟩) (by assumption) ?_
            rotate_left
            · (intro w hSw; (try dsimp only at hSw); go_simp; try with_reducible rfl)
            simp only [Act.put, List.getElem_toArray, List.getElem_cons_zero, List.getElem_cons_succ, List.setIfInBounds_toArray, List.set_cons_zero, List.set_cons_succ]
            refine wpAnyH_done (by kernel_rfl) ?_ _
            refine NoPanic.normal ?_
            rw [← HIN.out] at HOZ
            clear hHeld
            go_wp2
            go_roundw
            case rel => exact ⟨i + 1, by go_num, by omega, HOZ, HBZ⟩
            case measure => simp [intOf]; omega
          refine AllReadyH.cons rfl (fun K hK => ?_) AllReadyH.nil
          go_simp
          have hWB : Below w1.heap.size w1 (((w1.drew).alloc (.cells #[] 29)).alloc (.cells #[.string k0, .string v0, .bool d0, .int .i64 q0] 29)) := hWA.alloc hWA.size _
          have hXB : EntsV (((w1.drew).alloc (.cells #[] 29)).alloc (.cells #[.string k0, .string v0, .bool d0, .int .i64 q0] 29)) (some ⟨((w1.drew).alloc (.cells #[] 29)).heap.size, 0, none⟩) 1 [(⟨k0, v0, d0, q0⟩ : E)] := ent_one ((w1.drew).alloc (.cells #[] 29)) k0 v0 d0 q0
          refine hK.out _ _ (HS.out _ hWB) (fun hHeld2 => ?_)
          clear hK K
          refine wpAnyH_ready (rs := [4]) (by kernel_rfl) (by simp) ?_
          refine AllReadyH.cons rfl (fun K hK => ?_) ?_
          rotate_left
          · exact AllReadyH.nil
          refine step_append_entsk _ rfl (.tmp 42) (.tmp 45) rfl w1.heap.size (.slice (some ⟨(w1.drew).heap.size, 0, none⟩) 0 0) 0 [] rfl (hOA.alloc _) hWB.size _ _ _ (O.take m) rfl (HT1.out _ hWB) hT0 (by omega) ?_
          intro vP wP hownP hbP hkP
          rw [List.nil_append, HLT.out] at hownP
          have hWP : Below w1.heap.size w1 wP := hWB.trans hbP
          refine hK.out _ _ (HS.out _ hWP) (fun hHeld2 => ?_)
          clear hK K
          simp only [Act.put, List.getElem_toArray, List.getElem_cons_zero, List.getElem_cons_succ, List.setIfInBounds_toArray, List.set_cons_zero, List.set_cons_succ]
          have hownQ := hownP
          have hXP : EntsV wP (some ⟨((w1.drew).alloc (.cells #[] 29)).heap.size, 0, none⟩) 1 [(⟨k0, v0, d0, q0⟩ : E)] := entsV_block hXB (hkP _ (by simp) (by simp [Value.ownBlock]))
          rw [show ((w1.drew).alloc (.cells #[] 29)).heap.size = w1.heap.size + 1 by simp] at hXP
          refine wpAnyH_ready (rs := [10]) (by kernel_rfl) (by simp) ?_
          refine AllReadyH.cons rfl (fun K hK => ?_) ?_
          rotate_left
          · exact AllReadyH.nil
          refine step_append_entsk _ rfl (.tmp 46) (.tmp 51) rfl w1.heap.size _ m (O.take m) rfl hownQ hWP.size _ _ _ [(⟨k0, v0, d0, q0⟩ : E)] rfl hXP (fun h => by cases h) (by omega) ?_
          intro vQ wQ hownR hbQ hkQ
          rw [List.length_append, HLT.out, List.length_singleton] at hownR
          have hWQ : Below w1.heap.size w1 wQ := hWP.trans hbQ
          refine hK.out _ _ (HS.out _ hWQ) (fun hHeld2 => ?_)
          clear hK K
          simp only [Act.put, List.getElem_toArray, List.getElem_cons_zero, List.getElem_cons_succ, List.setIfInBounds_toArray, List.set_cons_zero, List.set_cons_succ]
          refine wpAnyH_ready (rs := [14]) (by kernel_rfl) (by simp) ?_
          refine AllReadyH.cons rfl (fun K hK => ?_) ?_
          rotate_left
          · exact AllReadyH.nil
          refine step_append_entsk _ rfl (.tmp 52) (.tmp 55) rfl w1.heap.size _ (m + 1) (O.take m ++ [(⟨k0, v0, d0, q0⟩ : E)]) rfl hownR hWQ.size _ _ _ (O.drop m) rfl (HT2.out _ hWQ) hD0 (by omega) ?_
          intro vR wR hownS hbR hkR
          have hWR : Below w1.heap.size w1 wR := hWQ.trans hbR
          have HOZ : Hid (wR.ownsRow w.heap.size 29 4 vR ((O.take m ++ [(⟨k0, v0, d0, q0⟩ : E)]) ++ O.drop m).length (flatE ((O.take m ++ [(⟨k0, v0, d0, q0⟩ : E)]) ++ O.drop m))) := ownsRow_mono hownS HB1.out.size
          have HBZ : Hid (Below w.heap.size w wR) := HB1.out.trans (hWR.mono HB1.out.size)
          refine hK.out _ _ (HS.out _ hWR) (fun hHeld2 => ?_)
          clear hK K
          simp only [Act.put, List.getElem_toArray, List.getElem_cons_zero, List.getElem_cons_succ, List.setIfInBounds_toArray, List.set_cons_zero, List.set_cons_succ]
          refine wpAnyH_take (i := 15) (v := ?_) rfl (by kernel_rfl) (by kernel_rfl) (by kernel_rfl) (fun _ _ _ h => h) (Or.inl ⟨by rfl, ?_⟩) (by assumption) ?_
          rotate_left
          · (intro w hSw; (try dsimp only at hSw); go_simp; try with_reducible rfl)
          simp only [Act.put, List.getElem_toArray, List.getElem_cons_zero, List.getElem_cons_succ, List.setIfInBounds_toArray, List.set_cons_zero, List.set_cons_succ]
          refine wpAnyH_done (by kernel_rfl) ?_ _
          refine NoPanic.normal ?_
          rw [← HIN.out] at HOZ
          clear hHeld
          go_wp2
          go_roundw
          case rel => exact ⟨i + 1, by go_num, by omega, HOZ, HBZ⟩
          case measure => simp [intOf]; omega
        refine AllReadyH.cons rfl (fun K hK => ?_) AllReadyH.nil
        go_simp
        have hWB : Below w1.heap.size w1 ((w1.drew).alloc (.cells #[.string k0, .string v0, .bool d0, .int .i64 q0] 29)) := (Below.drew (Below.refl w1.heap.size w1)).alloc (Below.drew (Below.refl w1.heap.size w1)).size _
        have hXB : EntsV ((w1.drew).alloc (.cells #[.string k0, .string v0, .bool d0, .int .i64 q0] 29)) (some ⟨(w1.drew).heap.size, 0, none⟩) 1 [(⟨k0, v0, d0, q0⟩ : E)] := ent_one (w1.drew) k0 v0 d0 q0
        refine hK.out _ _ (HS.out _ hWB) (fun hHeld2 => ?_)
        clear hK K
        refine wpAnyH_ready (rs := [0]) (by kernel_rfl) (by simp) ?_
        refine AllReadyH.cons rfl (fun K hK => ?_) ?_
        rotate_left
        · exact AllReadyH.nil
        go_simp
        have hWA : Below w1.heap.size w1 (((w1.drew).alloc (.cells #[.string k0, .string v0, .bool d0, .int .i64 q0] 29)).alloc (.cells #[] 29)) := hWB.alloc hWB.size _
        have hOA : (((w1.drew).alloc (.cells #[.string k0, .string v0, .bool d0, .int .i64 q0] 29)).alloc (.cells #[] 29)).ownsRow w1.heap.size 29 4 (.slice (some ⟨((w1.drew).alloc (.cells #[.string k0, .string v0, .bool d0, .int .i64 q0] 29)).heap.size, 0, none⟩) 0 0) 0 (flatE []) := ownsRow_mono (own_emptyE ((w1.drew).alloc (.cells #[.string k0, .string v0, .bool d0, .int .i64 q0] 29))) hWB.size
        refine hK.out _ _ (HS.out _ hWA) (fun hHeld2 => ?_)
        clear hK K
        rw [show ((w1.drew).alloc (.cells #[.string k0, .string v0, .bool d0, .int .i64 q0] 29)).heap.size = w1.heap.size + 1 by simp] at hOA
        refine wpAnyH_ready (rs := [4]) (by kernel_rfl) (by simp) ?_
        refine AllReadyH.cons rfl (fun K hK => ?_) ?_
        rotate_left
        · exact AllReadyH.nil
        refine step_append_entsk _ rfl (.tmp 42) (.tmp 45) rfl w1.heap.size (.slice (some ⟨w1.heap.size + 1, 0, none⟩) 0 0) 0 [] rfl hOA hWA.size _ _ _ (O.take m) rfl (HT1.out _ hWA) hT0 (by omega) ?_
        intro vP wP hownP hbP hkP
        rw [List.nil_append, HLT.out] at hownP
        have hWP : Below w1.heap.size w1 wP := hWA.trans hbP
        refine hK.out _ _ (HS.out _ hWP) (fun hHeld2 => ?_)
        clear hK K
        simp only [Act.put, List.getElem_toArray, List.getElem_cons_zero, List.getElem_cons_succ, List.setIfInBounds_toArray, List.set_cons_zero, List.set_cons_succ]
        have hownQ := hownP
        have hXP : EntsV wP (some ⟨(w1.drew).heap.size, 0, none⟩) 1 [(⟨k0, v0, d0, q0⟩ : E)] := entsV_block (EntsV.below hXB (bel_alloc ((w1.drew).alloc (.cells #[.string k0, .string v0, .bool d0, .int .i64 q0] 29)) (.cells #[] 29)) (Nat.le_refl _)) (hkP _ (by simp; omega) (by simp [Value.ownBlock]))
        refine wpAnyH_ready (rs := [10]) (by kernel_rfl) (by simp) ?_
        refine AllReadyH.cons rfl (fun K hK => ?_) ?_
        rotate_left
        · exact AllReadyH.nil
        refine step_append_entsk _ rfl (.tmp 46) (.tmp 51) rfl w1.heap.size _ m (O.take m) rfl hownQ hWP.size _ _ _ [(⟨k0, v0, d0, q0⟩ : E)] rfl hXP (fun h => by cases h) (by omega) ?_
        intro vQ wQ hownR hbQ hkQ
        rw [List.length_append, HLT.out, List.length_singleton] at hownR
        have hWQ : Below w1.heap.size w1 wQ := hWP.trans hbQ
        refine hK.out _ _ (HS.out _ hWQ) (fun hHeld2 => ?_)
        clear hK K
        simp only [Act.put, List.getElem_toArray, List.getElem_cons_zero, List.getElem_cons_succ, List.setIfInBounds_toArray, List.set_cons_zero, List.set_cons_succ]
        refine wpAnyH_ready (rs := [14]) (by kernel_rfl) (by simp) ?_
        refine AllReadyH.cons rfl (fun K hK => ?_) ?_
        rotate_left
        · exact AllReadyH.nil
        refine step_append_entsk _ rfl (.tmp 52) (.tmp 55) rfl w1.heap.size _ (m + 1) (O.take m ++ [(⟨k0, v0, d0, q0⟩ : E)]) rfl hownR hWQ.size _ _ _ (O.drop m) rfl (HT2.out _ hWQ) hD0 (by omega) ?_
        intro vR wR hownS hbR hkR
        have hWR : Below w1.heap.size w1 wR := hWQ.trans hbR
        have HOZ : Hid (wR.ownsRow w.heap.size 29 4 vR ((O.take m ++ [(⟨k0, v0, d0, q0⟩ : E)]) ++ O.drop m).length (flatE ((O.take m ++ [(⟨k0, v0, d0, q0⟩ : E)]) ++ O.drop m))) := ownsRow_mono hownS HB1.out.size
        have HBZ : Hid (Below w.heap.size w wR) := HB1.out.trans (hWR.mono HB1.out.size)
        refine hK.out _ _ (HS.out _ hWR) (fun hHeld2 => ?_)
        clear hK K
        simp only [Act.put, List.getElem_toArray, List.getElem_cons_zero, List.getElem_cons_succ, List.setIfInBounds_toArray, List.set_cons_zero, List.set_cons_succ]
        refine wpAnyH_take (i := 15) (v := ?_) rfl (by kernel_rfl) (by kernel_rfl) (by kernel_rfl) (fun _ _ _ h => h) (Or.inl ⟨by rfl, ?_⟩) (by assumption) ?_
        rotate_left
        · (intro w hSw; (try dsimp only at hSw); go_simp; try with_reducible rfl)
        simp only [Act.put, List.getElem_toArray, List.getElem_cons_zero, List.getElem_cons_succ, List.setIfInBounds_toArray, List.set_cons_zero, List.set_cons_succ]
        refine wpAnyH_done (by kernel_rfl) ?_ _
        refine NoPanic.normal ?_
        rw [← HIN.out] at HOZ
        clear hHeld
        go_wp2
        go_roundw
        case rel => exact ⟨i + 1, by go_num, by omega, HOZ, HBZ⟩
        case measure => simp [intOf]; omega
    · have hltz : ¬ (i : Int) < (n : Int) := by omega
      have HT : Hid (es.take i = es) := by show _ = _; rw [List.take_of_length_le (by rw [HLN.out]; omega)]
      rw [HT.out] at HO
      go_wp2
      go_ret
      exact ⟨_, rfl, HO.out, HB.out⟩
end Go.Proofs.Yteggjenncmjfmaa

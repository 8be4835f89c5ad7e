/-
  The law's rising: a contract over this translation.
-/
import Derived.Test.YteggjenncmjfmaaMgO
import Derived.Test.YteggjenncmjfmaaMgS
namespace Go.Proofs.Yteggjenncmjfmaa
open Go.RowKit
set_option linter.unusedSectionVars false
set_option linter.unusedVariables false
variable [Inhabited E] [DecidableEq E] [Inhabited RV]
def riseL (ls : List (List E)) : List (List E) := (smallL ls).map foldS
theorem rise_rise (ls : List (List E)) : Rise (riseL ls) := fun l hl => by
  obtain ⟨m, _, rfl⟩ := List.mem_map.1 hl
  exact ks_foldS m
theorem OwnP.set {w w1 : World} {base b n c : Nat} {Ps : List PV} (h : OwnP w base (.slice (some ⟨b, 0, none⟩) n c) Ps) (hb : Below w.heap.size w w1) (i : Nat) (hi : i < Ps.length) {u : Value} {l : List E} (hu : w1.ownsRow w.heap.size 29 4 u l.length (flatE l)) (hbase : base ≤ w.heap.size) :
    OwnP (w1.setCell ⟨b, i, none⟩ u) base (.slice (some ⟨b, 0, none⟩) n c) (Ps.set i ⟨u, l⟩) := by
  have h1 := h.below hb (Nat.le_refl _)
  have hn : Ps.length = n := by have := h.row.1; rw [List.length_map, Nat.mul_one] at this; have h2 := h.row.2; rcases h2 with ⟨e, _⟩ | ⟨g, cap, cur, hv, _⟩ <;> cases (by assumption : Value.slice (some _) n c = _) <;> rfl
  have hne : ∀ (p : Value) (m : Nat) (xs : List Value) (k : Nat) (B : Nat), w1.ownsRow B 29 4 p m xs → p.ownBlock = some k → k ≠ b := fun p m xs k B hp hk e => by
    obtain ⟨c1, e1⟩ := row_heap hp hk
    obtain ⟨c2, e2⟩ := row_heap h1.row (k := b) rfl
    exact ne_kind e1 e2 (by decide) e
  refine ⟨?_, fun p hp => ?_, ?_⟩
  · have hr := h1.row
    rw [List.length_set, List.map_set]
    rw [hn] at hr ⊢
    exact (hr.stored i u).1
  · rcases List.mem_or_eq_of_mem_set hp with hp | hp
    · exact row_block (h1.parts p hp) (fun k hk => heap_set_ne _ _ _ (hne _ _ _ k _ (h1.parts p hp) hk))
    · rw [hp]
      exact ownsRow_mono (row_block hu (fun k hk => heap_set_ne _ _ _ (hne _ _ _ k _ hu hk))) hbase
  · rw [List.pairwise_iff_getElem]
    intro x y hx hy hxy k hk hk2
    rw [List.length_set] at hx hy
    rw [List.getElem_set] at hk hk2
    have hA := (List.pairwise_iff_getElem.1 h.apart) x y hx hy hxy k
    by_cases e1 : i = x
    · rw [if_pos e1] at hk
      rw [if_neg (by omega)] at hk2
      have q1 := (hu.lt k hk).1
      have q2 := ((h.parts _ (List.getElem_mem hy)).lt k hk2).2
      omega
    · rw [if_neg e1] at hk
      by_cases e2 : i = y
      · rw [if_pos e2] at hk2
        have q1 := (hu.lt k hk2).1
        have q2 := ((h.parts _ (List.getElem_mem hx)).lt k hk).2
        omega
      · rw [if_neg e2] at hk2
        exact hA hk hk2
theorem OwnP.at_ {w : World} {base : Nat} {v : Value} {Ps : List PV} (h : OwnP w base v Ps) (i : Nat) (hi : i < Ps.length) : ∃ b c ao ac p, v = .slice (some ⟨b, 0, none⟩) Ps.length c ∧ Ps.length ≤ c ∧ w.cell? ⟨b, i, none⟩ = some (.slice ao p.l.length ac) ∧ w.frozen? ⟨b, i, none⟩ = false ∧ Ps[i]? = some p ∧ p.v = .slice ao p.l.length ac ∧ EntsV w ao p.l.length p.l ∧ p.l.length ≤ ac ∧ ac ≤ 9223372036854775807 := by
  rcases h.row.2 with ⟨hv, h0⟩ | ⟨b, cap, cur, hv, hB, hgg, hn2, hm, rest⟩
  · omega
  · have hp : Ps[i] ∈ Ps := List.getElem_mem hi
    obtain ⟨ao, ac, e1, e2, e3, e4, _⟩ := ent_slice (h.parts _ hp) rfl
    refine ⟨b, cap, ao, ac, Ps[i], hv, hn2, ?_, fz_of hgg i, List.getElem?_eq_getElem hi, e1, e2, e3, e4⟩
    have h5 := h.row
    rw [hv] at h5
    have := h5.cells (g := b) rfl i (.slice ao Ps[i].l.length ac) (by rw [List.getElem?_map, List.getElem?_eq_getElem hi, Option.map_some, e1])
    rw [Addr.add_lit] at this
    simpa using this
theorem riseL_at (ls : List (List E)) (Ps : List PV) (i : Nat) (hi : i < ls.length) {p : PV} (hp : Ps[i]? = some p) {u : Value} (h : Ps.map PV.l = (ls.take i).map foldS ++ ls.drop i) : p.l = ls[i] ∧ (Ps.set i ⟨u, foldS p.l⟩).map PV.l = (ls.take (i + 1)).map foldS ++ ls.drop (i + 1) := by
  have hl : ((ls.take i).map foldS).length = i := by rw [List.length_map, List.length_take]; omega
  have h1 : p.l = ls[i] := by
    have := congrArg (fun x => x[i]?) h
    simp only [List.getElem?_map, hp, Option.map_some] at this
    rw [List.getElem?_append_right (by omega), hl, Nat.sub_self, List.getElem?_drop, Nat.add_zero, List.getElem?_eq_getElem hi] at this
    exact Option.some.inj this
  refine ⟨h1, ?_⟩
  rw [List.map_set, h, List.set_append_right _ _ (by omega), hl, Nat.sub_self, List.drop_eq_getElem_cons hi, List.set_cons_zero, List.take_succ_eq_append_getElem hi, List.map_append, List.map_singleton, h1, List.append_assoc]
  rfl
set_option maxRecDepth 100000 in
set_option maxHeartbeats 1000000 in
theorem rising_any (ao : Option Addr) (n c : Nat) (R : List RV) (w : World) (h : ListsV w ao n R) (hn : n ≤ 9223372036854775807) (h0 : ∀ r ∈ R, r.ao = none → r.c = 0) :
    Calls Try.prog 14 #[.slice ao n c] w fun e w' => ∃ v Ps, e = .returned v ∧ Ps.map PV.l = riseL (R.map RV.l) ∧ OwnP w' w.heap.size v Ps ∧ Below w.heap.size w w' := by
  have HC : Hid _ := small_any ao n c R w h hn h0
  clear h hn h0
  go_enter Try.func14, Try.ntmps14
  go_wp2_with fail
  refine Calls.mono HC.out ?_
  rintro e w1 ⟨v, Ps, rfl, hl, ho, hb⟩
  obtain ⟨ls, HLS⟩ : ∃ x, Hid (smallL (R.map RV.l) = x) := ⟨_, rfl⟩
  have HRL : Hid (riseL (R.map RV.l) = ls.map foldS) := by show _ = _; unfold riseL; rw [HLS.out]
  rw [HLS.out] at hl
  have HLL : Hid (∀ l ∈ ls, l.length ≤ 60) := fun l hx => by
    rw [← HLS.out] at hx
    unfold smallL at hx
    obtain ⟨m, _, rfl⟩ := List.mem_map.1 hx
    rw [List.length_take]; omega
  have HLN : Hid (ls.length ≤ 12) := by
    show _ ≤ _
    rw [← HLS.out]; unfold smallL
    rw [List.length_map, List.length_take]; omega
  obtain ⟨m, HM⟩ : ∃ m, Hid (ls.length = m) := ⟨_, rfl⟩
  have hPl : Ps.length = m := by rw [← HM.out, ← hl, List.length_map]
  obtain ⟨vo, vc, rfl, hvc, hvb⟩ := row_form ho.row
  have HP0 : Hid (Ps.map PV.l = (ls.take 0).map foldS ++ ls.drop 0 ∧ OwnP w1 w.heap.size (.slice vo Ps.length vc) Ps ∧ Below w.heap.size w w1 ∧ Ps.length = m) := ⟨by rw [List.take_zero, List.drop_zero]; exact hl, ho, hb, hPl⟩
  have HPL0 : Hid (Ps.length = m) := hPl
  rw [hPl] at HP0 ⊢
  have hm12 : (m : Int) ≤ 12 := by have := HLN.out; have := HM.out; omega
  clear hl ho hb hvc hvb HC hPl
  go_wp2_with fail
  go_loopw [4] (fun s4 wr => ∃ (i : Nat) (Qs : List PV), s4 = .int .i64 i ∧ i ≤ m ∧ Hid (Qs.map PV.l = (ls.take i).map foldS ++ ls.drop i ∧ OwnP wr w.heap.size (.slice vo m vc) Qs ∧ Below w.heap.size w wr ∧ Qs.length = m)) (fun s4 _ => m - (intOf s4).toNat)
  case atStart => exact ⟨0, Ps, rfl, Nat.zero_le _, HP0.out.1, HP0.out.2.1, HP0.out.2.2.1, HPL0.out⟩
  case round =>
    obtain ⟨i, Qs, rfl, him, HP⟩ := hrel
    by_cases hlt : i < m
    · have hltz : (i : Int) < (m : Int) := by omega
      obtain ⟨b, bc, po, pc, p, hv, hbc, c0, f0, hp, hpv, hpe, hpc, hpm⟩ := HP.out.2.1.at_ i (by rw [HP.out.2.2.2]; exact hlt)
      rw [HP.out.2.2.2] at hv
      cases hv
      have HPE : Hid (p.l = ls[i]'(by rw [HM.out]; exact hlt) ∧ ∀ u : Value, (Qs.set i ⟨u, foldS p.l⟩).map PV.l = (ls.take (i + 1)).map foldS ++ ls.drop (i + 1)) := ⟨(riseL_at ls Qs i (by rw [HM.out]; exact hlt) hp (u := .bool true) HP.out.1).1, fun u => (riseL_at ls Qs i (by rw [HM.out]; exact hlt) hp HP.out.1).2⟩
      have HPN : Hid (p.l.length ≤ 60) := by rw [HPE.out.1]; exact HLL.out _ (List.getElem_mem _)
      obtain ⟨pn, HPL⟩ : ∃ x, Hid (p.l.length = x) := ⟨_, rfl⟩
      rw [HPL.out] at c0 hpe hpc
      have CF : Hid _ := refFold_any po pn pc p.l wr hpe (by have := HPN.out; have := HPL.out; omega)
      have HLT : Hid (i < Qs.length) := by show _ < _; rw [HP.out.2.2.2]; exact hlt
      have HCB : Hid (wr.cell? ⟨b, i, none⟩ = some (.slice po pn pc) ∧ wr.frozen? ⟨b, i, none⟩ = false) := ⟨c0, f0⟩
      clear hp hpv hpe hpc hpm hbc f0
      go_wp2_with fail
      refine Calls.mono CF.out ?_
      rintro e w2 ⟨u, rfl, hu, hb2⟩
      have c2 := bel_cell hb2 (Nat.le_refl _) HCB.out.1
      have f2 : w2.frozen? ⟨b, i, none⟩ = false := by
        have hx := (HP.out.2.1.below hb2 (Nat.le_refl _)).at_ i HLT.out
        obtain ⟨b', _, _, _, _, hv, _, _, f, _⟩ := hx
        cases hv
        exact f
      have HW : Hid (Below w.heap.size w w2 ∧ w.heap.size ≤ wr.heap.size) := ⟨HP.out.2.2.1.trans (hb2.mono HP.out.2.2.1.size), HP.out.2.2.1.size⟩
      have HQ : Hid (OwnP (w2.setCell ⟨b, i, none⟩ u) w.heap.size (.slice (some ⟨b, 0, none⟩) m vc) (Qs.set i ⟨u, foldS p.l⟩)) := HP.out.2.1.set hb2 i HLT.out hu HW.out.2
      have HBB : Hid (w.heap.size ≤ b) := (HP.out.2.1.row.lt b rfl).1
      obtain ⟨uo, uc, hu2, -⟩ := row_form hu
      subst hu2
      clear hu hb2 CF c0
      go_wp2_with fail
      go_roundw
      case rel => exact ⟨i + 1, _, by go_num, by omega, HPE.out.2 _, HQ.out, HW.out.1.setCell HBB.out _, by rw [List.length_set]; exact HP.out.2.2.2⟩
      case measure => simp [intOf]; omega
    · have hltz : ¬ (i : Int) < (m : Int) := by omega
      have HF : Hid (Qs.map PV.l = riseL (R.map RV.l)) := by
        show _ = _
        have hi : i = m := by omega
        rw [HRL.out, HP.out.1, hi, ← HM.out, List.take_length, List.drop_length, List.append_nil]
      clear hlt
      go_wp2_with fail
      go_ret
      first | exact ⟨_, Qs, rfl, HF.out, HP.out.2.1, HP.out.2.2.1⟩ | exact ⟨_, rfl, Qs, HF.out, HP.out.2.1, HP.out.2.2.1⟩
end Go.Proofs.Yteggjenncmjfmaa

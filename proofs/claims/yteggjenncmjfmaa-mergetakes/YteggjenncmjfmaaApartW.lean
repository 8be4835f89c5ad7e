/-
  Lists that have no key together stand beside one another: what the law MergeApart answers, for any arguments.
-/
import Derived.Test.YteggjenncmjfmaaOneW
namespace Go.Proofs.Yteggjenncmjfmaa
open Go.RowKit
set_option linter.unusedSectionVars false
set_option linter.unusedVariables false
variable [Inhabited E] [DecidableEq E] [Inhabited RV]
def pre (c : UInt8) (e : E) : E := ⟨⟨#[c]⟩ ++ e.key, e.value, e.del, e.seq⟩
theorem pre_data (c : UInt8) (k : ByteArray) : ((⟨#[c]⟩ : ByteArray) ++ k).data.toList = c :: k.data.toList := by
  rw [ByteArray.data_append]; simp
theorem pre_cmp (c : UInt8) (a b : ByteArray) : cmpS (⟨#[c]⟩ ++ a) (⟨#[c]⟩ ++ b) = cmpS a b := by
  unfold cmpS
  rw [pre_data, pre_data, Lib.compareBytes]
  simp
theorem pre_less (a b : ByteArray) : cmpS (⟨#[97]⟩ ++ a) (⟨#[98]⟩ ++ b) < 0 := by
  unfold cmpS
  rw [pre_data, pre_data, Lib.compareBytes]
  simp
theorem ks_pre (c : UInt8) {A : List E} (h : Ks A) : Ks (A.map (pre c)) := by
  unfold Ks at *
  rw [List.pairwise_map]
  exact h.imp (fun hab => by show cmpS (_ ++ _) (_ ++ _) < 0; rw [pre_cmp]; exact hab)
theorem lk_append (k : ByteArray) (A B : List E) : lk k (A ++ B) = (lk k A).or (lk k B) := by unfold lk; rw [List.find?_append]
theorem apart_math {A B : List E} (hA : Ks A) (hB : Ks B) : Ks (A.map (pre 97) ++ B.map (pre 98)) ∧ mergeL [A.map (pre 97), B.map (pre 98)] false = A.map (pre 97) ++ B.map (pre 98) ∧ mergeL [B.map (pre 98), A.map (pre 97)] false = A.map (pre 97) ++ B.map (pre 98) := by
  have hx := ks_pre 97 hA
  have hy := ks_pre 98 hB
  have hlt : ∀ a ∈ A.map (pre 97), ∀ b ∈ B.map (pre 98), cmpS a.key b.key < 0 := fun a ha b hb => by
    obtain ⟨a', _, rfl⟩ := List.mem_map.1 ha
    obtain ⟨b', _, rfl⟩ := List.mem_map.1 hb
    exact pre_less _ _
  have hs : Ks (A.map (pre 97) ++ B.map (pre 98)) := List.pairwise_append.2 ⟨hx, hy, hlt⟩
  have hnone : ∀ k, (lk k (A.map (pre 97))).or (lk k (B.map (pre 98))) = (lk k (B.map (pre 98))).or (lk k (A.map (pre 97))) := fun k => by
    cases h1 : lk k (A.map (pre 97)) with
    | none => rw [Option.none_or, Option.or_none]
    | some a =>
      cases h2 : lk k (B.map (pre 98)) with
      | none => rfl
      | some b =>
        obtain ⟨a1, a2⟩ := lk_mem h1
        obtain ⟨b1, b2⟩ := lk_mem h2
        have := hlt a a1 b b1
        rw [a2, b2] at this
        have := cself k
        omega
  have r1 : Rise [A.map (pre 97), B.map (pre 98)] := fun l hl => by
    simp only [List.mem_cons, List.not_mem_nil, or_false] at hl
    rcases hl with rfl | rfl
    · exact hx
    · exact hy
  have r2 : Rise [B.map (pre 98), A.map (pre 97)] := fun l hl => by
    simp only [List.mem_cons, List.not_mem_nil, or_false] at hl
    rcases hl with rfl | rfl
    · exact hy
    · exact hx
  refine ⟨hs, ks_ext (merge_ks false r1) hs (fun k => ?_), ks_ext (merge_ks false r2) hs (fun k => ?_)⟩
  · rw [merge_lk false r1, filt_true, lkF_cons, lkF_cons, lkF_nil, Option.or_none, lk_append]
  · rw [merge_lk false r2, filt_true, lkF_cons, lkF_cons, lkF_nil, Option.or_none, lk_append, hnone]
def preN (c : UInt8) (A : List E) (i : Nat) : List E := (A.take i).map (pre c) ++ A.drop i
theorem preN_len (c : UInt8) (A : List E) (i : Nat) : (preN c A i).length = A.length := by
  unfold preN
  rw [List.length_append, List.length_map, List.length_take, List.length_drop]; omega
theorem preN_at (c : UInt8) (A : List E) (i : Nat) (hi : i < A.length) : (preN c A i)[i]! = A[i]! ∧ preN c A (i + 1) = (preN c A i).set i (pre c A[i]!) := by
  have hl : ((A.take i).map (pre c)).length = i := by rw [List.length_map, List.length_take]; omega
  constructor
  · rw [getElem!_pos _ i (by rw [preN_len]; exact hi), getElem!_pos A i hi]
    unfold preN
    rw [List.getElem_append_right (by omega), List.getElem_drop]
    congr 1
    omega
  · unfold preN
    rw [List.set_append_right _ _ (by omega), hl, Nat.sub_self, List.drop_eq_getElem_cons hi, List.set_cons_zero, List.take_succ_eq_append_getElem hi, List.map_append, List.map_singleton, List.append_assoc, getElem!_pos A i hi]
    rfl
theorem preN_all (c : UInt8) (A : List E) (i : Nat) (hi : A.length ≤ i) : preN c A i = A.map (pre c) := by
  unfold preN
  rw [List.take_of_length_le hi, List.drop_eq_nil_of_le hi, List.append_nil]
theorem flatE_setKey : ∀ (L : List E) (i : Nat) (k : ByteArray), i < L.length → (flatE L).set (i * 4) (.string k) = flatE (L.set i ⟨k, L[i]!.value, L[i]!.del, L[i]!.seq⟩)
  | [], i, _, h => absurd h (by simp)
  | e :: L, 0, k, _ => by
    rw [flatE_cons, List.set_cons_zero, flatE_cons]; rfl
  | e :: L, i + 1, k, h => by
    rw [flatE_cons, List.set_cons_succ, flatE_cons]
    have h2 := flatE_setKey L i k (by simpa using h)
    have h3 : (e :: L)[i + 1]! = L[i]! := by simp
    rw [h3, ← h2]
    have h4 : (encE e).length = 4 := rfl
    rw [List.set_append_right _ _ (by rw [h4]; omega), h4, show (i + 1) * 4 - 4 = i * 4 by omega]
theorem own_key {w : World} {base g n cap : Nat} {L : List E} (h : w.ownsRow base 29 4 (.slice (some ⟨g, 0, none⟩) n cap) n (flatE L)) (i : Nat) (hi : i < L.length) (k : ByteArray) :
    (w.setCell ⟨g, i * 4, none⟩ (.string k)).ownsRow base 29 4 (.slice (some ⟨g, 0, none⟩) n cap) n (flatE (L.set i ⟨k, L[i]!.value, L[i]!.del, L[i]!.seq⟩)) := by
  rw [← flatE_setKey L i k hi]
  exact (h.stored _ _).1
theorem wpList_append_ents {ops : Array Oper} {rest : List Oper} {o : Oper} {a : Act} {Q : Exit → Act → World → Prop} (w : World)
    (hg : o.guard = none) (s x : Operand) (hop : o.op = Op.call { callee := Callee.builtin Builtin.append, args := #[s, x], argTypes := #[25, 25] })
    (base : Nat) (v : Value) (n : Nat) (xs : List E) (hs : a.eval s = v) (hown : w.ownsRow base 29 4 v n (flatE xs)) (hbase : base ≤ w.heap.size)
    (ao : Option Addr) (m c : Nat) (ys : List E) (hx : a.eval x = .slice ao m c) (hE : EntsV w ao m ys) (h0 : ao = none → c = 0)
    (hb : n + m ≤ 1000000000000)
    (hK : ∀ v' w', w'.ownsRow base 29 4 v' (xs ++ ys).length (flatE (xs ++ ys)) → Below base w w' → wpList Try.prog ops Q rest (a.put o.dst v') w') :
    wpList Try.prog ops Q (o :: rest) a w :=
  wpList_plain hg fun K hK2 => wp_append_ents w s x hop base v n xs hs hown hbase ao m c ys hx hE h0 hb (fun v' w' h1 h2 => hK2 _ _ (hK v' w' h1 h2))
set_option maxRecDepth 100000 in
set_option maxHeartbeats 1000000 in
theorem apartM_walk (p q : PV) (w : World) (hp : PIn w p) (hq : PIn w q) (hsp : ∀ e ∈ p.l, e.key.size ≤ 140737488351232) (hsq : ∀ e ∈ q.l, e.key.size ≤ 140737488351232) :
    Calls Try.prog 8 #[p.v, q.v] w fun e w' => e = .returned (.bool true) ∧ Below w.heap.size w w' := by
  have HPQ : Hid (∀ W, Below w.heap.size w W → PIn W p ∧ PIn W q) := fun W hW => ⟨hp.below hW (Nat.le_refl _), hq.below hW (Nat.le_refl _)⟩
  have HSZ : Hid ((∀ e ∈ foldS (p.l.take 60), e.key.size ≤ 140737488351232) ∧ ∀ e ∈ foldS (q.l.take 60), e.key.size ≤ 140737488351232) := by
    have key : ∀ l : List E, (∀ e ∈ l, e.key.size ≤ 140737488351232) → ∀ e ∈ foldS (l.take 60), e.key.size ≤ 140737488351232 := fun l h e he => by
      have h1 := lk_of_mem (ks_foldS (l.take 60)) he
      rw [lk_foldS, best_ofKey] at h1
      have h2 := (lat_spec _ e h1).2.2
      have h3 : e ∈ l.take 60 := (List.mem_filter.1 h2).1
      exact h e (List.mem_of_mem_take h3)
    exact ⟨key _ hsp, key _ hsq⟩
  obtain ⟨qo, qc, hqv, -⟩ := hp
  obtain ⟨ro, rc, hrv, -⟩ := hq
  obtain ⟨pv, pl⟩ := p
  obtain ⟨qv, ql⟩ := q
  simp only at hqv hrv HSZ
  subst hqv hrv
  clear hsp hsq
  go_enter Try.func8, Try.ntmps8
  go_wp2_with fail
  refine (shown_any w).mono ?_
  rintro e w1 ⟨rfl, hb1⟩
  have HB1 : Hid (Below w.heap.size w w1) := hb1
  have HRI : Hid (Calls Try.prog 14 #[.slice (some ⟨w1.heap.size, 0, none⟩) 2 2] (w1.alloc (.cells #[.slice qo pl.length qc, .slice ro ql.length rc] 25)) fun e w' => ∃ v Ps, e = .returned v ∧ Ps.map PV.l = [foldS (pl.take 60), foldS (ql.take 60)] ∧ OwnP w' (w1.alloc (.cells #[.slice qo pl.length qc, .slice ro ql.length rc] 25)).heap.size v Ps ∧ Below (w1.alloc (.cells #[.slice qo pl.length qc, .slice ro ql.length rc] 25)).heap.size (w1.alloc (.cells #[.slice qo pl.length qc, .slice ro ql.length rc] 25)) w') := by
    obtain ⟨R, q1, q2, q3⟩ := lists_built (w := w1) (Q := [⟨.slice qo pl.length qc, pl⟩, ⟨.slice ro ql.length rc, ql⟩]) (by simp) (by simp) (fun p hp => by
      rcases List.mem_cons.1 hp with rfl | hp
      · exact (HPQ.out w1 hb1).1
      · rw [List.mem_singleton.1 hp]; exact (HPQ.out w1 hb1).2) #[.slice qo pl.length qc, .slice ro ql.length rc] rfl
    have := rising_any _ 2 2 R _ q1 (by decide) q3
    rw [q2] at this
    exact this
  clear hb1
  go_wp2_with fail
  refine Calls.mono HRI.out ?_
  rintro e w2 ⟨v, Ps, rfl, hl, ho, hb⟩
  have hlen : Ps.length = 2 := by have := congrArg List.length hl; rw [List.length_map] at this; exact this
  obtain ⟨gb, gc, po, pc, p0, hv, hgc, c0, -, hp0, hpv0, -, -, -⟩ := ho.at_ 0 (by omega)
  obtain ⟨gb', gc', po1, pc1, p1, hv', -, c1, -, hp1, hpv1, -, -, -⟩ := ho.at_ 1 (by omega)
  rw [hv] at hv'
  cases hv'
  obtain ⟨A, HA⟩ : ∃ x, Hid (foldS (pl.take 60) = x) := ⟨_, rfl⟩
  obtain ⟨B, HBE⟩ : ∃ x, Hid (foldS (ql.take 60) = x) := ⟨_, rfl⟩
  have hpl : p0.l = A ∧ p1.l = B := by
    have q0 := congrArg (fun x => x[0]?) hl
    have q1 := congrArg (fun x => x[1]?) hl
    simp only [List.getElem?_map, hp0, hp1, Option.map_some] at q0 q1
    rw [HA.out, HBE.out] at *
    exact ⟨Option.some.inj q0, Option.some.inj q1⟩
  obtain ⟨mA, HMmA⟩ : ∃ x, Hid (A.length = x) := ⟨_, rfl⟩
  obtain ⟨mB, HMmB⟩ : ∃ x, Hid (B.length = x) := ⟨_, rfl⟩
  rw [HA.out, HBE.out] at HSZ
  rw [hpl.1, HMmA.out] at c0 hpv0
  rw [hpl.2, HMmB.out] at c1 hpv1
  have HAB : Hid (Ks A ∧ Ks B ∧ mA ≤ 60 ∧ mB ≤ 60) := by
    have h1 := foldS_len (pl.take 60)
    have h2 := foldS_len (ql.take 60)
    rw [List.length_take] at h1 h2
    rw [HA.out] at h1
    rw [HBE.out] at h2
    have := HMmA.out; have := HMmB.out
    exact ⟨by rw [← HA.out]; exact ks_foldS _, by rw [← HBE.out]; exact ks_foldS _, by omega, by omega⟩
  have HB2 : Hid (Below w.heap.size w w2 ∧ w.heap.size ≤ (w1.alloc (.cells #[.slice qo pl.length qc, .slice ro ql.length rc] 25)).heap.size) := ⟨HB1.out.trans (((bel_alloc w1 _).trans (hb.mono (by simp))).mono HB1.out.size), by have := HB1.out.size; simp; omega⟩
  have HX0 : Hid (w2.ownsRow w.heap.size 29 4 (.slice po mA pc) mA (flatE A) ∧ w2.ownsRow w.heap.size 29 4 (.slice po1 mB pc1) mB (flatE B) ∧ Below w.heap.size w w2) := by
    have h1 := ho.parts p0 (List.mem_of_getElem? hp0)
    have h2 := ho.parts p1 (List.mem_of_getElem? hp1)
    rw [hpv0, hpl.1, HMmA.out] at h1
    rw [hpv1, hpl.2, HMmB.out] at h2
    exact ⟨ownsRow_mono h1 HB2.out.2, ownsRow_mono h2 HB2.out.2, HB2.out.1⟩
  have HDIS : Hid (∀ k, (Value.slice po mA pc).ownBlock = some k → (Value.slice po1 mB pc1).ownBlock ≠ some k) := by
    have h1 := List.pairwise_iff_getElem.1 ho.apart 0 1 (by omega) (by omega) (by omega)
    have e0 : Ps[0]'(by omega) = p0 := by obtain ⟨_, h⟩ := List.getElem?_eq_some_iff.1 hp0; exact h
    have e1 : Ps[1]'(by omega) = p1 := by obtain ⟨_, h⟩ := List.getElem?_eq_some_iff.1 hp1; exact h
    rw [e0, e1, hpv0, hpv1] at h1
    exact h1
  rw [hlen] at hv hgc
  subst hv
  clear hl ho hb hlen hgc hp0 hp1 hpv0 hpv1 hpl HRI
  have hmA : (mA : Int) ≤ 60 := by have := HAB.out; omega
  have hmB : (mB : Int) ≤ 60 := by have := HAB.out; omega
  go_wp2_with fail
  go_loopw [9] (fun s wr => ∃ i : Nat, s = .int .i64 i ∧ i ≤ mA ∧ Hid (wr.ownsRow w.heap.size 29 4 (.slice po mA pc) mA (flatE (preN 97 A i)) ∧ wr.ownsRow w.heap.size 29 4 (.slice po1 mB pc1) mB (flatE B) ∧ Below w.heap.size w wr)) (fun s _ => mA - (intOf s).toNat)
  case atStart => exact ⟨0, rfl, Nat.zero_le _, by unfold preN; rw [List.take_zero, List.drop_zero]; exact HX0.out.1, HX0.out.2⟩
  case round =>
    obtain ⟨i, rfl, him, HI⟩ := hrel
    by_cases hlt : i < mA
    · have hltz : (i : Int) < (mA : Int) := by omega
      obtain ⟨bx, cx', hvx, hEx, hbx⟩ := own_shapeE HI.out.1 (by omega)
      cases hvx
      obtain ⟨ek, ev, ed, eq, HX⟩ : ∃ k0 v0 d0 q0, Hid (A[i]! = E.mk k0 v0 d0 q0) := ⟨_, _, _, _, rfl⟩
      have HPN := preN_at 97 A i (by rw [HMmA.out]; exact hlt)
      rw [HX.out] at HPN
      have x0 := (ents_four hEx i (by rw [preN_len, HMmA.out]; exact hlt) HPN.1).1
      have f0 : wr.frozen? ⟨bx, 0 + i * 4 + 0, none⟩ = false := by
        obtain ⟨cur, hc⟩ := row_heap HI.out.1 (k := bx) rfl
        exact fz_of hc _
      simp only [Nat.zero_add, Nat.add_zero] at x0 f0
      have hsz : ek.size ≤ 140737488351232 := by
        have h1 := HSZ.out.1 A[i]! (by rw [getElem!_pos A i (by rw [HMmA.out]; exact hlt)]; exact List.getElem_mem _)
        rw [HX.out] at h1
        exact h1
      have hsum : ¬ (9223372036854775807 < 1 + ek.size) := by omega
      have HN : Hid ((wr.setCell ⟨bx, i * 4, none⟩ (.string (⟨#[97]⟩ ++ ek))).ownsRow w.heap.size 29 4 (.slice (some ⟨bx, 0, none⟩) mA pc) mA (flatE (preN 97 A (i + 1))) ∧ (wr.setCell ⟨bx, i * 4, none⟩ (.string (⟨#[97]⟩ ++ ek))).ownsRow w.heap.size 29 4 (.slice po1 mB pc1) mB (flatE B) ∧ Below w.heap.size w (wr.setCell ⟨bx, i * 4, none⟩ (.string (⟨#[97]⟩ ++ ek)))) := by
        refine ⟨?_, row_block HI.out.2.1 (fun k hk => heap_set_ne _ _ _ (fun e => HDIS.out bx rfl (by rw [← e]; exact hk))), HI.out.2.2.setCell hbx _⟩
        have h1 := own_key HI.out.1 i (by rw [preN_len, HMmA.out]; exact hlt) (⟨#[97]⟩ ++ ek)
        rw [HPN.1] at h1
        rw [HPN.2]
        exact h1
      clear HPN hEx hbx hsz
      go_wp2_with fail
      go_roundw
      case rel => exact ⟨i + 1, by go_num, by omega, HN.out⟩
      case measure => simp [intOf]; omega
    · have hltz : ¬ (i : Int) < (mA : Int) := by omega
      rw [preN_all 97 A i (by rw [HMmA.out]; omega)] at HI
      clear hlt
      go_wp2_with fail
      go_loopw [10] (fun s wr => ∃ i : Nat, s = .int .i64 i ∧ i ≤ mB ∧ Hid (wr.ownsRow w.heap.size 29 4 (.slice po1 mB pc1) mB (flatE (preN 98 B i)) ∧ wr.ownsRow w.heap.size 29 4 (.slice po mA pc) mA (flatE (A.map (pre 97))) ∧ Below w.heap.size w wr)) (fun s _ => mB - (intOf s).toNat)
      case atStart => exact ⟨0, rfl, Nat.zero_le _, by unfold preN; rw [List.take_zero, List.drop_zero]; exact HI.out.2.1, HI.out.1, HI.out.2.2⟩
      case round =>
        obtain ⟨i, rfl, him, HI⟩ := hrel
        by_cases hlt : i < mB
        · have hltz : (i : Int) < (mB : Int) := by omega
          obtain ⟨bx, cx', hvx, hEx, hbx⟩ := own_shapeE HI.out.1 (by omega)
          cases hvx
          obtain ⟨ek, ev, ed, eq, HX⟩ : ∃ k0 v0 d0 q0, Hid (B[i]! = E.mk k0 v0 d0 q0) := ⟨_, _, _, _, rfl⟩
          have HPN := preN_at 98 B i (by rw [HMmB.out]; exact hlt)
          rw [HX.out] at HPN
          have x0 := (ents_four hEx i (by rw [preN_len, HMmB.out]; exact hlt) HPN.1).1
          have f0 : wr.frozen? ⟨bx, 0 + i * 4 + 0, none⟩ = false := by
            obtain ⟨cur, hc⟩ := row_heap HI.out.1 (k := bx) rfl
            exact fz_of hc _
          simp only [Nat.zero_add, Nat.add_zero] at x0 f0
          have hsz : ek.size ≤ 140737488351232 := by
            have h1 := HSZ.out.2 B[i]! (by rw [getElem!_pos B i (by rw [HMmB.out]; exact hlt)]; exact List.getElem_mem _)
            rw [HX.out] at h1
            exact h1
          have hsum : ¬ (9223372036854775807 < 1 + ek.size) := by omega
          have HN : Hid ((wr.setCell ⟨bx, i * 4, none⟩ (.string (⟨#[98]⟩ ++ ek))).ownsRow w.heap.size 29 4 (.slice (some ⟨bx, 0, none⟩) mB pc1) mB (flatE (preN 98 B (i + 1))) ∧ (wr.setCell ⟨bx, i * 4, none⟩ (.string (⟨#[98]⟩ ++ ek))).ownsRow w.heap.size 29 4 (.slice po mA pc) mA (flatE (A.map (pre 97))) ∧ Below w.heap.size w (wr.setCell ⟨bx, i * 4, none⟩ (.string (⟨#[98]⟩ ++ ek)))) := by
            refine ⟨?_, row_block HI.out.2.1 (fun k hk => heap_set_ne _ _ _ (fun e => HDIS.out k hk (by rw [e]; rfl))), HI.out.2.2.setCell hbx _⟩
            have h1 := own_key HI.out.1 i (by rw [preN_len, HMmB.out]; exact hlt) (⟨#[98]⟩ ++ ek)
            rw [HPN.1] at h1
            rw [HPN.2]
            exact h1
          clear HPN hEx hbx hsz
          go_wp2_with fail
          go_roundw
          case rel => exact ⟨i + 1, by go_num, by omega, HN.out⟩
          case measure => simp [intOf]; omega
        · have hltz : ¬ (i : Int) < (mB : Int) := by omega
          rw [preN_all 98 B i (by rw [HMmB.out]; omega)] at HI
          clear hlt
          obtain ⟨X, HXE⟩ : ∃ x, Hid (A.map (pre 97) = x) := ⟨_, rfl⟩
          obtain ⟨Y, HYE⟩ : ∃ x, Hid (B.map (pre 98) = x) := ⟨_, rfl⟩
          rw [HXE.out, HYE.out] at HI
          have HXL : Hid (X.length = mA ∧ Y.length = mB ∧ mA ≤ 60 ∧ mB ≤ 60) := ⟨by rw [← HXE.out, List.length_map]; exact HMmA.out, by rw [← HYE.out, List.length_map]; exact HMmB.out, HAB.out.2.2.1, HAB.out.2.2.2⟩
          have HAP : Hid (Ks (X ++ Y) ∧ mergeL [X, Y] false = X ++ Y ∧ mergeL [Y, X] false = X ++ Y) := by have := apart_math HAB.out.1 HAB.out.2.1; rw [HXE.out, HYE.out] at this; exact this
          have HPI : Hid (∀ W, Below wr.heap.size wr W → PIn W ⟨.slice po mA pc, X⟩ ∧ PIn W ⟨.slice po1 mB pc1, Y⟩) := fun W hW => by
            have h1 := HI.out.2.1
            have h2 := HI.out.1
            rw [← HXL.out.1] at h1 ⊢
            rw [← HXL.out.2.1] at h2 ⊢
            exact ⟨(PIn.of_own h1).below hW (Nat.le_refl _), (PIn.of_own h2).below hW (Nat.le_refl _)⟩
          have HEX : Hid (∀ W, Below wr.heap.size wr W → (EntsV W po mA X ∧ (po = none → pc = 0)) ∧ EntsV W po1 mB Y ∧ (po1 = none → pc1 = 0)) := fun W hW => by
            have hh := HPI.out W hW
            rw [← HXL.out.1, ← HXL.out.2.1] at hh ⊢
            obtain ⟨⟨a1, b1, e1, f1, -, -, g1⟩, ⟨a2, b2, e2, f2, -, -, g2⟩⟩ := hh
            cases e1
            cases e2
            exact ⟨⟨f1, g1⟩, f2, g2⟩
          have HSM : Hid (mA ≤ 60 ∧ mB ≤ 60) := HXL.out.2.2
          have F1 := HEX.out (wr.alloc (.cells #[] 29)) (bel_alloc _ _)
          go_wp2_with (at_builtin; refine wpList_append_ents (wr.alloc (.cells #[] 29)) rfl (.tmp 57) (.tmp 58) rfl wr.heap.size (.slice (some ⟨wr.heap.size, 0, none⟩) 0 0) 0 [] rfl (own_emptyE wr) (by simp) po mA pc X rfl F1.1.1 F1.1.2 (by have := HSM.out; omega) ?_)
          intro v3 w3 ho3 hb3
          have HB3 : Hid (Below wr.heap.size wr w3) := (bel_alloc _ _).trans (hb3.mono (Nat.le_refl _))
          have F2 := HEX.out w3 HB3.out
          have HO3 : Hid _ := ho3
          clear ho3 hb3 F1
          go_wp2_with (at_builtin; refine wpList_append_ents w3 rfl (.tmp 60) (.tmp 61) rfl wr.heap.size v3 X.length X rfl HO3.out HB3.out.size po1 mB pc1 Y rfl F2.2.1 F2.2.2 (by have := HSM.out; have := HXL.out.1; omega) ?_)
          intro v4 w4 ho4 hb4
          have HB4 : Hid (Below wr.heap.size wr w4) := HB3.out.trans hb4
          rw [← List.length_append] at ho4
          obtain ⟨zo, zc, rfl, he4, -⟩ := ent_slice ho4 rfl
          obtain ⟨Z, HZ⟩ : ∃ x, Hid (X ++ Y = x) := ⟨_, rfl⟩
          rw [HZ.out] at he4 HAP
          have HZL : Hid (Z.length ≤ 120) := by show _ ≤ _; rw [← HZ.out, List.length_append]; have := HXL.out; omega
          have HE4 : Hid (∀ W, Below w4.heap.size w4 W → EntsV W zo Z.length Z) := fun W hW => he4.below hW (Nat.le_refl _)
          rw [HZ.out]
          clear ho4 hb4 he4 F2 HO3
          have D1 : Hid _ := merge_built [⟨.slice po mA pc, X⟩, ⟨.slice po1 mB pc1, Y⟩] 2 rfl (by decide) (by decide) w4 (fun p hp => by
            simp only [List.mem_cons, List.not_mem_nil, or_false] at hp
            rcases hp with rfl | rfl
            · exact (HPI.out w4 HB4.out).1
            · exact (HPI.out w4 HB4.out).2) #[.slice po mA pc, .slice po1 mB pc1] rfl false Z HAP.out.2.1 (by have := HXL.out; simp [tot]; omega)
          go_wp2_with fail
          refine Calls.mono D1.out ?_
          rintro e w5 ⟨o1, k1, rfl, he5, hb5⟩
          have HB5 : Hid (Below w4.heap.size w4 w5) := hb5
          have S1 : Hid _ := same_any o1 Z.length k1 Z zo Z.length zc Z w5 he5 (HE4.out w5 hb5) (by have := HZL.out; omega) (by have := HZL.out; omega)
          rw [decide_eq_true (rfl : Z = Z)] at S1
          clear he5 hb5 D1
          go_wp2_with fail
          refine Calls.mono S1.out ?_
          rintro e w6 ⟨rfl, hb6⟩
          have HB6 : Hid (Below w4.heap.size w4 w6) := HB5.out.trans (hb6.mono HB5.out.size)
          have HB6r : Hid (Below wr.heap.size wr w6) := HB4.out.trans (HB6.out.mono HB4.out.size)
          clear hb6 S1
          have D2 : Hid _ := merge_built [⟨.slice po1 mB pc1, Y⟩, ⟨.slice po mA pc, X⟩] 2 rfl (by decide) (by decide) w6 (fun p hp => by
            simp only [List.mem_cons, List.not_mem_nil, or_false] at hp
            rcases hp with rfl | rfl
            · exact (HPI.out w6 HB6r.out).2
            · exact (HPI.out w6 HB6r.out).1) #[.slice po1 mB pc1, .slice po mA pc] rfl false Z HAP.out.2.2 (by have := HXL.out; simp [tot]; omega)
          go_wp2_with fail
          refine Calls.mono D2.out ?_
          rintro e w7 ⟨o2, k2, rfl, he7, hb7⟩
          have HB7 : Hid (Below w4.heap.size w4 w7) := HB6.out.trans (hb7.mono HB6.out.size)
          have S2 : Hid _ := same_any o2 Z.length k2 Z zo Z.length zc Z w7 he7 (HE4.out w7 HB7.out) (by have := HZL.out; omega) (by have := HZL.out; omega)
          rw [decide_eq_true (rfl : Z = Z)] at S2
          clear he7 hb7 D2
          go_wp2_with fail
          refine Calls.mono S2.out ?_
          rintro e w8 ⟨rfl, hb8⟩
          have HB8 : Hid (Below w4.heap.size w4 w8) := HB7.out.trans (hb8.mono HB7.out.size)
          clear hb8 S2
          have S3 : Hid _ := refSorted_any zo Z.length zc Z w8 (HE4.out w8 HB8.out) (by have := HZL.out; omega)
          rw [sortedB_ks.2 HAP.out.1] at S3
          go_wp2_with fail
          refine Calls.mono S3.out ?_
          rintro e w9 ⟨rfl, hb9⟩
          have HB9 : Hid (Below w.heap.size w w9) := by
            have h1 : Below w4.heap.size w4 w9 := HB8.out.trans (hb9.mono HB8.out.size)
            have h2 : Below wr.heap.size wr w9 := HB4.out.trans (h1.mono HB4.out.size)
            exact HI.out.2.2.trans (h2.mono HI.out.2.2.size)
          clear hb9 S3
          go_wp2
          go_ret
          exact ⟨rfl, HB9.out⟩
end Go.Proofs.Yteggjenncmjfmaa

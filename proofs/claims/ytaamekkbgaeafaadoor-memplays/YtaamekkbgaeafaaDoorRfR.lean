/-
  The document's Range and Get.
-/
import Derived.Test.YtaamekkbgaeafaaDoorRfM
namespace Go.Proofs.YtaamekkbgaeafaaDoor
open Go.RowKit
set_option linter.unusedSectionVars false
set_option linter.unusedVariables false
variable [Inhabited E] [DecidableEq E]
set_option maxRecDepth 100000 in
set_option maxHeartbeats 4000000 in
theorem refRangeM_any (own : Nat → Prop) (g N : Nat) (R : Rf) (lo hi : ByteArray) (w : World) (h : RfAt own w g R N) (hN : N ≤ 1000) :
    Calls Tryd.prog 19 #[.pointer (some ⟨g, 0, none⟩), .string lo, .string hi] w fun e w' => ∃ v', e = .returned v' ∧ w'.ownsRow w.heap.size 29 4 v' (rangeL lo hi (foldS R.l)).length (flatE (rangeL lo hi (foldS R.l))) ∧ Below w.heap.size w w' := by
  obtain ⟨F, HF⟩ : ∃ F, Hid (foldS R.l = F) := ⟨_, rfl⟩
  have HKF : Hid (Ks F) := by show Ks _; rw [← HF.out]; exact ks_foldS _
  rw [HF.out]
  obtain ⟨nf, HNL⟩ : ∃ nf, Hid (F.length = nf) := ⟨_, rfl⟩
  have HNF : Hid (nf ≤ 1000) := by show _ ≤ _; rw [← HNL.out, ← HF.out]; have := foldS_len R.l; have := h.1.len; omega
  obtain ⟨wf, v0, hM⟩ := h
  obtain ⟨ao, c, rfl, hEV, h0⟩ := hM.sl
  have c0 := hM.c0
  have hfo := refFold_any ao R.l.length c R.l w hEV (by have := wf.len; omega)
  rw [HF.out, HNL.out] at hfo
  have HFO : Hid _ := hfo
  clear hfo hM hEV h0 wf
  go_enter Tryd.func19, Tryd.ntmps19
  go_wp2_with fail
  refine Calls.mono HFO.out ?_
  rintro e w5 ⟨v5, rfl, ho5, hb5⟩
  obtain ⟨ao3, c3, rfl, he3, h03⟩ := own_sl ho5
  have HE5 : Hid (∀ W, Below w5.heap.size w5 W → EntsV W ao3 nf F) := fun W hW => he3.below hW (Nat.le_refl _)
  have hs5 := hb5.size
  clear ho5 he3 h03 HFO c0
  go_wp2_with fail
  go_loopw [7, 9] (fun x7 x9 wr => ∃ j : Nat, x9 = .int .i64 j ∧ j ≤ nf ∧ Hid (wr.ownsRow w5.heap.size 29 4 x7 ((F.take j).filter (inR lo hi)).length (flatE ((F.take j).filter (inR lo hi))) ∧ Below w5.heap.size w5 wr)) (fun _ x _ => nf - (intOf x).toNat)
  case atStart => exact ⟨0, rfl, by omega, ⟨rfl, .inl ⟨rfl, rfl⟩⟩, Below.refl _ _⟩
  case round =>
    obtain ⟨j, rfl, hj, HP⟩ := hrel
    by_cases hjn : j < nf
    · have hz4 : (j : Int) < (nf : Int) := by omega
      have hz5 : (j : Int) < 1001 := by have := HNF.out; omega
      obtain ⟨b3, off3, hao3, hEn3⟩ := (HE5.out wr HP.out.2).2 (by omega)
      subst hao3
      obtain ⟨k, v, d, q, hx⟩ : ∃ k v d q, F[j]! = ⟨k, v, d, q⟩ := ⟨_, _, _, _, rfl⟩
      obtain ⟨q0, q1, q2, q3⟩ := ents_four hEn3 j (by rw [HNL.out]; exact hjn) hx
      have HX : Hid (F[j]! = ⟨k, v, d, q⟩) := hx
      have HSN : Hid _ := filter_snoc (inR lo hi) F j (by rw [HNL.out]; exact hjn)
      have HIN : Hid (inR lo hi ⟨k, v, d, q⟩ = (!(decide (cmpS k lo < 0)) && (decide (hi = ⟨#[]⟩) || decide (cmpS k hi < 0)))) := rfl
      clear hx hEn3
      obtain ⟨a1, ha1⟩ : ∃ a, Op.bytesLess k.toList lo.toList = a := ⟨_, rfl⟩
      obtain ⟨a2, ha2⟩ : ∃ a, (hi.toList == []) = a := ⟨_, rfl⟩
      obtain ⟨a3, ha3⟩ : ∃ a, Op.bytesLess k.toList hi.toList = a := ⟨_, rfl⟩
      have HA : Hid (inR lo hi ⟨k, v, d, q⟩ = (!a1 && (a2 || a3))) := by
        show _ = _
        rw [HIN.out, ← ha1, ← ha2, ← ha3, less_cmpS, less_cmpS, empty_eq]
      clear HIN
      cases a1 with
      | true =>
        have hF : inR lo hi ⟨k, v, d, q⟩ = false := by rw [HA.out]; rfl
        have HN2 : Hid (wr.ownsRow w5.heap.size 29 4 u7 ((F.take (j + 1)).filter (inR lo hi)).length (flatE ((F.take (j + 1)).filter (inR lo hi))) ∧ Below w5.heap.size w5 wr) := by
          have h1 := HSN.out
          rw [HX.out, hF] at h1
          have h2 : (F.take (j + 1)).filter (inR lo hi) = (F.take j).filter (inR lo hi) := by rw [h1]; simp
          rw [h2]
          exact HP.out
        clear hF HP HA HSN HX
        go_wp2
        go_roundw
        case rel => exact ⟨j + 1, by go_num, by omega, HN2⟩
        case measure => (try simp [intOf]); omega
      | false =>
        cases a2 with
        | true =>
          have hF : inR lo hi ⟨k, v, d, q⟩ = true := by rw [HA.out]; rfl
          obtain ⟨L, HL⟩ : ∃ L, Hid ((F.take j).filter (inR lo hi) = L) := ⟨_, rfl⟩
          have HNL : Hid (L.length ≤ 1000) := by show _ ≤ _; rw [← HL.out]; have := List.length_filter_le (inR lo hi) (F.take j); rw [List.length_take] at this; have := HNF.out; omega
          have HO9 : Hid ((wr.alloc (Obj.cells #[.string k, .string v, .bool d, .int .i64 q] 29)).ownsRow w5.heap.size 29 4 u7 L.length (flatE L)) := by
            have := HP.out.1
            rw [HL.out] at this
            exact own_below this (bel_alloc wr _) (Nat.le_refl _)
          have HB9 : Hid (w5.heap.size ≤ (wr.alloc (Obj.cells #[.string k, .string v, .bool d, .int .i64 q] 29)).heap.size) := by show _ ≤ _; have := HP.out.2.size; simp; omega
          have HE9x : Hid (EntsV (wr.alloc (Obj.cells #[.string k, .string v, .bool d, .int .i64 q] 29)) (some ⟨wr.heap.size, 0, none⟩) 1 [(⟨k, v, d, q⟩ : E)]) := ent_new wr ⟨k, v, d, q⟩
          have HBB : Hid (Below w5.heap.size w5 (wr.alloc (Obj.cells #[.string k, .string v, .bool d, .int .i64 q] 29))) := HP.out.2.trans ((bel_alloc wr _).mono HP.out.2.size)
          clear HP
          go_wp2_with (at_builtin; (refine wpList_append_ents _ rfl (.tmp 41) (.tmp 46) rfl w5.heap.size u7 L.length L rfl HO9.out HB9.out (some ⟨wr.heap.size, 0, none⟩) 1 1 [(⟨k, v, d, q⟩ : E)] rfl HE9x.out (fun e => by cases e) (by have := HNL.out; omega) ?_); intro y9 s9 hoy9 hby9)
          have HN2 : Hid (s9.ownsRow w5.heap.size 29 4 y9 ((F.take (j + 1)).filter (inR lo hi)).length (flatE ((F.take (j + 1)).filter (inR lo hi))) ∧ Below w5.heap.size w5 s9) := by
            have h1 := HSN.out
            rw [HX.out, hF, HL.out] at h1
            have h2 : (F.take (j + 1)).filter (inR lo hi) = L ++ [(⟨k, v, d, q⟩ : E)] := by rw [h1]; simp
            rw [h2]
            exact ⟨hoy9, HBB.out.trans hby9⟩
          clear hF HA HSN HX hoy9 hby9 HBB HE9x HB9 HO9
          go_wp2
          go_roundw
          case rel => exact ⟨j + 1, by go_num, by omega, HN2⟩
          case measure => (try simp [intOf]); omega
        | false =>
          cases a3 with
          | true =>
            have hF : inR lo hi ⟨k, v, d, q⟩ = true := by rw [HA.out]; rfl
            obtain ⟨L, HL⟩ : ∃ L, Hid ((F.take j).filter (inR lo hi) = L) := ⟨_, rfl⟩
            have HNL : Hid (L.length ≤ 1000) := by show _ ≤ _; rw [← HL.out]; have := List.length_filter_le (inR lo hi) (F.take j); rw [List.length_take] at this; have := HNF.out; omega
            have HO9 : Hid ((wr.alloc (Obj.cells #[.string k, .string v, .bool d, .int .i64 q] 29)).ownsRow w5.heap.size 29 4 u7 L.length (flatE L)) := by
              have := HP.out.1
              rw [HL.out] at this
              exact own_below this (bel_alloc wr _) (Nat.le_refl _)
            have HB9 : Hid (w5.heap.size ≤ (wr.alloc (Obj.cells #[.string k, .string v, .bool d, .int .i64 q] 29)).heap.size) := by show _ ≤ _; have := HP.out.2.size; simp; omega
            have HE9x : Hid (EntsV (wr.alloc (Obj.cells #[.string k, .string v, .bool d, .int .i64 q] 29)) (some ⟨wr.heap.size, 0, none⟩) 1 [(⟨k, v, d, q⟩ : E)]) := ent_new wr ⟨k, v, d, q⟩
            have HBB : Hid (Below w5.heap.size w5 (wr.alloc (Obj.cells #[.string k, .string v, .bool d, .int .i64 q] 29))) := HP.out.2.trans ((bel_alloc wr _).mono HP.out.2.size)
            clear HP
            go_wp2_with (at_builtin; (refine wpList_append_ents _ rfl (.tmp 41) (.tmp 46) rfl w5.heap.size u7 L.length L rfl HO9.out HB9.out (some ⟨wr.heap.size, 0, none⟩) 1 1 [(⟨k, v, d, q⟩ : E)] rfl HE9x.out (fun e => by cases e) (by have := HNL.out; omega) ?_); intro y9 s9 hoy9 hby9)
            have HN2 : Hid (s9.ownsRow w5.heap.size 29 4 y9 ((F.take (j + 1)).filter (inR lo hi)).length (flatE ((F.take (j + 1)).filter (inR lo hi))) ∧ Below w5.heap.size w5 s9) := by
              have h1 := HSN.out
              rw [HX.out, hF, HL.out] at h1
              have h2 : (F.take (j + 1)).filter (inR lo hi) = L ++ [(⟨k, v, d, q⟩ : E)] := by rw [h1]; simp
              rw [h2]
              exact ⟨hoy9, HBB.out.trans hby9⟩
            clear hF HA HSN HX hoy9 hby9 HBB HE9x HB9 HO9
            go_wp2
            go_roundw
            case rel => exact ⟨j + 1, by go_num, by omega, HN2⟩
            case measure => (try simp [intOf]); omega
          | false =>
            have hF : inR lo hi ⟨k, v, d, q⟩ = false := by rw [HA.out]; rfl
            have HN2 : Hid (wr.ownsRow w5.heap.size 29 4 u7 ((F.take (j + 1)).filter (inR lo hi)).length (flatE ((F.take (j + 1)).filter (inR lo hi))) ∧ Below w5.heap.size w5 wr) := by
              have h1 := HSN.out
              rw [HX.out, hF] at h1
              have h2 : (F.take (j + 1)).filter (inR lo hi) = (F.take j).filter (inR lo hi) := by rw [h1]; simp
              rw [h2]
              exact HP.out
            clear hF HP HA HSN HX
            go_wp2
            go_roundw
            case rel => exact ⟨j + 1, by go_num, by omega, HN2⟩
            case measure => (try simp [intOf]); omega
    · have hz4 : ¬ ((j : Int) < (nf : Int)) := by omega
      have hfil : (F.take j).filter (inR lo hi) = rangeL lo hi F := by rw [range_filter lo hi HKF.out, List.take_of_length_le (by rw [HNL.out]; omega)]
      have ho6 := HP.out.1
      rw [hfil] at ho6
      have HO6 : Hid (wr.ownsRow w.heap.size 29 4 u7 (rangeL lo hi F).length (flatE (rangeL lo hi F))) := ownsRow_mono ho6 hs5
      have HB6 : Hid (Below w.heap.size w wr) := hb5.trans (HP.out.2.mono hs5)
      clear HP ho6 hfil hjn hs5 hb5
      go_wp2
      go_ret
      exact ⟨_, rfl, HO6.out, HB6.out⟩
theorem lat_up : ∀ (l : List E), l.Pairwise (fun a b => a.seq < b.seq) → l.foldl lat none = l.getLast? := by
  intro l
  refine snoc_rec (p := fun l => l.Pairwise (fun a b => a.seq < b.seq) → l.foldl lat none = l.getLast?) (fun _ => rfl) (fun l a ih hp => ?_) l
  rw [List.foldl_append, ih (List.pairwise_append.1 hp).1, List.getLast?_append]
  simp only [List.getLast?_singleton, Option.some_or, List.foldl_cons, List.foldl_nil]
  cases hl : l.getLast? with
  | none => rfl
  | some x =>
    have hx : x ∈ l := List.mem_of_getLast? hl
    have := (List.pairwise_append.1 hp).2.2 x hx a (by simp)
    simp only [lat]
    rw [if_pos (by omega)]
theorem lk_up (key : ByteArray) {l : List E} (h : l.Pairwise (fun a b => a.seq < b.seq)) : lk key (foldS l) = (ofKey key l).getLast? := by
  rw [lk_foldS, best_ofKey]
  exact lat_up _ (by unfold ofKey; exact List.Pairwise.filter _ h)
theorem is_lk (key : ByteArray) {es : List E} (h : Ks es) : isIn key es = (lk key es).isSome ∧ getV key es = (lk key es).getD ⟨⟨#[]⟩, ⟨#[]⟩, false, 0⟩ := by
  have h1 : isIn key es = (lk key es).isSome := by
    unfold isIn lk
    rw [Bool.eq_iff_iff, List.any_eq_true, List.find?_isSome]
  refine ⟨h1, ?_⟩
  unfold getV
  by_cases hi : isIn key es = true
  · rw [if_pos hi]
    have h2 := ks_isIn key h
    rw [hi] at h2
    have h3 : belowN key es < es.length ∧ es[belowN key es]!.key = key := by simpa using h2.symm
    have h4 : lk es[belowN key es]!.key es = some es[belowN key es]! := lk_of_mem h (by rw [getElem!_pos es _ h3.1]; exact List.getElem_mem h3.1)
    rw [h3.2] at h4
    rw [h4]; rfl
  · rw [if_neg hi]
    rw [h1] at hi
    cases hq : lk key es with
    | none => rfl
    | some x => rw [hq] at hi; exact absurd rfl hi
theorem ofKey_found {key : ByteArray} {l : List E} {m : Nat} (hm : m < l.length) (hd : ofKey key (l.drop (m + 1)) = []) (hk : l[m]!.key = key) : (ofKey key l).getLast? = some l[m]! := by
  have e1 : l = l.take m ++ (l[m]! :: l.drop (m + 1)) := by
    rw [getElem!_pos l m hm, ← List.drop_eq_getElem_cons hm, List.take_append_drop]
  rw [show ofKey key l = ofKey key (l.take m) ++ ofKey key (l[m]! :: l.drop (m + 1)) by
    unfold ofKey
    rw [← List.filter_append, ← e1], ofKey_cons, if_pos hk, hd]
  simp
theorem ofKey_step {key : ByteArray} {l : List E} {m : Nat} (hm : m < l.length) (hd : ofKey key (l.drop (m + 1)) = []) (hk : l[m]!.key ≠ key) : ofKey key (l.drop m) = [] := by
  rw [List.drop_eq_getElem_cons hm, ofKey_cons, ← getElem!_pos l m hm, if_neg hk]
  exact hd
end Go.Proofs.YtaamekkbgaeafaaDoor

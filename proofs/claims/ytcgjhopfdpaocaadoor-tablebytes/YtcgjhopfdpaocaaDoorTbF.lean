/-
  What table.Fit and table.Leaves answer: contracts over this translation.
-/
import Derived.Test.YtcgjhopfdpaocaaDoorTbR
import Derived.Test.YtcgjhopfdpaocaaDoorPartBH
namespace Go.Proofs.YtcgjhopfdpaocaaDoor
open Go.RowKit Go.Sort Go.Shelf
set_option linter.unusedSectionVars false
variable [Inhabited E] [DecidableEq E]
set_option maxRecDepth 100000 in
set_option maxHeartbeats 2000000 in
theorem fitT_any (ao : Option Addr) (n c : Nat) (es : List E) (w : World) (hE : EntsV w ao n es) (hsm : Small es) (hbig : n ≤ 1000000000000) :
    Calls Tryd.prog 20 #[.slice ao n c] w fun e w' => e = .returned (.bool (fitB es)) ∧ Below w.heap.size w w' := by
  obtain ⟨r, HR⟩ : ∃ r, Hid (fitB es = r) := ⟨_, rfl⟩
  rw [HR.out]
  have HE : Hid _ := hE
  have HS : Hid _ := hsm
  have hln := hE.1
  clear hE hsm
  by_cases h0 : n = 0
  · have hf : r = false := by rw [← HR.out]; unfold fitB; rw [decide_eq_false (by omega)]; rfl
    subst hf
    subst h0
    go_enter Tryd.func20, Tryd.ntmps20
    go_wp2
    go_ret
    exact ⟨rfl, Below.refl _ _⟩
  · have h0z : ((n : Int) == 0) = false := by simp; omega
    by_cases h64 : n ≤ 64
    · have h64z : ¬ (64 : Int) < (n : Int) := by omega
      have HLN : Hid (es.length = n) := hln
      clear hln
      go_enter Tryd.func20, Tryd.ntmps20
      go_wp2
      go_loopw [4, 15] (fun _ x wr => ∃ i : Nat, x = .int .i64 i ∧ i ≤ n ∧ Hid (∀ e ∈ es.take i, rightB e = true) ∧ Below w.heap.size w wr) (fun _ x _ => n - (intOf x).toNat)
      case atStart => exact ⟨0, rfl, by omega, (fun e he => by simp at he), Below.refl _ _⟩
      case round =>
        obtain ⟨i, rfl, hin, HA, hbel⟩ := hrel
        by_cases hlt : i < n
        · have hltz : (i : Int) < (n : Int) := by omega
          obtain ⟨b, off, hao, hEn⟩ := HE.out.2 (by omega)
          have hEr : Ents wr b off es := hEn.below hbel (Nat.le_refl _)
          obtain ⟨k0, v0, d0, q0, HX⟩ : ∃ k0 v0 d0 q0, Hid (es[i]! = E.mk k0 v0 d0 q0) := ⟨_, _, _, _, rfl⟩
          obtain ⟨c0, c1, c2, c3⟩ := ents_four hEr i (by rw [HLN.out]; omega) HX.out
          obtain ⟨s0, s1⟩ := small_at HS.out i (by rw [HLN.out]; omega) HX.out
          subst hao
          obtain ⟨y, HY⟩ : ∃ y, Hid (rightB ⟨k0, v0, d0, q0⟩ = y) := ⟨_, rfl⟩
          have CR := fun w => right_any k0 v0 d0 q0 w s0 s1
          rw [HY.out] at CR
          have HCR : Hid _ := CR
          have HB : Hid _ := hbel
          clear CR hEr hEn hbel s0 s1
          go_wp2_with fail
          refine (HCR.out _).mono ?_
          rintro e w2 ⟨rfl, hb2⟩
          have HB2 : Hid (Below w.heap.size w w2) := (HB.out.alloc HB.out.size _).trans (hb2.mono (by have := HB.out.size; simp; omega))
          clear hb2 c0 c1 c2 c3
          cases y with
          | false =>
            have hf : r = false := by
              rw [← HR.out]
              unfold fitB
              have : es.all rightB = false := by
                rw [List.all_eq_false]
                exact ⟨es[i]!, by rw [getElem!_pos es i (by rw [HLN.out]; omega)]; exact List.getElem_mem _, by rw [HX.out, HY.out]; simp⟩
              rw [this]; simp
            subst hf
            go_wp2
            go_ret
            exact ⟨rfl, HB2.out⟩
          | true =>
            go_wp2
            go_roundw
            case rel =>
              refine ⟨i + 1, by go_num, by omega, ?_, HB2.out⟩
              show ∀ e ∈ _, _
              intro e he
              rw [take_snoc es i (by rw [HLN.out]; omega), HX.out] at he
              rcases List.mem_append.1 he with he | he
              · exact HA.out e he
              · simp at he; subst he; exact HY.out
            case measure => simp [intOf]; omega
        · have hltz : ¬ (i : Int) < (n : Int) := by omega
          have HALL : Hid (es.all rightB = true) := by
            show _ = _
            rw [List.all_eq_true]
            intro e he
            exact HA.out e (by rw [List.take_of_length_le (by rw [HLN.out]; omega)]; exact he)
          have CS := fun w' hw => sorted_any ao n c es w' (EntsV.below HE.out hw (Nat.le_refl _)) hbig
          have HCS : Hid _ := CS wr hbel
          have HB : Hid _ := hbel
          clear CS hbel
          have HF : Hid (r = sortedB es) := by show _ = _; rw [← HR.out]; unfold fitB; rw [HALL.out, decide_eq_true (by rw [HLN.out]; omega)]; simp
          go_wp2_with fail
          refine Calls.mono HCS.out ?_
          rintro e w2 ⟨rfl, hb2⟩
          have HB2 : Hid _ := HB.out.trans (hb2.mono HB.out.size)
          clear hb2
          go_wp2
          go_ret
          exact ⟨by rw [HF.out]; rfl, HB2.out⟩
    · have hf : r = false := by rw [← HR.out]; unfold fitB; rw [decide_eq_false (by omega)]; rfl
      subst hf
      have h64z : (64 : Int) < (n : Int) := by omega
      go_enter Tryd.func20, Tryd.ntmps20
      go_wp2
      go_ret
      exact ⟨rfl, Below.refl _ _⟩
/-- What a round keeps: all below n0, and all blocks of bytes. -/
structure KB (n0 : Nat) (W W' : World) : Prop where
  bel : Below n0 W W'
  bytes : ∀ (k : Nat) (cur : Array Value) (fr : Nat × Nat), W.heap[k]? = some (Obj.cells cur 5 fr) → W'.heap[k]? = some (Obj.cells cur 5 fr)
theorem KB.trans {n0 : Nat} {A B C : World} (h : KB n0 A B) (k : KB n0 B C) : KB n0 A C := ⟨h.bel.trans k.bel, fun i c f hi => k.bytes i c f (h.bytes i c f hi)⟩
theorem KB.of_below {n0 B : Nat} {W W' : World} (h : Below B W W') (hB : W.heap.size ≤ B) (hn : n0 ≤ B) : KB n0 W W' :=
  ⟨h.mono hn, fun k _ _ hk => (h.block k (Nat.lt_of_lt_of_le (Array.getElem?_eq_some_iff.1 hk).1 hB)).trans hk⟩
theorem owns_kb {n0 b : Nat} {W W' : World} {v : Value} {n : Nat} {xs : List Value} (h : W.ownsRow b 5 1 v n xs) (hk : KB n0 W W') : W'.ownsRow b 5 1 v n xs := by
  refine ⟨h.1, ?_⟩
  rcases h.2 with h2 | ⟨g, cap, cur, hv, hb, hg, r⟩
  · exact .inl h2
  · exact .inr ⟨g, cap, cur, hv, hb, hk.bytes _ _ _ hg, r⟩
theorem kb_grow {n0 : Nat} {W w1 : World} {t : TypeId} (ht : t ≠ 5) {v : Value} {k : Nat} {xs : List Value} {tmp : Obj} (hrow : W.ownsRow n0 t 1 v k xs) (hn : n0 ≤ W.heap.size) (hg : (W.alloc tmp).grownBy w1 v.ownBlock) : KB n0 W w1 := by
  have hob : ∀ j, v.ownBlock = some j → n0 ≤ j ∧ ∃ cur, W.heap[j]? = some (Obj.cells cur t (0, 0)) := fun j ej => by
    rcases hrow.2 with ⟨rfl, _⟩ | ⟨g, cap, cur, rfl, hb, hgb, _⟩
    · simp [Value.ownBlock] at ej
    · obtain rfl : g = j := by simpa [Value.ownBlock] using ej
      exact ⟨hb, cur, hgb⟩
  refine ⟨((Below.refl n0 W).alloc hn tmp).grown hg (by simp; omega) fun j ej => (hob j ej).1, fun i cur fr hi => ?_⟩
  have hlt := (Array.getElem?_eq_some_iff.1 hi).1
  have h2 : (W.alloc tmp).heap[i]? = some (Obj.cells cur 5 fr) := (Below.heap_alloc W tmp i hlt).trans hi
  refine (hg.block i (by simp; omega) fun e => ?_).trans h2
  obtain ⟨-, cur2, h3⟩ := hob i e.symm
  rw [hi] at h3; cases h3; exact ht rfl
/-- Slices as cells. -/
def svC (xs : List SV) : List Value := xs.map fun x => .slice x.ao x.n x.c
theorem svC_snoc (xs : List SV) (x : SV) : svC (xs ++ [x]) = svC xs ++ [.slice x.ao x.n x.c] := by simp [svC]
theorem info25 : (Tryd.prog.info? 25).map (fun i => (i.zero, i.size, i.bytes)) = some (some (.slice none 0 0), 1, 24) := by kernel_rfl
/-- A row of slices of the call's own, each of bytes of its own. -/
def LeavesO (base : Nat) (W : World) (v : Value) (ls : List SV) : Prop := W.ownsRow base 25 1 v ls.length (svC ls) ∧ ∀ p ∈ ls, W.ownsRow base 5 1 (.slice p.ao p.n p.c) p.n (cellsOf p.bs)
theorem bytesB_len3 (e : E) : (bytesB e).length ≤ 2000 := by
  unfold bytesB
  by_cases h : rightB e = true
  · obtain ⟨h1, h2, qn, h3, h4, h5⟩ := right_parts h
    have a1 := putB_le e.seq.toNat
    have a2 := textB_len2 e.key
    have a3 := textB_len2 e.value
    rw [if_pos h]
    split <;> simp only [headB, List.length_append, List.length_cons] <;> omega
  · rw [if_neg h]; simp
set_option maxRecDepth 100000 in
set_option maxHeartbeats 4000000 in
theorem leavesT_any (ao : Option Addr) (n c : Nat) (es : List E) (w : World) (hE : EntsV w ao n es) (hsm : Small es) (hbig : n ≤ 1000) :
    Calls Tryd.prog 17 #[.slice ao n c] w fun e w' => ∃ v, e = .returned v ∧ ∃ ls, LeavesO w.heap.size w' v ls ∧ ls.map SV.bs = es.map bytesB ∧ Below w.heap.size w w' := by
  obtain ⟨i0, hi, hz0, hz1, hz2⟩ := info_parts info25
  have HE : Hid (EntsV w ao n es) := hE
  have HS : Hid (Small es) := hsm
  clear hE hsm
  go_enter Tryd.func17, Tryd.ntmps17
  go_wp2
  go_loopw [3, 5, 8] (fun o _ x wr => ∃ (i : Nat) (ls : List SV), x = .int .i64 i ∧ i ≤ n ∧ ls.length = i ∧ Hid (LeavesO w.heap.size wr o ls) ∧ Hid (ls.map SV.bs = (es.take i).map bytesB) ∧ Hid (Below w.heap.size w wr)) (fun _ _ x _ => n - (intOf x).toNat)
  case atStart => exact ⟨0, [], rfl, by omega, rfl, ⟨World.ownsRow_nil _ _ _ _, fun p hp => by cases hp⟩, rfl, Below.refl _ _⟩
  case round =>
    obtain ⟨i, ls, rfl, hin, hli, HO, HM, HB⟩ := hrel
    by_cases hlt : i < n
    · have hltz : (i : Int) < (n : Int) := by omega
      obtain ⟨b, off, hao, hEn⟩ := HE.out.2 (by omega)
      have hln := HE.out.1
      have hEr : Ents wr b off es := hEn.below HB.out (Nat.le_refl _)
      obtain ⟨k0, v0, d0, q0, HX⟩ : ∃ k0 v0 d0 q0, Hid (es[i]! = E.mk k0 v0 d0 q0) := ⟨_, _, _, _, rfl⟩
      obtain ⟨c0, c1, c2, c3⟩ := ents_four hEr i (by omega) HX.out
      obtain ⟨s0, s1⟩ := small_at HS.out i (by omega) HX.out
      have HTS : Hid (es.take (i + 1) = es.take i ++ [⟨k0, v0, d0, q0⟩]) := by show _ = _; rw [take_snoc es i (by omega), HX.out]
      subst hao
      have HCB : Hid _ := fun w => bytes_any k0 v0 d0 q0 w s0 s1
      clear hEr hEn s0 s1 hln
      go_wp2_with fail
      refine (HCB.out _).mono ?_
      rintro e w2 ⟨v2, rfl, hown2, hb2⟩
      obtain ⟨bb, HBB⟩ : ∃ x, Hid (bytesB ⟨k0, v0, d0, q0⟩ = x) := ⟨_, rfl⟩
      rw [HBB.out] at hown2
      obtain ⟨ao2, cc2, rfl, -, -, -, -, -, -⟩ := own_bytes hown2
      obtain ⟨m2, HM2⟩ : ∃ x, Hid (bb.length = x) := ⟨_, rfl⟩
      rw [HM2.out] at hown2 ⊢
      have hB2 : Below wr.heap.size wr w2 := (bel_alloc wr _).trans (hb2.mono (by simp))
      have HO2 : Hid (w2.ownsRow wr.heap.size 5 1 (.slice ao2 m2 cc2) m2 (cellsOf bb)) := ownsRow_mono hown2 (by simp)
      have HB2 : Hid (Below wr.heap.size wr w2) := hB2
      have HR2 : Hid ((w2.alloc (.cells #[.slice ao2 m2 cc2] 25)).ownsRow w.heap.size 25 1 u3 ls.length (svC ls)) := (own_below HO.out.1 hB2 (Nat.le_refl _)).alloc _
      have HSZ : Hid (w.heap.size ≤ w2.heap.size) := Nat.le_trans HB.out.size hB2.size
      clear hown2 hb2 hB2 c0 c1 c2 c3 HCB
      go_wp2_with (at_builtin; refine wpList_append_own _ rfl (.tmp 12) (.tmp 15) 40 rfl w.heap.size 25 i0 _ 1 24 Tryd.underlying40 hi hz0 hz1 hz2 rfl (by decide) _ ls.length (svC ls) rfl HR2.out ⟨w2.heap.size, 0, none⟩ 1 1 [.slice ao2 m2 cc2] rfl rfl (cell_one_new _ _ _) (by simp [Value.oneCell']) (by unfold maxLen; omega) (by omega) (by simp; have := HSZ.out; omega) ?_)
      intro v6 w6 hown6 hgr6 _
      have hkb : KB w.heap.size w2 w6 := kb_grow (by decide) (own_below HO.out.1 HB2.out (Nat.le_refl _)) HSZ.out hgr6
      have HN : Hid (LeavesO w.heap.size w6 v6 (ls ++ [⟨ao2, m2, cc2, bb⟩])) := by
        refine ⟨?_, fun p hp => ?_⟩
        · rw [List.length_append, svC_snoc, hli]; exact hown6
        · rcases List.mem_append.1 hp with h | h
          · exact owns_kb (own_below (HO.out.2 p h) HB2.out (Nat.le_refl _)) hkb
          · simp only [List.mem_singleton] at h; subst h
            exact owns_kb (ownsRow_mono HO2.out HB.out.size) hkb
      have HB6 : Hid (Below w.heap.size w w6) := (HB.out.trans (HB2.out.mono HB.out.size)).trans hkb.bel
      clear hown6 hgr6 hkb
      go_wp2
      go_roundw
      case rel =>
        refine ⟨i + 1, ls ++ [⟨ao2, m2, cc2, bb⟩], by go_num, by omega, by simp [hli], HN, ?_, HB6⟩
        show _ = _
        rw [HTS.out, List.map_append, List.map_append, HM.out, List.map_cons, List.map_cons, List.map_nil, List.map_nil, HBB.out]
      case measure => simp [intOf]; omega
    · have hltz : ¬ (i : Int) < (n : Int) := by omega
      have HT : Hid (es.take i = es) := List.take_of_length_le (by have := HE.out.1; omega)
      go_wp2
      go_ret
      exact ⟨_, rfl, ls, HO.out, by rw [HM.out, HT.out], HB.out⟩
/-- Leaves, as the tree's texts have them. -/
def toLV (p : SV) : Sm.LV := ⟨p.ao, p.n, p.c, p.bs⟩
theorem leavesO_V {base : Nat} {W : World} {v : Value} {ls : List SV} (h : LeavesO base W v ls) (hn : ∀ p ∈ ls, p.bs.length ≤ 2000) : ∃ ao c, v = .slice ao ls.length c ∧ Sm.LeavesV W ao ls.length c (ls.map toLV) ∧ Sm.bytesL (ls.map toLV) = ls.map SV.bs := by
  have hb : Sm.bytesL (ls.map toLV) = ls.map SV.bs := by unfold Sm.bytesL; rw [List.map_map]; rfl
  rcases h.1.2 with ⟨h1, h2⟩ | ⟨g, cap, cur, h1, h2, h3, h4, h5, h6, h7⟩
  · exact ⟨none, 0, by rw [h1, h2], ⟨by simp, by omega, by omega, fun h => by omega⟩, hb⟩
  · refine ⟨some ⟨g, 0, none⟩, cap, h1, ⟨by simp, by omega, by unfold maxLen at *; omega, fun _ => ⟨g, 0, rfl, fun i p hp => ?_⟩⟩, hb⟩
    rw [List.getElem?_map] at hp
    obtain ⟨x, hx, rfl⟩ := Option.map_eq_some_iff.1 hp
    have hxm : x ∈ ls := List.mem_of_getElem? hx
    have hown := h.2 x hxm
    obtain ⟨ao2, c2, hv2, hby2, h02, -, -, -, -⟩ := own_bytes hown
    cases hv2
    refine ⟨?_, hby2, ?_, h02⟩
    · have hc : (svC ls)[i]? = some (.slice x.ao x.n x.c) := by unfold svC; rw [List.getElem?_map, hx]; rfl
      rw [← h7, List.getElem?_take] at hc
      split at hc
      · rw [Array.getElem?_toList] at hc
        simp only [World.cell?, h3, toLV, Nat.zero_add]
        simpa using hc
      · cases hc
    · have h8 := hown.1
      rw [cellsOf_length] at h8
      have := hn x hxm
      show x.n ≤ _
      omega
end Go.Proofs.YtcgjhopfdpaocaaDoor

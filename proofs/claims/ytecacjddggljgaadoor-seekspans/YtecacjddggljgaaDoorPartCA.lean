/-
  What table.Fit and table.Leaves answer: contracts over this translation. What table.Describe answers: a contract over this translation.
-/
import Derived.Test.YtecacjddggljgaaDoorPartBC
import Derived.Test.YtecacjddggljgaaDoorPartBJ
namespace Go.Proofs.YtecacjddggljgaaDoor
open Go.RowKit Go.Sort Go.Shelf
set_option linter.unusedSectionVars false
variable [Inhabited E] [DecidableEq E]
set_option maxRecDepth 100000 in
set_option maxHeartbeats 2000000 in
theorem fitT_any (ao : Option Addr) (n c : Nat) (es : List E) (w : World) (hE : EntsV w ao n es) (hsm : Small es) (hbig : n ≤ 1000000000000) :
    Calls Tryd.prog 36 #[.slice ao n c] w fun e w' => e = .returned (.bool (fitB es)) ∧ Below w.heap.size w w' := by
  obtain ⟨r, HR⟩ : ∃ r, Hid (fitB es = r) := ⟨_, rfl⟩
  rw [HR.out]
  have HE : Hid _ := hE
  have HS : Hid _ := hsm
  have hln := hE.1
  clear hE hsm
  by_cases h0 : n = 0
  · have hf : r = false := by rw [← HR.out]; unfold fitB; rw [decide_eq_false (by omega)]; rfl
    subst hf
    subst h0
    go_enter Tryd.func36, Tryd.ntmps36
    go_wp2
    go_ret
    exact ⟨rfl, Below.refl _ _⟩
  · have h0z : ((n : Int) == 0) = false := by simp; omega
    by_cases h64 : n ≤ 64
    · have h64z : ¬ (64 : Int) < (n : Int) := by omega
      have HLN : Hid (es.length = n) := hln
      clear hln
      go_enter Tryd.func36, Tryd.ntmps36
      go_wp2
      go_loopw [4, 15] (fun _ x wr => ∃ i : Nat, x = .int .i64 i ∧ i ≤ n ∧ Hid (∀ e ∈ es.take i, rightB e = true) ∧ Below w.heap.size w wr) (fun _ x _ => n - (intOf x).toNat)
      case atStart => exact ⟨0, rfl, by omega, (fun e he => by simp at he), Below.refl _ _⟩
      case round =>
        obtain ⟨i, rfl, hin, HA, hbel⟩ := hrel
        by_cases hlt : i < n
        · have hltz : (i : Int) < (n : Int) := by omega
          obtain ⟨b, off, hao, hEn⟩ := HE.out.2 (by omega)
          have hEr : Ents wr b off es := hEn.below hbel (Nat.le_refl _)
          obtain ⟨k0, v0, d0, q0, HX⟩ : ∃ k0 v0 d0 q0, Hid (es[i]! = E.mk k0 v0 d0 q0) := ⟨_, _, _, _, rfl⟩
          obtain ⟨c0, c1, c2, c3⟩ := ents_four hEr i (by rw [HLN.out]; omega) HX.out
          obtain ⟨s0, s1⟩ := small_at HS.out i (by rw [HLN.out]; omega) HX.out
          subst hao
          obtain ⟨y, HY⟩ : ∃ y, Hid (rightB ⟨k0, v0, d0, q0⟩ = y) := ⟨_, rfl⟩
          have CR := fun w => right_any k0 v0 d0 q0 w s0 s1
          rw [HY.out] at CR
          have HCR : Hid _ := CR
          have HB : Hid _ := hbel
          clear CR hEr hEn hbel s0 s1
          go_wp2_with fail
          refine (HCR.out _).mono ?_
          rintro e w2 ⟨rfl, hb2⟩
          have HB2 : Hid (Below w.heap.size w w2) := (HB.out.alloc HB.out.size _).trans (hb2.mono (by have := HB.out.size; simp; omega))
          clear hb2 c0 c1 c2 c3
          cases y with
          | false =>
            have hf : r = false := by
              rw [← HR.out]
              unfold fitB
              have : es.all rightB = false := by
                rw [List.all_eq_false]
                exact ⟨es[i]!, by rw [getElem!_pos es i (by rw [HLN.out]; omega)]; exact List.getElem_mem _, by rw [HX.out, HY.out]; simp⟩
              rw [this]; simp
            subst hf
            go_wp2
            go_ret
            exact ⟨rfl, HB2.out⟩
          | true =>
            go_wp2
            go_roundw
            case rel =>
              refine ⟨i + 1, by go_num, by omega, ?_, HB2.out⟩
              show ∀ e ∈ _, _
              intro e he
              rw [take_snoc es i (by rw [HLN.out]; omega), HX.out] at he
              rcases List.mem_append.1 he with he | he
              · exact HA.out e he
              · simp at he; subst he; exact HY.out
            case measure => simp [intOf]; omega
        · have hltz : ¬ (i : Int) < (n : Int) := by omega
          have HALL : Hid (es.all rightB = true) := by
            show _ = _
            rw [List.all_eq_true]
            intro e he
            exact HA.out e (by rw [List.take_of_length_le (by rw [HLN.out]; omega)]; exact he)
          have CS := fun w' hw => sorted_any ao n c es w' (EntsV.below HE.out hw (Nat.le_refl _)) hbig
          have HCS : Hid _ := CS wr hbel
          have HB : Hid _ := hbel
          clear CS hbel
          have HF : Hid (r = sortedB es) := by show _ = _; rw [← HR.out]; unfold fitB; rw [HALL.out, decide_eq_true (by rw [HLN.out]; omega)]; simp
          go_wp2_with fail
          refine Calls.mono HCS.out ?_
          rintro e w2 ⟨rfl, hb2⟩
          have HB2 : Hid _ := HB.out.trans (hb2.mono HB.out.size)
          clear hb2
          go_wp2
          go_ret
          exact ⟨by rw [HF.out]; rfl, HB2.out⟩
    · have hf : r = false := by rw [← HR.out]; unfold fitB; rw [decide_eq_false (by omega)]; rfl
      subst hf
      have h64z : (64 : Int) < (n : Int) := by omega
      go_enter Tryd.func36, Tryd.ntmps36
      go_wp2
      go_ret
      exact ⟨rfl, Below.refl _ _⟩
/-- What a round keeps: all below n0, and all blocks of bytes. -/
structure KB (n0 : Nat) (W W' : World) : Prop where
  bel : Below n0 W W'
  bytes : ∀ (k : Nat) (cur : Array Value) (fr : Nat × Nat), W.heap[k]? = some (Obj.cells cur 5 fr) → W'.heap[k]? = some (Obj.cells cur 5 fr)
theorem KB.trans {n0 : Nat} {A B C : World} (h : KB n0 A B) (k : KB n0 B C) : KB n0 A C := ⟨h.bel.trans k.bel, fun i c f hi => k.bytes i c f (h.bytes i c f hi)⟩
theorem KB.of_below {n0 B : Nat} {W W' : World} (h : Below B W W') (hB : W.heap.size ≤ B) (hn : n0 ≤ B) : KB n0 W W' :=
  ⟨h.mono hn, fun k _ _ hk => (h.block k (Nat.lt_of_lt_of_le (Array.getElem?_eq_some_iff.1 hk).1 hB)).trans hk⟩
theorem owns_kb {n0 b : Nat} {W W' : World} {v : Value} {n : Nat} {xs : List Value} (h : W.ownsRow b 5 1 v n xs) (hk : KB n0 W W') : W'.ownsRow b 5 1 v n xs := by
  refine ⟨h.1, ?_⟩
  rcases h.2 with h2 | ⟨g, cap, cur, hv, hb, hg, r⟩
  · exact .inl h2
  · exact .inr ⟨g, cap, cur, hv, hb, hk.bytes _ _ _ hg, r⟩
theorem kb_grow {n0 : Nat} {W w1 : World} {t : TypeId} (ht : t ≠ 5) {v : Value} {k : Nat} {xs : List Value} {tmp : Obj} (hrow : W.ownsRow n0 t 1 v k xs) (hn : n0 ≤ W.heap.size) (hg : (W.alloc tmp).grownBy w1 v.ownBlock) : KB n0 W w1 := by
  have hob : ∀ j, v.ownBlock = some j → n0 ≤ j ∧ ∃ cur, W.heap[j]? = some (Obj.cells cur t (0, 0)) := fun j ej => by
    rcases hrow.2 with ⟨rfl, _⟩ | ⟨g, cap, cur, rfl, hb, hgb, _⟩
    · simp [Value.ownBlock] at ej
    · obtain rfl : g = j := by simpa [Value.ownBlock] using ej
      exact ⟨hb, cur, hgb⟩
  refine ⟨((Below.refl n0 W).alloc hn tmp).grown hg (by simp; omega) fun j ej => (hob j ej).1, fun i cur fr hi => ?_⟩
  have hlt := (Array.getElem?_eq_some_iff.1 hi).1
  have h2 : (W.alloc tmp).heap[i]? = some (Obj.cells cur 5 fr) := (Below.heap_alloc W tmp i hlt).trans hi
  refine (hg.block i (by simp; omega) fun e => ?_).trans h2
  obtain ⟨-, cur2, h3⟩ := hob i e.symm
  rw [hi] at h3; cases h3; exact ht rfl
/-- Slices as cells. -/
def svC (xs : List SV) : List Value := xs.map fun x => .slice x.ao x.n x.c
theorem svC_snoc (xs : List SV) (x : SV) : svC (xs ++ [x]) = svC xs ++ [.slice x.ao x.n x.c] := by simp [svC]
theorem info25 : (Tryd.prog.info? 27).map (fun i => (i.zero, i.size, i.bytes)) = some (some (.slice none 0 0), 1, 24) := by kernel_rfl
/-- A row of slices of the call's own, each of bytes of its own. -/
def LeavesO (base : Nat) (W : World) (v : Value) (ls : List SV) : Prop := W.ownsRow base 27 1 v ls.length (svC ls) ∧ ∀ p ∈ ls, W.ownsRow base 5 1 (.slice p.ao p.n p.c) p.n (cellsOf p.bs)
theorem fit_all {l : List E} (h : fitB l = true) : l.all rightB = true := by
  unfold fitB at h; simp only [Bool.and_eq_true] at h; exact h.1.2
theorem fit_len {l : List E} (h : fitB l = true) : 1 ≤ l.length ∧ l.length ≤ 64 := by
  unfold fitB at h; simp only [Bool.and_eq_true, decide_eq_true_eq] at h; exact h.1.1
theorem textB_len2 (s : ByteArray) : (textB (strB s)).length ≤ 10 + s.size ∧ 1 ≤ (textB (strB s)).length := by
  have h1 := putB_le (strB s).length
  have h2 := putB_pos (strB s).length
  rw [textB, List.length_append, strB_length] at *
  omega
theorem bytesB_len3 (e : E) : (bytesB e).length ≤ 2000 := by
  unfold bytesB
  by_cases h : rightB e = true
  · obtain ⟨h1, h2, qn, h3, h4, h5⟩ := right_parts h
    have a1 := putB_le e.seq.toNat
    have a2 := textB_len2 e.key
    have a3 := textB_len2 e.value
    rw [if_pos h]
    split <;> simp only [headB, List.length_append, List.length_cons] <;> omega
  · rw [if_neg h]; simp
set_option maxRecDepth 100000 in
set_option maxHeartbeats 4000000 in
theorem leavesT_any (ao : Option Addr) (n c : Nat) (es : List E) (w : World) (hE : EntsV w ao n es) (hsm : Small es) (hbig : n ≤ 1000) :
    Calls Tryd.prog 32 #[.slice ao n c] w fun e w' => ∃ v, e = .returned v ∧ ∃ ls, LeavesO w.heap.size w' v ls ∧ ls.map SV.bs = es.map bytesB ∧ Below w.heap.size w w' := by
  obtain ⟨i0, hi, hz0, hz1, hz2⟩ := info_parts info25
  have HE : Hid (EntsV w ao n es) := hE
  have HS : Hid (Small es) := hsm
  clear hE hsm
  go_enter Tryd.func32, Tryd.ntmps32
  go_wp2
  go_loopw [3, 5, 8] (fun o _ x wr => ∃ (i : Nat) (ls : List SV), x = .int .i64 i ∧ i ≤ n ∧ ls.length = i ∧ Hid (LeavesO w.heap.size wr o ls) ∧ Hid (ls.map SV.bs = (es.take i).map bytesB) ∧ Hid (Below w.heap.size w wr)) (fun _ _ x _ => n - (intOf x).toNat)
  case atStart => exact ⟨0, [], rfl, by omega, rfl, ⟨World.ownsRow_nil _ _ _ _, fun p hp => by cases hp⟩, rfl, Below.refl _ _⟩
  case round =>
    obtain ⟨i, ls, rfl, hin, hli, HO, HM, HB⟩ := hrel
    by_cases hlt : i < n
    · have hltz : (i : Int) < (n : Int) := by omega
      obtain ⟨b, off, hao, hEn⟩ := HE.out.2 (by omega)
      have hln := HE.out.1
      have hEr : Ents wr b off es := hEn.below HB.out (Nat.le_refl _)
      obtain ⟨k0, v0, d0, q0, HX⟩ : ∃ k0 v0 d0 q0, Hid (es[i]! = E.mk k0 v0 d0 q0) := ⟨_, _, _, _, rfl⟩
      obtain ⟨c0, c1, c2, c3⟩ := ents_four hEr i (by omega) HX.out
      obtain ⟨s0, s1⟩ := small_at HS.out i (by omega) HX.out
      have HTS : Hid (es.take (i + 1) = es.take i ++ [⟨k0, v0, d0, q0⟩]) := by show _ = _; rw [take_snoc es i (by omega), HX.out]
      subst hao
      have HCB : Hid _ := fun w => bytes_any k0 v0 d0 q0 w s0 s1
      clear hEr hEn s0 s1 hln
      go_wp2_with fail
      refine (HCB.out _).mono ?_
      rintro e w2 ⟨v2, rfl, hown2, hb2⟩
      obtain ⟨bb, HBB⟩ : ∃ x, Hid (bytesB ⟨k0, v0, d0, q0⟩ = x) := ⟨_, rfl⟩
      rw [HBB.out] at hown2
      obtain ⟨ao2, cc2, rfl, -, -, -, -, -, -⟩ := own_bytes hown2
      obtain ⟨m2, HM2⟩ : ∃ x, Hid (bb.length = x) := ⟨_, rfl⟩
      rw [HM2.out] at hown2 ⊢
      have hB2 : Below wr.heap.size wr w2 := (bel_alloc wr _).trans (hb2.mono (by simp))
      have HO2 : Hid (w2.ownsRow wr.heap.size 5 1 (.slice ao2 m2 cc2) m2 (cellsOf bb)) := ownsRow_mono hown2 (by simp)
      have HB2 : Hid (Below wr.heap.size wr w2) := hB2
      have HR2 : Hid ((w2.alloc (.cells #[.slice ao2 m2 cc2] 27)).ownsRow w.heap.size 27 1 u3 ls.length (svC ls)) := (own_below HO.out.1 hB2 (Nat.le_refl _)).alloc _
      have HSZ : Hid (w.heap.size ≤ w2.heap.size) := Nat.le_trans HB.out.size hB2.size
      clear hown2 hb2 hB2 c0 c1 c2 c3 HCB
      go_wp2_with (at_builtin; refine wpList_append_own _ rfl (.tmp 12) (.tmp 15) 37 rfl w.heap.size 27 i0 _ 1 24 Tryd.underlying37 hi hz0 hz1 hz2 rfl (by decide) _ ls.length (svC ls) rfl HR2.out ⟨w2.heap.size, 0, none⟩ 1 1 [.slice ao2 m2 cc2] rfl rfl (cell_one_new _ _ _) (by simp [Value.oneCell']) (by unfold maxLen; omega) (by omega) (by simp; have := HSZ.out; omega) ?_)
      intro v6 w6 hown6 hgr6 _
      have hkb : KB w.heap.size w2 w6 := kb_grow (by decide) (own_below HO.out.1 HB2.out (Nat.le_refl _)) HSZ.out hgr6
      have HN : Hid (LeavesO w.heap.size w6 v6 (ls ++ [⟨ao2, m2, cc2, bb⟩])) := by
        refine ⟨?_, fun p hp => ?_⟩
        · rw [List.length_append, svC_snoc, hli]; exact hown6
        · rcases List.mem_append.1 hp with h | h
          · exact owns_kb (own_below (HO.out.2 p h) HB2.out (Nat.le_refl _)) hkb
          · simp only [List.mem_singleton] at h; subst h
            exact owns_kb (ownsRow_mono HO2.out HB.out.size) hkb
      have HB6 : Hid (Below w.heap.size w w6) := (HB.out.trans (HB2.out.mono HB.out.size)).trans hkb.bel
      clear hown6 hgr6 hkb
      go_wp2
      go_roundw
      case rel =>
        refine ⟨i + 1, ls ++ [⟨ao2, m2, cc2, bb⟩], by go_num, by omega, by simp [hli], HN, ?_, HB6⟩
        show _ = _
        rw [HTS.out, List.map_append, List.map_append, HM.out, List.map_cons, List.map_cons, List.map_nil, List.map_nil, HBB.out]
      case measure => simp [intOf]; omega
    · have hltz : ¬ (i : Int) < (n : Int) := by omega
      have HT : Hid (es.take i = es) := List.take_of_length_le (by have := HE.out.1; omega)
      go_wp2
      go_ret
      exact ⟨_, rfl, ls, HO.out, by rw [HM.out, HT.out], HB.out⟩
/-- Leaves, as the tree's texts have them. -/
def toLV (p : SV) : Sm.LV := ⟨p.ao, p.n, p.c, p.bs⟩
theorem leavesO_V {base : Nat} {W : World} {v : Value} {ls : List SV} (h : LeavesO base W v ls) (hn : ∀ p ∈ ls, p.bs.length ≤ 2000) : ∃ ao c, v = .slice ao ls.length c ∧ Sm.LeavesV W ao ls.length c (ls.map toLV) ∧ Sm.bytesL (ls.map toLV) = ls.map SV.bs := by
  have hb : Sm.bytesL (ls.map toLV) = ls.map SV.bs := by unfold Sm.bytesL; rw [List.map_map]; rfl
  rcases h.1.2 with ⟨h1, h2⟩ | ⟨g, cap, cur, h1, h2, h3, h4, h5, h6, h7⟩
  · exact ⟨none, 0, by rw [h1, h2], ⟨by simp, by omega, by omega, fun h => by omega⟩, hb⟩
  · refine ⟨some ⟨g, 0, none⟩, cap, h1, ⟨by simp, by omega, by unfold maxLen at *; omega, fun _ => ⟨g, 0, rfl, fun i p hp => ?_⟩⟩, hb⟩
    rw [List.getElem?_map] at hp
    obtain ⟨x, hx, rfl⟩ := Option.map_eq_some_iff.1 hp
    have hxm : x ∈ ls := List.mem_of_getElem? hx
    have hown := h.2 x hxm
    obtain ⟨ao2, c2, hv2, hby2, h02, -, -, -, -⟩ := own_bytes hown
    cases hv2
    refine ⟨?_, hby2, ?_, h02⟩
    · have hc : (svC ls)[i]? = some (.slice x.ao x.n x.c) := by unfold svC; rw [List.getElem?_map, hx]; rfl
      rw [← h7, List.getElem?_take] at hc
      split at hc
      · rw [Array.getElem?_toList] at hc
        simp only [World.cell?, h3, toLV, Nat.zero_add]
        simpa using hc
      · cases hc
    · have h8 := hown.1
      rw [cellsOf_length] at h8
      have := hn x hxm
      show x.n ≤ _
      omega
end Go.Proofs.YtecacjddggljgaaDoor
namespace Go.Proofs.YtecacjddggljgaaDoor
open Go.RowKit Go.Sort Go.Shelf
set_option linter.unusedSectionVars false
variable [Inhabited E] [DecidableEq E]
/-- The cells of what is known of a table. -/
def tabC (lv n : Int) (d : List UInt8) (k1 k2 : ByteArray) : Array Value := (Value.int .i64 lv :: Value.int .i64 n :: (cellsOf d ++ [Value.string k1, Value.string k2])).toArray
theorem tabC_size (lv n : Int) {d : List UInt8} (h : d.length = 32) (k1 k2 : ByteArray) : (tabC lv n d k1 k2).size = 36 := by
  unfold tabC; rw [List.size_toArray, List.length_cons, List.length_cons, List.length_append, cellsOf_length, h]; rfl
theorem tabC_all (lv n : Int) (d : List UInt8) (k1 k2 : ByteArray) : (tabC lv n d k1 k2).all (·.oneCell') = true := by
  unfold tabC
  refine all_oneCell_toArray ?_
  intro v hv
  rcases List.mem_cons.1 hv with rfl | hv
  · rfl
  rcases List.mem_cons.1 hv with rfl | hv
  · rfl
  rcases List.mem_append.1 hv with hv | hv
  · exact cellsOf_one _ v hv
  · simp only [List.mem_cons, List.not_mem_nil, or_false] at hv
    rcases hv with rfl | rfl <;> rfl
theorem size34 : (Tryd.prog.info? 48).map (·.size) = some 36 := by kernel_rfl
theorem built34v (lv n : Int) (k1 k2 : ByteArray) (x0 x1 x2 x3 x4 x5 x6 x7 x8 x9 x10 x11 x12 x13 x14 x15 x16 x17 x18 x19 x20 x21 x22 x23 x24 x25 x26 x27 x28 x29 x30 x31 : UInt8) : Tryd.prog.built 48 [(0, .int .i64 lv), (1, .int .i64 n), (2, .agg (cellsOf [x0, x1, x2, x3, x4, x5, x6, x7, x8, x9, x10, x11, x12, x13, x14, x15, x16, x17, x18, x19, x20, x21, x22, x23, x24, x25, x26, x27, x28, x29, x30, x31]).toArray), (3, .string k1), (4, .string k2)] = some (tabC lv n [x0, x1, x2, x3, x4, x5, x6, x7, x8, x9, x10, x11, x12, x13, x14, x15, x16, x17, x18, x19, x20, x21, x22, x23, x24, x25, x26, x27, x28, x29, x30, x31] k1 k2) := by kernel_rfl
theorem built34 (lv n : Int) (k1 k2 : ByteArray) : (d : List UInt8) → d.length = 32 → Tryd.prog.built 48 [(0, .int .i64 lv), (1, .int .i64 n), (2, .agg (cellsOf d).toArray), (3, .string k1), (4, .string k2)] = some (tabC lv n d k1 k2)
  | [x0, x1, x2, x3, x4, x5, x6, x7, x8, x9, x10, x11, x12, x13, x14, x15, x16, x17, x18, x19, x20, x21, x22, x23, x24, x25, x26, x27, x28, x29, x30, x31], _ => built34v lv n k1 k2 x0 x1 x2 x3 x4 x5 x6 x7 x8 x9 x10 x11 x12 x13 x14 x15 x16 x17 x18 x19 x20 x21 x22 x23 x24 x25 x26 x27 x28 x29 x30 x31
theorem yieldsIf_build {ops : Array Oper} {S : World → Prop} {op : Oper} {a : Act} (hw : Region.wanted op (yielded ops a.tmps) = true) (t : TypeId) (parts : Array (Nat × Operand)) (ho : op.op = .build t parts) (cells : Array Value) (vs : List (Nat × Value)) (hb : Tryd.prog.built t vs = some cells) (hv : (parts.toList.map fun (y : Nat × Operand) => (y.1, a.eval y.2)) = vs) : YieldsIf Tryd.prog ops S op (.agg cells) a :=
  .inl ⟨hw, fun w _ => by
    subst hv
    rw [← Array.toList_map] at hb
    unfold execOp
    simp only [ho, Sem.run_bind, run_build w t _ cells hb, Result.andThen_ok, Sem.run_pure]⟩
theorem results_tab {fn : Func} {p u : Tmp} (h : fn.results = #[.cell p 48, .tmp u]) (tmps : Array Value) (w : World) (g : Nat) (t : TypeId) (cs : Array Value) (fr : Nat × Nat)
    (hp : tmps.getD p undef = .pointer (some ⟨g, 0, none⟩)) (hg : w.heap[g]? = some (.cells cs t fr)) (hi : (Tryd.prog.info? 48).map (·.size) = some cs.size) :
    (results fn tmps).run Tryd.prog w = .ok (.tuple #[.agg cs, tmps.getD u undef]) w := by
  have hp' : tmps[p]?.getD undef = .pointer (some ⟨g, 0, none⟩) := by simpa using hp
  simp [results, h, hp', asAddr, run_loadVar_row w g t 48 cs fr _ hg Tryd.underlying48 rfl hi]
def zeroT : Array Value := tabC 0 0 (List.replicate 32 0) ByteArray.empty ByteArray.empty
/-- What Describe tells. -/
def descV (z lv : Int) (es : List E) : Value :=
  if fitB es = true ∧ 0 ≤ lv ∧ lv < 4 then .tuple #[.agg (tabC lv es.length (Sm.rootD z (es.map bytesB)) es[0]!.key es[es.length - 1]!.key), .int .i64 0] else .tuple #[.agg zeroT, .int .i64 1]
set_option maxRecDepth 100000 in
set_option maxHeartbeats 4000000 in
theorem describe_wrong (z lv : Int) (ao : Option Addr) (n c : Nat) (es : List E) (w : World) (hE : EntsV w ao n es) (hsm : Small es) (hn : n ≤ 1000) (hno : ¬ (fitB es = true ∧ 0 ≤ lv ∧ lv < 4)) :
    Calls Tryd.prog 30 #[.agg #[.int .i64 z], .int .i64 lv, .slice ao n c] w fun e w' => e = .returned (.tuple #[.agg zeroT, .int .i64 1]) ∧ Below w.heap.size w w' := by
  have HF : Hid (∀ W, Below w.heap.size w W → Calls Tryd.prog 36 #[.slice ao n c] W fun e w' => e = .returned (.bool (fitB es)) ∧ Below W.heap.size W w') := fun W hW => fitT_any ao n c es W (hE.below hW (Nat.le_refl _)) hsm (by omega)
  obtain ⟨f, HFF⟩ : ∃ f, Hid (fitB es = f) := ⟨_, rfl⟩
  rw [HFF.out] at HF hno
  have hz : (zeroT).size = 36 := tabC_size 0 0 (by simp) _ _
  have HZ : Hid _ := hz
  clear hE hsm
  go_enter Tryd.func30, Tryd.ntmps30
  go_wp2_with fail
  refine (HF.out _ (((Below.refl _ w).alloc (Nat.le_refl _) _).alloc (by simp) _)).mono ?_
  rintro e w1 ⟨rfl, hb1⟩
  have hR : w1.heap[w.heap.size + 1]? = some (.cells zeroT 48 (0, 0)) := by
    rw [hb1.block _ (by simp)]
    have := World.alloc_heap_new (w.alloc (Obj.cells #[Value.int IntKind.i64 z] 26)) (.cells zeroT 48)
    rw [World.size_alloc] at this; exact this
  have HR : Hid _ := hR
  have HB : Hid (Below w.heap.size w w1) := (((Below.refl _ w).alloc (Nat.le_refl _) _).alloc (by simp) _).trans (hb1.mono (by simp; omega))
  clear hb1 hR hz
  cases f with
  | false =>
    go_upto_region 2 with fail
    go_wp2_with (refine wpList_store_row rfl 48 (.tmp 6) (.tmp 19) rfl (w.heap.size + 1) zeroT rfl rfl 48 zeroT HR.out (by rw [size34, HZ.out]) rfl (tabC_all _ _ _ _ _) ?_)
    refine bodyPost_ret (results_tab rfl _ _ (w.heap.size + 1) 48 zeroT (0, 0) rfl (setRow_heap _ _ _ _ _ _ HR.out) (by rw [size34, HZ.out])) rfl ?_
    exact ⟨rfl, below_setRow HB.out (by omega) _⟩
  | true =>
    by_cases h0 : lv < 0
    · go_upto_region 2 with fail
      go_wp2_with (refine wpList_store_row rfl 48 (.tmp 6) (.tmp 19) rfl (w.heap.size + 1) zeroT rfl rfl 48 zeroT HR.out (by rw [size34, HZ.out]) rfl (tabC_all _ _ _ _ _) ?_)
      refine bodyPost_ret (results_tab rfl _ _ (w.heap.size + 1) 48 zeroT (0, 0) rfl (setRow_heap _ _ _ _ _ _ HR.out) (by rw [size34, HZ.out])) rfl ?_
      exact ⟨rfl, below_setRow HB.out (by omega) _⟩
    · have h4 : ¬ lv < 4 := fun h => hno ⟨rfl, by omega, h⟩
      have h4b : 4 ≤ lv := by omega
      clear hno
      go_upto_region 2 with fail
      go_wp2_with (refine wpList_store_row rfl 48 (.tmp 6) (.tmp 19) rfl (w.heap.size + 1) zeroT rfl rfl 48 zeroT HR.out (by rw [size34, HZ.out]) rfl (tabC_all _ _ _ _ _) ?_)
      refine bodyPost_ret (results_tab rfl _ _ (w.heap.size + 1) 48 zeroT (0, 0) rfl (setRow_heap _ _ _ _ _ _ HR.out) (by rw [size34, HZ.out])) rfl ?_
      exact ⟨rfl, below_setRow HB.out (by omega) _⟩
set_option maxRecDepth 100000 in
set_option maxHeartbeats 4000000 in
theorem describe_some (z lv : Int) (b off n c : Nat) (es : List E) (w : World) (hE : EntsV w (some ⟨b, off, none⟩) n es) (hf : fitB es = true) (hlv : 0 ≤ lv ∧ lv < 4) (hK : Sm.WW w 1 Sm.ks) (hz0 : 1 < w.heap.size) (hz : -9223372036854775808 ≤ z ∧ z ≤ 9223372036854775807) (hlow : b < w.heap.size) :
    Calls Tryd.prog 30 #[.agg #[.int .i64 z], .int .i64 lv, .slice (some ⟨b, off, none⟩) n c] w fun e w' => e = .returned (.tuple #[.agg (tabC lv es.length (Sm.rootD z (es.map bytesB)) es[0]!.key es[es.length - 1]!.key), .int .i64 0]) ∧ Below w.heap.size w w' := by
  have hsm := right_small (fit_all hf)
  have hlen := fit_len hf
  have hln := hE.1
  have HLOW : Hid (b < w.heap.size) := hlow
  clear hlow
  have HF : Hid (∀ W, Below w.heap.size w W → Calls Tryd.prog 36 #[.slice (some ⟨b, off, none⟩) n c] W fun e w' => e = .returned (.bool true) ∧ Below W.heap.size W w') := fun W hW => by
    have := fitT_any (some ⟨b, off, none⟩) n c es W (hE.below hW (Nat.le_refl _)) hsm (by omega)
    rw [hf] at this; exact this
  have HLV : Hid (∀ W, Below w.heap.size w W → Calls Tryd.prog 32 #[.slice (some ⟨b, off, none⟩) n c] W fun e w' => ∃ v, e = .returned v ∧ ∃ ls, LeavesO W.heap.size w' v ls ∧ ls.map SV.bs = es.map bytesB ∧ Below W.heap.size W w') := fun W hW => leavesT_any (some ⟨b, off, none⟩) n c es W (hE.below hW (Nat.le_refl _)) hsm (by omega)
  obtain ⟨d, HD⟩ : ∃ d, Hid (Sm.rootD z (es.map bytesB) = d) := ⟨_, rfl⟩
  have HDL : Hid (d.length = 32) := by show _ = _; rw [← HD.out]; exact Sm.rootD_length _ _
  have HRT : Hid (∀ W ao cc ls, Below w.heap.size w W → Sm.LeavesV W ao n cc ls → Sm.bytesL ls = es.map bytesB → Calls Tryd.prog 63 #[.agg #[.int .i64 z], .slice ao n cc] W fun e w' => e = .returned (.agg (cellsOf d).toArray) ∧ Below W.heap.size W w') := fun W ao cc ls hW hL hb => by
    have := Sm.root_any z hz n ao cc ls W hL (by omega) (hK.below hW hz0) (Nat.lt_of_lt_of_le hz0 hW.size)
    rw [hb, HD.out] at this; exact this
  obtain ⟨k1, HK1⟩ : ∃ k, Hid (es[0]!.key = k) := ⟨_, rfl⟩
  obtain ⟨k2, HK2⟩ : ∃ k, Hid (es[es.length - 1]!.key = k) := ⟨_, rfl⟩
  obtain ⟨b', off', hao, hEn⟩ := hE.2 (by omega)
  cases hao
  have HCELL : Hid (∀ W, Below w.heap.size w W → W.cell? ⟨b, off, none⟩ = some (.string k1) ∧ W.cell? ⟨b, off + (n - 1) * 4, none⟩ = some (.string k2)) := fun W hW => by
    have hE2 : Ents W b off es := hEn.below hW (Nat.le_refl _)
    constructor
    · have := (ents_four hE2 0 (by omega) (k := es[0]!.key) (v := es[0]!.value) (d := es[0]!.del) (q := es[0]!.seq) rfl).1
      rw [HK1.out] at this; simpa using this
    · have := (ents_four hE2 (n - 1) (by omega) (k := es[n - 1]!.key) (v := es[n - 1]!.value) (d := es[n - 1]!.del) (q := es[n - 1]!.seq) rfl).1
      rw [← hln, HK2.out, hln] at this; exact this
  rw [HD.out, HK1.out, HK2.out, hln]
  obtain ⟨m, hm⟩ : ∃ m, n = m + 1 := ⟨n - 1, by omega⟩
  subst hm
  have hm64 : (m : Int) ≤ 64 := by omega
  have hwm : IntKind.i64.wrap (m : Int) = (m : Int) := by rw [IntKind.wrap_i64]; omega
  have hm0 : (0 : Int) ≤ (m : Int) := by omega
  have hm1 : (m : Int) < (m : Int) + 1 := by omega
  have HM64 : Hid (m ≤ 64) := by show _ ≤ _; omega
  have HLN : Hid (es.length = m + 1) := hln
  obtain ⟨kk, HKK⟩ : ∃ k, Hid (tabC lv ((m + 1 : Nat) : Int) d k1 k2 = k) := ⟨_, rfl⟩
  have HBD : Hid (Tryd.prog.built 48 [(0, .int .i64 lv), (1, .int .i64 ((m : Int) + 1)), (2, .agg (cellsOf d).toArray), (3, .string k1), (4, .string k2)] = some kk) := by
    show _ = _
    rw [← HKK.out]; exact built34 lv _ k1 k2 d HDL.out
  have HKS : Hid (kk.size = 36) := by show _ = _; rw [← HKK.out]; exact tabC_size _ _ HDL.out _ _
  have HKA : Hid (kk.all (·.oneCell') = true) := by show _ = _; rw [← HKK.out]; exact tabC_all _ _ _ _ _
  have HZ : Hid ((zeroT).size = 36) := tabC_size 0 0 (by simp) _ _
  have hl0 : ¬ lv < 0 := by omega
  have hl4 : ¬ 4 ≤ lv := by omega
  rw [HKK.out]
  have HB0 : Hid (Below w.heap.size w ((w.alloc (Obj.cells #[Value.int IntKind.i64 z] 26)).alloc (Obj.cells zeroT 48))) := ((Below.refl _ w).alloc (Nat.le_refl _) _).alloc (by simp) _
  clear hE hsm hf hlen hln hK hz hz0 hEn HD HK1 HK2 hlv
  go_enter Tryd.func30, Tryd.ntmps30
  go_wp2_with fail
  refine (HF.out _ HB0.out).mono ?_
  rintro e w1 ⟨rfl, hb1⟩
  have HR : Hid (w1.heap[w.heap.size + 1]? = some (.cells zeroT 48 (0, 0))) := by
    show _ = _
    rw [hb1.block _ (by simp)]
    have := World.alloc_heap_new (w.alloc (Obj.cells #[Value.int IntKind.i64 z] 26)) (.cells zeroT 48)
    rw [World.size_alloc] at this; exact this
  have hR0 : w1.heap[w.heap.size]? = some (.cells #[Value.int IntKind.i64 z] 26 (0, 0)) := by
    rw [hb1.block _ (by simp; omega), Below.heap_alloc _ _ _ (by simp)]; exact World.alloc_heap_new w _
  have HBW : Hid (Below w.heap.size w w1) := HB0.out.trans (hb1.mono (by simp; omega))
  have HS : Hid (∀ W, Below w1.heap.size w1 W → W.cell? ⟨w.heap.size, 0, none⟩ = some (.int .i64 z) ∧ W.cell? ⟨b, off, none⟩ = some (.string k1) ∧ W.cell? ⟨b, off + m * 4, none⟩ = some (.string k2)) := fun W hW => by
    have h1 : W.heap[w.heap.size]? = some (.cells #[Value.int IntKind.i64 z] 26 (0, 0)) := (hW.block _ (Array.getElem?_eq_some_iff.1 hR0).1).trans hR0
    refine ⟨by simp [World.cell?, h1], HCELL.out W (HBW.out.trans (hW.mono HBW.out.size))⟩
  clear hb1 hR0 HF HCELL HB0
  go_upto_region 3 with fail
  refine wp_region_held_drew (S := fun W => W.cell? ⟨w.heap.size, 0, none⟩ = some (.int .i64 z) ∧ W.cell? ⟨b, off, none⟩ = some (.string k1) ∧ W.cell? ⟨b, off + m * 4, none⟩ = some (.string k2)) (by kernel_rfl) (HS.out _ (Below.drew (Below.refl _ _))) (fun hS => ?_)
  refine wpAnyH_take (i := 0) (v := ?_) rfl (by kernel_rfl) (by kernel_rfl) (by kernel_rfl) (fun _ _ _ h => h) (Or.inl ⟨by rfl, ?_⟩) (by assumption) ?_
  rotate_left
  · (intro w hSw; (try dsimp only at hSw); go_simp; try with_reducible rfl)
  simp only [Act.put, List.getElem_toArray, List.getElem_cons_zero, List.setIfInBounds_toArray, List.set_cons_zero, List.set_cons_succ]
  refine wpAnyH_take (i := 1) (v := ?_) rfl (by kernel_rfl) (by kernel_rfl) (by kernel_rfl) (fun _ _ _ h => h) (Or.inl ⟨by rfl, ?_⟩) (by assumption) ?_
  rotate_left
  · (intro w hSw; (try dsimp only at hSw); go_simp; try with_reducible rfl)
  simp only [Act.put, List.getElem_toArray, List.getElem_cons_zero, List.getElem_cons_succ, List.setIfInBounds_toArray, List.set_cons_zero, List.set_cons_succ]
  refine wpAnyH_take (i := 2) (v := ?_) rfl (by kernel_rfl) (by kernel_rfl) (by kernel_rfl) (fun _ _ _ h => h) (Or.inl ⟨by rfl, ?_⟩) (by assumption) ?_
  rotate_left
  · (intro w hSw; (try dsimp only at hSw); go_simp; try with_reducible rfl)
  simp only [Act.put, List.getElem_toArray, List.getElem_cons_zero, List.getElem_cons_succ, List.setIfInBounds_toArray, List.set_cons_zero, List.set_cons_succ]
  refine wpAnyH_take (i := 3) (v := ?_) rfl (by kernel_rfl) (by kernel_rfl) (by kernel_rfl) (fun _ _ _ h => h) (Or.inl ⟨by rfl, ?_⟩) (by assumption) ?_
  rotate_left
  · (intro w hSw; (try dsimp only at hSw); go_simp; try with_reducible rfl)
  simp only [Act.put, List.getElem_toArray, List.getElem_cons_zero, List.getElem_cons_succ, List.setIfInBounds_toArray, List.set_cons_zero, List.set_cons_succ]
  refine wpAnyH_take (i := 4) (v := ?_) rfl (by kernel_rfl) (by kernel_rfl) (by kernel_rfl) (fun _ _ _ h => h) (Or.inl ⟨by rfl, ?_⟩) (by assumption) ?_
  rotate_left
  · (intro w hSw; (try dsimp only at hSw); go_simp; try with_reducible rfl)
  simp only [Act.put, List.getElem_toArray, List.getElem_cons_zero, List.getElem_cons_succ, List.setIfInBounds_toArray, List.set_cons_zero, List.set_cons_succ]
  refine wpAnyH_take (i := 7) (v := ?_) rfl (by kernel_rfl) (by kernel_rfl) (by kernel_rfl) (fun _ _ _ h => h) (Or.inl ⟨by rfl, ?_⟩) (by assumption) ?_
  rotate_left
  · (intro w hSw; (try dsimp only at hSw); go_simp; try with_reducible rfl)
  simp only [Act.put, List.getElem_toArray, List.getElem_cons_zero, List.getElem_cons_succ, List.setIfInBounds_toArray, List.set_cons_zero, List.set_cons_succ]
  refine wpAnyH_take (i := 8) (v := ?_) rfl (by kernel_rfl) (by kernel_rfl) (by kernel_rfl) (fun _ _ _ h => h) (Or.inl ⟨by rfl, ?_⟩) (by assumption) ?_
  rotate_left
  · (intro w hSw; (try dsimp only at hSw); go_simp; try with_reducible rfl)
  simp only [Act.put, List.getElem_toArray, List.getElem_cons_zero, List.getElem_cons_succ, List.setIfInBounds_toArray, List.set_cons_zero, List.set_cons_succ]
  refine wpAnyH_take (i := 9) (v := ?_) rfl (by kernel_rfl) (by kernel_rfl) (by kernel_rfl) (fun _ _ _ h => h) (Or.inl ⟨by rfl, ?_⟩) (by assumption) ?_
  rotate_left
  · (intro w hSw; (try dsimp only at hSw); go_simp; try with_reducible rfl)
  simp only [Act.put, List.getElem_toArray, List.getElem_cons_zero, List.getElem_cons_succ, List.setIfInBounds_toArray, List.set_cons_zero, List.set_cons_succ]
  refine wpAnyH_take (i := 10) (v := ?_) rfl (by kernel_rfl) (by kernel_rfl) (by kernel_rfl) (fun _ _ _ h => h) (Or.inl ⟨by rfl, ?_⟩) (by assumption) ?_
  rotate_left
  · (intro w hSw; (try dsimp only at hSw); go_simp; try with_reducible rfl)
  simp only [Act.put, List.getElem_toArray, List.getElem_cons_zero, List.getElem_cons_succ, List.setIfInBounds_toArray, List.set_cons_zero, List.set_cons_succ]
  refine wpAnyH_take (i := 11) (v := ?_) rfl (by kernel_rfl) (by kernel_rfl) (by kernel_rfl) (fun _ _ _ h => h) (Or.inl ⟨by rfl, ?_⟩) (by assumption) ?_
  rotate_left
  · (intro w hSw; (try dsimp only at hSw); go_simp; try with_reducible rfl)
  simp only [Act.put, List.getElem_toArray, List.getElem_cons_zero, List.getElem_cons_succ, List.setIfInBounds_toArray, List.set_cons_zero, List.set_cons_succ]
  refine wpAnyH_take (i := 12) (v := ?_) rfl (by kernel_rfl) (by kernel_rfl) (by kernel_rfl) (fun _ _ _ h => h) (Or.inl ⟨by rfl, ?_⟩) (by assumption) ?_
  rotate_left
  · (intro w hSw; (try dsimp only at hSw); go_simp; try with_reducible rfl)
  simp only [Act.put, List.getElem_toArray, List.getElem_cons_zero, List.getElem_cons_succ, List.setIfInBounds_toArray, List.set_cons_zero, List.set_cons_succ]
  refine wpAnyH_take (i := 13) (v := ?_) rfl (by kernel_rfl) (by kernel_rfl) (by kernel_rfl) (fun _ _ _ h => h) (Or.inl ⟨by rfl, ?_⟩) (by assumption) ?_
  rotate_left
  · (intro w hSw; (try dsimp only at hSw); go_simp; try with_reducible rfl)
  simp only [Act.put, List.getElem_toArray, List.getElem_cons_zero, List.getElem_cons_succ, List.setIfInBounds_toArray, List.set_cons_zero, List.set_cons_succ]
  refine wpAnyH_take (i := 14) (v := ?_) rfl (by kernel_rfl) (by kernel_rfl) (by kernel_rfl) (fun _ _ _ h => h) (Or.inl ⟨by rfl, ?_⟩) (by assumption) ?_
  rotate_left
  · (intro w hSw; (try dsimp only at hSw); go_simp; try with_reducible rfl)
  simp only [Act.put, List.getElem_toArray, List.getElem_cons_zero, List.getElem_cons_succ, List.setIfInBounds_toArray, List.set_cons_zero, List.set_cons_succ]
  refine wpAnyH_take (i := 15) (v := ?_) rfl (by kernel_rfl) (by kernel_rfl) (by kernel_rfl) (fun _ _ _ h => h) (Or.inl ⟨by rfl, ?_⟩) (by assumption) ?_
  rotate_left
  · (intro w hSw; (try dsimp only at hSw); go_simp; try with_reducible rfl)
  simp only [Act.put, List.getElem_toArray, List.getElem_cons_zero, List.getElem_cons_succ, List.setIfInBounds_toArray, List.set_cons_zero, List.set_cons_succ]
  refine wpAnyH_take (i := 16) (v := ?_) rfl (by kernel_rfl) (by kernel_rfl) (by kernel_rfl) (fun _ _ _ h => h) (Or.inl ⟨by rfl, ?_⟩) (by assumption) ?_
  rotate_left
  · (intro w hSw; (try dsimp only at hSw); go_simp; try with_reducible rfl)
  simp only [Act.put, List.getElem_toArray, List.getElem_cons_zero, List.getElem_cons_succ, List.setIfInBounds_toArray, List.set_cons_zero, List.set_cons_succ]
  refine wpAnyH_take (i := 17) (v := ?_) rfl (by kernel_rfl) (by kernel_rfl) (by kernel_rfl) (fun _ _ _ h => h) (Or.inl ⟨by rfl, ?_⟩) (by assumption) ?_
  rotate_left
  · (intro w hSw; (try dsimp only at hSw); go_simp; try with_reducible rfl)
  simp only [Act.put, List.getElem_toArray, List.getElem_cons_zero, List.getElem_cons_succ, List.setIfInBounds_toArray, List.set_cons_zero, List.set_cons_succ]
  refine wpAnyH_ready (rs := [5]) (by kernel_rfl) (by simp) ?_
  refine AllReadyH.cons rfl (fun K hK => ?_) AllReadyH.nil
  go_simp
  refine (HLV.out _ (HBW.out.trans ((Below.drew (Below.refl _ w1)).mono HBW.out.size))).mono ?_
  rintro e w2 ⟨v2, rfl, ls, hLO, hbs, hb2⟩
  have hll : ls.length = m + 1 := by have h := congrArg List.length hbs; rw [List.length_map, List.length_map, HLN.out] at h; exact h
  obtain ⟨ao2, c2, hv2, hLV, hbl⟩ := leavesO_V hLO (fun p hp => by
    have h1 : p.bs ∈ ls.map SV.bs := List.mem_map_of_mem hp
    rw [hbs] at h1
    obtain ⟨e0, -, he⟩ := List.mem_map.1 h1
    rw [← he]; exact bytesB_len3 e0)
  rw [hll] at hv2 hLV
  subst hv2
  have HB2 : Hid (Below w1.heap.size w1 w2) := (Below.drew (Below.refl _ w1)).trans hb2
  have HCR : Hid _ := HRT.out w2 ao2 c2 _ (HBW.out.trans (HB2.out.mono HBW.out.size)) hLV (by rw [hbl, hbs])
  clear hLO hbs hb2 hll hLV hbl HLV HRT
  go_wp2_with fail
  refine hK.out _ _ (HS.out _ HB2.out) (fun hHeld2 => ?_)
  clear hK K
  refine wpAnyH_ready (rs := [6]) (by kernel_rfl) (by simp) ?_
  refine AllReadyH.cons rfl (fun K hK => ?_) AllReadyH.nil
  go_simp
  refine Calls.mono HCR.out ?_
  rintro e w3 ⟨rfl, hb3⟩
  have HB3 : Hid (Below w1.heap.size w1 w3) := HB2.out.trans (hb3.mono HB2.out.size)
  have HR3 : Hid (w3.heap[w.heap.size + 1]? = some (.cells zeroT 48 (0, 0))) := (HB3.out.block _ (Array.getElem?_eq_some_iff.1 HR.out).1).trans HR.out
  clear hb3 HCR
  go_wp2_with fail
  refine hK.out _ _ (HS.out _ HB3.out) (fun hHeld3 => ?_)
  clear hK K
  refine wpAnyH_take (i := 18) (v := .agg kk) rfl (by kernel_rfl) (by kernel_rfl) (by kernel_rfl) (fun _ _ _ h => h) (yieldsIf_build (by rfl) 48 #[(0, .tmp 20), (1, .tmp 22), (2, .tmp 26), (3, .tmp 30), (4, .tmp 37)] rfl kk _ HBD.out rfl) (by assumption) ?_
  simp only [Act.put, List.getElem_toArray, List.getElem_cons_zero, List.getElem_cons_succ, List.setIfInBounds_toArray, List.set_cons_zero, List.set_cons_succ]
  refine wpAnyH_ready (rs := [19]) (by kernel_rfl) (by simp) ?_
  refine AllReadyH.cons rfl (fun K hK => ?_) AllReadyH.nil
  rw [if_pos (by rfl)]
  refine wp_store_row 48 (.tmp 6) (.tmp 38) rfl (w.heap.size + 1) kk rfl rfl 48 zeroT HR3.out (by rw [size34, HKS.out]) (by rw [HKS.out, HZ.out]) HKA.out ?_
  have HFAR : Hid ((w3.setRow (w.heap.size + 1) kk).cell? ⟨w.heap.size, 0, none⟩ = some (.int .i64 z) ∧ (w3.setRow (w.heap.size + 1) kk).cell? ⟨b, off, none⟩ = some (.string k1) ∧ (w3.setRow (w.heap.size + 1) kk).cell? ⟨b, off + m * 4, none⟩ = some (.string k2)) := by
    obtain ⟨h1, h2, h3⟩ := HS.out _ HB3.out
    have hbw := HLOW.out
    exact ⟨Sm.cell_row_far h1 (by show w.heap.size ≠ w.heap.size + 1; omega), Sm.cell_row_far h2 (by show b ≠ w.heap.size + 1; omega), Sm.cell_row_far h3 (by show b ≠ w.heap.size + 1; omega)⟩
  refine hK.out _ _ HFAR.out (fun hHeld4 => ?_)
  clear hK K
  simp only [Act.put, List.getElem_toArray, List.getElem_cons_zero, List.getElem_cons_succ]
  refine wpAnyH_take (i := 20) (v := ?_) rfl (by kernel_rfl) (by kernel_rfl) (by kernel_rfl) (fun _ _ _ h => h) (Or.inl ⟨by rfl, ?_⟩) (by assumption) ?_
  rotate_left
  · (intro w hSw; (try dsimp only at hSw); go_simp; try with_reducible rfl)
  simp only [Act.put, List.getElem_toArray, List.getElem_cons_zero, List.getElem_cons_succ, List.setIfInBounds_toArray, List.set_cons_zero, List.set_cons_succ]
  refine wpAnyH_done (by kernel_rfl) ?_ _
  clear hS hHeld2 hHeld3 hHeld4
  go_wp2_with fail
  refine bodyPost_ret (results_tab rfl _ _ (w.heap.size + 1) 48 kk (0, 0) rfl (setRow_heap _ _ _ _ _ _ HR3.out) (by rw [size34, HKS.out])) rfl ?_
  exact ⟨rfl, below_setRow (HBW.out.trans (HB3.out.mono HBW.out.size)) (by omega) _⟩
/-- What Describe answers. -/
theorem describe_any (z lv : Int) (ao : Option Addr) (n c : Nat) (es : List E) (w : World) (hE : EntsV w ao n es) (hsm : Small es) (hn : n ≤ 1000) (hlow : ∀ x, ao = some x → x.block < w.heap.size) (hK : Sm.WW w 1 Sm.ks) (hz0 : 1 < w.heap.size) (hz : -9223372036854775808 ≤ z ∧ z ≤ 9223372036854775807) :
    Calls Tryd.prog 30 #[.agg #[.int .i64 z], .int .i64 lv, .slice ao n c] w fun e w' => e = .returned (descV z lv es) ∧ Below w.heap.size w w' := by
  unfold descV
  by_cases h : fitB es = true ∧ 0 ≤ lv ∧ lv < 4
  · rw [if_pos h]
    obtain ⟨b, off, hao, -⟩ := hE.2 (by have := hE.1; have := (fit_len h.1).1; omega)
    subst hao
    exact describe_some z lv b off n c es w hE h.1 h.2 hK hz0 hz (hlow _ rfl)
  · rw [if_neg h]
    exact describe_wrong z lv ao n c es w hE hsm hn h
end Go.Proofs.YtecacjddggljgaaDoor

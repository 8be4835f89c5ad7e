/-
  What block.pressed answers: a contract over this translation.
-/
import Derived.Test.YteemfhhhdhddhaaCommon
namespace Go.Proofs.Yteemfhhhdhddhaa
open Go.RowKit Go.Sort Go.Shelf
set_option linter.unusedSectionVars false
variable [Inhabited E] [DecidableEq E]
/-- 'append(own, x)' in a region that draws. -/
theorem step_append_byte {ops : Array Oper} {o : Oper} {a : Act} {K : Act → World → Prop} {Q : Exit → Act → World → Prop} {E : Prop} (w : World)
    (hg : o.guard = none) (s x : Operand) (hop : o.op = Op.call { callee := Callee.builtin Builtin.append, args := #[s, x], argTypes := #[24, 24] })
    (base : Nat) (v : Value) (n : Nat) (bs : List UInt8) (hs : a.eval s = v) (hown : w.ownsRow base 5 1 v n (cellsOf bs)) (hbase : base ≤ w.heap.size)
    (ad : Addr) (c : Nat) (t : UInt8) (hx : a.eval x = .slice (some ad) 1 c) (hc : Bytes w (some ad) 1 [t])
    (hb : n + 1 ≤ 140737488355328)
    (hK : ∀ g cp w', w'.ownsRow base 5 1 (.slice (some ⟨g, 0, none⟩) (n + 1) cp) (n + 1) (cellsOf (bs ++ [t])) → n + 1 ≤ cp → cp ≤ 9223372036854775807 → Below base w w' → K (a.put o.dst (.slice (some ⟨g, 0, none⟩) (n + 1) cp)) w') :
    if Region.wanted o (yielded ops a.tmps) = true then Oper.wp Try.prog o a w K Q else E := by
  have hw : Region.wanted o (yielded ops a.tmps) = true := by simp [Region.wanted, hg]
  rw [if_pos hw]
  obtain ⟨i0, hi, hz0, hz1, hz2⟩ := info_parts info5
  refine wp_append_own w s x 24 hop base 5 i0 (.int .u8 0) 1 1 Try.underlying24 hi hz0 hz1 hz2 rfl (by decide) v n (cellsOf bs) hs hown ad 1 c (cellsOf [t]) hx rfl ?_ (cellsOf_one [t]) (by unfold maxLen; omega) (by omega) hbase ?_
  · intro j u hu
    obtain ⟨c', hc', rfl⟩ := cellsOf_at hu
    obtain ⟨y, hy, hcell⟩ := hc.2 j c' hc'
    cases hy
    exact hcell
  · intro v' w' h1 h2 _
    obtain ⟨g, cp, rfl, _, _, k3, k4⟩ := own_shape h1 (by omega)
    exact hK g cp w' (by rw [cellsOf_append]; exact h1) k3 k4 ((Below.refl _ _).grown h2 hbase (fun k hk => (hown.lt k hk).1))
/-- An entry's bytes behind one with the key ahead. -/
def pressB (ahead : ByteArray) (e : E) : List UInt8 :=
  (putB (comN (strB ahead) (strB e.key)) ++ textB ((strB e.key).drop (comN (strB ahead) (strB e.key)))) ++ ((if e.del then 1 else 0) :: putB e.seq.toNat ++ (if e.del then [] else textB (strB e.value)))
theorem strB_from (s : ByteArray) (c : Nat) : strB (s.extract c s.size) = (strB s).drop c := by
  have := extract_strB s c (s.size - c)
  by_cases h : c ≤ s.size
  · rw [show c + (s.size - c) = s.size by omega] at this
    rw [this, strB_mk, List.take_of_length_le (by rw [List.length_drop, strB_length]; omega)]
  · rw [List.drop_eq_nil_of_le (by rw [strB_length]; omega)]
    apply List.eq_nil_of_length_eq_zero
    rw [strB_length, ByteArray.size_extract]; omega
set_option maxRecDepth 100000 in
set_option maxHeartbeats 4000000 in
theorem pressed_any (ah k v : ByteArray) (d : Bool) (q : Int) (w : World) (hr : rightB ⟨k, v, d, q⟩ = true) (ha : ah.size ≤ 128) :
    Calls Try.prog 59 #[.string ah, .agg #[.string k, .string v, .bool d, .int .i64 q]] w fun e w' => ∃ v', e = .returned v' ∧ w'.ownsRow w.heap.size 5 1 v' (pressB ah ⟨k, v, d, q⟩).length (cellsOf (pressB ah ⟨k, v, d, q⟩)) ∧ Below w.heap.size w w' := by
  obtain ⟨h1, h2, qn, h3, h4, h5⟩ := right_parts hr
  simp only at h1 h2 h3
  subst h3
  clear hr
  have hwr : IntKind.u64.wrap (qn : Int) = qn := by rw [IntKind.wrap_u64]; omega
  obtain ⟨out, HOUT⟩ : ∃ o, Hid (pressB ah ⟨k, v, d, (qn : Int)⟩ = o) := ⟨_, rfl⟩
  rw [HOUT.out]
  have hcl := comN_le (strB ah) (strB k)
  have CC := fun w => common_any ah k w (by omega)
  obtain ⟨c, HC⟩ : ∃ c, Hid (comN (strB ah) (strB k) = c) := ⟨_, rfl⟩
  rw [HC.out] at CC hcl
  rw [strB_length, strB_length] at hcl
  have HCC : Hid _ := CC
  clear CC
  have hck : c ≤ k.size := hcl.2
  have hcwr : IntKind.u64.wrap (c : Int) = c := by rw [IntKind.wrap_u64]; omega
  clear hcl
  go_enter Try.func59, Try.ntmps59
  go_wp2_with fail
  refine (HCC.out _).mono ?_
  rintro e w1 ⟨rfl, hbel⟩
  have hblk : w1.heap[w.heap.size]? = some (Obj.cells #[.string k, .string v, .bool d, .int .i64 (qn : Int)] 23) := by rw [hbel.block _ (by simp), heap_alloc_get, if_pos rfl]
  have hB1 : Below w.heap.size w w1 := (bel_alloc w _).trans (hbel.mono (by simp))
  have hsz1 : w.heap.size < w1.heap.size := by have := hbel.size; simp at this; omega
  have b0 : w1.cell? ⟨w.heap.size, 0, none⟩ = some (.string k) := by rw [cell_of_row _ _ _ _ _ _ hblk]; rfl
  have b1 : w1.cell? ⟨w.heap.size, 1, none⟩ = some (.string v) := by rw [cell_of_row _ _ _ _ _ _ hblk]; rfl
  have b2 : w1.cell? ⟨w.heap.size, 2, none⟩ = some (.bool d) := by rw [cell_of_row _ _ _ _ _ _ hblk]; rfl
  have b3 : w1.cell? ⟨w.heap.size, 3, none⟩ = some (.int .i64 (qn : Int)) := by rw [cell_of_row _ _ _ _ _ _ hblk]; rfl
  clear hblk hbel HCC
  have HB1 : Hid _ := hB1
  clear hB1
  obtain ⟨ks, HKS⟩ : ∃ s, Hid (s = k.extract c k.size) := ⟨_, rfl⟩
  have hks : ks.size ≤ 128 := by rw [HKS.out, ByteArray.size_extract]; omega
  obtain ⟨m1, HM1⟩ : ∃ m, Hid (sz c = m) := ⟨_, rfl⟩
  obtain ⟨m2, HM2⟩ : ∃ m, Hid ((putB c ++ textB (strB ks)).length = m) := ⟨_, rfl⟩
  have hm1 : m1 ≤ 10 := by rw [← HM1.out]; exact sz_le c
  have hm2 : m2 ≤ 148 := by
    have h7 := textB_len (strB ks)
    have h8 := strB_length ks
    have h6 := putB_le c
    rw [← HM2.out, List.length_append]; omega
  have HP : Hid _ := fun W => put_own c W (by omega)
  have hckz : (c : Int) ≤ (k.size : Int) := by omega
  have HT : Hid (∀ (W : World) (ao : Option Addr) (cp : Nat), Bytes W ao m1 (putB c) → m1 ≤ cp → cp ≤ 9223372036854775807 → (ao = none → cp = 0) → Calls Try.prog 48 #[.slice ao m1 cp, .string (k.extract c k.size)] W fun e w' => ∃ g c', e = .returned (.slice (some ⟨g, 0, none⟩) m2 c') ∧ w'.ownsRow W.heap.size 5 1 (.slice (some ⟨g, 0, none⟩) m2 c') m2 (cellsOf (putB c ++ textB (strB ks))) ∧ W.heap.size ≤ g ∧ g < w'.heap.size ∧ Below W.heap.size W w') := by
    show ∀ _, _
    intro W ao cp hb hn hc h0
    rw [← HKS.out]
    exact putText_shape ao m1 cp (putB c) ks m2 HM2.out W hn hc h0 hb (by omega)
  have HPO : Hid (out = (putB c ++ textB (strB ks)) ++ ((if d then 1 else 0) :: putB qn ++ (if d then [] else textB (strB v)))) := by
    show _ = _
    rw [← HOUT.out, pressB, HKS.out, strB_from]
    simp only [HC.out]
    rfl
  rw [HM1.out] at HP
  go_wp2_with fail
  go_region_held3 (fun w' => w'.cell? ⟨w.heap.size, 0, none⟩ = some (.string k)) (first | assumption | go_keep) (first | (go_at_call 49; refine (HP.out _).mono ?_; rintro e w2 ⟨ao2, c2, rfl, hown2, hbel2⟩; obtain ⟨ao2', c2', hv2, hby2, h02, hlc2, hcm2, -, -⟩ := own_bytes hown2; cases hv2; have hS2 := bel_cell hbel2 (Nat.le_refl _) (bel_cell (Below.drew (Below.refl w1.heap.size w1)) (Nat.le_refl _) b0)) | (go_at_call 48; refine (HT.out _ _ _ hby2 hlc2 (by unfold maxLen at hcm2; omega) h02).mono ?_; rintro e w3 ⟨g3, c3, rfl, hown3, hg3, hg3', hbel3⟩; have hS3 := bel_cell hbel3 (Nat.le_refl _) hS2))
  have hB2 : Below w1.heap.size w1 w2 := (Below.drew (Below.refl w1.heap.size w1)).trans (hbel2.mono (Nat.le_refl _))
  have hB3 : Below w1.heap.size w1 w3 := hB2.trans (hbel3.mono hB2.size)
  have d1 := bel_cell hB3 (Nat.le_refl _) b1
  have d2 := bel_cell hB3 (Nat.le_refl _) b2
  have d3 := bel_cell hB3 (Nat.le_refl _) b3
  have HO3 : Hid (w3.ownsRow (w.heap.size + 1) 5 1 (.slice (some ⟨g3, 0, none⟩) m2 c3) m2 (cellsOf (putB c ++ textB (strB ks)))) := ownsRow_mono hown3 (Nat.le_trans hsz1 hB2.size)
  have HBB : Hid _ := HB1.out.trans (hB3.mono (Nat.le_of_lt hsz1))
  have hsz3 : w.heap.size < w3.heap.size := Nat.lt_of_lt_of_le hsz1 hB3.size
  clear hB2 hB3 hS2 hS3 hbel2 hbel3 hby2 hown2 hown3 h02 HP HT b0 b1 b2 b3 hlc2 hcm2
  have HOA : Hid (∀ o, ((w3.alloc o).drew).ownsRow (w.heap.size + 1) 5 1 (.slice (some ⟨g3, 0, none⟩) m2 c3) m2 (cellsOf (putB c ++ textB (strB ks)))) := fun o => own_below (own_below HO3.out (bel_alloc w3 o) (Nat.le_refl _)) (Below.drew (Below.refl _ _)) (Nat.le_refl _)
  obtain ⟨bs, HBS⟩ : ∃ bs : List UInt8, Hid (putB c ++ textB (strB ks) = bs) := ⟨_, rfl⟩
  rw [HBS.out] at HOA HPO HM2
  have HC3 : Hid (∀ (o : Obj) (w4 : World), Below (w.heap.size + 1) (w3.alloc o).drew w4 → w4.cell? ⟨w.heap.size, 3, none⟩ = some (.int .i64 (qn : Int)) ∧ w4.cell? ⟨w.heap.size, 1, none⟩ = some (.string v)) := by
    show ∀ _, _
    intro o w4 hb
    have e3 := bel_cell (Below.drew (bel_alloc w3 o)) (Nat.le_refl _) d3
    have e1 := bel_cell (Below.drew (bel_alloc w3 o)) (Nat.le_refl _) d1
    exact ⟨by rw [hb.cell (p := ⟨w.heap.size, 3, none⟩) (Nat.lt_succ_self _)]; exact e3, by rw [hb.cell (p := ⟨w.heap.size, 1, none⟩) (Nat.lt_succ_self _)]; exact e1⟩
  cases d with
  | true =>
    obtain ⟨m3, HM3⟩ : ∃ m : Nat, Hid (((bs ++ [(1 : UInt8)]) ++ putB qn).length = m) := ⟨_, rfl⟩
    have HP2 : Hid (∀ (W : World) (g cp : Nat), W.ownsRow (w.heap.size + 1) 5 1 (.slice (some ⟨g, 0, none⟩) (m2 + 1) cp) (m2 + 1) (cellsOf (bs ++ [1])) → m2 + 1 ≤ cp → cp ≤ 9223372036854775807 → Calls Try.prog 49 #[.slice (some ⟨g, 0, none⟩) (m2 + 1) cp, .int .u64 (qn : Int)] W fun e w' => ∃ g c', e = .returned (.slice (some ⟨g, 0, none⟩) m3 c') ∧ w'.ownsRow W.heap.size 5 1 (.slice (some ⟨g, 0, none⟩) m3 c') m3 (cellsOf ((bs ++ [1]) ++ putB qn)) ∧ W.heap.size ≤ g ∧ g < w'.heap.size ∧ Below W.heap.size W w') := by
      show ∀ _, _
      intro W g cp ho hn hc
      exact put_shape (some ⟨g, 0, none⟩) (m2 + 1) cp (bs ++ [1]) qn m3 HM3.out W hn hc (fun h => by cases h) (own_row_bytes ho) (by omega) (by omega)
    go_wp2_with fail
    go_region_held3 (fun w' => w'.cell? ⟨w.heap.size, 3, none⟩ = some (.int .i64 (qn : Int))) (first | assumption | go_keep) (first | (refine step_append_byte _ rfl (.tmp 21) (.tmp 22) rfl (w.heap.size + 1) _ m2 bs rfl (HOA.out _) (by simp; omega) ⟨w3.heap.size, 0, none⟩ 1 1 rfl (bytes_drew1 (bytes_one w3 1)) (by omega) ?_; intro g4 c4 w4 hown4 hn4 hc4 hbel4; have hS4 := (HC3.out _ _ hbel4).1) | (go_at_call 49; refine (HP2.out _ _ _ hown4 hn4 hc4).mono ?_; rintro e w5 ⟨g5, c5, rfl, hown5, hg5, hg5', hbel5⟩; have hS5 := bel_cell hbel5 (Nat.le_refl _) hS4))
    have hB4 : Below w3.heap.size w3 (w3.alloc (Obj.cells #[.int .u8 1] 5)).drew := Below.drew (bel_alloc w3 _)
    have hB5 : Below w.heap.size w w5 := (HBB.out.trans (hB4.mono (Nat.le_of_lt hsz3))).trans ((hbel4.mono (Nat.le_succ _)).trans (hbel5.mono (Nat.le_trans (Nat.le_of_lt hsz3) (Nat.le_trans hB4.size hbel4.size))))
    have hle : w.heap.size ≤ w4.heap.size := Nat.le_trans (Nat.le_of_lt hsz3) (Nat.le_trans hB4.size hbel4.size)
    have HZ : Hid _ := And.intro (ownsRow_mono hown5 hle) hB5
    have HFO : Hid (out = (bs ++ [1]) ++ putB qn) := by show _ = _; rw [HPO.out]; simp
    clear hB4 hB5 hle hown4 hown5 hbel4 hbel5 hS4 hS5
    go_wp2
    go_ret
    exact ⟨_, rfl, by rw [HFO.out, HM3.out]; exact HZ.out.1, HZ.out.2⟩
  | false =>
    obtain ⟨m3, HM3⟩ : ∃ m : Nat, Hid (((bs ++ [(0 : UInt8)]) ++ putB qn).length = m) := ⟨_, rfl⟩
    obtain ⟨m4, HM4⟩ : ∃ m : Nat, Hid ((((bs ++ [(0 : UInt8)]) ++ putB qn) ++ textB (strB v)).length = m) := ⟨_, rfl⟩
    have hm3 : m3 ≤ 200 := by
      have h6 := putB_le qn
      have h7 := HM2.out
      rw [← HM3.out, List.length_append, List.length_append, List.length_singleton]; omega
    have HP2 : Hid (∀ (W : World) (g cp : Nat), W.ownsRow (w.heap.size + 1) 5 1 (.slice (some ⟨g, 0, none⟩) (m2 + 1) cp) (m2 + 1) (cellsOf (bs ++ [0])) → m2 + 1 ≤ cp → cp ≤ 9223372036854775807 → Calls Try.prog 49 #[.slice (some ⟨g, 0, none⟩) (m2 + 1) cp, .int .u64 (qn : Int)] W fun e w' => ∃ g c', e = .returned (.slice (some ⟨g, 0, none⟩) m3 c') ∧ w'.ownsRow W.heap.size 5 1 (.slice (some ⟨g, 0, none⟩) m3 c') m3 (cellsOf ((bs ++ [0]) ++ putB qn)) ∧ m3 ≤ c' ∧ c' ≤ 9223372036854775807 ∧ Below W.heap.size W w') := by
      show ∀ _, _
      intro W g cp ho hn hc
      refine (put_shape (some ⟨g, 0, none⟩) (m2 + 1) cp (bs ++ [0]) qn m3 HM3.out W hn hc (fun h => by cases h) (own_row_bytes ho) (by omega) (by omega)).mono ?_
      rintro e w' ⟨g', c', rfl, ho', _, _, hb'⟩
      obtain ⟨g2, c2', h1', _, _, h2', h3'⟩ := own_shape ho' (by rw [← HM3.out]; simp; omega)
      cases h1'
      exact ⟨g', c', rfl, ho', h2', h3', hb'⟩
    have HT2 : Hid (∀ (W : World) (B g cp : Nat), W.ownsRow B 5 1 (.slice (some ⟨g, 0, none⟩) m3 cp) m3 (cellsOf ((bs ++ [0]) ++ putB qn)) → m3 ≤ cp → cp ≤ 9223372036854775807 → Calls Try.prog 48 #[.slice (some ⟨g, 0, none⟩) m3 cp, .string v] W fun e w' => ∃ g c', e = .returned (.slice (some ⟨g, 0, none⟩) m4 c') ∧ w'.ownsRow W.heap.size 5 1 (.slice (some ⟨g, 0, none⟩) m4 c') m4 (cellsOf (((bs ++ [0]) ++ putB qn) ++ textB (strB v))) ∧ W.heap.size ≤ g ∧ g < w'.heap.size ∧ Below W.heap.size W w') := by
      show ∀ _, _
      intro W B g cp ho hn hc
      exact putText_shape (some ⟨g, 0, none⟩) m3 cp ((bs ++ [0]) ++ putB qn) v m4 HM4.out W hn hc (fun h => by cases h) (own_row_bytes ho) (by omega)
    go_wp2_with fail
    go_region_held3 (fun w' => w'.cell? ⟨w.heap.size, 3, none⟩ = some (.int .i64 (qn : Int)) ∧ w'.cell? ⟨w.heap.size, 1, none⟩ = some (.string v)) (first | assumption | go_keep) (first | (refine step_append_byte _ rfl (.tmp 28) (.tmp 29) rfl (w.heap.size + 1) _ m2 bs rfl (HOA.out _) (by simp; omega) ⟨w3.heap.size, 0, none⟩ 1 0 rfl (bytes_drew1 (bytes_one w3 0)) (by omega) ?_; intro g4 c4 w4 hown4 hn4 hc4 hbel4; have hS4 := HC3.out _ _ hbel4) | (go_at_call 49; refine (HP2.out _ _ _ hown4 hn4 hc4).mono ?_; rintro e w5 ⟨g5, c5, rfl, hown5, hn5, hc5, hbel5⟩; have hS5 := And.intro (bel_cell hbel5 (Nat.le_refl _) hS4.1) (bel_cell hbel5 (Nat.le_refl _) hS4.2)) | (go_at_call 48; refine (HT2.out _ _ _ _ hown5 hn5 hc5).mono ?_; rintro e w6 ⟨g6, c6, rfl, hown6, hg6, hg6', hbel6⟩; have hS6 := And.intro (bel_cell hbel6 (Nat.le_refl _) hS5.1) (bel_cell hbel6 (Nat.le_refl _) hS5.2)))
    have hB4 : Below w3.heap.size w3 (w3.alloc (Obj.cells #[.int .u8 0] 5)).drew := Below.drew (bel_alloc w3 _)
    have hle4 : w.heap.size ≤ w4.heap.size := Nat.le_trans (Nat.le_of_lt hsz3) (Nat.le_trans hB4.size hbel4.size)
    have hle5 : w.heap.size ≤ w5.heap.size := Nat.le_trans hle4 hbel5.size
    have hB6 : Below w.heap.size w w6 := ((HBB.out.trans (hB4.mono (Nat.le_of_lt hsz3))).trans ((hbel4.mono (Nat.le_succ _)).trans (hbel5.mono hle4))).trans (hbel6.mono hle5)
    have HZ : Hid _ := And.intro (ownsRow_mono hown6 hle5) hB6
    have HFO : Hid (out = ((bs ++ [0]) ++ putB qn) ++ textB (strB v)) := by show _ = _; rw [HPO.out]; simp
    clear hB4 hB6 hle4 hle5 hown4 hown5 hown6 hbel4 hbel5 hbel6 hS4 hS5 hS6
    go_wp2
    go_ret
    exact ⟨_, rfl, by rw [HFO.out, HM4.out]; exact HZ.out.1, HZ.out.2⟩
end Go.Proofs.Yteemfhhhdhddhaa

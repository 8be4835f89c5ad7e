/-
  The library's Push and Pop over the heads, and keep: contracts over this translation.
-/
import Derived.Test.YteggjenncmjfmaaMgF
namespace Go.Proofs.Yteggjenncmjfmaa
open Go.RowKit
set_option linter.unusedSectionVars false
variable [Inhabited E] [DecidableEq E] [Inhabited RV]
section
variable {own : Nat → Prop} {w : World} {g : Nat} {R : List RV} {v : Value}
/-- The heads lie in w: a heap of rows that have a head and lie in w0; what is theirs was made behind w0. -/
structure Hs (own : Nat → Prop) (w0 w : World) (g : Nat) (R : List RV) : Prop where
  at_ : HAt own w g R
  bel : Below w0.heap.size w0 w
  new : ∀ k, own k → w0.heap.size ≤ k
  rows : RowsIn w0 R
  heap : Heap cmpR R R.length
theorem Hs.only {w0 w' : World} (h : Hs own w0 w g R) (ho : Only own w w') (ha : HAt own w' g R) : Hs own w0 w' g R := ⟨ha, h.bel.trans (ho.below h.new h.bel.size), h.new, h.rows, h.heap⟩
set_option maxRecDepth 100000 in
set_option maxHeartbeats 1000000 in
theorem hpush_any {w0 : World} (h : Hs own w0 w g R) (r : RV) (hr : RIn w0 r) (hr0 : r.l ≠ []) (hb : R.length < 1000000) : Calls Try.prog 34 #[.iface 38 (.pointer (some ⟨g, 0, none⟩)), .iface 49 (.agg #[.int .i64 (r.age : Int), .slice r.ao r.n r.c])] w fun e w' => e = .returned (.tuple #[]) ∧ ∃ S, S.Perm (R ++ [r]) ∧ Hs (grow own w) w0 w' g S ∧ Only own w w' := by
  have HH : Hid (Hs own w0 w g R) := h
  have HR : Hid (RowsIn w0 (R ++ [r])) := fun x hx => by
    rcases List.mem_append.1 hx with hx | hx
    · exact h.rows x hx
    · rw [List.mem_singleton.1 hx]; exact ⟨hr, hr0⟩
  have HB : Hid (R.length < 1000000) := hb
  have HN : Hid (∀ k, grow own w k → w0.heap.size ≤ k) := fun k hk => by
    rcases hk with hk | hk
    · exact h.new k hk
    · exact Nat.le_trans h.bel.size hk
  have m1 := mpush g
  have m2 := mlen g
  clear h hr hr0 hb
  go_enter Try.func34, Try.ntmps34
  go_wp2_with fail
  refine (push_any HH.out.at_ r (Nat.le_of_lt HB.out)).mono ?_
  rintro e w1 ⟨rfl, hA1, hO1⟩
  have HA1 : Hid (HAt (grow own w) w1 g (R ++ [r])) := hA1
  have HO1 : Hid (Only own w w1) := hO1
  clear hA1 hO1
  go_wp2_with fail
  refine (hlen_any HA1.out).mono ?_
  rintro e w2 ⟨rfl, rfl⟩
  rw [List.length_append, List.length_singleton]
  have hl1 : ((R.length + 1 : Nat) : Int) - 1 = (R.length : Int) := by omega
  have hl2 : ((R.length + 1 : Nat) : Int) ≤ 1000000 := by have := HB.out; omega
  have hl3 : (1 : Int) ≤ ((R.length + 1 : Nat) : Int) := by omega
  go_wp2_with fail
  refine (up_any HA1.out w0 (HH.out.bel.trans (HO1.out.below HH.out.new HH.out.bel.size)) HN.out HR.out R.length (by simp) (heap_up HH.out.heap) (by have := HB.out; simp; omega)).mono ?_
  rintro e w3 ⟨rfl, S, hp, hh, ha, ho⟩
  have HF : Hid (∃ S, S.Perm (R ++ [r]) ∧ Hs (grow own w) w0 w3 g S ∧ Only own w w3) := by
    have ho3 : Only own w w3 := HO1.out.trans ho (fun _ e => e)
    exact ⟨S, hp, ⟨ha, HH.out.bel.trans (ho3.below HH.out.new HH.out.bel.size), HN.out, HR.out.perm hp, hh⟩, ho3⟩
  clear hp hh ha ho hl1 hl2 hl3
  go_wp2_with fail
  go_end0
  exact ⟨rfl, HF.out⟩
theorem heap_take {S : List RV} {n : Nat} (hn : n ≤ S.length) (h : Heap cmpR S n) : Heap cmpR (S.take n) (S.take n).length := by
  have hl : (S.take n).length = n := by rw [List.length_take]; omega
  have hg : ∀ i, i < n → (S.take n)[i]! = S[i]! := fun i hi => by
    rw [getElem!_pos (S.take n) i (by omega), getElem!_pos S i (by omega), List.getElem_take]
  intro i hi h0
  rw [hl] at hi
  rw [hg i hi, hg _ (by omega)]
  exact h i hi h0
theorem take_one {S : List RV} {n : Nat} (hn : n + 1 = S.length) : S = S.take n ++ [S[n]!] := by
  rw [getElem!_pos S n (by omega)]
  have := List.take_succ_eq_append_getElem (l := S) (i := n) (by omega)
  rw [← this, List.take_of_length_le (by omega)]
set_option maxRecDepth 100000 in
set_option maxHeartbeats 1000000 in
theorem hpop_any {w0 : World} (h : Hs own w0 w g R) (hb : R.length ≤ 1000000) (hpos : 0 < R.length) : Calls Try.prog 29 #[.iface 38 (.pointer (some ⟨g, 0, none⟩))] w fun e w' => e = .returned (.iface 49 (.agg #[.int .i64 (R[0]!.age : Int), .slice R[0]!.ao R[0]!.n R[0]!.c])) ∧ ∃ S, (S ++ [R[0]!]).Perm R ∧ Hs own w0 w' g S ∧ Only own w w' := by
  obtain ⟨x, HX0⟩ : ∃ x, Hid (R[0]! = x) := ⟨_, rfl⟩
  rw [HX0.out]
  obtain ⟨n, HNE⟩ : ∃ n, Hid (n + 1 = R.length) := ⟨R.length - 1, by show _ = _; omega⟩
  have HH : Hid (Hs own w0 w g R) := h
  have HB : Hid (R.length ≤ 1000000) := hb
  have m1 := mpop g
  have m2 := mlen g
  have m3 := ms g
  have hl0 : (R.length : Int) = (n : Int) + 1 := by have := HNE.out; omega
  have HL : Hid (Calls Try.prog 20 #[.pointer (some ⟨g, 0, none⟩)] w fun e w' => e = .returned (.int .i64 ((n : Int) + 1)) ∧ w' = w) := by show Calls _ _ _ _ _; rw [← hl0]; exact hlen_any h.at_
  have hn0 : (0 : Int) ≤ (n : Int) := by omega
  have hn1 : (n : Int) ≤ 1000000 := by omega
  clear h hb hl0 hpos
  go_enter Try.func29, Try.ntmps29
  go_wp2_with fail
  refine Calls.mono HL.out ?_
  rintro e w1 ⟨rfl, rfl⟩
  go_wp2_with fail
  refine (swap_any HH.out.at_ 0 n (by have := HNE.out; omega) (by have := HNE.out; omega)).mono ?_
  rintro e w2 ⟨rfl, hA2, hO2⟩
  have HA2 : Hid (HAt own w2 g (swpL R 0 n)) := hA2
  have HO2 : Hid (Only own w1 w2) := hO2
  clear hA2 hO2
  have HD : Hid (DnInv cmpR (swpL R 0 n) n 0) := heap_dn HNE.out HH.out.heap
  have HRW : Hid (RowsIn w0 (swpL R 0 n)) := HH.out.rows.perm (swpL_perm R 0 n (by have := HNE.out; omega) (by have := HNE.out; omega))
  go_wp2_with fail
  refine (down_any HA2.out w0 (HH.out.bel.trans (HO2.out.below HH.out.new HH.out.bel.size)) HH.out.new HRW.out n (by rw [swpL_len]; exact HNE.out) HD.out (by rw [swpL_len]; exact HB.out)).mono ?_
  rintro e w3 ⟨v3, rfl, S, hp, hl, hh, ha, ho⟩
  have HLL : Hid (n + 1 = S.length) := by show _ = _; rw [hp.length_eq, swpL_len]; exact HNE.out
  have HX : Hid (S = S.take n ++ [x]) := by
    have h1 := take_one HLL.out
    rw [hl, swpL_get R 0 n n (by have := HNE.out; omega) (by have := HNE.out; omega) (by have := HNE.out; omega), if_pos rfl, HX0.out] at h1
    exact h1
  have HA3 : Hid (HAt own w3 g (S.take n ++ [x])) := by show HAt _ _ _ _; rw [← HX.out]; exact ha
  have HO3 : Hid (Only own w1 w3) := HO2.out.trans ho (fun _ e => .inl e)
  have HP : Hid ((S.take n ++ [x]).Perm R) := by show List.Perm _ _; rw [← HX.out]; exact hp.trans (swpL_perm R 0 n (by have := HNE.out; omega) (by have := HNE.out; omega))
  have HHP : Hid (Heap cmpR (S.take n) (S.take n).length) := heap_take (by have := HLL.out; omega) hh
  clear hp hl hh ha ho
  go_wp2_with fail
  refine (popm_any HA3.out (by rw [List.length_take]; have := HB.out; have := HNE.out; omega)).mono ?_
  rintro e w4 ⟨rfl, ha4, ho4⟩
  have HF : Hid (∃ T, (T ++ [x]).Perm R ∧ Hs own w0 w4 g T ∧ Only own w1 w4) := by
    have ho5 : Only own w1 w4 := HO3.out.trans ho4 (fun _ e => .inl e)
    refine ⟨S.take n, HP.out, ⟨ha4, HH.out.bel.trans (ho5.below HH.out.new HH.out.bel.size), HH.out.new, fun r hr => HH.out.rows r (HP.out.mem_iff.1 (List.mem_append_left _ hr)), HHP.out⟩, ho5⟩
  clear ha4 ho4
  go_wp2_with fail
  go_ret
  exact ⟨rfl, HF.out⟩
set_option maxRecDepth 100000 in
set_option maxHeartbeats 1000000 in
theorem keep_any {w0 : World} (h : Hs own w0 w g R) (r : RV) (hr : RIn w0 r) (hb : R.length < 1000000) : Calls Try.prog 27 #[.pointer (some ⟨g, 0, none⟩), .agg #[.int .i64 (r.age : Int), .slice r.ao r.n r.c]] w fun e w' => e = .returned (.tuple #[]) ∧ ∃ S, S.Perm (R ++ (if r.l = [] then [] else [r])) ∧ Hs (grow own w) w0 w' g S ∧ Only own w w' := by
  have hal : Only own w (w.alloc (.cells #[.int .i64 (r.age : Int), .slice r.ao r.n r.c] 49)) := (Only.refl own w).alloc _
  have HH : Hid (Hs own w0 (w.alloc (.cells #[.int .i64 (r.age : Int), .slice r.ao r.n r.c] 49)) g R) := h.only hal (h.at_.grown (bel_alloc w _))
  have HM : Hid (∀ W S, Hs own w0 W g S → Hs (grow own w) w0 W g S) := fun W S hS => ⟨hS.at_.mono (fun _ _ e => .inl e), hS.bel, fun k hk => by
    rcases hk with hk | hk
    · exact h.new k hk
    · exact Nat.le_trans h.bel.size hk, hS.rows, hS.heap⟩
  have HM2 : Hid (∀ W S, Hs (grow own (w.alloc (.cells #[.int .i64 (r.age : Int), .slice r.ao r.n r.c] 49))) w0 W g S → Hs (grow own w) w0 W g S) := fun W S hS => ⟨hS.at_.mono (fun _ _ e => by
    rcases e with e | e
    · exact .inl e
    · exact .inr (by simp at e; omega)), hS.bel, fun k hk => by
    rcases hk with hk | hk
    · exact h.new k hk
    · exact Nat.le_trans h.bel.size hk, hS.rows, hS.heap⟩
  have HO : Hid (Only own w (w.alloc (.cells #[.int .i64 (r.age : Int), .slice r.ao r.n r.c] 49))) := hal
  have HR : Hid (RIn w0 r) := hr
  have HB : Hid (R.length < 1000000) := hb
  have HL : Hid (r.l.length = r.n) := hr.1.1
  clear h hr hb hal
  by_cases h0 : r.l = []
  · rw [if_pos h0, List.append_nil]
    have hn : r.n = 0 := by rw [← HL.out, h0]; rfl
    obtain ⟨a1, o1, n1, c1, l1⟩ := r
    simp only at hn
    subst hn
    clear h0
    go_enter Try.func27, Try.ntmps27
    go_wp2
    go_end0
    exact ⟨rfl, R, List.Perm.refl _, HM.out _ _ HH.out, HO.out⟩
  · rw [if_neg h0]
    have hn : (0 : Int) < (r.n : Int) := by have := HL.out; cases hl : r.l with | nil => exact absurd hl h0 | cons e t => rw [hl] at this; simp at this; omega
    have H0 : Hid (r.l ≠ []) := h0
    clear h0
    have HC : Hid _ := hpush_any HH.out r HR.out H0.out HB.out
    obtain ⟨a1, o1, n1, c1, l1⟩ := r
    simp only at hn
    go_enter Try.func27, Try.ntmps27
    go_wp2_with fail
    refine Calls.mono HC.out ?_
    rintro e w2 ⟨rfl, S, hp, hs, ho⟩
    have HF : Hid (∃ S, S.Perm (R ++ [(⟨a1, o1, n1, c1, l1⟩ : RV)]) ∧ Hs (grow own w) w0 w2 g S ∧ Only own w w2) := ⟨S, hp, HM2.out _ _ hs, HO.out.trans ho (fun _ e => .inl e)⟩
    clear hp hs ho HC
    go_wp2_with fail
    go_end0
    exact ⟨rfl, HF.out⟩
end
end Go.Proofs.Yteggjenncmjfmaa

/-
  Rows of numbers, and what places answers: contracts over this translation.
-/
import Derived.Test.YtnkbhojflcckmaaPkF
namespace Go.Proofs.Ytnkbhojflcckmaa
open Go.RowKit
set_option linter.unusedSectionVars false
theorem info3 : (Try.prog.info? 3).map (fun i => (i.zero, i.size, i.bytes)) = some (some (.int .i64 0), 1, 8) := by kernel_rfl
def cellsI (l : List Nat) : List Value := l.map fun (i : Nat) => Value.int .i64 (i : Int)
theorem cellsI_len (l : List Nat) : (cellsI l).length = l.length := by simp [cellsI]
theorem cellsI_one (l : List Nat) : ∀ u ∈ cellsI l, u.oneCell' = true := by
  intro u hu
  simp only [cellsI, List.mem_map] at hu
  obtain ⟨b, _, rfl⟩ := hu
  rfl
theorem cellsI_append (a b : List Nat) : cellsI (a ++ b) = cellsI a ++ cellsI b := by simp [cellsI]
/-- A row of numbers lies in a slice. -/
def IntsV (w : World) (ao : Option Addr) (n : Nat) (l : List Nat) : Prop := l.length = n ∧ (0 < n → ∃ b off, ao = some ⟨b, off, none⟩ ∧ ∀ i, i < n → w.cell? ⟨b, off + i, none⟩ = some (.int .i64 ((l.getD i 0 : Nat) : Int)))
theorem IntsV.keep {w w' : World} {ao : Option Addr} {n : Nat} {l : List Nat} (h : IntsV w ao n l) (hb : Below w.heap.size w w') : IntsV w' ao n l :=
  ⟨h.1, fun hp => by
    obtain ⟨b, off, h1, h2⟩ := h.2 hp
    exact ⟨b, off, h1, fun i hi => by
      have h3 := h2 i hi
      rw [← h3]
      exact World.cell?_of_block (hb.block b (World.block_lt_of_cell? w _ h3))⟩⟩
theorem own_intsV {w : World} {base : Nat} {v : Value} {n : Nat} {l : List Nat} (h : w.ownsRow base 3 1 v n (cellsI l)) : ∃ ao c, v = .slice ao n c ∧ IntsV w ao n l ∧ n = l.length := by
  have hl : n = l.length := by have := h.1; rw [cellsI_len] at this; omega
  rcases h.2 with ⟨rfl, h0⟩ | ⟨g, cap, cur, rfl, hb, hg, hn, hm, hs, ht⟩
  · exact ⟨none, 0, by rw [h0], ⟨hl.symm, fun hp => absurd hp (by omega)⟩, hl⟩
  · refine ⟨_, cap, rfl, ⟨hl.symm, fun _ => ⟨g, 0, rfl, fun i hi => ?_⟩⟩, hl⟩
    have hi2 : i < l.length := by omega
    have := h.cells (g := g) rfl i (.int .i64 ((l.getD i 0 : Nat) : Int)) (by simp [cellsI, hi2])
    rwa [Addr.add_lit] at this
theorem wpList_append_int {ops : Array Oper} {rest : List Oper} {o : Oper} {a : Act} {Q : Exit → Act → World → Prop} (w : World)
    (hg : o.guard = none) (s x : Operand) (hop : o.op = Op.call { callee := Callee.builtin Builtin.append, args := #[s, x], argTypes := #[24, 24] })
    (base : Nat) (v : Value) (n : Nat) (l : List Nat) (hs : a.eval s = v) (hown : w.ownsRow base 3 1 v n (cellsI l)) (hbase : base ≤ w.heap.size)
    (g i : Nat) (hx : a.eval x = .slice (some ⟨g, 0, none⟩) 1 1) (hc : w.cell? ⟨g, 0, none⟩ = some (.int .i64 (i : Int)))
    (hb : n ≤ 1000000000)
    (hK : ∀ v' w', w'.ownsRow base 3 1 v' (l ++ [i]).length (cellsI (l ++ [i])) → Below base w w' → wpList Try.prog ops Q rest (a.put o.dst v') w') :
    wpList Try.prog ops Q (o :: rest) a w := by
  obtain ⟨i0, hi, hz0, hz1, hz2⟩ := info_parts info3
  have hn : n = l.length := by have := hown.1; rw [cellsI_len] at this; omega
  refine wpList_append_own w hg s x 24 hop base 3 i0 (.int .i64 0) 1 8 Try.underlying24 hi hz0 hz1 hz2 rfl (by decide) v n (cellsI l) hs hown ⟨g, 0, none⟩ 1 1 (cellsI [i]) hx (by simp [cellsI]) ?_ (cellsI_one _) (by unfold maxLen; omega) (by omega) hbase ?_
  · intro j u hu
    have hj := (List.getElem?_eq_some_iff.1 hu).1
    have : j = 0 := by simp [cellsI] at hj; exact hj
    subst this
    rw [Addr.add_lit]
    have hu2 : u = .int .i64 (i : Int) := by simpa [cellsI] using hu.symm
    rw [hu2]; exact hc
  · intro v' w' h1 h2 _
    refine hK v' w' ?_ ((Below.refl _ _).grown h2 hbase (fun k hk => (hown.lt k hk).1))
    rw [List.length_append, ← hn, cellsI_append]
    exact h1
/-- The places of the tables that are meant. -/
def plc (p : Tb → Bool) (ts : List Tb) (i : Nat) : List Nat := (List.range i).filter fun j => p (ts.getD j zT)
theorem plc_succ (p : Tb → Bool) (ts : List Tb) (i : Nat) : plc p ts (i + 1) = if p (ts.getD i zT) then plc p ts i ++ [i] else plc p ts i := by
  unfold plc
  rw [List.range_succ, List.filter_append]
  by_cases h : p (ts.getD i zT) = true
  · rw [if_pos h, List.filter_cons_of_pos (by exact h), List.filter_nil]
  · rw [if_neg h, List.filter_cons_of_neg (by exact h), List.filter_nil, List.append_nil]
theorem plc_len (p : Tb → Bool) (ts : List Tb) (i : Nat) : (plc p ts i).length ≤ i := by
  have := List.length_filter_le (fun j => p (ts.getD j zT)) (List.range i)
  rwa [List.length_range] at this
set_option maxRecDepth 100000 in
set_option maxHeartbeats 8000000 in
theorem places_any (q : FuncId) (caps : Array Value) (p : Tb → Bool) (he : ∀ args w, (callFunc q args).run Try.prog w = .ok (.enter q args) w) (ao : Option Addr) (n c : Nat) (ts : List Tb) (w : World) (hE : TabsV w ao n ts) (hn : n ≤ 1000)
    (hP : ∀ W i, Below w.heap.size w W → i < n → Calls Try.prog q (caps ++ #[.agg (encT (ts.getD i zT)).toArray]) W fun e w' => e = .returned (.bool (p (ts.getD i zT))) ∧ Below W.heap.size W w') :
    Calls Try.prog 18 #[.slice ao n c, .func (.func q) caps #[]] w fun e w' => ∃ v, e = .returned v ∧ w'.ownsRow w.heap.size 3 1 v (plc p ts n).length (cellsI (plc p ts n)) ∧ Below w.heap.size w w' := by
  have HE : Hid _ := hE
  have HP : Hid _ := hP
  clear hE hP
  go_enter Try.func18, Try.ntmps18
  go_wp2
  go_loopw [5, 6, 7, 10] (fun o _ _ x wr => ∃ i : Nat, x = .int .i64 i ∧ i ≤ n ∧ wr.ownsRow w.heap.size 3 1 o (plc p ts i).length (cellsI (plc p ts i)) ∧ Below w.heap.size w wr) (fun _ _ _ x _ => n - (intOf x).toNat)
  case atStart => exact ⟨0, rfl, by omega, World.ownsRow_nil _ _ _ _, Below.refl _ _⟩
  case round =>
    obtain ⟨i, rfl, hin, hown, hbel⟩ := hrel
    by_cases hlt : i < n
    · have hltz : (i : Int) < (n : Int) := by omega
      obtain ⟨b, off, hao, hEn⟩ := HE.out.2 (by omega)
      have hln := HE.out.1
      have HRX : Hid (wr.rangeAt b (off + i * 36) (encT (ts.getD i zT))) := tabs_range (hEn.below hbel (Nat.le_refl _)) i (by omega) rfl
      have CP : Hid (∀ W, Below w.heap.size w W → Calls Try.prog q (caps ++ #[.agg (encT (ts.getD i zT)).toArray]) W fun e w' => e = .returned (.bool (p (ts.getD i zT))) ∧ Below W.heap.size W w') := fun W hW => HP.out W i hW hlt
      have HSU : Hid _ := plc_succ p ts i
      obtain ⟨x, HX⟩ : ∃ x, Hid (ts.getD i zT = x) := ⟨_, rfl⟩
      rw [HX.out] at HRX CP HSU
      obtain ⟨pb, HPB⟩ : ∃ y, Hid (p x = y) := ⟨_, rfl⟩
      rw [HPB.out] at CP HSU
      obtain ⟨l, HLI⟩ : ∃ l, Hid (plc p ts i = l) := ⟨_, rfl⟩
      have hl1000 : l.length ≤ 1000 := by rw [← HLI.out]; have := plc_len p ts i; omega
      rw [HLI.out] at hown HSU
      have HOW : Hid _ := And.intro hown hbel
      subst hao
      clear hEn hown hbel hln
      go_wp2_with (first | (refine wpList_load_mid rfl 32 (.tmp 13) rfl b (off + i * 36) rfl (encT x) _ HRX.out Try.underlying32 rfl (sizeT x) ?_) | (refine wpList_store_box _ rfl (.tmp 7) (.tmp 14) rfl wr.heap.size rfl x rfl _ (heap_alloc_new wr _) rfl ?_))
      intro w3 hbox hchg
      have HB3 : Hid (Below wr.heap.size wr w3) := (bel_alloc wr _).trans (hchg.below (Nat.le_refl _) (by simp))
      have HBX : Hid (Box w3 wr.heap.size x) := hbox
      have HBW : Hid (Below w.heap.size w w3) := HOW.out.2.trans (HB3.out.mono HOW.out.2.size)
      have HO3 : Hid (w3.ownsRow w.heap.size 3 1 u5 l.length (cellsI l)) := own_below HOW.out.1 HB3.out (Nat.le_refl _)
      clear hbox hchg HRX
      go_wp2_with (refine wpList_load_row rfl 32 (.tmp 7) rfl wr.heap.size rfl 32 (encT x).toArray (0, 0) _ HBX.out Try.underlying32 rfl (sizeTA _) ?_)
      refine (CP.out _ HBW.out).mono ?_
      rintro e w4 ⟨rfl, hb4⟩
      have HB4 : Hid (Below w.heap.size w w4) := HBW.out.trans (hb4.mono HBW.out.size)
      have HO4 : Hid (w4.ownsRow w.heap.size 3 1 u5 l.length (cellsI l)) := own_below HO3.out hb4 (Nat.le_refl _)
      clear hb4 CP HO3 HOW
      cases pb with
      | false =>
        go_wp2
        go_roundw
        case rel => exact ⟨i + 1, by go_num, by omega, by rw [HSU.out]; exact HO4.out, HB4.out⟩
        case measure => simp [intOf]; omega
      | true =>
        have HSU2 : Hid (plc p ts (i + 1) = l ++ [i]) := by show _ = _; have h9 := HSU.out; simpa using h9
        have HO5 : Hid ((w4.alloc (.cells #[.int .i64 (i : Int)] 3)).ownsRow w.heap.size 3 1 u5 l.length (cellsI l)) := HO4.out.alloc _
        have HS5 : Hid (w.heap.size ≤ (w4.alloc (.cells #[.int .i64 (i : Int)] 3)).heap.size) := by show _ ≤ _; have := HB4.out.size; simp; omega
        have HCC : Hid ((w4.alloc (.cells #[.int .i64 (i : Int)] 3)).cell? ⟨w4.heap.size, 0, none⟩ = some (.int .i64 (i : Int))) := by show _ = _; rw [cell_of_row _ _ _ _ _ _ (heap_alloc_new w4 _)]; rfl
        go_wp2_with (at_builtin; refine wpList_append_int _ rfl (.tmp 18) (.tmp 20) rfl w.heap.size _ l.length l rfl HO5.out HS5.out w4.heap.size i rfl HCC.out (by omega) ?_)
        intro v6 w6 hown6 hb6
        have HN : Hid _ := And.intro hown6 ((HB4.out.alloc HB4.out.size _).trans hb6)
        clear hown6 hb6
        go_wp2
        go_roundw
        case rel => exact ⟨i + 1, by go_num, by omega, by rw [HSU2.out, List.length_append]; exact HN.out.1, HN.out.2⟩
        case measure => simp [intOf]; omega
    · have hltz : ¬ (i : Int) < (n : Int) := by omega
      obtain rfl : i = n := by omega
      have HO : Hid _ := And.intro hown hbel
      clear hown hbel
      go_wp2
      go_ret
      exact ⟨u5, rfl, HO.out.1, HO.out.2⟩
end Go.Proofs.Ytnkbhojflcckmaa

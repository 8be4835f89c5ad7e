/-
  What asked answers: contracts over this translation.
-/
import Derived.Test.YtnkbhojflcckmaaPkI
namespace Go.Proofs.Ytnkbhojflcckmaa
open Go.RowKit
set_option linter.unusedSectionVars false
theorem info9 : (Try.prog.info? 9).map (fun i => (i.zero, i.size, i.bytes)) = some (some (.string ⟨#[]⟩), 1, 16) := by kernel_rfl
/-- A cell put behind a row of one's own: numbers, strings. -/
theorem wpList_append_intZ {ops : Array Oper} {rest : List Oper} {o : Oper} {a : Act} {Q : Exit → Act → World → Prop} (w : World)
    (hg : o.guard = none) (s x : Operand) (hop : o.op = Op.call { callee := Callee.builtin Builtin.append, args := #[s, x], argTypes := #[24, 24] })
    (base : Nat) (v : Value) (n : Nat) (l : List Int) (hs : a.eval s = v) (hown : w.ownsRow base 3 1 v n (l.map (Value.int .i64))) (hbase : base ≤ w.heap.size)
    (g : Nat) (i : Int) (hx : a.eval x = .slice (some ⟨g, 0, none⟩) 1 1) (hc : w.cell? ⟨g, 0, none⟩ = some (.int .i64 i))
    (hb : n ≤ 1000000000)
    (hK : ∀ v' w', w'.ownsRow base 3 1 v' (l ++ [i]).length ((l ++ [i]).map (Value.int .i64)) → Below base w w' → wpList Try.prog ops Q rest (a.put o.dst v') w') :
    wpList Try.prog ops Q (o :: rest) a w := by
  obtain ⟨i0, hi, hz0, hz1, hz2⟩ := info_parts info3
  have hn : n = l.length := by have := hown.1; rw [List.length_map] at this; omega
  refine wpList_append_own w hg s x 24 hop base 3 i0 (.int .i64 0) 1 8 Try.underlying24 hi hz0 hz1 hz2 rfl (by decide) v n (l.map (Value.int .i64)) hs hown ⟨g, 0, none⟩ 1 1 [.int .i64 i] hx rfl ?_ (by intro u hu; rw [List.mem_singleton.1 hu]; rfl) (by unfold maxLen; omega) (by omega) hbase ?_
  · intro j u hu
    have hj := (List.getElem?_eq_some_iff.1 hu).1
    have : j = 0 := by simpa using hj
    subst this
    rw [Addr.add_lit]
    have hu2 : u = .int .i64 i := by simpa using hu.symm
    rw [hu2]; exact hc
  · intro v' w' h1 h2 _
    refine hK v' w' ?_ ((Below.refl _ _).grown h2 hbase (fun k hk => (hown.lt k hk).1))
    rw [List.length_append, ← hn, List.map_append]
    exact h1
theorem wpList_append_str {ops : Array Oper} {rest : List Oper} {o : Oper} {a : Act} {Q : Exit → Act → World → Prop} (w : World)
    (hg : o.guard = none) (s x : Operand) (hop : o.op = Op.call { callee := Callee.builtin Builtin.append, args := #[s, x], argTypes := #[55, 55] })
    (base : Nat) (v : Value) (n : Nat) (l : List ByteArray) (hs : a.eval s = v) (hown : w.ownsRow base 9 1 v n (l.map Value.string)) (hbase : base ≤ w.heap.size)
    (g : Nat) (i : ByteArray) (hx : a.eval x = .slice (some ⟨g, 0, none⟩) 1 1) (hc : w.cell? ⟨g, 0, none⟩ = some (.string i))
    (hb : n ≤ 1000000000)
    (hK : ∀ v' w', w'.ownsRow base 9 1 v' (l ++ [i]).length ((l ++ [i]).map Value.string) → Below base w w' → wpList Try.prog ops Q rest (a.put o.dst v') w') :
    wpList Try.prog ops Q (o :: rest) a w := by
  obtain ⟨i0, hi, hz0, hz1, hz2⟩ := info_parts info9
  have hn : n = l.length := by have := hown.1; rw [List.length_map] at this; omega
  refine wpList_append_own w hg s x 55 hop base 9 i0 (.string ⟨#[]⟩) 1 16 Try.underlying55 hi hz0 hz1 hz2 rfl (by decide) v n (l.map Value.string) hs hown ⟨g, 0, none⟩ 1 1 [.string i] hx rfl ?_ (by intro u hu; rw [List.mem_singleton.1 hu]; rfl) (by unfold maxLen; omega) (by omega) hbase ?_
  · intro j u hu
    have hj := (List.getElem?_eq_some_iff.1 hu).1
    have : j = 0 := by simpa using hj
    subst this
    rw [Addr.add_lit]
    have hu2 : u = .string i := by simpa using hu.symm
    rw [hu2]; exact hc
  · intro v' w' h1 h2 _
    refine hK v' w' ?_ ((Below.refl _ _).grown h2 hbase (fun k hk => (hown.lt k hk).1))
    rw [List.length_append, ← hn, List.map_append]
    exact h1
/-- What the first tables are asked. -/
def askd {α : Type} (f : Tb → α) (ts : List Tb) (i : Nat) : List α := (List.range i).map fun j => f (ts.getD j zT)
theorem askd_succ {α : Type} (f : Tb → α) (ts : List Tb) (i : Nat) : askd f ts (i + 1) = askd f ts i ++ [f (ts.getD i zT)] := by unfold askd; rw [List.range_succ, List.map_append, List.map_singleton]
theorem askd_len {α : Type} (f : Tb → α) (ts : List Tb) (i : Nat) : (askd f ts i).length = i := by simp [askd]
theorem askd_all {α : Type} (f : Tb → α) (ts : List Tb) : askd f ts ts.length = ts.map f := by
  apply List.ext_getElem
  · simp [askd]
  · intro i h1 h2
    simp only [askd, List.length_map, List.length_range] at h1
    simp [askd, List.getElem?_eq_getElem h1]
set_option maxRecDepth 100000 in
set_option maxHeartbeats 8000000 in
theorem askedI_any (q : FuncId) (p : Tb → Int) (he : ∀ args w, (callFunc q args).run Try.prog w = .ok (.enter q args) w) (ao : Option Addr) (n c : Nat) (ts : List Tb) (w : World) (hE : TabsV w ao n ts) (hn : n ≤ 1000)
    (hP : ∀ (x : Tb) W, Calls Try.prog q #[.agg (encT x).toArray] W fun e w' => e = .returned ((Value.int .i64) (p x)) ∧ Below W.heap.size W w') :
    Calls Try.prog 25 #[.slice ao n c, .func (.func q) #[] #[]] w fun e w' => ∃ v, e = .returned v ∧ w'.ownsRow w.heap.size 3 1 v n ((ts.map p).map (Value.int .i64)) ∧ Below w.heap.size w w' := by
  have HE : Hid _ := hE
  have HP : Hid _ := hP
  clear hE hP
  go_enter Try.func25, Try.ntmps25
  go_wp2
  go_loopw [5, 7, 10] (fun o _ x wr => ∃ i : Nat, x = .int .i64 i ∧ i ≤ n ∧ wr.ownsRow w.heap.size 3 1 o (askd p ts i).length ((askd p ts i).map (Value.int .i64)) ∧ Below w.heap.size w wr) (fun _ _ x _ => n - (intOf x).toNat)
  case atStart => exact ⟨0, rfl, by omega, World.ownsRow_nil _ _ _ _, Below.refl _ _⟩
  case round =>
    obtain ⟨i, rfl, hin, hown, hbel⟩ := hrel
    by_cases hlt : i < n
    · have hltz : (i : Int) < (n : Int) := by omega
      obtain ⟨b, off, hao, hEn⟩ := HE.out.2 (by omega)
      have hln := HE.out.1
      have HRX : Hid (wr.rangeAt b (off + i * 36) (encT (ts.getD i zT))) := tabs_range (hEn.below hbel (Nat.le_refl _)) i (by omega) rfl
      have HSU : Hid _ := askd_succ p ts i
      obtain ⟨x, HX⟩ : ∃ x, Hid (ts.getD i zT = x) := ⟨_, rfl⟩
      rw [HX.out] at HRX HSU
      have CP : Hid (∀ W, Calls Try.prog q #[.agg (encT x).toArray] W fun e w' => e = .returned ((Value.int .i64) (p x)) ∧ Below W.heap.size W w') := fun W => HP.out x W
      obtain ⟨pb, HPB⟩ : ∃ y, Hid (p x = y) := ⟨_, rfl⟩
      rw [HPB.out] at CP HSU
      obtain ⟨l, HLI⟩ : ∃ l, Hid (askd p ts i = l) := ⟨_, rfl⟩
      have hl1000 : l.length ≤ 1000 := by rw [← HLI.out, askd_len]; omega
      rw [HLI.out] at hown HSU
      have HOW : Hid _ := And.intro hown hbel
      subst hao
      clear hEn hown hbel hln
      go_wp2_with (first | (refine wpList_load_mid rfl 32 (.tmp 12) rfl b (off + i * 36) rfl (encT x) _ HRX.out Try.underlying32 rfl (sizeT x) ?_) | (refine wpList_store_box _ rfl (.tmp 7) (.tmp 13) rfl wr.heap.size rfl x rfl _ (heap_alloc_new wr _) rfl ?_))
      intro w3 hbox hchg
      have HB3 : Hid (Below wr.heap.size wr w3) := (bel_alloc wr _).trans (hchg.below (Nat.le_refl _) (by simp))
      have HBX : Hid (Box w3 wr.heap.size x) := hbox
      have HBW : Hid (Below w.heap.size w w3) := HOW.out.2.trans (HB3.out.mono HOW.out.2.size)
      have HO3 : Hid (w3.ownsRow w.heap.size 3 1 u5 l.length (l.map (Value.int .i64))) := own_below HOW.out.1 HB3.out (Nat.le_refl _)
      clear hbox hchg HRX
      go_wp2_with (refine wpList_load_row rfl 32 (.tmp 7) rfl wr.heap.size rfl 32 (encT x).toArray (0, 0) _ HBX.out Try.underlying32 rfl (sizeTA _) ?_)
      refine (CP.out _).mono ?_
      rintro e w4 ⟨rfl, hb4⟩
      have HB4 : Hid (Below w.heap.size w w4) := HBW.out.trans (hb4.mono HBW.out.size)
      have HO4 : Hid (w4.ownsRow w.heap.size 3 1 u5 l.length (l.map (Value.int .i64))) := own_below HO3.out hb4 (Nat.le_refl _)
      clear hb4 CP HO3 HOW
      have HO5 : Hid ((w4.alloc (.cells #[(Value.int .i64) pb] 3)).ownsRow w.heap.size 3 1 u5 l.length (l.map (Value.int .i64))) := HO4.out.alloc _
      have HS5 : Hid (w.heap.size ≤ (w4.alloc (.cells #[(Value.int .i64) pb] 3)).heap.size) := by show _ ≤ _; have := HB4.out.size; simp; omega
      have HCC : Hid ((w4.alloc (.cells #[(Value.int .i64) pb] 3)).cell? ⟨w4.heap.size, 0, none⟩ = some ((Value.int .i64) pb)) := by show _ = _; rw [cell_of_row _ _ _ _ _ _ (heap_alloc_new w4 _)]; rfl
      go_wp2_with (at_builtin; refine wpList_append_intZ _ rfl (.tmp 14) (.tmp 18) rfl w.heap.size _ l.length l rfl HO5.out HS5.out w4.heap.size pb rfl HCC.out (by omega) ?_)
      intro v6 w6 hown6 hb6
      have HN : Hid _ := And.intro hown6 ((HB4.out.alloc HB4.out.size _).trans hb6)
      clear hown6 hb6
      go_wp2
      go_roundw
      case rel => exact ⟨i + 1, by go_num, by omega, by rw [HSU.out, List.length_append, List.map_append]; exact HN.out.1, HN.out.2⟩
      case measure => simp [intOf]; omega
    · have hltz : ¬ (i : Int) < (n : Int) := by omega
      obtain rfl : i = n := by omega
      have HO : Hid _ := And.intro hown hbel
      have HAL : Hid (askd p ts i = ts.map p ∧ (askd p ts i).length = i) := ⟨by rw [← HE.out.1]; exact askd_all p ts, askd_len p ts i⟩
      clear hown hbel
      go_wp2
      go_ret
      exact ⟨u5, rfl, by have h1 := HO.out.1; rw [HAL.out.2, HAL.out.1, List.map_map] at h1; exact h1, HO.out.2⟩
set_option maxRecDepth 100000 in
set_option maxHeartbeats 8000000 in
theorem askedS_any (q : FuncId) (p : Tb → ByteArray) (he : ∀ args w, (callFunc q args).run Try.prog w = .ok (.enter q args) w) (ao : Option Addr) (n c : Nat) (ts : List Tb) (w : World) (hE : TabsV w ao n ts) (hn : n ≤ 1000)
    (hP : ∀ (x : Tb) W, Calls Try.prog q #[.agg (encT x).toArray] W fun e w' => e = .returned (Value.string (p x)) ∧ Below W.heap.size W w') :
    Calls Try.prog 28 #[.slice ao n c, .func (.func q) #[] #[]] w fun e w' => ∃ v, e = .returned v ∧ w'.ownsRow w.heap.size 9 1 v n ((ts.map p).map Value.string) ∧ Below w.heap.size w w' := by
  have HE : Hid _ := hE
  have HP : Hid _ := hP
  clear hE hP
  go_enter Try.func28, Try.ntmps28
  go_wp2
  go_loopw [5, 7, 10] (fun o _ x wr => ∃ i : Nat, x = .int .i64 i ∧ i ≤ n ∧ wr.ownsRow w.heap.size 9 1 o (askd p ts i).length ((askd p ts i).map Value.string) ∧ Below w.heap.size w wr) (fun _ _ x _ => n - (intOf x).toNat)
  case atStart => exact ⟨0, rfl, by omega, World.ownsRow_nil _ _ _ _, Below.refl _ _⟩
  case round =>
    obtain ⟨i, rfl, hin, hown, hbel⟩ := hrel
    by_cases hlt : i < n
    · have hltz : (i : Int) < (n : Int) := by omega
      obtain ⟨b, off, hao, hEn⟩ := HE.out.2 (by omega)
      have hln := HE.out.1
      have HRX : Hid (wr.rangeAt b (off + i * 36) (encT (ts.getD i zT))) := tabs_range (hEn.below hbel (Nat.le_refl _)) i (by omega) rfl
      have HSU : Hid _ := askd_succ p ts i
      obtain ⟨x, HX⟩ : ∃ x, Hid (ts.getD i zT = x) := ⟨_, rfl⟩
      rw [HX.out] at HRX HSU
      have CP : Hid (∀ W, Calls Try.prog q #[.agg (encT x).toArray] W fun e w' => e = .returned (Value.string (p x)) ∧ Below W.heap.size W w') := fun W => HP.out x W
      obtain ⟨pb, HPB⟩ : ∃ y, Hid (p x = y) := ⟨_, rfl⟩
      rw [HPB.out] at CP HSU
      obtain ⟨l, HLI⟩ : ∃ l, Hid (askd p ts i = l) := ⟨_, rfl⟩
      have hl1000 : l.length ≤ 1000 := by rw [← HLI.out, askd_len]; omega
      rw [HLI.out] at hown HSU
      have HOW : Hid _ := And.intro hown hbel
      subst hao
      clear hEn hown hbel hln
      go_wp2_with (first | (refine wpList_load_mid rfl 32 (.tmp 12) rfl b (off + i * 36) rfl (encT x) _ HRX.out Try.underlying32 rfl (sizeT x) ?_) | (refine wpList_store_box _ rfl (.tmp 7) (.tmp 13) rfl wr.heap.size rfl x rfl _ (heap_alloc_new wr _) rfl ?_))
      intro w3 hbox hchg
      have HB3 : Hid (Below wr.heap.size wr w3) := (bel_alloc wr _).trans (hchg.below (Nat.le_refl _) (by simp))
      have HBX : Hid (Box w3 wr.heap.size x) := hbox
      have HBW : Hid (Below w.heap.size w w3) := HOW.out.2.trans (HB3.out.mono HOW.out.2.size)
      have HO3 : Hid (w3.ownsRow w.heap.size 9 1 u5 l.length (l.map Value.string)) := own_below HOW.out.1 HB3.out (Nat.le_refl _)
      clear hbox hchg HRX
      go_wp2_with (refine wpList_load_row rfl 32 (.tmp 7) rfl wr.heap.size rfl 32 (encT x).toArray (0, 0) _ HBX.out Try.underlying32 rfl (sizeTA _) ?_)
      refine (CP.out _).mono ?_
      rintro e w4 ⟨rfl, hb4⟩
      have HB4 : Hid (Below w.heap.size w w4) := HBW.out.trans (hb4.mono HBW.out.size)
      have HO4 : Hid (w4.ownsRow w.heap.size 9 1 u5 l.length (l.map Value.string)) := own_below HO3.out hb4 (Nat.le_refl _)
      clear hb4 CP HO3 HOW
      have HO5 : Hid ((w4.alloc (.cells #[Value.string pb] 9)).ownsRow w.heap.size 9 1 u5 l.length (l.map Value.string)) := HO4.out.alloc _
      have HS5 : Hid (w.heap.size ≤ (w4.alloc (.cells #[Value.string pb] 9)).heap.size) := by show _ ≤ _; have := HB4.out.size; simp; omega
      have HCC : Hid ((w4.alloc (.cells #[Value.string pb] 9)).cell? ⟨w4.heap.size, 0, none⟩ = some (Value.string pb)) := by show _ = _; rw [cell_of_row _ _ _ _ _ _ (heap_alloc_new w4 _)]; rfl
      go_wp2_with (at_builtin; refine wpList_append_str _ rfl (.tmp 14) (.tmp 18) rfl w.heap.size _ l.length l rfl HO5.out HS5.out w4.heap.size pb rfl HCC.out (by omega) ?_)
      intro v6 w6 hown6 hb6
      have HN : Hid _ := And.intro hown6 ((HB4.out.alloc HB4.out.size _).trans hb6)
      clear hown6 hb6
      go_wp2
      go_roundw
      case rel => exact ⟨i + 1, by go_num, by omega, by rw [HSU.out, List.length_append, List.map_append]; exact HN.out.1, HN.out.2⟩
      case measure => simp [intOf]; omega
    · have hltz : ¬ (i : Int) < (n : Int) := by omega
      obtain rfl : i = n := by omega
      have HO : Hid _ := And.intro hown hbel
      have HAL : Hid (askd p ts i = ts.map p ∧ (askd p ts i).length = i) := ⟨by rw [← HE.out.1]; exact askd_all p ts, askd_len p ts i⟩
      clear hown hbel
      go_wp2
      go_ret
      exact ⟨u5, rfl, by have h1 := HO.out.1; rw [HAL.out.2, HAL.out.1, List.map_map] at h1; exact h1, HO.out.2⟩
end Go.Proofs.Ytnkbhojflcckmaa

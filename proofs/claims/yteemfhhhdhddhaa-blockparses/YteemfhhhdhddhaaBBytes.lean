/-
  A list has a block, or not: what the law BlockBytes answers, for any arguments.
-/
import Derived.Test.YteemfhhhdhddhaaRefB2
namespace Go.Proofs.Yteemfhhhdhddhaa
open Go.RowKit Go.Sort Go.Shelf
set_option linter.unusedSectionVars false
variable [Inhabited E] [DecidableEq E]
theorem own_entsV0 {w : World} {base : Nat} {v : Value} {n : Nat} {es : List E} (h : w.ownsRow base 23 4 v n (flatE es)) (hn : es.length = n) : ∃ ao c, v = .slice ao n c ∧ EntsV w ao n es ∧ (ao = none → c = 0) := by
  by_cases hp : 0 < n
  · obtain ⟨g, c, rfl, hE, _⟩ := own_shapeE h hp
    exact ⟨_, c, rfl, ⟨hn, fun _ => ⟨g, 0, rfl, hE⟩⟩, fun h => by cases h⟩
  · obtain rfl : n = 0 := by omega
    rcases h.2 with ⟨hv, _⟩ | ⟨g, cap, cur, rfl, _⟩
    · exact ⟨none, 0, hv, ⟨hn, fun h => absurd h (by omega)⟩, fun _ => rfl⟩
    · exact ⟨_, cap, rfl, ⟨hn, fun h => absurd h (by omega)⟩, fun h => by cases h⟩
/-- 'append(own, more...)' of entries. -/
theorem wpList_append_ents {ops : Array Oper} {rest : List Oper} {o : Oper} {a : Act} {Q : Exit → Act → World → Prop} (w : World)
    (hg : o.guard = none) (s x : Operand) (hop : o.op = Op.call { callee := Callee.builtin Builtin.append, args := #[s, x], argTypes := #[35, 35] })
    (base : Nat) (v : Value) (n : Nat) (xs : List E) (hs : a.eval s = v) (hown : w.ownsRow base 23 4 v n (flatE xs)) (hbase : base ≤ w.heap.size)
    (ao : Option Addr) (m c : Nat) (ys : List E) (hx : a.eval x = .slice ao m c) (hE : EntsV w ao m ys) (h0 : ao = none → c = 0)
    (hb : n + m ≤ 1000000000000)
    (hK : ∀ v' w', w'.ownsRow base 23 4 v' (xs ++ ys).length (flatE (xs ++ ys)) → Below base w w' → wpList Try.prog ops Q rest (a.put o.dst v') w') :
    wpList Try.prog ops Q (o :: rest) a w := by
  obtain ⟨i0, hi, hz0, hz1, hz2⟩ := info_parts info23
  have hn : n = xs.length := by have := hown.1; rw [flatE_len] at this; omega
  have hml := hE.1
  cases ao with
  | none =>
    have hm : m = 0 := by
      by_cases hp : 0 < m
      · obtain ⟨b, off, h1, _⟩ := hE.2 hp; cases h1
      · omega
    obtain rfl := h0 rfl
    subst hm
    have hys : ys = [] := List.eq_nil_of_length_eq_zero hml
    subst hys
    refine wpList_append_own_none hg s x 35 hop base 23 i0 4 Try.underlying35 hi v n (flatE xs) hs hown hx ?_
    exact hK v w (by rw [List.append_nil, ← hn]; exact hown) (Below.refl _ _)
  | some ad =>
    refine wpList_append_own w hg s x 35 hop base 23 i0 _ 4 48 Try.underlying35 hi hz0 hz1 hz2 rfl (by decide) v n (flatE xs) hs hown ad m c (flatE ys) hx (by rw [flatE_len]; omega) ?_ (flatE_one ys) (by unfold maxLen; omega) (by omega) hbase ?_
    · intro j u hu
      have hp : 0 < m := by
        have := (List.getElem?_eq_some_iff.1 hu).1
        rw [flatE_len] at this; omega
      obtain ⟨b, off, h1, h2⟩ := hE.2 hp
      cases h1
      rw [Addr.add_lit]
      exact h2 j u hu
    · intro v' w' h1 h2 _
      refine hK v' w' ?_ ((Below.refl _ _).grown h2 hbase (fun k hk => (hown.lt k hk).1))
      rw [List.length_append, hml, ← hn, flatE_append]
      exact h1
set_option maxRecDepth 100000 in
set_option maxHeartbeats 1000000 in
theorem refBlock_wrong (ao : Option Addr) (n c : Nat) (es : List E) (w : World) (hE : EntsV w ao n es) (hsm : Small es) (hbig : n ≤ 1000000000000) (hf : fitB es = false) :
    Calls Try.prog 39 #[.slice ao n c] w fun e w' => e = .returned (.tuple #[.string ⟨#[]⟩, .int .i64 1]) ∧ Below w.heap.size w w' := by
  have CF := refFit_any ao n c es w hE hsm hbig
  rw [hf] at CF
  have HCF : Hid _ := CF
  clear CF hE hsm hf
  go_enter Try.func39, Try.ntmps39
  go_wp2_with fail
  refine Calls.mono HCF.out ?_
  rintro e w1 ⟨rfl, hb1⟩
  have HB : Hid _ := hb1
  clear hb1
  go_wp2
  go_ret2
  exact ⟨rfl, HB.out⟩
set_option maxRecDepth 100000 in
set_option maxHeartbeats 4000000 in
theorem bbytes_walk (ao : Option Addr) (n c : Nat) (es : List E) (w : World) (hE : EntsV w ao n es) (hsm : Small es) (hnc : n ≤ c) (hc : c ≤ 9223372036854775807) :
    Calls Try.prog 11 #[.slice ao n c] w fun e w' => e = .returned (.bool true) ∧ Below w.heap.size w w' := by
  go_enter Try.func11, Try.ntmps11
  go_wp2_with fail
  refine (shown4_any w).mono ?_
  rintro e w1 ⟨rfl, hb1⟩
  go_wp2_with fail
  refine (few4_any ao n c 70 es w1 (hE.below hb1 (Nat.le_refl _)) hsm (by omega) (by omega)).mono ?_
  rintro e w2 ⟨v2, rfl, hown2, hb2⟩
  have hl2 := fewS_len 130 1030 70 es
  have hs2 := fewS_small 130 1030 70 es hsm
  obtain ⟨fs, HF⟩ : ∃ fs, Hid (fewS 130 1030 70 es = fs) := ⟨_, rfl⟩
  rw [HF.out] at hown2 hl2 hs2
  obtain ⟨ao2, c2, rfl, hE2, h02⟩ := own_entsV0 hown2 rfl
  have hB2 : Below w.heap.size w w2 := hb1.trans (hb2.mono hb1.size)
  clear hown2 hb1 hb2 hE hsm
  obtain ⟨l, HL⟩ : ∃ l, Hid (fs.length = l) := ⟨_, rfl⟩
  have h70 : l ≤ 70 := by rw [← HL.out]; omega
  rw [HL.out] at hE2
  rw [HL.out]
  have HE2 : Hid _ := And.intro hE2 h02
  have HB2 : Hid _ := hB2
  have HS2 : Hid _ := hs2
  clear hl2 hE2 hB2 hs2 h02
  have HO2 : Hid ((w2.alloc (.cells #[] 23)).ownsRow w2.heap.size 23 4 (.slice (some ⟨w2.heap.size, 0, none⟩) 0 0) 0 (flatE [])) := World.ownsRow_made w2 #[] 0 (Nat.le_refl _) (by decide) rfl
  have HE2a : Hid (EntsV (w2.alloc (.cells #[] 23)) ao2 l fs) := EntsV.below HE2.out.1 (bel_alloc w2 _) (Nat.le_refl _)
  have HZ2 : Hid (w2.heap.size ≤ (w2.alloc (.cells #[] 23)).heap.size) := by show _ ≤ _; simp
  go_wp2_with (at_builtin; refine wpList_append_ents _ rfl (.tmp 13) (.tmp 14) rfl w2.heap.size _ 0 [] rfl HO2.out HZ2.out ao2 l c2 fs rfl HE2a.out HE2.out.2 (by omega) ?_)
  intro v3 w3 hown3 hb3
  rw [HL.out] at hown3
  obtain ⟨ao3, c3, rfl, hE3⟩ := own_entsV hown3 HL.out
  have hB3 : Below w2.heap.size w2 w3 := (bel_alloc w2 _).trans hb3
  have HE3 : Hid _ := hE3
  have HB3 : Hid _ := hB3
  clear hown3 hb3 hE3 hB3 HO2 HE2a HZ2
  have HE23 : Hid (EntsV w3 ao2 l fs) := EntsV.below HE2.out.1 HB3.out (Nat.le_refl _)
  obtain ⟨r, HR⟩ : ∃ r, Hid (fitB fs = r) := ⟨_, rfl⟩
  have hle := HB2.out.size
  have hle3 := HB3.out.size
  cases r with
  | false =>
    have HC : Hid _ := blockBytes_wrong ao3 l c3 fs w3 HE3.out HS2.out (by omega) HR.out
    go_wp2_with fail
    refine Calls.mono HC.out ?_
    rintro e w4 ⟨rfl, hb4⟩
    have HD : Hid _ := refBlock_wrong ao2 l c2 fs w4 (EntsV.below HE23.out hb4 (Nat.le_refl _)) HS2.out (by omega) HR.out
    have HB4 : Hid _ := hb4
    clear hb4 HC
    go_wp2_with fail
    refine Calls.mono HD.out ?_
    rintro e w5 ⟨rfl, hb5⟩
    have hB5 : Below w3.heap.size w3 w5 := HB4.out.trans (hb5.mono HB4.out.size)
    have CS := same_any ao3 l c3 fs ao2 l c2 fs w5 (EntsV.below HE3.out hB5 (Nat.le_refl _)) (EntsV.below HE23.out hB5 (Nat.le_refl _)) (by omega) (by omega)
    rw [decide_eq_true rfl] at CS
    have HCS : Hid _ := CS
    have HB5 : Hid _ := hB5
    clear CS hB5 hb5 HD
    go_wp2_with fail
    refine Calls.mono HCS.out ?_
    rintro e w6 ⟨rfl, hb6⟩
    have hB6 : Below w3.heap.size w3 w6 := HB5.out.trans (hb6.mono HB5.out.size)
    have HZ : Hid (Below w.heap.size w w6) := (HB2.out.trans (HB3.out.mono hle)).trans (hB6.mono (Nat.le_trans hle hle3))
    have hcv : (convert 24 9 (.slice none 0 0)).run Try.prog w6 = .ok (.string ⟨#[]⟩) w6 := str_bytes 0 (bytes_nil w6)
    clear hb6 hB6
    go_wp2
    go_ret
    exact ⟨rfl, HZ.out⟩
  | true =>
    have HC : Hid _ := blockBytes_some ao3 l c3 fs w3 HE3.out HS2.out HR.out
    go_wp2_with fail
    refine Calls.mono HC.out ?_
    rintro e w4 ⟨v4, rfl, hown4, hb4⟩
    obtain ⟨ao4, c4, rfl, hby4, -, -, -, -, -⟩ := own_bytes hown4
    have HD : Hid _ := refBlock_some ao2 l c2 fs w4 (EntsV.below HE23.out hb4 (Nat.le_refl _)) HS2.out HR.out
    have HB4 : Hid _ := And.intro hb4 hby4
    clear hb4 HC hown4 hby4
    go_wp2_with fail
    refine Calls.mono HD.out ?_
    rintro e w5 ⟨rfl, hb5⟩
    have hB5 : Below w3.heap.size w3 w5 := HB4.out.1.trans (hb5.mono HB4.out.1.size)
    have CS := same_any ao3 l c3 fs ao2 l c2 fs w5 (EntsV.below HE3.out hB5 (Nat.le_refl _)) (EntsV.below HE23.out hB5 (Nat.le_refl _)) (by omega) (by omega)
    rw [decide_eq_true rfl] at CS
    have HCS : Hid _ := CS
    have HB5 : Hid _ := And.intro hB5 hb5
    clear CS hB5 hb5 HD
    go_wp2_with fail
    refine Calls.mono HCS.out ?_
    rintro e w6 ⟨rfl, hb6⟩
    have hB6 : Below w3.heap.size w3 w6 := HB5.out.1.trans (hb6.mono HB5.out.1.size)
    have HZ : Hid (Below w.heap.size w w6) := (HB2.out.trans (HB3.out.mono hle)).trans (hB6.mono (Nat.le_trans hle hle3))
    have hby6 := bytes_kept HB4.out.2 (HB5.out.2.trans (hb6.mono HB5.out.2.size)) (Nat.le_refl _)
    have hcv : (convert 24 9 (.slice ao4 (blockB fs).length c4)).run Try.prog w6 = .ok (.string (bStr (blockB fs))) w6 := str_bytes c4 hby6
    obtain ⟨bl, HBL⟩ : ∃ b, Hid ((blockB fs).length = b) := ⟨_, rfl⟩
    rw [HBL.out] at hcv
    rw [HBL.out]
    obtain ⟨bb, HBB⟩ : ∃ b, Hid (bStr (blockB fs) = b) := ⟨_, rfl⟩
    rw [HBB.out] at hcv ⊢
    clear hb6 hB6 hby6
    go_wp2
    go_ret
    exact ⟨rfl, HZ.out⟩
end Go.Proofs.Yteemfhhhdhddhaa

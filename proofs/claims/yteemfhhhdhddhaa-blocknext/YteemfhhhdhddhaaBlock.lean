/-
  What block.Bytes answers: a contract over this translation.
-/
import Derived.Test.YteemfhhhdhddhaaPress
namespace Go.Proofs.Yteemfhhhdhddhaa
open Go.RowKit Go.Sort Go.Shelf
set_option linter.unusedSectionVars false
variable [Inhabited E] [DecidableEq E]
set_option maxRecDepth 100000 in
/-- 'append(own, more...)': where the new row lies. -/
theorem run_append_split (w : World) (base : Nat) (ty : TypeId) (v : Value) (n : Nat) (bs : List UInt8) (hown : w.ownsRow base 5 1 v n (cellsOf bs)) (hbase : base ≤ w.heap.size)
    (ad : Addr) (m c : Nat) (ms : List UInt8) (hm : Bytes w (some ad) m ms) (hp : 0 < m) (hb : n + m ≤ 140737488355328) :
    ∃ v' w', (Builtin.append_ #[24, 24] ty #[v, .slice (some ad) m c]).run Try.prog w = .ok v' w' ∧ w'.ownsRow base 5 1 v' (bs ++ ms).length (cellsOf (bs ++ ms)) ∧ w.grownBy w' v.ownBlock ∧
      (v'.ownBlock = v.ownBlock ∨ ∃ g, v'.ownBlock = some g ∧ w.heap.size ≤ g) := by
  obtain ⟨i0, hi, hz0, hz1, hz2⟩ := info_parts info5
  have hn : n = bs.length := by have := hown.1; rw [cellsOf_length] at this; omega
  have hml := hm.1
  have hnews : ∀ j u, (cellsOf ms)[j]? = some u → w.cell? (ad.add j) = some u := by
    intro j u hu
    obtain ⟨c, hc, rfl⟩ := cellsOf_at hu
    obtain ⟨y, hy, hcell⟩ := hm.2 j c hc
    cases hy
    exact hcell
  have hl : (cellsOf ms).length = m * 1 := by rw [cellsOf_length]; omega
  obtain ⟨v', w', hr, h2, h3, h4⟩ := run_append_own (P := Try.prog) w base 24 ty 5 i0 (.int .u8 0) 1 1 Try.underlying24 hi hz0 hz1 hz2 rfl (by decide) v n (cellsOf bs) hown ad m c (cellsOf ms) hl hnews (cellsOf_one ms) (by unfold maxLen; omega) (by omega) hbase
  refine ⟨v', w', hr, by rw [List.length_append, hml, ← hn, cellsOf_append]; exact h2, h3, ?_⟩
  rcases hown.2 with ⟨rfl, h0⟩ | ⟨g, cap, cur, rfl, hbg, hg, hnc, hcm, hcs, htake⟩
  · right
    have hr2 := run_append_nil (P := Try.prog) w 24 ty 5 i0 (.int .u8 0) Try.underlying24 hi hz0 ad m c (cellsOf ms) (by rw [hz1]; exact hl) hnews hp (by omega) (by rw [hz2]; omega)
    rw [hr2] at hr
    injection hr with e1 e2
    subst e1
    exact ⟨_, rfl, Nat.le_refl _⟩
  · by_cases hroom : n + m ≤ cap
    · left
      have hr2 := run_append_room (P := Try.prog) w 24 ty 5 i0 Try.underlying24 hi g n cap cur hg ad m c (cellsOf ms) (by rw [hz1]; exact hl) hnews (cellsOf_one ms) hroom (by rw [hz1, hl, hcs]; omega)
      rw [hr2] at hr
      injection hr with e1 e2
      subst e1
      rfl
    · right
      have holds : ∀ j u, (cellsOf bs)[j]? = some u → w.cell? ((⟨g, 0, none⟩ : Addr).add j) = some u := hown.cells (g := g) rfl
      have hr2 := run_append_grow (P := Try.prog) w 24 ty 5 i0 (.int .u8 0) Try.underlying24 hi hz0 ⟨g, 0, none⟩ n cap (cellsOf bs) (by rw [hz1]; exact hown.1) holds ad m c (cellsOf ms) (by rw [hz1]; exact hl) hnews (by omega) (by omega) (growslice_fits (by omega) (by rw [hz2]; omega))
      rw [hr2] at hr
      injection hr with e1 e2
      subst e1
      exact ⟨_, rfl, Nat.le_refl _⟩
theorem wpList_append_split {ops : Array Oper} {rest : List Oper} {o : Oper} {a : Act} {Q : Exit → Act → World → Prop} (w : World)
    (hg : o.guard = none) (s x : Operand) (hop : o.op = Op.call { callee := Callee.builtin Builtin.append, args := #[s, x], argTypes := #[24, 24] })
    (base : Nat) (v : Value) (n : Nat) (bs : List UInt8) (hs : a.eval s = v) (hown : w.ownsRow base 5 1 v n (cellsOf bs)) (hbase : base ≤ w.heap.size)
    (ad : Addr) (m c : Nat) (ms : List UInt8) (hx : a.eval x = .slice (some ad) m c) (hm : Bytes w (some ad) m ms) (hp : 0 < m) (hb : n + m ≤ 140737488355328)
    (hK : ∀ v' w', w'.ownsRow base 5 1 v' (bs ++ ms).length (cellsOf (bs ++ ms)) → w.grownBy w' v.ownBlock → (v'.ownBlock = v.ownBlock ∨ ∃ g, v'.ownBlock = some g ∧ w.heap.size ≤ g) → wpList Try.prog ops Q rest (a.put o.dst v') w') :
    wpList Try.prog ops Q (o :: rest) a w := by
  refine wpList_plain hg fun K hK2 => ?_
  obtain ⟨v', w', hr, h2, h3, h4⟩ := run_append_split w base o.type v n bs hown hbase ad m c ms hm hp hb
  unfold Oper.wp execOp
  simp only [hop, resolve, invoke, builtin, Sem.run_bind, Sem.run_pure, Result.andThen_ok, List.map_toArray, List.map_cons, List.map_nil, hs, hx, hr]
  exact hK2 _ _ (hK v' w' h2 h3 h4)
/-! ### what a block is -/
/-- The key ahead of the i-th entry, where it counts. -/
def aheadK (es : List E) (i : Nat) : ByteArray := if i % 8 = 0 then ⟨#[]⟩ else es[i - 1]!.key
def bodyB (es : List E) : Nat → List UInt8
  | 0 => []
  | i + 1 => bodyB es i ++ pressB (aheadK es i) es[i]!
def placesB (es : List E) : Nat → List UInt8
  | 0 => []
  | i + 1 => if i % 8 = 0 then placesB es i ++ fixB (bodyB es i).length else placesB es i
def blockB (es : List E) : List UInt8 := bodyB es es.length ++ (placesB es es.length ++ fixB ((placesB es es.length).length / 4))
def fitB (es : List E) : Bool := decide (1 ≤ es.length ∧ es.length ≤ 64) && es.all rightB && sortedB es
theorem pressB_len (ah : ByteArray) (e : E) (h : rightB e = true) : (pressB ah e).length ≤ 1300 ∧ 1 ≤ (pressB ah e).length := by
  obtain ⟨h1, h2, qn, h3, h4, h5⟩ := right_parts h
  have a1 := putB_le (comN (strB ah) (strB e.key))
  have a2 := textB_len ((strB e.key).drop (comN (strB ah) (strB e.key)))
  have a3 := textB_len (strB e.value)
  have a4 := putB_le e.seq.toNat
  rw [List.length_drop, strB_length] at a2
  rw [strB_length] at a3
  unfold pressB
  simp only [List.length_append, List.length_cons]
  refine ⟨?_, by omega⟩
  split
  · simp; omega
  · omega
theorem bodyB_len (es : List E) (hr : ∀ e ∈ es, rightB e = true) : ∀ i, i ≤ es.length → (bodyB es i).length ≤ 1300 * i
  | 0, _ => by simp [bodyB]
  | i + 1, h => by
    have h1 := bodyB_len es hr i (by omega)
    have h2 := (pressB_len (aheadK es i) es[i]! (hr _ (by rw [getElem!_pos es i (by omega)]; exact List.getElem_mem _))).1
    rw [bodyB, List.length_append]; omega
theorem placesB_len (es : List E) : ∀ i, (placesB es i).length = 4 * ((i + 7) / 8)
  | 0 => rfl
  | i + 1 => by
    have h1 := placesB_len es i
    rw [placesB]
    split
    · rw [List.length_append, h1]; simp only [fixB, List.length_cons, List.length_nil]; omega
    · rw [h1]; omega
set_option maxRecDepth 100000 in
set_option maxHeartbeats 2000000 in
theorem fit_any (ao : Option Addr) (n c : Nat) (es : List E) (w : World) (hE : EntsV w ao n es) (hsm : Small es) (hbig : n ≤ 1000000000000) :
    Calls Try.prog 57 #[.slice ao n c] w fun e w' => e = .returned (.bool (fitB es)) ∧ Below w.heap.size w w' := by
  obtain ⟨r, HR⟩ : ∃ r, Hid (fitB es = r) := ⟨_, rfl⟩
  rw [HR.out]
  have HE : Hid _ := hE
  have HS : Hid _ := hsm
  have hln := hE.1
  clear hE hsm
  by_cases h0 : n = 0
  · have hf : r = false := by rw [← HR.out]; unfold fitB; rw [decide_eq_false (by omega)]; rfl
    subst hf
    subst h0
    go_enter Try.func57, Try.ntmps57
    go_wp2
    go_ret
    exact ⟨rfl, Below.refl _ _⟩
  · have h0z : ((n : Int) == 0) = false := by simp; omega
    by_cases h64 : n ≤ 64
    · have h64z : ¬ (64 : Int) < (n : Int) := by omega
      have HLN : Hid (es.length = n) := hln
      clear hln
      go_enter Try.func57, Try.ntmps57
      go_wp2
      go_loopw [4, 15] (fun _ x wr => ∃ i : Nat, x = .int .i64 i ∧ i ≤ n ∧ Hid (∀ e ∈ es.take i, rightB e = true) ∧ Below w.heap.size w wr) (fun _ x _ => n - (intOf x).toNat)
      case atStart => exact ⟨0, rfl, by omega, (fun e he => by simp at he), Below.refl _ _⟩
      case round =>
        obtain ⟨i, rfl, hin, HA, hbel⟩ := hrel
        by_cases hlt : i < n
        · have hltz : (i : Int) < (n : Int) := by omega
          obtain ⟨b, off, hao, hEn⟩ := HE.out.2 (by omega)
          have hEr : Ents wr b off es := hEn.below hbel (Nat.le_refl _)
          obtain ⟨k0, v0, d0, q0, HX⟩ : ∃ k0 v0 d0 q0, Hid (es[i]! = E.mk k0 v0 d0 q0) := ⟨_, _, _, _, rfl⟩
          obtain ⟨c0, c1, c2, c3⟩ := ents_four hEr i (by rw [HLN.out]; omega) HX.out
          obtain ⟨s0, s1⟩ := small_at HS.out i (by rw [HLN.out]; omega) HX.out
          subst hao
          obtain ⟨y, HY⟩ : ∃ y, Hid (rightB ⟨k0, v0, d0, q0⟩ = y) := ⟨_, rfl⟩
          have CR := fun w => right_any k0 v0 d0 q0 w s0 s1
          rw [HY.out] at CR
          have HCR : Hid _ := CR
          have HB : Hid _ := hbel
          clear CR hEr hEn hbel s0 s1
          go_wp2_with fail
          refine (HCR.out _).mono ?_
          rintro e w2 ⟨rfl, hb2⟩
          have HB2 : Hid (Below w.heap.size w w2) := (HB.out.alloc HB.out.size _).trans (hb2.mono (by have := HB.out.size; simp; omega))
          clear hb2 c0 c1 c2 c3
          cases y with
          | false =>
            have hf : r = false := by
              rw [← HR.out]
              unfold fitB
              have : es.all rightB = false := by
                rw [List.all_eq_false]
                exact ⟨es[i]!, by rw [getElem!_pos es i (by rw [HLN.out]; omega)]; exact List.getElem_mem _, by rw [HX.out, HY.out]; simp⟩
              rw [this]; simp
            subst hf
            go_wp2
            go_ret
            exact ⟨rfl, HB2.out⟩
          | true =>
            go_wp2
            go_roundw
            case rel =>
              refine ⟨i + 1, by go_num, by omega, ?_, HB2.out⟩
              show ∀ e ∈ _, _
              intro e he
              rw [take_snoc es i (by rw [HLN.out]; omega), HX.out] at he
              rcases List.mem_append.1 he with he | he
              · exact HA.out e he
              · simp at he; subst he; exact HY.out
            case measure => simp [intOf]; omega
        · have hltz : ¬ (i : Int) < (n : Int) := by omega
          have HALL : Hid (es.all rightB = true) := by
            show _ = _
            rw [List.all_eq_true]
            intro e he
            exact HA.out e (by rw [List.take_of_length_le (by rw [HLN.out]; omega)]; exact he)
          have CS := fun w' hw => sorted_any ao n c es w' (EntsV.below HE.out hw (Nat.le_refl _)) hbig
          have HCS : Hid _ := CS wr hbel
          have HB : Hid _ := hbel
          clear CS hbel
          have HF : Hid (r = sortedB es) := by show _ = _; rw [← HR.out]; unfold fitB; rw [HALL.out, decide_eq_true (by rw [HLN.out]; omega)]; simp
          go_wp2_with fail
          refine Calls.mono HCS.out ?_
          rintro e w2 ⟨rfl, hb2⟩
          have HB2 : Hid _ := HB.out.trans (hb2.mono HB.out.size)
          clear hb2
          go_wp2
          go_ret
          exact ⟨by rw [HF.out]; rfl, HB2.out⟩
    · have hf : r = false := by rw [← HR.out]; unfold fitB; rw [decide_eq_false (by omega)]; rfl
      subst hf
      have h64z : (64 : Int) < (n : Int) := by omega
      go_enter Try.func57, Try.ntmps57
      go_wp2
      go_ret
      exact ⟨rfl, Below.refl _ _⟩
set_option maxRecDepth 100000 in
set_option maxHeartbeats 1000000 in
theorem foot_any (ao : Option Addr) (n cap : Nat) (bs : List UInt8) (w : World) (hn : n ≤ cap) (hcap : cap ≤ 9223372036854775807) (h0 : ao = none → cap = 0) (hb : Bytes w ao n bs) (hbig : n ≤ 100000) :
    Calls Try.prog 60 #[.slice ao n cap] w fun e w' => ∃ v', e = .returned v' ∧ w'.ownsRow w.heap.size 5 1 v' (bs ++ fixB (bs.length / 4)).length (cellsOf (bs ++ fixB (bs.length / 4))) ∧ Below w.heap.size w w' := by
  have hl := hb.1
  have HC : Hid _ := putFixed_any ao n cap bs (bs.length / 4) w hn hcap h0 hb (by omega) (by omega)
  rw [hl] at HC ⊢
  obtain ⟨q, hq⟩ : ∃ q, q = n / 4 := ⟨_, rfl⟩
  have hqz : (n : Int) / 4 = (q : Int) := by omega
  rw [← hq] at HC ⊢
  have hq2 : q ≤ 25000 := by omega
  have hqw : IntKind.u32.wrap (q : Int) = q := by rw [IntKind.wrap_u32]; omega
  clear hb hl
  have HQZ : Hid _ := hqz
  clear hqz
  go_enter Try.func60, Try.ntmps60
  go_wp2_with fail
  rw [HQZ.out]
  refine Calls.mono HC.out ?_
  rintro e w1 ⟨v1, rfl, hown, hbel⟩
  have HN : Hid _ := And.intro hown hbel
  clear hown hbel
  go_wp2
  go_ret
  exact ⟨_, rfl, HN.out.1, HN.out.2⟩
end Go.Proofs.Yteemfhhhdhddhaa

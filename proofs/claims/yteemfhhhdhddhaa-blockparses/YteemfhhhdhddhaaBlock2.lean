/-
  What block.Bytes answers: a contract over this translation.
-/
import Derived.Test.YteemfhhhdhddhaaBlock
import Derived.Deep.DeepCutAuto
namespace Go.Proofs.Yteemfhhhdhddhaa
open Go.RowKit Go.Sort Go.Shelf
set_option linter.unusedSectionVars false
variable [Inhabited E] [DecidableEq E]
/-- Bytes in a block that an append did not turn. -/
theorem bytes_grown {w w' : World} {ao : Option Addr} {n : Nat} {bs : List UInt8} {row : Option Nat} (h : Bytes w ao n bs) (hg : w.grownBy w' row) (hne : ∀ x, ao = some x → x.block < w.heap.size ∧ row ≠ some x.block) : Bytes w' ao n bs := by
  refine ⟨h.1, fun i c hi => ?_⟩
  obtain ⟨x, hx, hc⟩ := h.2 i c hi
  refine ⟨x, hx, ?_⟩
  obtain ⟨h1, h2⟩ := hne x hx
  rw [← hc]
  have hb : (x.add i).block = x.block := by unfold Addr.add; split <;> rfl
  exact World.cell?_of_block (by rw [hb]; exact hg.block x.block h1 (fun e => h2 e.symm))
theorem own_block {w : World} {base n : Nat} {v : Value} {bs : List UInt8} (h : w.ownsRow base 5 1 v n (cellsOf bs)) : ∀ k, v.ownBlock = some k → base ≤ k ∧ k < w.heap.size := by
  intro k hk
  obtain ⟨ao, cap, rfl, _, _, _, _, _, hx⟩ := own_bytes h
  cases ao with
  | none => cases hk
  | some x => cases hk; exact hx x rfl
theorem take_right {es : List E} (h : es.all rightB = true) (i : Nat) (hi : i < es.length) : rightB es[i]! = true := by
  rw [List.all_eq_true] at h
  exact h _ (by rw [getElem!_pos es i hi]; exact List.getElem_mem hi)
def lastK (es : List E) (i : Nat) : ByteArray := if i = 0 then ⟨#[]⟩ else es[i - 1]!.key
set_option maxRecDepth 100000 in
set_option maxHeartbeats 4000000 in
theorem blockBytes_some (ao : Option Addr) (n c : Nat) (es : List E) (w : World) (hE : EntsV w ao n es) (hsm : Small es) (hf : fitB es = true) :
    Calls Try.prog 38 #[.slice ao n c] w fun e w' => ∃ v', e = .returned (.tuple #[v', .int .i64 0]) ∧ w'.ownsRow w.heap.size 5 1 v' (blockB es).length (cellsOf (blockB es)) ∧ Below w.heap.size w w' := by
  have hfit := hf
  unfold fitB at hfit
  simp only [Bool.and_eq_true, decide_eq_true_eq] at hfit
  obtain ⟨⟨⟨hn1, hn64⟩, hall⟩, hsrt⟩ := hfit
  have hln := hE.1
  have CF := fit_any ao n c es w hE hsm (by omega)
  rw [hf] at CF
  have HCF : Hid _ := CF
  have HE : Hid _ := hE
  have HALL : Hid _ := hall
  have HLN : Hid (es.length = n) := hln
  rw [hln] at hn1 hn64
  have hbody := bodyB_len es (fun e he => by rw [List.all_eq_true] at hall; exact hall e he)
  have HBODY : Hid _ := hbody
  obtain ⟨out, HOUT⟩ : ∃ out, Hid (blockB es = out) := ⟨_, rfl⟩
  rw [HOUT.out]
  clear CF hE hsm hall hsrt hf hbody hln
  go_enter Try.func38, Try.ntmps38
  go_wp2_with fail
  refine Calls.mono HCF.out ?_
  rintro e w1 ⟨rfl, hb1⟩
  have HB1 : Hid _ := hb1
  clear hb1 HCF
  go_wp2
  go_loopw [4, 5, 6, 7, 8, 14] (fun s4 s5 s6 _ _ x wr => ∃ (i n5 c5 : Nat) (ao5 : Option Addr), x = .int .i64 i ∧ i ≤ n ∧ s6 = .string (lastK es i) ∧ wr.ownsRow w1.heap.size 5 1 s4 (bodyB es i).length (cellsOf (bodyB es i)) ∧ s5 = .slice ao5 n5 c5 ∧ n5 ≤ c5 ∧ c5 ≤ 9223372036854775807 ∧ (ao5 = none → c5 = 0) ∧ Bytes wr ao5 n5 (placesB es i) ∧ (∀ x, ao5 = some x → x.block < wr.heap.size ∧ s4.ownBlock ≠ some x.block) ∧ Below w1.heap.size w1 wr) (fun _ _ _ _ _ x _ => n - (intOf x).toNat)
  case atStart => exact ⟨0, 0, 0, none, rfl, by omega, rfl, World.ownsRow_nil _ _ _ _, rfl, by omega, by omega, fun _ => rfl, bytes_nil _, (fun _ hx => by cases hx), Below.refl _ _⟩
  case round =>
    obtain ⟨i, n5, c5, ao5, rfl, hin, rfl, hown, rfl, hn5, hc5, h05, hby5, hne5, hbel⟩ := hrel
    obtain ⟨ao4, c4, hv4, hby4, h04, hlc4, hcm4, -, hx4⟩ := own_bytes hown
    have hbl := HBODY.out i (by rw [HLN.out]; omega)
    have hpl := placesB_len es i
    have hn5l : n5 = (placesB es i).length := hby5.1.symm
    subst hv4
    have HW : Hid (wr.ownsRow w1.heap.size 5 1 (.slice ao4 (bodyB es i).length c4) (bodyB es i).length (cellsOf (bodyB es i)) ∧ Bytes wr ao5 n5 (placesB es i) ∧ (∀ x, ao5 = some x → x.block < wr.heap.size ∧ (Value.slice ao4 (bodyB es i).length c4).ownBlock ≠ some x.block) ∧ Below w1.heap.size w1 wr) := ⟨hown, hby5, hne5, hbel⟩
    have H05 : Hid (ao5 = none → c5 = 0) := h05
    have H04 : Hid (ao4 = none → c4 = 0) := h04
    clear hown hby5 hne5 hbel hby4 hx4 h05 h04
    obtain ⟨m4, HM4⟩ : ∃ m, Hid ((bodyB es i).length = m) := ⟨_, rfl⟩
    rw [HM4.out] at hbl hlc4 HW ⊢
    have hm4 : m4 ≤ 100000 := by omega
    have hn5b : n5 ≤ 100 := by rw [hn5l, hpl]; omega
    clear hpl hn5l hbl
    by_cases hlt : i < n
    · have hltz : (i : Int) < (n : Int) := by omega
      obtain ⟨b, off, hao, hEn⟩ := HE.out.2 (by omega)
      have hEr : Ents wr b off es := hEn.below (HB1.out.trans (HW.out.2.2.2.mono HB1.out.size)) (Nat.le_refl _)
      obtain ⟨k0, v0, d0, q0, HX⟩ : ∃ k0 v0 d0 q0, Hid (es[i]! = E.mk k0 v0 d0 q0) := ⟨_, _, _, _, rfl⟩
      obtain ⟨c0, c1, c2, c3⟩ := ents_four hEr i (by rw [HLN.out]; omega) HX.out
      have hri := take_right HALL.out i (by rw [HLN.out]; omega)
      rw [HX.out] at hri
      subst hao
      have hlk : (lastK es i).size ≤ 128 := by
        unfold lastK
        split
        · simp [ByteArray.size]
        · have := take_right HALL.out (i - 1) (by rw [HLN.out]; omega)
          exact (right_parts this).1
      obtain ⟨lk, HLK⟩ : ∃ s, Hid (lastK es i = s) := ⟨_, rfl⟩
      rw [HLK.out] at hlk ⊢
      have HRI : Hid _ := hri
      clear hEr hEn hri
      have hpl1 := pressB_len (aheadK es i) ⟨k0, v0, d0, q0⟩ HRI.out
      have HNL : Hid (lastK es (i + 1) = k0) := by show _ = _; unfold lastK; rw [if_neg (by omega), Nat.add_sub_cancel, HX.out]
      have HNB : Hid (bodyB es (i + 1) = bodyB es i ++ pressB (aheadK es i) ⟨k0, v0, d0, q0⟩) := by show _ = _; rw [bodyB, HX.out]
      have hwu : IntKind.u32.wrap (m4 : Int) = m4 := by rw [IntKind.wrap_u32]; omega
      have hz1 : w1.heap.size ≤ wr.heap.size := HW.out.2.2.2.size
      go_upto_if 21 with fail
      go_cut [5, 6] (fun s5 s6 wx => ∃ (ao6 : Option Addr) (n6 c6 : Nat), s5 = .slice ao6 n6 c6 ∧ s6 = .string (aheadK es i) ∧ n6 ≤ c6 ∧ c6 ≤ 9223372036854775807 ∧ Hid (ao6 = none → c6 = 0) ∧ Hid (Bytes wx ao6 n6 (placesB es (i + 1))) ∧ Hid (∀ x, ao6 = some x → x.block < wx.heap.size ∧ (Value.slice ao4 m4 c4).ownBlock ≠ some x.block) ∧ Hid (Below (wr.heap.size + 1) (wr.alloc (Obj.cells #[.string k0, .string v0, .bool d0, .int .i64 q0] 23)) wx))
      case first =>
        by_cases h8 : i % 8 = 0
        · have h8z : ((i : Int) % 8 == 0) = true := by simp; omega
          have HAK : Hid (aheadK es i = ⟨#[]⟩) := by show _ = _; unfold aheadK; rw [if_pos h8]
          have HPL : Hid (placesB es (i + 1) = placesB es i ++ fixB m4) := by show _ = _; rw [placesB, if_pos h8, HM4.out]
          rw [h8z]
          go_wp2_with fail
          refine (putFixed_any ao5 n5 c5 (placesB es i) m4 _ hn5 hc5 H05.out (bytes_kept HW.out.2.1 (bel_alloc wr _) (Nat.le_refl _)) (by omega) (by omega)).mono ?_
          rintro e w2 ⟨v2, rfl, hown2, hb2⟩
          obtain ⟨n6, HN6⟩ : ∃ n, Hid ((placesB es i ++ fixB m4).length = n) := ⟨_, rfl⟩
          rw [HN6.out] at hown2
          obtain ⟨ao6, c6, rfl, hby6, h06, hlc6, hcm6, -, hx6⟩ := own_bytes hown2
          have HN : Hid (Bytes w2 ao6 n6 (placesB es i ++ fixB m4) ∧ (ao6 = none → c6 = 0) ∧ (∀ x, ao6 = some x → x.block < w2.heap.size ∧ (Value.slice ao4 m4 c4).ownBlock ≠ some x.block) ∧ Below (wr.heap.size + 1) (wr.alloc (Obj.cells #[.string k0, .string v0, .bool d0, .int .i64 q0] 23)) w2) := by
            refine ⟨hby6, h06, fun x hx => ⟨(hx6 x hx).2, fun hk => ?_⟩, by simpa using hb2⟩
            have h1 := (hx6 x hx).1
            have h2 := (own_block HW.out.1 _ hk).2
            simp at h1
            omega
          unfold maxLen at hcm6
          clear hown2 hb2 hby6 h06 hx6
          go_wp2
          go_meet
          case rel => exact ⟨ao6, _, c6, rfl, by rw [HAK.out], hlc6, by omega, HN.out.2.1, (by show Bytes _ _ _ _; rw [HPL.out]; exact HN.out.1), HN.out.2.2.1, HN.out.2.2.2⟩
        · have h8z : ((i : Int) % 8 == 0) = false := by simp; omega
          have HAK : Hid (aheadK es i = lk) := by
            show _ = _
            rw [← HLK.out]
            unfold aheadK lastK
            rw [if_neg h8, if_neg (by omega)]
          have HPL : Hid (placesB es (i + 1) = placesB es i) := by show _ = _; rw [placesB, if_neg h8]
          rw [h8z]
          go_wp2
          go_meet
          case rel => exact ⟨ao5, n5, c5, rfl, by rw [HAK.out], hn5, hc5, H05, (by show Bytes _ _ _ _; rw [HPL.out]; exact bytes_kept HW.out.2.1 (bel_alloc wr _) (Nat.le_refl _)), (fun x hx => by have := HW.out.2.2.1 x hx; exact ⟨by simp; omega, this.2⟩), Below.refl _ _⟩
      case rest =>
        obtain ⟨ao6, n6, c6, rfl, rfl, hn6, hc6, H06, HBY6, HNE6, HB6⟩ := hcut
        have hah : (aheadK es i).size ≤ 128 := by
          unfold aheadK
          split
          · simp [ByteArray.size]
          · have := take_right HALL.out (i - 1) (by rw [HLN.out]; omega)
            exact (right_parts this).1
        have hblk : wc.heap[wr.heap.size]? = some (Obj.cells #[.string k0, .string v0, .bool d0, .int .i64 q0] 23) := by rw [HB6.out.block _ (by omega), heap_alloc_get, if_pos rfl]
        have e0 : wc.cell? ⟨wr.heap.size, 0, none⟩ = some (.string k0) := by rw [cell_of_row _ _ _ _ _ _ hblk]; rfl
        have e1 : wc.cell? ⟨wr.heap.size, 1, none⟩ = some (.string v0) := by rw [cell_of_row _ _ _ _ _ _ hblk]; rfl
        have e2 : wc.cell? ⟨wr.heap.size, 2, none⟩ = some (.bool d0) := by rw [cell_of_row _ _ _ _ _ _ hblk]; rfl
        have e3 : wc.cell? ⟨wr.heap.size, 3, none⟩ = some (.int .i64 q0) := by rw [cell_of_row _ _ _ _ _ _ hblk]; rfl
        have hBc : Below wr.heap.size wr wc := (bel_alloc wr _).trans (HB6.out.mono (by omega))
        have HCP : Hid _ := fun w => pressed_any (aheadK es i) k0 v0 d0 q0 w HRI.out hah
        obtain ⟨ah, HAH⟩ : ∃ s, Hid (aheadK es i = s) := ⟨_, rfl⟩
        rw [HAH.out] at HCP HNB hpl1 ⊢
        obtain ⟨pb, HPB⟩ : ∃ s, Hid (pressB ah ⟨k0, v0, d0, q0⟩ = s) := ⟨_, rfl⟩
        rw [HPB.out] at HNB hpl1
        have HBC : Hid _ := hBc
        have hszc : wr.heap.size < wc.heap.size := (Array.getElem?_eq_some_iff.1 hblk).1
        clear hblk hah hBc c0 c1 c2 c3
        go_wp2_with fail
        refine (HCP.out _).mono ?_
        rintro e w3 ⟨v3, rfl, hown3, hb3⟩
        rw [HPB.out] at hown3
        obtain ⟨g3, c3, rfl, hg3, hg3', hl3, hm3⟩ := own_shape hown3 (by omega)
        have hby3 := own_row_bytes hown3
        have f0 := bel_cell hb3 (Nat.le_refl _) e0
        have HO3 : Hid (w3.ownsRow w1.heap.size 5 1 (.slice ao4 m4 c4) m4 (cellsOf (bodyB es i))) := own_below (own_below HW.out.1 HBC.out (Nat.le_refl _)) hb3 (Nat.le_refl _)
        have HB3 : Hid (Below w1.heap.size w1 w3) := (HW.out.2.2.2.trans (HBC.out.mono hz1)).trans (hb3.mono (by omega))
        have HBY3 : Hid (Bytes w3 (some ⟨g3, 0, none⟩) pb.length pb ∧ Bytes w3 ao6 n6 (placesB es (i + 1)) ∧ (∀ x, ao6 = some x → x.block < w3.heap.size ∧ (Value.slice ao4 m4 c4).ownBlock ≠ some x.block)) := by
          refine ⟨hby3, bytes_kept HBY6.out hb3 (Nat.le_refl _), fun x hx => ?_⟩
          have := HNE6.out x hx
          exact ⟨Nat.lt_of_lt_of_le this.1 hb3.size, this.2⟩
        clear hown3 hby3 hb3 e0 e1 e2 e3
        go_wp2_with (at_builtin; refine wpList_append_split _ rfl (.tmp 27) (.tmp 30) rfl w1.heap.size _ m4 (bodyB es i) rfl HO3.out HB3.out.size ⟨g3, 0, none⟩ _ c3 pb rfl HBY3.out.1 (by omega) (by omega) ?_)
        intro v4 w4 hown4 hgr4 hsp4
        have hbel4 : Below w1.heap.size w1 w4 := HB3.out.grown hgr4 HB3.out.size (fun k hk => (own_block HO3.out k hk).1)
        have hby4 : Bytes w4 ao6 n6 (placesB es (i + 1)) := bytes_grown HBY3.out.2.1 hgr4 HBY3.out.2.2
        have hne4 : ∀ x, ao6 = some x → x.block < w4.heap.size ∧ v4.ownBlock ≠ some x.block := by
          intro x hx
          obtain ⟨h1, h2⟩ := HBY3.out.2.2 x hx
          refine ⟨Nat.lt_of_lt_of_le h1 hgr4.size, fun hk => ?_⟩
          rcases hsp4 with h3 | ⟨g, h3, h4⟩
          · rw [h3] at hk; exact h2 hk
          · rw [h3] at hk; cases hk; omega
        have f0' : w4.cell? ⟨wr.heap.size, 0, none⟩ = some (.string k0) := by
          rw [← f0]
          refine World.cell?_of_block (hgr4.block wr.heap.size (by have := HB3.out.size; omega) (fun e => ?_))
          have := (own_block HW.out.1 _ e.symm).2
          omega
        rw [← List.length_append, ← HNB.out] at hown4
        have HN : Hid (w4.ownsRow w1.heap.size 5 1 v4 (bodyB es (i + 1)).length (cellsOf (bodyB es (i + 1))) ∧ Bytes w4 ao6 n6 (placesB es (i + 1)) ∧ (∀ x, ao6 = some x → x.block < w4.heap.size ∧ v4.ownBlock ≠ some x.block) ∧ Below w1.heap.size w1 w4) := ⟨hown4, hby4, hne4, hbel4⟩
        clear hown4 hby4 hne4 hbel4 hgr4 hsp4 f0
        go_wp2
        go_roundw
        case rel => exact ⟨i + 1, n6, c6, ao6, by go_num, by omega, by rw [HNL.out], HN.out.1, rfl, hn6, hc6, H06.out, HN.out.2.1, HN.out.2.2.1, HN.out.2.2.2⟩
        case measure => simp [intOf]; omega
    · have hltz : ¬ (i : Int) < (n : Int) := by omega
      have hin2 : i = n := by omega
      subst hin2
      have HFO : Hid (out = bodyB es i ++ (placesB es i ++ fixB ((placesB es i).length / 4))) := by show _ = _; rw [← HOUT.out, blockB, HLN.out]
      go_wp2_with fail
      refine (foot_any ao5 n5 c5 (placesB es i) wr hn5 hc5 H05.out HW.out.2.1 (by omega)).mono ?_
      rintro e w3 ⟨v3, rfl, hown3, hb3⟩
      have hp3 : 0 < (placesB es i ++ fixB ((placesB es i).length / 4)).length := by rw [List.length_append]; simp [fixB]
      have hl3 : (placesB es i ++ fixB ((placesB es i).length / 4)).length ≤ 104 := by rw [List.length_append, HW.out.2.1.1]; simp only [fixB, List.length_cons, List.length_nil]; omega
      obtain ⟨fb, HFB⟩ : ∃ s, Hid (placesB es i ++ fixB ((placesB es i).length / 4) = s) := ⟨_, rfl⟩
      rw [HFB.out] at hp3 hl3 hown3 HFO
      obtain ⟨fl, HFL⟩ : ∃ s, Hid (fb.length = s) := ⟨_, rfl⟩
      rw [HFL.out] at hp3 hl3 hown3
      obtain ⟨g3, c3, rfl, hg3, hg3', hlc3, hm3⟩ := own_shape hown3 hp3
      have HBY3 : Hid _ := own_row_bytes hown3
      have HO3 : Hid (w3.ownsRow w1.heap.size 5 1 (.slice ao4 m4 c4) m4 (cellsOf (bodyB es i))) := own_below HW.out.1 hb3 (Nat.le_refl _)
      have HB3 : Hid (Below w1.heap.size w1 w3) := HW.out.2.2.2.trans (hb3.mono HW.out.2.2.2.size)
      clear hown3 hb3
      go_wp2_with (at_builtin; refine wpList_append_split _ rfl (.tmp 35) (.tmp 37) rfl w1.heap.size _ m4 (bodyB es i) rfl HO3.out HB3.out.size ⟨g3, 0, none⟩ fl c3 fb rfl HBY3.out hp3 (by omega) ?_)
      intro v4 w4 hown4 hgr4 hsp4
      have hbel4 : Below w1.heap.size w1 w4 := HB3.out.grown hgr4 HB3.out.size (fun k hk => (own_block HO3.out k hk).1)
      rw [← List.length_append, ← HFO.out] at hown4
      have HN : Hid _ := And.intro (ownsRow_mono hown4 HB1.out.size) (HB1.out.trans (hbel4.mono HB1.out.size))
      clear hown4 hbel4 hgr4 hsp4 hp3 hl3
      go_wp2
      go_ret2
      exact ⟨_, rfl, HN.out.1, HN.out.2⟩
end Go.Proofs.Yteemfhhhdhddhaa

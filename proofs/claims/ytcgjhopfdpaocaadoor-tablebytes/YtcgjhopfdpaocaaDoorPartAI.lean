/-
  What block.Bytes answers: a contract over this translation. What marlstonelaw04's few and shown answer: contracts over this translation. Just what is fit has a block: what the law BlockFits answers, for any arguments. The document's answers for blocks: contracts over this translation.
-/
import Derived.Test.YtcgjhopfdpaocaaDoorPartAH
import Derived.Deep.DeepCutAuto
namespace Go.Proofs.YtcgjhopfdpaocaaDoor
open Go.RowKit Go.Sort Go.Shelf
set_option linter.unusedSectionVars false
variable [Inhabited E] [DecidableEq E]
/-- Bytes in a block that an append did not turn. -/
theorem bytes_grown {w w' : World} {ao : Option Addr} {n : Nat} {bs : List UInt8} {row : Option Nat} (h : Bytes w ao n bs) (hg : w.grownBy w' row) (hne : ∀ x, ao = some x → x.block < w.heap.size ∧ row ≠ some x.block) : Bytes w' ao n bs := by
  refine ⟨h.1, fun i c hi => ?_⟩
  obtain ⟨x, hx, hc⟩ := h.2 i c hi
  refine ⟨x, hx, ?_⟩
  obtain ⟨h1, h2⟩ := hne x hx
  rw [← hc]
  have hb : (x.add i).block = x.block := by unfold Addr.add; split <;> rfl
  exact World.cell?_of_block (by rw [hb]; exact hg.block x.block h1 (fun e => h2 e.symm))
theorem own_block {w : World} {base n : Nat} {v : Value} {bs : List UInt8} (h : w.ownsRow base 5 1 v n (cellsOf bs)) : ∀ k, v.ownBlock = some k → base ≤ k ∧ k < w.heap.size := by
  intro k hk
  obtain ⟨ao, cap, rfl, _, _, _, _, _, hx⟩ := own_bytes h
  cases ao with
  | none => cases hk
  | some x => cases hk; exact hx x rfl
theorem take_right {es : List E} (h : es.all rightB = true) (i : Nat) (hi : i < es.length) : rightB es[i]! = true := by
  rw [List.all_eq_true] at h
  exact h _ (by rw [getElem!_pos es i hi]; exact List.getElem_mem hi)
def lastK (es : List E) (i : Nat) : ByteArray := if i = 0 then ⟨#[]⟩ else es[i - 1]!.key
set_option maxRecDepth 100000 in
set_option maxHeartbeats 4000000 in
theorem blockBytes_some (ao : Option Addr) (n c : Nat) (es : List E) (w : World) (hE : EntsV w ao n es) (hsm : Small es) (hf : fitB es = true) :
    Calls Tryd.prog 29 #[.slice ao n c] w fun e w' => ∃ v', e = .returned (.tuple #[v', .int .i64 0]) ∧ w'.ownsRow w.heap.size 5 1 v' (blockB es).length (cellsOf (blockB es)) ∧ Below w.heap.size w w' := by
  have hfit := hf
  unfold fitB at hfit
  simp only [Bool.and_eq_true, decide_eq_true_eq] at hfit
  obtain ⟨⟨⟨hn1, hn64⟩, hall⟩, hsrt⟩ := hfit
  have hln := hE.1
  have CF := fit_any ao n c es w hE hsm (by omega)
  rw [hf] at CF
  have HCF : Hid _ := CF
  have HE : Hid _ := hE
  have HALL : Hid _ := hall
  have HLN : Hid (es.length = n) := hln
  rw [hln] at hn1 hn64
  have hbody := bodyB_len es (fun e he => by rw [List.all_eq_true] at hall; exact hall e he)
  have HBODY : Hid _ := hbody
  obtain ⟨out, HOUT⟩ : ∃ out, Hid (blockB es = out) := ⟨_, rfl⟩
  rw [HOUT.out]
  clear CF hE hsm hall hsrt hf hbody hln
  go_enter Tryd.func29, Tryd.ntmps29
  go_wp2_with fail
  refine Calls.mono HCF.out ?_
  rintro e w1 ⟨rfl, hb1⟩
  have HB1 : Hid _ := hb1
  clear hb1 HCF
  go_wp2
  go_loopw [4, 5, 6, 7, 8, 14] (fun s4 s5 s6 _ _ x wr => ∃ (i n5 c5 : Nat) (ao5 : Option Addr), x = .int .i64 i ∧ i ≤ n ∧ s6 = .string (lastK es i) ∧ wr.ownsRow w1.heap.size 5 1 s4 (bodyB es i).length (cellsOf (bodyB es i)) ∧ s5 = .slice ao5 n5 c5 ∧ n5 ≤ c5 ∧ c5 ≤ 9223372036854775807 ∧ (ao5 = none → c5 = 0) ∧ Bytes wr ao5 n5 (placesB es i) ∧ (∀ x, ao5 = some x → x.block < wr.heap.size ∧ s4.ownBlock ≠ some x.block) ∧ Below w1.heap.size w1 wr) (fun _ _ _ _ _ x _ => n - (intOf x).toNat)
  case atStart => exact ⟨0, 0, 0, none, rfl, by omega, rfl, World.ownsRow_nil _ _ _ _, rfl, by omega, by omega, fun _ => rfl, bytes_nil _, (fun _ hx => by cases hx), Below.refl _ _⟩
  case round =>
    obtain ⟨i, n5, c5, ao5, rfl, hin, rfl, hown, rfl, hn5, hc5, h05, hby5, hne5, hbel⟩ := hrel
    obtain ⟨ao4, c4, hv4, hby4, h04, hlc4, hcm4, -, hx4⟩ := own_bytes hown
    have hbl := HBODY.out i (by rw [HLN.out]; omega)
    have hpl := placesB_len es i
    have hn5l : n5 = (placesB es i).length := hby5.1.symm
    subst hv4
    have HW : Hid (wr.ownsRow w1.heap.size 5 1 (.slice ao4 (bodyB es i).length c4) (bodyB es i).length (cellsOf (bodyB es i)) ∧ Bytes wr ao5 n5 (placesB es i) ∧ (∀ x, ao5 = some x → x.block < wr.heap.size ∧ (Value.slice ao4 (bodyB es i).length c4).ownBlock ≠ some x.block) ∧ Below w1.heap.size w1 wr) := ⟨hown, hby5, hne5, hbel⟩
    have H05 : Hid (ao5 = none → c5 = 0) := h05
    have H04 : Hid (ao4 = none → c4 = 0) := h04
    clear hown hby5 hne5 hbel hby4 hx4 h05 h04
    obtain ⟨m4, HM4⟩ : ∃ m, Hid ((bodyB es i).length = m) := ⟨_, rfl⟩
    rw [HM4.out] at hbl hlc4 HW ⊢
    have hm4 : m4 ≤ 100000 := by omega
    have hn5b : n5 ≤ 100 := by rw [hn5l, hpl]; omega
    clear hpl hn5l hbl
    by_cases hlt : i < n
    · have hltz : (i : Int) < (n : Int) := by omega
      obtain ⟨b, off, hao, hEn⟩ := HE.out.2 (by omega)
      have hEr : Ents wr b off es := hEn.below (HB1.out.trans (HW.out.2.2.2.mono HB1.out.size)) (Nat.le_refl _)
      obtain ⟨k0, v0, d0, q0, HX⟩ : ∃ k0 v0 d0 q0, Hid (es[i]! = E.mk k0 v0 d0 q0) := ⟨_, _, _, _, rfl⟩
      obtain ⟨c0, c1, c2, c3⟩ := ents_four hEr i (by rw [HLN.out]; omega) HX.out
      have hri := take_right HALL.out i (by rw [HLN.out]; omega)
      rw [HX.out] at hri
      subst hao
      have hlk : (lastK es i).size ≤ 128 := by
        unfold lastK
        split
        · simp [ByteArray.size]
        · have := take_right HALL.out (i - 1) (by rw [HLN.out]; omega)
          exact (right_parts this).1
      obtain ⟨lk, HLK⟩ : ∃ s, Hid (lastK es i = s) := ⟨_, rfl⟩
      rw [HLK.out] at hlk ⊢
      have HRI : Hid _ := hri
      clear hEr hEn hri
      have hpl1 := pressB_len (aheadK es i) ⟨k0, v0, d0, q0⟩ HRI.out
      have HNL : Hid (lastK es (i + 1) = k0) := by show _ = _; unfold lastK; rw [if_neg (by omega), Nat.add_sub_cancel, HX.out]
      have HNB : Hid (bodyB es (i + 1) = bodyB es i ++ pressB (aheadK es i) ⟨k0, v0, d0, q0⟩) := by show _ = _; rw [bodyB, HX.out]
      have hwu : IntKind.u32.wrap (m4 : Int) = m4 := by rw [IntKind.wrap_u32]; omega
      have hz1 : w1.heap.size ≤ wr.heap.size := HW.out.2.2.2.size
      go_upto_if 21 with fail
      go_cut [5, 6] (fun s5 s6 wx => ∃ (ao6 : Option Addr) (n6 c6 : Nat), s5 = .slice ao6 n6 c6 ∧ s6 = .string (aheadK es i) ∧ n6 ≤ c6 ∧ c6 ≤ 9223372036854775807 ∧ Hid (ao6 = none → c6 = 0) ∧ Hid (Bytes wx ao6 n6 (placesB es (i + 1))) ∧ Hid (∀ x, ao6 = some x → x.block < wx.heap.size ∧ (Value.slice ao4 m4 c4).ownBlock ≠ some x.block) ∧ Hid (Below (wr.heap.size + 1) (wr.alloc (Obj.cells #[.string k0, .string v0, .bool d0, .int .i64 q0] 51)) wx))
      case first =>
        by_cases h8 : i % 8 = 0
        · have h8z : ((i : Int) % 8 == 0) = true := by simp; omega
          have HAK : Hid (aheadK es i = ⟨#[]⟩) := by show _ = _; unfold aheadK; rw [if_pos h8]
          have HPL : Hid (placesB es (i + 1) = placesB es i ++ fixB m4) := by show _ = _; rw [placesB, if_pos h8, HM4.out]
          rw [h8z]
          go_wp2_with fail
          refine (putFixed_any ao5 n5 c5 (placesB es i) m4 _ hn5 hc5 H05.out (bytes_kept HW.out.2.1 (bel_alloc wr _) (Nat.le_refl _)) (by omega) (by omega)).mono ?_
          rintro e w2 ⟨v2, rfl, hown2, hb2⟩
          obtain ⟨n6, HN6⟩ : ∃ n, Hid ((placesB es i ++ fixB m4).length = n) := ⟨_, rfl⟩
          rw [HN6.out] at hown2
          obtain ⟨ao6, c6, rfl, hby6, h06, hlc6, hcm6, -, hx6⟩ := own_bytes hown2
          have HN : Hid (Bytes w2 ao6 n6 (placesB es i ++ fixB m4) ∧ (ao6 = none → c6 = 0) ∧ (∀ x, ao6 = some x → x.block < w2.heap.size ∧ (Value.slice ao4 m4 c4).ownBlock ≠ some x.block) ∧ Below (wr.heap.size + 1) (wr.alloc (Obj.cells #[.string k0, .string v0, .bool d0, .int .i64 q0] 51)) w2) := by
            refine ⟨hby6, h06, fun x hx => ⟨(hx6 x hx).2, fun hk => ?_⟩, by simpa using hb2⟩
            have h1 := (hx6 x hx).1
            have h2 := (own_block HW.out.1 _ hk).2
            simp at h1
            omega
          unfold maxLen at hcm6
          clear hown2 hb2 hby6 h06 hx6
          go_wp2
          go_meet
          case rel => exact ⟨ao6, _, c6, rfl, by rw [HAK.out], hlc6, by omega, HN.out.2.1, (by show Bytes _ _ _ _; rw [HPL.out]; exact HN.out.1), HN.out.2.2.1, HN.out.2.2.2⟩
        · have h8z : ((i : Int) % 8 == 0) = false := by simp; omega
          have HAK : Hid (aheadK es i = lk) := by
            show _ = _
            rw [← HLK.out]
            unfold aheadK lastK
            rw [if_neg h8, if_neg (by omega)]
          have HPL : Hid (placesB es (i + 1) = placesB es i) := by show _ = _; rw [placesB, if_neg h8]
          rw [h8z]
          go_wp2
          go_meet
          case rel => exact ⟨ao5, n5, c5, rfl, by rw [HAK.out], hn5, hc5, H05, (by show Bytes _ _ _ _; rw [HPL.out]; exact bytes_kept HW.out.2.1 (bel_alloc wr _) (Nat.le_refl _)), (fun x hx => by have := HW.out.2.2.1 x hx; exact ⟨by simp; omega, this.2⟩), Below.refl _ _⟩
      case rest =>
        obtain ⟨ao6, n6, c6, rfl, rfl, hn6, hc6, H06, HBY6, HNE6, HB6⟩ := hcut
        have hah : (aheadK es i).size ≤ 128 := by
          unfold aheadK
          split
          · simp [ByteArray.size]
          · have := take_right HALL.out (i - 1) (by rw [HLN.out]; omega)
            exact (right_parts this).1
        have hblk : wc.heap[wr.heap.size]? = some (Obj.cells #[.string k0, .string v0, .bool d0, .int .i64 q0] 51) := by rw [HB6.out.block _ (by omega), heap_alloc_get, if_pos rfl]
        have e0 : wc.cell? ⟨wr.heap.size, 0, none⟩ = some (.string k0) := by rw [cell_of_row _ _ _ _ _ _ hblk]; rfl
        have e1 : wc.cell? ⟨wr.heap.size, 1, none⟩ = some (.string v0) := by rw [cell_of_row _ _ _ _ _ _ hblk]; rfl
        have e2 : wc.cell? ⟨wr.heap.size, 2, none⟩ = some (.bool d0) := by rw [cell_of_row _ _ _ _ _ _ hblk]; rfl
        have e3 : wc.cell? ⟨wr.heap.size, 3, none⟩ = some (.int .i64 q0) := by rw [cell_of_row _ _ _ _ _ _ hblk]; rfl
        have hBc : Below wr.heap.size wr wc := (bel_alloc wr _).trans (HB6.out.mono (by omega))
        have HCP : Hid _ := fun w => pressed_any (aheadK es i) k0 v0 d0 q0 w HRI.out hah
        obtain ⟨ah, HAH⟩ : ∃ s, Hid (aheadK es i = s) := ⟨_, rfl⟩
        rw [HAH.out] at HCP HNB hpl1 ⊢
        obtain ⟨pb, HPB⟩ : ∃ s, Hid (pressB ah ⟨k0, v0, d0, q0⟩ = s) := ⟨_, rfl⟩
        rw [HPB.out] at HNB hpl1
        have HBC : Hid _ := hBc
        have hszc : wr.heap.size < wc.heap.size := (Array.getElem?_eq_some_iff.1 hblk).1
        clear hblk hah hBc c0 c1 c2 c3
        go_wp2_with fail
        refine (HCP.out _).mono ?_
        rintro e w3 ⟨v3, rfl, hown3, hb3⟩
        rw [HPB.out] at hown3
        obtain ⟨g3, c3, rfl, hg3, hg3', hl3, hm3⟩ := own_shape hown3 (by omega)
        have hby3 := own_row_bytes hown3
        have f0 := bel_cell hb3 (Nat.le_refl _) e0
        have HO3 : Hid (w3.ownsRow w1.heap.size 5 1 (.slice ao4 m4 c4) m4 (cellsOf (bodyB es i))) := own_below (own_below HW.out.1 HBC.out (Nat.le_refl _)) hb3 (Nat.le_refl _)
        have HB3 : Hid (Below w1.heap.size w1 w3) := (HW.out.2.2.2.trans (HBC.out.mono hz1)).trans (hb3.mono (by omega))
        have HBY3 : Hid (Bytes w3 (some ⟨g3, 0, none⟩) pb.length pb ∧ Bytes w3 ao6 n6 (placesB es (i + 1)) ∧ (∀ x, ao6 = some x → x.block < w3.heap.size ∧ (Value.slice ao4 m4 c4).ownBlock ≠ some x.block)) := by
          refine ⟨hby3, bytes_kept HBY6.out hb3 (Nat.le_refl _), fun x hx => ?_⟩
          have := HNE6.out x hx
          exact ⟨Nat.lt_of_lt_of_le this.1 hb3.size, this.2⟩
        clear hown3 hby3 hb3 e0 e1 e2 e3
        go_wp2_with (at_builtin; refine wpList_append_split _ rfl (.tmp 27) (.tmp 30) rfl w1.heap.size _ m4 (bodyB es i) rfl HO3.out HB3.out.size ⟨g3, 0, none⟩ _ c3 pb rfl HBY3.out.1 (by omega) (by omega) ?_)
        intro v4 w4 hown4 hgr4 hsp4
        have hbel4 : Below w1.heap.size w1 w4 := HB3.out.grown hgr4 HB3.out.size (fun k hk => (own_block HO3.out k hk).1)
        have hby4 : Bytes w4 ao6 n6 (placesB es (i + 1)) := bytes_grown HBY3.out.2.1 hgr4 HBY3.out.2.2
        have hne4 : ∀ x, ao6 = some x → x.block < w4.heap.size ∧ v4.ownBlock ≠ some x.block := by
          intro x hx
          obtain ⟨h1, h2⟩ := HBY3.out.2.2 x hx
          refine ⟨Nat.lt_of_lt_of_le h1 hgr4.size, fun hk => ?_⟩
          rcases hsp4 with h3 | ⟨g, h3, h4⟩
          · rw [h3] at hk; exact h2 hk
          · rw [h3] at hk; cases hk; omega
        have f0' : w4.cell? ⟨wr.heap.size, 0, none⟩ = some (.string k0) := by
          rw [← f0]
          refine World.cell?_of_block (hgr4.block wr.heap.size (by have := HB3.out.size; omega) (fun e => ?_))
          have := (own_block HW.out.1 _ e.symm).2
          omega
        rw [← List.length_append, ← HNB.out] at hown4
        have HN : Hid (w4.ownsRow w1.heap.size 5 1 v4 (bodyB es (i + 1)).length (cellsOf (bodyB es (i + 1))) ∧ Bytes w4 ao6 n6 (placesB es (i + 1)) ∧ (∀ x, ao6 = some x → x.block < w4.heap.size ∧ v4.ownBlock ≠ some x.block) ∧ Below w1.heap.size w1 w4) := ⟨hown4, hby4, hne4, hbel4⟩
        clear hown4 hby4 hne4 hbel4 hgr4 hsp4 f0
        go_wp2
        go_roundw
        case rel => exact ⟨i + 1, n6, c6, ao6, by go_num, by omega, by rw [HNL.out], HN.out.1, rfl, hn6, hc6, H06.out, HN.out.2.1, HN.out.2.2.1, HN.out.2.2.2⟩
        case measure => simp [intOf]; omega
    · have hltz : ¬ (i : Int) < (n : Int) := by omega
      have hin2 : i = n := by omega
      subst hin2
      have HFO : Hid (out = bodyB es i ++ (placesB es i ++ fixB ((placesB es i).length / 4))) := by show _ = _; rw [← HOUT.out, blockB, HLN.out]
      go_wp2_with fail
      refine (foot_any ao5 n5 c5 (placesB es i) wr hn5 hc5 H05.out HW.out.2.1 (by omega)).mono ?_
      rintro e w3 ⟨v3, rfl, hown3, hb3⟩
      have hp3 : 0 < (placesB es i ++ fixB ((placesB es i).length / 4)).length := by rw [List.length_append]; simp [fixB]
      have hl3 : (placesB es i ++ fixB ((placesB es i).length / 4)).length ≤ 104 := by rw [List.length_append, HW.out.2.1.1]; simp only [fixB, List.length_cons, List.length_nil]; omega
      obtain ⟨fb, HFB⟩ : ∃ s, Hid (placesB es i ++ fixB ((placesB es i).length / 4) = s) := ⟨_, rfl⟩
      rw [HFB.out] at hp3 hl3 hown3 HFO
      obtain ⟨fl, HFL⟩ : ∃ s, Hid (fb.length = s) := ⟨_, rfl⟩
      rw [HFL.out] at hp3 hl3 hown3
      obtain ⟨g3, c3, rfl, hg3, hg3', hlc3, hm3⟩ := own_shape hown3 hp3
      have HBY3 : Hid _ := own_row_bytes hown3
      have HO3 : Hid (w3.ownsRow w1.heap.size 5 1 (.slice ao4 m4 c4) m4 (cellsOf (bodyB es i))) := own_below HW.out.1 hb3 (Nat.le_refl _)
      have HB3 : Hid (Below w1.heap.size w1 w3) := HW.out.2.2.2.trans (hb3.mono HW.out.2.2.2.size)
      clear hown3 hb3
      go_wp2_with (at_builtin; refine wpList_append_split _ rfl (.tmp 35) (.tmp 37) rfl w1.heap.size _ m4 (bodyB es i) rfl HO3.out HB3.out.size ⟨g3, 0, none⟩ fl c3 fb rfl HBY3.out hp3 (by omega) ?_)
      intro v4 w4 hown4 hgr4 hsp4
      have hbel4 : Below w1.heap.size w1 w4 := HB3.out.grown hgr4 HB3.out.size (fun k hk => (own_block HO3.out k hk).1)
      rw [← List.length_append, ← HFO.out] at hown4
      have HN : Hid _ := And.intro (ownsRow_mono hown4 HB1.out.size) (HB1.out.trans (hbel4.mono HB1.out.size))
      clear hown4 hbel4 hgr4 hsp4 hp3 hl3
      go_wp2
      go_ret2
      exact ⟨_, rfl, HN.out.1, HN.out.2⟩
end Go.Proofs.YtcgjhopfdpaocaaDoor
namespace Go.Proofs.YtcgjhopfdpaocaaDoor
open Go.RowKit Go.Sort Go.Shelf
set_option linter.unusedSectionVars false
variable [Inhabited E] [DecidableEq E]
set_option maxRecDepth 100000 in
set_option maxHeartbeats 1000000 in
theorem blockBytes_wrong (ao : Option Addr) (n c : Nat) (es : List E) (w : World) (hE : EntsV w ao n es) (hsm : Small es) (hbig : n ≤ 1000000000000) (hf : fitB es = false) :
    Calls Tryd.prog 29 #[.slice ao n c] w fun e w' => e = .returned (.tuple #[.slice none 0 0, .int .i64 1]) ∧ Below w.heap.size w w' := by
  have CF := fit_any ao n c es w hE hsm hbig
  rw [hf] at CF
  have HCF : Hid _ := CF
  clear CF hE hsm hf
  go_enter Tryd.func29, Tryd.ntmps29
  go_wp2_with fail
  refine Calls.mono HCF.out ?_
  rintro e w1 ⟨rfl, hb1⟩
  have HB : Hid _ := hb1
  clear hb1
  go_wp2
  go_ret2
  exact ⟨rfl, HB.out⟩
set_option maxRecDepth 100000 in
set_option maxHeartbeats 4000000 in
theorem few4_any (ao : Option Addr) (n c most : Nat) (es : List E) (w : World) (hE : EntsV w ao n es) (hsm : Small es) (hbig : n ≤ 9223372036854775807) (hmost : most ≤ 1000) :
    Calls Tryd.prog 12 #[.slice ao n c, .int .i64 most] w fun e w' => ∃ v', e = .returned v' ∧ w'.ownsRow w.heap.size 51 4 v' (fewS 130 1030 most es).length (flatE (fewS 130 1030 most es)) ∧ Below w.heap.size w w' := by
  obtain ⟨i0, hi, hz0, hz1, hz2⟩ := info_parts info23
  have HE : Hid _ := hE
  clear hE
  go_enter Tryd.func12, Tryd.ntmps12
  go_wp2
  go_loopw [5, 6, 7] (fun o x _ wr => ∃ i : Nat, x = .int .i64 i ∧ i ≤ n ∧ i ≤ most ∧ wr.ownsRow w.heap.size 51 4 o (fewS 130 1030 i es).length (flatE (fewS 130 1030 i es)) ∧ Below w.heap.size w wr) (fun _ x _ _ => n - (intOf x).toNat)
  case atStart => exact ⟨0, rfl, by omega, by omega, World.ownsRow_nil _ _ _ _, Below.refl _ _⟩
  case round =>
    obtain ⟨i, rfl, hin, him, hown, hbel⟩ := hrel
    by_cases hlt : i < n
    · have hltz : (i : Int) < (n : Int) := by omega
      by_cases hlm : i < most
      · have hlmz : (i : Int) < (most : Int) := by omega
        obtain ⟨b, off, hao, hEn⟩ := HE.out.2 (by omega)
        have hln := HE.out.1
        have hEr : Ents wr b off es := hEn.below hbel (Nat.le_refl _)
        obtain ⟨k0, v0, d0, q0, HX⟩ : ∃ k0 v0 d0 q0, Hid (es[i]! = E.mk k0 v0 d0 q0) := ⟨_, _, _, _, rfl⟩
        obtain ⟨c0, c1, c2, c3⟩ := ents_four hEr i (by omega) HX.out
        obtain ⟨s0, s1⟩ := small_at hsm i (by omega) HX.out
        subst hao
        obtain ⟨m1, hm1⟩ : ∃ m, m = min k0.size 130 := ⟨_, rfl⟩
        obtain ⟨m2, hm2⟩ : ∃ m, m = min v0.size 1030 := ⟨_, rfl⟩
        have hz3 : min ((k0.size : Nat) : Int) 130 = (m1 : Int) := by omega
        have hz4 : min ((v0.size : Nat) : Int) 1030 = (m2 : Int) := by omega
        have hl1 : (m1 : Int) ≤ (k0.size : Int) := by omega
        have hl2 : (m2 : Int) ≤ (v0.size : Int) := by omega
        have HY : Hid (cutE 130 1030 ⟨k0, v0, d0, q0⟩ = ⟨k0.extract 0 m1, v0.extract 0 m2, d0, q0⟩) := by show _ = _; rw [cutE, hm1, hm2]
        clear hm1 hm2
        obtain ⟨done, HD⟩ : ∃ done, Hid (fewS 130 1030 i es = done) := ⟨_, rfl⟩
        rw [HD.out] at hown
        have hlenD : done.length ≤ 1000 := by rw [← HD.out, fewS_len]; omega
        have HBO : Hid _ := And.intro hown hbel
        clear hEr hEn hown hbel hln
        obtain ⟨w5, HW5⟩ : ∃ w5, Hid (w5 = wr.alloc (Obj.cells #[.string (k0.extract 0 m1), .string (v0.extract 0 m2), .bool d0, .int .i64 q0] 51)) := ⟨_, rfl⟩
        have hb5 : Below wr.heap.size wr w5 := by rw [HW5.out]; exact bel_alloc _ _
        have hbel5 : Below w.heap.size w w5 := HBO.out.2.trans (hb5.mono HBO.out.2.size)
        have HOA : Hid ((w5.alloc (Obj.cells #[.string (k0.extract 0 m1), .string (v0.extract 0 m2), .bool d0, .int .i64 q0] 51)).ownsRow w.heap.size 51 4 u5 done.length (flatE done)) := (own_below HBO.out.1 hb5 (Nat.le_refl _)).alloc _
        have HCA : Hid (∀ j u, (encE (E.mk (k0.extract 0 m1) (v0.extract 0 m2) d0 q0))[j]? = some u → (w5.alloc (Obj.cells #[.string (k0.extract 0 m1), .string (v0.extract 0 m2), .bool d0, .int .i64 q0] 51)).cell? ((⟨w5.heap.size, 0, none⟩ : Addr).add j) = some u) := ent_laid w5 _ _ d0 q0
        have HBA : Hid (w.heap.size ≤ (w5.alloc (Obj.cells #[.string (k0.extract 0 m1), .string (v0.extract 0 m2), .bool d0, .int .i64 q0] 51)).heap.size) := by show _ ≤ _; have := hbel5.size; simp; omega
        have HB5 : Hid _ := hbel5
        clear hb5 hbel5
        rw [HW5.out] at HOA HCA HBA
        have hsz5 : (wr.alloc (Obj.cells #[.string (k0.extract 0 m1), .string (v0.extract 0 m2), .bool d0, .int .i64 q0] 51)).heap.size = wr.heap.size + 1 := by simp
        rw [hsz5] at HCA
        clear hsz5
        go_wp2_with (at_builtin; refine wpList_append_own _ rfl (.tmp 39) (.tmp 41) 22 rfl w.heap.size 51 i0 _ 4 48 Tryd.underlying22 hi hz0 hz1 hz2 rfl (by decide) _ done.length (flatE done) rfl HOA.out ⟨wr.heap.size + 1, 0, none⟩ 1 1 (encE (E.mk (k0.extract 0 m1) (v0.extract 0 m2) d0 q0)) rfl rfl HCA.out (encE_one _) (by unfold maxLen; omega) (by omega) HBA.out ?_)
        intro v' w6 hown6 hgr6 _
        have hbel6 : Below w.heap.size w w6 := (HB5.out.alloc HB5.out.size _).trans (by rw [HW5.out]; exact (Below.refl _ _).grown hgr6 HBA.out (fun k hk => (HOA.out.lt k hk).1))
        clear hgr6 HOA HCA
        have HN : Hid _ := And.intro hown6 hbel6
        clear hown6 hbel6
        go_wp2
        go_roundw
        case rel =>
          refine ⟨i + 1, by go_num, by omega, by omega, ?_, HN.out.2⟩
          rw [fewS_snoc _ _ _ _ (by rw [HE.out.1]; omega), HD.out, HX.out, HY.out, flatE_append, List.length_append]
          simpa [flatE] using HN.out.1
        case measure => simp [intOf]; omega
      · have hlmz : ¬ (i : Int) < (most : Int) := by omega
        have hi2 : i = most := by omega
        have HN : Hid _ := And.intro hown hbel
        clear hown hbel
        go_wp2
        go_ret
        exact ⟨_, rfl, by rw [← hi2]; exact HN.out.1, HN.out.2⟩
    · have hltz : ¬ (i : Int) < (n : Int) := by omega
      have HT : Hid (fewS 130 1030 most es = fewS 130 1030 i es) := fewS_all _ _ _ _ (by rw [HE.out.1]; omega) _ (by rw [HE.out.1]; omega)
      have HN : Hid _ := And.intro hown hbel
      clear hown hbel
      go_wp2
      go_ret
      exact ⟨_, rfl, by rw [HT.out]; exact HN.out.1, HN.out.2⟩
def eA1 : E := ⟨⟨#[97]⟩, ⟨#[118]⟩, false, 1⟩
def eAB : E := ⟨⟨#[97, 98]⟩, ⟨#[]⟩, true, 2⟩
theorem block_shown : blockB [eA1, eAB] = [0, 1, 97, 0, 1, 1, 118, 1, 1, 98, 1, 2, 0, 0, 0, 0, 0, 0, 0, 1] := by kernel_rfl
theorem fit_shown : fitB [eA1, eAB] = true := by decide
theorem small_shown : Small [eA1, eAB] := by
  intro e he
  simp only [List.mem_cons, List.not_mem_nil, or_false] at he
  rcases he with rfl | rfl <;> exact ⟨by decide, by decide⟩
theorem ents_two (w : World) : Ents (w.alloc (Obj.cells (flatE [eA1, eAB]).toArray 51)) w.heap.size 0 [eA1, eAB] := fun j u hu => by
  have hb : (w.alloc (Obj.cells (flatE [eA1, eAB]).toArray 51)).heap[w.heap.size]? = some (Obj.cells (flatE [eA1, eAB]).toArray 51) := by rw [heap_alloc_get, if_pos rfl]
  rw [Nat.zero_add, cell_of_row _ _ _ _ _ _ hb]
  simpa using hu
end Go.Proofs.YtcgjhopfdpaocaaDoor
namespace Go.Proofs.YtcgjhopfdpaocaaDoor
open Go.RowKit Go.Sort Go.Shelf
set_option linter.unusedSectionVars false
variable [Inhabited E] [DecidableEq E]
theorem all_snoc (es : List E) (i : Nat) (h : i < es.length) : (es.take (i + 1)).all rightB = ((es.take i).all rightB && rightB es[i]!) := by
  rw [take_snoc es i h, List.all_append]; simp
end Go.Proofs.YtcgjhopfdpaocaaDoor
namespace Go.Proofs.YtcgjhopfdpaocaaDoor
open Go.RowKit Go.Sort Go.Shelf
set_option linter.unusedSectionVars false
variable [Inhabited E] [DecidableEq E]
set_option maxRecDepth 100000 in
set_option maxHeartbeats 2000000 in
theorem refCommon_any (s t : ByteArray) (w : World) (hs : s.size ≤ 9223372036854775807) :
    Calls Tryd.prog 65 #[.string s, .string t] w fun e w' => e = .returned (.int .i64 (comN (strB s) (strB t) : Nat)) ∧ ∃ q, w' = w.drewN q := by
  obtain ⟨r, HR⟩ : ∃ r, Hid (comN (strB s) (strB t) = r) := ⟨_, rfl⟩
  rw [HR.out]
  go_enter Tryd.func65, Tryd.ntmps65
  go_wp2
  go_loopw [5] (fun x wr => ∃ k : Nat, x = .int .i64 k ∧ k ≤ s.size ∧ Hid (r = k + comN ((strB s).drop k) ((strB t).drop k)) ∧ (∃ q, wr = w.drewN q)) (fun x _ => s.size - (intOf x).toNat)
  case atStart => exact ⟨0, rfl, by omega, (by show _ = _; rw [← HR.out]; simp), 0, rfl⟩
  case round =>
    obtain ⟨k, rfl, hks, HK, hbel⟩ := hrel
    have HB : Hid _ := hbel
    clear hbel
    by_cases h1 : k < s.size
    · have h1z : (k : Int) < (s.size : Int) := by omega
      have d1 : decide ((k : Int) < (s.size : Int)) = true := decide_eq_true h1z
      by_cases h2 : k < t.size
      · have h2z : (k : Int) < (t.size : Int) := by omega
        have d2 : decide ((k : Int) < (t.size : Int)) = true := decide_eq_true h2z
        have hst := comN_step (strB s) (strB t) k (by rw [strB_length]; exact h1) (by rw [strB_length]; exact h2)
        rw [strB_at s k h1, strB_at t k h2] at hst
        by_cases h3 : s[k] = t[k]
        · have e3 : ((s[k].toNat : Int) == (t[k].toNat : Int)) = true := by simp [h3]
          have HZ : Hid (r = (k + 1) + comN ((strB s).drop (k + 1)) ((strB t).drop (k + 1))) := by show _ = _; rw [HK.out, hst, if_pos h3]; omega
          clear hst h3
          go_wp2_with fail
          go_quiet (fail)
          go_wp2
          go_roundw
          case rel => exact ⟨k + 1, by go_num, by omega, HZ, by obtain ⟨q0, hq0⟩ := HB.out; exact ⟨q0 + nq, by rw [hq0, World.drewN_drewN]⟩⟩
          case measure => simp [intOf]; omega
        · have e3 : ((s[k].toNat : Int) == (t[k].toNat : Int)) = false := by
            simp only [beq_eq_false_iff_ne, ne_eq]
            intro h
            exact h3 (UInt8.toNat_inj.1 (by omega))
          have HZ : Hid (r = k) := by show _ = _; rw [HK.out, hst, if_neg h3]; rfl
          clear hst h3
          go_wp2_with fail
          go_quiet (fail)
          go_wp2
          go_ret
          exact ⟨by rw [HZ.out]; rfl, by obtain ⟨q0, hq0⟩ := HB.out; exact ⟨q0 + nq, by rw [hq0, World.drewN_drewN]⟩⟩
      · have d2 : decide ((k : Int) < (t.size : Int)) = false := decide_eq_false (by omega)
        have h2z : ¬ (k : Int) < (t.size : Int) := by omega
        have HZ : Hid (r = k) := by show _ = _; rw [HK.out, comN_end _ _ _ (.inr (by rw [strB_length]; omega))]; rfl
        go_wp2_with fail
        go_quiet (fail)
        go_wp2
        go_ret
        exact ⟨by rw [HZ.out]; rfl, by obtain ⟨q0, hq0⟩ := HB.out; exact ⟨q0 + nq, by rw [hq0, World.drewN_drewN]⟩⟩
    · have d1 : decide ((k : Int) < (s.size : Int)) = false := decide_eq_false (by omega)
      have h1z : ¬ (k : Int) < (s.size : Int) := by omega
      have HZ : Hid (r = k) := by show _ = _; rw [HK.out, comN_end _ _ _ (.inl (by rw [strB_length]; omega))]; rfl
      go_wp2_with fail
      go_quiet (fail)
      go_wp2
      go_ret
      exact ⟨by rw [HZ.out]; rfl, by obtain ⟨q0, hq0⟩ := HB.out; exact ⟨q0 + nq, by rw [hq0, World.drewN_drewN]⟩⟩
set_option maxRecDepth 100000 in
set_option maxHeartbeats 2000000 in
theorem refSorted_any (ao : Option Addr) (n c : Nat) (es : List E) (w : World) (hE : EntsV w ao n es) (hbig : n ≤ 1000000000000) :
    Calls Tryd.prog 63 #[.slice ao n c] w fun e w' => e = .returned (.bool (sortedB es)) ∧ Below w.heap.size w w' := by
  have HE : Hid _ := hE
  clear hE
  go_enter Tryd.func63, Tryd.ntmps63
  go_wp2
  go_loopw [3] (fun x wr => ∃ i : Nat, x = .int .i64 (i + 1 : Nat) ∧ (i = 0 ∨ i + 1 ≤ n) ∧ Hid (∀ j, j < i → j + 1 < es.length → cmpS es[j]!.key es[j + 1]!.key < 0) ∧ Below w.heap.size w wr) (fun x _ => n - (intOf x).toNat)
  case atStart => exact ⟨0, rfl, .inl rfl, (fun j h => absurd h (by omega)), Below.refl _ _⟩
  case round =>
    obtain ⟨i, rfl, hin, HS, hbel⟩ := hrel
    by_cases hlt : i + 1 < n
    · have hltz : (i : Int) + 1 < (n : Int) := by omega
      obtain ⟨b, off, hao, hEn⟩ := HE.out.2 (by omega)
      have hln := HE.out.1
      have hEr : Ents wr b off es := hEn.below hbel (Nat.le_refl _)
      obtain ⟨k0, v0, d0, q0, HX⟩ : ∃ k0 v0 d0 q0, Hid (es[i]! = E.mk k0 v0 d0 q0) := ⟨_, _, _, _, rfl⟩
      obtain ⟨k1, v1, d1, q1, HY⟩ : ∃ k0 v0 d0 q0, Hid (es[i + 1]! = E.mk k0 v0 d0 q0) := ⟨_, _, _, _, rfl⟩
      obtain ⟨c0, -, -, -⟩ := ents_four hEr i (by omega) HX.out
      obtain ⟨c1, -, -, -⟩ := ents_four hEr (i + 1) (by omega) HY.out
      subst hao
      have HB : Hid _ := hbel
      clear hEr hEn hbel hin
      have HLN : Hid _ := hln
      clear hln
      have e1 := less_cmpS k0 k1
      by_cases h1 : cmpS k0 k1 < 0
      · have e1' : Op.bytesLess k0.toList k1.toList = true := by rw [e1]; exact decide_eq_true h1
        clear e1
        go_wp2_with fail
        go_quiet (fail)
        go_wp2
        go_roundw
        case rel =>
          refine ⟨i + 1, by go_num, .inr (by omega), (fun j hj hj2 => ?_), bel_drewN HB.out nq⟩
          by_cases e : j = i
          · subst e; rw [HX.out, HY.out]; exact h1
          · exact HS.out j (by omega) hj2
        case measure => simp [intOf]; omega
      · have hf : Hid (sortedB es = false) := by
          show _ = _
          cases hh : sortedB es with
          | false => rfl
          | true =>
            have := (sortedB_at es).1 hh i (by rw [HLN.out]; omega)
            rw [HX.out, HY.out] at this
            exact absurd this h1
        have e1' : Op.bytesLess k0.toList k1.toList = false := by rw [e1]; exact decide_eq_false h1
        clear e1
        go_wp2_with fail
        go_quiet (fail)
        go_wp2
        go_ret
        exact ⟨by rw [hf.out]; rfl, bel_drewN HB.out nq⟩
    · have hltz : ¬ (i : Int) + 1 < (n : Int) := by omega
      have ht : Hid (sortedB es = true) := (sortedB_at es).2 fun j hj => HS.out j (by rw [HE.out.1] at hj; omega) hj
      go_wp2
      go_ret
      exact ⟨by rw [ht.out]; rfl, hbel⟩
set_option maxRecDepth 100000 in
set_option maxHeartbeats 2000000 in
theorem refFit_any (ao : Option Addr) (n c : Nat) (es : List E) (w : World) (hE : EntsV w ao n es) (hsm : Small es) (hbig : n ≤ 1000000000000) :
    Calls Tryd.prog 35 #[.slice ao n c] w fun e w' => e = .returned (.bool (fitB es)) ∧ Below w.heap.size w w' := by
  obtain ⟨r, HR⟩ : ∃ r, Hid (fitB es = r) := ⟨_, rfl⟩
  rw [HR.out]
  have HE : Hid _ := hE
  have HS : Hid _ := hsm
  have HLN : Hid (es.length = n) := hE.1
  clear hE hsm
  by_cases h0 : n < 1
  · have hf : r = false := by rw [← HR.out]; unfold fitB; rw [HLN.out, decide_eq_false (by omega)]; rfl
    subst hf
    have h0z : (n : Int) < 1 := by omega
    go_enter Tryd.func35, Tryd.ntmps35
    go_wp2
    go_ret
    exact ⟨rfl, Below.refl _ _⟩
  · have h0z : ¬ (n : Int) < 1 := by omega
    by_cases h64 : n ≤ 64
    · have h64z : ¬ (64 : Int) < (n : Int) := by omega
      have HCS : Hid _ := refSorted_any ao n c es w HE.out hbig
      have HF : Hid (r = (es.all rightB && sortedB es)) := by show _ = _; rw [← HR.out]; unfold fitB; rw [HLN.out, decide_eq_true (by omega)]; simp
      go_enter Tryd.func35, Tryd.ntmps35
      go_wp2_with fail
      refine Calls.mono HCS.out ?_
      rintro e w1 ⟨rfl, hb1⟩
      obtain ⟨so, HSO⟩ : ∃ b, Hid (sortedB es = b) := ⟨_, rfl⟩
      rw [HSO.out] at HF ⊢
      have HB1 : Hid _ := hb1
      clear hb1 HCS
      cases so with
      | false =>
        have hf : r = false := by rw [HF.out]; simp
        subst hf
        go_wp2
        go_ret
        exact ⟨rfl, HB1.out⟩
      | true =>
        go_wp2
        go_loopw [3, 4] (fun x _ wr => ∃ i : Nat, x = .int .i64 i ∧ i ≤ n ∧ Hid (∀ e ∈ es.take i, rightB e = true) ∧ Below w.heap.size w wr) (fun x _ _ => n - (intOf x).toNat)
        case atStart => exact ⟨0, rfl, by omega, (fun e he => by simp at he), HB1.out⟩
        case round =>
          obtain ⟨i, rfl, hin, HA, hbel⟩ := hrel
          by_cases hlt : i < n
          · have hltz : (i : Int) < (n : Int) := by omega
            obtain ⟨b, off, hao, hEn⟩ := HE.out.2 (by omega)
            have hEr : Ents wr b off es := hEn.below hbel (Nat.le_refl _)
            obtain ⟨k0, v0, d0, q0, HX⟩ : ∃ k0 v0 d0 q0, Hid (es[i]! = E.mk k0 v0 d0 q0) := ⟨_, _, _, _, rfl⟩
            obtain ⟨c0, c1, c2, c3⟩ := ents_four hEr i (by rw [HLN.out]; omega) HX.out
            obtain ⟨s0, s1⟩ := small_at HS.out i (by rw [HLN.out]; omega) HX.out
            subst hao
            obtain ⟨y, HY⟩ : ∃ y, Hid (rightB ⟨k0, v0, d0, q0⟩ = y) := ⟨_, rfl⟩
            have CR := fun w => refRight_any k0 v0 d0 q0 w s0 s1
            rw [HY.out] at CR
            have HCR : Hid _ := CR
            have HB : Hid _ := hbel
            clear CR hEr hEn hbel s0 s1
            go_wp2_with fail
            refine (HCR.out _).mono ?_
            rintro e w2 ⟨rfl, hb2⟩
            have HB2 : Hid (Below w.heap.size w w2) := HB.out.trans (hb2.mono HB.out.size)
            clear hb2 c0 c1 c2 c3
            cases y with
            | false =>
              have hf : r = false := by
                rw [HF.out]
                have : es.all rightB = false := by
                  rw [List.all_eq_false]
                  exact ⟨es[i]!, by rw [getElem!_pos es i (by rw [HLN.out]; omega)]; exact List.getElem_mem _, by rw [HX.out, HY.out]; simp⟩
                rw [this]; rfl
              subst hf
              go_wp2
              go_ret
              exact ⟨rfl, HB2.out⟩
            | true =>
              go_wp2
              go_roundw
              case rel =>
                refine ⟨i + 1, by go_num, by omega, ?_, HB2.out⟩
                show ∀ e ∈ _, _
                intro e he
                rw [take_snoc es i (by rw [HLN.out]; omega), HX.out] at he
                rcases List.mem_append.1 he with he | he
                · exact HA.out e he
                · simp at he; subst he; exact HY.out
              case measure => simp [intOf]; omega
          · have hltz : ¬ (i : Int) < (n : Int) := by omega
            have hf : r = true := by
              rw [HF.out, Bool.and_true, List.all_eq_true]
              intro e he
              exact HA.out e (by rw [List.take_of_length_le (by rw [HLN.out]; omega)]; exact he)
            subst hf
            have HB : Hid _ := hbel
            clear hbel
            go_wp2
            go_ret
            exact ⟨rfl, HB.out⟩
    · have hf : r = false := by rw [← HR.out]; unfold fitB; rw [HLN.out, decide_eq_false (by omega)]; rfl
      subst hf
      have h64z : (64 : Int) < (n : Int) := by omega
      go_enter Tryd.func35, Tryd.ntmps35
      go_wp2
      go_ret
      exact ⟨rfl, Below.refl _ _⟩
end Go.Proofs.YtcgjhopfdpaocaaDoor

/-
  The statement BlockBack, walked.
-/
import Derived.Test.YteemfhhhdhddhaaNextW
namespace Go.Proofs.Yteemfhhhdhddhaa
open Go.RowKit Go.Sort Go.Shelf
set_option linter.unusedSectionVars false
variable [Inhabited E] [DecidableEq E]
theorem par_of {l : List E} (hf : fitB l = true) {e : Ending} {w' : World} (h : ParSays (blockB l) e w') : ∃ ao c, e = .returned (.tuple #[.slice ao l.length c, .int .i64 0]) ∧ EntsV w' ao l.length l := by
  rcases h with ⟨_, hno⟩ | ⟨l0, ao, c, he, hIB, hEV, _, _⟩
  · exact absurd rfl (hno l hf)
  · obtain rfl := hIB.2.2 l hf rfl
    exact ⟨ao, c, he, hEV⟩
theorem ents_cells {w : World} {ao : Option Addr} {l p : Nat} {fs : List E} (h : EntsV w ao l fs) (hp : p < l) {k v : ByteArray} {d : Bool} {q : Int} (hx : fs[p]! = ⟨k, v, d, q⟩) (b off : Nat) (hao : ao = some ⟨b, off, none⟩) :
    w.cell? ⟨b, off + p * 4, none⟩ = some (.string k) ∧ w.cell? ⟨b, off + p * 4 + 1, none⟩ = some (.string v) ∧ w.cell? ⟨b, off + p * 4 + 2, none⟩ = some (.bool d) ∧ w.cell? ⟨b, off + p * 4 + 3, none⟩ = some (.int .i64 q) := by
  obtain ⟨b', off', h1, h2⟩ := h.2 (by omega)
  rw [hao] at h1
  cases h1
  exact ents_four h2 p (by rw [h.1]; exact hp) hx
set_option maxRecDepth 100000 in
set_option maxHeartbeats 4000000 in
theorem blockback_walk (ao : Option Addr) (n c : Nat) (es : List E) (at_ : Int) (w : World) (hE : EntsV w ao n es) (hsm : Small es) (hnc : n ≤ c) (hc : c ≤ 9223372036854775807) (ha : -9223372036854775808 ≤ at_ ∧ at_ ≤ 9223372036854775807) :
    Calls Try.prog 13 #[.slice ao n c, .int .i64 at_] w fun e w' => e = .returned (.bool true) ∧ Below w.heap.size w w' := by
  go_enter Try.func13, Try.ntmps13
  go_wp2_with fail
  refine (shown4_any w).mono ?_
  rintro e w1 ⟨rfl, hb1⟩
  go_wp2_with fail
  refine (fit4_any ao n c es w1 (hE.below hb1 (Nat.le_refl _)) hsm (by omega)).mono ?_
  rintro e w2 ⟨v2, rfl, hown2, hb2⟩
  have hl2 := fitS_len es
  have hr2 := fitS_right es
  have hf2 := fitS_fit es
  obtain ⟨fs, HF⟩ : ∃ fs, Hid (fitS es = fs) := ⟨_, rfl⟩
  rw [HF.out] at hown2 hl2 hr2 hf2
  obtain ⟨ao2, c2, rfl, hE2⟩ := own_entsV hown2 rfl
  have hB2 : Below w.heap.size w w2 := hb1.trans (hb2.mono hb1.size)
  clear hown2 hb1 hb2 hE hsm
  obtain ⟨l, HL⟩ : ∃ l, Hid (fs.length = l) := ⟨_, rfl⟩
  rw [HL.out] at hE2 hl2 hf2 ⊢
  have HE2 : Hid (EntsV w2 ao2 l fs) := hE2
  have HB2 : Hid _ := hB2
  have HR2 : Hid (fs.all rightB = true) := hr2
  clear hE2 hB2 hr2
  by_cases h0 : l = 0
  · have h0z : ((l : Int) == 0) = true := by simp; omega
    clear h0 hf2
    go_wp2
    go_ret
    exact ⟨rfl, HB2.out⟩
  · have h0z : ((l : Int) == 0) = false := by simp; omega
    have HFIT : Hid (fitB fs = true) := hf2 (by omega)
    have HC : Hid _ := blockBytes_some ao2 l c2 fs w2 HE2.out (right_small HR2.out) HFIT.out
    have HKS : Hid (Ks fs) := fit_ks HFIT.out
    have HP0 : Hid (0 < l) := Nat.pos_of_ne_zero h0
    clear hf2 h0
    go_wp2_with fail
    refine Calls.mono HC.out ?_
    rintro e w3 ⟨v3, rfl, hown3, hb3⟩
    obtain ⟨hbl, hb8⟩ := blockB_len HFIT.out
    obtain ⟨m, HM⟩ : ∃ m, Hid ((blockB fs).length = m) := ⟨_, rfl⟩
    rw [HM.out] at hown3 hbl hb8
    obtain ⟨ao3, c3, rfl, hby3, -, hlc3, hcm3, -, -⟩ := own_bytes hown3
    unfold maxLen at hcm3
    have HBY : Hid _ := hby3
    have HB3 : Hid (Below w.heap.size w w3) := HB2.out.trans (hb3.mono HB2.out.size)
    have HE3 : Hid (EntsV w3 ao2 l fs) := HE2.out.below hb3 (Nat.le_refl _)
    have HSK : Hid (∀ W key, Below w3.heap.size w3 W → Calls Try.prog 42 #[.slice ao3 m c3, .string key] W fun e w' => Below W.heap.size W w' ∧ e = .returned (seekV fs key)) := by
      intro W key hW
      refine (seek_any ao3 m c3 (blockB fs) key W (bytes_kept HBY.out hW (Nat.le_refl _)) hlc3 (by omega) (by omega)).mono ?_
      rintro e w' ⟨h1, h2⟩
      exact ⟨h1, seek_of HFIT.out h2⟩
    have HCP : Hid _ := parseb_any ao3 m c3 (blockB fs) w3 HBY.out hlc3 (by omega) (by omega)
    have hb8z : ¬ (m : Int) < 8 := by omega
    have hb8d : decide ((m : Int) < 8) = false := by simp; omega
    clear hown3 hby3 hb3 HC HBY HE2 hlc3 hcm3
    go_wp2_with fail
    refine Calls.mono HCP.out ?_
    rintro e w4 ⟨hb4, he⟩
    obtain ⟨ao4, c4, rfl, hE4⟩ := par_of HFIT.out he
    rw [HL.out] at hE4 ⊢
    have CSM := same_any ao4 l c4 fs ao2 l c2 fs w4 hE4 (HE3.out.below hb4 (Nat.le_refl _)) (by omega) (by omega)
    rw [show decide (fs = fs) = true from decide_eq_true rfl] at CSM
    have HCS : Hid _ := CSM
    have HB4 : Hid (Below w3.heap.size w3 w4) := hb4
    clear hb4 hE4 HCP CSM he
    go_wp2_with fail
    refine Calls.mono HCS.out ?_
    rintro e w5 ⟨rfl, hb5⟩
    have HB5 : Hid (Below w3.heap.size w3 w5) := HB4.out.trans (hb5.mono HB4.out.size)
    clear hb5 HCS HB4
    go_upto_if 55 with fail
    go_cut [11] (fun s11 wx => ∃ p : Nat, s11 = .int .i64 (p : Int) ∧ p < l ∧ wx = w5)
    case first =>
      by_cases h1 : 0 < at_
      · obtain ⟨k, rfl⟩ : ∃ k : Nat, at_ = (k : Int) := ⟨at_.toNat, by omega⟩
        have hl0 : ¬ (l : Int) = 0 := by have := HP0.out; omega
        have hl1 : ((l : Int) == 0) = false := h0z
        go_wp2
        go_meet
        case rel => exact ⟨k % l, by first | rfl | (simp [Int.tmod, wrap64]; done) | (congr 1; omega), Nat.mod_lt _ HP0.out, rfl⟩
      · go_wp2
        go_meet
        case rel => exact ⟨0, rfl, HP0.out, rfl⟩
    case rest =>
      obtain ⟨p, rfl, hp, rfl⟩ := hcut
      have hpz := lt_z hp
      obtain ⟨b, off, hao, -⟩ := HE3.out.2 HP0.out
      obtain ⟨k0, v0, d0, q0, HX⟩ : ∃ k0 v0 d0 q0, Hid (fs[p]! = E.mk k0 v0 d0 q0) := ⟨_, _, _, _, rfl⟩
      have HEW : Hid (∀ W, Below w3.heap.size w3 W → EntsV W ao2 l fs) := fun W hW => HE3.out.below hW (Nat.le_refl _)
      have HAO : Hid (ao2 = some ⟨b, off, none⟩) := hao
      have c0 := (ents_cells (HEW.out wc HB5.out) hp HX.out b off hao).1
      have HS1 : Hid (∀ W, Below w3.heap.size w3 W → Calls Try.prog 42 #[.slice ao3 m c3, .string k0] W fun e w' => Below W.heap.size W w' ∧ e = .returned (.tuple #[.agg #[.string k0, .string v0, .bool d0, .int .i64 q0], .bool true, .int .i64 0])) := fun W hW => by
        have h1 := HSK.out W k0 hW
        have h2 : belowN k0 fs = p := by have := below_at HKS.out p (by rw [HL.out]; exact hp); rw [HX.out] at this; exact this
        rw [seekV_in h2 (by rw [HL.out]; exact hp), HX.out] at h1
        exact h1
      have HBX : Hid (belowN (k0 ++ nul) fs = p + 1) := by have := below_next HKS.out p (by rw [HL.out]; exact hp); rw [HX.out] at this; exact this
      have HS2 : Hid (∀ W, Below w3.heap.size w3 W → Calls Try.prog 42 #[.slice ao3 m c3, .string (k0 ++ nul)] W fun e w' => Below W.heap.size W w' ∧ e = .returned (seekV fs (k0 ++ nul))) := fun W hW => HSK.out W _ hW
      have hks : ¬ (9223372036854775807 < k0.size + 1) := by
        have := (right_parts (show rightB ⟨k0, v0, d0, q0⟩ = true by rw [← HX.out]; exact take_right HR2.out p (by rw [HL.out]; exact hp))).1
        simp only at this
        omega
      have hg := guard23
      have hEQ := fun W => equal23 k0 v0 d0 q0 k0 v0 d0 q0 W
      simp only [decide_true] at hEQ
      clear HSK hb8z hb8d
      rw [hao]
      clear hao
      go_wp2_with fail
      refine (HS1.out _ HB5.out).mono ?_
      rintro e w6 ⟨hb6, rfl⟩
      have HB6 : Hid (Below w3.heap.size w3 w6) := HB5.out.trans (hb6.mono HB5.out.size)
      have c6 := fun o => bel_cell (bel_alloc w6 o) (Nat.le_refl _) (ents_cells (HEW.out w6 HB6.out) hp HX.out b off HAO.out).1
      clear hb6 c0
      go_wp2_with fail
      have HB7 : Hid (Below w3.heap.size w3 (w6.alloc (Obj.cells #[.string k0, .string v0, .bool d0, .int .i64 q0] 23))) := HB6.out.trans ((bel_alloc w6 _).mono HB6.out.size)
      refine (HS2.out _ HB7.out).mono ?_
      rintro e w8 ⟨hb8, he⟩
      have HB8 : Hid (Below w3.heap.size w3 w8) := HB7.out.trans (hb8.mono HB7.out.size)
      have hblk : w8.heap[w6.heap.size]? = some (Obj.cells #[.string k0, .string v0, .bool d0, .int .i64 q0] 23) := by rw [hb8.block _ (by simp)]; exact heap_alloc_new w6 _
      have HBK : Hid _ := hblk
      have e0 := fun o => bel_cell (a := ⟨w6.heap.size, 0, none⟩) (v := .string k0) (bel_alloc w8 o) (Nat.le_refl _) (by simp [World.cell?, HBK.out])
      have e1 := fun o => bel_cell (a := ⟨w6.heap.size, 1, none⟩) (v := .string v0) (bel_alloc w8 o) (Nat.le_refl _) (by simp [World.cell?, HBK.out])
      have e2 := fun o => bel_cell (a := ⟨w6.heap.size, 2, none⟩) (v := .bool d0) (bel_alloc w8 o) (Nat.le_refl _) (by simp [World.cell?, HBK.out])
      have e3 := fun o => bel_cell (a := ⟨w6.heap.size, 3, none⟩) (v := .int .i64 q0) (bel_alloc w8 o) (Nat.le_refl _) (by simp [World.cell?, HBK.out])
      have f0 := fun o => bel_cell (bel_alloc w8 o) (Nat.le_refl _) (ents_cells (HEW.out w8 HB8.out) hp HX.out b off HAO.out).1
      have f1 := fun o => bel_cell (bel_alloc w8 o) (Nat.le_refl _) (ents_cells (HEW.out w8 HB8.out) hp HX.out b off HAO.out).2.1
      have f2 := fun o => bel_cell (bel_alloc w8 o) (Nat.le_refl _) (ents_cells (HEW.out w8 HB8.out) hp HX.out b off HAO.out).2.2.1
      have f3 := fun o => bel_cell (bel_alloc w8 o) (Nat.le_refl _) (ents_cells (HEW.out w8 HB8.out) hp HX.out b off HAO.out).2.2.2
      clear hb8 hblk c6
      by_cases hnx : p + 1 < l
      · have hnz : (p : Int) + 1 < (l : Int) := by omega
        obtain ⟨k1, v1, d1, q1, HY⟩ : ∃ k0 v0 d0 q0, Hid (fs[p + 1]! = E.mk k0 v0 d0 q0) := ⟨_, _, _, _, rfl⟩
        obtain rfl : e = .returned (.tuple #[.agg #[.string k1, .string v1, .bool d1, .int .i64 q1], .bool true, .int .i64 0]) := by
          rw [he, seekV_in HBX.out (by rw [HL.out]; exact hnx), HY.out]; rfl
        have g0 := fun o => bel_cell (bel_alloc w8 o) (Nat.le_refl _) (ents_cells (HEW.out w8 HB8.out) hnx HY.out b off HAO.out).1
        have g1 := fun o => bel_cell (bel_alloc w8 o) (Nat.le_refl _) (ents_cells (HEW.out w8 HB8.out) hnx HY.out b off HAO.out).2.1
        have g2 := fun o => bel_cell (bel_alloc w8 o) (Nat.le_refl _) (ents_cells (HEW.out w8 HB8.out) hnx HY.out b off HAO.out).2.2.1
        have g3 := fun o => bel_cell (bel_alloc w8 o) (Nat.le_refl _) (ents_cells (HEW.out w8 HB8.out) hnx HY.out b off HAO.out).2.2.2
        have hEQ2 := fun W => equal23 k1 v1 d1 q1 k1 v1 d1 q1 W
        simp only [decide_true] at hEQ2
        go_wp2_with fail
        go_quiet (fail)
        go_wp2
        go_ret
        exact ⟨rfl, bel_drewN (HB3.out.trans ((HB8.out.trans ((bel_alloc w8 _).mono HB8.out.size)).mono HB3.out.size)) _⟩
      · have hnz : ¬ (p : Int) + 1 < (l : Int) := by omega
        have hnd : decide ((p : Int) + 1 < (l : Int)) = false := by simp; omega
        obtain rfl : e = .returned (.tuple #[.agg #[.string ByteArray.empty, .string ByteArray.empty, .bool false, .int .i64 0], .bool false, .int .i64 0]) := by
          rw [he, seekV_out (by rw [HBX.out, HL.out]; omega)]; rfl
        go_wp2_with fail
        go_quiet (fail)
        go_wp2
        go_ret
        exact ⟨rfl, bel_drewN (HB3.out.trans ((HB8.out.trans ((bel_alloc w8 _).mono HB8.out.size)).mono HB3.out.size)) _⟩
end Go.Proofs.Yteemfhhhdhddhaa

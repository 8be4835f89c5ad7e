/-
  What marlstonelaw02.SumPieces answers: a contract over this translation.
-/
import Derived.Test.YtdlkaeegcagkpaaDoorPieceLaws
namespace Go.Proofs.YtdlkaeegcagkpaaDoor
open Go.RowKit
theorem one_x (w : World) : Bytes (w.alloc (.cells #[.int .u8 120] 5 (1, 2))) (some ⟨w.heap.size, 0, none⟩) 1 [120] :=
  block_bytes (bs := [120]) (heap_alloc_new _ _)
set_option maxRecDepth 100000 in
set_option maxHeartbeats 2000000 in
theorem pieces_walk (ao : Option Addr) (len cap b off : Nat) (ps : List PP) (w : World) (hps : Pieces w b off ps) (hlen : ps.length = len) (hao : 0 < len → ao = some ⟨b, off, none⟩) (hK : WW w 0 ks) (h0 : 0 < w.heap.size) :
    Calls Tryd.prog 5 #[.slice ao len cap] w fun e w' => e = .returned (.bool true) ∧ Below w.heap.size w w' := by
  have kc := fun (w : World) (C : Array Value) (n c : Nat) => Lib.run_convert_bytes_const (P := Tryd.prog) w 22 5 C n c Tryd.underlying22 Tryd.underlying5
  have HPS : Hid (Pieces w b off ps) := hps
  have HK0 : Hid (WW w 0 ks) := hK
  have HAO : Hid (0 < len → ao = some ⟨b, off, none⟩) := hao
  have HLEN : Hid (ps.length = len) := hlen
  clear hps hao hlen
  go_enter Tryd.func5, Tryd.ntmps5
  go_wp2_with fail
  refine (shown_any _ hK h0).mono ?_
  rintro e w1 ⟨rfl, hbel1⟩
  have hs1 := hbel1.size
  have hK1 := hK.below hbel1 h0
  have hP1 := HPS.out.below hbel1 (Nat.le_refl _)
  clear hK
  go_wp2_with fail
  refine (new_any w1).mono ?_
  rintro e w2 ⟨bh, rfl, hbh1, hbh2, hH2, hbel2⟩
  have hs2 := hbel2.size
  have hK2 := hK1.below hbel2 (by omega)
  have hP2 := hP1.below hbel2 (Nat.le_refl _)
  have hbw2 : Below w.heap.size w w2 := hbel1.trans (hbel2.mono (by omega))
  clear hK1 hP1 hbel1 hbel2
  go_wp2_with fail
  refine (new_any w2).mono ?_
  rintro e w3 ⟨bg, rfl, hbg1, hbg2, hG3, hbel3⟩
  have hs3 := hbel3.size
  have hK3 := hK2.below hbel3 (by omega)
  have hP3 := hP2.below hbel3 (Nat.le_refl _)
  have hH3 := hH2.below hbel3 hbh2
  have hbw3 : Below w.heap.size w w3 := hbw2.trans (hbel3.mono (by omega))
  clear hK2 hP2 hbw2 hbel3 hH2
  generalize hq3 : w3.heap.size = q3 at *
  clear hP3
  have HH3 : Hid (HH w3 bh []) := hH3
  have HG3 : Hid (HH w3 bg []) := hG3
  have HK : Hid (∀ {w'}, Below w.heap.size w w' → WW w' 0 ks) := fun hb => HK0.out.below hb h0
  clear hH3 hG3 hK3
  generalize hn0 : w.heap.size = n0 at *
  go_wp2_with fail
  go_loopw [6, 7] (fun v t wr => ∃ (i : Nat) (a : Value), i ≤ len ∧ i ≤ 50 ∧ t = .int .i64 i ∧ a = v ∧ wr.ownsRow q3 5 1 a (allB ps i).length (cellsOf (allB ps i)) ∧ HH wr bh (allB ps i) ∧ HH wr bg (List.replicate i 120) ∧ Below n0 w wr ∧ q3 ≤ wr.heap.size) (fun _ t _ => (50 - intOf t).toNat)
  case atStart => exact ⟨0, _, by omega, by omega, rfl, rfl, ⟨rfl, .inl ⟨rfl, rfl⟩⟩, HH3.out, HG3.out, hbw3, by omega⟩
  case round =>
    clear HH3 HG3
    obtain ⟨i, a, hi, hi50, rfl, rfl, hown, hHr, hGr, hbr, hqr⟩ := hrel
    by_cases hlt : i < len ∧ i < 50
    · obtain ⟨hil, hi5⟩ := hlt
      obtain ⟨p, hp⟩ : ∃ p, ps[i]? = some p := ⟨ps[i]'(by rw [HLEN.out]; exact hil), by simp⟩
      have hil' : (i : Int) < (len : Int) := by omega
      have hi5' : (i : Int) < 50 := by omega
      have hi0 : (0 : Int) ≤ (i : Int) := by omega
      obtain rfl := HAO.out (by omega)
      obtain ⟨pao, pn, pc, pbs⟩ := p
      obtain ⟨hc1, hc2, hc3, hc4, hc5⟩ := (HPS.out.below hbr (by omega)) i _ hp
      simp only at hc1 hc2 hc3 hc4 hc5
      obtain ⟨m, hm⟩ : ∃ m, m = min pn 3000 := ⟨_, rfl⟩
      have hmin : min (pn : Int) 3000 = (m : Int) := by omega
      have hmn : m ≤ pn := by omega
      have hm3 : m ≤ 3000 := by omega
      have hby : Bytes wr pao m (pbs.take 3000) := by
        have := bytes_take hc2 m hmn
        have e : pbs.take m = pbs.take 3000 := by
          rw [hm, ← hc2.1, List.take_eq_take_iff]; omega
        rw [← e]; exact this
      have HALL : Hid (allB ps (i + 1) = allB ps i ++ pbs.take 3000) := allB_succ ps i _ hp
      have HAL : Hid ((allB ps i).length ≤ 3000 * i) := allB_length ps i
      obtain ⟨ms, hms⟩ : ∃ ms, ms = pbs.take 3000 := ⟨_, rfl⟩
      rw [← hms] at hby HALL
      have hm1 : (0 : Int) ≤ (m : Int) := by omega
      have hm2 : (m : Int) ≤ (pc : Int) := by omega
      have HBY : Hid (Bytes wr pao m ms) := hby
      have HOWN : Hid (wr.ownsRow q3 5 1 a (allB ps i).length (cellsOf (allB ps i))) := hown
      have HHR : Hid (HH wr bh (allB ps i)) := hHr
      have HGR : Hid (HH wr bg (List.replicate i 120)) := hGr
      clear hms hp hc2 hm hby hown hHr hGr
      go_wp2_with fail
      have HO0 : Hid ((wr.alloc (.cells #[] 5)).drew.ownsRow wr.heap.size 5 1 (.slice (some ⟨wr.heap.size, 0, none⟩) 0 0) 0 (cellsOf [])) := (own_empty wr).drew
      have HB0 : Hid (Bytes (wr.alloc (.cells #[] 5)).drew pao m ms) := bytes_drew1 (bytes_kept HBY.out (bel_alloc _ _) (Nat.le_refl _))
      have hblt := World.block_lt_of_cell? wr _ hc1
      have HBL : Hid (Below wr.heap.size wr (wr.alloc (.cells #[] 5)).drew) := Below.drew (bel_alloc _ _)
      refine wp_region_held_drew (S := fun w' => w'.cell? ⟨b, off + i, none⟩ = some (.slice pao pn pc)) (by kernel_rfl) hc1 (fun hHeld => ?_)
      refine wpAnyH_take (i := 1) (v := ?_) rfl (by kernel_rfl) (by kernel_rfl) (by kernel_rfl) (fun _ _ _ h => h) (Or.inl ⟨by rfl, ?_⟩) (by assumption) ?_
      rotate_left
      · (intro w hSw; (try dsimp only at hSw); go_simp; try with_reducible rfl)
      simp only [Act.put, List.getElem_toArray, List.getElem_cons_zero, List.getElem_cons_succ, List.setIfInBounds_toArray, List.set_cons_zero, List.set_cons_succ]
      refine wpAnyH_take (i := 2) (v := ?_) rfl (by kernel_rfl) (by kernel_rfl) (by kernel_rfl) (fun _ _ _ h => h) (Or.inl ⟨by rfl, ?_⟩) (by assumption) ?_
      rotate_left
      · (intro w hSw; (try dsimp only at hSw); go_simp; try with_reducible rfl)
      simp only [Act.put, List.getElem_toArray, List.getElem_cons_zero, List.getElem_cons_succ, List.setIfInBounds_toArray, List.set_cons_zero, List.set_cons_succ]
      refine wpAnyH_take (i := 3) (v := ?_) rfl (by kernel_rfl) (by kernel_rfl) (by kernel_rfl) (fun _ _ _ h => h) (Or.inl ⟨by rfl, ?_⟩) (by assumption) ?_
      rotate_left
      · (intro w hSw; (try dsimp only at hSw); go_simp; try with_reducible rfl)
      simp only [Act.put, List.getElem_toArray, List.getElem_cons_zero, List.getElem_cons_succ, List.setIfInBounds_toArray, List.set_cons_zero, List.set_cons_succ]
      refine wpAnyH_take (i := 4) (v := ?_) rfl (by kernel_rfl) (by kernel_rfl) (by kernel_rfl) (fun _ _ _ h => h) (Or.inl ⟨by rfl, ?_⟩) (by assumption) ?_
      rotate_left
      · (intro w hSw; (try dsimp only at hSw); go_simp; try with_reducible rfl)
      simp only [Act.put, List.getElem_toArray, List.getElem_cons_zero, List.getElem_cons_succ, List.setIfInBounds_toArray, List.set_cons_zero, List.set_cons_succ]
      refine wpAnyH_take (i := 5) (v := ?_) rfl (by kernel_rfl) (by kernel_rfl) (by kernel_rfl) (fun _ _ _ h => h) (Or.inl ⟨by rfl, ?_⟩) (by assumption) ?_
      rotate_left
      · (intro w hSw; (try dsimp only at hSw); go_simp; try with_reducible rfl)
      simp only [Act.put, List.getElem_toArray, List.getElem_cons_zero, List.getElem_cons_succ, List.setIfInBounds_toArray, List.set_cons_zero, List.set_cons_succ]
      refine wpAnyH_take (i := 6) (v := ?_) rfl (by kernel_rfl) (by kernel_rfl) (by kernel_rfl) (fun _ _ _ h => h) (Or.inl ⟨by rfl, ?_⟩) (by assumption) ?_
      rotate_left
      · (intro w hSw; (try dsimp only at hSw); go_simp; try with_reducible rfl)
      simp only [Act.put, List.getElem_toArray, List.getElem_cons_zero, List.getElem_cons_succ, List.setIfInBounds_toArray, List.set_cons_zero, List.set_cons_succ]
      refine wpAnyH_take (i := 7) (v := ?_) rfl (by kernel_rfl) (by kernel_rfl) (by kernel_rfl) (fun _ _ _ h => h) (Or.inl ⟨by rfl, ?_⟩) (by assumption) ?_
      rotate_left
      · (intro w hSw; (try dsimp only at hSw); go_simp; try with_reducible rfl)
      simp only [Act.put, List.getElem_toArray, List.getElem_cons_zero, List.getElem_cons_succ, List.setIfInBounds_toArray, List.set_cons_zero, List.set_cons_succ]
      refine wpAnyH_take (i := 8) (v := ?_) rfl (by kernel_rfl) (by kernel_rfl) (by kernel_rfl) (fun _ _ _ h => h) (Or.inl ⟨by rfl, ?_⟩) (by assumption) ?_
      rotate_left
      · (intro w hSw; (try dsimp only at hSw); go_simp; try with_reducible rfl)
      simp only [Act.put, List.getElem_toArray, List.getElem_cons_zero, List.getElem_cons_succ, List.setIfInBounds_toArray, List.set_cons_zero, List.set_cons_succ]
      refine wpAnyH_take (i := 9) (v := ?_) rfl (by kernel_rfl) (by kernel_rfl) (by kernel_rfl) (fun _ _ _ h => h) (Or.inl ⟨by rfl, ?_⟩) (by assumption) ?_
      rotate_left
      · (intro w hSw; (try dsimp only at hSw); go_simp; try with_reducible rfl)
      simp only [Act.put, List.getElem_toArray, List.getElem_cons_zero, List.getElem_cons_succ, List.setIfInBounds_toArray, List.set_cons_zero, List.set_cons_succ]
      refine wpAnyH_take (i := 10) (v := ?_) rfl (by kernel_rfl) (by kernel_rfl) (by kernel_rfl) (fun _ _ _ h => h) (Or.inl ⟨by rfl, ?_⟩) (by assumption) ?_
      rotate_left
      · (intro w hSw; (try dsimp only at hSw); go_simp; try with_reducible rfl)
      simp only [Act.put, List.getElem_toArray, List.getElem_cons_zero, List.getElem_cons_succ, List.setIfInBounds_toArray, List.set_cons_zero, List.set_cons_succ]
      refine wpAnyH_take (i := 11) (v := ?_) rfl (by kernel_rfl) (by kernel_rfl) (by kernel_rfl) (fun _ _ _ h => h) (Or.inl ⟨by rfl, ?_⟩) (by assumption) ?_
      rotate_left
      · (intro w hSw; (try dsimp only at hSw); go_simp; try with_reducible rfl)
      simp only [Act.put, List.getElem_toArray, List.getElem_cons_zero, List.getElem_cons_succ, List.setIfInBounds_toArray, List.set_cons_zero, List.set_cons_succ]
      refine wpAnyH_ready (rs := [0]) (by kernel_rfl) (by simp) ?_
      refine AllReadyH.cons rfl (fun K hK => ?_) ?_
      rotate_left
      · exact AllReadyH.nil
      go_simp
      refine hK.out _ _ (by rw [HBL.out.cell (p := ⟨b, off + i, none⟩) hblt]; exact hc1) (fun hHeld => ?_)
      clear hK K
      refine wpAnyH_ready (rs := [12]) (by kernel_rfl) (by simp) ?_
      refine AllReadyH.cons rfl (fun K hK => ?_) ?_
      rotate_left
      · exact AllReadyH.nil
      refine step_append_bytes _ rfl (.tmp 30) (.tmp 41) rfl wr.heap.size _ 0 [] rfl HO0.out (by simp) pao m pc ms rfl HB0.out hc5 (by omega) ?_
      intro v4 w4 hown4 hbel4
      refine hK.out _ _ (by rw [(HBL.out.trans hbel4).cell (p := ⟨b, off + i, none⟩) hblt]; exact hc1) (fun hHeld => ?_)
      clear hK K
      simp only [Act.put, List.getElem_toArray, List.getElem_cons_zero, List.getElem_cons_succ, List.setIfInBounds_toArray, List.set_cons_zero, List.set_cons_succ]
      refine wpAnyH_take (i := 13) (v := ?_) rfl (by kernel_rfl) (by kernel_rfl) (by kernel_rfl) (fun _ _ _ h => h) (Or.inl ⟨by rfl, ?_⟩) (by assumption) ?_
      rotate_left
      · (intro w hSw; (try dsimp only at hSw); go_simp; try with_reducible rfl)
      simp only [Act.put, List.getElem_toArray, List.getElem_cons_zero, List.getElem_cons_succ, List.setIfInBounds_toArray, List.set_cons_zero, List.set_cons_succ]
      refine wpAnyH_done (by kernel_rfl) ?_ _
      clear hHeld
      have hbel4' : Below wr.heap.size wr w4 := HBL.out.trans hbel4
      rw [List.nil_append, HBY.out.1] at hown4
      have hs4 := hbel4'.size
      have hownA := own_below HOWN.out hbel4' (Nat.le_refl _)
      have hH4 := HHR.out.below hbel4' (HHR.out.lt)
      have hG4 := HGR.out.below hbel4' (HGR.out.lt)
      have hbw4 : Below n0 w w4 := hbr.trans (hbel4'.mono (by omega))
      have hltA := HOWN.out.lt
      obtain ⟨bo, bc, hv4, hb4, hn4, hl4, hm4, hml4, hblk4⟩ := own_bytes hown4
      clear hml4
      subst hv4
      have hbc : bc ≤ 9223372036854775807 := by unfold maxLen at hm4; omega
      clear hbel4 hbel4' hc1 HBY HO0 HB0 HBL hbr HOWN HHR HGR hmin hc3 hc4 hc5 hm1 hm2 hmn hm4
      generalize hqr' : wr.heap.size = qr at *
      have HOA : Hid (w4.ownsRow q3 5 1 a (allB ps i).length (cellsOf (allB ps i))) := hownA
      have HB4 : Hid (Bytes w4 bo m ms) := hb4
      have HO4 : Hid (w4.ownsRow qr 5 1 (.slice bo m bc) m (cellsOf ms)) := hown4
      have HLA : Hid (∀ k, a.ownBlock = some k → q3 ≤ k ∧ k < qr) := hltA
      have HBB : Hid (∀ x, bo = some x → qr ≤ x.block ∧ x.block < w4.heap.size) := hblk4
      have HH4 : Hid (HH w4 bh (allB ps i)) := hH4
      have HG4 : Hid (HH w4 bg (List.replicate i 120)) := hG4
      clear hownA hb4 hown4 hltA hblk4 hH4 hG4
      have hAL := HAL.out
      go_wp2_with (at_builtin; refine wpList_append_at _ rfl (.tmp 43) (.tmp 44) rfl q3 a (allB ps i).length (allB ps i) rfl HOA.out (by omega) bo m bc ms rfl HB4.out hn4 (by omega) ?_)
      intro v5 w5 hown5 hgrow5 hat5
      have hs5 := hgrow5.size
      have hbg5 : ∀ x, bo = some x → some x.block ≠ a.ownBlock := fun x hx h => by have h1 := HLA.out _ h.symm; have h2 := HBB.out x hx; omega
      have hH5 := HH4.out.grown hgrow5 (fun h => by have h1 := HLA.out _ h.symm; omega)
      have hG5 := HG4.out.grown hgrow5 (fun h => by have h1 := HLA.out _ h.symm; omega)
      have hb5 := bytes_grown HB4.out hgrow5 hbg5
      have hO5 := HO4.out.kept hgrow5 (by
        cases hbo : bo with
        | none => exact .inl rfl
        | some x => exact .inr (hbg5 x hbo))
      have hbw5 : Below n0 w w5 := hbw4.grown hgrow5 (by omega) (fun k hk => by have := HLA.out k hk; omega)
      have hapart : ∀ x, bo = some x → v5.ownBlock ≠ some x.block := fun x hx h => by
        have h2 := HBB.out x hx
        rcases hat5 with h3 | h3
        · have h4 := HLA.out _ (h3.symm.trans h); omega
        · rw [h3] at h; injection h with h; omega
      have hlt5 := hown5.lt
      rw [← HALL.out] at hown5
      have hlen5 : (allB ps i).length + m = (allB ps (i + 1)).length := by rw [HALL.out, List.length_append, HB4.out.1]
      rw [hlen5] at hown5
      have hAL1 : (allB ps (i + 1)).length ≤ 153000 := by have := allB_length ps (i + 1); omega
      clear HOA HB4 HO4 HH4 HG4 hgrow5 hat5 hbw4 hbg5 hlen5
      have HB5 : Hid (Bytes w5 bo m ms) := hb5
      have HO5 : Hid (w5.ownsRow qr 5 1 (.slice bo m bc) m (cellsOf ms)) := hO5
      have HA5 : Hid (w5.ownsRow q3 5 1 v5 (allB ps (i + 1)).length (cellsOf (allB ps (i + 1)))) := hown5
      have HH5 : Hid (HH w5 bh (allB ps i)) := hH5
      have HG5 : Hid (HH w5 bg (List.replicate i 120)) := hG5
      have HAP : Hid (∀ x, bo = some x → v5.ownBlock ≠ some x.block) := hapart
      have HL5 : Hid (∀ k, v5.ownBlock = some k → q3 ≤ k ∧ k < w5.heap.size) := hlt5
      clear hb5 hO5 hown5 hH5 hG5 hapart hlt5
      go_wp2_with fail
      refine (write_any bh (allB ps i) ms bo m bc w5 HH5.out HB5.out (fun x hx => by have := HBB.out x hx; omega) hl4 hbc (HK.out hbw5) (by omega) (by omega) (by omega)).mono ?_
      rintro e w6 ⟨rfl, hH6, hchg6⟩
      rw [← HALL.out] at hH6
      have hs6 := hchg6.size
      have hbw6 : Below n0 w w6 := hbw5.trans (hchg6.below (by omega) (by omega))
      have hG6 := HG5.out.grown hchg6.grown (fun h => by injection h with h; omega)
      have hA6 := HA5.out.kept hchg6.grown (.inr (fun h => by have := HL5.out _ h; omega))
      have hO6 := HO5.out.kept hchg6.grown (by
        cases hbo : bo with
        | none => exact .inl rfl
        | some x => exact .inr (fun h => by have h2 := HBB.out x hbo; injection h with h; omega))
      have HG6 : Hid (HH w6 bg (List.replicate i 120)) := hG6
      have HH6 : Hid (HH w6 bh (allB ps (i + 1))) := hH6
      have HA6 : Hid (w6.ownsRow q3 5 1 v5 (allB ps (i + 1)).length (cellsOf (allB ps (i + 1)))) := hA6
      clear hG6 hH6 hA6 hchg6 HB5 HO5 HA5 HH5 HG5 hbw5
      go_wp2_with fail
      go_loopw [9] (fun t w7 => ∃ (k : Nat) (xs : List Value), k ≤ m ∧ t = .int .i64 k ∧ w7.ownsRow qr 5 1 (.slice bo m bc) m xs ∧ w6.grownBy w7 (Value.ownBlock (.slice bo m bc))) (fun t _ => (m - intOf t).toNat)
      case atStart => exact ⟨0, _, by omega, rfl, hO6, ⟨rfl, rfl, rfl, Nat.le_refl _, fun _ _ _ => rfl⟩⟩
      case round =>
        clear hO6
        obtain ⟨k, xs, hk, rfl, hxr, hgr⟩ := hrel
        by_cases hkm : k < m
        · obtain ⟨g, gc, hge, hg1, hg2, hg3, hg4⟩ := own_shape hxr (by omega)
          injection hge with hg5 hg6 hg7
          subst hg5
          obtain ⟨u0, hu0⟩ : ∃ u0, wr.cell? ⟨g, k, none⟩ = some u0 := by
            rw [hxr.cellAt k (by omega)]
            have hxl := hxr.1
            exact ⟨_, List.getElem?_eq_getElem (by omega)⟩
          have hfz := hxr.frozenAt k
          have hst := hxr.stored k (.int .u8 63)
          have hgk : w6.grownBy (wr.setCell ⟨g, k, none⟩ (.int .u8 63)) (some g) := ⟨hst.2.os.trans hgr.os, hst.2.tape.trans hgr.tape, hst.2.output.trans hgr.output, Nat.le_trans hgr.size hst.2.size, fun j hj hne => (hst.2.block j (Nat.lt_of_lt_of_le hj hgr.size) hne).trans (hgr.block j hj hne)⟩
          have hxk := hst.1
          have hkm' : (k : Int) < (m : Int) := by omega
          have hk0 : (0 : Int) ≤ (k : Int) := by omega
          clear hst hxr hgr
          go_wp2
          go_roundw
          case rel => exact ⟨k + 1, _, by omega, by go_num, hxk, hgk⟩
          case measure => simp [intOf]; omega
        · have hkm' : ¬ ((k : Int) < (m : Int)) := by omega
          have hs7 := hgr.size
          have hown : ∀ j, Value.ownBlock (.slice bo m bc) = some j → qr ≤ j := fun j hj => by
            cases hbo : bo with
            | none => rw [hbo] at hj; cases hj
            | some x => rw [hbo] at hj; injection hj with hj; have := HBB.out x hbo; omega
          have hH7 := HH6.out.grown hgr (fun h => by have := hown _ h.symm; omega)
          have hG7 := HG6.out.grown hgr (fun h => by have := hown _ h.symm; omega)
          have hA7 := HA6.out.kept hgr (by
            cases hbo : bo with
            | none =>
              cases hv : v5.ownBlock with
              | none => exact .inl rfl
              | some j => exact .inr (by simp [Value.ownBlock])
            | some x => exact .inr (HAP.out x hbo))
          have hbw7 : Below n0 w wr := hbw6.grown hgr (by omega) (fun j hj => by have := hown j hj; omega)
          have HH7 : Hid (HH wr bh (allB ps (i + 1))) := hH7
          have HG7 : Hid (HH wr bg (List.replicate i 120)) := hG7
          have HA7 : Hid (wr.ownsRow q3 5 1 v5 (allB ps (i + 1)).length (cellsOf (allB ps (i + 1)))) := hA7
          clear hxr hgr hH7 hG7 hA7 HH6 HG6 HA6 hbw6 hown
          go_wp2_with fail
          refine (write_any bg (List.replicate i 120) [120] _ 1 1 _ (HG7.out.below (bel_alloc _ _) HG7.out.lt) (one_x wr) (fun x hx => by cases hx; simp only; have := HG7.out.lt; omega) (Nat.le_refl _) (by omega) (HK.out (hbw7.trans ((bel_alloc _ _).mono (by omega)))) (by omega) (by simp; omega) (by simp; omega)).mono ?_
          rintro e w8 ⟨rfl, hG8, hchg8⟩
          rw [← List.replicate_succ'] at hG8
          have hbelA := bel_alloc wr (.cells #[.int .u8 120] 5 (1, 2))
          have hs8 : wr.heap.size + 1 ≤ w8.heap.size := by have := hchg8.size; simpa using this
          have hbw8 : Below n0 w w8 := (hbw7.trans (hbelA.mono (by omega))).trans (hchg8.below (by omega) (by simp; omega))
          have hH8 := (HH7.out.below hbelA HH7.out.lt).grown hchg8.grown (fun h => by injection h with h; omega)
          have hA8 := (own_below HA7.out hbelA (Nat.le_refl _)).kept hchg8.grown (.inr (fun h => by have := HA7.out.lt _ h; omega))
          have HH8 : Hid (HH w8 bh (allB ps (i + 1))) := hH8
          have HG8 : Hid (HH w8 bg (List.replicate (i + 1) 120)) := hG8
          have HA8 : Hid (w8.ownsRow q3 5 1 v5 (allB ps (i + 1)).length (cellsOf (allB ps (i + 1)))) := hA8
          clear hH8 hG8 hA8 hchg8 hbelA HH7 HG7 HA7 hbw7
          go_wp2_with fail
          refine (sum_any bh _ w8 HH8.out (HK.out hbw8) (by omega) (by omega) (by omega)).mono ?_
          rintro e w9 ⟨rfl, hbel9⟩
          have hs9 := hbel9.size
          obtain ⟨D, HD⟩ : ∃ D, Hid (D = shaB (allB ps (i + 1))) := ⟨_, rfl⟩
          rw [← HD.out]
          have hDl : D.length = 32 := by rw [HD.out]; exact shaB_length _
          have hD1 : (cellsOf D).toArray.all (·.oneCell') = true := all_oneCell_toArray (cellsOf_one _)
          go_wp2_with (refine wpList_store_to rfl 25 (.tmp 10) (.tmp 63) rfl w9.heap.size (cellsOf D).toArray rfl rfl 25 (cellsOf (List.replicate 32 0)).toArray ?hz ?hzs ?hzo hD1 ?_)
          case hz => exact heap_alloc_new _ _
          case hzs => rw [size25, List.size_toArray, cellsOf_length, hDl]
          case hzo => simp [cellsOf, hDl]
          intro w10 hblk10 hchg10
          have hbel10 : Below w8.heap.size w8 w10 := hbel9.trans (((bel_alloc _ _).trans (hchg10.below (Nat.le_refl _) (by simp))).mono (by omega))
          have hs10 : w9.heap.size + 1 ≤ w10.heap.size := by have := hchg10.size; simpa using this
          have hH10 := HH8.out.below hbel10 HH8.out.lt
          have hG10 := HG8.out.below hbel10 HG8.out.lt
          have hA10 := own_below HA8.out hbel10 (Nat.le_refl _)
          have hbw10 : Below n0 w w10 := hbw8.trans (hbel10.mono (by omega))
          have HH10 : Hid (HH w10 bh (allB ps (i + 1))) := hH10
          have HG10 : Hid (HH w10 bg (List.replicate (i + 1) 120)) := hG10
          have HA10 : Hid (w10.ownsRow q3 5 1 v5 (allB ps (i + 1)).length (cellsOf (allB ps (i + 1)))) := hA10
          have HBK10 : Hid (w10.heap[w9.heap.size]? = some (.cells (cellsOf D).toArray 25)) := hblk10
          clear hH10 hG10 hA10 hbel9 hbel10 hchg10 HH8 HG8 HA8 hbw8 hD1 hblk10
          obtain ⟨vo, vc, hv5, hb10, y1, y2, y3, y4, y5⟩ := own_bytes HA10.out
          have HB10 : Hid (Bytes w10 vo (allB ps (i + 1)).length (allB ps (i + 1))) := hb10
          have hvc : vc ≤ 9223372036854775807 := by unfold maxLen at y3; omega
          have HVC : Hid ((allB ps (i + 1)).length ≤ vc ∧ vc ≤ 9223372036854775807) := ⟨y2, hvc⟩
          clear hb10 y1 y2 y3 y4 y5
          subst hv5
          generalize hq9 : w9.heap.size = q9 at *
          have hu := Tryd.underlying25
          have hi25 : (Tryd.prog.info? 25).map (·.size) = some (cellsOf D).length := by rw [size25, cellsOf_length, hDl]
          have hg25 := guard25
          have heq : ∀ w, (Op.equalIn 10000 25 (.agg (cellsOf D).toArray) (.agg (cellsOf D).toArray)).run Tryd.prog w = .ok true w := fun w =>
            (run_equalIn_bytes w 9998 25 5 32 Tryd.underlying25 Tryd.underlying5 sizeOf5 D D hDl hDl).trans (by simp)
          have KEEP : Hid (∀ w' w'', (w'.rangeAt q9 0 (cellsOf D) ∧ Below w10.heap.size w10 w') → Below w'.heap.size w' w'' → (w''.rangeAt q9 0 (cellsOf D) ∧ Below w10.heap.size w10 w'')) := by
            rintro w' w'' ⟨k1, k2⟩ hb
            have := k2.size
            exact ⟨fun j v hv => by rw [hb.cell (p := ⟨q9, 0 + j, none⟩) (by simp only; omega)]; exact k1 j v hv, k2.trans (hb.mono (by omega))⟩
          have HOF : Hid (∀ w', (w'.rangeAt q9 0 (cellsOf D) ∧ Below w10.heap.size w10 w') → Calls Tryd.prog 10 #[.slice vo (allB ps (i + 1)).length vc] w' fun e w'' => e = .returned (.agg (cellsOf D).toArray) ∧ Below w'.heap.size w' w'') := fun w' h => by
            have h9 := h.2.size
            rw [HD.out]
            exact of_cap vo _ vc _ w' (bytes_kept HB10.out h.2 (Nat.le_refl _)) HVC.out.1 HVC.out.2 (by omega) (HK.out (hbw10.trans (h.2.mono (by omega)))) (by omega)
          have HSU : Hid (∀ w', (w'.rangeAt q9 0 (cellsOf D) ∧ Below w10.heap.size w10 w') → Calls Tryd.prog 20 #[.pointer (some ⟨bh, 0, none⟩)] w' fun e w'' => e = .returned (.agg (cellsOf D).toArray) ∧ Below w'.heap.size w' w'') := fun w' h => by
            have h9 := h.2.size
            rw [HD.out]
            exact sum_any bh _ w' (HH10.out.below h.2 HH10.out.lt) (HK.out (hbw10.trans (h.2.mono (by omega)))) (by omega) (by omega) (by omega)
          have hS10 : (w10.drew.rangeAt q9 0 (cellsOf D) ∧ Below w10.heap.size w10 w10.drew) :=
            ⟨fun j v hv => by show w10.cell? _ = _; rw [Nat.zero_add, cell_of_row w10 q9 j _ _ _ HBK10.out]; simpa using hv, Below.drew (Below.refl _ _)⟩
          clear hDl
          go_wp2_with fail
          refine wp_region_held_drew (S := fun w' => w'.rangeAt q9 0 (cellsOf D) ∧ Below w10.heap.size w10 w') (by kernel_rfl) hS10 (fun hHeld => ?_)
          clear hHeld
          refine wpAnyH_take (i := 0) (v := .agg (cellsOf D).toArray) rfl (by kernel_rfl) (by kernel_rfl) (by kernel_rfl) (fun _ _ _ h => h) (yieldsIf_load_mid (by rfl) 25 (.tmp 10) rfl q9 0 rfl (cellsOf D) _ (fun _ h => h.1) hu rfl hi25) (by assumption) ?_
          simp only [Act.put, List.getElem_toArray, List.getElem_cons_zero, List.setIfInBounds_toArray, List.set_cons_zero, List.set_cons_succ]
          refine wpAnyH_take (i := 1) (v := ?_) rfl (by kernel_rfl) (by kernel_rfl) (by kernel_rfl) (fun _ _ _ h => h) (Or.inl ⟨by rfl, ?_⟩) (by assumption) ?_
          rotate_left
          · (intro w hSw; (try dsimp only at hSw); go_simp; try with_reducible rfl)
          simp only [Act.put, List.getElem_toArray, List.getElem_cons_zero, List.getElem_cons_succ, List.setIfInBounds_toArray, List.set_cons_zero, List.set_cons_succ]
          refine wpAnyH_ready (rs := [2]) (by kernel_rfl) (by simp) ?_
          refine AllReadyH.cons rfl (fun K hK => ?_) ?_
          rotate_left
          · exact AllReadyH.nil
          go_simp
          refine (HOF.out _ hS10).mono ?_
          rintro e w12 ⟨rfl, hbel12⟩
          have hS12 := KEEP.out _ _ hS10 hbel12
          clear hbel12 hS10
          go_simp
          refine hK.out _ _ hS12 (fun hHeld => ?_)
          clear hK K
          clear hHeld
          refine wpAnyH_take (i := 3) (v := ?_) rfl (by kernel_rfl) (by kernel_rfl) (by kernel_rfl) (fun _ _ _ h => h) (Or.inl ⟨by rfl, ?_⟩) (by assumption) ?_
          rotate_left
          · (intro w hSw; (try dsimp only at hSw); go_simp; try with_reducible rfl)
          simp only [Act.put, List.getElem_toArray, List.getElem_cons_zero, List.getElem_cons_succ, List.setIfInBounds_toArray, List.set_cons_zero, List.set_cons_succ]
          refine wpAnyH_take (i := 4) (v := ?_) rfl (by kernel_rfl) (by kernel_rfl) (by kernel_rfl) (fun _ _ _ h => h) (Or.inl ⟨by rfl, ?_⟩) (by assumption) ?_
          rotate_left
          · (intro w hSw; (try dsimp only at hSw); go_simp; try with_reducible rfl)
          simp only [Act.put, List.getElem_toArray, List.getElem_cons_zero, List.getElem_cons_succ, List.setIfInBounds_toArray, List.set_cons_zero, List.set_cons_succ]
          refine wpAnyH_take (i := 5) (v := ?_) rfl (by kernel_rfl) (by kernel_rfl) (by kernel_rfl) (fun _ _ _ h => h) (Or.inl ⟨by rfl, ?_⟩) (by assumption) ?_
          rotate_left
          · (intro w hSw; (try dsimp only at hSw); go_simp; try with_reducible rfl)
          simp only [Act.put, List.getElem_toArray, List.getElem_cons_zero, List.getElem_cons_succ, List.setIfInBounds_toArray, List.set_cons_zero, List.set_cons_succ]
          refine wpAnyH_take (i := 7) (v := .agg (cellsOf D).toArray) rfl (by kernel_rfl) (by kernel_rfl) (by kernel_rfl) (fun _ _ _ h => h) (yieldsIf_load_mid (by rfl) 25 (.tmp 10) rfl q9 0 rfl (cellsOf D) _ (fun _ h => h.1) hu rfl hi25) (by assumption) ?_
          simp only [Act.put, List.getElem_toArray, List.getElem_cons_zero, List.getElem_cons_succ, List.setIfInBounds_toArray, List.set_cons_zero, List.set_cons_succ]
          refine wpAnyH_ready (rs := [6]) (by kernel_rfl) (by simp) ?_
          refine AllReadyH.cons rfl (fun K hK => ?_) ?_
          rotate_left
          · exact AllReadyH.nil
          go_simp
          refine (HSU.out _ hS12).mono ?_
          rintro e w13 ⟨rfl, hbel13⟩
          have hS13 := KEEP.out _ _ hS12 hbel13
          clear hbel13 hS12
          go_simp
          refine hK.out _ _ hS13 (fun hHeld => ?_)
          clear hK K
          clear hHeld
          refine wpAnyH_take (i := 8) (v := ?_) rfl (by kernel_rfl) (by kernel_rfl) (by kernel_rfl) (fun _ _ _ h => h) (Or.inl ⟨by rfl, ?_⟩) (by assumption) ?_
          rotate_left
          · (intro w hSw; (try dsimp only at hSw); go_simp; try with_reducible rfl)
          simp only [Act.put, List.getElem_toArray, List.getElem_cons_zero, List.getElem_cons_succ, List.setIfInBounds_toArray, List.set_cons_zero, List.set_cons_succ]
          refine wpAnyH_take (i := 9) (v := ?_) rfl (by kernel_rfl) (by kernel_rfl) (by kernel_rfl) (fun _ _ _ h => h) (Or.inl ⟨by rfl, ?_⟩) (by assumption) ?_
          rotate_left
          · (intro w hSw; (try dsimp only at hSw); go_simp; try with_reducible rfl)
          simp only [Act.put, List.getElem_toArray, List.getElem_cons_zero, List.getElem_cons_succ, List.setIfInBounds_toArray, List.set_cons_zero, List.set_cons_succ]
          refine wpAnyH_done (by kernel_rfl) ?_ _

          have hbel13 := hS13.2
          have hs13 := hbel13.size
          have hA13 := own_below HA10.out hbel13 (Nat.le_refl _)
          have hH13 := HH10.out.below hbel13 HH10.out.lt
          have hG13 := HG10.out.below hbel13 HG10.out.lt
          have hbw13 : Below n0 w w13 := hbw10.trans (hbel13.mono (by omega))
          clear hS13 hbel13 heq hu hi25 hg25 KEEP HOF HSU HA10 HH10 HG10 HBK10
          go_wp2
          go_roundw
          case rel => exact ⟨i + 1, _, by omega, by omega, by go_num, rfl, hA13, hH13, hG13, hbw13, by omega⟩
          case measure => simp [intOf]; omega
    · by_cases hil : i < len
      · have hi5 : ¬ ((i : Int) < 50) := by omega
        have hil' : (i : Int) < (len : Int) := by omega
        obtain ⟨vo, vc, hv5, hb10, y1, y2, y3, y4, y5⟩ := own_bytes hown
        have hvc : vc ≤ 9223372036854775807 := by unfold maxLen at y3; omega
        have hAL1 : (allB ps i).length ≤ 153000 := by have := allB_length ps i; omega
        have HVC : Hid ((allB ps i).length ≤ vc ∧ vc ≤ 9223372036854775807) := ⟨y2, hvc⟩
        have HB10 : Hid (Bytes wr vo (allB ps i).length (allB ps i)) := hb10
        clear hb10 y1 y2 y3 y4 y5 hown
        subst hv5
        have HHR : Hid (HH wr bh (allB ps i)) := hHr
        clear hHr hGr
        go_wp2_with fail
        refine (sum_any bh _ wr HHR.out (HK.out hbr) (by omega) (by omega) (by omega)).mono ?_
        rintro e w9 ⟨rfl, hbel9⟩
        have hs9 := hbel9.size
        have hbw9 : Below n0 w w9 := hbr.trans (hbel9.mono (by omega))
        have hb9 := bytes_kept HB10.out hbel9 (Nat.le_refl _)
        obtain ⟨D, HD⟩ : ∃ D, Hid (D = shaB (allB ps i)) := ⟨_, rfl⟩
        rw [← HD.out]
        have hDl : D.length = 32 := by rw [HD.out]; exact shaB_length _
        have hg25 := guard25
        have heq : ∀ w, (Op.equalIn 10000 25 (.agg (cellsOf D).toArray) (.agg (cellsOf D).toArray)).run Tryd.prog w = .ok true w := fun w =>
          (run_equalIn_bytes w 9998 25 5 32 Tryd.underlying25 Tryd.underlying5 sizeOf5 D D hDl hDl).trans (by simp)
        have HB9 : Hid (Bytes w9 vo (allB ps i).length (allB ps i)) := hb9
        clear hb9 hbel9 hDl
        go_wp2_with fail
        refine (of_cap vo _ vc _ w9 HB9.out HVC.out.1 HVC.out.2 (by omega) (HK.out hbw9) (by omega)).mono ?_
        rintro e w11 ⟨rfl, hbel11⟩
        have hbw11 : Below n0 w w11 := hbw9.trans (hbel11.mono (by omega))
        rw [← HD.out]
        clear hbel11
        go_wp2
        go_ret
        exact ⟨rfl, by rw [hn0]; exact hbw11⟩
      · have hil' : ¬ ((i : Int) < (len : Int)) := by omega
        obtain ⟨vo, vc, hv5, hb10, y1, y2, y3, y4, y5⟩ := own_bytes hown
        have hvc : vc ≤ 9223372036854775807 := by unfold maxLen at y3; omega
        have hAL1 : (allB ps i).length ≤ 153000 := by have := allB_length ps i; omega
        have HVC : Hid ((allB ps i).length ≤ vc ∧ vc ≤ 9223372036854775807) := ⟨y2, hvc⟩
        have HB10 : Hid (Bytes wr vo (allB ps i).length (allB ps i)) := hb10
        clear hb10 y1 y2 y3 y4 y5 hown
        subst hv5
        have HHR : Hid (HH wr bh (allB ps i)) := hHr
        clear hHr hGr
        go_wp2_with fail
        refine (sum_any bh _ wr HHR.out (HK.out hbr) (by omega) (by omega) (by omega)).mono ?_
        rintro e w9 ⟨rfl, hbel9⟩
        have hs9 := hbel9.size
        have hbw9 : Below n0 w w9 := hbr.trans (hbel9.mono (by omega))
        have hb9 := bytes_kept HB10.out hbel9 (Nat.le_refl _)
        obtain ⟨D, HD⟩ : ∃ D, Hid (D = shaB (allB ps i)) := ⟨_, rfl⟩
        rw [← HD.out]
        have hDl : D.length = 32 := by rw [HD.out]; exact shaB_length _
        have hg25 := guard25
        have heq : ∀ w, (Op.equalIn 10000 25 (.agg (cellsOf D).toArray) (.agg (cellsOf D).toArray)).run Tryd.prog w = .ok true w := fun w =>
          (run_equalIn_bytes w 9998 25 5 32 Tryd.underlying25 Tryd.underlying5 sizeOf5 D D hDl hDl).trans (by simp)
        have HB9 : Hid (Bytes w9 vo (allB ps i).length (allB ps i)) := hb9
        clear hb9 hbel9 hDl
        go_wp2_with fail
        refine (of_cap vo _ vc _ w9 HB9.out HVC.out.1 HVC.out.2 (by omega) (HK.out hbw9) (by omega)).mono ?_
        rintro e w11 ⟨rfl, hbel11⟩
        have hbw11 : Below n0 w w11 := hbw9.trans (hbel11.mono (by omega))
        rw [← HD.out]
        clear hbel11
        go_wp2
        go_ret
        exact ⟨rfl, by rw [hn0]; exact hbw11⟩
end Go.Proofs.YtdlkaeegcagkpaaDoor

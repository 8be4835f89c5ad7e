/-
  The statement FrameBack, walked.
-/
import Derived.Test.YtaejcclepahefaaTurnedW
import Derived.Deep.RegionHeld3
namespace Go.Proofs.Ytaejcclepahefaa
open Go.RowKit
/-- The first bodies, cut. -/
def cutB (ps : List SV) (i : Nat) : List (List UInt8) := (ps.take i).map fun p => p.bs.take 3000
theorem cutB_succ (ps : List SV) (i : Nat) (p : SV) (h : ps[i]? = some p) : cutB ps (i + 1) = cutB ps i ++ [p.bs.take 3000] := by
  unfold cutB; rw [List.take_add_one, h]; simp
theorem cutB_len (ps : List SV) (i : Nat) (h : i ≤ ps.length) : (cutB ps i).length = i := by unfold cutB; simp; omega
theorem cutB_small (ps : List SV) (i : Nat) : ∀ b ∈ cutB ps i, b.length ≤ 65536 := by
  intro b hb
  unfold cutB at hb
  obtain ⟨p, -, rfl⟩ := List.mem_map.1 hb
  simp; omega
theorem cutB_at (ps : List SV) (i j : Nat) (p : SV) (hj : j < i) (h : ps[j]? = some p) : (cutB ps i)[j]? = some (p.bs.take 3000) := by
  unfold cutB; rw [List.getElem?_map, List.getElem?_take_of_lt hj, h]; rfl
theorem take_min {bs : List UInt8} {n m : Nat} (hl : bs.length = n) (hm : min n 3000 = m) : bs.take m = bs.take 3000 := by
  rw [← hm, ← hl, List.take_eq_take_iff]; omega
theorem wsum3 {v m k : Nat} (h : v + (8 + m) = k) (hk : k ≤ 1000000) : wrap64 ((v : Int) + 8) = (v : Int) + 8 ∧ wrap64 ((v : Int) + 8 + (m : Int)) = (k : Int) := by
  unfold wrap64; omega
theorem modcast (r d : Nat) : (r : Int) % (d : Int) = ((r % d : Nat) : Int) := by omega
theorem minfacts {n m c : Nat} (h : min n 3000 = m) (hc : n ≤ c) : min (n : Int) 3000 = (m : Int) ∧ (0 : Int) ≤ (m : Int) ∧ (m : Int) ≤ (c : Int) := by omega
theorem wfirst {m k : Nat} (h : 8 + m = k) (hk : k ≤ 1000000) : wrap64 (8 + (m : Int)) = (k : Int) := by unfold wrap64; omega
set_option maxRecDepth 100000 in
set_option maxHeartbeats 4000000 in
theorem back_walk (ao : Option Addr) (len cap b off : Nat) (ps : List SV) (z : SV) (cut0 : Int) (w : World) (hps : PartsAt w b off ps) (hlen : ps.length = len) (hao : 0 < len → ao = some ⟨b, off, none⟩) (h2 : Bytes w z.ao z.n z.bs) (f2 : z.fine) (hat : -9223372036854775808 ≤ cut0 ∧ cut0 ≤ 9223372036854775807) :
    Calls Try.prog 13 #[.slice ao len cap, .slice z.ao z.n z.c, .int .i64 cut0] w fun e w' => e = .returned (.bool true) ∧ Below w.heap.size w w' := by
  obtain ⟨zo, zn, zc, zs⟩ := z
  simp only at h2 ⊢
  have g2 : zn ≤ zc := f2.2.1
  have g4 : zc ≤ 9223372036854775807 := f2.2.2
  obtain ⟨q, hq⟩ : ∃ q, min zn 3000 = q := ⟨_, rfl⟩
  have hminz : min (zn : Int) 3000 = (q : Int) := by omega
  have k3 : (0 : Int) ≤ (q : Int) := by omega
  have k4 : (q : Int) ≤ (zc : Int) := by omega
  obtain ⟨y, HY⟩ : ∃ y, Hid (zs.take q = y) := ⟨_, rfl⟩
  have HZ : Hid (∀ W, Below w.heap.size w W → Bytes W zo q y) := fun W hW => by rw [← HY.out]; exact bytes_take (bytes_kept h2 hW (Nat.le_refl _)) q (by omega)
  have FZ : Hid (SV.fine ⟨zo, q, zc, y⟩) := ⟨f2.1, (by show q ≤ zc; omega), g4⟩
  have HYL : Hid (y.length = q) := (HZ.out w (Below.refl _ _)).1
  have hq1 : q ≤ 3000 := by omega
  have HPS : Hid (PartsAt w b off ps) := hps
  have HLEN : Hid (ps.length = len) := hlen
  have HAO : Hid (0 < len → ao = some ⟨b, off, none⟩) := hao
  have HAT : Hid (-9223372036854775808 ≤ cut0 ∧ cut0 ≤ 9223372036854775807) := hat
  clear h2 f2 HY hq hps hlen hao hat g2 g4
  go_enter Try.func13, Try.ntmps13
  go_wp2_with fail
  refine (shown_any w).mono ?_
  rintro e w1 ⟨rfl, hb1⟩
  have HB1 : Hid (Below w.heap.size w w1) := hb1
  clear hb1
  go_wp2_with fail
  go_loopw [8, 9, 10] (fun v a t wr => ∃ (i : Nat) (vo : Option Addr) (vn vc : Nat), i ≤ len ∧ i ≤ 40 ∧ v = .slice vo vn vc ∧ a = .int .i64 i ∧ t = .int .i64 i ∧ Hid (Bytes wr vo vn (rowB (cutB ps i)) ∧ SV.fine ⟨vo, vn, vc, []⟩ ∧ vn ≤ i * 3008) ∧ Hid (Below w.heap.size w wr)) (fun _ _ t _ => 40 - (intOf t).toNat)
  case atStart => exact ⟨0, none, 0, 0, by omega, by omega, rfl, rfl, rfl, ⟨bytes_nil _, ⟨fun _ => rfl, Nat.le_refl _, (by show 0 ≤ 9223372036854775807; omega)⟩, by omega⟩, HB1.out⟩
  case round =>
    obtain ⟨i, vo, vn, vc, hi, hi40, rfl, rfl, rfl, HV, HBW⟩ := hrel
    clear HB1
    by_cases hlt : i < len ∧ i < 40
    · as_aux_lemma =>
        obtain ⟨hil, hi5⟩ := hlt
        obtain ⟨p, hp⟩ : ∃ p, ps[i]? = some p := ⟨ps[i]'(by rw [HLEN.out]; exact hil), by simp⟩
        have hil' : (i : Int) < (len : Int) := by omega
        have hi5' : (i : Int) < 40 := by omega
        have hi0 : (0 : Int) ≤ (i : Int) := by omega
        obtain rfl := HAO.out (by omega)
        have HCS : Hid (cutB ps (i + 1) = cutB ps i ++ [p.bs.take 3000]) := cutB_succ ps i p hp
        obtain ⟨po, pn, pc, pb⟩ := p
        obtain ⟨hc1, hc2, hc3, hc4, hc5⟩ := (HPS.out.below HBW.out (Nat.le_refl _)) i _ hp
        simp only at hc1 hc2 hc3 hc4 hc5
        obtain ⟨m, hm⟩ : ∃ m, min pn 3000 = m := ⟨_, rfl⟩
        have hmin : min (pn : Int) 3000 = (m : Int) := by omega
        have hm1 : (0 : Int) ≤ (m : Int) := by omega
        have hm2 : (m : Int) ≤ (pc : Int) := by omega
        have hm3 : m ≤ 3000 := by omega
        obtain ⟨ms, HMS⟩ : ∃ ms, Hid (pb.take 3000 = ms) := ⟨_, rfl⟩
        have hby : Bytes wr po m ms := by
          have h5 := bytes_take hc2 m (by omega)
          rw [take_min hc2.1 hm, HMS.out] at h5; exact h5
        obtain ⟨K, hK⟩ : ∃ K, vn + (8 + m) = K := ⟨_, rfl⟩
        have HKB : Hid (K ≤ (i + 1) * 3008) := by show _ ≤ _; have := HV.out.2.2; omega
        have HKM : Hid (K ≤ 1000000) := by show _ ≤ _; have := HKB.out; omega
        have HP := fun (W : World) (hW : Below wr.heap.size wr W) => put_any ⟨vo, vn, vc, rowB (cutB ps i)⟩ ⟨po, m, pc, ms⟩ W (bytes_kept HV.out.1 hW (Nat.le_refl _)) (bytes_kept hby hW (Nat.le_refl _)) ⟨HV.out.2.1.1, HV.out.2.1.2.1, HV.out.2.1.2.2⟩ ⟨hc3, (by show m ≤ pc; omega), hc5⟩ (by show m ≤ 65536; omega) (by show vn ≤ 140737488250000; have := HV.out.2.2; omega)
        simp only [hK] at HP
        have HPP : Hid (∀ (W : World), Below wr.heap.size wr W → Calls Try.prog 44 #[.slice vo vn vc, .slice po m pc] W fun e w' => ∃ v, e = .returned (.tuple #[v, .int .i64 0]) ∧ w'.ownsRow W.heap.size 5 1 v K (cellsOf (rowB (cutB ps i) ++ frameB ms)) ∧ Below W.heap.size W w') := HP
        have hblt := World.block_lt_of_cell? wr _ hc1
        have HBL : Hid (b < wr.heap.size) := hblt
        have HC1 : Hid (wr.cell? ⟨b, off + i, none⟩ = some (.slice po pn pc)) := hc1
        clear HP hp hc2 hc3 hc4 hc5 hm hby hblt
        have HIL : Hid (i < len ∧ i < 40) := ⟨hil, hi5⟩
        clear hil hi5 hm3
        go_wp2_with fail
        refine wp_region_held_drew (S := fun w' => w'.cell? ⟨b, off + i, none⟩ = some (.slice po pn pc)) (by kernel_rfl) hc1 (fun hHeld => ?_)
        refine wpAnyH_take (i := 0) (v := ?_) rfl (by kernel_rfl) (by kernel_rfl) (by kernel_rfl) (fun _ _ _ h => h) (Or.inl ⟨by rfl, ?_⟩) (by assumption) ?_
        rotate_left
        · (intro w hSw; (try dsimp only at hSw); go_simp; try with_reducible rfl)
        simp only [Act.put, List.getElem_toArray, List.getElem_cons_zero, List.setIfInBounds_toArray, List.set_cons_zero, List.set_cons_succ]
        refine wpAnyH_take (i := 1) (v := ?_) rfl (by kernel_rfl) (by kernel_rfl) (by kernel_rfl) (fun _ _ _ h => h) (Or.inl ⟨by rfl, ?_⟩) (by assumption) ?_
        rotate_left
        · (intro w hSw; (try dsimp only at hSw); go_simp; try with_reducible rfl)
        simp only [Act.put, List.getElem_toArray, List.getElem_cons_zero, List.getElem_cons_succ, List.setIfInBounds_toArray, List.set_cons_zero, List.set_cons_succ]
        refine wpAnyH_take (i := 2) (v := ?_) rfl (by kernel_rfl) (by kernel_rfl) (by kernel_rfl) (fun _ _ _ h => h) (Or.inl ⟨by rfl, ?_⟩) (by assumption) ?_
        rotate_left
        · (intro w hSw; (try dsimp only at hSw); go_simp; try with_reducible rfl)
        simp only [Act.put, List.getElem_toArray, List.getElem_cons_zero, List.getElem_cons_succ, List.setIfInBounds_toArray, List.set_cons_zero, List.set_cons_succ]
        refine wpAnyH_take (i := 3) (v := ?_) rfl (by kernel_rfl) (by kernel_rfl) (by kernel_rfl) (fun _ _ _ h => h) (Or.inl ⟨by rfl, ?_⟩) (by assumption) ?_
        rotate_left
        · (intro w hSw; (try dsimp only at hSw); go_simp; try with_reducible rfl)
        simp only [Act.put, List.getElem_toArray, List.getElem_cons_zero, List.getElem_cons_succ, List.setIfInBounds_toArray, List.set_cons_zero, List.set_cons_succ]
        refine wpAnyH_take (i := 4) (v := ?_) rfl (by kernel_rfl) (by kernel_rfl) (by kernel_rfl) (fun _ _ _ h => h) (Or.inl ⟨by rfl, ?_⟩) (by assumption) ?_
        rotate_left
        · (intro w hSw; (try dsimp only at hSw); go_simp; try with_reducible rfl)
        simp only [Act.put, List.getElem_toArray, List.getElem_cons_zero, List.getElem_cons_succ, List.setIfInBounds_toArray, List.set_cons_zero, List.set_cons_succ]
        refine wpAnyH_take (i := 5) (v := ?_) rfl (by kernel_rfl) (by kernel_rfl) (by kernel_rfl) (fun _ _ _ h => h) (Or.inl ⟨by rfl, ?_⟩) (by assumption) ?_
        rotate_left
        · (intro w hSw; (try dsimp only at hSw); go_simp; try with_reducible rfl)
        simp only [Act.put, List.getElem_toArray, List.getElem_cons_zero, List.getElem_cons_succ, List.setIfInBounds_toArray, List.set_cons_zero, List.set_cons_succ]
        refine wpAnyH_take (i := 6) (v := ?_) rfl (by kernel_rfl) (by kernel_rfl) (by kernel_rfl) (fun _ _ _ h => h) (Or.inl ⟨by rfl, ?_⟩) (by assumption) ?_
        rotate_left
        · (intro w hSw; (try dsimp only at hSw); go_simp; try with_reducible rfl)
        simp only [Act.put, List.getElem_toArray, List.getElem_cons_zero, List.getElem_cons_succ, List.setIfInBounds_toArray, List.set_cons_zero, List.set_cons_succ]
        refine wpAnyH_take (i := 7) (v := ?_) rfl (by kernel_rfl) (by kernel_rfl) (by kernel_rfl) (fun _ _ _ h => h) (Or.inl ⟨by rfl, ?_⟩) (by assumption) ?_
        rotate_left
        · (intro w hSw; (try dsimp only at hSw); go_simp; try with_reducible rfl)
        simp only [Act.put, List.getElem_toArray, List.getElem_cons_zero, List.getElem_cons_succ, List.setIfInBounds_toArray, List.set_cons_zero, List.set_cons_succ]
        refine wpAnyH_take (i := 8) (v := ?_) rfl (by kernel_rfl) (by kernel_rfl) (by kernel_rfl) (fun _ _ _ h => h) (Or.inl ⟨by rfl, ?_⟩) (by assumption) ?_
        rotate_left
        · (intro w hSw; (try dsimp only at hSw); go_simp; try with_reducible rfl)
        simp only [Act.put, List.getElem_toArray, List.getElem_cons_zero, List.getElem_cons_succ, List.setIfInBounds_toArray, List.set_cons_zero, List.set_cons_succ]
        refine wpAnyH_take (i := 9) (v := ?_) rfl (by kernel_rfl) (by kernel_rfl) (by kernel_rfl) (fun _ _ _ h => h) (Or.inl ⟨by rfl, ?_⟩) (by assumption) ?_
        rotate_left
        · (intro w hSw; (try dsimp only at hSw); go_simp; try with_reducible rfl)
        simp only [Act.put, List.getElem_toArray, List.getElem_cons_zero, List.getElem_cons_succ, List.setIfInBounds_toArray, List.set_cons_zero, List.set_cons_succ]
        refine wpAnyH_take (i := 10) (v := ?_) rfl (by kernel_rfl) (by kernel_rfl) (by kernel_rfl) (fun _ _ _ h => h) (Or.inl ⟨by rfl, ?_⟩) (by assumption) ?_
        rotate_left
        · (intro w hSw; (try dsimp only at hSw); go_simp; try with_reducible rfl)
        simp only [Act.put, List.getElem_toArray, List.getElem_cons_zero, List.getElem_cons_succ, List.setIfInBounds_toArray, List.set_cons_zero, List.set_cons_succ]
        refine wpAnyH_take (i := 11) (v := ?_) rfl (by kernel_rfl) (by kernel_rfl) (by kernel_rfl) (fun _ _ _ h => h) (Or.inl ⟨by rfl, ?_⟩) (by assumption) ?_
        rotate_left
        · (intro w hSw; (try dsimp only at hSw); go_simp; try with_reducible rfl)
        simp only [Act.put, List.getElem_toArray, List.getElem_cons_zero, List.getElem_cons_succ, List.setIfInBounds_toArray, List.set_cons_zero, List.set_cons_succ]
        refine wpAnyH_ready (rs := [12]) (by kernel_rfl) (by simp) ?_
        refine AllReadyH.cons rfl (fun K0 hK0 => ?_) AllReadyH.nil
        go_simp
        refine Calls.mono (HPP.out _ (Below.drew (Below.refl _ _))) ?_
        rintro e w2 ⟨v2, rfl, hown, hb2⟩
        have hb2w : Below wr.heap.size wr w2 := (Below.drew (Below.refl _ _)).trans hb2
        obtain ⟨g, c, rfl, q1, q2, q3, q4⟩ := own_shape hown (by have := hK; omega)
        have HC2 : Hid (w2.cell? ⟨b, off + i, none⟩ = some (.slice po pn pc)) := by
          show _ = _
          rw [hb2w.cell (p := ⟨b, off + i, none⟩) HBL.out]; exact HC1.out
        have HNEW : Hid (Bytes w2 (some ⟨g, 0, none⟩) K (rowB (cutB ps (i + 1))) ∧ SV.fine ⟨some ⟨g, 0, none⟩, K, c, []⟩ ∧ K ≤ (i + 1) * 3008) := by
          refine ⟨?_, ⟨(fun h => by cases h), q3, q4⟩, HKB.out⟩
          have h5 := own_row_bytes hown
          rw [HCS.out, rowB_snoc, HMS.out]; exact h5
        have HB2 : Hid (Below w.heap.size w w2) := HBW.out.trans (hb2w.mono HBW.out.size)
        clear hown hb2 hb2w q1 q2 q3 q4 hc1
        go_wp2_with fail
        refine hK0.out _ _ HC2.out (fun hHeld2 => ?_)
        clear hK0 K0
        refine wpAnyH_take (i := 13) (v := ?_) rfl (by kernel_rfl) (by kernel_rfl) (by kernel_rfl) (fun _ _ _ h => h) (Or.inl ⟨by rfl, ?_⟩) (by assumption) ?_
        rotate_left
        · (intro w hSw; (try dsimp only at hSw); go_simp; try with_reducible rfl)
        simp only [Act.put, List.getElem_toArray, List.getElem_cons_zero, List.getElem_cons_succ, List.setIfInBounds_toArray, List.set_cons_zero, List.set_cons_succ]
        refine wpAnyH_take (i := 14) (v := ?_) rfl (by kernel_rfl) (by kernel_rfl) (by kernel_rfl) (fun _ _ _ h => h) (Or.inl ⟨by rfl, ?_⟩) (by assumption) ?_
        rotate_left
        · (intro w hSw; (try dsimp only at hSw); go_simp; try with_reducible rfl)
        simp only [Act.put, List.getElem_toArray, List.getElem_cons_zero, List.getElem_cons_succ, List.setIfInBounds_toArray, List.set_cons_zero, List.set_cons_succ]
        refine wpAnyH_take (i := 15) (v := ?_) rfl (by kernel_rfl) (by kernel_rfl) (by kernel_rfl) (fun _ _ _ h => h) (Or.inl ⟨by rfl, ?_⟩) (by assumption) ?_
        rotate_left
        · (intro w hSw; (try dsimp only at hSw); go_simp; try with_reducible rfl)
        simp only [Act.put, List.getElem_toArray, List.getElem_cons_zero, List.getElem_cons_succ, List.setIfInBounds_toArray, List.set_cons_zero, List.set_cons_succ]
        refine wpAnyH_take (i := 16) (v := ?_) rfl (by kernel_rfl) (by kernel_rfl) (by kernel_rfl) (fun _ _ _ h => h) (Or.inl ⟨by rfl, ?_⟩) (by assumption) ?_
        rotate_left
        · (intro w hSw; (try dsimp only at hSw); go_simp; try with_reducible rfl)
        simp only [Act.put, List.getElem_toArray, List.getElem_cons_zero, List.getElem_cons_succ, List.setIfInBounds_toArray, List.set_cons_zero, List.set_cons_succ]
        refine wpAnyH_take (i := 17) (v := ?_) rfl (by kernel_rfl) (by kernel_rfl) (by kernel_rfl) (fun _ _ _ h => h) (Or.inl ⟨by rfl, ?_⟩) (by assumption) ?_
        rotate_left
        · (intro w hSw; (try dsimp only at hSw); go_simp; try with_reducible rfl)
        simp only [Act.put, List.getElem_toArray, List.getElem_cons_zero, List.getElem_cons_succ, List.setIfInBounds_toArray, List.set_cons_zero, List.set_cons_succ]
        refine wpAnyH_done (by kernel_rfl) ?_ _
        clear hHeld2
        have hc2 := HC2.out
        obtain ⟨w8a, w8b⟩ := wsum3 hK HKM.out
        have hi1 : wrap64 ((i : Int) + 1) = ((i + 1 : Nat) : Int) := winc (by omega)
        clear HPP HCS HMS HV HBW
        clear hi hi40 hK k3 k4 hq1 hm1 hm2 hminz
        clear HZ FZ HYL
        go_wp2_with fail
        exact ⟨⟨i + 1, some ⟨g, 0, none⟩, K, c, HIL.out.1, HIL.out.2, rfl, rfl, rfl, HNEW, HB2⟩, meas_up HIL.out.2⟩
    · by_cases hl2 : i < len
      · as_aux_lemma =>
          have hil' : (i : Int) < (len : Int) := by omega
          have hi4' : ¬ (i : Int) < 40 := by omega
          have HN40 : Hid (i ≤ len ∧ i ≤ 40) := ⟨hi, hi40⟩
          have hvn : vn ≤ 120320 := by have := HV.out.2.2; omega
          obtain ⟨Km, hKm⟩ : ∃ k, 8 + q = k := ⟨_, rfl⟩
          have HPN : Hid (∀ W, Below w.heap.size w W → Calls Try.prog 44 #[.slice none 0 0, .slice zo q zc] W fun e w' => ∃ g c, e = .returned (.tuple #[.slice (some ⟨g, 0, none⟩) Km c, .int .i64 0]) ∧ w'.ownsRow W.heap.size 5 1 (.slice (some ⟨g, 0, none⟩) Km c) Km (cellsOf (frameB y)) ∧ (Km ≤ c ∧ c ≤ 9223372036854775807) ∧ (W.heap.size ≤ g ∧ g < w'.heap.size) ∧ Below W.heap.size W w') := fun W hW => put_nil ⟨zo, q, zc, y⟩ Km W (HZ.out W hW) FZ.out (by show q ≤ 65536; omega) hKm
          have H8Q : Hid ((8 : Int) + (q : Int) = (Km : Int)) := by show _ = _; omega
          have HW8 : Hid (wrap64 (8 + (q : Int)) = (Km : Int)) := wfirst hKm (by omega)
          clear hi hi40
          go_wp2_with fail
          refine Calls.mono (HPN.out _ HBW.out) ?_
          rintro e w2 ⟨gm, cm, rfl, hom, ⟨r1, r2⟩, -, hb2⟩
          have HB2 : Hid (Below w.heap.size w w2) := HBW.out.trans (hb2.mono HBW.out.size)
          have HM2 : Hid (Bytes w2 (some ⟨gm, 0, none⟩) Km (frameB y)) := own_row_bytes hom
          have HV2 : Hid (Bytes w2 vo vn (rowB (cutB ps i))) := bytes_kept HV.out.1 hb2 (Nat.le_refl _)
          have FV : Hid (vo = none → vc = 0) := HV.out.2.1.1
          have hKm0 : ¬ (Km : Int) = 0 := by omega
          clear hom hb2 HPN HV HBW
          have HKP : Hid (0 < Km) := by show 0 < Km; omega
          have HVB : Hid (vn ≤ 140737488355328) := by show vn ≤ _; omega
          have HVS : Hid (vn ≤ 120320) := hvn
          have HKS2 : Hid (120320 + Km ≤ 1000000000) := by show _ ≤ _; omega
          have HQ6 : Hid (q ≤ 65536) := by show _ ≤ _; omega
          have HKQ : Hid (8 + q = Km) := hKm
          have HKS : Hid (120320 + Km ≤ 140737488355328) := by show _ ≤ _; omega
          clear hKm hq1 k3 k4 hvn
          by_cases hneg : cut0 < 0
          · as_aux_lemma =>
              obtain ⟨r, HRR⟩ : ∃ r : Nat, Hid (-(cut0 + 1) = (r : Int) ∧ r ≤ 9223372036854775807) := ⟨(-(cut0 + 1)).toNat, by have := HAT.out; omega, by have := HAT.out; omega⟩
              obtain ⟨hnegw, hnr⟩ := wneg HRR.out.1 HRR.out.2
              have w8 := HW8.out
              have h8q := H8Q.out
              obtain ⟨j, hrem, HJ⟩ : ∃ j : Nat, (r : Int) % (Km : Int) = (j : Int) ∧ Hid (j < Km) := ⟨r % Km, modcast r Km, Nat.mod_lt _ (HKP.out)⟩
              have hj0 : (0 : Int) ≤ (j : Int) := Int.natCast_nonneg _
              have hj1 : (j : Int) ≤ (cm : Int) := Int.ofNat_le.2 (Nat.le_trans (Nat.le_of_lt HJ.out) r1)
              have HA2 : Hid (Bytes (w2.alloc (.cells #[] 5)) vo vn (rowB (cutB ps i))) := bytes_kept HV2.out (bel_alloc w2 (.cells #[] 5)) (Nat.le_refl _)
              have HO2 : Hid ((w2.alloc (.cells #[] 5)).ownsRow w2.heap.size 5 1 (.slice (some ⟨w2.heap.size, 0, none⟩) 0 0) 0 (cellsOf [])) := own_empty w2
              have HVL : Hid ((rowB (cutB ps i)).length = vn) := HV2.out.1
              clear r1 r2
              go_wp2_with (at_builtin; refine wpList_append_bytes _ rfl (.tmp 98) (.tmp 99) rfl w2.heap.size _ 0 [] rfl HO2.out (by simp) vo vn vc (rowB (cutB ps i)) rfl HA2.out FV.out (Nat.le_trans (Nat.le_of_eq (Nat.zero_add _)) HVB.out) ?_)
              intro u3 w3 hown3 hb3
              clear w8 h8q
              try clear hnegw hnr
              have hb23 := (bel_alloc w2 (.cells #[] 5)).trans hb3
              rw [HVL.out] at hown3
              have HO3 : Hid (w3.ownsRow w2.heap.size 5 1 u3 vn (cellsOf (rowB (cutB ps i)))) := hown3
              have HB3 : Hid (Below w.heap.size w w3) := HB2.out.trans (hb23.mono HB2.out.size)
              have HM3 : Hid (Bytes w3 (some ⟨gm, 0, none⟩) j ((frameB y).take j)) := bytes_take (bytes_kept HM2.out hb23 (Nat.le_refl _)) j (Nat.le_of_lt HJ.out)
              have HZ3 : Hid (w2.heap.size ≤ w3.heap.size) := hb23.size
              have HB23 : Hid (w.heap.size ≤ w2.heap.size) := HB2.out.size
              clear hown3 hb3 hb23 HA2 HO2 HB2 HM2 HV2
              go_wp2_with (at_builtin; refine wpList_append_bytes _ rfl (.tmp 102) (.tmp 103) rfl w2.heap.size _ vn (rowB (cutB ps i)) rfl HO3.out HZ3.out (some ⟨gm, 0, none⟩) j cm ((frameB y).take j) rfl HM3.out (fun h => by cases h) (Nat.le_trans (Nat.add_le_add_right HVS.out j) (Nat.le_trans (Nat.add_le_add_left (Nat.le_of_lt HJ.out) _) HKS.out)) ?_)
              intro u4 w4 hown4 hb4
              have hown5 : w4.ownsRow w2.heap.size 5 1 u4 (rowB (cutB ps i) ++ (frameB y).take j).length (cellsOf (rowB (cutB ps i) ++ (frameB y).take j)) := by rw [List.length_append, List.length_take]; exact hown4
              obtain ⟨R1, R2, R3⟩ := row_cut (cutB ps i) y j (cutB_small ps i) (Nat.le_trans (Nat.le_of_eq HYL.out) HQ6.out) (Nat.lt_of_lt_of_le HJ.out (Nat.le_of_eq (by rw [HYL.out, HKQ.out])))
              obtain ⟨A, HA⟩ : ∃ A, Hid (rowB (cutB ps i) ++ (frameB y).take j = A) := ⟨_, rfl⟩
              rw [HA.out] at hown5 R1 R2 R3
              obtain ⟨N4, hN4⟩ : ∃ n, A.length = n := ⟨_, rfl⟩
              rw [hN4] at hown5
              have hN5 : N4 ≤ 1000000000 := by
                rw [← hN4, ← HA.out, List.length_append, List.length_take, HVL.out]
                exact Nat.le_trans (Nat.add_le_add HVS.out (Nat.le_trans (Nat.min_le_left _ _) (Nat.le_of_lt HJ.out))) HKS2.out
              obtain ⟨ao4, c4, rfl, hby4, h04, hlc4, hcm4, -, hin4⟩ := own_bytes hown5
              have HB4 : Hid (Below w.heap.size w w4) := HB3.out.trans (hb4.mono HB23.out)
              have HAL := all_any ⟨ao4, N4, c4, A⟩ w4 hby4 ⟨h04, hlc4, Nat.le_trans hcm4 (by unfold maxLen; decide)⟩ (fun q hq => (hin4 q hq).2) hN5
              simp only at HAL
              rw [R1, R2, R3, HVL.out] at HAL
              have HALL : Hid _ := HAL
              clear hown4 hown5 hb4 HAL R1 R2 R3 hby4 h04 hlc4 hcm4 hin4 hN4 hN5 HO3 HM3 HZ3 HB3 HA hrem hj1
              go_wp2_with fail
              refine Calls.mono HALL.out ?_
              rintro e w5 ⟨u5, xs5, rfl, hrow, htold, hzs, hb5⟩
              have HB5 : Hid (Below w.heap.size w w5) := HB4.out.trans (hb5.mono HB4.out.size)
              have hxl : xs5.length = i := by have h6 := congrArg List.length hzs; rw [List.length_map, cutB_len ps i (by rw [HLEN.out]; exact HN40.out.1)] at h6; exact h6
              rw [hxl] at hrow
              obtain ⟨lo, lc, rfl⟩ : ∃ lo lc, u5 = .slice lo i lc := by
                rcases hrow.2 with ⟨e1, e2⟩ | ⟨gr, cap, cur, e1, _⟩
                · exact ⟨none, 0, by rw [e1, e2]⟩
                · exact ⟨_, _, e1⟩
              have HR5 : Hid (w5.ownsRow w4.heap.size 28 1 (.slice lo i lc) i (svC xs5)) := hrow
              have HT5 : Hid (Told w4.heap.size w5 xs5) := htold
              have HZS : Hid (xs5.map SV.bs = cutB ps i) := hzs
              clear hrow htold hzs hb5 HALL HB4
              obtain ⟨f, HF⟩ : ∃ f : Nat, Hid ((if j = 0 then 0 else 5) = f) := ⟨_, rfl⟩
              rw [HF.out]
              rcases Nat.eq_zero_or_pos j with hj | hj
              · as_aux_lemma =>
                  have hf : f = 0 := by rw [← HF.out, if_pos hj]
                  subst hf
                  subst hj
                  have HX5 : Hid (xs5.length = i) := hxl
                  clear hxl
                  go_wp2_with fail
                  go_loopw [19] (fun a wr => ∃ (k : Nat), k ≤ i ∧ a = .int .i64 k ∧ Hid (Below w5.heap.size w5 wr)) (fun a _ => i - (intOf a).toNat)
                  case atStart => exact ⟨0, Nat.zero_le _, rfl, Below.refl _ _⟩
                  case round =>
                    obtain ⟨k, hk, rfl, HWR⟩ := hrel
                    by_cases hki : k < i
                    · obtain ⟨x5, hx5⟩ : ∃ y, xs5[k]? = some y := ⟨xs5[k]'(by rw [HX5.out]; exact hki), by simp⟩
                      obtain ⟨p, hp⟩ : ∃ p, ps[k]? = some p := ⟨ps[k]'(by rw [HLEN.out]; exact Nat.lt_of_lt_of_le hki HN40.out.1), by simp⟩
                      obtain rfl := HAO.out (Nat.lt_of_le_of_lt (Nat.zero_le k) (Nat.lt_of_lt_of_le hki HN40.out.1))
                      have hbs : x5.bs = p.bs.take 3000 := by
                        have h6 := congrArg (fun l => l[k]?) HZS.out
                        simp only [List.getElem?_map, hx5] at h6
                        rw [cutB_at ps i k p hki hp] at h6
                        exact Option.some.inj h6
                      obtain ⟨g5, rfl, -, hcell⟩ := sv_cell (own_below HR5.out HWR.out (Nat.le_refl _)) hx5
                      have HBW : Hid (Below w.heap.size w wr) := HB5.out.trans (HWR.out.mono HB5.out.size)
                      have hby5 : Bytes wr x5.ao x5.n x5.bs := by
                        obtain ⟨ao3, c3, e3, hb3, -⟩ := own_bytes (own_below (HT5.out.1 x5 (List.mem_of_getElem? hx5)) HWR.out (Nat.le_refl _))
                        cases e3; exact hb3
                      obtain ⟨po, pn, pc, pb⟩ := p
                      obtain ⟨hc1, hc2, hc3, hc4, hc5⟩ := (HPS.out.below HBW.out (Nat.le_refl _)) k _ hp
                      simp only at hc1 hc2 hc3 hc4 hc5 hbs
                      obtain ⟨m, hm⟩ : ∃ m, min pn 3000 = m := ⟨_, rfl⟩
                      obtain ⟨hmin, hm1, hm2⟩ := minfacts hm hc4
                      have hpb : Bytes wr po m x5.bs := by
                        have h6 := bytes_take hc2 m (by rw [← hm]; exact Nat.min_le_left _ _)
                        rw [take_min hc2.1 hm, ← hbs] at h6; exact h6
                      obtain ⟨x5o, x5n, x5c, x5b⟩ := x5
                      simp only at hcell hby5 hpb
                      have cv1 : ∀ kk, (convert 28 9 (.slice x5o x5n x5c)).run Try.prog (wr.drewN kk) = .ok (.string (bS x5b)) (wr.drewN kk) := fun kk => str_bS _ (bytes_drewN kk hby5)
                      have cv2 : ∀ kk, (convert 28 9 (.slice po m pc)).run Try.prog (wr.drewN kk) = .ok (.string (bS x5b)) (wr.drewN kk) := fun kk => str_bS _ (bytes_drewN kk hpb)
                      have hki' : (k : Int) < (i : Int) := Int.ofNat_lt.2 hki
                      have hkl' : (k : Int) < (len : Int) := Int.ofNat_lt.2 (Nat.lt_of_lt_of_le hki HN40.out.1)
                      have hk0 : (0 : Int) ≤ (k : Int) := Int.natCast_nonneg _
                      have hinc : wrap64 ((k : Int) + 1) = ((k + 1 : Nat) : Int) := winc (Nat.lt_of_lt_of_le hki (Nat.le_trans HN40.out.2 (by decide)))
                      clear hby5 hpb hc2 hc3 hc4 hc5 hbs hx5 hp hm hk
                      go_wp2_with fail
                      go_quiet (fail)
                      have HWR2 : Hid (Below w5.heap.size w5 (wr.drewN nq)) := bel_drewN HWR.out nq
                      clear cv1 cv2 hc1 hcell
                      go_wp2_with fail
                      exact ⟨⟨k + 1, hki, by first | rfl | rw [hinc], HWR2⟩, by first | exact meas_up hki | (rw [hinc]; exact meas_up hki)⟩
                    · have hki' : ¬ (k : Int) < (i : Int) := fun h => hki (Int.ofNat_lt.1 h)
                      have HBW : Hid (Below w.heap.size w wr) := HB5.out.trans (HWR.out.mono HB5.out.size)
                      clear hk
                      go_wp2_with fail
                      go_ret
                      exact ⟨rfl, HBW.out⟩
              · as_aux_lemma =>
                  have hf : f = 5 := by rw [← HF.out, if_neg (Nat.pos_iff_ne_zero.1 hj)]
                  subst hf
                  have hjz : ¬ (j : Int) = 0 := by omega
                  have hje : ((j : Int) == 0) = false := by simp; omega
                  have HX5 : Hid (xs5.length = i) := hxl
                  clear hxl
                  go_wp2_with fail
                  go_loopw [19] (fun a wr => ∃ (k : Nat), k ≤ i ∧ a = .int .i64 k ∧ Hid (Below w5.heap.size w5 wr)) (fun a _ => i - (intOf a).toNat)
                  case atStart => exact ⟨0, Nat.zero_le _, rfl, Below.refl _ _⟩
                  case round =>
                    obtain ⟨k, hk, rfl, HWR⟩ := hrel
                    by_cases hki : k < i
                    · obtain ⟨x5, hx5⟩ : ∃ y, xs5[k]? = some y := ⟨xs5[k]'(by rw [HX5.out]; exact hki), by simp⟩
                      obtain ⟨p, hp⟩ : ∃ p, ps[k]? = some p := ⟨ps[k]'(by rw [HLEN.out]; exact Nat.lt_of_lt_of_le hki HN40.out.1), by simp⟩
                      obtain rfl := HAO.out (Nat.lt_of_le_of_lt (Nat.zero_le k) (Nat.lt_of_lt_of_le hki HN40.out.1))
                      have hbs : x5.bs = p.bs.take 3000 := by
                        have h6 := congrArg (fun l => l[k]?) HZS.out
                        simp only [List.getElem?_map, hx5] at h6
                        rw [cutB_at ps i k p hki hp] at h6
                        exact Option.some.inj h6
                      obtain ⟨g5, rfl, -, hcell⟩ := sv_cell (own_below HR5.out HWR.out (Nat.le_refl _)) hx5
                      have HBW : Hid (Below w.heap.size w wr) := HB5.out.trans (HWR.out.mono HB5.out.size)
                      have hby5 : Bytes wr x5.ao x5.n x5.bs := by
                        obtain ⟨ao3, c3, e3, hb3, -⟩ := own_bytes (own_below (HT5.out.1 x5 (List.mem_of_getElem? hx5)) HWR.out (Nat.le_refl _))
                        cases e3; exact hb3
                      obtain ⟨po, pn, pc, pb⟩ := p
                      obtain ⟨hc1, hc2, hc3, hc4, hc5⟩ := (HPS.out.below HBW.out (Nat.le_refl _)) k _ hp
                      simp only at hc1 hc2 hc3 hc4 hc5 hbs
                      obtain ⟨m, hm⟩ : ∃ m, min pn 3000 = m := ⟨_, rfl⟩
                      obtain ⟨hmin, hm1, hm2⟩ := minfacts hm hc4
                      have hpb : Bytes wr po m x5.bs := by
                        have h6 := bytes_take hc2 m (by rw [← hm]; exact Nat.min_le_left _ _)
                        rw [take_min hc2.1 hm, ← hbs] at h6; exact h6
                      obtain ⟨x5o, x5n, x5c, x5b⟩ := x5
                      simp only at hcell hby5 hpb
                      have cv1 : ∀ kk, (convert 28 9 (.slice x5o x5n x5c)).run Try.prog (wr.drewN kk) = .ok (.string (bS x5b)) (wr.drewN kk) := fun kk => str_bS _ (bytes_drewN kk hby5)
                      have cv2 : ∀ kk, (convert 28 9 (.slice po m pc)).run Try.prog (wr.drewN kk) = .ok (.string (bS x5b)) (wr.drewN kk) := fun kk => str_bS _ (bytes_drewN kk hpb)
                      have hki' : (k : Int) < (i : Int) := Int.ofNat_lt.2 hki
                      have hkl' : (k : Int) < (len : Int) := Int.ofNat_lt.2 (Nat.lt_of_lt_of_le hki HN40.out.1)
                      have hk0 : (0 : Int) ≤ (k : Int) := Int.natCast_nonneg _
                      have hinc : wrap64 ((k : Int) + 1) = ((k + 1 : Nat) : Int) := winc (Nat.lt_of_lt_of_le hki (Nat.le_trans HN40.out.2 (by decide)))
                      clear hby5 hpb hc2 hc3 hc4 hc5 hbs hx5 hp hm hk
                      go_wp2_with fail
                      go_quiet (fail)
                      have HWR2 : Hid (Below w5.heap.size w5 (wr.drewN nq)) := bel_drewN HWR.out nq
                      clear cv1 cv2 hc1 hcell
                      go_wp2_with fail
                      exact ⟨⟨k + 1, hki, by first | rfl | rw [hinc], HWR2⟩, by first | exact meas_up hki | (rw [hinc]; exact meas_up hki)⟩
                    · have hki' : ¬ (k : Int) < (i : Int) := fun h => hki (Int.ofNat_lt.1 h)
                      have HBW : Hid (Below w.heap.size w wr) := HB5.out.trans (HWR.out.mono HB5.out.size)
                      clear hk
                      go_wp2_with fail
                      go_ret
                      exact ⟨rfl, HBW.out⟩
          · as_aux_lemma =>
              obtain ⟨r, rfl⟩ : ∃ r : Nat, cut0 = (r : Int) := ⟨cut0.toNat, by omega⟩
              have w8 := HW8.out
              have h8q := H8Q.out
              obtain ⟨j, hrem, HJ⟩ : ∃ j : Nat, (r : Int) % (Km : Int) = (j : Int) ∧ Hid (j < Km) := ⟨r % Km, modcast r Km, Nat.mod_lt _ (HKP.out)⟩
              have hj0 : (0 : Int) ≤ (j : Int) := Int.natCast_nonneg _
              have hj1 : (j : Int) ≤ (cm : Int) := Int.ofNat_le.2 (Nat.le_trans (Nat.le_of_lt HJ.out) r1)
              have HA2 : Hid (Bytes (w2.alloc (.cells #[] 5)) vo vn (rowB (cutB ps i))) := bytes_kept HV2.out (bel_alloc w2 (.cells #[] 5)) (Nat.le_refl _)
              have HO2 : Hid ((w2.alloc (.cells #[] 5)).ownsRow w2.heap.size 5 1 (.slice (some ⟨w2.heap.size, 0, none⟩) 0 0) 0 (cellsOf [])) := own_empty w2
              have HVL : Hid ((rowB (cutB ps i)).length = vn) := HV2.out.1
              clear r1 r2
              go_wp2_with (at_builtin; refine wpList_append_bytes _ rfl (.tmp 98) (.tmp 99) rfl w2.heap.size _ 0 [] rfl HO2.out (by simp) vo vn vc (rowB (cutB ps i)) rfl HA2.out FV.out (Nat.le_trans (Nat.le_of_eq (Nat.zero_add _)) HVB.out) ?_)
              intro u3 w3 hown3 hb3
              clear w8 h8q
              try clear hnegw hnr
              have hb23 := (bel_alloc w2 (.cells #[] 5)).trans hb3
              rw [HVL.out] at hown3
              have HO3 : Hid (w3.ownsRow w2.heap.size 5 1 u3 vn (cellsOf (rowB (cutB ps i)))) := hown3
              have HB3 : Hid (Below w.heap.size w w3) := HB2.out.trans (hb23.mono HB2.out.size)
              have HM3 : Hid (Bytes w3 (some ⟨gm, 0, none⟩) j ((frameB y).take j)) := bytes_take (bytes_kept HM2.out hb23 (Nat.le_refl _)) j (Nat.le_of_lt HJ.out)
              have HZ3 : Hid (w2.heap.size ≤ w3.heap.size) := hb23.size
              have HB23 : Hid (w.heap.size ≤ w2.heap.size) := HB2.out.size
              clear hown3 hb3 hb23 HA2 HO2 HB2 HM2 HV2
              go_wp2_with (at_builtin; refine wpList_append_bytes _ rfl (.tmp 102) (.tmp 103) rfl w2.heap.size _ vn (rowB (cutB ps i)) rfl HO3.out HZ3.out (some ⟨gm, 0, none⟩) j cm ((frameB y).take j) rfl HM3.out (fun h => by cases h) (Nat.le_trans (Nat.add_le_add_right HVS.out j) (Nat.le_trans (Nat.add_le_add_left (Nat.le_of_lt HJ.out) _) HKS.out)) ?_)
              intro u4 w4 hown4 hb4
              have hown5 : w4.ownsRow w2.heap.size 5 1 u4 (rowB (cutB ps i) ++ (frameB y).take j).length (cellsOf (rowB (cutB ps i) ++ (frameB y).take j)) := by rw [List.length_append, List.length_take]; exact hown4
              obtain ⟨R1, R2, R3⟩ := row_cut (cutB ps i) y j (cutB_small ps i) (Nat.le_trans (Nat.le_of_eq HYL.out) HQ6.out) (Nat.lt_of_lt_of_le HJ.out (Nat.le_of_eq (by rw [HYL.out, HKQ.out])))
              obtain ⟨A, HA⟩ : ∃ A, Hid (rowB (cutB ps i) ++ (frameB y).take j = A) := ⟨_, rfl⟩
              rw [HA.out] at hown5 R1 R2 R3
              obtain ⟨N4, hN4⟩ : ∃ n, A.length = n := ⟨_, rfl⟩
              rw [hN4] at hown5
              have hN5 : N4 ≤ 1000000000 := by
                rw [← hN4, ← HA.out, List.length_append, List.length_take, HVL.out]
                exact Nat.le_trans (Nat.add_le_add HVS.out (Nat.le_trans (Nat.min_le_left _ _) (Nat.le_of_lt HJ.out))) HKS2.out
              obtain ⟨ao4, c4, rfl, hby4, h04, hlc4, hcm4, -, hin4⟩ := own_bytes hown5
              have HB4 : Hid (Below w.heap.size w w4) := HB3.out.trans (hb4.mono HB23.out)
              have HAL := all_any ⟨ao4, N4, c4, A⟩ w4 hby4 ⟨h04, hlc4, Nat.le_trans hcm4 (by unfold maxLen; decide)⟩ (fun q hq => (hin4 q hq).2) hN5
              simp only at HAL
              rw [R1, R2, R3, HVL.out] at HAL
              have HALL : Hid _ := HAL
              clear hown4 hown5 hb4 HAL R1 R2 R3 hby4 h04 hlc4 hcm4 hin4 hN4 hN5 HO3 HM3 HZ3 HB3 HA hrem hj1
              go_wp2_with fail
              refine Calls.mono HALL.out ?_
              rintro e w5 ⟨u5, xs5, rfl, hrow, htold, hzs, hb5⟩
              have HB5 : Hid (Below w.heap.size w w5) := HB4.out.trans (hb5.mono HB4.out.size)
              have hxl : xs5.length = i := by have h6 := congrArg List.length hzs; rw [List.length_map, cutB_len ps i (by rw [HLEN.out]; exact HN40.out.1)] at h6; exact h6
              rw [hxl] at hrow
              obtain ⟨lo, lc, rfl⟩ : ∃ lo lc, u5 = .slice lo i lc := by
                rcases hrow.2 with ⟨e1, e2⟩ | ⟨gr, cap, cur, e1, _⟩
                · exact ⟨none, 0, by rw [e1, e2]⟩
                · exact ⟨_, _, e1⟩
              have HR5 : Hid (w5.ownsRow w4.heap.size 28 1 (.slice lo i lc) i (svC xs5)) := hrow
              have HT5 : Hid (Told w4.heap.size w5 xs5) := htold
              have HZS : Hid (xs5.map SV.bs = cutB ps i) := hzs
              clear hrow htold hzs hb5 HALL HB4
              obtain ⟨f, HF⟩ : ∃ f : Nat, Hid ((if j = 0 then 0 else 5) = f) := ⟨_, rfl⟩
              rw [HF.out]
              rcases Nat.eq_zero_or_pos j with hj | hj
              · as_aux_lemma =>
                  have hf : f = 0 := by rw [← HF.out, if_pos hj]
                  subst hf
                  subst hj
                  have HX5 : Hid (xs5.length = i) := hxl
                  clear hxl
                  go_wp2_with fail
                  go_loopw [19] (fun a wr => ∃ (k : Nat), k ≤ i ∧ a = .int .i64 k ∧ Hid (Below w5.heap.size w5 wr)) (fun a _ => i - (intOf a).toNat)
                  case atStart => exact ⟨0, Nat.zero_le _, rfl, Below.refl _ _⟩
                  case round =>
                    obtain ⟨k, hk, rfl, HWR⟩ := hrel
                    by_cases hki : k < i
                    · obtain ⟨x5, hx5⟩ : ∃ y, xs5[k]? = some y := ⟨xs5[k]'(by rw [HX5.out]; exact hki), by simp⟩
                      obtain ⟨p, hp⟩ : ∃ p, ps[k]? = some p := ⟨ps[k]'(by rw [HLEN.out]; exact Nat.lt_of_lt_of_le hki HN40.out.1), by simp⟩
                      obtain rfl := HAO.out (Nat.lt_of_le_of_lt (Nat.zero_le k) (Nat.lt_of_lt_of_le hki HN40.out.1))
                      have hbs : x5.bs = p.bs.take 3000 := by
                        have h6 := congrArg (fun l => l[k]?) HZS.out
                        simp only [List.getElem?_map, hx5] at h6
                        rw [cutB_at ps i k p hki hp] at h6
                        exact Option.some.inj h6
                      obtain ⟨g5, rfl, -, hcell⟩ := sv_cell (own_below HR5.out HWR.out (Nat.le_refl _)) hx5
                      have HBW : Hid (Below w.heap.size w wr) := HB5.out.trans (HWR.out.mono HB5.out.size)
                      have hby5 : Bytes wr x5.ao x5.n x5.bs := by
                        obtain ⟨ao3, c3, e3, hb3, -⟩ := own_bytes (own_below (HT5.out.1 x5 (List.mem_of_getElem? hx5)) HWR.out (Nat.le_refl _))
                        cases e3; exact hb3
                      obtain ⟨po, pn, pc, pb⟩ := p
                      obtain ⟨hc1, hc2, hc3, hc4, hc5⟩ := (HPS.out.below HBW.out (Nat.le_refl _)) k _ hp
                      simp only at hc1 hc2 hc3 hc4 hc5 hbs
                      obtain ⟨m, hm⟩ : ∃ m, min pn 3000 = m := ⟨_, rfl⟩
                      obtain ⟨hmin, hm1, hm2⟩ := minfacts hm hc4
                      have hpb : Bytes wr po m x5.bs := by
                        have h6 := bytes_take hc2 m (by rw [← hm]; exact Nat.min_le_left _ _)
                        rw [take_min hc2.1 hm, ← hbs] at h6; exact h6
                      obtain ⟨x5o, x5n, x5c, x5b⟩ := x5
                      simp only at hcell hby5 hpb
                      have cv1 : ∀ kk, (convert 28 9 (.slice x5o x5n x5c)).run Try.prog (wr.drewN kk) = .ok (.string (bS x5b)) (wr.drewN kk) := fun kk => str_bS _ (bytes_drewN kk hby5)
                      have cv2 : ∀ kk, (convert 28 9 (.slice po m pc)).run Try.prog (wr.drewN kk) = .ok (.string (bS x5b)) (wr.drewN kk) := fun kk => str_bS _ (bytes_drewN kk hpb)
                      have hki' : (k : Int) < (i : Int) := Int.ofNat_lt.2 hki
                      have hkl' : (k : Int) < (len : Int) := Int.ofNat_lt.2 (Nat.lt_of_lt_of_le hki HN40.out.1)
                      have hk0 : (0 : Int) ≤ (k : Int) := Int.natCast_nonneg _
                      have hinc : wrap64 ((k : Int) + 1) = ((k + 1 : Nat) : Int) := winc (Nat.lt_of_lt_of_le hki (Nat.le_trans HN40.out.2 (by decide)))
                      clear hby5 hpb hc2 hc3 hc4 hc5 hbs hx5 hp hm hk
                      go_wp2_with fail
                      go_quiet (fail)
                      have HWR2 : Hid (Below w5.heap.size w5 (wr.drewN nq)) := bel_drewN HWR.out nq
                      clear cv1 cv2 hc1 hcell
                      go_wp2_with fail
                      exact ⟨⟨k + 1, hki, by first | rfl | rw [hinc], HWR2⟩, by first | exact meas_up hki | (rw [hinc]; exact meas_up hki)⟩
                    · have hki' : ¬ (k : Int) < (i : Int) := fun h => hki (Int.ofNat_lt.1 h)
                      have HBW : Hid (Below w.heap.size w wr) := HB5.out.trans (HWR.out.mono HB5.out.size)
                      clear hk
                      go_wp2_with fail
                      go_ret
                      exact ⟨rfl, HBW.out⟩
              · as_aux_lemma =>
                  have hf : f = 5 := by rw [← HF.out, if_neg (Nat.pos_iff_ne_zero.1 hj)]
                  subst hf
                  have hjz : ¬ (j : Int) = 0 := by omega
                  have hje : ((j : Int) == 0) = false := by simp; omega
                  have HX5 : Hid (xs5.length = i) := hxl
                  clear hxl
                  go_wp2_with fail
                  go_loopw [19] (fun a wr => ∃ (k : Nat), k ≤ i ∧ a = .int .i64 k ∧ Hid (Below w5.heap.size w5 wr)) (fun a _ => i - (intOf a).toNat)
                  case atStart => exact ⟨0, Nat.zero_le _, rfl, Below.refl _ _⟩
                  case round =>
                    obtain ⟨k, hk, rfl, HWR⟩ := hrel
                    by_cases hki : k < i
                    · obtain ⟨x5, hx5⟩ : ∃ y, xs5[k]? = some y := ⟨xs5[k]'(by rw [HX5.out]; exact hki), by simp⟩
                      obtain ⟨p, hp⟩ : ∃ p, ps[k]? = some p := ⟨ps[k]'(by rw [HLEN.out]; exact Nat.lt_of_lt_of_le hki HN40.out.1), by simp⟩
                      obtain rfl := HAO.out (Nat.lt_of_le_of_lt (Nat.zero_le k) (Nat.lt_of_lt_of_le hki HN40.out.1))
                      have hbs : x5.bs = p.bs.take 3000 := by
                        have h6 := congrArg (fun l => l[k]?) HZS.out
                        simp only [List.getElem?_map, hx5] at h6
                        rw [cutB_at ps i k p hki hp] at h6
                        exact Option.some.inj h6
                      obtain ⟨g5, rfl, -, hcell⟩ := sv_cell (own_below HR5.out HWR.out (Nat.le_refl _)) hx5
                      have HBW : Hid (Below w.heap.size w wr) := HB5.out.trans (HWR.out.mono HB5.out.size)
                      have hby5 : Bytes wr x5.ao x5.n x5.bs := by
                        obtain ⟨ao3, c3, e3, hb3, -⟩ := own_bytes (own_below (HT5.out.1 x5 (List.mem_of_getElem? hx5)) HWR.out (Nat.le_refl _))
                        cases e3; exact hb3
                      obtain ⟨po, pn, pc, pb⟩ := p
                      obtain ⟨hc1, hc2, hc3, hc4, hc5⟩ := (HPS.out.below HBW.out (Nat.le_refl _)) k _ hp
                      simp only at hc1 hc2 hc3 hc4 hc5 hbs
                      obtain ⟨m, hm⟩ : ∃ m, min pn 3000 = m := ⟨_, rfl⟩
                      obtain ⟨hmin, hm1, hm2⟩ := minfacts hm hc4
                      have hpb : Bytes wr po m x5.bs := by
                        have h6 := bytes_take hc2 m (by rw [← hm]; exact Nat.min_le_left _ _)
                        rw [take_min hc2.1 hm, ← hbs] at h6; exact h6
                      obtain ⟨x5o, x5n, x5c, x5b⟩ := x5
                      simp only at hcell hby5 hpb
                      have cv1 : ∀ kk, (convert 28 9 (.slice x5o x5n x5c)).run Try.prog (wr.drewN kk) = .ok (.string (bS x5b)) (wr.drewN kk) := fun kk => str_bS _ (bytes_drewN kk hby5)
                      have cv2 : ∀ kk, (convert 28 9 (.slice po m pc)).run Try.prog (wr.drewN kk) = .ok (.string (bS x5b)) (wr.drewN kk) := fun kk => str_bS _ (bytes_drewN kk hpb)
                      have hki' : (k : Int) < (i : Int) := Int.ofNat_lt.2 hki
                      have hkl' : (k : Int) < (len : Int) := Int.ofNat_lt.2 (Nat.lt_of_lt_of_le hki HN40.out.1)
                      have hk0 : (0 : Int) ≤ (k : Int) := Int.natCast_nonneg _
                      have hinc : wrap64 ((k : Int) + 1) = ((k + 1 : Nat) : Int) := winc (Nat.lt_of_lt_of_le hki (Nat.le_trans HN40.out.2 (by decide)))
                      clear hby5 hpb hc2 hc3 hc4 hc5 hbs hx5 hp hm hk
                      go_wp2_with fail
                      go_quiet (fail)
                      have HWR2 : Hid (Below w5.heap.size w5 (wr.drewN nq)) := bel_drewN HWR.out nq
                      clear cv1 cv2 hc1 hcell
                      go_wp2_with fail
                      exact ⟨⟨k + 1, hki, by first | rfl | rw [hinc], HWR2⟩, by first | exact meas_up hki | (rw [hinc]; exact meas_up hki)⟩
                    · have hki' : ¬ (k : Int) < (i : Int) := fun h => hki (Int.ofNat_lt.1 h)
                      have HBW : Hid (Below w.heap.size w wr) := HB5.out.trans (HWR.out.mono HB5.out.size)
                      clear hk
                      go_wp2_with fail
                      go_ret
                      exact ⟨rfl, HBW.out⟩
      · as_aux_lemma =>
          have hil' : ¬ (i : Int) < (len : Int) := by omega
          have HN40 : Hid (i ≤ len ∧ i ≤ 40) := ⟨hi, hi40⟩
          have hvn : vn ≤ 120320 := by have := HV.out.2.2; omega
          obtain ⟨Km, hKm⟩ : ∃ k, 8 + q = k := ⟨_, rfl⟩
          have HPN : Hid (∀ W, Below w.heap.size w W → Calls Try.prog 44 #[.slice none 0 0, .slice zo q zc] W fun e w' => ∃ g c, e = .returned (.tuple #[.slice (some ⟨g, 0, none⟩) Km c, .int .i64 0]) ∧ w'.ownsRow W.heap.size 5 1 (.slice (some ⟨g, 0, none⟩) Km c) Km (cellsOf (frameB y)) ∧ (Km ≤ c ∧ c ≤ 9223372036854775807) ∧ (W.heap.size ≤ g ∧ g < w'.heap.size) ∧ Below W.heap.size W w') := fun W hW => put_nil ⟨zo, q, zc, y⟩ Km W (HZ.out W hW) FZ.out (by show q ≤ 65536; omega) hKm
          have H8Q : Hid ((8 : Int) + (q : Int) = (Km : Int)) := by show _ = _; omega
          have HW8 : Hid (wrap64 (8 + (q : Int)) = (Km : Int)) := wfirst hKm (by omega)
          clear hi hi40
          go_wp2_with fail
          refine Calls.mono (HPN.out _ HBW.out) ?_
          rintro e w2 ⟨gm, cm, rfl, hom, ⟨r1, r2⟩, -, hb2⟩
          have HB2 : Hid (Below w.heap.size w w2) := HBW.out.trans (hb2.mono HBW.out.size)
          have HM2 : Hid (Bytes w2 (some ⟨gm, 0, none⟩) Km (frameB y)) := own_row_bytes hom
          have HV2 : Hid (Bytes w2 vo vn (rowB (cutB ps i))) := bytes_kept HV.out.1 hb2 (Nat.le_refl _)
          have FV : Hid (vo = none → vc = 0) := HV.out.2.1.1
          have hKm0 : ¬ (Km : Int) = 0 := by omega
          clear hom hb2 HPN HV HBW
          have HKP : Hid (0 < Km) := by show 0 < Km; omega
          have HVB : Hid (vn ≤ 140737488355328) := by show vn ≤ _; omega
          have HVS : Hid (vn ≤ 120320) := hvn
          have HKS2 : Hid (120320 + Km ≤ 1000000000) := by show _ ≤ _; omega
          have HQ6 : Hid (q ≤ 65536) := by show _ ≤ _; omega
          have HKQ : Hid (8 + q = Km) := hKm
          have HKS : Hid (120320 + Km ≤ 140737488355328) := by show _ ≤ _; omega
          clear hKm hq1 k3 k4 hvn
          by_cases hneg : cut0 < 0
          · as_aux_lemma =>
              obtain ⟨r, HRR⟩ : ∃ r : Nat, Hid (-(cut0 + 1) = (r : Int) ∧ r ≤ 9223372036854775807) := ⟨(-(cut0 + 1)).toNat, by have := HAT.out; omega, by have := HAT.out; omega⟩
              obtain ⟨hnegw, hnr⟩ := wneg HRR.out.1 HRR.out.2
              have w8 := HW8.out
              have h8q := H8Q.out
              obtain ⟨j, hrem, HJ⟩ : ∃ j : Nat, (r : Int) % (Km : Int) = (j : Int) ∧ Hid (j < Km) := ⟨r % Km, modcast r Km, Nat.mod_lt _ (HKP.out)⟩
              have hj0 : (0 : Int) ≤ (j : Int) := Int.natCast_nonneg _
              have hj1 : (j : Int) ≤ (cm : Int) := Int.ofNat_le.2 (Nat.le_trans (Nat.le_of_lt HJ.out) r1)
              have HA2 : Hid (Bytes (w2.alloc (.cells #[] 5)) vo vn (rowB (cutB ps i))) := bytes_kept HV2.out (bel_alloc w2 (.cells #[] 5)) (Nat.le_refl _)
              have HO2 : Hid ((w2.alloc (.cells #[] 5)).ownsRow w2.heap.size 5 1 (.slice (some ⟨w2.heap.size, 0, none⟩) 0 0) 0 (cellsOf [])) := own_empty w2
              have HVL : Hid ((rowB (cutB ps i)).length = vn) := HV2.out.1
              clear r1 r2
              go_wp2_with (at_builtin; refine wpList_append_bytes _ rfl (.tmp 98) (.tmp 99) rfl w2.heap.size _ 0 [] rfl HO2.out (by simp) vo vn vc (rowB (cutB ps i)) rfl HA2.out FV.out (Nat.le_trans (Nat.le_of_eq (Nat.zero_add _)) HVB.out) ?_)
              intro u3 w3 hown3 hb3
              clear w8 h8q
              try clear hnegw hnr
              have hb23 := (bel_alloc w2 (.cells #[] 5)).trans hb3
              rw [HVL.out] at hown3
              have HO3 : Hid (w3.ownsRow w2.heap.size 5 1 u3 vn (cellsOf (rowB (cutB ps i)))) := hown3
              have HB3 : Hid (Below w.heap.size w w3) := HB2.out.trans (hb23.mono HB2.out.size)
              have HM3 : Hid (Bytes w3 (some ⟨gm, 0, none⟩) j ((frameB y).take j)) := bytes_take (bytes_kept HM2.out hb23 (Nat.le_refl _)) j (Nat.le_of_lt HJ.out)
              have HZ3 : Hid (w2.heap.size ≤ w3.heap.size) := hb23.size
              have HB23 : Hid (w.heap.size ≤ w2.heap.size) := HB2.out.size
              clear hown3 hb3 hb23 HA2 HO2 HB2 HM2 HV2
              go_wp2_with (at_builtin; refine wpList_append_bytes _ rfl (.tmp 102) (.tmp 103) rfl w2.heap.size _ vn (rowB (cutB ps i)) rfl HO3.out HZ3.out (some ⟨gm, 0, none⟩) j cm ((frameB y).take j) rfl HM3.out (fun h => by cases h) (Nat.le_trans (Nat.add_le_add_right HVS.out j) (Nat.le_trans (Nat.add_le_add_left (Nat.le_of_lt HJ.out) _) HKS.out)) ?_)
              intro u4 w4 hown4 hb4
              have hown5 : w4.ownsRow w2.heap.size 5 1 u4 (rowB (cutB ps i) ++ (frameB y).take j).length (cellsOf (rowB (cutB ps i) ++ (frameB y).take j)) := by rw [List.length_append, List.length_take]; exact hown4
              obtain ⟨R1, R2, R3⟩ := row_cut (cutB ps i) y j (cutB_small ps i) (Nat.le_trans (Nat.le_of_eq HYL.out) HQ6.out) (Nat.lt_of_lt_of_le HJ.out (Nat.le_of_eq (by rw [HYL.out, HKQ.out])))
              obtain ⟨A, HA⟩ : ∃ A, Hid (rowB (cutB ps i) ++ (frameB y).take j = A) := ⟨_, rfl⟩
              rw [HA.out] at hown5 R1 R2 R3
              obtain ⟨N4, hN4⟩ : ∃ n, A.length = n := ⟨_, rfl⟩
              rw [hN4] at hown5
              have hN5 : N4 ≤ 1000000000 := by
                rw [← hN4, ← HA.out, List.length_append, List.length_take, HVL.out]
                exact Nat.le_trans (Nat.add_le_add HVS.out (Nat.le_trans (Nat.min_le_left _ _) (Nat.le_of_lt HJ.out))) HKS2.out
              obtain ⟨ao4, c4, rfl, hby4, h04, hlc4, hcm4, -, hin4⟩ := own_bytes hown5
              have HB4 : Hid (Below w.heap.size w w4) := HB3.out.trans (hb4.mono HB23.out)
              have HAL := all_any ⟨ao4, N4, c4, A⟩ w4 hby4 ⟨h04, hlc4, Nat.le_trans hcm4 (by unfold maxLen; decide)⟩ (fun q hq => (hin4 q hq).2) hN5
              simp only at HAL
              rw [R1, R2, R3, HVL.out] at HAL
              have HALL : Hid _ := HAL
              clear hown4 hown5 hb4 HAL R1 R2 R3 hby4 h04 hlc4 hcm4 hin4 hN4 hN5 HO3 HM3 HZ3 HB3 HA hrem hj1
              go_wp2_with fail
              refine Calls.mono HALL.out ?_
              rintro e w5 ⟨u5, xs5, rfl, hrow, htold, hzs, hb5⟩
              have HB5 : Hid (Below w.heap.size w w5) := HB4.out.trans (hb5.mono HB4.out.size)
              have hxl : xs5.length = i := by have h6 := congrArg List.length hzs; rw [List.length_map, cutB_len ps i (by rw [HLEN.out]; exact HN40.out.1)] at h6; exact h6
              rw [hxl] at hrow
              obtain ⟨lo, lc, rfl⟩ : ∃ lo lc, u5 = .slice lo i lc := by
                rcases hrow.2 with ⟨e1, e2⟩ | ⟨gr, cap, cur, e1, _⟩
                · exact ⟨none, 0, by rw [e1, e2]⟩
                · exact ⟨_, _, e1⟩
              have HR5 : Hid (w5.ownsRow w4.heap.size 28 1 (.slice lo i lc) i (svC xs5)) := hrow
              have HT5 : Hid (Told w4.heap.size w5 xs5) := htold
              have HZS : Hid (xs5.map SV.bs = cutB ps i) := hzs
              clear hrow htold hzs hb5 HALL HB4
              obtain ⟨f, HF⟩ : ∃ f : Nat, Hid ((if j = 0 then 0 else 5) = f) := ⟨_, rfl⟩
              rw [HF.out]
              rcases Nat.eq_zero_or_pos j with hj | hj
              · as_aux_lemma =>
                  have hf : f = 0 := by rw [← HF.out, if_pos hj]
                  subst hf
                  subst hj
                  have HX5 : Hid (xs5.length = i) := hxl
                  clear hxl
                  go_wp2_with fail
                  go_loopw [19] (fun a wr => ∃ (k : Nat), k ≤ i ∧ a = .int .i64 k ∧ Hid (Below w5.heap.size w5 wr)) (fun a _ => i - (intOf a).toNat)
                  case atStart => exact ⟨0, Nat.zero_le _, rfl, Below.refl _ _⟩
                  case round =>
                    obtain ⟨k, hk, rfl, HWR⟩ := hrel
                    by_cases hki : k < i
                    · obtain ⟨x5, hx5⟩ : ∃ y, xs5[k]? = some y := ⟨xs5[k]'(by rw [HX5.out]; exact hki), by simp⟩
                      obtain ⟨p, hp⟩ : ∃ p, ps[k]? = some p := ⟨ps[k]'(by rw [HLEN.out]; exact Nat.lt_of_lt_of_le hki HN40.out.1), by simp⟩
                      obtain rfl := HAO.out (Nat.lt_of_le_of_lt (Nat.zero_le k) (Nat.lt_of_lt_of_le hki HN40.out.1))
                      have hbs : x5.bs = p.bs.take 3000 := by
                        have h6 := congrArg (fun l => l[k]?) HZS.out
                        simp only [List.getElem?_map, hx5] at h6
                        rw [cutB_at ps i k p hki hp] at h6
                        exact Option.some.inj h6
                      obtain ⟨g5, rfl, -, hcell⟩ := sv_cell (own_below HR5.out HWR.out (Nat.le_refl _)) hx5
                      have HBW : Hid (Below w.heap.size w wr) := HB5.out.trans (HWR.out.mono HB5.out.size)
                      have hby5 : Bytes wr x5.ao x5.n x5.bs := by
                        obtain ⟨ao3, c3, e3, hb3, -⟩ := own_bytes (own_below (HT5.out.1 x5 (List.mem_of_getElem? hx5)) HWR.out (Nat.le_refl _))
                        cases e3; exact hb3
                      obtain ⟨po, pn, pc, pb⟩ := p
                      obtain ⟨hc1, hc2, hc3, hc4, hc5⟩ := (HPS.out.below HBW.out (Nat.le_refl _)) k _ hp
                      simp only at hc1 hc2 hc3 hc4 hc5 hbs
                      obtain ⟨m, hm⟩ : ∃ m, min pn 3000 = m := ⟨_, rfl⟩
                      obtain ⟨hmin, hm1, hm2⟩ := minfacts hm hc4
                      have hpb : Bytes wr po m x5.bs := by
                        have h6 := bytes_take hc2 m (by rw [← hm]; exact Nat.min_le_left _ _)
                        rw [take_min hc2.1 hm, ← hbs] at h6; exact h6
                      obtain ⟨x5o, x5n, x5c, x5b⟩ := x5
                      simp only at hcell hby5 hpb
                      have cv1 : ∀ kk, (convert 28 9 (.slice x5o x5n x5c)).run Try.prog (wr.drewN kk) = .ok (.string (bS x5b)) (wr.drewN kk) := fun kk => str_bS _ (bytes_drewN kk hby5)
                      have cv2 : ∀ kk, (convert 28 9 (.slice po m pc)).run Try.prog (wr.drewN kk) = .ok (.string (bS x5b)) (wr.drewN kk) := fun kk => str_bS _ (bytes_drewN kk hpb)
                      have hki' : (k : Int) < (i : Int) := Int.ofNat_lt.2 hki
                      have hkl' : (k : Int) < (len : Int) := Int.ofNat_lt.2 (Nat.lt_of_lt_of_le hki HN40.out.1)
                      have hk0 : (0 : Int) ≤ (k : Int) := Int.natCast_nonneg _
                      have hinc : wrap64 ((k : Int) + 1) = ((k + 1 : Nat) : Int) := winc (Nat.lt_of_lt_of_le hki (Nat.le_trans HN40.out.2 (by decide)))
                      clear hby5 hpb hc2 hc3 hc4 hc5 hbs hx5 hp hm hk
                      go_wp2_with fail
                      go_quiet (fail)
                      have HWR2 : Hid (Below w5.heap.size w5 (wr.drewN nq)) := bel_drewN HWR.out nq
                      clear cv1 cv2 hc1 hcell
                      go_wp2_with fail
                      exact ⟨⟨k + 1, hki, by first | rfl | rw [hinc], HWR2⟩, by first | exact meas_up hki | (rw [hinc]; exact meas_up hki)⟩
                    · have hki' : ¬ (k : Int) < (i : Int) := fun h => hki (Int.ofNat_lt.1 h)
                      have HBW : Hid (Below w.heap.size w wr) := HB5.out.trans (HWR.out.mono HB5.out.size)
                      clear hk
                      go_wp2_with fail
                      go_ret
                      exact ⟨rfl, HBW.out⟩
              · as_aux_lemma =>
                  have hf : f = 5 := by rw [← HF.out, if_neg (Nat.pos_iff_ne_zero.1 hj)]
                  subst hf
                  have hjz : ¬ (j : Int) = 0 := by omega
                  have hje : ((j : Int) == 0) = false := by simp; omega
                  have HX5 : Hid (xs5.length = i) := hxl
                  clear hxl
                  go_wp2_with fail
                  go_loopw [19] (fun a wr => ∃ (k : Nat), k ≤ i ∧ a = .int .i64 k ∧ Hid (Below w5.heap.size w5 wr)) (fun a _ => i - (intOf a).toNat)
                  case atStart => exact ⟨0, Nat.zero_le _, rfl, Below.refl _ _⟩
                  case round =>
                    obtain ⟨k, hk, rfl, HWR⟩ := hrel
                    by_cases hki : k < i
                    · obtain ⟨x5, hx5⟩ : ∃ y, xs5[k]? = some y := ⟨xs5[k]'(by rw [HX5.out]; exact hki), by simp⟩
                      obtain ⟨p, hp⟩ : ∃ p, ps[k]? = some p := ⟨ps[k]'(by rw [HLEN.out]; exact Nat.lt_of_lt_of_le hki HN40.out.1), by simp⟩
                      obtain rfl := HAO.out (Nat.lt_of_le_of_lt (Nat.zero_le k) (Nat.lt_of_lt_of_le hki HN40.out.1))
                      have hbs : x5.bs = p.bs.take 3000 := by
                        have h6 := congrArg (fun l => l[k]?) HZS.out
                        simp only [List.getElem?_map, hx5] at h6
                        rw [cutB_at ps i k p hki hp] at h6
                        exact Option.some.inj h6
                      obtain ⟨g5, rfl, -, hcell⟩ := sv_cell (own_below HR5.out HWR.out (Nat.le_refl _)) hx5
                      have HBW : Hid (Below w.heap.size w wr) := HB5.out.trans (HWR.out.mono HB5.out.size)
                      have hby5 : Bytes wr x5.ao x5.n x5.bs := by
                        obtain ⟨ao3, c3, e3, hb3, -⟩ := own_bytes (own_below (HT5.out.1 x5 (List.mem_of_getElem? hx5)) HWR.out (Nat.le_refl _))
                        cases e3; exact hb3
                      obtain ⟨po, pn, pc, pb⟩ := p
                      obtain ⟨hc1, hc2, hc3, hc4, hc5⟩ := (HPS.out.below HBW.out (Nat.le_refl _)) k _ hp
                      simp only at hc1 hc2 hc3 hc4 hc5 hbs
                      obtain ⟨m, hm⟩ : ∃ m, min pn 3000 = m := ⟨_, rfl⟩
                      obtain ⟨hmin, hm1, hm2⟩ := minfacts hm hc4
                      have hpb : Bytes wr po m x5.bs := by
                        have h6 := bytes_take hc2 m (by rw [← hm]; exact Nat.min_le_left _ _)
                        rw [take_min hc2.1 hm, ← hbs] at h6; exact h6
                      obtain ⟨x5o, x5n, x5c, x5b⟩ := x5
                      simp only at hcell hby5 hpb
                      have cv1 : ∀ kk, (convert 28 9 (.slice x5o x5n x5c)).run Try.prog (wr.drewN kk) = .ok (.string (bS x5b)) (wr.drewN kk) := fun kk => str_bS _ (bytes_drewN kk hby5)
                      have cv2 : ∀ kk, (convert 28 9 (.slice po m pc)).run Try.prog (wr.drewN kk) = .ok (.string (bS x5b)) (wr.drewN kk) := fun kk => str_bS _ (bytes_drewN kk hpb)
                      have hki' : (k : Int) < (i : Int) := Int.ofNat_lt.2 hki
                      have hkl' : (k : Int) < (len : Int) := Int.ofNat_lt.2 (Nat.lt_of_lt_of_le hki HN40.out.1)
                      have hk0 : (0 : Int) ≤ (k : Int) := Int.natCast_nonneg _
                      have hinc : wrap64 ((k : Int) + 1) = ((k + 1 : Nat) : Int) := winc (Nat.lt_of_lt_of_le hki (Nat.le_trans HN40.out.2 (by decide)))
                      clear hby5 hpb hc2 hc3 hc4 hc5 hbs hx5 hp hm hk
                      go_wp2_with fail
                      go_quiet (fail)
                      have HWR2 : Hid (Below w5.heap.size w5 (wr.drewN nq)) := bel_drewN HWR.out nq
                      clear cv1 cv2 hc1 hcell
                      go_wp2_with fail
                      exact ⟨⟨k + 1, hki, by first | rfl | rw [hinc], HWR2⟩, by first | exact meas_up hki | (rw [hinc]; exact meas_up hki)⟩
                    · have hki' : ¬ (k : Int) < (i : Int) := fun h => hki (Int.ofNat_lt.1 h)
                      have HBW : Hid (Below w.heap.size w wr) := HB5.out.trans (HWR.out.mono HB5.out.size)
                      clear hk
                      go_wp2_with fail
                      go_ret
                      exact ⟨rfl, HBW.out⟩
          · as_aux_lemma =>
              obtain ⟨r, rfl⟩ : ∃ r : Nat, cut0 = (r : Int) := ⟨cut0.toNat, by omega⟩
              have w8 := HW8.out
              have h8q := H8Q.out
              obtain ⟨j, hrem, HJ⟩ : ∃ j : Nat, (r : Int) % (Km : Int) = (j : Int) ∧ Hid (j < Km) := ⟨r % Km, modcast r Km, Nat.mod_lt _ (HKP.out)⟩
              have hj0 : (0 : Int) ≤ (j : Int) := Int.natCast_nonneg _
              have hj1 : (j : Int) ≤ (cm : Int) := Int.ofNat_le.2 (Nat.le_trans (Nat.le_of_lt HJ.out) r1)
              have HA2 : Hid (Bytes (w2.alloc (.cells #[] 5)) vo vn (rowB (cutB ps i))) := bytes_kept HV2.out (bel_alloc w2 (.cells #[] 5)) (Nat.le_refl _)
              have HO2 : Hid ((w2.alloc (.cells #[] 5)).ownsRow w2.heap.size 5 1 (.slice (some ⟨w2.heap.size, 0, none⟩) 0 0) 0 (cellsOf [])) := own_empty w2
              have HVL : Hid ((rowB (cutB ps i)).length = vn) := HV2.out.1
              clear r1 r2
              go_wp2_with (at_builtin; refine wpList_append_bytes _ rfl (.tmp 98) (.tmp 99) rfl w2.heap.size _ 0 [] rfl HO2.out (by simp) vo vn vc (rowB (cutB ps i)) rfl HA2.out FV.out (Nat.le_trans (Nat.le_of_eq (Nat.zero_add _)) HVB.out) ?_)
              intro u3 w3 hown3 hb3
              clear w8 h8q
              try clear hnegw hnr
              have hb23 := (bel_alloc w2 (.cells #[] 5)).trans hb3
              rw [HVL.out] at hown3
              have HO3 : Hid (w3.ownsRow w2.heap.size 5 1 u3 vn (cellsOf (rowB (cutB ps i)))) := hown3
              have HB3 : Hid (Below w.heap.size w w3) := HB2.out.trans (hb23.mono HB2.out.size)
              have HM3 : Hid (Bytes w3 (some ⟨gm, 0, none⟩) j ((frameB y).take j)) := bytes_take (bytes_kept HM2.out hb23 (Nat.le_refl _)) j (Nat.le_of_lt HJ.out)
              have HZ3 : Hid (w2.heap.size ≤ w3.heap.size) := hb23.size
              have HB23 : Hid (w.heap.size ≤ w2.heap.size) := HB2.out.size
              clear hown3 hb3 hb23 HA2 HO2 HB2 HM2 HV2
              go_wp2_with (at_builtin; refine wpList_append_bytes _ rfl (.tmp 102) (.tmp 103) rfl w2.heap.size _ vn (rowB (cutB ps i)) rfl HO3.out HZ3.out (some ⟨gm, 0, none⟩) j cm ((frameB y).take j) rfl HM3.out (fun h => by cases h) (Nat.le_trans (Nat.add_le_add_right HVS.out j) (Nat.le_trans (Nat.add_le_add_left (Nat.le_of_lt HJ.out) _) HKS.out)) ?_)
              intro u4 w4 hown4 hb4
              have hown5 : w4.ownsRow w2.heap.size 5 1 u4 (rowB (cutB ps i) ++ (frameB y).take j).length (cellsOf (rowB (cutB ps i) ++ (frameB y).take j)) := by rw [List.length_append, List.length_take]; exact hown4
              obtain ⟨R1, R2, R3⟩ := row_cut (cutB ps i) y j (cutB_small ps i) (Nat.le_trans (Nat.le_of_eq HYL.out) HQ6.out) (Nat.lt_of_lt_of_le HJ.out (Nat.le_of_eq (by rw [HYL.out, HKQ.out])))
              obtain ⟨A, HA⟩ : ∃ A, Hid (rowB (cutB ps i) ++ (frameB y).take j = A) := ⟨_, rfl⟩
              rw [HA.out] at hown5 R1 R2 R3
              obtain ⟨N4, hN4⟩ : ∃ n, A.length = n := ⟨_, rfl⟩
              rw [hN4] at hown5
              have hN5 : N4 ≤ 1000000000 := by
                rw [← hN4, ← HA.out, List.length_append, List.length_take, HVL.out]
                exact Nat.le_trans (Nat.add_le_add HVS.out (Nat.le_trans (Nat.min_le_left _ _) (Nat.le_of_lt HJ.out))) HKS2.out
              obtain ⟨ao4, c4, rfl, hby4, h04, hlc4, hcm4, -, hin4⟩ := own_bytes hown5
              have HB4 : Hid (Below w.heap.size w w4) := HB3.out.trans (hb4.mono HB23.out)
              have HAL := all_any ⟨ao4, N4, c4, A⟩ w4 hby4 ⟨h04, hlc4, Nat.le_trans hcm4 (by unfold maxLen; decide)⟩ (fun q hq => (hin4 q hq).2) hN5
              simp only at HAL
              rw [R1, R2, R3, HVL.out] at HAL
              have HALL : Hid _ := HAL
              clear hown4 hown5 hb4 HAL R1 R2 R3 hby4 h04 hlc4 hcm4 hin4 hN4 hN5 HO3 HM3 HZ3 HB3 HA hrem hj1
              go_wp2_with fail
              refine Calls.mono HALL.out ?_
              rintro e w5 ⟨u5, xs5, rfl, hrow, htold, hzs, hb5⟩
              have HB5 : Hid (Below w.heap.size w w5) := HB4.out.trans (hb5.mono HB4.out.size)
              have hxl : xs5.length = i := by have h6 := congrArg List.length hzs; rw [List.length_map, cutB_len ps i (by rw [HLEN.out]; exact HN40.out.1)] at h6; exact h6
              rw [hxl] at hrow
              obtain ⟨lo, lc, rfl⟩ : ∃ lo lc, u5 = .slice lo i lc := by
                rcases hrow.2 with ⟨e1, e2⟩ | ⟨gr, cap, cur, e1, _⟩
                · exact ⟨none, 0, by rw [e1, e2]⟩
                · exact ⟨_, _, e1⟩
              have HR5 : Hid (w5.ownsRow w4.heap.size 28 1 (.slice lo i lc) i (svC xs5)) := hrow
              have HT5 : Hid (Told w4.heap.size w5 xs5) := htold
              have HZS : Hid (xs5.map SV.bs = cutB ps i) := hzs
              clear hrow htold hzs hb5 HALL HB4
              obtain ⟨f, HF⟩ : ∃ f : Nat, Hid ((if j = 0 then 0 else 5) = f) := ⟨_, rfl⟩
              rw [HF.out]
              rcases Nat.eq_zero_or_pos j with hj | hj
              · as_aux_lemma =>
                  have hf : f = 0 := by rw [← HF.out, if_pos hj]
                  subst hf
                  subst hj
                  have HX5 : Hid (xs5.length = i) := hxl
                  clear hxl
                  go_wp2_with fail
                  go_loopw [19] (fun a wr => ∃ (k : Nat), k ≤ i ∧ a = .int .i64 k ∧ Hid (Below w5.heap.size w5 wr)) (fun a _ => i - (intOf a).toNat)
                  case atStart => exact ⟨0, Nat.zero_le _, rfl, Below.refl _ _⟩
                  case round =>
                    obtain ⟨k, hk, rfl, HWR⟩ := hrel
                    by_cases hki : k < i
                    · obtain ⟨x5, hx5⟩ : ∃ y, xs5[k]? = some y := ⟨xs5[k]'(by rw [HX5.out]; exact hki), by simp⟩
                      obtain ⟨p, hp⟩ : ∃ p, ps[k]? = some p := ⟨ps[k]'(by rw [HLEN.out]; exact Nat.lt_of_lt_of_le hki HN40.out.1), by simp⟩
                      obtain rfl := HAO.out (Nat.lt_of_le_of_lt (Nat.zero_le k) (Nat.lt_of_lt_of_le hki HN40.out.1))
                      have hbs : x5.bs = p.bs.take 3000 := by
                        have h6 := congrArg (fun l => l[k]?) HZS.out
                        simp only [List.getElem?_map, hx5] at h6
                        rw [cutB_at ps i k p hki hp] at h6
                        exact Option.some.inj h6
                      obtain ⟨g5, rfl, -, hcell⟩ := sv_cell (own_below HR5.out HWR.out (Nat.le_refl _)) hx5
                      have HBW : Hid (Below w.heap.size w wr) := HB5.out.trans (HWR.out.mono HB5.out.size)
                      have hby5 : Bytes wr x5.ao x5.n x5.bs := by
                        obtain ⟨ao3, c3, e3, hb3, -⟩ := own_bytes (own_below (HT5.out.1 x5 (List.mem_of_getElem? hx5)) HWR.out (Nat.le_refl _))
                        cases e3; exact hb3
                      obtain ⟨po, pn, pc, pb⟩ := p
                      obtain ⟨hc1, hc2, hc3, hc4, hc5⟩ := (HPS.out.below HBW.out (Nat.le_refl _)) k _ hp
                      simp only at hc1 hc2 hc3 hc4 hc5 hbs
                      obtain ⟨m, hm⟩ : ∃ m, min pn 3000 = m := ⟨_, rfl⟩
                      obtain ⟨hmin, hm1, hm2⟩ := minfacts hm hc4
                      have hpb : Bytes wr po m x5.bs := by
                        have h6 := bytes_take hc2 m (by rw [← hm]; exact Nat.min_le_left _ _)
                        rw [take_min hc2.1 hm, ← hbs] at h6; exact h6
                      obtain ⟨x5o, x5n, x5c, x5b⟩ := x5
                      simp only at hcell hby5 hpb
                      have cv1 : ∀ kk, (convert 28 9 (.slice x5o x5n x5c)).run Try.prog (wr.drewN kk) = .ok (.string (bS x5b)) (wr.drewN kk) := fun kk => str_bS _ (bytes_drewN kk hby5)
                      have cv2 : ∀ kk, (convert 28 9 (.slice po m pc)).run Try.prog (wr.drewN kk) = .ok (.string (bS x5b)) (wr.drewN kk) := fun kk => str_bS _ (bytes_drewN kk hpb)
                      have hki' : (k : Int) < (i : Int) := Int.ofNat_lt.2 hki
                      have hkl' : (k : Int) < (len : Int) := Int.ofNat_lt.2 (Nat.lt_of_lt_of_le hki HN40.out.1)
                      have hk0 : (0 : Int) ≤ (k : Int) := Int.natCast_nonneg _
                      have hinc : wrap64 ((k : Int) + 1) = ((k + 1 : Nat) : Int) := winc (Nat.lt_of_lt_of_le hki (Nat.le_trans HN40.out.2 (by decide)))
                      clear hby5 hpb hc2 hc3 hc4 hc5 hbs hx5 hp hm hk
                      go_wp2_with fail
                      go_quiet (fail)
                      have HWR2 : Hid (Below w5.heap.size w5 (wr.drewN nq)) := bel_drewN HWR.out nq
                      clear cv1 cv2 hc1 hcell
                      go_wp2_with fail
                      exact ⟨⟨k + 1, hki, by first | rfl | rw [hinc], HWR2⟩, by first | exact meas_up hki | (rw [hinc]; exact meas_up hki)⟩
                    · have hki' : ¬ (k : Int) < (i : Int) := fun h => hki (Int.ofNat_lt.1 h)
                      have HBW : Hid (Below w.heap.size w wr) := HB5.out.trans (HWR.out.mono HB5.out.size)
                      clear hk
                      go_wp2_with fail
                      go_ret
                      exact ⟨rfl, HBW.out⟩
              · as_aux_lemma =>
                  have hf : f = 5 := by rw [← HF.out, if_neg (Nat.pos_iff_ne_zero.1 hj)]
                  subst hf
                  have hjz : ¬ (j : Int) = 0 := by omega
                  have hje : ((j : Int) == 0) = false := by simp; omega
                  have HX5 : Hid (xs5.length = i) := hxl
                  clear hxl
                  go_wp2_with fail
                  go_loopw [19] (fun a wr => ∃ (k : Nat), k ≤ i ∧ a = .int .i64 k ∧ Hid (Below w5.heap.size w5 wr)) (fun a _ => i - (intOf a).toNat)
                  case atStart => exact ⟨0, Nat.zero_le _, rfl, Below.refl _ _⟩
                  case round =>
                    obtain ⟨k, hk, rfl, HWR⟩ := hrel
                    by_cases hki : k < i
                    · obtain ⟨x5, hx5⟩ : ∃ y, xs5[k]? = some y := ⟨xs5[k]'(by rw [HX5.out]; exact hki), by simp⟩
                      obtain ⟨p, hp⟩ : ∃ p, ps[k]? = some p := ⟨ps[k]'(by rw [HLEN.out]; exact Nat.lt_of_lt_of_le hki HN40.out.1), by simp⟩
                      obtain rfl := HAO.out (Nat.lt_of_le_of_lt (Nat.zero_le k) (Nat.lt_of_lt_of_le hki HN40.out.1))
                      have hbs : x5.bs = p.bs.take 3000 := by
                        have h6 := congrArg (fun l => l[k]?) HZS.out
                        simp only [List.getElem?_map, hx5] at h6
                        rw [cutB_at ps i k p hki hp] at h6
                        exact Option.some.inj h6
                      obtain ⟨g5, rfl, -, hcell⟩ := sv_cell (own_below HR5.out HWR.out (Nat.le_refl _)) hx5
                      have HBW : Hid (Below w.heap.size w wr) := HB5.out.trans (HWR.out.mono HB5.out.size)
                      have hby5 : Bytes wr x5.ao x5.n x5.bs := by
                        obtain ⟨ao3, c3, e3, hb3, -⟩ := own_bytes (own_below (HT5.out.1 x5 (List.mem_of_getElem? hx5)) HWR.out (Nat.le_refl _))
                        cases e3; exact hb3
                      obtain ⟨po, pn, pc, pb⟩ := p
                      obtain ⟨hc1, hc2, hc3, hc4, hc5⟩ := (HPS.out.below HBW.out (Nat.le_refl _)) k _ hp
                      simp only at hc1 hc2 hc3 hc4 hc5 hbs
                      obtain ⟨m, hm⟩ : ∃ m, min pn 3000 = m := ⟨_, rfl⟩
                      obtain ⟨hmin, hm1, hm2⟩ := minfacts hm hc4
                      have hpb : Bytes wr po m x5.bs := by
                        have h6 := bytes_take hc2 m (by rw [← hm]; exact Nat.min_le_left _ _)
                        rw [take_min hc2.1 hm, ← hbs] at h6; exact h6
                      obtain ⟨x5o, x5n, x5c, x5b⟩ := x5
                      simp only at hcell hby5 hpb
                      have cv1 : ∀ kk, (convert 28 9 (.slice x5o x5n x5c)).run Try.prog (wr.drewN kk) = .ok (.string (bS x5b)) (wr.drewN kk) := fun kk => str_bS _ (bytes_drewN kk hby5)
                      have cv2 : ∀ kk, (convert 28 9 (.slice po m pc)).run Try.prog (wr.drewN kk) = .ok (.string (bS x5b)) (wr.drewN kk) := fun kk => str_bS _ (bytes_drewN kk hpb)
                      have hki' : (k : Int) < (i : Int) := Int.ofNat_lt.2 hki
                      have hkl' : (k : Int) < (len : Int) := Int.ofNat_lt.2 (Nat.lt_of_lt_of_le hki HN40.out.1)
                      have hk0 : (0 : Int) ≤ (k : Int) := Int.natCast_nonneg _
                      have hinc : wrap64 ((k : Int) + 1) = ((k + 1 : Nat) : Int) := winc (Nat.lt_of_lt_of_le hki (Nat.le_trans HN40.out.2 (by decide)))
                      clear hby5 hpb hc2 hc3 hc4 hc5 hbs hx5 hp hm hk
                      go_wp2_with fail
                      go_quiet (fail)
                      have HWR2 : Hid (Below w5.heap.size w5 (wr.drewN nq)) := bel_drewN HWR.out nq
                      clear cv1 cv2 hc1 hcell
                      go_wp2_with fail
                      exact ⟨⟨k + 1, hki, by first | rfl | rw [hinc], HWR2⟩, by first | exact meas_up hki | (rw [hinc]; exact meas_up hki)⟩
                    · have hki' : ¬ (k : Int) < (i : Int) := fun h => hki (Int.ofNat_lt.1 h)
                      have HBW : Hid (Below w.heap.size w wr) := HB5.out.trans (HWR.out.mono HB5.out.size)
                      clear hk
                      go_wp2_with fail
                      go_ret
                      exact ⟨rfl, HBW.out⟩
end Go.Proofs.Ytaejcclepahefaa

/-
  disk's lose and Crash.
-/
import Derived.Test.YtomeghngjiaofaaDkL
namespace Go.Proofs.Ytomeghngjiaofaa
open Go.RowKit
theorem row_short {w : World} {B e n c : Nat} {o : Option Addr} {xs : List Value} (h : w.ownsRow B e 1 (.slice o n c) n xs) (d : Nat) (hd : d ≤ n) : w.ownsRow B e 1 (.slice o d c) d (xs.take d) := by
  obtain ⟨h1, h2⟩ := h
  refine ⟨by rw [List.length_take, h1]; omega, ?_⟩
  rcases h2 with ⟨e1, rfl⟩ | ⟨g, cap, cur, e1, hB, hg, hn, hm, hs, ht⟩
  · cases e1
    left
    have : d = 0 := by omega
    subst this
    exact ⟨rfl, rfl⟩
  · cases e1
    refine .inr ⟨g, c, cur, rfl, hB, hg, by omega, hm, hs, ?_⟩
    rw [← ht, List.take_take]
    congr 1
    omega
theorem row_facts {w : World} {B e s n : Nat} {v : Value} {xs : List Value} (h : w.ownsRow B e s v n xs) : ∃ o c, v = .slice o n c ∧ n ≤ c ∧ c ≤ 9223372036854775807 ∧ (o = none → c = 0) := by
  rcases h.2 with ⟨rfl, rfl⟩ | ⟨g, cap, cur, rfl, hB, hg, hn, hm, hs, ht⟩
  · exact ⟨none, 0, rfl, Nat.le_refl _, by omega, fun _ => rfl⟩
  · exact ⟨_, cap, rfl, hn, hm, fun e => by cases e⟩
theorem heap_drewN (w : World) (k : Nat) : (w.drewN k).heap = w.heap := by simp
section
variable {own : Nat → Prop} {w : World} {g : Nat} {A : Dk} {m n : Nat} {uo : Option Addr} {uc : Nat} {blk : Nat → Nat} {bv : Nat → Value}
theorem lose_at (h : DiskIn own w g A m n uo uc blk bv) (hid : (A.L.map Fl.id).Nodup) (hnm : (A.L.map Fl.nm).Nodup) {x : Fl} (hx : x ∈ A.L) (c : Nat) (hc : c ≤ x.body.length) (hU : usedL A.L ≤ 9223372036854775807) :
    Calls Try.prog 46 #[.pointer (some ⟨g, 0, none⟩), .pointer (some ⟨blk x.id, 0, none⟩), .int .i64 (c : Int)] w fun e w' => e = .returned (.tuple #[]) ∧ (∃ bv', DiskIn own w' g ⟨A.cap, onId A.L x.id (cutF c), A.pcs, A.down, A.left, A.keep, A.next⟩ m n uo uc blk bv') ∧ Only own w w' := by
  obtain ⟨a, b, r, d⟩ := h.file x hx
  obtain ⟨bo, bc, ev, hbc, hm, -⟩ := row_facts r
  have hb1 : w.cell? ⟨blk x.id, 1, none⟩ = some (.slice bo x.body.length bc) := by rw [cell_of_row _ _ _ _ _ _ b, ev]; rfl
  have hge := usedL_ge hx
  refine (lose_raw g (blk x.id) (usedL A.L) x.body.length bc c bo w hb1 h.c1 (fz_of b 1) (fz_of h.cells 1) (h.fg hx).1 hc (Nat.le_trans hc hge) hbc hm hU).mono ?_
  rintro e w' ⟨rfl, rfl⟩
  have hcut : (cutF c x).body.length = x.body.length - c := by simp [cutF]
  have hus : usedL (onId A.L x.id (cutF c)) = usedL A.L - c := by
    have := usedL_onId (cutF c) hid hx
    rw [hcut] at this
    omega
  have hv : (Value.slice bo (x.body.length - c) bc).ownBlock = (bv x.id).ownBlock := by rw [ev]; cases bo <;> rfl
  refine ⟨rfl, ⟨_, h.bodyTurn hid hnm hx (cutF c) (fun _ => ⟨rfl, rfl⟩) (v' := .slice bo (x.body.length - c) bc) (fun _ e => e) ?_ ?_ ?_ ?_ ?_⟩, ?_⟩
  · intro k hk k1 k2 k3
    rw [heap_drewN, heap_set_ne _ _ _ k1, heap_set_ne _ _ _ k2]
  · rw [heap_drewN, heap_set_ne _ _ _ (h.fg hx).1, heap_set b]; rfl
  · have hr2 := row_short (ev ▸ r) (x.body.length - c) (by omega)
    rw [hcut]
    have e1 : cellsOf (cutF c x).body = (cellsOf x.body).take (x.body.length - c) := by unfold cellsOf cutF; rw [List.map_take]
    rw [e1]
    refine row_block hr2 (fun k hk => ?_)
    rw [hv] at hk
    rw [heap_drewN, heap_set_ne _ _ _ (h.bg hx hk).1, heap_set_ne _ _ _ ((h.bg hx hk).2.2 x hx)]
  · intro k hk
    rw [hv] at hk
    exact ⟨d k hk, .inl hk⟩
  · rw [heap_drewN, heap_set (by rw [heap_set_ne _ _ _ (fun e => (h.fg hx).1 e.symm)]; exact h.cells), hus]; rfl
  · exact (((Only.refl own w).setCell (.inl a) _).setCell (.inl h.og) _).drewN 1
theorem DiskIn.crashed (h : DiskIn own w g A m n uo uc blk bv) : DiskIn own ((((w.setCell ⟨g, 3, none⟩ (.slice none 0 0)).setCell ⟨g, 4, none⟩ (.bool true)).setCell ⟨g, 5, none⟩ (.int .i64 0)).setCell ⟨g, 6, none⟩ (.int .i64 0)) g ⟨A.cap, A.L, [], true, 0, 0, A.next⟩ m n none 0 blk bv := by
  have hb : ∀ k, k ≠ g → ((((w.setCell ⟨g, 3, none⟩ (.slice none 0 0)).setCell ⟨g, 4, none⟩ (.bool true)).setCell ⟨g, 5, none⟩ (.int .i64 0)).setCell ⟨g, 6, none⟩ (.int .i64 0)).heap[k]? = w.heap[k]? := fun k hk => by
    rw [heap_set_ne _ _ _ hk, heap_set_ne _ _ _ hk, heap_set_ne _ _ _ hk, heap_set_ne _ _ _ hk]
  refine ⟨h.og, h.om, ?_, h.files.block (hb m (fun e => h.gm e.symm)), ⟨rfl, .inl ⟨rfl, rfl⟩⟩, (fun k hk => by cases hk), fun x hx => ?_, h.apart⟩
  · rw [heap_set (heap_set (heap_set (heap_set h.cells _ _) _ _) _ _)]; rfl
  · obtain ⟨a, b, c, d⟩ := h.file x hx
    exact ⟨a, by rw [hb _ (h.fg hx).1]; exact b, row_block c (fun k hk => hb k (h.bg hx hk).1), d⟩
theorem pcC_at (blk : Nat → Nat) : ∀ (l : List (Nat × Nat)) (j : Nat) (p : Nat × Nat), l[j]? = some p → (pcC blk l)[j * 2]? = some (.pointer (some ⟨blk p.1, 0, none⟩)) ∧ (pcC blk l)[j * 2 + 1]? = some (.int .i64 (p.2 : Int))
  | [], j, p, h => by simp at h
  | q :: l, 0, p, h => by
    simp at h
    subst h
    exact ⟨rfl, rfl⟩
  | q :: l, j + 1, p, h => by
    have := pcC_at blk l j p (by simpa using h)
    rw [pcC_cons, show (j + 1) * 2 = j * 2 + 1 + 1 by omega]
    simpa using this
theorem DiskIn.piece (h : DiskIn own w g A m n uo uc blk bv) {j : Nat} {p : Nat × Nat} (hj : A.pcs[j]? = some p) : ∃ pb, uo = some ⟨pb, 0, none⟩ ∧ w.cell? ⟨pb, j * 2, none⟩ = some (.pointer (some ⟨blk p.1, 0, none⟩)) ∧ w.cell? ⟨pb, j * 2 + 1, none⟩ = some (.int .i64 (p.2 : Int)) := by
  have hl : j < A.pcs.length := (List.getElem?_eq_some_iff.1 hj).1
  rcases h.pcs.2 with ⟨e, e0⟩ | ⟨pb, cap, cur, e, rest⟩
  · omega
  · have e1 : uo = some ⟨pb, 0, none⟩ := by injection e
    subst e1
    obtain ⟨a, b⟩ := pcC_at blk A.pcs j p hj
    have h1 := h.pcs.cells (g := pb) rfl _ _ a
    have h2 := h.pcs.cells (g := pb) rfl _ _ b
    rw [Addr.add_lit, Nat.zero_add] at h1 h2
    exact ⟨pb, rfl, h1, h2⟩
structure CrI (own : Nat → Prop) (g : Nat) (A : Dk) (m n : Nat) (uo : Option Addr) (uc : Nat) (blk : Nat → Nat) (k : Int) (w : World) (j : Nat) (k' : Int) (L' : List Fl) (bv' : Nat → Value) (wr : World) : Prop where
  disk : DiskIn (grow own w) wr g ⟨A.cap, L', A.pcs, A.down, A.left, A.keep, A.next⟩ m n uo uc blk bv'
  rest : crashL L' (A.pcs.drop j) k' = crashL A.L A.pcs k
  ids : (L'.map Fl.id).Nodup
  nms : (L'.map Fl.nm).Nodup
  enough : ∀ x ∈ L', owed (A.pcs.drop j) x.id ≤ x.body.length
  same : L'.map Fl.id = A.L.map Fl.id
  fits : usedL L' ≤ A.cap
  only : Only own w wr
set_option maxRecDepth 100000 in
theorem crash_at (h : DiskIn own w g A m n uo uc blk bv) (hw : A.wf) (k : Int) (hk : -9223372036854775808 ≤ k ∧ k ≤ 9223372036854775807) (hN : A.pcs.length ≤ 1000000) :
    Calls Try.prog 18 #[.pointer (some ⟨g, 0, none⟩), .int .i64 k] w fun e w' => e = .returned (.tuple #[]) ∧ (∃ uo uc bv', DiskIn (grow own w) w' g (A.crash k) m n uo uc blk bv') ∧ Only own w w' := by
  have c4 := h.c4
  have c3 := h.c3
  go_enter Try.func18, Try.ntmps18
  cases hdown : A.down with
  | true =>
    rw [hdown] at c4
    go_wp2_with fail
    try simp only [Exit.inBlock, Exit.then]
    refine bodyPost_ret (results_none rfl _ _ _) rfl ?_
    refine ⟨rfl, ⟨uo, uc, bv, ?_⟩, Only.refl _ _⟩
    have e1 : A.crash k = A := by unfold Dk.crash; rw [hdown]; rfl
    rw [e1]
    exact h.mono (fun _ _ e => .inl e)
  | false =>
    rw [hdown] at c4
    go_wp2_with fail
    have HW : Hid A.wf := hw
    have HPL : Hid (A.pcs.length ≤ 1000000) := hN
    have H : Hid (DiskIn own w g A m n uo uc blk bv) := h
    clear c3 c4 hw h hN
    go_loopw [1, 5, 6, 16] (fun v1 _ _ v16 wr => ∃ (j : Nat) (k' : Int) (L' : List Fl) (bv' : Nat → Value), v16 = .int .i64 j ∧ Hid (j ≤ A.pcs.length) ∧ v1 = .int .i64 k' ∧ Hid (-9223372036854775808 ≤ k' ∧ k' ≤ 9223372036854775807) ∧ Hid (CrI own g A m n uo uc blk k w j k' L' bv' wr)) (fun _ _ _ v16 _ => A.pcs.length - (intOf v16).toNat)
    case atStart => exact ⟨0, k, A.L, bv, rfl, Nat.zero_le _, rfl, hk, ⟨H.out.mono (fun _ _ e => .inl e), rfl, HW.out.ids, HW.out.nms, HW.out.enough, rfl, HW.out.fits, Only.refl _ _⟩⟩
    case round =>
      obtain ⟨j, k', L', bv', rfl, HJ, rfl, HK, HI⟩ := hrel
      by_cases hj : j < A.pcs.length
      · obtain ⟨p, hp⟩ : ∃ p, A.pcs[j]? = some p := ⟨A.pcs[j], by simp⟩
        obtain ⟨pi, pc⟩ := p
        obtain ⟨pb, rfl, e1, e2⟩ := HI.out.disk.piece hp
        have hj' : (j : Int) < (A.pcs.length : Int) := Int.ofNat_lt.2 hj
        have hj0 : (0 : Int) ≤ (j : Int) := Int.natCast_nonneg _
        obtain ⟨kp, HKP⟩ : ∃ kp, Hid (keepI k' pc = kp) := ⟨_, rfl⟩
        have hmin : min (max k' 0) (pc : Int) = (kp : Int) := by rw [← HKP.out]; unfold keepI; omega
        obtain ⟨k2, HK2⟩ : ∃ k2, Hid (k' - (kp : Int) = k2) := ⟨_, rfl⟩
        obtain ⟨c2, HC2⟩ : ∃ c2, Hid (pc - kp = c2) := ⟨_, rfl⟩
        have HPJ : Hid (A.pcs.drop j = (pi, pc) :: A.pcs.drop (j + 1)) := by
          show _ = _
          rw [List.drop_eq_getElem_cons hj]
          congr 1
          rw [List.getElem?_eq_getElem hj] at hp
          injection hp
        obtain ⟨x, hx, hxi⟩ : ∃ x ∈ L', x.id = pi := by
          obtain ⟨y, hy, e⟩ := HW.out.live (pi, pc) (List.mem_of_getElem? hp)
          obtain ⟨z, hz, e'⟩ := mem_of_map HI.out.same.symm hy
          exact ⟨z, hz, e'.trans e⟩
        have hkc : kp ≤ pc := by rw [← HKP.out]; exact keepI_le _ _
        have HOW : Hid (pc + owed (A.pcs.drop (j + 1)) x.id ≤ x.body.length) := by
          have := HI.out.enough x hx
          rw [HPJ.out, owed_cons, if_pos hxi.symm] at this
          exact this
        have HK2B : Hid (-9223372036854775808 ≤ k2 ∧ k2 ≤ 9223372036854775807) := by
          have h1 := HK.out
          have h2 := HK2.out
          have h3 : (kp : Int) ≤ max k' 0 := by rw [← hmin]; exact Int.min_le_left _ _
          show _ ∧ _
          omega
        have HPC : Hid (pc ≤ 9223372036854775807) := by
          have h1 := HOW.out
          have h2 := usedL_ge hx
          have h3 := HI.out.fits
          have h4 := HW.out.capI
          show _ ≤ _
          omega
        have hw1 : wrap64 (k' - (kp : Int)) = k2 := by
          rw [HK2.out]
          have h1 := HK2B.out
          unfold wrap64
          omega
        have hw2 : wrap64 ((pc : Int) - (kp : Int)) = (c2 : Int) := by
          rw [← HC2.out]; exact wsubn hkc HPC.out
        have HLO : Hid _ := lose_at (w := wr.alloc (.cells #[.pointer (some ⟨blk x.id, 0, none⟩), .int .i64 (pc : Int)] 79)) (HI.out.disk.grown (bel_alloc wr _)) HI.out.ids HI.out.nms hx c2 (by have h1 := HOW.out; have h2 := HC2.out; omega) (Nat.le_trans HI.out.fits HW.out.capI)
        have HX : Hid (x ∈ L') := hx
        have HINC : Hid (wrap64 ((j : Int) + 1) = ((j + 1 : Nat) : Int)) := winc (by have := HPL.out; omega)
        have HJN : Hid (j < A.pcs.length) := hj
        subst hxi
        clear hk hj hdown hkc hx hp
        simp only at e1 e2
        go_wp2_with fail
        refine Calls.mono HLO.out ?_
        rintro e w2 ⟨rfl, ⟨bv2, hd2⟩, ho2⟩
        have HI2 : Hid (CrI own g A m n (some ⟨pb, 0, none⟩) uc blk k w (j + 1) k2 (onId L' x.id (cutF c2)) bv2 w2) := by
          have q := HI.out
          refine ⟨hd2, ?_, ?_, ?_, ?_, ?_, ?_, ?_⟩
          · have h1 := q.rest
            rw [HPJ.out] at h1
            rw [← h1]
            show _ = crashL (onId L' x.id (cutF (pc - keepI k' pc))) (A.pcs.drop (j + 1)) (k' - (keepI k' pc : Int))
            rw [HKP.out, HC2.out, HK2.out]
          · rw [ids_onId _ _ (cutF c2) (fun _ => rfl)]; exact q.ids
          · rw [nms_onId _ _ (cutF c2) (fun _ => rfl)]; exact q.nms
          · intro y hy
            obtain ⟨z, hz, rfl⟩ := mem_onId hy
            by_cases e : z.id = x.id
            · have e' := nodup_at q.ids hz HX.out e
              subst e'
              rw [if_pos rfl]
              show owed _ z.id ≤ (z.body.take (z.body.length - c2)).length
              rw [List.length_take]
              have h1 := HOW.out
              have h2 := HC2.out
              omega
            · rw [if_neg e]
              have h1 := q.enough z hz
              rw [HPJ.out, owed_cons] at h1
              omega
          · rw [ids_onId _ _ (cutF c2) (fun _ => rfl)]; exact q.same
          · have h1 := usedL_onId (cutF c2) q.ids HX.out
            have h2 : (cutF c2 x).body.length ≤ x.body.length := by simp [cutF]
            have h3 := q.fits
            omega
          · exact (q.only.alloc _).trans ho2 (fun _ e => e)
        clear hd2 ho2 HLO HI HOW HX HPJ e1 e2 hw1 hw2 hmin hj' hj0
        have hinc := HINC.out
        go_wp2_with fail
        go_roundw
        case rel => exact ⟨j + 1, k2, _, bv2, by first | rfl | rw [hinc], HJN.out, rfl, HK2B, HI2⟩
        case measure => first | exact meas_up HJN.out | (rw [hinc]; exact meas_up HJN.out)
      · have hj' : ¬ (j : Int) < (A.pcs.length : Int) := fun e => hj (Int.ofNat_lt.1 e)
        have cc := HI.out.disk.cells
        have e3 := HI.out.disk.c3
        have e4 := HI.out.disk.c4
        have e5 := HI.out.disk.c5
        have e6 := HI.out.disk.c6
        have f3 := fz_of cc 3
        have f4 := fz_of cc 4
        have f5 := fz_of cc 5
        have f6 := fz_of cc 6
        have HJN : Hid (A.pcs.drop j = []) := List.drop_eq_nil_of_le (by omega)
        have HD : Hid (A.down = false) := hdown
        clear hk hj cc hdown
        go_wp2_with fail
        go_end0
        refine ⟨rfl, ?_, ?_⟩
        · have h5 := HI.out.disk.crashed
          have h6 := HI.out.rest
          rw [HJN.out] at h6
          refine ⟨none, 0, bv', ?_⟩
          have e1 : A.crash k = ⟨A.cap, L', [], true, 0, 0, A.next⟩ := by
            unfold Dk.crash
            rw [HD.out, ← h6]
            rfl
          rw [e1]
          exact h5
        · have hg := HI.out.disk.og
          exact (((HI.out.only.setCell hg _).setCell hg _).setCell hg _).setCell hg _
end
end Go.Proofs.Ytomeghngjiaofaa

/-
  What the document's answer marlstoneref02.Of answers: a contract over this translation.
-/
import Derived.Test.YtecacjddggljgaaDoorSRefSched
namespace Go.Proofs.YtecacjddggljgaaDoor.Sm
open Go.RowKit
theorem post_gen {Q : Exit → Act → World → Prop} {e : Exit} {a : Act} {w : World} (R : World → Prop) (hR : R w) (h : ∀ w1, R w1 → Q e a w1) : Q e a w := h w hR
theorem close_blocks (n : Nat) : ∃ N, n + (closeB n).length = 64 * N := by
  refine ⟨(n + (closeB n).length) / 64, ?_⟩
  rw [closeB_length]; unfold zerosOf; omega
/-- Eight words lie in a block. -/
def V8 (w : World) (g : Nat) (s : S8) : Prop := ∀ i : Nat, i < 8 → w.cell? ⟨g, i, none⟩ = some (.int .u32 (s.list.getD i 0).toNat)
theorem V8.below {w w' : World} {g B : Nat} {s : S8} (h : V8 w g s) (hb : Below B w w') (hB : g < B) : V8 w' g s := fun i hi => by
  rw [World.cell?_of_block (hb.block g hB)]; exact h i hi
theorem V8_of_block {w : World} {g : Nat} {s : S8} {ty : TypeId} {fr : Nat × Nat} (h : w.heap[g]? = some (.cells (wcells s.list).toArray ty fr)) : V8 w g s := fun i hi => by
  rw [cell_of_row w g i _ ty fr h]
  exact wcells_getD s.list i (by simp [S8.list]; omega)
theorem rounds_succ' (ws : List UInt32) (s : S8) (t : Nat) : rounds ws s (t + 1) = rnd (rounds ws s t) (ks.getD t 0) (ws.getD t 0) := rfl
theorem add_get (s r : S8) (k : Nat) (hk : k < 8) : ((s.add r).list.take k ++ s.list.drop k).getD k 0 = s.list.getD k 0 := by
  match k, hk with
  | 0, _ => rfl
  | 1, _ => rfl
  | 2, _ => rfl
  | 3, _ => rfl
  | 4, _ => rfl
  | 5, _ => rfl
  | 6, _ => rfl
  | 7, _ => rfl
theorem add_set (s r : S8) (k : Nat) (hk : k < 8) : ((s.add r).list.take k ++ s.list.drop k).set k (s.list.getD k 0 + r.list.getD k 0) = (s.add r).list.take (k + 1) ++ s.list.drop (k + 1) := by
  match k, hk with
  | 0, _ => rfl
  | 1, _ => rfl
  | 2, _ => rfl
  | 3, _ => rfl
  | 4, _ => rfl
  | 5, _ => rfl
  | 6, _ => rfl
  | 7, _ => rfl
theorem add_len (s r : S8) (k : Nat) (hk : k ≤ 8) : ((s.add r).list.take k ++ s.list.drop k).length = 8 := by simp [S8.list]; omega
theorem wcells_set (l : List UInt32) (k : Nat) (x : UInt32) : (wcells l).set k (.int .u32 (x.toNat : Int)) = wcells (l.set k x) := by simp [wcells, List.map_set]
theorem chg_set {b : Nat} {w0 w : World} {C : List Value} {t : TypeId} (i : Nat) (v : Value) (h : Chg b w0 w) (hb : w.heap[b]? = some (.cells C.toArray t (0, 0))) : Chg b w0 (w.setCell ⟨b, i, none⟩ v).drew ∧ (w.setCell ⟨b, i, none⟩ v).drew.heap[b]? = some (.cells (C.set i v).toArray t (0, 0)) := by
  rw [set_list w b i C t v hb]
  exact ⟨(h.row _).drew, setRow_heap w b _ _ t _ hb⟩
theorem flat_at (l : List UInt32) : ∀ (q r : Nat) (x : UInt32), l[q]? = some x → r < 4 → (l.flatMap word4)[4 * q + r]? = (word4 x)[r]? := by
  induction l with
  | nil => intro q r x h; simp at h
  | cons a t ih =>
    intro q r x h hr
    rw [List.flatMap_cons]
    cases q with
    | zero =>
      simp at h; subst h
      rw [Nat.mul_zero, Nat.zero_add, List.getElem?_append_left (by simp [word4]; omega)]
    | succ q =>
      rw [List.getElem?_append_right (by simp [word4]; omega), show 4 * (q + 1) + r - (word4 a).length = 4 * q + r by simp [word4]; omega]
      exact ih q r x (by simpa using h) hr
theorem dig_at (s : S8) (i : Nat) (hi : i < 32) : (digest s)[i]? = some (UInt8.ofNat ((s.list.getD (i / 4) 0).toNat / 2 ^ (24 - 8 * (i % 4)) % 256)) := by
  obtain ⟨x, hx⟩ : ∃ x, s.list[i / 4]? = some x := ⟨s.list[i / 4]'(by simp [S8.list]; omega), by simp⟩
  have h := flat_at s.list (i / 4) (i % 4) x hx (by omega)
  rw [show 4 * (i / 4) + i % 4 = i by omega] at h
  have hd : s.list.getD (i / 4) 0 = x := by rw [List.getD, hx]; rfl
  rw [digest, h, hd]
  have hl := x.toNat_lt
  have hr : i % 4 = 0 ∨ i % 4 = 1 ∨ i % 4 = 2 ∨ i % 4 = 3 := by omega
  rcases hr with e | e | e | e <;> rw [e]
  · have : x.toNat / 16777216 = x.toNat / 2 ^ (24 - 8 * 0) % 256 := by simp only [Nat.reduceMul, Nat.reduceSub, Nat.reducePow]; omega
    rw [← this]; rfl
  · rfl
  · rfl
  · have : x.toNat % 256 = x.toNat / 2 ^ (24 - 8 * 3) % 256 := by simp only [Nat.reduceMul, Nat.reduceSub, Nat.reducePow]; omega
    rw [← this]; rfl
def digP (s : S8) (i : Nat) : List UInt8 := (digest s).take i ++ List.replicate (32 - i) 0
theorem digest_length (s : S8) : (digest s).length = 32 := by rw [← digFill_all]; exact digFill_length s 8 (by omega)
theorem digP_length (s : S8) (i : Nat) (hi : i ≤ 32) : (digP s i).length = 32 := by simp [digP, digest_length]; omega
theorem digP_set (s : S8) (i : Nat) (hi : i < 32) : (digP s i).set i (UInt8.ofNat ((s.list.getD (i / 4) 0).toNat / 2 ^ (24 - 8 * (i % 4)) % 256)) = digP s (i + 1) := by
  unfold digP
  rw [List.set_append_right _ _ (by simp [digest_length]; omega), List.take_add_one, dig_at s i hi, show 32 - i = (32 - (i + 1)) + 1 by omega, List.replicate_succ]
  simp [digest_length, Nat.min_eq_left (Nat.le_of_lt hi)]
theorem cells_set (l : List UInt8) (k : Nat) (x : UInt8) : (cellsOf l).set k (.int .u8 (x.toNat : Int)) = cellsOf (l.set k x) := by simp [cellsOf, List.map_set]
theorem chg_set0 {b : Nat} {w0 w : World} {C : List Value} {t : TypeId} (i : Nat) (v : Value) (h : Chg b w0 w) (hb : w.heap[b]? = some (.cells C.toArray t (0, 0))) : Chg b w0 (w.setCell ⟨b, i, none⟩ v) ∧ (w.setCell ⟨b, i, none⟩ v).heap[b]? = some (.cells (C.set i v).toArray t (0, 0)) := by
  rw [set_list w b i C t v hb]
  exact ⟨h.row _, setRow_heap w b _ _ t _ hb⟩
set_option maxRecDepth 100000 in
set_option maxHeartbeats 2000000 in
theorem refOf_any (s : ByteArray) (w : World) (hs : s.size ≤ 2000) :
    Calls Tryd.prog 139 #[.string s] w fun e w' => e = .returned (.agg (cellsOf (shaB (strB s))).toArray) ∧ Below w.heap.size w w' := by
  have hsl := strB_length s
  obtain ⟨p, HP⟩ : ∃ p, Hid (p = strB s ++ closeB s.size) := ⟨_, rfl⟩
  obtain ⟨N, hN⟩ : ∃ N, p.length = 64 * N := by
    obtain ⟨N, h⟩ := close_blocks s.size
    exact ⟨N, by rw [HP.out, List.length_append, hsl]; exact h⟩
  have hN3 : 64 * N ≤ 2100 := by rw [← hN, HP.out, List.length_append, hsl, closeB_length]; unfold zerosOf; omega
  have HSHA : Hid (shaB (strB s) = digest (chain p N)) := by
    show _ = _
    rw [shaB, hsl, ← HP.out, hN]
    congr 2; omega
  rw [HSHA.out]
  go_enter Tryd.func139, Tryd.ntmps139
  go_wp2_with fail
  refine (constants_any _).mono ?_
  rintro e w2 ⟨kb, rfl, hk1, hk2, hKK2, hbel2⟩
  have hblkr2 : w2.heap[w.heap.size]? = some (.cells (cellsOf (List.replicate 32 0)).toArray 46) := (hbel2.block _ (by simp; omega)).trans ((heap_alloc_old _ _ (by simp)).trans (heap_alloc_new _ _))
  have hblkh2 : w2.heap[w.heap.size + 1]? = some (.cells (wcells H0.list).toArray 196) := (hbel2.block _ (by simp)).trans (by rw [heap_alloc_get, if_pos (by simp)]; rfl)
  have hbw2 : Below w.heap.size w w2 := ((bel_alloc _ _).trans ((bel_alloc _ _).mono (by simp))).trans (hbel2.mono (by simp; omega))
  have hs2 : w.heap.size + 2 ≤ w2.heap.size := by have := hbel2.size; simpa using this
  have hk1' : w.heap.size + 2 ≤ kb := by simpa using hk1
  clear hbel2 hk1
  generalize hn : w.heap.size = n at *
  go_wp2_with fail
  refine (padded_any s w2 (by omega)).mono ?_
  rintro e w3 ⟨v, rfl, hO3, hbel3⟩
  rw [← HP.out] at hO3
  obtain ⟨pg, pc, rfl, hpg1, hpg2, hpc1, hpc2, hby3⟩ := hO3.bytes
  rw [hN] at hby3 hpc1
  have hK3 := hKK2.below hbel3 hk2
  have hblkr3 := (hbel3.block n (by omega)).trans hblkr2
  have hblkh3 := (hbel3.block (n + 1) (by omega)).trans hblkh2
  have hbw3 : Below n w w3 := hbw2.trans (hbel3.mono (by omega))
  have hs3 := hbel3.size
  have HBY : Hid (Bytes w3 (some ⟨pg, 0, none⟩) (64 * N) p) := hby3
  have HKW : Hid (WW w3 kb ks) := hK3
  have HH0 : Hid (w3.heap[n + 1]? = some (.cells (wcells H0.list).toArray 196)) := hblkh3
  have HR0 : Hid (w3.heap[n]? = some (.cells (cellsOf (List.replicate 32 0)).toArray 46)) := hblkr3
  clear hO3 hbel3 hKK2 hblkr2 hblkh2 hbw2 hby3 hK3 hblkr3 hblkh3
  generalize hq3 : w3.heap.size = q3 at *
  rw [hN]
  obtain ⟨L, hL⟩ : ∃ L, L = 64 * N := ⟨_, rfl⟩
  rw [← hL] at HBY hpc1 hN3 hN ⊢
  have HL : Hid (L = 64 * N) := hL
  have HPL : Hid (p.length = L) := hN
  clear hL hN
  go_wp2_with fail
  go_loopw [6] (fun t wr => ∃ j J : Nat, j ≤ N ∧ J = 64 * j ∧ t = .int .i64 (J : Int) ∧ Chg (n + 1) w3 wr ∧ wr.heap[n + 1]? = some (.cells (wcells (chain p j).list).toArray 196)) (fun t _ => (L - intOf t).toNat)
  case atStart => exact ⟨0, 0, by omega, rfl, rfl, Chg.refl _ _, HH0.out⟩
  case round =>
    clear HH0
    obtain ⟨j, J, hj, hJ, rfl, hchg, hhb⟩ := hrel
    have hsr := hchg.size
    have HJ : Hid (J = 64 * j) := hJ
    by_cases hjN : j < N
    · have hJL : J + 64 ≤ L := by rw [HL.out, hJ]; omega
      clear hJ
      have hlt : (J : Int) < (L : Int) := by omega
      obtain ⟨bl, hbl⟩ : ∃ bl, bl = (p.drop J).take 64 := ⟨_, rfl⟩
      have hby : Bytes wr (some ⟨pg, J, none⟩) 64 bl := by
        have h1 := bytes_chg HBY.out hchg (fun x hx => by cases hx; simp only; omega)
        have h2 := bytes_take (bytes_drop h1 J) 64 (by omega)
        rw [Nat.zero_add, ← hbl] at h2
        exact h2
      have HCH : Hid (chain p (j + 1) = (chain p j).add (rounds (sched bl 64) (chain p j) 64)) := by show _ = _; rw [chain, comp, hbl, HJ.out]
      generalize hch : chain p j = sj at *
      have HBJ : Hid (Bytes wr (some ⟨pg, J, none⟩) 64 bl) := hby
      have HHB : Hid (wr.heap[n + 1]? = some (.cells (wcells sj.list).toArray 196)) := hhb
      have HCG : Hid (Chg (n + 1) w3 wr) := hchg
      clear hby hbl hhb hchg hch
      have e3 : (0 : Int) ≤ (J : Int) := by omega
      have e4 : (J : Int) + 64 ≤ (pc : Int) := by omega
      have e5 : ¬ (pc = J) := by omega
      go_wp2_with fail
      refine (sched_any pg J (pc - J) bl wr HBJ.out (by omega)).mono ?_
      rintro e w4 ⟨wb, wc, rfl, hwb1, hwb2, hWW4, hbel4⟩
      have hs4 := hbel4.size
      have hb34 : Chg (n + 1) w3 w4 := HCG.out.bel hbel4 (Nat.le_refl _)
      have hh4 := (hbel4.block (n + 1) (by omega)).trans HHB.out
      have HWW4 : Hid (WW w4 wb (sched bl 64)) := hWW4
      have HC4 : Hid (Chg (n + 1) w3 w4) := hb34
      have HH4 : Hid (w4.heap[n + 1]? = some (.cells (wcells sj.list).toArray 196)) := hh4
      have HNE : Hid (∀ j u, (wcells sj.list)[j]? = some u → (w4.alloc (.cells #[] 196)).cell? (Addr.add ⟨n + 1, 0, none⟩ j) = some u) := fun j u hu => by
        rw [Addr.add_lit, Nat.zero_add, cell_of_row _ (n + 1) j _ 196 (0, 0) ((heap_alloc_old _ _ (by omega)).trans hh4)]
        simpa using hu
      clear hWW4 hb34 hh4 HBJ HHB HCG hbel4
      generalize hq4 : w4.heap.size = q4 at *
      have HE4 : Hid ((w4.alloc (.cells #[] 196)).ownsRow q4 196 1 (.slice (some ⟨q4, 0, none⟩) 0 0) 0 (wcells [])) := by have := word_empty w4; rw [hq4] at this; exact this
      go_wp2_with (at_builtin; refine wpList_append_word _ rfl (.tmp 36) (.tmp 37) rfl q4 _ [] rfl HE4.out (by simp; omega) ⟨n + 1, 0, none⟩ 8 8 sj.list rfl rfl (by omega) HNE.out (by simp) ?_)
      intro vg vc w5 hown5 hvg hvc hvcc hbel5
      have hbel45 : Below q4 w4 w5 := ((Below.refl q4 w4).alloc (by omega) _).trans hbel5
      have hs5 := hbel45.size
      have hV5 : V8 w5 vg sj := fun i hi => word_cell (l := sj.list) hown5 i (by simpa using hi)
      have hW5 := HWW4.out.below hbel45 hwb2
      have hK5 := (HKW.out.chg HC4.out (by omega) (by omega)).below hbel45 (by omega)
      have HC5 : Hid (Chg (n + 1) w3 w5) := HC4.out.bel hbel45 (by omega)
      have HH5 : Hid (w5.heap[n + 1]? = some (.cells (wcells sj.list).toArray 196)) := (hbel45.block (n + 1) (by omega)).trans HH4.out
      have hvl := (hown5.lt vg rfl).2
      clear hown5 hbel45 HWW4 HC4 HH4 HNE HE4 hbel5
      obtain ⟨ws, HWS⟩ : ∃ ws, Hid (ws = sched bl 64) := ⟨_, rfl⟩
      rw [← HWS.out] at hW5 HCH
      generalize hq5 : w5.heap.size = q5 at *
      have HW5 : Hid (WW w5 wb ws) := hW5
      have HK5 : Hid (WW w5 kb ks) := hK5
      have HV5 : Hid (V8 w5 vg sj) := hV5
      clear hW5 hK5 hV5
      go_wp2_with fail
      go_loopw [8, 9] (fun a i wq => ∃ (t g c : Nat), t ≤ 64 ∧ i = .int .i64 t ∧ a = .slice (some ⟨g, 0, none⟩) 8 c ∧ q4 ≤ g ∧ V8 wq g (rounds ws sj t) ∧ Below q5 w5 wq) (fun _ i _ => (64 - intOf i).toNat)
      case atStart => exact ⟨0, vg, vc, by omega, rfl, rfl, hvg, HV5.out, by rw [← hq5]; exact Below.refl _ _⟩
      case round =>
        clear HV5 hvl hvc hvcc hvg
        obtain ⟨t, g, c, ht, rfl, rfl, hgq, hV, hbr⟩ := hrel
        have hsr6 : q5 ≤ wr.heap.size := by have := hbr.size; omega
        by_cases ht64 : t < 64
        · have ht64' : (t : Int) < 64 := by omega
          have ht0 : (0 : Int) ≤ (t : Int) := by omega
          generalize hr : rounds ws sj t = r at *
          have HR : Hid (rounds ws sj (t + 1) = rnd r (ks.getD t 0) (ws.getD t 0)) := by show _ = _; rw [rounds_succ', hr]
          generalize hkk : ks.getD t 0 = kk at *
          generalize hww : ws.getD t 0 = ww at *
          have hg0 := World.block_lt_of_cell? wr _ (hV 0 (by omega))
          have HV : Hid (∀ w', Below wr.heap.size wr w' → w'.cell? ⟨g, 0, none⟩ = some (.int .u32 r.a.toNat) ∧ w'.cell? ⟨g, 1, none⟩ = some (.int .u32 r.b.toNat) ∧ w'.cell? ⟨g, 2, none⟩ = some (.int .u32 r.c.toNat) ∧ w'.cell? ⟨g, 3, none⟩ = some (.int .u32 r.d.toNat) ∧ w'.cell? ⟨g, 4, none⟩ = some (.int .u32 r.e.toNat) ∧ w'.cell? ⟨g, 5, none⟩ = some (.int .u32 r.f.toNat) ∧ w'.cell? ⟨g, 6, none⟩ = some (.int .u32 r.g.toNat) ∧ w'.cell? ⟨g, 7, none⟩ = some (.int .u32 r.h.toNat) ∧ w'.cell? ⟨kb, t, none⟩ = some (.int .u32 kk.toNat) ∧ w'.cell? ⟨wb, t, none⟩ = some (.int .u32 ww.toNat)) := fun w' hb => by
            have h := hV.below hb hg0
            have hb5 : Below q5 w5 w' := hbr.trans (hb.mono hsr6)
            have hk := (HK5.out.below hb5 (by omega)) t ht64
            have hx := (HW5.out.below hb5 (by omega)) t ht64
            rw [hkk] at hk
            rw [hww] at hx
            exact ⟨h 0 (by omega), h 1 (by omega), h 2 (by omega), h 3 (by omega), h 4 (by omega), h 5 (by omega), h 6 (by omega), h 7 (by omega), hk, hx⟩
          clear hr hkk hww hV
          obtain ⟨c0, c1, c2, c3, c4, c5, c6, c7, hk, hx⟩ := HV.out wr (Below.refl _ _)
          have hbr0 : Below wr.heap.size wr wr := Below.refl _ _
          go_wp2_with fail
          go_quiet (first | (go_at_call_of 148 (Value.int .i64 6); exact Calls.quiet_of_same (turned_6 _ _)) | (go_at_call_of 148 (Value.int .i64 11); exact Calls.quiet_of_same (turned_11 _ _)) | (go_at_call_of 148 (Value.int .i64 25); exact Calls.quiet_of_same (turned_25 _ _)))
          have hb6 : Below wr.heap.size wr (wr.drewN nq) := bel_drewN hbr0 nq
          generalize hwq : wr.drewN nq = w6 at *
          clear hwq c0 c1 c2 c3 c4 c5 c6 c7 hk hx
          obtain ⟨c0, c1, c2, c3, c4, c5, c6, c7, hk, hx⟩ := HV.out w6 hb6
          go_wp2_with fail
          go_quiet (fail)
          have hb7 : Below wr.heap.size wr (w6.drewN nq) := bel_drewN hb6 nq
          generalize hwq : w6.drewN nq = w7 at *
          clear hwq c0 c1 c2 c3 c4 c5 c6 c7 hk hx
          obtain ⟨c0, c1, c2, c3, c4, c5, c6, c7, hk, hx⟩ := HV.out w7 hb7
          go_wp2_with fail
          go_quiet (fail)
          have hb8 : Below wr.heap.size wr (w7.drewN nq) := bel_drewN hb7 nq
          generalize hwq : w7.drewN nq = w8 at *
          clear hwq c0 c1 c2 c3 c4 c5 c6 c7 hk hx
          obtain ⟨c0, c1, c2, c3, c4, c5, c6, c7, hk, hx⟩ := HV.out w8 hb8
          go_wp2_with fail
          go_quiet (first | (go_at_call_of 148 (Value.int .i64 2); exact Calls.quiet_of_same (turned_2 _ _)) | (go_at_call_of 148 (Value.int .i64 13); exact Calls.quiet_of_same (turned_13 _ _)) | (go_at_call_of 148 (Value.int .i64 22); exact Calls.quiet_of_same (turned_22 _ _)))
          have hb9 : Below wr.heap.size wr (w8.drewN nq) := bel_drewN hb8 nq
          generalize hwq : w8.drewN nq = w9 at *
          clear hwq c0 c1 c2 c3 c4 c5 c6 c7 hk hx
          obtain ⟨c0, c1, c2, c3, c4, c5, c6, c7, hk, hx⟩ := HV.out w9 hb9
          go_wp2_with fail
          go_quiet (fail)
          have hb10 : Below wr.heap.size wr (w9.drewN nq) := bel_drewN hb9 nq
          generalize hwq : w9.drewN nq = w10 at *
          clear hwq c0 c1 c2 c3 c4 c5 c6 c7 hk hx
          obtain ⟨c0, c1, c2, c3, c4, c5, c6, c7, hk, hx⟩ := HV.out w10 hb10
          go_wp2_with fail
          simp only [w_not, w_and, w_xor, w_add4, w_add]
          obtain ⟨t1, ht1⟩ : ∃ t1, r.h + (rot r.e 6 ^^^ rot r.e 11 ^^^ rot r.e 25) + (r.e &&& r.f ^^^ ~~~ r.e &&& r.g) + kk + ww = t1 := ⟨_, rfl⟩
          obtain ⟨t2, ht2⟩ : ∃ t2, (rot r.a 2 ^^^ rot r.a 13 ^^^ rot r.a 22) + (r.a &&& r.b ^^^ r.a &&& r.c ^^^ r.b &&& r.c) = t2 := ⟨_, rfl⟩
          have HR2 : Hid (rounds ws sj (t + 1) = ⟨t1 + t2, r.a, r.b, r.c, r.d + t1, r.e, r.f, r.g⟩) := by show _ = _; rw [HR.out, ← ht1, ← ht2]; rfl
          rw [ht1, ht2]
          clear ht1 ht2 HR
          have lt1 := t1.toNat_lt
          have lt2 := t2.toNat_lt
          have WA := w_wadd
          go_region_held3 (fun w' => w'.cell? ⟨g, 0, none⟩ = some (.int .u32 r.a.toNat) ∧ w'.cell? ⟨g, 1, none⟩ = some (.int .u32 r.b.toNat) ∧ w'.cell? ⟨g, 2, none⟩ = some (.int .u32 r.c.toNat) ∧ w'.cell? ⟨g, 3, none⟩ = some (.int .u32 r.d.toNat) ∧ w'.cell? ⟨g, 4, none⟩ = some (.int .u32 r.e.toNat) ∧ w'.cell? ⟨g, 5, none⟩ = some (.int .u32 r.f.toNat) ∧ w'.cell? ⟨g, 6, none⟩ = some (.int .u32 r.g.toNat)) (first | exact ⟨c0, c1, c2, c3, c4, c5, c6⟩ | go_keep) (fail)
          have hs10 := hb10.size
          refine post_gen (fun w11 => V8 w11 w10.heap.size (rounds ws sj (t + 1)) ∧ Below q5 w5 w11) ⟨?hv, ?hbb⟩ ?_
          case hv =>
            rw [HR2.out]
            simp only [w_add]
            exact V8_of_block (w := w10.alloc (.cells (wcells (S8.list ⟨t1 + t2, r.a, r.b, r.c, r.d + t1, r.e, r.f, r.g⟩)).toArray 196)) (heap_alloc_new _ _)
          case hbb => exact Below.drew ((hbr.trans (hb10.mono hsr6)).alloc (by omega) _)
          rintro w11 ⟨hV11, hb11⟩
          clear c0 c1 c2 c3 c4 c5 c6 c7 hk hx HV WA
          have HV11 : Hid (V8 w11 w10.heap.size (rounds ws sj (t + 1))) := hV11
          clear hV11
          go_wp2
          go_roundw
          case rel => exact ⟨t + 1, _, 8, by omega, by go_num, rfl, by omega, HV11.out, hb11⟩
          case measure => simp [intOf]; omega
        · have ht64' : ¬ ((t : Int) < 64) := by omega
          rename World => wa
          obtain rfl : t = 64 := by omega
          obtain ⟨r, HRR⟩ : ∃ r, Hid (r = rounds ws sj 64) := ⟨_, rfl⟩
          rw [← HRR.out] at hV HCH
          have HV : Hid (V8 wa g r) := hV
          have HHR : Hid (wa.heap[n + 1]? = some (.cells (wcells sj.list).toArray 196)) := (hbr.block (n + 1) (by omega)).trans HH5.out
          have HCR : Hid (Chg (n + 1) w3 wa) := HC5.out.bel hbr (by omega)
          clear hV hbr HH5 HC5 HW5 HK5
          go_wp2_with fail
          go_loopw [16] (fun i wq => ∃ k : Nat, k ≤ 8 ∧ i = .int .i64 k ∧ Chg (n + 1) wa wq ∧ wq.heap[n + 1]? = some (.cells (wcells ((sj.add r).list.take k ++ sj.list.drop k)).toArray 196)) (fun i _ => (8 - intOf i).toNat)
          case atStart => exact ⟨0, by omega, rfl, Chg.refl _ _, HHR.out⟩
          case round =>
            clear HHR
            obtain ⟨k, hk, rfl, hchg, hblk⟩ := hrel
            have hs9 := hchg.size
            by_cases hk8 : k < 8
            · have hk8' : (k : Int) < 8 := by omega
              have hk0 : (0 : Int) ≤ (k : Int) := by omega
              have hgl := World.block_lt_of_cell? wa _ (HV.out 0 (by omega))
              have hcv : wr.cell? ⟨g, k, none⟩ = some (.int .u32 (r.list.getD k 0).toNat) := by
                rw [World.cell?_of_block (hchg.block g hgl (by omega))]; exact HV.out k hk8
              have hch : wr.cell? ⟨n + 1, k, none⟩ = some (.int .u32 (sj.list.getD k 0).toNat) := by
                rw [cell_of_row wr (n + 1) k _ _ _ hblk, ← add_get sj r k hk8]
                exact wcells_getD _ _ (by rw [add_len sj r k (by omega)]; exact hk8)
              have hfz := frozen_of_row wr (n + 1) k _ _ hblk
              have HST := add_set sj r k hk8
              have HNEW := chg_set k (.int .u32 ((sj.list.getD k 0 + r.list.getD k 0).toNat : Int)) hchg hblk
              rw [wcells_set, HST] at HNEW
              have HN : Hid (_ ∧ _) := HNEW
              generalize sj.list.getD k 0 = xk at *
              generalize r.list.getD k 0 = yk at *
              have lx := xk.toNat_lt
              have ly := yk.toNat_lt
              have WA := w_wadd
              clear hchg hblk HST HNEW
              go_wp2_with fail
              go_region
              rw [w_add]
              refine post_gen (fun w9 => Chg (n + 1) wa w9 ∧ w9.heap[n + 1]? = some (.cells (wcells ((sj.add r).list.take (k + 1) ++ sj.list.drop (k + 1))).toArray 196)) HN.out ?_
              rintro w9 ⟨hc9, hb9⟩
              clear hcv hch hfz HN WA
              have HB9 : Hid (w9.heap[n + 1]? = some (.cells (wcells ((sj.add r).list.take (k + 1) ++ sj.list.drop (k + 1))).toArray 196)) := hb9
              clear hb9
              go_wp2
              go_roundw
              case rel => exact ⟨k + 1, by omega, by go_num, hc9, HB9.out⟩
              case measure => simp [intOf]; omega
            · obtain rfl : k = 8 := by omega
              have hblk2 : wr.heap[n + 1]? = some (.cells (wcells (chain p (j + 1)).list).toArray 196) := by
                rw [HCH.out]; exact hblk
              have hc2 := HCR.out.trans hchg
              have HB2 : Hid (wr.heap[n + 1]? = some (.cells (wcells (chain p (j + 1)).list).toArray 196)) := hblk2
              have HC2 : Hid (Chg (n + 1) w3 wr) := hc2
              clear hblk hblk2 hchg hc2 HV HCR
              go_wp2
              go_roundw
              case rel => exact ⟨j + 1, J + 64, by omega, by have := HJ.out; omega, by go_num, HC2.out, HB2.out⟩
              case measure => simp [intOf]; omega
    · have hJL : J = L := by rw [HL.out, hJ]; congr 1; omega
      have hjj : j = N := by omega
      have hge : ¬ ((J : Int) < (L : Int)) := by omega
      obtain ⟨s8, HS8⟩ : ∃ s8, Hid (s8 = chain p N) := ⟨_, rfl⟩
      rw [hjj, ← HS8.out] at hhb
      rw [← HS8.out] at HSHA
      have HV : Hid (V8 wr (n + 1) s8) := V8_of_block hhb
      have HRR : Hid (wr.heap[n]? = some (.cells (cellsOf (List.replicate 32 0)).toArray 46)) := (hchg.block n (by omega) (by omega)).trans HR0.out
      have HBW : Hid (Below n w wr) := hbw3.trans (hchg.below (by omega) (by omega))
      clear hhb hJ hjj hchg HJ
      rename World => wa
      have HZ1 : Hid ((cellsOf (List.replicate 32 0)).toArray.all (·.oneCell') = true) := all_oneCell_toArray (cellsOf_one _)
      have HZS : Hid ((Tryd.prog.info? 46).map (·.size) = some (cellsOf (List.replicate 32 0)).toArray.size) := size24
      go_wp2_with (refine wpList_store_to rfl 46 (.tmp 17) (.tmp 173) rfl wa.heap.size (cellsOf (List.replicate 32 0)).toArray rfl rfl 46 (cellsOf (List.replicate 32 0)).toArray (heap_alloc_new _ _) HZS.out rfl HZ1.out ?_)
      intro w6 hblk6 hchg6
      have hbel6 : Below wa.heap.size wa w6 := (bel_alloc _ _).trans (hchg6.below (Nat.le_refl _) (by simp))
      have hs6 : wa.heap.size + 1 ≤ w6.heap.size := by have := hchg6.size; simpa using this
      have HV6 : Hid (V8 w6 (n + 1) s8) := HV.out.below hbel6 (by omega)
      have HR6 : Hid (w6.heap[n]? = some (.cells (cellsOf (List.replicate 32 0)).toArray 46)) := (hbel6.block n (by omega)).trans HRR.out
      have HB6 : Hid (Below n w w6) := HBW.out.trans (hbel6.mono (by omega))
      have HD6 : Hid (w6.heap[wa.heap.size]? = some (.cells (cellsOf (List.replicate 32 0)).toArray 46)) := hblk6
      clear hblk6 hchg6 hbel6 HV HRR HBW HZ1 HZS
      generalize hdb : wa.heap.size = db at *
      go_wp2_with fail
      go_loopw [18] (fun t wq => ∃ i : Nat, i ≤ 32 ∧ t = .int .i64 i ∧ Chg db w6 wq ∧ wq.heap[db]? = some (.cells (cellsOf (digP s8 i)).toArray 46)) (fun t _ => (32 - intOf t).toNat)
      case atStart => exact ⟨0, by omega, rfl, Chg.refl _ _, HD6.out⟩
      case round =>
        clear HD6
        obtain ⟨i, hi, rfl, hchg, hblk⟩ := hrel
        have hs9 := hchg.size
        by_cases hi32 : i < 32
        · have hi32' : (i : Int) < 32 := by omega
          have hi0 : (0 : Int) ≤ (i : Int) := by omega
          have hquo : (i : Int).tdiv 4 = ((i / 4 : Nat) : Int) := by rw [Int.tdiv_eq_ediv_of_nonneg (by omega)]; omega
          have hrem : (i : Int).tmod 4 = ((i % 4 : Nat) : Int) := by rw [Int.tmod_eq_emod_of_nonneg (by omega)]; omega
          have hq8 : ((i / 4 : Nat) : Int) < 8 := by omega
          have hq0 : (0 : Int) ≤ ((i / 4 : Nat) : Int) := by omega
          obtain ⟨sh, hsh⟩ : ∃ sh, sh = 24 - 8 * (i % 4) := ⟨_, rfl⟩
          have hsub : (24 : Int) - 8 * ((i % 4 : Nat) : Int) = (sh : Int) := by omega
          have hsh24 : (sh : Int) ≤ 24 := by omega
          have hch : wr.cell? ⟨n + 1, i / 4, none⟩ = some (.int .u32 (s8.list.getD (i / 4) 0).toNat) := by
            rw [World.cell?_of_block (hchg.block (n + 1) (by omega) (by omega))]; exact HV6.out (i / 4) (by omega)
          have hdl := digP_length s8 i (by omega)
          have hcd : wr.cell? ⟨db, i, none⟩ = some (.int .u8 ((digP s8 i).getD i 0).toNat) := by rw [cell_of_row wr db i _ _ _ hblk]; exact cellsOf_getD _ _ (by omega)
          have hfz := frozen_of_row wr db i _ _ hblk
          have HNEW := chg_set0 i (.int .u8 ((UInt8.ofNat ((s8.list.getD (i / 4) 0).toNat / 2 ^ sh % 256)).toNat : Int)) hchg hblk
          rw [hsh, cells_set, digP_set s8 i hi32, ← hsh] at HNEW
          have HN : Hid (_ ∧ _) := HNEW
          generalize s8.list.getD (i / 4) 0 = x at *
          have hnum : (x.toNat : Int) / 2 ^ sh % 256 = ((UInt8.ofNat (x.toNat / 2 ^ sh % 256)).toNat : Int) := by rw [toNat_ofNat _ (by omega)]; simp
          have lx := x.toNat_lt
          generalize UInt8.ofNat (x.toNat / 2 ^ sh % 256) = c at *
          generalize i / 4 = iq at *
          generalize i % 4 = ir at *
          have HSH : Hid (sh = 24 - 8 * ir) := hsh
          clear hchg hblk HNEW hdl hsh
          go_wp2
          exact ⟨⟨i + 1, by omega, by go_num, HN.out.1, HN.out.2⟩, by simp [intOf]; omega⟩
        · obtain rfl : i = 32 := by omega
          have hd32 : digP s8 32 = digest s8 := by unfold digP; rw [List.take_of_length_le (by rw [digest_length]; omega)]; simp
          rw [hd32] at hblk
          have hres := (hchg.block n (by omega) (by omega)).trans HR6.out
          have hbn : Below n w wr := HB6.out.trans (hchg.below (by omega) (by omega))
          obtain ⟨D, HD⟩ : ∃ D, Hid (D = (cellsOf (digest s8)).toArray) := ⟨_, rfl⟩
          have hcs : D.size = 32 := by rw [HD.out, List.size_toArray, cellsOf_length, digest_length]
          have hone : D.all (·.oneCell') = true := by rw [HD.out]; exact all_oneCell_toArray (cellsOf_one _)
          rw [← HD.out] at hblk
          obtain ⟨A, hA, hres2⟩ : ∃ A : Array Value, A.size = 32 ∧ wr.heap[n]? = some (.cells A 46 (0, 0)) := ⟨_, rfl, hres⟩
          have HH : Hid (wr.heap[db]? = some (.cells D 46 (0, 0))) := hblk
          have HRS : Hid (wr.heap[n]? = some (.cells A 46 (0, 0))) := hres2
          have HSZ : Hid ((Tryd.prog.info? 46).map (·.size) = some D.size) := by show _ = _; rw [size24, hcs]
          have HAD : Hid (A.size = D.size) := by show _ = _; rw [hA, hcs]
          have HON : Hid (D.all (·.oneCell') = true) := hone
          clear hblk hchg hres hres2 hd32 hA hcs hone
          go_wp2_with (first | (refine wpList_load_row rfl 46 (.tmp 17) rfl db rfl 46 D (0, 0) _ HH.out Tryd.underlying46 rfl HSZ.out ?_) | (refine wpList_store_row rfl 46 (.tmp 2) (.tmp 192) rfl n D rfl rfl 46 A HRS.out HSZ.out HAD.out HON.out ?_))
          refine bodyPost_ret (results_cell_row rfl _ _ n 46 D (0, 0) _ rfl (setRow_heap _ _ _ _ _ _ HRS.out) Tryd.underlying46 rfl HSZ.out) rfl ?_
          exact ⟨by rw [HD.out, HS8.out], by rw [hn]; exact below_setRow hbn (Nat.le_refl _) _⟩
end Go.Proofs.YtecacjddggljgaaDoor.Sm

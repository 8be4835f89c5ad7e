/-
  passLeast of the heads: a contract over this translation.
-/
import Derived.Test.YteggjenncmjfmaaMgI
import Derived.Deep.CutBlock
import Derived.Deep.DeepCutAuto
namespace Go.Proofs.Yteggjenncmjfmaa
open Go.RowKit
set_option linter.unusedSectionVars false
variable [Inhabited E] [DecidableEq E] [Inhabited RV]
def fnP (r : RV) : Value := .func (.func 30) #[.agg #[.int .i64 (r.age : Int), .slice r.ao r.n r.c]] #[]
def fnC (P : List RV) : List Value := P.map fnP
theorem heap_drewN (w : World) : ∀ n, (w.drewN n).heap = w.heap
  | 0 => rfl
  | n + 1 => heap_drewN w n
theorem fnC_one (P : List RV) : ∀ u ∈ fnC P, u.oneCell' = true := by
  intro u hu
  obtain ⟨r, _, rfl⟩ := List.mem_map.1 hu
  rfl
theorem info55 : (Try.prog.info? 55).map (fun i => (i.zero, i.size, i.bytes)) = some (some .nilFunc, 1, 8) := by kernel_rfl
def lenV : Value → Nat
  | .slice _ n _ => n
  | _ => 0
theorem lenV_row {w : World} {B e s n : Nat} {v : Value} {xs : List Value} (h : w.ownsRow B e s v n xs) : lenV v = n := by
  rcases h.2 with ⟨rfl, h0⟩ | ⟨g, cap, cur, rfl, hB, hgg, rest⟩
  · exact h0.symm
  · rfl
def viewR (r : RV) : Nat × List E := (r.age, r.l)
theorem view_step (k0 : ByteArray) {R S P : List RV} (hp : (S ++ P).Perm R) (hS : ∀ r ∈ S, (hE r.l).key ≠ k0) (hP : ∀ r ∈ P, (hE r.l).key = k0) : ((S ++ full (P.map passR)).map viewR).Perm (stepV k0 (R.map viewR)) := by
  refine List.Perm.trans ?_ (stepV_perm k0 (hp.map viewR))
  have h1 : ((S ++ P).map viewR).filter (fun p => !decide ((hE p.2).key = k0)) = S.map viewR := by
    rw [List.map_append, List.filter_append, List.filter_eq_self.2, List.filter_eq_nil_iff.2, List.append_nil]
    · intro p hp
      obtain ⟨r, hr, rfl⟩ := List.mem_map.1 hp
      have := hP r hr
      simp [viewR, this]
    · intro p hp
      obtain ⟨r, hr, rfl⟩ := List.mem_map.1 hp
      have := hS r hr
      simp [viewR, this]
  have h2 : ((S ++ P).map viewR).filter (fun p => decide ((hE p.2).key = k0)) = P.map viewR := by
    rw [List.map_append, List.filter_append, List.filter_eq_nil_iff.2, List.nil_append, List.filter_eq_self.2]
    · intro p hp
      obtain ⟨r, hr, rfl⟩ := List.mem_map.1 hp
      have := hP r hr
      simp [viewR, this]
    · intro p hp
      obtain ⟨r, hr, rfl⟩ := List.mem_map.1 hp
      have := hS r hr
      simp [viewR, this]
  unfold stepV
  rw [h1, h2, List.map_append]
  refine List.Perm.append_left _ (List.Perm.of_eq ?_)
  unfold full
  induction P with
  | nil => rfl
  | cons p P ih =>
    have ih' : ∀ Q : List RV, ((Q.map passR).filter fun r => !r.l.isEmpty).map viewR = ((Q.map viewR).map fun p => (p.1, p.2.tail)).filter fun p => !p.2.isEmpty := fun Q => by
      clear ih h1 h2 hP hS hp
      induction Q with
      | nil => rfl
      | cons q Q ih3 =>
        simp only [List.map_cons, List.filter_cons]
        have e1 : (passR q).l = q.l.tail := rfl
        have e2 : (viewR q).2.tail = q.l.tail := rfl
        rw [e1, e2]
        split
        · rw [List.map_cons, ih3]; rfl
        · exact ih3
    exact ih' (p :: P)
theorem full_map_snoc (P : List RV) (i : Nat) (hi : i < P.length) [Inhabited RV] : full ((P.take (i + 1)).map passR) = full ((P.take i).map passR) ++ (if (passR P[i]!).l = [] then [] else [passR P[i]!]) := by
  have : P.take (i + 1) = P.take i ++ [P[i]!] := by
    rw [List.take_succ_eq_append_getElem hi, getElem!_pos P i hi]
  rw [this, List.map_append, List.map_singleton]
  unfold full
  rw [List.filter_append]
  congr 1
  generalize passR P[i]! = r
  cases h : r.l with
  | nil => simp [h]
  | cons e t => simp [h]
theorem fnC_cell [Inhabited RV] {w : World} {base b n c : Nat} {P : List RV} (h : w.ownsRow base 55 1 (.slice (some ⟨b, 0, none⟩) n c) n (fnC P)) (i : Nat) (hi : i < P.length) : w.cell? ⟨b, i, none⟩ = some (fnP P[i]!) := by
  have := h.cells (g := b) rfl i (fnP P[i]!) (by unfold fnC; rw [List.getElem?_map, List.getElem?_eq_getElem hi, getElem!_pos P i hi]; rfl)
  rw [Addr.add_lit] at this
  simpa using this
theorem row_form {w : World} {B e s n : Nat} {v : Value} {xs : List Value} (h : w.ownsRow B e s v n xs) : ∃ ao c, v = .slice ao n c ∧ n ≤ c ∧ (0 < n → ∃ b, ao = some ⟨b, 0, none⟩) := by
  rcases h.2 with ⟨rfl, h0⟩ | ⟨g, cap, cur, rfl, hB, hgg, hn, rest⟩
  · exact ⟨none, 0, by rw [h0], by omega, fun h => by omega⟩
  · exact ⟨_, cap, rfl, hn, fun _ => ⟨g, rfl⟩⟩
/-- While rows are kept again. -/
structure KL (own own' : Nat → Prop) (w0 w wc wr : World) (g nb : Nat) (S P T : List RV) (i : Nat) (v : Value) (e : E) : Prop where
  hs : Hs own' w0 wr g T
  only : Only own w wr
  perm : T.Perm (S ++ full ((P.take i).map passR))
  lows : ∀ k, own' k → k < wr.heap.size ∧ (own k ∨ wc.heap.size ≤ k)
  size : wc.heap.size ≤ wr.heap.size
  row : wr.ownsRow w.heap.size 55 1 v P.length (fnC P)
  new : wr.heap[nb]? = some (.cells (encE e).toArray 29 (0, 0))
  zero : wr.heap[w.heap.size]? = some (.cells #[.string ⟨#[]⟩, .string ⟨#[]⟩, .bool false, .int .i64 0] 29 (0, 0))
  far : nb < wc.heap.size ∧ w.heap.size < nb ∧ (∀ k, v.ownBlock = some k → k < wc.heap.size)
/-- While rows are taken: those that are left, and those that were taken. -/
structure PL (own : Nat → Prop) (w0 w wr : World) (g nb : Nat) (R S P : List RV) (v : Value) (e : E) : Prop where
  hs : Hs own w0 wr g S
  only : Only own w wr
  perm : (S ++ P).Perm R
  keys : ∀ p ∈ P, (hE p.l).key = e.key
  row : wr.ownsRow w.heap.size 55 1 v P.length (fnC P)
  new : wr.heap[nb]? = some (.cells (encE e).toArray 29 (0, 0))
  zero : wr.heap[w.heap.size]? = some (.cells #[.string ⟨#[]⟩, .string ⟨#[]⟩, .bool false, .int .i64 0] 29 (0, 0))
  nbl : w.heap.size < nb
theorem PL.step {own : Nat → Prop} {w0 w wr wx : World} {g nb : Nat} {R S P : List RV} {v : Value} {e : E} (h : PL own w0 w wr g nb R S P v e) (ho : Only own wr wx) (hk : ∀ k, k < wr.heap.size → own k → wx.heap[k]? = wr.heap[k]?) : PL own w0 w wx g nb R S P v e := by
  have ho2 : Only own w wx := h.only.trans ho (fun _ e => .inl e)
  have hb : ∀ k, k < wr.heap.size → wx.heap[k]? = wr.heap[k]? := fun k hlt => by
    by_cases q : own k
    · exact hk k hlt q
    · exact ho.block k hlt q
  exact ⟨h.hs.only ho (h.hs.at_.keep hk), ho2, h.perm, h.keys, row_block h.row (fun k hq => hb k (h.row.lt k hq).2), (hb nb (heap_lt h.new)).trans h.new, (hb _ (heap_lt h.zero)).trans h.zero, h.nbl⟩
section
variable {own : Nat → Prop} {w : World} {g : Nat} {R : List RV} {v : Value}
set_option maxRecDepth 100000 in
set_option maxHeartbeats 1000000 in
theorem passLeast_any {w0 : World} (h : Hs own w0 w g R) (hlow : ∀ k, own k → k < w.heap.size) (hpos : 0 < R.length) (hb : R.length < 1000000) : Calls Try.prog 21 #[.pointer (some ⟨g, 0, none⟩)] w fun e w' => e = .returned (.agg (encE (hE R[0]!.l)).toArray) ∧ ∃ T own', (T.map viewR).Perm (stepV (hE R[0]!.l).key (R.map viewR)) ∧ Hs own' w0 w' g T ∧ (∀ k, own' k → k < w'.heap.size ∧ grow own w k) ∧ Only own w w' := by
  have HH : Hid (Hs own w0 w g R) := h
  obtain ⟨r0, HR0⟩ : ∃ r, Hid (R[0]! = r) := ⟨_, rfl⟩
  have hr0 := h.rows.at (i := 0) hpos
  rw [HR0.out] at hr0 ⊢
  obtain ⟨v, hv⟩ := h.at_
  obtain ⟨b, c, cur, rfl, hob, hbg, hcur, hlc, hc, hsz, hat⟩ := hv.slice hpos
  obtain ⟨d1, d2⟩ := hat 0 hpos
  rw [HR0.out] at d1 d2
  have c0 := hv.c0
  obtain ⟨a1, o1, n1, c1, l1⟩ := r0
  cases l1 with
  | nil => exact absurd rfl hr0.2
  | cons e0 t0 =>
  obtain ⟨k0, v0, dd0, q0⟩ := e0
  simp only at d1 d2
  have d1' : w.cell? ⟨b, 0, none⟩ = some (.int .i64 (a1 : Int)) := by simpa using d1
  have d2' : w.cell? ⟨b, 1, none⟩ = some (.slice o1 n1 c1) := by simpa using d2
  have HD : Hid (∀ W, Below w0.heap.size w0 W → Calls Try.prog 28 #[.agg #[.int .i64 (a1 : Int), .slice o1 n1 c1]] W fun e w' => e = .returned (.agg #[.string k0, .string v0, .bool dd0, .int .i64 q0]) ∧ Below W.heap.size W w') := fun W hW => head_any ⟨a1, o1, n1, c1, ⟨k0, v0, dd0, q0⟩ :: t0⟩ k0 v0 dd0 q0 t0 W (hr0.1.below hW (Nat.le_refl _)) rfl
  have hpz : (0 : Int) < (R.length : Int) := by omega
  clear h hr0 hv hob hbg hcur hlc hc hsz hat d1 d2
  have e0 := bel_cell (bel_alloc w (.cells #[.string ⟨#[]⟩, .string ⟨#[]⟩, .bool false, .int .i64 0] 29)) (Nat.le_refl _) c0
  have e1 := bel_cell (bel_alloc w (.cells #[.string ⟨#[]⟩, .string ⟨#[]⟩, .bool false, .int .i64 0] 29)) (Nat.le_refl _) d1'
  have e2 := bel_cell (bel_alloc w (.cells #[.string ⟨#[]⟩, .string ⟨#[]⟩, .bool false, .int .i64 0] 29)) (Nat.le_refl _) d2'
  obtain ⟨W1, HW1⟩ : ∃ W, Hid (w.alloc (.cells #[.string ⟨#[]⟩, .string ⟨#[]⟩, .bool false, .int .i64 0] 29) = W) := ⟨_, rfl⟩
  rw [HW1.out] at e0 e1 e2
  have HB1 : Hid (Below w.heap.size w W1) := by rw [← HW1.out]; exact bel_alloc _ _
  have HZ1 : Hid (W1.heap[w.heap.size]? = some (.cells #[.string ⟨#[]⟩, .string ⟨#[]⟩, .bool false, .int .i64 0] 29 (0, 0))) := by show _ = _; rw [← HW1.out, heap_alloc_get, if_pos rfl]
  clear c0 d1' d2'
  simp only [hE, encE]
  go_enter Try.func21, Try.ntmps21
  go_upto_region 1 with fail
  rw [HW1.out]
  go_wp2_with fail
  refine (HD.out _ (HH.out.bel.trans (HB1.out.mono HH.out.bel.size))).mono ?_
  rintro e w2 ⟨rfl, hb2⟩
  clear e0 e1 e2
  have HB2 : Hid (Below w.heap.size w w2) := HB1.out.trans (hb2.mono HB1.out.size)
  have HZ2 : Hid (w2.heap[w.heap.size]? = some (.cells #[.string ⟨#[]⟩, .string ⟨#[]⟩, .bool false, .int .i64 0] 29 (0, 0))) := (hb2.block _ (heap_lt HZ1.out)).trans HZ1.out
  clear hb2 HZ1
  go_upto_block 0 with fail
  obtain ⟨W3, HW3⟩ : ∃ W, Hid (w2.alloc (.cells #[.string k0, .string v0, .bool dd0, .int .i64 q0] 29) = W) := ⟨_, rfl⟩
  rw [HW3.out]
  obtain ⟨nb, HNB⟩ : ∃ n, Hid (w2.heap.size = n) := ⟨_, rfl⟩
  rw [HNB.out]
  have HP0 : Hid (PL own w0 w W3 g nb R R [] (.slice none 0 0) ⟨k0, v0, dd0, q0⟩) := by
    have hb3 : Below w.heap.size w W3 := by rw [← HW3.out]; exact HB2.out.trans ((bel_alloc w2 _).mono HB2.out.size)
    refine ⟨HH.out.only (Only.of_below hb3) (HH.out.at_.grown hb3), Only.of_below hb3, by rw [List.append_nil], fun p hp => (by cases hp), World.ownsRow_nil _ _ _ _, ?_, ?_, ?_⟩
    · rw [← HW3.out, ← HNB.out, heap_alloc_get, if_pos rfl]; rfl
    · have := heap_lt HZ2.out
      rw [← HW3.out, heap_alloc_get, if_neg (by omega)]; exact HZ2.out
    · rw [← HNB.out]; exact heap_lt HZ2.out
  clear HW3 HB2 HZ2 HNB
  have HLOW : Hid (∀ k, own k → k < w.heap.size) := hlow
  have HBR : Hid (R.length < 1000000) := hb
  clear hlow hb hpz hpos
  go_cut [4] (fun s4 wx => ∃ (S P : List RV), Hid (PL own w0 w wx g nb R S P s4 ⟨k0, v0, dd0, q0⟩ ∧ (S = [] ∨ (hE (S[0]!).l).key ≠ k0)))
  case first =>
    go_wp2_with fail
    go_loopw [4] (fun x wr => ∃ (S P : List RV), Hid (PL own w0 w wr g nb R S P x ⟨k0, v0, dd0, q0⟩)) (fun x _ => R.length - lenV x)
    case atStart => exact ⟨R, [], HP0.out⟩
    case round =>
      obtain ⟨S, P, HI⟩ := hrel
      by_cases hS : S.length = 0
      · have HS0 : Hid (S = []) := List.eq_nil_of_length_eq_zero hS
        have HC : Hid (∀ n, Calls Try.prog 20 #[.pointer (some ⟨g, 0, none⟩)] (wr.drewN n) fun e w' => e = .returned (.int .i64 0) ∧ w' = wr.drewN n) := fun n => by
          have := hlen_any (HI.out.hs.at_.keep (w' := wr.drewN n) (fun _ _ _ => by rw [heap_drewN]))
          rw [hS] at this; exact this
        clear hS
        go_wp2_with fail
        go_quiet ((go_at_call 20; exact Calls.quiet_of_same (HC.out _)))
        go_wp2_with fail
        go_meet
        case rel =>
          have hpl : PL own w0 w (wr.drewN nq) g nb R S P u4 ⟨k0, v0, dd0, q0⟩ := HI.out.step (Only.of_below (bel_drewN (Below.refl _ _) nq)) (fun k _ _ => by rw [heap_drewN])
          exact ⟨S, P, hpl, .inl HS0.out⟩
      · obtain ⟨m, HM⟩ : ∃ m, Hid (S.length = m) := ⟨_, rfl⟩
        have hm0 : (0 : Int) < (m : Int) := by have := HM.out; omega
        have hm1 : 0 < m := by omega
        have hdn : decide (0 < m) = true := decide_eq_true (by omega)
        obtain ⟨r, HRR⟩ : ∃ r, Hid (S[0]! = r) := ⟨_, rfl⟩
        have hr := HI.out.hs.rows.at (i := 0) (by omega)
        rw [HRR.out] at hr
        obtain ⟨vv, hv⟩ := HI.out.hs.at_
        obtain ⟨bb, cc, cur, rfl, hob, hbg, hcur, hlc, hc, hsz, hat⟩ := hv.slice (by omega)
        obtain ⟨d1, d2⟩ := hat 0 (by omega)
        rw [HRR.out] at d1 d2
        have c0 := hv.c0
        rw [HM.out] at c0
        obtain ⟨ra, ro, rn, rc, rl⟩ := r
        cases rl with
        | nil => exact absurd rfl hr.2
        | cons re rt =>
        obtain ⟨rk, rv, rd, rq⟩ := re
        simp only at d1 d2
        have d1' : wr.cell? ⟨bb, 0, none⟩ = some (.int .i64 (ra : Int)) := by simpa using d1
        have d2' : wr.cell? ⟨bb, 1, none⟩ = some (.slice ro rn rc) := by simpa using d2
        have n0 : wr.cell? ⟨nb, 0, none⟩ = some (.string k0) := by rw [cell_of_row _ _ _ _ _ _ HI.out.new]; rfl
        have HC : Hid (∀ W, HAt own W g S → Calls Try.prog 20 #[.pointer (some ⟨g, 0, none⟩)] W fun e w' => e = .returned (.int .i64 (m : Int)) ∧ w' = W) := fun W hW => by
          rw [← HM.out]; exact hlen_any hW
        have HAD : Hid (HAt own wr.drew g S) := HI.out.hs.at_.keep (fun _ _ _ => by rw [heap_drew])
        have HE0 : Hid (∀ W, Below w0.heap.size w0 W → Calls Try.prog 28 #[.agg #[.int .i64 (ra : Int), .slice ro rn rc]] W fun e w' => e = .returned (.agg #[.string rk, .string rv, .bool rd, .int .i64 rq]) ∧ Below W.heap.size W w') := fun W hW => head_any ⟨ra, ro, rn, rc, ⟨rk, rv, rd, rq⟩ :: rt⟩ rk rv rd rq rt W (hr.1.below hW (Nat.le_refl _)) rfl
        have HBD : Hid (Below w0.heap.size w0 wr.drew) := HI.out.hs.bel.drew
        have f1 := field29_0 rk rv rd rq
        have HKE := eq_cmpS rk k0
        clear hS hr hv hob hbg hcur hlc hc hsz hat d1 d2
        by_cases hk : rk = k0
        · rw [decide_eq_true hk] at HKE
          have HK : Hid (rk = k0) := hk
          clear hk
          go_wp2_with fail
          go_region_held3 (fun W => W.cell? ⟨g, 0, none⟩ = some (.slice (some ⟨bb, 0, none⟩) m cc) ∧ W.cell? ⟨bb, 0, none⟩ = some (.int .i64 (ra : Int)) ∧ W.cell? ⟨bb, 1, none⟩ = some (.slice ro rn rc) ∧ W.cell? ⟨nb, 0, none⟩ = some (.string k0)) (first | assumption | go_keep) (first | (go_at_call 20; refine (HC.out _ HAD.out).mono ?_; rintro e w' ⟨rfl, rfl⟩) | (go_at_call 28; refine (HE0.out _ HBD.out).mono ?_; rintro e w5 ⟨rfl, hb5⟩; have hS1 : _ ∧ _ ∧ _ ∧ _ := ⟨bel_cell hb5 (Nat.le_refl _) c0, bel_cell hb5 (Nat.le_refl _) d1', bel_cell hb5 (Nat.le_refl _) d2', bel_cell hb5 (Nat.le_refl _) n0⟩))
          have HPL5 : Hid (PL own w0 w w5 g nb R S P u4 ⟨k0, v0, dd0, q0⟩) := HI.out.step ((Only.of_below (own := own) (Below.refl _ wr).drew).trans (Only.of_below (own := own) hb5) (fun _ e => .inl e)) (fun k hk _ => by rw [hb5.block k (by rw [heap_drew]; exact hk), heap_drew])
          have HLS : Hid (S.length + P.length = R.length) := by have := HI.out.perm.length_eq; rw [List.length_append] at this; exact this
          have HPOP : Hid _ := hpop_any HPL5.out.hs (by have := HLS.out; have := HBR.out; omega) (by have := HM.out; omega)
          rw [HRR.out] at HPOP
          have f2 := assert49 ra ro rn rc
          clear hb5 HC HAD HE0 HBD f1 HKE c0 d1' d2' n0 hm0 hm1 hdn
          go_wp2_with fail
          refine Calls.mono HPOP.out ?_
          rintro e w6 ⟨rfl, T, hpT, hsT, hoT⟩
          have HT : Hid (T.length + 1 = S.length ∧ (T ++ [(⟨ra, ro, rn, rc, ⟨rk, rv, rd, rq⟩ :: rt⟩ : RV)]).Perm S) := ⟨by have := hpT.length_eq; rw [List.length_append, List.length_singleton] at this; exact this, hpT⟩
          have HPL6 : Hid (Hs own w0 w6 g T ∧ Only own w w6 ∧ w6.ownsRow w.heap.size 55 1 u4 P.length (fnC P) ∧ w6.heap[nb]? = some (.cells (encE ⟨k0, v0, dd0, q0⟩).toArray 29 (0, 0)) ∧ w6.heap[w.heap.size]? = some (.cells #[.string ⟨#[]⟩, .string ⟨#[]⟩, .bool false, .int .i64 0] 29 (0, 0))) := by
            have hfar : ∀ k, k < w5.heap.size → w.heap.size ≤ k → w6.heap[k]? = w5.heap[k]? := fun k hk hw => hoT.block k hk (fun e => by have := HLOW.out k e; omega)
            exact ⟨hsT, HPL5.out.only.trans hoT (fun _ e => .inl e), row_block HPL5.out.row (fun k hq => hfar k (HPL5.out.row.lt k hq).2 (HPL5.out.row.lt k hq).1), (hfar nb (heap_lt HPL5.out.new) (Nat.le_of_lt HPL5.out.nbl)).trans HPL5.out.new, (hfar _ (heap_lt HPL5.out.zero) (Nat.le_refl _)).trans HPL5.out.zero⟩
          clear hpT hsT hoT HPOP
          have HROW : Hid ((w6.alloc (.cells #[.func (.func 30) #[.agg #[.int .i64 (ra : Int), .slice ro rn rc]] #[]] 55)).ownsRow w.heap.size 55 1 u4 P.length (fnC P)) := own_below HPL6.out.2.2.1 (bel_alloc _ _) (Nat.le_refl _)
          have HSZ : Hid (P.length < 1000000 ∧ w.heap.size ≤ (w6.alloc (.cells #[.func (.func 30) #[.agg #[.int .i64 (ra : Int), .slice ro rn rc]] #[]] 55)).heap.size) := ⟨by have := HLS.out; have := HBR.out; omega, by have := HPL6.out.2.1.size; simp; omega⟩
          obtain ⟨i0, hi, hz0, hz1, hz2⟩ := info_parts info55
          go_wp2_with (at_builtin; refine wpList_append_lies _ rfl (.tmp 30) (.tmp 36) 54 rfl w.heap.size 55 i0 _ 1 8 Try.underlying54 hi hz0 hz1 hz2 rfl (by decide) u4 P.length (fnC P) rfl HROW.out ⟨w6.heap.size, 0, none⟩ 1 1 [fnP ⟨ra, ro, rn, rc, ⟨rk, rv, rd, rq⟩ :: rt⟩] rfl rfl (World.news_of_block (cs := #[fnP ⟨ra, ro, rn, rc, ⟨rk, rv, rd, rq⟩ :: rt⟩]) (t := 55) (fr := (0, 0)) (by rw [heap_alloc_get, if_pos rfl]; rfl)) (fnC_one [(⟨ra, ro, rn, rc, ⟨rk, rv, rd, rq⟩ :: rt⟩ : RV)]) (by decide) (by have := HSZ.out.1; unfold maxLen; omega) (by have := HSZ.out.1; omega) HSZ.out.2 _ rfl ?_)
          intro g7 cap7 w7 hr7 hg7 hl7 hlt7
          have HPL7 : Hid (PL own w0 w w7 g nb R T (P ++ [(⟨ra, ro, rn, rc, ⟨rk, rv, rd, rq⟩ :: rt⟩ : RV)]) (.slice (some ⟨g7, 0, none⟩) (P.length + 1) cap7) ⟨k0, v0, dd0, q0⟩) := by
            obtain ⟨q1, q2, q3, q4, q5⟩ := HPL6.out
            have hfar : ∀ k, k < w6.heap.size → u4.ownBlock ≠ some k → w7.heap[k]? = w6.heap[k]? := fun k hk hne => by
              rw [hg7.block k (by simp; omega) (fun e => hne e.symm), heap_alloc_get, if_neg (by omega)]
            have hown : ∀ k, own k → u4.ownBlock ≠ some k := fun k hk e => by have h1 := (q3.lt k e).1; have h2 := HLOW.out k hk; omega
            have ho : Only own w w7 := (q2.alloc _).grown hg7 (fun k hk => .inr (q3.lt k hk).1)
            refine ⟨⟨q1.at_.keep (fun k hk hw => hfar k hk (hown k hw)), HH.out.bel.trans (ho.below HH.out.new HH.out.bel.size), q1.new, q1.rows, q1.heap⟩, ho, ?_, ?_, ?_, ?_, ?_, HPL5.out.nbl⟩
            · refine List.Perm.trans ?_ HPL5.out.perm
              refine List.Perm.trans (List.Perm.append_left T List.perm_append_comm) ?_
              rw [← List.append_assoc]
              exact List.Perm.append_right P HT.out.2
            · intro p hp
              rcases List.mem_append.1 hp with hp | hp
              · exact HPL5.out.keys p hp
              · rw [List.mem_singleton.1 hp]; exact HK.out
            · rw [List.length_append, List.length_singleton]
              have : fnC (P ++ [(⟨ra, ro, rn, rc, ⟨rk, rv, rd, rq⟩ :: rt⟩ : RV)]) = fnC P ++ [fnP ⟨ra, ro, rn, rc, ⟨rk, rv, rd, rq⟩ :: rt⟩] := by simp [fnC]
              rw [this]; exact hr7
            · rw [hfar nb (heap_lt q4) (fun e => ?_)]
              · exact q4
              · obtain ⟨cur, hc⟩ := row_heap q3 e
                exact ne_kind hc q4 (by decide) rfl
            · rw [hfar _ (heap_lt q5) (fun e => ?_)]
              · exact q5
              · obtain ⟨cur, hc⟩ := row_heap q3 e
                exact ne_kind hc q5 (by decide) rfl
          have HLN : Hid (lenV u4 = P.length) := lenV_row HPL5.out.row
          clear hr7 hg7 hl7 hlt7 HROW HPL6
          go_wp2_with fail
          go_roundw
          case rel => exact ⟨T, _, HPL7.out⟩
          case measure =>
            have h1 := HLN.out
            have h2 := HLS.out
            have h3 := HT.out.1
            have h5 : ∀ b c, lenV (.slice b (P.length + 1) c) = P.length + 1 := fun _ _ => rfl
            simp [h5, h1]
            omega
        · rw [decide_eq_false hk] at HKE
          have HK : Hid (rk ≠ k0) := hk
          clear hk
          go_wp2_with fail
          go_region_held3 (fun W => W.cell? ⟨g, 0, none⟩ = some (.slice (some ⟨bb, 0, none⟩) m cc) ∧ W.cell? ⟨bb, 0, none⟩ = some (.int .i64 (ra : Int)) ∧ W.cell? ⟨bb, 1, none⟩ = some (.slice ro rn rc) ∧ W.cell? ⟨nb, 0, none⟩ = some (.string k0)) (first | assumption | go_keep) (first | (go_at_call 20; refine (HC.out _ HAD.out).mono ?_; rintro e w' ⟨rfl, rfl⟩) | (go_at_call 28; refine (HE0.out _ HBD.out).mono ?_; rintro e w5 ⟨rfl, hb5⟩; have hS1 : _ ∧ _ ∧ _ ∧ _ := ⟨bel_cell hb5 (Nat.le_refl _) c0, bel_cell hb5 (Nat.le_refl _) d1', bel_cell hb5 (Nat.le_refl _) d2', bel_cell hb5 (Nat.le_refl _) n0⟩))
          have HPL5 : Hid (PL own w0 w w5 g nb R S P u4 ⟨k0, v0, dd0, q0⟩) := HI.out.step ((Only.of_below (own := own) (Below.refl _ wr).drew).trans (Only.of_below (own := own) hb5) (fun _ e => .inl e)) (fun k hk _ => by rw [hb5.block k (by rw [heap_drew]; exact hk), heap_drew])
          clear hb5 HC HAD HE0 HBD f1 HKE c0 d1' d2' n0 hm0 hm1 hdn
          go_wp2_with fail
          go_meet
          case rel => exact ⟨S, P, HPL5.out, .inr (by rw [HRR.out]; exact HK.out)⟩
  case rest =>
    obtain ⟨S, P, HI⟩ := hcut
    have HLS : Hid (S.length + P.length = R.length) := by have := HI.out.1.perm.length_eq; rw [List.length_append] at this; exact this
    have HSK : Hid (∀ r ∈ S, (hE r.l).key ≠ k0) := fun r hr => by
      rcases HI.out.2 with h0 | h0
      · rw [h0] at hr; cases hr
      · obtain ⟨i, hi, hir⟩ := List.getElem_of_mem hr
        have h1 := heap_min cmpR_ord HI.out.1.hs.heap i hi
        have hS0 : S[0]! ∈ R := HI.out.1.perm.mem_iff.1 (List.mem_append_left _ (by rw [getElem!_pos S 0 (by omega)]; exact List.getElem_mem _))
        obtain ⟨j, hj, hjs⟩ := List.getElem_of_mem hS0
        have h2 := heap_min cmpR_ord HH.out.heap j hj
        rw [getElem!_pos R j hj, hjs, HR0.out] at h2
        rw [getElem!_pos S i hi, hir] at h1
        have k1 := cmpP_key h1
        have k2 := cmpP_key h2
        intro he
        have k1' : cmpS (hE S[0]!.l).key (hE r.l).key ≤ 0 := k1
        have k2' : cmpS k0 (hE S[0]!.l).key ≤ 0 := k2
        rw [he] at k1'
        have k3 := canti k0 (hE S[0]!.l).key
        have k4 := canti (hE S[0]!.l).key k0
        exact h0 (cmpS_eq.1 (by omega))
    have HF : Hid (∀ T : List RV, T.Perm (S ++ full (P.map passR)) → (T.map viewR).Perm (stepV k0 (R.map viewR))) := fun T hT => (hT.map viewR).trans (view_step k0 HI.out.1.perm HSK.out HI.out.1.keys)
    have HPR : Hid (∀ i, i < P.length → RIn w0 P[i]! ∧ P[i]!.l ≠ []) := fun i hi => HH.out.rows _ (HI.out.1.perm.mem_iff.1 (List.mem_append_right _ (by rw [getElem!_pos P i hi]; exact List.getElem_mem _)))
    obtain ⟨po, pc, rfl, hpc, hpo⟩ := row_form HI.out.1.row
    have HKL : Hid (KL own own w0 w wc wc g nb S P S 0 (.slice po P.length pc) ⟨k0, v0, dd0, q0⟩) := ⟨HI.out.1.hs, HI.out.1.only, by rw [List.take_zero]; exact List.Perm.of_eq (by simp [full]), fun k hk => ⟨Nat.lt_of_lt_of_le (HLOW.out k hk) HI.out.1.only.size, .inl hk⟩, Nat.le_refl _, HI.out.1.row, HI.out.1.new, HI.out.1.zero, heap_lt HI.out.1.new, HI.out.1.nbl, fun k hk => (HI.out.1.row.lt k hk).2⟩
    have hpb : (P.length : Int) ≤ 1000000 := by have := HLS.out; have := HBR.out; omega
    have HPO : Hid _ := hpo
    clear hpc hpo
    go_wp2_with fail
    go_loopw [40] (fun x wr => ∃ (i : Nat) (T : List RV) (own' : Nat → Prop), x = .int .i64 i ∧ i ≤ P.length ∧ Hid (KL own own' w0 w wc wr g nb S P T i (.slice po P.length pc) ⟨k0, v0, dd0, q0⟩)) (fun x _ => P.length - (intOf x).toNat)
    case atStart => exact ⟨0, S, own, rfl, Nat.zero_le _, HKL.out⟩
    case round =>
      obtain ⟨i, T, own', rfl, hin, HJ⟩ := hrel
      by_cases hlt : i < P.length
      · have hltz : (i : Int) < (P.length : Int) := by omega
        have hib : (i : Int) ≤ 1000000 := by omega
        obtain ⟨pb, hpb2⟩ := HPO.out (by omega)
        subst hpb2
        obtain ⟨r, HRI⟩ : ∃ r, Hid (P[i]! = r) := ⟨_, rfl⟩
        have hr := HPR.out i hlt
        have c0 := fnC_cell HJ.out.row i hlt
        rw [HRI.out] at hr c0
        have HSN : Hid (full ((P.take (i + 1)).map passR) = full ((P.take i).map passR) ++ (if (passR r).l = [] then [] else [passR r])) := by show _ = _; rw [full_map_snoc P i hlt, HRI.out]
        have HPS : Hid (∀ W, Below w0.heap.size w0 W → Calls Try.prog 30 #[.agg #[.int .i64 (r.age : Int), .slice r.ao r.n r.c]] W fun e w' => e = .returned (.agg #[.int .i64 ((passR r).age : Int), .slice (passR r).ao (passR r).n (passR r).c]) ∧ Below W.heap.size W w') := fun W hW => pass_any r W (hr.1.below hW (Nat.le_refl _)) hr.2
        have HPI : Hid (RIn w0 (passR r)) := hr.1.pass hr.2
        obtain ⟨r2, HR2⟩ : ∃ x, Hid (passR r = x) := ⟨_, rfl⟩
        rw [HR2.out] at HSN HPS HPI
        have HTL : Hid (T.length < 1000000) := by
          have h1 := HJ.out.perm.length_eq
          rw [List.length_append] at h1
          have h2 : (full ((P.take i).map passR)).length ≤ ((P.take i).map passR).length := List.length_filter_le _ _
          rw [List.length_map, List.length_take] at h2
          have := HLS.out; have := HBR.out
          show _ < _; omega
        obtain ⟨ra, ro, rn, rc, rl⟩ := r
        obtain ⟨a2, o2, n2, c2, l2⟩ := r2
        simp only [fnP] at c0
        simp only at HPS
        clear hr
        go_wp2_with fail
        refine (HPS.out _ HJ.out.hs.bel).mono ?_
        rintro e w5 ⟨rfl, hb5⟩
        have HH5 : Hid (Hs own' w0 w5 g T) := HJ.out.hs.only (Only.of_below hb5) (HJ.out.hs.at_.grown hb5)
        have HB5 : Hid (Below wr.heap.size wr w5) := hb5
        have HKP : Hid _ := keep_any HH5.out ⟨a2, o2, n2, c2, l2⟩ HPI.out HTL.out
        clear hb5 c0
        go_wp2_with fail
        refine Calls.mono HKP.out ?_
        rintro e w6 ⟨rfl, T2, hp2, hs2, ho2⟩
        have HJ2 : Hid (KL own (here (grow own' w5) w6) w0 w wc w6 g nb S P T2 (i + 1) (.slice (some ⟨pb, 0, none⟩) P.length pc) ⟨k0, v0, dd0, q0⟩) := by
          have hw5 : wr.heap.size ≤ w5.heap.size := HB5.out.size
          have hwx : wc.heap.size ≤ wr.heap.size := HJ.out.size
          have hwm : w.heap.size ≤ wc.heap.size := HI.out.1.only.size
          have hsub : ∀ k, own' k → grow own w k := fun k hk => by
            rcases (HJ.out.lows k hk).2 with h | h
            · exact .inl h
            · exact .inr (by omega)
          have hfar : ∀ k, k < wc.heap.size → ¬ own k → w6.heap[k]? = wr.heap[k]? := fun k hk hn => by
            rw [ho2.block k (by omega) (fun e => ?_), HB5.out.block k (by omega)]
            rcases (HJ.out.lows k e).2 with h | h
            · exact hn h
            · omega
          have hno : ∀ k, w.heap.size ≤ k → ¬ own k := fun k hk e => by have := HLOW.out k e; omega
          refine ⟨hs2.now, (HJ.out.only.trans (Only.of_below (own := own) HB5.out) (fun _ e => .inl e)).trans ho2 hsub, ?_, fun k hk => ⟨hk.2, ?_⟩, Nat.le_trans (Nat.le_trans hwx hw5) ho2.size, row_block HJ.out.row (fun k hk => hfar k (HJ.out.far.2.2 k hk) (hno k (HJ.out.row.lt k hk).1)), ?_, ?_, HJ.out.far⟩
          · rw [HSN.out, ← List.append_assoc]
            exact hp2.trans (List.Perm.append_right _ HJ.out.perm)
          · rcases hk.1 with h | h
            · exact (HJ.out.lows k h).2
            · exact .inr (by omega)
          · rw [hfar nb HJ.out.far.1 (hno nb (Nat.le_of_lt HJ.out.far.2.1))]; exact HJ.out.new
          · rw [hfar _ (Nat.lt_trans HJ.out.far.2.1 HJ.out.far.1) (hno _ (Nat.le_refl _))]; exact HJ.out.zero
        clear hp2 hs2 ho2 HKP
        go_wp2_with fail
        go_roundw
        case rel => exact ⟨i + 1, T2, _, by go_num, by omega, HJ2.out⟩
        case measure => simp [intOf]; omega
      · have hltz : ¬ (i : Int) < (P.length : Int) := by omega
        have HT : Hid (P.take i = P) := by show _ = _; rw [List.take_of_length_le (by omega)]
        rw [show (⟨k0, v0, dd0, q0⟩ : E) = E.mk k0 v0 dd0 q0 from rfl] at HJ
        have n0 : wr.cell? ⟨nb, 0, none⟩ = some (.string k0) := by rw [cell_of_row _ _ _ _ _ _ HJ.out.new]; rfl
        have n1 : wr.cell? ⟨nb, 1, none⟩ = some (.string v0) := by rw [cell_of_row _ _ _ _ _ _ HJ.out.new]; rfl
        have n2 : wr.cell? ⟨nb, 2, none⟩ = some (.bool dd0) := by rw [cell_of_row _ _ _ _ _ _ HJ.out.new]; rfl
        have n3 : wr.cell? ⟨nb, 3, none⟩ = some (.int .i64 q0) := by rw [cell_of_row _ _ _ _ _ _ HJ.out.new]; rfl
        have z0 : wr.cell? ⟨w.heap.size, 0, none⟩ = some (.string ⟨#[]⟩) := by rw [cell_of_row _ _ _ _ _ _ HJ.out.zero]; rfl
        have z1 : wr.cell? ⟨w.heap.size, 1, none⟩ = some (.string ⟨#[]⟩) := by rw [cell_of_row _ _ _ _ _ _ HJ.out.zero]; rfl
        have z2 : wr.cell? ⟨w.heap.size, 2, none⟩ = some (.bool false) := by rw [cell_of_row _ _ _ _ _ _ HJ.out.zero]; rfl
        have z3 : wr.cell? ⟨w.heap.size, 3, none⟩ = some (.int .i64 0) := by rw [cell_of_row _ _ _ _ _ _ HJ.out.zero]; rfl
        have f0 := fz_of HJ.out.zero 0
        have f1 := fz_of HJ.out.zero 1
        have f2 := fz_of HJ.out.zero 2
        have f3 := fz_of HJ.out.zero 3
        have HPT : Hid (T.Perm (S ++ full (P.map passR))) := by have := HJ.out.perm; rw [HT.out] at this; exact this
        go_wp2
        (try simp only [Exit.inBlock, Exit.then])
        have hz4 : (((((wr.setCell ⟨w.heap.size, 0, none⟩ (.string k0)).setCell ⟨w.heap.size, 1, none⟩ (.string v0)).setCell ⟨w.heap.size, 2, none⟩ (.bool dd0)).setCell ⟨w.heap.size, 3, none⟩ (.int .i64 q0)).heap[w.heap.size]?) = some (.cells #[.string k0, .string v0, .bool dd0, .int .i64 q0] 29 (0, 0)) := by
          rw [heap_set (heap_set (heap_set (heap_set HJ.out.zero 0 _) 1 _) 2 _) 3 _]; rfl
        refine bodyPost_ret (results_entry1 rfl _ _ w.heap.size 29 _ _ rfl hz4 (by exact size29)) rfl ?_
        have hsub : ∀ k, own' k → grow own w k := fun k hk => by
          rcases (HJ.out.lows k hk).2 with h | h
          · exact .inl h
          · have h1 := HJ.out.far.1; have h2 := HJ.out.far.2.1
            exact .inr (by omega)
        have hne : ∀ k, own' k → k ≠ w.heap.size := fun k hk => by
          rcases (HJ.out.lows k hk).2 with h | h
          · have := HLOW.out k h; omega
          · have h1 := HJ.out.far.1; have h2 := HJ.out.far.2.1
            omega
        have ho : Only own w ((((wr.setCell ⟨w.heap.size, 0, none⟩ (.string k0)).setCell ⟨w.heap.size, 1, none⟩ (.string v0)).setCell ⟨w.heap.size, 2, none⟩ (.bool dd0)).setCell ⟨w.heap.size, 3, none⟩ (.int .i64 q0)) := (((HJ.out.only.setCell (.inr (Nat.le_refl _)) _).setCell (.inr (Nat.le_refl _)) _).setCell (.inr (Nat.le_refl _)) _).setCell (.inr (Nat.le_refl _)) _
        refine ⟨rfl, T, HF.out T HPT.out, own', ⟨HJ.out.hs.at_.keep (fun k _ hk => ?_), HH.out.bel.trans (ho.below HH.out.new HH.out.bel.size), HJ.out.hs.new, HJ.out.hs.rows, HJ.out.hs.heap⟩, fun k hk => ⟨?_, hsub k hk⟩, ho⟩
        · have := hne k hk
          rw [heap_set_ne _ _ _ this, heap_set_ne _ _ _ this, heap_set_ne _ _ _ this, heap_set_ne _ _ _ this]
        · have := (HJ.out.lows k hk).1
          simpa [World.setCell] using this
end
end Go.Proofs.Yteggjenncmjfmaa

/-
  What table's parts and stored tell: contracts over this translation.
-/
import Derived.Test.YtcgjhopfdpaocaaDoorTbD
namespace Go.Proofs.YtcgjhopfdpaocaaDoor
open Go.RowKit Go.Sort Go.Shelf
set_option linter.unusedSectionVars false
variable [Inhabited E] [DecidableEq E]
attribute [local go_sem] Oper.semAt_some
theorem stored_new (ao : Option Addr) (n c : Nat) (w : World) : Calls Tryd.prog 70 #[.slice ao n c] w fun e w' => e = .returned (.func (.func 84) #[] #[.pointer (some ⟨w.heap.size, 0, none⟩)]) ∧ w' = w.alloc (.cells #[.slice ao n c] 25) := by
  have hmf : ∀ (fn : Fn) (first cap : Array Value) (w : World), (Instr.makeFunc fn first cap).run Tryd.prog w = .ok (.func fn first cap) w := fun _ _ _ _ => rfl
  go_enter Tryd.func70, Tryd.ntmps70
  go_wp2_with fail
  go_ret
  exact ⟨rfl, rfl⟩
/-- A slice that is some bytes, in blocks below n0. -/
def SV.at (x : SV) (n0 : Nat) (W : World) : Prop := Bytes W x.ao x.n x.bs ∧ x.fine ∧ ∀ y, x.ao = some y → 0 < x.n → y.block < n0
theorem SV.at.below {x : SV} {n0 : Nat} {W W' : World} (h : x.at n0 W) (hb : Below n0 W W') : x.at n0 W' := by
  refine ⟨?_, h.2⟩
  by_cases hn : 0 < x.n
  · exact bytes_below h.1 hb (fun y hy => h.2.2 y hy hn)
  · refine ⟨h.1.1, fun i c hi => ?_⟩
    have h1 := (List.getElem?_eq_some_iff.1 hi).1
    have h2 := h.1.1
    omega
theorem SV.at.put {x : SV} {n0 : Nat} {W : World} (h : x.at n0 W) {l : Nat} {o : Obj} (o' : Obj) (hl : W.heap[l]? = some o) (ho : o.isCells = false) : x.at n0 (W.putObj l o') := ⟨bytes_put h.1 o' hl ho, h.2⟩
def nilS : SV := ⟨none, 0, 0, []⟩
theorem nilS_at (n0 : Nat) (W : World) : nilS.at n0 W := ⟨bytes_nil W, ⟨fun _ => rfl, Nat.le_refl _, by show (0 : Nat) ≤ _; omega⟩, fun y hy => by cases hy⟩
def SV.flat (x : SV) : Prop := x.ao = none ∨ ∃ b off, x.ao = some ⟨b, off, none⟩
def lenOf : Value → Nat
  | .slice _ n _ => n
  | _ => 0
/-- x[a:b]. -/
def SV.mid (x : SV) (b off lo hi : Nat) : SV := ⟨some ⟨b, off + lo, none⟩, hi - lo, x.c - lo, (x.bs.take hi).drop lo⟩
theorem SV.at.mid {b off n c n0 lo hi : Nat} {bs : List UInt8} {W : World} (h : SV.at ⟨some ⟨b, off, none⟩, n, c, bs⟩ n0 W) (h1 : lo ≤ hi) (h2 : hi ≤ n) : (SV.mid ⟨some ⟨b, off, none⟩, n, c, bs⟩ b off lo hi).at n0 W := by
  obtain ⟨hb, hf, hl⟩ := h
  refine ⟨bytes_drop (bytes_take hb hi h2) lo, ⟨(fun h => by cases h), ?_, ?_⟩, fun y hy hp => by cases hy; exact hl ⟨b, off, none⟩ rfl (by show 0 < n; have : 0 < hi - lo := hp; omega)⟩
  · have := hf.2.1; show hi - lo ≤ c - lo; simp only at this; omega
  · have := hf.2.2; show c - lo ≤ _; simp only at this; omega
theorem fix_four {bs : List UInt8} (h : 4 ≤ bs.length) : (fixOf (bs.drop (bs.length - 4))).2 = true := by unfold fixOf; rw [if_neg (by rw [List.length_drop]; omega)]
set_option maxRecDepth 100000 in
set_option maxHeartbeats 2000000 in
theorem parts_any (a : SV) (n0 : Nat) (w : World) (ha : a.at n0 w) (hn : a.n ≤ 1000000) :
    Calls Tryd.prog 85 #[.slice a.ao a.n a.c] w fun e w' => ∃ p q : SV, e = .returned (.tuple #[.slice p.ao p.n p.c, .slice q.ao q.n q.c]) ∧ p.at n0 w' ∧ q.at n0 w' ∧ p.bs = bodyR a.bs ∧ q.bs = idxR a.bs ∧ Below w.heap.size w w' ∧ p.flat := by
  obtain ⟨ao, n, c, bs⟩ := a
  simp only at hn ⊢
  have hbl := ha.1.1
  have hfi := ha.2.1
  have hnc : n ≤ c := hfi.2.1
  have hc9 : c ≤ 9223372036854775807 := hfi.2.2
  simp only at hbl
  have HA : Hid (SV.at ⟨ao, n, c, bs⟩ n0 w) := ha
  have HBL : Hid (bs.length = n) := hbl
  have HNO : Hid (¬ okR bs → bodyR bs = [] ∧ idxR bs = []) := fun h => ⟨by unfold bodyR; rw [if_neg h], by unfold idxR; rw [if_neg h]⟩
  clear ha hfi hbl
  by_cases h12 : n < 12
  · have hz : ((n : Int) - 8) < 4 := by omega
    have HN : Hid (bodyR bs = [] ∧ idxR bs = []) := HNO.out (fun h => by have := h.1; rw [HBL.out] at this; omega)
    clear HNO h12
    go_enter Tryd.func85, Tryd.ntmps85
    go_wp2
    go_ret2
    exact ⟨nilS, nilS, rfl, nilS_at _ _, nilS_at _ _, HN.out.1.symm, HN.out.2.symm, Below.refl _ _, .inl rfl⟩
  · obtain ⟨b, off, rfl, -⟩ := bytes_at HA.out.1 (by show 0 < n; omega)
    have hz : ¬ ((n : Int) - 8) < 4 := by omega
    have hne4 : ¬ c = n - 4 := by omega
    obtain ⟨m, hm⟩ : ∃ m, n = m + 8 := ⟨n - 8, by omega⟩
    subst hm
    have e1 : ((m + 8 : Nat) : Int) - 8 = (m : Int) := by omega
    have HB4 : Hid (Bytes w (some ⟨b, off + (m + 4), none⟩) 4 (bs.drop (bs.length - 4))) := by
      have h1 := bytes_drop HA.out.1 (m + 4)
      rw [HBL.out, show m + 8 - 4 = m + 4 from by omega]
      rw [show m + 8 - (m + 4) = 4 from by omega] at h1
      exact h1
    have HCF : Hid _ := fun cp => fixed_any (some ⟨b, off + (m + 4), none⟩) 4 cp (bs.drop (bs.length - 4)) w HB4.out
    obtain ⟨p, HP⟩ : ∃ p, Hid (placeR bs = p) := ⟨_, rfl⟩
    have h4 := fix_four (bs := bs) (by rw [HBL.out]; omega)
    have HCF2 : Hid (∀ cp, Calls Tryd.prog 101 #[.slice (some ⟨b, off + (m + 4), none⟩) 4 cp] w fun e w' => e = .returned (.tuple #[.int .u32 (p : Int), .bool true]) ∧ Below w.heap.size w w') := by
      intro cp
      have := HCF.out cp
      rw [h4] at this
      rw [← HP.out]; exact this
    have hp32 : p < 4294967296 := by rw [← HP.out]; exact fixOf_lt _
    have hpu : IntKind.u64.wrap (p : Int) = (p : Int) := by rw [IntKind.wrap_u64]; omega
    have hmu : IntKind.u64.wrap (m : Int) = (m : Int) := by rw [IntKind.wrap_u64]; omega
    have hmc : ¬ c = m + 4 := by omega
    have hm4 : (m : Int) + 4 ≤ (c : Int) := by omega
    clear h4 HCF hz
    have hz : ¬ (m : Int) < 4 := by omega
    go_enter Tryd.func85, Tryd.ntmps85
    go_wp2_with fail
    refine (HCF2.out _).mono ?_
    rintro e w2 ⟨rfl, hb2⟩
    have HB2 : Hid (Below w.heap.size w w2) := hb2
    clear hb2 HCF2 HB4
    by_cases hp4 : p < 4
    · have hz1 : (p : Int) < 4 := by omega
      have HN : Hid (bodyR bs = [] ∧ idxR bs = []) := HNO.out (fun h => by have := h.2.1; rw [HP.out] at this; omega)
      clear HNO hp4
      go_wp2
      go_ret2
      exact ⟨nilS, nilS, rfl, nilS_at _ _, nilS_at _ _, HN.out.1.symm, HN.out.2.symm, HB2.out, .inl rfl⟩
    · have hz1 : ¬ (p : Int) < 4 := by omega
      by_cases hpm : m < p
      · have hz2 : (m : Int) < (p : Int) := by omega
        have HN : Hid (bodyR bs = [] ∧ idxR bs = []) := HNO.out (fun h => by have := h.2.2; rw [HP.out, HBL.out] at this; omega)
        clear HNO hp4 hpm
        go_wp2
        go_ret2
        exact ⟨nilS, nilS, rfl, nilS_at _ _, nilS_at _ _, HN.out.1.symm, HN.out.2.symm, HB2.out, .inl rfl⟩
      · have hz2 : ¬ (m : Int) < (p : Int) := by omega
        have HOK : Hid (okR bs) := ⟨by rw [HBL.out]; omega, by rw [HP.out]; omega, by rw [HP.out, HBL.out]; omega⟩
        have HBR : Hid (bodyR bs = (bs.take p).drop 4) := by show _ = _; unfold bodyR; rw [if_pos HOK.out, HP.out]
        have HIR : Hid (idxR bs = (bs.take m).drop p) := by show _ = _; unfold idxR; rw [if_pos HOK.out, HP.out, HBL.out, show m + 8 - 8 = m from by omega]
        have HA2 : Hid (SV.at ⟨some ⟨b, off, none⟩, m + 8, c, bs⟩ n0 w2) := ⟨bytes_kept HA.out.1 HB2.out (Nat.le_refl _), HA.out.2⟩
        have q1 : (4 : Int) ≤ (p : Int) := by omega
        have q2 : (p : Int) ≤ (c : Int) := by omega
        have q3 : (p : Int) ≤ (m : Int) := by omega
        have q4 : (m : Int) ≤ (c : Int) := by omega
        have q5 : ¬ c = 4 := by omega
        have q6 : ¬ c = p := by omega
        have HPM : Hid (4 ≤ p ∧ p ≤ m) := ⟨by omega, by omega⟩
        clear HNO HA hp4 hpm
        go_wp2
        go_region
        go_wp2
        go_ret2
        refine ⟨SV.mid ⟨some ⟨b, off, none⟩, m + 8, c, bs⟩ b off 4 p, SV.mid ⟨some ⟨b, off, none⟩, m + 8, c, bs⟩ b off p m, rfl, ?_, ?_, HBR.out.symm, HIR.out.symm, ?_, .inr ⟨_, _, rfl⟩⟩
        · exact (HA2.out.mid HPM.out.1 (by have := HPM.out; omega))
        · exact (HA2.out.mid HPM.out.2 (by omega))
        · exact Below.drew HB2.out
/-- x[k:], as the model lays it. -/
def cutA (b off c k : Nat) : Addr := if c = k then ⟨b, off, none⟩ else ⟨b, off + k, none⟩
theorem SV.at.cut {b off n c n0 k : Nat} {bs : List UInt8} {W : World} (h : SV.at ⟨some ⟨b, off, none⟩, n, c, bs⟩ n0 W) (hk : k ≤ n) : SV.at ⟨some (cutA b off c k), n - k, c - k, bs.drop k⟩ n0 W := by
  obtain ⟨hb, hf, hl⟩ := h
  have h1 : n ≤ c := hf.2.1
  have h2 : c ≤ 9223372036854775807 := hf.2.2
  refine ⟨?_, ⟨(fun h => by cases h), by show n - k ≤ c - k; omega, by show c - k ≤ _; omega⟩, fun y hy hp => ?_⟩
  · unfold cutA
    by_cases e : c = k
    · rw [if_pos e]
      have hbl : bs.length = n := hb.1
      have e1 : bs.drop k = [] := List.drop_eq_nil_of_le (by omega)
      have e0 : n - k = 0 := by omega
      show Bytes W _ (n - k) (bs.drop k)
      rw [e0, e1]
      exact ⟨rfl, fun i c hi => by simp at hi⟩
    · rw [if_neg e]; exact bytes_drop hb k
  · cases hy
    have := hl ⟨b, off, none⟩ rfl (by show 0 < n; have : 0 < n - k := hp; omega)
    unfold cutA; split <;> exact this
def OkS (n0 : Nat) (_pre : List SV) (x : SV) (W : World) : Prop := x.at n0 W ∧ x.n ≤ 1000000
set_option maxRecDepth 100000 in
set_option maxHeartbeats 4000000 in
theorem stored_in (l Bn n0 : Nat) (a : SV) (J Jx : List SV → World → Prop) (hJ : AbNew J)
    (hY : ∀ pre x W1, J pre W1 → OkS n0 pre x W1 → YieldAt Fence.wide 1 Tryd.prog l #[.slice x.ao x.n x.c] W1 fun e W' => Below n0 W1 W' ∧ ((e = .returned (.bool true) ∧ J (pre ++ [x]) W') ∨ (e = .returned (.bool false) ∧ Jx (pre ++ [x]) W')))
    (W : World) (hBn : Boxed W Bn 25 (.slice a.ao a.n a.c)) (ha : a.at n0 W) (hn : a.n ≤ 1000000) (hn0 : n0 ≤ W.heap.size) (h0 : J [] W) :
    CallsIn Fence.wide 2 Tryd.prog 84 #[.func (.yield l) #[] #[], .pointer (some ⟨Bn, 0, none⟩)] W fun e W' => (∃ v, e = .returned v) ∧ ((∃ xs, J xs W' ∧ xs.map SV.bs = storedL a.bs) ∨ ∃ xs, Jx xs W' ∧ xs.map SV.bs <+: storedL a.bs) := by
  refine callsIn_of_wp Tryd.func84 rfl trivial ?_ rfl
  simp only [Tryd.ntmps84, List.size_toArray, List.length_cons, List.length_nil, Nat.reduceAdd, Nat.reduceSub, Array.replicate_succ, Array.replicate_zero, List.push_toArray, List.append_toArray, List.nil_append, List.cons_append]
  have HCP : Hid _ := parts_any a n0 W ha hn
  have HJ : Hid (AbNew J) := hJ
  have HY : Hid _ := hY
  have H0 : Hid (J [] W) := h0
  have HN : Hid (a.n ≤ 1000000) := hn
  have hal : a.bs.length = a.n := ha.1.1
  have HAL : Hid (a.bs.length = a.n) := hal
  obtain ⟨st, HST⟩ : ∃ st, Hid (storedL a.bs = st) := ⟨_, rfl⟩
  rw [HST.out]
  have hc := hBn.cell
  clear hJ hY h0 ha hn hal
  gi_wp2
  refine ⟨trivial, (callsIn_wide.2 HCP.out).mono ?_⟩
  rintro e w1 ⟨⟨po, pn, pc, pb⟩, ⟨qo, qn, qc, qb⟩, rfl, hp, hq, hpb, hqb, hb1, hfl⟩
  simp only at hpb hqb ⊢
  have HS1 : Hid (stoA pb qb = st) := by show _ = _; rw [hpb, hqb]; exact HST.out
  have hle1 : pb.length ≤ 1000000 ∧ qb.length ≤ 1000000 := by
    rw [hpb, hqb]
    have := HN.out
    have := HAL.out
    unfold bodyR idxR
    constructor <;> (split <;> simp only [List.length_drop, List.length_take, List.length_nil] <;> omega)
  have HJ1 : Hid (J [] w1) := HJ.out _ _ _ H0.out hb1
  have HP : Hid (SV.at ⟨po, pn, pc, pb⟩ n0 w1) := hp
  have HFL : Hid (SV.flat ⟨po, pn, pc, pb⟩) := hfl
  have HQ : Hid (SV.at ⟨qo, qn, qc, qb⟩ n0 w1) := hq
  have hz1 : n0 ≤ w1.heap.size := Nat.le_trans hn0 hb1.size
  have hpn := hp.1.1
  have hqn := hq.1.1
  simp only at hpn hqn
  rw [hpn, hqn] at hle1
  have HLE : Hid (pn ≤ 1000000 ∧ qn ≤ 1000000) := hle1
  clear hp hq hpb hqb hb1 hfl HCP HST H0 hc hBn hn0 hpn hqn hle1
  gi_wp2
  gi_loopw [3, 4, 5, 6, 7, 8, 9, 10] (fun s3 s4 _ _ _ _ _ _ wr => ∃ (pre : List SV) (r x : SV), s3 = .slice r.ao r.n r.c ∧ s4 = .slice x.ao x.n x.c ∧ Hid (r.at n0 wr ∧ x.at n0 wr ∧ r.n ≤ 1000000 ∧ x.n ≤ 1000000 ∧ r.flat) ∧ Hid (J pre wr) ∧ Hid (pre.map SV.bs ++ stoA r.bs x.bs = st) ∧ Hid (Below n0 w1 wr))
    (fun s3 s4 _ _ _ _ _ _ wr => lenOf s4)
  case atStart => exact ⟨[], ⟨po, pn, pc, pb⟩, ⟨qo, qn, qc, qb⟩, rfl, rfl, ⟨HP.out, HQ.out, HLE.out.1, HLE.out.2, HFL.out⟩, HJ1.out, HS1.out, Below.refl _ _⟩
  case round =>
    obtain ⟨pre, ⟨ro, rn, rc, rb⟩, ⟨xo, xn, xc, xb⟩, rfl, rfl, HA, HJP, HSP, HBL⟩ := hrel
    simp only
    have hxl : xb.length = xn := HA.out.2.1.1.1
    have hrl : rb.length = rn := HA.out.1.1.1
    have hzr : n0 ≤ wr.heap.size := Nat.le_trans hz1 HBL.out.size
    by_cases hx0 : xn = 0
    · subst hx0
      have HD : Hid (pre.map SV.bs = st) := by show _ = _; rw [← HSP.out, stoA_nil _ _ (by exact hxl), List.append_nil]
      clear hxl hrl
      gi_wp2
      refine bodyPost_end (results_none rfl _ _ _) rfl ?_
      exact ⟨⟨_, rfl⟩, .inl ⟨pre, HJP.out, HD.out⟩⟩
    · have hxz : (0 : Int) < (xn : Int) := by omega
      have hx1 : 0 < xb.length := by omega
      obtain ⟨xa, xf, rfl, -⟩ := bytes_at HA.out.2.1.1 (by show 0 < xn; omega)
      have hxc : xn ≤ xc := HA.out.2.1.2.1.2.1
      have hxc9 : xc ≤ 9223372036854775807 := HA.out.2.1.2.1.2.2
      have CT := text_any (some ⟨xa, xf, none⟩) xn xc xb wr HA.out.2.1.1 hxc hxc9
      obtain ⟨tn, HTN⟩ : ∃ t, Hid ((textOf xb).2.1 = t) := ⟨_, rfl⟩
      obtain ⟨tk, HTK⟩ : ∃ t, Hid ((textOf xb).2.2 = t) := ⟨_, rfl⟩
      obtain ⟨ts, HTS⟩ : ∃ t : ByteArray, Hid ((⟨(textOf xb).1.toArray⟩ : ByteArray) = t) := ⟨_, rfl⟩
      have htn : tn ≤ xn := by
        rw [← HTN.out]
        cases ht : (textOf xb).2.2 with
        | true => have := (textOf_once xb (textOf xb).1 (textOf xb).2.1 (by rw [← ht])).2.1; omega
        | false =>
          have : (textOf xb).2.1 = 0 := by
            unfold textOf at ht ⊢
            split at ht
            · rename_i h; rw [if_pos h]
            · cases ht
          omega
      rw [HTN.out, HTK.out, HTS.out] at CT
      have HCT : Hid _ := CT
      have HG : Hid (SV.at ⟨some (cutA xa xf xc tn), xn - tn, xc - tn, xb.drop tn⟩ n0 wr) := HA.out.2.1.cut htn
      have CG := get_any (some (cutA xa xf xc tn)) (xn - tn) (xc - tn) (xb.drop tn) wr HG.out.1 (by omega)
      have HGT : Hid (gT xb = getB (xb.drop tn)) := by show _ = _; unfold gT; rw [HTN.out]
      obtain ⟨gs, HGS⟩ : ∃ t, Hid ((gT xb).1 = t) := ⟨_, rfl⟩
      obtain ⟨gk, HGK⟩ : ∃ t, Hid ((gT xb).2.1 = t) := ⟨_, rfl⟩
      obtain ⟨go, HGO⟩ : ∃ t, Hid ((gT xb).2.2 = t) := ⟨_, rfl⟩
      rw [← HGT.out, HGS.out, HGK.out, HGO.out] at CG
      have HCG : Hid _ := CG
      obtain ⟨nx, HNX⟩ : ∃ nx, Hid (cutA xa xf xc tn = nx) := ⟨_, rfl⟩
      have hnx : (if xc = tn then some (⟨xa, xf, none⟩ : Addr) else some ⟨xa, xf + tn, none⟩) = some nx := by rw [← HNX.out]; unfold cutA; split <;> rfl
      rw [HNX.out] at HCG
      have htz : (tn : Int) ≤ (xn : Int) := by omega
      clear CT CG
      gi_wp2
      refine ⟨trivial, (callsIn_wide.2 HCT.out).mono ?_⟩
      rintro e w2 ⟨rfl, hw2⟩
      rw [hw2]
      clear hw2
      gi_wp2
      refine ⟨trivial, (callsIn_wide.2 HCG.out).mono ?_⟩
      rintro e w3 ⟨rfl, hw3⟩
      rw [hw3]
      clear hw3 HCT HCG hnx htz
      have hrnu : IntKind.u64.wrap (rn : Int) = (rn : Int) := by rw [IntKind.wrap_u64]; have : rn ≤ 1000000 := HA.out.2.2.1; omega
      have HNOT : Hid (¬ goT rb xb → pre.map SV.bs = st) := fun h => by rw [← HSP.out]; show _ = _ ++ stoA rb xb; rw [stoA_no hx1 h, List.append_nil]
      cases tk with
      | false =>
        have HD : Hid (pre.map SV.bs = st) := HNOT.out (fun h => by have := h.1; rw [HTK.out] at this; cases this)
        clear hxl hrl hx1 hxc hxc9 htn
        gi_wp2
        refine ⟨fun _ h => (by cases h), ?_⟩
        gi_wp2
        refine bodyPost_ret (results_none rfl _ _ _) rfl ?_
        exact ⟨⟨_, rfl⟩, .inl ⟨pre, HJP.out, HD.out⟩⟩
      | true =>
        cases go with
        | false =>
          have HD : Hid (pre.map SV.bs = st) := HNOT.out (fun h => by have := h.2.1; rw [HGO.out] at this; cases this)
          clear hxl hrl hx1 hxc hxc9 htn
          gi_wp2
          refine ⟨fun _ h => (by cases h), ?_⟩
          gi_wp2
          refine bodyPost_ret (results_none rfl _ _ _) rfl ?_
          exact ⟨⟨_, rfl⟩, .inl ⟨pre, HJP.out, HD.out⟩⟩
        | true =>
          by_cases hgr : rn < gs
          · have hgz : (rn : Int) < (gs : Int) := by omega
            have HD : Hid (pre.map SV.bs = st) := HNOT.out (fun h => by have := h.2.2; rw [HGS.out, hrl] at this; omega)
            clear hxl hrl hx1 hxc hxc9 htn hgr
            gi_wp2
            refine ⟨fun _ h => (by cases h), ?_⟩
            gi_wp2
            refine bodyPost_ret (results_none rfl _ _ _) rfl ?_
            exact ⟨⟨_, rfl⟩, .inl ⟨pre, HJP.out, HD.out⟩⟩
          · have hgz : ¬ (rn : Int) < (gs : Int) := by omega
            have HGG : Hid (goT rb xb) := ⟨HTK.out, HGO.out, by rw [HGS.out, hrl]; omega⟩
            have hcut := sto_cut HGG.out
            rw [HTN.out, HGK.out, hxl] at hcut
            have HSTEP : Hid (stoA rb xb = rb.take gs :: stoA (rb.drop gs) (xb.drop (tn + gk))) := by show _ = _; rw [stoA_go hx1 HGG.out, HGS.out, HTN.out, HGK.out]
            have HRT : Hid (SV.at ⟨ro, gs, rc, rb.take gs⟩ n0 wr ∧ gs ≤ 1000000) := by
              obtain ⟨h1, h2, h3⟩ := HA.out.1
              refine ⟨⟨bytes_take h1 gs (show gs ≤ rn by omega), ⟨h2.1, ?_, h2.2.2⟩, fun y hy hp => h3 y hy (by show 0 < rn; have : 0 < gs := hp; omega)⟩, by have : rn ≤ 1000000 := HA.out.2.2.1; omega⟩
              have h4 : rn ≤ rc := h2.2.1; show gs ≤ rc; omega
            have hrc : rn ≤ rc := HA.out.1.2.1.2.1
            have hrc9 : rc ≤ 9223372036854775807 := HA.out.1.2.1.2.2
            have hgz2 : (gs : Int) ≤ (rc : Int) := by omega
            obtain ⟨fn, tmps, assign, body, hy, hR⟩ := HY.out pre ⟨ro, gs, rc, rb.take gs⟩ wr HJP.out ⟨HRT.out.1, HRT.out.2⟩
            dsimp only at hy
            clear HNOT
            gi_wp2
            refine RoundIn.mono hR ?_
            clear hR
            rintro e W3 ⟨hk3, ⟨rfl, hJ3⟩ | ⟨rfl, hJ3⟩⟩
            · have hA3 := HA.out.2.1.below hk3
              have hR3 := HA.out.1.below hk3
              have HX3 : Hid (SV.at ⟨some (cutA xa xf xc (tn + gk)), xn - (tn + gk), xc - (tn + gk), xb.drop (tn + gk)⟩ n0 W3) := hA3.cut (by omega)
              obtain ⟨nz, HNZ⟩ : ∃ nx, Hid (cutA xa xf xc (tn + gk) = nx) := ⟨_, rfl⟩
              have hnz : (if xc = tn + gk then some (⟨xa, xf, none⟩ : Addr) else some ⟨xa, xf + (tn + gk), none⟩) = some nz := by rw [← HNZ.out]; unfold cutA; split <;> rfl
              rw [HNZ.out] at HX3
              have HN3 : Hid (J (pre ++ [⟨ro, gs, rc, rb.take gs⟩]) W3 ∧ (pre ++ [(⟨ro, gs, rc, rb.take gs⟩ : SV)]).map SV.bs ++ stoA (rb.drop gs) (xb.drop (tn + gk)) = st ∧ Below n0 w1 W3) := by
                refine ⟨hJ3, ?_, HBL.out.trans hk3⟩
                rw [← HSP.out, HSTEP.out]; simp
              have htk : (tn : Int) + (gk : Int) ≤ (xn : Int) := by omega
              have HLX : Hid (xn - (tn + gk) < xn ∧ xn ≤ 1000000) := ⟨by omega, HA.out.2.2.2.1⟩
              have HGR : Hid (gs ≤ rn ∧ rn ≤ 1000000) := ⟨by omega, HA.out.2.2.1⟩
              have hgn : (gs : Int) ≤ (rn : Int) := by omega
              have hnt : ((tn : Int) + (gk : Int)).toNat = tn + gk := by omega
              rcases HA.out.2.2.2.2 with hro | ⟨rbk, rof, hro⟩
              · simp only at hro
                subst hro
                have hr0 : rc = 0 := HA.out.1.2.1.1 rfl
                have hrn0 : rn = 0 := by omega
                have hgs0 : gs = 0 := by omega
                subst hr0
                subst hrn0
                subst hgs0
                have HR3 : Hid (SV.at ⟨none, 0, 0, rb.drop 0⟩ n0 W3) := hR3
                clear hk3 hJ3 hA3 hR3 HJP HSP hxl hrl hx1 htn hcut
                gi_wp2
                gi_region
                gi_wp2
                go_roundw
                case rel => exact ⟨_, ⟨none, 0, 0, rb.drop 0⟩, ⟨some nz, xn - (tn + gk), xc - (tn + gk), xb.drop (tn + gk)⟩, rfl, rfl, ⟨HR3.out, HX3.out, by show 0 ≤ _; omega, by have := HLX.out; show xn - (tn + gk) ≤ _; omega, .inl rfl⟩, HJ.out _ _ _ HN3.out.1 (Below.drew (Below.refl _ _)), HN3.out.2.1, Below.drew HN3.out.2.2⟩
                case measure => simp only [lenOf]; exact HLX.out.1
              · simp only at hro
                subst hro
                have HR3 : Hid (SV.at ⟨some (cutA rbk rof rc gs), rn - gs, rc - gs, rb.drop gs⟩ n0 W3) := hR3.cut (by omega)
                obtain ⟨nr, HNR⟩ : ∃ nx, Hid (cutA rbk rof rc gs = nx) := ⟨_, rfl⟩
                have hnr : (if rc = gs then some (⟨rbk, rof, none⟩ : Addr) else some ⟨rbk, rof + gs, none⟩) = some nr := by rw [← HNR.out]; unfold cutA; split <;> rfl
                have HFR : Hid (SV.flat ⟨some nr, rn - gs, rc - gs, rb.drop gs⟩) := by rw [← HNR.out]; unfold cutA SV.flat; right; split <;> exact ⟨_, _, rfl⟩
                rw [HNR.out] at HR3
                clear hk3 hJ3 hA3 hR3 HJP HSP hxl hrl hx1 htn hcut
                gi_wp2
                gi_region
                gi_wp2
                go_roundw
                case rel => exact ⟨_, ⟨some nr, rn - gs, rc - gs, rb.drop gs⟩, ⟨some nz, xn - (tn + gk), xc - (tn + gk), xb.drop (tn + gk)⟩, rfl, rfl, ⟨HR3.out, HX3.out, by have := HGR.out; show rn - gs ≤ _; omega, by have := HLX.out; show xn - (tn + gk) ≤ _; omega, HFR.out⟩, HJ.out _ _ _ HN3.out.1 (Below.drew (Below.refl _ _)), HN3.out.2.1, Below.drew HN3.out.2.2⟩
                case measure => simp only [lenOf]; exact HLX.out.1
            · have HN3 : Hid (Jx (pre ++ [⟨ro, gs, rc, rb.take gs⟩]) W3 ∧ (pre ++ [(⟨ro, gs, rc, rb.take gs⟩ : SV)]).map SV.bs <+: st) := by
                refine ⟨hJ3, ?_⟩
                rw [← HSP.out, HSTEP.out]
                exact ⟨stoA (rb.drop gs) (xb.drop (tn + gk)), by simp⟩
              clear hk3 hJ3 HJP HSP hxl hrl hx1 htn hcut
              gi_wp2
              refine bodyPost_ret (results_none rfl _ _ _) rfl ?_
              exact ⟨⟨_, rfl⟩, .inr ⟨_, HN3.out.1, HN3.out.2⟩⟩

end Go.Proofs.YtcgjhopfdpaocaaDoor

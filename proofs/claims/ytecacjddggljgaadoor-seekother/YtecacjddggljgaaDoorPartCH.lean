/-
  A leaf's path, put in a range's order: plain mathematics. No walk. What clash's leafOf and nodeAbove answer: contracts over this translation. What seek.ends and seek.open answer: contracts over this translation.
-/
import Derived.Test.YtecacjddggljgaaDoorPartCG
import Derived.Test.YtecacjddggljgaaDoorPartBI
namespace Go.Proofs.YtecacjddggljgaaDoor.Sm
open Go.RowKit
/-- Digests from the root down, put from the left to the right. -/
def acrF : Nat → Nat → List (List UInt8) → List (List UInt8)
  | _, _, [] => []
  | n, i, q :: Q => if i < halfN n then acrF (halfN n) i Q ++ [q] else q :: acrF (n - halfN n) (i - halfN n) Q
theorem acrF_len : ∀ (Q : List (List UInt8)) (n i : Nat), (acrF n i Q).length = Q.length
  | [], _, _ => by rw [acrF]
  | q :: Q, n, i => by
    rw [acrF]
    split
    · rw [List.length_append, acrF_len Q]; rfl
    · rw [List.length_cons, acrF_len Q]; rfl
theorem acrF_mem : ∀ (Q : List (List UInt8)) (n i : Nat) (e : List UInt8), e ∈ acrF n i Q → e ∈ Q
  | [], _, _, e => by rw [acrF]; exact id
  | q :: Q, n, i, e => by
    rw [acrF]
    split
    · intro h
      rcases List.mem_append.1 h with h | h
      · exact List.mem_cons_of_mem _ (acrF_mem Q _ _ e h)
      · rw [List.mem_singleton.1 h]; exact List.mem_cons_self
    · intro h
      rcases List.mem_cons.1 h with h | h
      · rw [h]; exact List.mem_cons_self
      · exact List.mem_cons_of_mem _ (acrF_mem Q _ _ e h)
theorem acrF_inj : ∀ (Q Q' : List (List UInt8)) (n i : Nat), Q.length = Q'.length → acrF n i Q = acrF n i Q' → Q = Q'
  | [], [], _, _, _, _ => rfl
  | [], q :: Q, _, _, h, _ => by simp at h
  | q :: Q, [], _, _, h, _ => by simp at h
  | q :: Q, q' :: Q', n, i, h, he => by
    have hl : Q.length = Q'.length := by simpa using h
    rw [acrF, acrF] at he
    split at he
    · obtain ⟨e1, e2⟩ := List.append_inj he (by rw [acrF_len, acrF_len, hl])
      rw [acrF_inj Q Q' _ _ hl e1, (List.cons.inj e2).1]
    · obtain ⟨e1, e2⟩ := List.cons.inj he
      rw [acrF_inj Q Q' _ _ hl e2, e1]
theorem out_dn_len (i a b : Nat) (h1 : a ≤ i) (h2 : i < b) (hb : b ≤ 9223372036854775807) : (outL a b i (i + 1)).length = (dnL a b i).length := by
  have := (out_dn i (b - a) a b (Nat.le_refl _) h1 h2 hb).length_eq
  rw [this]; unfold spanS; rw [List.length_map]
theorem climb_nil (z : Int) (u : List UInt8) (ds : List (List UInt8)) : climbD z u [] ds = u := by unfold climbD; rw [List.zip_nil_left]; rfl
theorem acr_fill (z : Int) (part : List LV) (i : Nat) (hp : part.length = 1) : ∀ (k a b : Nat) (Q rest : List (List UInt8)), b - a ≤ 2 ^ k → a ≤ i → i < b → b ≤ 9223372036854775807 → Q.length = (dnL a b i).length →
    fillF z part i (i + 1) (k + 1) a b (acrF (b - a) (i - a) Q ++ rest) = climbD z (leafD z (bsAt part 0)) (dnL a b i).reverse Q.reverse := by
  have one : ∀ (k a b : Nat) (Q ds : List (List UInt8)), b - a ≤ 1 → a ≤ i → i < b → Q.length = (dnL a b i).length → fillF z part i (i + 1) (k + 1) a b ds = climbD z (leafD z (bsAt part 0)) (dnL a b i).reverse Q.reverse := by
    intro k a b Q ds h1 h2 h3 hQ
    rw [dnL_one i h1] at hQ ⊢
    rw [fillF, if_neg (by omega), if_pos (by omega), rootD_at z part (a - i) (b - i) (by omega) (by omega) (by omega), show a - i = 0 by omega, List.length_eq_zero_iff.1 hQ]
    simp only [List.reverse_nil, climb_nil]
  intro k
  induction k with
  | zero =>
    intro a b Q rest hk ha hb hbb hQ
    exact one 0 a b Q _ (by simpa using hk) ha hb hQ
  | succ k ih =>
    intro a b Q rest hk ha hb hbb hQ
    by_cases h1 : b - a ≤ 1
    · exact one (k + 1) a b Q _ h1 ha hb hQ
    · obtain ⟨s1, s2, -⟩ := halfN_spec (b - a) (by omega) (by omega)
      obtain ⟨l1, l2⟩ := halfN_le (b - a) k (by omega) (by omega) hk
      rw [dnL_two i (by omega) hbb] at hQ ⊢
      rw [fillF, if_neg (by omega), if_neg (by omega)]
      cases Q with
      | nil => split at hQ <;> simp at hQ
      | cons q Q =>
        rw [acrF]
        by_cases h2 : i < a + halfN (b - a)
        · rw [if_pos h2] at hQ ⊢
          have hQ' : Q.length = (dnL a (a + halfN (b - a)) i).length := by simpa using hQ
          have hI := ih a (a + halfN (b - a)) Q ([q] ++ rest) (by omega) ha h2 (by omega) hQ'
          rw [show a + halfN (b - a) - a = halfN (b - a) by omega] at hI
          rw [if_pos (by omega), List.append_assoc, hI, List.drop_left' (by rw [acrF_len, out_dn_len i a (a + halfN (b - a)) ha h2 (by omega)]; exact hQ'), fillF, if_pos (by omega), List.reverse_cons, List.reverse_cons, climb_app _ _ _ _ _ _ (by simp [hQ'])]
          simp [climbD, joinS]
        · rw [if_neg h2] at hQ ⊢
          have hQ' : Q.length = (dnL (a + halfN (b - a)) b i).length := by simpa using hQ
          have hI := ih (a + halfN (b - a)) b Q rest (by omega) (by omega) hb hbb hQ'
          rw [show b - (a + halfN (b - a)) = b - a - halfN (b - a) by omega, show i - (a + halfN (b - a)) = i - a - halfN (b - a) by omega] at hI
          rw [if_neg (by omega), fillF, if_pos (by omega), outL_apart (by omega), List.cons_append, show (q :: (acrF (b - a - halfN (b - a)) (i - a - halfN (b - a)) Q ++ rest)).drop [(a, a + halfN (b - a))].length = acrF (b - a - halfN (b - a)) (i - a - halfN (b - a)) Q ++ rest from rfl, hI, List.reverse_cons, List.reverse_cons, climb_app _ _ _ _ _ _ (by simp [hQ'])]
          simp [climbD, joinS]
theorem acr_beside (z : Int) (real : List LV) (i : Nat) : ∀ (k a b : Nat), b - a ≤ k → a ≤ i → i < b → b ≤ 9223372036854775807 → acrF (b - a) (i - a) (besideD z real (spanS (dnL a b i))) = besideD z real (outL a b i (i + 1)) := by
  intro k
  induction k with
  | zero => intro a b h1 h2 h3; omega
  | succ k ih =>
    intro a b hk ha hb hbb
    by_cases h1 : b - a ≤ 1
    · rw [dnL_one i h1, outL_within (by omega) (by omega)]; rfl
    · obtain ⟨s1, s2, -⟩ := halfN_spec (b - a) (by omega) (by omega)
      rw [dnL_two i (by omega) hbb, outL_both (by omega) hbb (by omega) h1]
      by_cases h2 : i < a + halfN (b - a)
      · have hI := ih a (a + halfN (b - a)) (by omega) ha h2 (by omega)
        rw [show a + halfN (b - a) - a = halfN (b - a) by omega] at hI
        rw [if_pos h2, outL_apart (a := a + halfN (b - a)) (b := b) (by omega)]
        show acrF (b - a) (i - a) (rootD z (bytesL (partL real (a + halfN (b - a)) b)) :: besideD z real (spanS (dnL a (a + halfN (b - a)) i))) = _
        rw [acrF, if_pos (by omega), hI]
        simp [besideD]
      · have hI := ih (a + halfN (b - a)) b (by omega) (by omega) hb hbb
        rw [show b - (a + halfN (b - a)) = b - a - halfN (b - a) by omega, show i - (a + halfN (b - a)) = i - a - halfN (b - a) by omega] at hI
        rw [if_neg h2, outL_apart (a := a) (b := a + halfN (b - a)) (by omega)]
        show acrF (b - a) (i - a) (rootD z (bytesL (partL real a (a + halfN (b - a)))) :: besideD z real (spanS (dnL (a + halfN (b - a)) b i))) = _
        rw [acrF, if_neg (by omega), hI]
        simp [besideD]
/-- The path in a range's order. -/
def acrD (n i : Nat) (ds : List (List UInt8)) : List (List UInt8) := acrF n i ds.reverse
/-- The clash that an opening of a leaf shows. -/
def ofO (z : Int) (real : List LV) (x : Int) (p : LV) (ds : List (List UInt8)) : Option (List UInt8 × List UInt8) :=
  if ckB z (rootD z (bytesL real)) real.length x p.bs ds = true then ofR z real [p] x (acrD real.length x.toNat ds) else none
theorem ck_cr (z : Int) (root : List UInt8) (n : Nat) (hn : n ≤ 9223372036854775807) (x : Int) (p : LV) (ds : List (List UInt8)) (h : ckB z root n x p.bs ds = true) : crB z root n x [p] (acrD n x.toNat ds) = true := by
  unfold ckB at h
  rw [Bool.and_eq_true, decide_eq_true_eq] at h
  obtain ⟨⟨h1, h2, h3⟩, h4⟩ := h
  rw [Int.toNat_natCast] at h3 h4
  obtain ⟨i, rfl⟩ : ∃ m : Nat, x = (m : Int) := ⟨x.toNat, by omega⟩
  rw [Int.toNat_natCast] at h3 h4
  have hi : i < n := by omega
  unfold upL at h3 h4
  rw [List.length_reverse] at h3
  unfold crB acrD
  rw [Int.toNat_natCast, Int.toNat_natCast, show i + [p].length = i + 1 from rfl]
  have hf := acr_fill z [p] i rfl 63 0 n ds.reverse [] (by have := pow63; omega) (Nat.zero_le _) hi hn (by rw [List.length_reverse, h3])
  rw [List.append_nil, Nat.sub_zero, Nat.sub_zero, List.reverse_reverse, bsAt_some (l := [p]) (i := 0) (p := p) rfl] at hf
  rw [hf, h4, Bool.and_true, decide_eq_true_eq]
  refine ⟨by simp, h1, by simp; omega, ?_⟩
  rw [acrF_len, List.length_reverse, h3, out_dn_len i 0 n (Nat.zero_le _) hi hn]
/-- What an opening of some leaves shows. -/
theorem ofR_sound (z : Int) (real part : List LV) (x : Int) (ds : List (List UInt8)) (hr : real.length ≤ 1000) (hds : ∀ e ∈ ds, e.length = 32) (h : crB z (rootD z (bytesL real)) real.length x part ds = true) :
    (∃ i : Nat, x = (i : Int) ∧ 0 < part.length ∧ i + part.length ≤ real.length ∧
      (∀ p q, ofR z real part x ds = some (p, q) → p ≠ q ∧ keptZ z p = keptZ z q) ∧
      (ofR z real part x ds = none → (∀ j, j < part.length → bsAt part j = bsAt real (i + j)) ∧ ds = rangeD z real (i : Int) ((i + part.length : Nat) : Int)) ∧
      ((∀ j, j < part.length → bsAt part j = bsAt real (i + j)) → ds = rangeD z real (i : Int) ((i + part.length : Nat) : Int) → ofR z real part x ds = none)) := by
  have hc := h
  unfold crB at h
  rw [Bool.and_eq_true, decide_eq_true_eq, Int.toNat_natCast] at h
  obtain ⟨⟨h0, h1, h2, h3⟩, h4⟩ := h
  obtain ⟨i, rfl⟩ : ∃ m : Nat, x = (m : Int) := ⟨x.toNat, by omega⟩
  rw [Int.toNat_natCast] at h3 h4
  have hp := pow63
  have e1 := openT_od z real part i (i + part.length) (by omega) (by omega) (by omega) 63 0 real.length ds (by omega) (by omega) (by omega)
  have e2 := openT_rd z real part i (i + part.length) hr 63 0 real.length ds (by omega) (by omega) (Nat.le_refl _)
  rw [partL_all] at e2
  have he : (openT z real part i (i + part.length) (63 + 1) 0 real.length ds).od = (openT z real part i (i + part.length) (63 + 1) 0 real.length ds).rd := by
    rw [e1, e2]; exact eq_of_beq h4
  obtain ⟨s1, s2⟩ := unl_sound z real part i (i + part.length) (by omega) 63 0 real.length ds (by omega) (by omega) (by omega) hds (by omega) he
  have hR : rangeD z real (i : Int) ((i + part.length : Nat) : Int) = besideD z real (outL 0 real.length i (i + part.length)) := by
    unfold rangeD
    rw [if_pos ⟨by omega, by omega, by omega⟩, Int.toNat_natCast, Int.toNat_natCast]
  have hO : ofR z real part (i : Int) ds = unl (openT z real part i (i + part.length) (63 + 1) 0 real.length ds) := by
    unfold ofR
    rw [if_pos hc, Int.toNat_natCast]
  rw [hO]
  refine ⟨i, rfl, h0, by omega, ?_⟩
  rw [hR]
  refine ⟨s1, fun hn => ?_, fun ha hb => ?_⟩
  · obtain ⟨t1, t2⟩ := s2 hn
    refine ⟨fun j hj => ?_, ?_⟩
    · have := t1 (i + j) (Nat.zero_le _) (by omega) (by omega) (by omega)
      rw [show i + j - i = j by omega] at this
      exact this
    · rw [← t2, ← h3, List.take_length]
  · refine (unl_real z real part i (i + part.length) (by omega) hr 63 0 real.length ds (by omega) (by omega) (Nat.le_refl _) (fun j a b c d => ?_) ?_).2
    · have := ha (j - i) (by omega)
      rw [show i + (j - i) = j by omega] at this
      exact this
    · rw [← h3, List.take_length]; exact hb
theorem ofR_no (z : Int) (real part : List LV) (x : Int) (ds : List (List UInt8)) (h : crB z (rootD z (bytesL real)) real.length x part ds = false) : ofR z real part x ds = none := by
  unfold ofR; rw [h]; rfl
theorem ofO_no (z : Int) (real : List LV) (x : Int) (p : LV) (ds : List (List UInt8)) (h : ckB z (rootD z (bytesL real)) real.length x p.bs ds = false) : ofO z real x p ds = none := by
  unfold ofO; rw [h]; rfl
theorem ofO_sound (z : Int) (real : List LV) (x : Int) (p : LV) (ds : List (List UInt8)) (hr : real.length ≤ 1000) (hds : ∀ e ∈ ds, e.length = 32) (h : ckB z (rootD z (bytesL real)) real.length x p.bs ds = true) :
    (∃ i : Nat, x = (i : Int) ∧ i < real.length ∧
      (∀ a b, ofO z real x p ds = some (a, b) → a ≠ b ∧ keptZ z a = keptZ z b) ∧
      (ofO z real x p ds = none ↔ p.bs = bsAt real i ∧ ds = pathD z real (i : Int))) := by
  have hc := ck_cr z _ real.length (by omega) x p ds h
  have hO : ofO z real x p ds = ofR z real [p] x (acrD real.length x.toNat ds) := by unfold ofO; rw [if_pos h]
  obtain ⟨i, rfl, -, hi, s1, s2, s3⟩ := ofR_sound z real [p] x (acrD real.length x.toNat ds) hr (fun e he => hds e (List.mem_reverse.1 (acrF_mem _ _ _ e he))) hc
  have hi : i < real.length := by have : [p].length = 1 := rfl; omega
  rw [hO]
  rw [Int.toNat_natCast] at s1 s2 s3 ⊢
  unfold ckB at h
  rw [Bool.and_eq_true, decide_eq_true_eq, Int.toNat_natCast, Int.toNat_natCast] at h
  have h3 := h.1.2.2
  unfold upL at h3
  rw [List.length_reverse] at h3
  have hP : pathD z real (i : Int) = besideD z real (spanS (upL real.length i)) := by
    unfold pathD; rw [if_pos ⟨by omega, by omega⟩, Int.toNat_natCast]
  have hR : rangeD z real (i : Int) ((i + [p].length : Nat) : Int) = besideD z real (outL 0 real.length i (i + 1)) := by
    unfold rangeD
    rw [if_pos ⟨by omega, by simp; omega, by simp; omega⟩, Int.toNat_natCast, Int.toNat_natCast]; rfl
  have hB := acr_beside z real i real.length 0 real.length (by omega) (Nat.zero_le _) hi (by omega)
  rw [Nat.sub_zero, Nat.sub_zero] at hB
  have hrev : (pathD z real (i : Int)).reverse = besideD z real (spanS (dnL 0 real.length i)) := by
    rw [hP]; unfold upL besideD spanS; rw [← List.map_reverse, ← List.map_reverse, List.reverse_reverse]
  refine ⟨i, rfl, hi, s1, fun hn => ?_, fun hn => ?_⟩
  · obtain ⟨t1, t2⟩ := s2 hn
    refine ⟨?_, ?_⟩
    · have := t1 0 (by simp)
      rw [bsAt_some (l := [p]) (i := 0) (p := p) rfl] at this
      exact this
    · rw [hR, ← hB, ← hrev] at t2
      have hl : ds.reverse.length = (pathD z real (i : Int)).reverse.length := by
        rw [hrev]; simp [besideD, spanS, h3]
      have := acrF_inj _ _ _ _ hl t2
      rw [← List.reverse_reverse ds, this, List.reverse_reverse]
  · refine s3 (fun j hj => ?_) ?_
    · have : j = 0 := by simp at hj; exact hj
      subst this
      rw [bsAt_some (l := [p]) (i := 0) (p := p) rfl]
      exact hn.1
    · rw [hR, ← hB, ← hrev, hn.2]; rfl
end Go.Proofs.YtecacjddggljgaaDoor.Sm
namespace Go.Proofs.YtecacjddggljgaaDoor.Sm
open Go.RowKit
/-- The cells of what is known of a leaf or node: its text, and its sum. -/
def kc (ao : Option Addr) (n c : Nat) (d : List UInt8) : Array Value := (Value.slice ao n c :: cellsOf d).toArray
theorem kc_size (ao : Option Addr) (n c : Nat) {d : List UInt8} (h : d.length = 32) : (kc ao n c d).size = 33 := by
  unfold kc; rw [List.size_toArray, List.length_cons, cellsOf_length, h]
theorem kc_all (ao : Option Addr) (n c : Nat) (d : List UInt8) : (kc ao n c d).all (·.oneCell') = true := by
  unfold kc
  refine all_oneCell_toArray ?_
  intro v hv
  rcases List.mem_cons.1 hv with rfl | h
  · rfl
  · exact cellsOf_one _ v h
theorem size134 : (Tryd.prog.info? 155).map (·.size) = some 33 := by kernel_rfl
theorem built134v (ao : Option Addr) (n c : Nat) (x0 x1 x2 x3 x4 x5 x6 x7 x8 x9 x10 x11 x12 x13 x14 x15 x16 x17 x18 x19 x20 x21 x22 x23 x24 x25 x26 x27 x28 x29 x30 x31 : UInt8) : Tryd.prog.built 155 [(0, .slice ao n c), (1, .agg (cellsOf [x0, x1, x2, x3, x4, x5, x6, x7, x8, x9, x10, x11, x12, x13, x14, x15, x16, x17, x18, x19, x20, x21, x22, x23, x24, x25, x26, x27, x28, x29, x30, x31]).toArray)] = some (kc ao n c [x0, x1, x2, x3, x4, x5, x6, x7, x8, x9, x10, x11, x12, x13, x14, x15, x16, x17, x18, x19, x20, x21, x22, x23, x24, x25, x26, x27, x28, x29, x30, x31]) := by kernel_rfl
theorem built134sv (x0 x1 x2 x3 x4 x5 x6 x7 x8 x9 x10 x11 x12 x13 x14 x15 x16 x17 x18 x19 x20 x21 x22 x23 x24 x25 x26 x27 x28 x29 x30 x31 : UInt8) : Tryd.prog.built 155 [(1, .agg (cellsOf [x0, x1, x2, x3, x4, x5, x6, x7, x8, x9, x10, x11, x12, x13, x14, x15, x16, x17, x18, x19, x20, x21, x22, x23, x24, x25, x26, x27, x28, x29, x30, x31]).toArray)] = some (kc none 0 0 [x0, x1, x2, x3, x4, x5, x6, x7, x8, x9, x10, x11, x12, x13, x14, x15, x16, x17, x18, x19, x20, x21, x22, x23, x24, x25, x26, x27, x28, x29, x30, x31]) := by kernel_rfl
theorem built134 (ao : Option Addr) (n c : Nat) : (d : List UInt8) → d.length = 32 → Tryd.prog.built 155 [(0, .slice ao n c), (1, .agg (cellsOf d).toArray)] = some (kc ao n c d)
  | [x0, x1, x2, x3, x4, x5, x6, x7, x8, x9, x10, x11, x12, x13, x14, x15, x16, x17, x18, x19, x20, x21, x22, x23, x24, x25, x26, x27, x28, x29, x30, x31], _ => built134v ao n c x0 x1 x2 x3 x4 x5 x6 x7 x8 x9 x10 x11 x12 x13 x14 x15 x16 x17 x18 x19 x20 x21 x22 x23 x24 x25 x26 x27 x28 x29 x30 x31
theorem built134s : (d : List UInt8) → d.length = 32 → Tryd.prog.built 155 [(1, .agg (cellsOf d).toArray)] = some (kc none 0 0 d)
  | [x0, x1, x2, x3, x4, x5, x6, x7, x8, x9, x10, x11, x12, x13, x14, x15, x16, x17, x18, x19, x20, x21, x22, x23, x24, x25, x26, x27, x28, x29, x30, x31], _ => built134sv x0 x1 x2 x3 x4 x5 x6 x7 x8 x9 x10 x11 x12 x13 x14 x15 x16 x17 x18 x19 x20 x21 x22 x23 x24 x25 x26 x27 x28 x29 x30 x31
theorem run134 (ao : Option Addr) (n c : Nat) (d : List UInt8) (h : d.length = 32) (w : World) : (Instr.build 155 #[(0, .slice ao n c), (1, .agg (cellsOf d).toArray)]).run Tryd.prog w = .ok (.agg (kc ao n c d)) w := run_build w 155 _ _ (built134 ao n c d h)
theorem run134s (d : List UInt8) (h : d.length = 32) (w : World) : (Instr.build 155 #[(1, .agg (cellsOf d).toArray)]).run Tryd.prog w = .ok (.agg (kc none 0 0 d)) w := run_build w 155 _ _ (built134s d h)
/-- A text that is there. -/
def TxV (w : World) (ao : Option Addr) (n c : Nat) (bs : List UInt8) : Prop := Bytes w ao n bs ∧ (ao = none → c = 0) ∧ n ≤ c ∧ c ≤ 9223372036854775807 ∧ n ≤ 140737488355328
def TxB (base : Nat) (ao : Option Addr) : Prop := ∀ x, ao = some x → base ≤ x.block
theorem TxB.mono {a b : Nat} {ao : Option Addr} (h : TxB b ao) (hab : a ≤ b) : TxB a ao := fun x hx => Nat.le_trans hab (h x hx)
theorem TxV.below {w w' : World} {B n c : Nat} {ao : Option Addr} {bs : List UInt8} (h : TxV w ao n c bs) (hb : Below B w w') (hB : w.heap.size ≤ B) : TxV w' ao n c bs := ⟨bytes_kept h.1 hb hB, h.2⟩
theorem TxV.far {w : World} {g n c : Nat} {ao : Option Addr} {bs : List UInt8} {cs : Array Value} (h : TxV w ao n c bs) (hg : ∀ x, ao = some x → x.block ≠ g) : TxV (w.setRow g cs) ao n c bs :=
  ⟨⟨h.1.1, fun i u hu => by
    obtain ⟨x, hx, hc⟩ := h.1.2 i u hu
    exact ⟨x, hx, cell_row_far hc (by unfold Addr.add; split <;> exact hg x hx)⟩⟩, h.2⟩
theorem txv_nil (w : World) : TxV w none 0 0 [] := ⟨⟨rfl, fun i c h => by simp at h⟩, fun _ => rfl, Nat.le_refl _, by omega, by omega⟩
theorem yieldsIf_build {ops : Array Oper} {S : World → Prop} {op : Oper} {a : Act} (hw : Region.wanted op (yielded ops a.tmps) = true) (t : TypeId) (parts : Array (Nat × Operand)) (ho : op.op = .build t parts) (cells : Array Value) (vs : List (Nat × Value)) (hb : Tryd.prog.built t vs = some cells) (hv : (parts.toList.map fun (y : Nat × Operand) => (y.1, a.eval y.2)) = vs) : YieldsIf Tryd.prog ops S op (.agg cells) a :=
  .inl ⟨hw, fun w _ => by
    subst hv
    rw [← Array.toList_map] at hb
    unfold execOp
    simp only [ho, Sem.run_bind, run_build w t _ cells hb, Result.andThen_ok, Sem.run_pure]⟩
set_option maxRecDepth 100000 in
set_option maxHeartbeats 2000000 in
theorem leafOf_any (z : Int) (ao : Option Addr) (n c : Nat) (bs : List UInt8) (w : World) (hb : Bytes w ao n bs) (h0 : ao = none → c = 0) (hn : n ≤ 140737488355000) (hK : WW w 1 ks) (hz0 : 1 < w.heap.size) (hz : -9223372036854775808 ≤ z ∧ z ≤ 9223372036854775807) :
    Calls Tryd.prog 99 #[.agg #[.int .i64 z], .slice ao n c] w fun e w' => ∃ xo tn tc, e = .returned (.agg (kc xo tn tc (leafD z bs))) ∧ TxV w' xo tn tc (0 :: bs) ∧ TxB w.heap.size xo ∧ Below w.heap.size w w' := by
  have HB : Hid (Bytes w ao n bs) := hb
  have HN : Hid (n ≤ 140737488355000) := hn
  have H0 : Hid (ao = none → c = 0) := h0
  have HLF : Hid (∀ W, Below w.heap.size w W → Calls Tryd.prog 85 #[.agg #[.int .i64 z], .slice ao n c] W fun e w' => e = .returned (dv (leafD z bs)) ∧ Below W.heap.size W w') := fun W hW => leaf_any z ao n c bs W (bytes_kept hb hW (Nat.le_refl _)) h0 hn (hK.below hW hz0) (Nat.lt_of_lt_of_le hz0 hW.size) hz
  obtain ⟨d, HD⟩ : ∃ d, Hid (leafD z bs = d) := ⟨_, rfl⟩
  have HDL : Hid (d.length = 32) := by show _ = _; rw [← HD.out]; exact leafD_length z bs
  rw [HD.out] at HLF ⊢
  clear hb hK h0 hz hn HD
  go_enter Tryd.func99, Tryd.ntmps99
  go_wp2_with fail
  obtain ⟨W0, HW0⟩ : ∃ W, Hid ((w.alloc (Obj.cells #[Value.int IntKind.i64 z] 26)).alloc (Obj.cells #[Value.slice none 0 0, Value.int IntKind.u8 0, Value.int IntKind.u8 0, Value.int IntKind.u8 0, Value.int IntKind.u8 0, Value.int IntKind.u8 0, Value.int IntKind.u8 0, Value.int IntKind.u8 0, Value.int IntKind.u8 0, Value.int IntKind.u8 0, Value.int IntKind.u8 0, Value.int IntKind.u8 0, Value.int IntKind.u8 0, Value.int IntKind.u8 0, Value.int IntKind.u8 0, Value.int IntKind.u8 0, Value.int IntKind.u8 0, Value.int IntKind.u8 0, Value.int IntKind.u8 0, Value.int IntKind.u8 0, Value.int IntKind.u8 0, Value.int IntKind.u8 0, Value.int IntKind.u8 0, Value.int IntKind.u8 0, Value.int IntKind.u8 0, Value.int IntKind.u8 0, Value.int IntKind.u8 0, Value.int IntKind.u8 0, Value.int IntKind.u8 0, Value.int IntKind.u8 0, Value.int IntKind.u8 0, Value.int IntKind.u8 0, Value.int IntKind.u8 0] 155) = W) := ⟨_, rfl⟩
  have HF := frame2 w (Obj.cells #[Value.int IntKind.i64 z] 26) #[Value.slice none 0 0, Value.int IntKind.u8 0, Value.int IntKind.u8 0, Value.int IntKind.u8 0, Value.int IntKind.u8 0, Value.int IntKind.u8 0, Value.int IntKind.u8 0, Value.int IntKind.u8 0, Value.int IntKind.u8 0, Value.int IntKind.u8 0, Value.int IntKind.u8 0, Value.int IntKind.u8 0, Value.int IntKind.u8 0, Value.int IntKind.u8 0, Value.int IntKind.u8 0, Value.int IntKind.u8 0, Value.int IntKind.u8 0, Value.int IntKind.u8 0, Value.int IntKind.u8 0, Value.int IntKind.u8 0, Value.int IntKind.u8 0, Value.int IntKind.u8 0, Value.int IntKind.u8 0, Value.int IntKind.u8 0, Value.int IntKind.u8 0, Value.int IntKind.u8 0, Value.int IntKind.u8 0, Value.int IntKind.u8 0, Value.int IntKind.u8 0, Value.int IntKind.u8 0, Value.int IntKind.u8 0, Value.int IntKind.u8 0, Value.int IntKind.u8 0] 155
  rw [HW0.out] at HF ⊢
  have HS0 : Hid (∀ W, Below W0.heap.size W0 W → W.cell? ⟨w.heap.size, 0, none⟩ = some (.int .i64 z)) := fun W hW => bel_cell2 hW (Nat.le_refl _) (by rw [cell_of_row W0 _ 0 _ _ _ HF.1]; rfl)
  have HFH : Hid _ := HF
  clear HF HW0
  refine wp_region_held_drew (S := fun w' => w'.cell? ⟨w.heap.size, 0, none⟩ = some (.int .i64 z)) (by kernel_rfl) (HS0.out _ (Below.drew (Below.refl _ _))) (fun hS => ?_)
  refine wpAnyH_take (i := 1) (v := ?_) rfl (by kernel_rfl) (by kernel_rfl) (by kernel_rfl) (fun _ _ _ h => h) (Or.inl ⟨by rfl, ?_⟩) (by assumption) ?_
  rotate_left
  · (intro w hSw; (try dsimp only at hSw); go_simp; try with_reducible rfl)
  simp only [Act.put, List.getElem_toArray, List.getElem_cons_zero, List.getElem_cons_succ, List.setIfInBounds_toArray, List.set_cons_zero, List.set_cons_succ]
  refine wpAnyH_take (i := 3) (v := ?_) rfl (by kernel_rfl) (by kernel_rfl) (by kernel_rfl) (fun _ _ _ h => h) (Or.inl ⟨by rfl, ?_⟩) (by assumption) ?_
  rotate_left
  · (intro w hSw; (try dsimp only at hSw); go_simp; try with_reducible rfl)
  simp only [Act.put, List.getElem_toArray, List.getElem_cons_zero, List.getElem_cons_succ, List.setIfInBounds_toArray, List.set_cons_zero, List.set_cons_succ]
  refine wpAnyH_take (i := 4) (v := ?_) rfl (by kernel_rfl) (by kernel_rfl) (by kernel_rfl) (fun _ _ _ h => h) (Or.inl ⟨by rfl, ?_⟩) (by assumption) ?_
  rotate_left
  · (intro w hSw; (try dsimp only at hSw); go_simp; try with_reducible rfl)
  simp only [Act.put, List.getElem_toArray, List.getElem_cons_zero, List.getElem_cons_succ, List.setIfInBounds_toArray, List.set_cons_zero, List.set_cons_succ]
  refine wpAnyH_ready (rs := [0]) (by kernel_rfl) (by simp) ?_
  refine AllReadyH.cons rfl (fun K hK => ?_) AllReadyH.nil
  go_simp
  refine hK.out _ _ (HS0.out _ ((Below.drew (Below.refl _ _)).alloc (Nat.le_refl _) _)) (fun hHeld2 => ?_)
  clear hK K
  refine wpAnyH_ready (rs := [2]) (by kernel_rfl) (by simp) ?_
  refine AllReadyH.cons rfl (fun K hK => ?_) AllReadyH.nil
  refine step_append_bytes _ rfl (.tmp 5) (.tmp 6) rfl W0.heap.size _ 1 [0] rfl (own_one W0.drew 0) (by simp) ao n c bs rfl (bytes_kept HB.out (HFH.out.2.2.1.trans ((Below.drew (Below.refl _ _)).alloc (by simp [HFH.out.2.2.2]) _)) (Nat.le_refl _)) H0.out (by have := HN.out; omega) ?_
  intro v2 w2 hown2 hb2
  have HB2 : Hid (Below W0.heap.size W0 w2) := ((Below.drew (Below.refl _ _)).alloc (Nat.le_refl _) _).trans hb2
  obtain ⟨xo, tc, rfl, q1, q2, q3, q4, q5, q6⟩ := own_bytes hown2
  have hlen : ([0] ++ bs).length = n + 1 := by have := HB.out.1; simp; omega
  rw [hlen] at q1 q3 ⊢
  have HTX : Hid (TxV w2 xo (n + 1) tc (0 :: bs)) := ⟨q1, q2, q3, by unfold maxLen at q4; omega, by have := HN.out; omega⟩
  have HFR : Hid (∀ x, xo = some x → W0.heap.size ≤ x.block) := fun x hx => (q6 x hx).1
  obtain ⟨kk, HKK⟩ : ∃ k, Hid (kc xo (n + 1) tc d = k) := ⟨_, rfl⟩
  have HBD := built134 xo (n + 1) tc d HDL.out
  rw [HKK.out] at HBD
  have HBD : Hid _ := HBD
  refine hK.out _ _ (HS0.out _ HB2.out) (fun hHeld2 => ?_)
  clear hK K hown2 hb2 q1 q2 q3 q4 q5 q6 hlen
  simp only [Act.put, List.getElem_toArray, List.getElem_cons_zero, List.getElem_cons_succ, List.setIfInBounds_toArray, List.set_cons_zero, List.set_cons_succ]
  refine wpAnyH_ready (rs := [5]) (by kernel_rfl) (by simp) ?_
  refine AllReadyH.cons rfl (fun K hK => ?_) AllReadyH.nil
  go_simp
  refine (HLF.out _ (HFH.out.2.2.1.trans (HB2.out.mono (by rw [HFH.out.2.2.2]; omega)))).mono ?_
  rintro e w3 ⟨rfl, hb3⟩
  have HB3 : Hid (Below W0.heap.size W0 w3) := HB2.out.trans (hb3.mono HB2.out.size)
  have HTX3 : Hid (TxV w3 xo (n + 1) tc (0 :: bs)) := HTX.out.below hb3 (Nat.le_refl _)
  have HRES : Hid (w3.heap[w.heap.size + 1]? = some (.cells #[Value.slice none 0 0, Value.int IntKind.u8 0, Value.int IntKind.u8 0, Value.int IntKind.u8 0, Value.int IntKind.u8 0, Value.int IntKind.u8 0, Value.int IntKind.u8 0, Value.int IntKind.u8 0, Value.int IntKind.u8 0, Value.int IntKind.u8 0, Value.int IntKind.u8 0, Value.int IntKind.u8 0, Value.int IntKind.u8 0, Value.int IntKind.u8 0, Value.int IntKind.u8 0, Value.int IntKind.u8 0, Value.int IntKind.u8 0, Value.int IntKind.u8 0, Value.int IntKind.u8 0, Value.int IntKind.u8 0, Value.int IntKind.u8 0, Value.int IntKind.u8 0, Value.int IntKind.u8 0, Value.int IntKind.u8 0, Value.int IntKind.u8 0, Value.int IntKind.u8 0, Value.int IntKind.u8 0, Value.int IntKind.u8 0, Value.int IntKind.u8 0, Value.int IntKind.u8 0, Value.int IntKind.u8 0, Value.int IntKind.u8 0, Value.int IntKind.u8 0] 155 (0, 0))) := (HB3.out.block _ (by rw [HFH.out.2.2.2]; omega)).trans HFH.out.2.1
  unfold dv
  go_wp2_with fail
  refine hK.out _ _ (HS0.out _ HB3.out) (fun hHeld2 => ?_)
  clear hK K hb3 HTX
  refine wpAnyH_take (i := 6) (v := .agg kk) rfl (by kernel_rfl) (by kernel_rfl) (by kernel_rfl) (fun _ _ _ h => h) (yieldsIf_build (by rfl) 155 #[(0, .tmp 7), (1, .tmp 10)] rfl kk _ HBD.out rfl) (by assumption) ?_
  simp only [Act.put, List.getElem_toArray, List.getElem_cons_zero, List.getElem_cons_succ, List.setIfInBounds_toArray, List.set_cons_zero, List.set_cons_succ]
  have HKS : Hid (kk.size = 33) := by show _ = _; rw [← HKK.out]; exact kc_size _ _ _ HDL.out
  have HKA : Hid (kk.all (·.oneCell') = true) := by show _ = _; rw [← HKK.out]; exact kc_all _ _ _ _
  refine wpAnyH_ready (rs := [7]) (by kernel_rfl) (by simp) ?_
  refine AllReadyH.cons rfl (fun K hK => ?_) AllReadyH.nil
  rw [if_pos (by rfl)]
  refine wp_store_row 155 (.tmp 4) (.tmp 11) rfl (w.heap.size + 1) kk rfl rfl 155 _ HRES.out (by rw [size134, HKS.out]) (by rw [HKS.out]; rfl) HKA.out ?_
  refine hK.out _ _ (cell_row_far (HS0.out _ HB3.out) (show w.heap.size ≠ w.heap.size + 1 by omega)) (fun hHeld2 => ?_)
  clear hK K
  refine wpAnyH_done (by kernel_rfl) ?_ _
  clear hS hHeld2
  go_wp2_with fail
  refine bodyPost_ret (results_cell_row rfl _ _ (w.heap.size + 1) 155 kk (0, 0) _ rfl (setRow_heap _ _ _ _ _ _ HRES.out) Tryd.underlying155 rfl (by rw [size134, HKS.out])) rfl ?_
  refine ⟨xo, n + 1, tc, by rw [HKK.out], ?_, fun x hx => by have := HFR.out x hx; have := HFH.out.2.2.2; omega, below_row (HFH.out.2.2.1.trans (HB3.out.mono (by rw [HFH.out.2.2.2]; omega))) (by omega) _⟩
  exact HTX3.out.far (fun x hx => by have := HFR.out x hx; have := HFH.out.2.2.2; omega)
theorem kc_row {w : World} {g : Nat} {ao : Option Addr} {n c : Nat} {d : List UInt8} {t : TypeId} {fr : Nat × Nat} (h : w.heap[g]? = some (.cells (kc ao n c d) t fr)) : w.cell? ⟨g, 0, none⟩ = some (.slice ao n c) ∧ w.rangeAt g 1 (cellsOf d) := by
  refine ⟨by rw [cell_of_row _ _ 0 _ _ _ h]; rfl, fun j v hv => ?_⟩
  rw [cell_of_row _ _ _ _ _ _ h, kc, Nat.add_comm 1 j, List.getElem?_toArray, List.getElem?_cons_succ]
  exact hv
theorem range_bytes {w : World} {g o : Nat} {d : List UInt8} (h : w.rangeAt g o (cellsOf d)) : Bytes w (some ⟨g, o, none⟩) d.length d := by
  refine ⟨rfl, fun i c hi => ⟨_, rfl, ?_⟩⟩
  rw [Addr.add_lit]
  exact h i _ (by simp [cellsOf, hi])
set_option maxRecDepth 100000 in
set_option maxHeartbeats 2000000 in
theorem nodeAbove_any (z : Int) (lo : Option Addr) (ln lc : Nat) (l : List UInt8) (ro : Option Addr) (rn rc : Nat) (r : List UInt8) (w : World) (hl : l.length = 32) (hr : r.length = 32) (hK : WW w 1 ks) (hz0 : 1 < w.heap.size) (hz : -9223372036854775808 ≤ z ∧ z ≤ 9223372036854775807) :
    Calls Tryd.prog 100 #[.agg #[.int .i64 z], .agg (kc lo ln lc l), .agg (kc ro rn rc r)] w fun e w' => ∃ xo tn tc, e = .returned (.agg (kc xo tn tc (nodeD z l r))) ∧ TxV w' xo tn tc (1 :: (l ++ r)) ∧ TxB w.heap.size xo ∧ Below w.heap.size w w' := by
  have HND : Hid (∀ W, Below w.heap.size w W → Calls Tryd.prog 87 #[.agg #[.int .i64 z], dv l, dv r] W fun e w' => e = .returned (dv (nodeD z l r)) ∧ Below W.heap.size W w') := fun W hW => node_any z l r W hl hr (hK.below hW hz0) (Nat.lt_of_lt_of_le hz0 hW.size) hz
  obtain ⟨d, HD⟩ : ∃ d, Hid (nodeD z l r = d) := ⟨_, rfl⟩
  have HDL : Hid (d.length = 32) := by show _ = _; rw [← HD.out]; exact nodeD_length z l r
  rw [HD.out] at HND ⊢
  have HL : Hid (l.length = 32) := hl
  have HR : Hid (r.length = 32) := hr
  clear hK hz HD hl hr
  unfold dv at HND
  obtain ⟨cl, HCL⟩ : ∃ c, Hid (kc lo ln lc l = c) := ⟨_, rfl⟩
  obtain ⟨cr, HCR⟩ : ∃ c, Hid (kc ro rn rc r = c) := ⟨_, rfl⟩
  rw [HCL.out, HCR.out]
  go_enter Tryd.func100, Tryd.ntmps100
  go_upto_region 1 with fail
  obtain ⟨W0, HW0⟩ : ∃ W, Hid (W = (((w.alloc (Obj.cells #[Value.int IntKind.i64 z] 26)).alloc (Obj.cells cl 155)).alloc (Obj.cells cr 155)).alloc (Obj.cells #[Value.slice none 0 0, Value.int IntKind.u8 0, Value.int IntKind.u8 0, Value.int IntKind.u8 0, Value.int IntKind.u8 0, Value.int IntKind.u8 0, Value.int IntKind.u8 0, Value.int IntKind.u8 0, Value.int IntKind.u8 0, Value.int IntKind.u8 0, Value.int IntKind.u8 0, Value.int IntKind.u8 0, Value.int IntKind.u8 0, Value.int IntKind.u8 0, Value.int IntKind.u8 0, Value.int IntKind.u8 0, Value.int IntKind.u8 0, Value.int IntKind.u8 0, Value.int IntKind.u8 0, Value.int IntKind.u8 0, Value.int IntKind.u8 0, Value.int IntKind.u8 0, Value.int IntKind.u8 0, Value.int IntKind.u8 0, Value.int IntKind.u8 0, Value.int IntKind.u8 0, Value.int IntKind.u8 0, Value.int IntKind.u8 0, Value.int IntKind.u8 0, Value.int IntKind.u8 0, Value.int IntKind.u8 0, Value.int IntKind.u8 0, Value.int IntKind.u8 0] 155)) := ⟨_, rfl⟩
  have HF := frame4 w (Obj.cells #[Value.int IntKind.i64 z] 26) (Obj.cells cl 155) (Obj.cells cr 155) #[Value.slice none 0 0, Value.int IntKind.u8 0, Value.int IntKind.u8 0, Value.int IntKind.u8 0, Value.int IntKind.u8 0, Value.int IntKind.u8 0, Value.int IntKind.u8 0, Value.int IntKind.u8 0, Value.int IntKind.u8 0, Value.int IntKind.u8 0, Value.int IntKind.u8 0, Value.int IntKind.u8 0, Value.int IntKind.u8 0, Value.int IntKind.u8 0, Value.int IntKind.u8 0, Value.int IntKind.u8 0, Value.int IntKind.u8 0, Value.int IntKind.u8 0, Value.int IntKind.u8 0, Value.int IntKind.u8 0, Value.int IntKind.u8 0, Value.int IntKind.u8 0, Value.int IntKind.u8 0, Value.int IntKind.u8 0, Value.int IntKind.u8 0, Value.int IntKind.u8 0, Value.int IntKind.u8 0, Value.int IntKind.u8 0, Value.int IntKind.u8 0, Value.int IntKind.u8 0, Value.int IntKind.u8 0, Value.int IntKind.u8 0, Value.int IntKind.u8 0] 155 W0 HW0.out
  rw [← HW0.out]
  have HFH : Hid _ := HF
  clear HF HW0
  have HRL : Hid (W0.rangeAt (w.heap.size + 1) 1 (cellsOf l)) := (kc_row (by rw [HCL.out]; exact HFH.out.2.1)).2
  have HRR : Hid (W0.rangeAt (w.heap.size + 1 + 1) 1 (cellsOf r)) := (kc_row (by rw [HCR.out]; exact HFH.out.2.2.1)).2
  have HBl : Hid (Bytes W0 (some ⟨w.heap.size + 1, 1, none⟩) 32 l) := by have := range_bytes HRL.out; rw [HL.out] at this; exact this
  have HBr : Hid (Bytes W0 (some ⟨w.heap.size + 1 + 1, 1, none⟩) 32 r) := by have := range_bytes HRR.out; rw [HR.out] at this; exact this
  have HO1 : Hid ((W0.alloc (.cells #[.int .u8 ((1 : UInt8).toNat : Int)] 5)).ownsRow W0.heap.size 5 1 (.slice (some ⟨W0.heap.size, 0, none⟩) 1 1) 1 (cellsOf [1])) := own_one W0 1
  have HIL : Hid ((Tryd.prog.info? 46).map (·.size) = some (cellsOf l).length) := by show _ = _; rw [size24, cellsOf_length, HL.out]
  have HIR : Hid ((Tryd.prog.info? 46).map (·.size) = some (cellsOf r).length) := by show _ = _; rw [size24, cellsOf_length, HR.out]
  go_wp2_with (at_builtin; refine wpList_append_bytes _ rfl (.tmp 8) (.tmp 10) rfl W0.heap.size _ 1 [1] rfl HO1.out (by simp) (some ⟨w.heap.size + 1, 1, none⟩) 32 32 l rfl (bytes_kept HBl.out (bel_alloc W0 _) (Nat.le_refl _)) (fun h => by cases h) (by omega) ?_)
  intro v1 w1 hown1 hb1
  have HB1 : Hid (Below W0.heap.size W0 w1) := (bel_alloc W0 _).trans hb1
  have hl1 : l.length + 1 = 33 := by have := HL.out; omega
  rw [hl1] at hown1
  have HOW : Hid _ := hown1
  have HS0 : Hid (∀ W, Below W0.heap.size W0 W → W.cell? ⟨w.heap.size, 0, none⟩ = some (.int .i64 z) ∧ W.rangeAt (w.heap.size + 1) 1 (cellsOf l) ∧ W.rangeAt (w.heap.size + 1 + 1) 1 (cellsOf r)) := fun W hW => ⟨bel_cell2 hW (Nat.le_refl _) (by rw [cell_of_row W0 _ 0 _ _ _ HFH.out.1]; rfl), range_bel HRL.out hW (Nat.le_refl _), range_bel HRR.out hW (Nat.le_refl _)⟩
  clear hown1 hb1 HO1 hl1
  go_wp2_with fail
  refine wp_region_held_drew (S := fun W => W.cell? ⟨w.heap.size, 0, none⟩ = some (.int .i64 z) ∧ W.rangeAt (w.heap.size + 1) 1 (cellsOf l) ∧ W.rangeAt (w.heap.size + 1 + 1) 1 (cellsOf r)) (by kernel_rfl) (HS0.out _ (Below.drew HB1.out)) (fun hS => ?_)
  refine wpAnyH_take (i := 0) (v := ?_) rfl (by kernel_rfl) (by kernel_rfl) (by kernel_rfl) (fun _ _ _ h => h) (Or.inl ⟨by rfl, ?_⟩) (by assumption) ?_
  rotate_left
  · (intro w hSw; (try dsimp only at hSw); go_simp; try with_reducible rfl)
  simp only [Act.put, List.getElem_toArray, List.getElem_cons_zero, List.setIfInBounds_toArray, List.set_cons_zero, List.set_cons_succ]
  refine wpAnyH_take (i := 1) (v := ?_) rfl (by kernel_rfl) (by kernel_rfl) (by kernel_rfl) (fun _ _ _ h => h) (Or.inl ⟨by rfl, ?_⟩) (by assumption) ?_
  rotate_left
  · (intro w hSw; (try dsimp only at hSw); go_simp; try with_reducible rfl)
  simp only [Act.put, List.getElem_toArray, List.getElem_cons_zero, List.getElem_cons_succ, List.setIfInBounds_toArray, List.set_cons_zero, List.set_cons_succ]
  refine wpAnyH_take (i := 2) (v := ?_) rfl (by kernel_rfl) (by kernel_rfl) (by kernel_rfl) (fun _ _ _ h => h) (Or.inl ⟨by rfl, ?_⟩) (by assumption) ?_
  rotate_left
  · (intro w hSw; (try dsimp only at hSw); go_simp; try with_reducible rfl)
  simp only [Act.put, List.getElem_toArray, List.getElem_cons_zero, List.getElem_cons_succ, List.setIfInBounds_toArray, List.set_cons_zero, List.set_cons_succ]
  refine wpAnyH_take (i := 4) (v := ?_) rfl (by kernel_rfl) (by kernel_rfl) (by kernel_rfl) (fun _ _ _ h => h) (Or.inl ⟨by rfl, ?_⟩) (by assumption) ?_
  rotate_left
  · (intro w hSw; (try dsimp only at hSw); go_simp; try with_reducible rfl)
  simp only [Act.put, List.getElem_toArray, List.getElem_cons_zero, List.getElem_cons_succ, List.setIfInBounds_toArray, List.set_cons_zero, List.set_cons_succ]
  refine wpAnyH_take (i := 5) (v := ?_) rfl (by kernel_rfl) (by kernel_rfl) (by kernel_rfl) (fun _ _ _ h => h) (Or.inl ⟨by rfl, ?_⟩) (by assumption) ?_
  rotate_left
  · (intro w hSw; (try dsimp only at hSw); go_simp; try with_reducible rfl)
  simp only [Act.put, List.getElem_toArray, List.getElem_cons_zero, List.getElem_cons_succ, List.setIfInBounds_toArray, List.set_cons_zero, List.set_cons_succ]
  refine wpAnyH_take (i := 6) (v := .agg (cellsOf l).toArray) rfl (by kernel_rfl) (by kernel_rfl) (by kernel_rfl) (fun _ _ _ h => h) (yieldsIf_load_mid (by rfl) 46 (.tmp 17) rfl (w.heap.size + 1) 1 rfl (cellsOf l) _ (fun _ h => h.2.1) Tryd.underlying46 rfl HIL.out) (by assumption) ?_
  simp only [Act.put, List.getElem_toArray, List.getElem_cons_zero, List.getElem_cons_succ, List.setIfInBounds_toArray, List.set_cons_zero, List.set_cons_succ]
  refine wpAnyH_take (i := 7) (v := ?_) rfl (by kernel_rfl) (by kernel_rfl) (by kernel_rfl) (fun _ _ _ h => h) (Or.inl ⟨by rfl, ?_⟩) (by assumption) ?_
  rotate_left
  · (intro w hSw; (try dsimp only at hSw); go_simp; try with_reducible rfl)
  simp only [Act.put, List.getElem_toArray, List.getElem_cons_zero, List.getElem_cons_succ, List.setIfInBounds_toArray, List.set_cons_zero, List.set_cons_succ]
  refine wpAnyH_take (i := 8) (v := .agg (cellsOf r).toArray) rfl (by kernel_rfl) (by kernel_rfl) (by kernel_rfl) (fun _ _ _ h => h) (yieldsIf_load_mid (by rfl) 46 (.tmp 19) rfl (w.heap.size + 1 + 1) 1 rfl (cellsOf r) _ (fun _ h => h.2.2) Tryd.underlying46 rfl HIR.out) (by assumption) ?_
  simp only [Act.put, List.getElem_toArray, List.getElem_cons_zero, List.getElem_cons_succ, List.setIfInBounds_toArray, List.set_cons_zero, List.set_cons_succ]
  refine wpAnyH_ready (rs := [3]) (by kernel_rfl) (by simp) ?_
  refine AllReadyH.cons rfl (fun K hK => ?_) AllReadyH.nil
  refine step_append_bytes _ rfl (.tmp 12) (.tmp 14) rfl W0.heap.size _ 33 (1 :: l) rfl (own_drew HOW.out) HB1.out.size (some ⟨w.heap.size + 1 + 1, 1, none⟩) 32 32 r rfl (bytes_kept HBr.out (Below.drew HB1.out) (Nat.le_refl _)) (fun h => by cases h) (by omega) ?_
  intro v2 w2 hown2 hb2
  have HB2 : Hid (Below W0.heap.size W0 w2) := (Below.drew HB1.out).trans hb2
  obtain ⟨xo, tc, rfl, q1, q2, q3, q4, q5, q6⟩ := own_bytes hown2
  have hlen : ((1 :: l) ++ r).length = 65 := by have := HL.out; have := HR.out; simp; omega
  rw [hlen] at q1 q3 ⊢
  have HTX : Hid (TxV w2 xo 65 tc (1 :: (l ++ r))) := ⟨q1, q2, q3, by unfold maxLen at q4; omega, by omega⟩
  have HFR : Hid (∀ x, xo = some x → W0.heap.size ≤ x.block) := fun x hx => (q6 x hx).1
  obtain ⟨kk, HKK⟩ : ∃ k, Hid (kc xo 65 tc d = k) := ⟨_, rfl⟩
  have HBD := built134 xo 65 tc d HDL.out
  rw [HKK.out] at HBD
  have HBD : Hid _ := HBD
  refine hK.out _ _ (HS0.out _ HB2.out) (fun hHeld2 => ?_)
  clear hK K hown2 hb2 q1 q2 q3 q4 q5 q6 hlen
  simp only [Act.put, List.getElem_toArray, List.getElem_cons_zero, List.getElem_cons_succ, List.setIfInBounds_toArray, List.set_cons_zero, List.set_cons_succ]
  refine wpAnyH_ready (rs := [9]) (by kernel_rfl) (by simp) ?_
  refine AllReadyH.cons rfl (fun K hK => ?_) AllReadyH.nil
  go_simp
  refine (HND.out _ (HFH.out.2.2.2.2.1.trans (HB2.out.mono (by rw [HFH.out.2.2.2.2.2]; omega)))).mono ?_
  rintro e w3 ⟨rfl, hb3⟩
  have HB3 : Hid (Below W0.heap.size W0 w3) := HB2.out.trans (hb3.mono HB2.out.size)
  have HTX3 : Hid (TxV w3 xo 65 tc (1 :: (l ++ r))) := HTX.out.below hb3 (Nat.le_refl _)
  have HRES : Hid (w3.heap[w.heap.size + 1 + 1 + 1]? = some (.cells #[Value.slice none 0 0, Value.int IntKind.u8 0, Value.int IntKind.u8 0, Value.int IntKind.u8 0, Value.int IntKind.u8 0, Value.int IntKind.u8 0, Value.int IntKind.u8 0, Value.int IntKind.u8 0, Value.int IntKind.u8 0, Value.int IntKind.u8 0, Value.int IntKind.u8 0, Value.int IntKind.u8 0, Value.int IntKind.u8 0, Value.int IntKind.u8 0, Value.int IntKind.u8 0, Value.int IntKind.u8 0, Value.int IntKind.u8 0, Value.int IntKind.u8 0, Value.int IntKind.u8 0, Value.int IntKind.u8 0, Value.int IntKind.u8 0, Value.int IntKind.u8 0, Value.int IntKind.u8 0, Value.int IntKind.u8 0, Value.int IntKind.u8 0, Value.int IntKind.u8 0, Value.int IntKind.u8 0, Value.int IntKind.u8 0, Value.int IntKind.u8 0, Value.int IntKind.u8 0, Value.int IntKind.u8 0, Value.int IntKind.u8 0, Value.int IntKind.u8 0] 155 (0, 0))) := (HB3.out.block _ (by rw [HFH.out.2.2.2.2.2]; omega)).trans HFH.out.2.2.2.1
  go_wp2_with fail
  refine hK.out _ _ (HS0.out _ HB3.out) (fun hHeld2 => ?_)
  clear hK K hb3 HTX
  refine wpAnyH_take (i := 10) (v := .agg kk) rfl (by kernel_rfl) (by kernel_rfl) (by kernel_rfl) (fun _ _ _ h => h) (yieldsIf_build (by rfl) 155 #[(0, .tmp 15), (1, .tmp 21)] rfl kk _ HBD.out rfl) (by assumption) ?_
  simp only [Act.put, List.getElem_toArray, List.getElem_cons_zero, List.getElem_cons_succ, List.setIfInBounds_toArray, List.set_cons_zero, List.set_cons_succ]
  have HKS : Hid (kk.size = 33) := by show _ = _; rw [← HKK.out]; exact kc_size _ _ _ HDL.out
  have HKA : Hid (kk.all (·.oneCell') = true) := by show _ = _; rw [← HKK.out]; exact kc_all _ _ _ _
  refine wpAnyH_ready (rs := [11]) (by kernel_rfl) (by simp) ?_
  refine AllReadyH.cons rfl (fun K hK => ?_) AllReadyH.nil
  rw [if_pos (by rfl)]
  refine wp_store_row 155 (.tmp 6) (.tmp 22) rfl (w.heap.size + 1 + 1 + 1) kk rfl rfl 155 _ HRES.out (by rw [size134, HKS.out]) (by rw [HKS.out]; rfl) HKA.out ?_
  refine hK.out _ _ ?_ (fun hHeld2 => ?_)
  · obtain ⟨q0, q1, q2⟩ := HS0.out _ HB3.out
    exact ⟨cell_row_far q0 (show w.heap.size ≠ w.heap.size + 1 + 1 + 1 by omega), range_far q1 (by omega), range_far q2 (by omega)⟩
  clear hK K
  refine wpAnyH_done (by kernel_rfl) ?_ _
  clear hS hHeld2
  go_wp2_with fail
  refine bodyPost_ret (results_cell_row rfl _ _ (w.heap.size + 1 + 1 + 1) 155 kk (0, 0) _ rfl (setRow_heap _ _ _ _ _ _ HRES.out) Tryd.underlying155 rfl (by rw [size134, HKS.out])) rfl ?_
  refine ⟨xo, 65, tc, by rw [HKK.out], ?_, fun x hx => by have := HFR.out x hx; have := HFH.out.2.2.2.2.2; omega, below_row (HFH.out.2.2.2.2.1.trans (HB3.out.mono (by rw [HFH.out.2.2.2.2.2]; omega))) (by omega) _⟩
  exact HTX3.out.far (fun x hx => by have := HFR.out x hx; have := HFH.out.2.2.2.2.2; omega)
end Go.Proofs.YtecacjddggljgaaDoor.Sm
namespace Go.Proofs.YtecacjddggljgaaDoor
open Go.RowKit Go.Sort Go.Shelf
set_option linter.unusedSectionVars false
variable [Inhabited E] [DecidableEq E]
theorem built48 (f t : ByteArray) : Tryd.prog.built 48 [(3, .string f), (4, .string t)] = some (tabC 0 0 (List.replicate 32 0) f t) := by kernel_rfl
theorem zero48 : (Tryd.prog.info? 48).map (fun i => i.zero) = some (some (.agg (tabC 0 0 (List.replicate 32 0) ⟨#[]⟩ ⟨#[]⟩))) := by kernel_rfl
set_option maxRecDepth 100000 in
set_option maxHeartbeats 2000000 in
theorem ends_any (b off n c : Nat) (es : List E) (w : World) (hE : EntsV w (some ⟨b, off, none⟩) n es) (h1 : 1 ≤ n) (hn : n ≤ 1000) :
    Calls Tryd.prog 37 #[.slice (some ⟨b, off, none⟩) n c] w fun e w' => e = .returned (.agg (tabC 0 0 (List.replicate 32 0) es[0]!.key es[es.length - 1]!.key)) ∧ Below w.heap.size w w' := by
  obtain ⟨m, rfl⟩ : ∃ m, n = m + 1 := ⟨n - 1, by omega⟩
  obtain ⟨b', off', h2, hEn⟩ := hE.2 (by omega)
  cases h2
  have hl := hE.1
  obtain ⟨k1, HK1⟩ : ∃ k, Hid (es[0]!.key = k) := ⟨_, rfl⟩
  obtain ⟨k2, HK2⟩ : ∃ k, Hid (es[es.length - 1]!.key = k) := ⟨_, rfl⟩
  have c0 : w.cell? ⟨b, off, none⟩ = some (.string k1) := by
    have h3 := (ents_four hEn 0 (by omega) (k := es[0]!.key) (v := es[0]!.value) (d := es[0]!.del) (q := es[0]!.seq) rfl).1
    rw [HK1.out] at h3
    simpa using h3
  have c1 : w.cell? ⟨b, off + m * 4, none⟩ = some (.string k2) := by
    have h3 := (ents_four hEn m (by omega) (k := es[m]!.key) (v := es[m]!.value) (d := es[m]!.del) (q := es[m]!.seq) rfl).1
    have e : es[m]!.key = k2 := by rw [← HK2.out, hl]; rfl
    rw [e] at h3
    exact h3
  have HC : Hid (∀ W, Below w.heap.size w W → W.cell? ⟨b, off, none⟩ = some (.string k1) ∧ W.cell? ⟨b, off + m * 4, none⟩ = some (.string k2)) := fun W hW =>
    ⟨by rw [← c0]; exact World.cell?_of_block (hW.block _ (World.block_lt_of_cell? w _ c0)), by rw [← c1]; exact World.cell?_of_block (hW.block _ (World.block_lt_of_cell? w _ c1))⟩
  rw [HK1.out, HK2.out]
  have HB0 : Hid _ := built48 k1 k2
  have hm1 : wrap64 ((m : Int) + 1 - 1) = (m : Int) := by unfold wrap64; omega
  have hm2 : IntKind.i64.wrap ((m : Int) + 1 - 1) = (m : Int) := by rw [IntKind.wrap_i64]; omega
  have hm7 : IntKind.i64.wrap (m : Int) = (m : Int) := by rw [IntKind.wrap_i64]; omega
  have hm3 : (m : Int) < (m : Int) + 1 := by omega
  have hm4 : (0 : Int) < (m : Int) + 1 := by omega
  have hm5 : 0 < m + 1 := by omega
  have hm6 : m < m + 1 := by omega
  clear hE hEn hl c0 c1
  go_enter Tryd.func37, Tryd.ntmps37
  go_upto_region 1 with fail
  have HA : Hid (Below w.heap.size w (w.alloc (.cells (tabC 0 0 (List.replicate 32 0) ⟨#[]⟩ ⟨#[]⟩) 48))) := bel_alloc w _
  refine wp_region_held_drew (S := fun W => W.cell? ⟨b, off, none⟩ = some (.string k1) ∧ W.cell? ⟨b, off + m * 4, none⟩ = some (.string k2)) (by kernel_rfl) (HC.out _ HA.out.drew) (fun hS => ?_)
  refine wpAnyH_take (i := 0) (v := ?_) rfl (by kernel_rfl) (by kernel_rfl) (by kernel_rfl) (fun _ _ _ h => h) (Or.inl ⟨by rfl, ?_⟩) (by assumption) ?_
  rotate_left
  · (intro w hSw; (try dsimp only at hSw); go_simp; try with_reducible rfl)
  simp only [Act.put, List.getElem_toArray, List.getElem_cons_zero, List.setIfInBounds_toArray, List.set_cons_zero, List.set_cons_succ]
  refine wpAnyH_take (i := 1) (v := ?_) rfl (by kernel_rfl) (by kernel_rfl) (by kernel_rfl) (fun _ _ _ h => h) (Or.inl ⟨by rfl, ?_⟩) (by assumption) ?_
  rotate_left
  · (intro w hSw; (try dsimp only at hSw); go_simp; try with_reducible rfl)
  simp only [Act.put, List.getElem_toArray, List.getElem_cons_zero, List.getElem_cons_succ, List.setIfInBounds_toArray, List.set_cons_zero, List.set_cons_succ]
  refine wpAnyH_take (i := 2) (v := ?_) rfl (by kernel_rfl) (by kernel_rfl) (by kernel_rfl) (fun _ _ _ h => h) (Or.inl ⟨by rfl, ?_⟩) (by assumption) ?_
  rotate_left
  · (intro w hSw; (try dsimp only at hSw); go_simp; try with_reducible rfl)
  simp only [Act.put, List.getElem_toArray, List.getElem_cons_zero, List.getElem_cons_succ, List.setIfInBounds_toArray, List.set_cons_zero, List.set_cons_succ]
  refine wpAnyH_take (i := 3) (v := ?_) rfl (by kernel_rfl) (by kernel_rfl) (by kernel_rfl) (fun _ _ _ h => h) (Or.inl ⟨by rfl, ?_⟩) (by assumption) ?_
  rotate_left
  · (intro w hSw; (try dsimp only at hSw); go_simp; try with_reducible rfl)
  simp only [Act.put, List.getElem_toArray, List.getElem_cons_zero, List.getElem_cons_succ, List.setIfInBounds_toArray, List.set_cons_zero, List.set_cons_succ]
  refine wpAnyH_take (i := 4) (v := ?_) rfl (by kernel_rfl) (by kernel_rfl) (by kernel_rfl) (fun _ _ _ h => h) (Or.inl ⟨by rfl, ?_⟩) (by assumption) ?_
  rotate_left
  · (intro w hSw; (try dsimp only at hSw); go_simp; try with_reducible rfl)
  simp only [Act.put, List.getElem_toArray, List.getElem_cons_zero, List.getElem_cons_succ, List.setIfInBounds_toArray, List.set_cons_zero, List.set_cons_succ]
  refine wpAnyH_take (i := 5) (v := ?_) rfl (by kernel_rfl) (by kernel_rfl) (by kernel_rfl) (fun _ _ _ h => h) (Or.inl ⟨by rfl, ?_⟩) (by assumption) ?_
  rotate_left
  · (intro w hSw; (try dsimp only at hSw); go_simp; try with_reducible rfl)
  simp only [Act.put, List.getElem_toArray, List.getElem_cons_zero, List.getElem_cons_succ, List.setIfInBounds_toArray, List.set_cons_zero, List.set_cons_succ]
  refine wpAnyH_take (i := 6) (v := ?_) rfl (by kernel_rfl) (by kernel_rfl) (by kernel_rfl) (fun _ _ _ h => h) (Or.inl ⟨by rfl, ?_⟩) (by assumption) ?_
  rotate_left
  · (intro w hSw; (try dsimp only at hSw); go_simp; try with_reducible rfl)
  simp only [Act.put, List.getElem_toArray, List.getElem_cons_zero, List.getElem_cons_succ, List.setIfInBounds_toArray, List.set_cons_zero, List.set_cons_succ]
  refine wpAnyH_take (i := 7) (v := ?_) rfl (by kernel_rfl) (by kernel_rfl) (by kernel_rfl) (fun _ _ _ h => h) (Or.inl ⟨by rfl, ?_⟩) (by assumption) ?_
  rotate_left
  · (intro w hSw; (try dsimp only at hSw); go_simp; try with_reducible rfl)
  simp only [Act.put, List.getElem_toArray, List.getElem_cons_zero, List.getElem_cons_succ, List.setIfInBounds_toArray, List.set_cons_zero, List.set_cons_succ]
  refine wpAnyH_take (i := 8) (v := ?_) rfl (by kernel_rfl) (by kernel_rfl) (by kernel_rfl) (fun _ _ _ h => h) (Or.inl ⟨by rfl, ?_⟩) (by assumption) ?_
  rotate_left
  · (intro w hSw; (try dsimp only at hSw); go_simp; try with_reducible rfl)
  simp only [Act.put, List.getElem_toArray, List.getElem_cons_zero, List.getElem_cons_succ, List.setIfInBounds_toArray, List.set_cons_zero, List.set_cons_succ]
  refine wpAnyH_take (i := 9) (v := ?_) rfl (by kernel_rfl) (by kernel_rfl) (by kernel_rfl) (fun _ _ _ h => h) (Or.inl ⟨by rfl, ?_⟩) (by assumption) ?_
  rotate_left
  · (intro w hSw; (try dsimp only at hSw); go_simp; try with_reducible rfl)
  simp only [Act.put, List.getElem_toArray, List.getElem_cons_zero, List.getElem_cons_succ, List.setIfInBounds_toArray, List.set_cons_zero, List.set_cons_succ]
  refine wpAnyH_take (i := 10) (v := ?_) rfl (by kernel_rfl) (by kernel_rfl) (by kernel_rfl) (fun _ _ _ h => h) (Or.inl ⟨by rfl, ?_⟩) (by assumption) ?_
  rotate_left
  · (intro w hSw; (try dsimp only at hSw); go_simp; try with_reducible rfl)
  simp only [Act.put, List.getElem_toArray, List.getElem_cons_zero, List.getElem_cons_succ, List.setIfInBounds_toArray, List.set_cons_zero, List.set_cons_succ]
  refine wpAnyH_take (i := 11) (v := .agg (tabC 0 0 (List.replicate 32 0) k1 k2)) rfl (by kernel_rfl) (by kernel_rfl) (by kernel_rfl) (fun _ _ _ h => h) (Sm.yieldsIf_build (by rfl) 48 _ rfl (tabC 0 0 (List.replicate 32 0) k1 k2) _ HB0.out (by rfl)) (by assumption) ?_
  simp only [Act.put, List.getElem_toArray, List.getElem_cons_zero, List.getElem_cons_succ, List.setIfInBounds_toArray, List.set_cons_zero, List.set_cons_succ]
  refine wpAnyH_ready (rs := [12]) (by kernel_rfl) (by simp) ?_
  refine AllReadyH.cons rfl (fun K hK => ?_) AllReadyH.nil
  rw [if_pos (by rfl)]
  refine wp_store_row 48 (.tmp 2) (.tmp 14) rfl w.heap.size (tabC 0 0 (List.replicate 32 0) k1 k2) rfl rfl 48 (tabC 0 0 (List.replicate 32 0) ⟨#[]⟩ ⟨#[]⟩) (show (w.alloc (.cells (tabC 0 0 (List.replicate 32 0) ⟨#[]⟩ ⟨#[]⟩) 48)).drew.heap[w.heap.size]? = some (.cells (tabC 0 0 (List.replicate 32 0) ⟨#[]⟩ ⟨#[]⟩) 48 (0, 0)) from heap_alloc_new w _) (by rw [size48, tabC_size _ _ (by simp)]) (by rw [tabC_size _ _ (by simp), tabC_size _ _ (by simp)]) (tabC_all _ _ _ _ _) ?_
  have HX : Hid (((w.alloc (.cells (tabC 0 0 (List.replicate 32 0) ⟨#[]⟩ ⟨#[]⟩) 48)).drew.setRow w.heap.size (tabC 0 0 (List.replicate 32 0) k1 k2)).heap[w.heap.size]? = some (.cells (tabC 0 0 (List.replicate 32 0) k1 k2) 48 (0, 0)) ∧ Below w.heap.size w ((w.alloc (.cells (tabC 0 0 (List.replicate 32 0) ⟨#[]⟩ ⟨#[]⟩) 48)).drew.setRow w.heap.size (tabC 0 0 (List.replicate 32 0) k1 k2))) :=
    ⟨setRow_heap _ _ _ _ _ _ (show (w.alloc (.cells (tabC 0 0 (List.replicate 32 0) ⟨#[]⟩ ⟨#[]⟩) 48)).drew.heap[w.heap.size]? = some (.cells (tabC 0 0 (List.replicate 32 0) ⟨#[]⟩ ⟨#[]⟩) 48 (0, 0)) from heap_alloc_new w _), below_setRow HA.out.drew (Nat.le_refl _) _⟩
  refine hK.out _ _ (HC.out _ HX.out.2) (fun hHeld => ?_)
  clear hK K hHeld hS
  refine wpAnyH_done (by kernel_rfl) ?_ _
  change Exit.then _ _ Exit.normal _ ((w.alloc (.cells (tabC 0 0 (List.replicate 32 0) ⟨#[]⟩ ⟨#[]⟩) 48)).drew.setRow w.heap.size (tabC 0 0 (List.replicate 32 0) k1 k2))
  generalize (w.alloc (.cells (tabC 0 0 (List.replicate 32 0) ⟨#[]⟩ ⟨#[]⟩) 48)).drew.setRow w.heap.size (tabC 0 0 (List.replicate 32 0) k1 k2) = w4 at *
  go_wp2
  refine bodyPost_ret (results_cell_row rfl _ _ w.heap.size 48 (tabC 0 0 (List.replicate 32 0) k1 k2) (0, 0) _ rfl HX.out.1 Tryd.underlying48 rfl (by rw [size48, tabC_size _ _ (by simp)])) rfl ?_
  exact ⟨rfl, HX.out.2⟩
end Go.Proofs.YtecacjddggljgaaDoor

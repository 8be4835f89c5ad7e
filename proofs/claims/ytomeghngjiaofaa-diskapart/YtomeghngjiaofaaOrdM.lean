/-
  What DiskOrder's disk comes to: no walk.
-/
import Derived.Test.YtomeghngjiaofaaRenM
namespace Go.Proofs.Ytomeghngjiaofaa
open Go.RowKit
def nmK : Nat → ByteArray
  | 0 => ⟨#[119]⟩
  | 1 => ⟨#[120]⟩
  | 2 => ⟨#[121]⟩
  | _ => ⟨#[122]⟩
/-- Four files, and their pieces. -/
def oD (l : Nat → List UInt8) (pcs : List (Nat × Nat)) : Dk := ⟨big, [⟨0, nmK 0, l 0⟩, ⟨1, nmK 1, l 1⟩, ⟨2, nmK 2, l 2⟩, ⟨3, nmK 3, l 3⟩], pcs, false, 0, 0, 4⟩
def oN (n : Nat) : Dk := ⟨big, (List.range n).map (fun i => ⟨i, nmK i, []⟩), [], false, 0, 0, n⟩
theorem or1 (n : Nat) (h : n < 4) : (oN n).create (nmK n) = (0, oN (n + 1)) := by
  match n, h with
  | 0, _ => rfl
  | 1, _ => rfl
  | 2, _ => rfl
  | 3, _ => rfl
theorem or2 : oN 4 = oD (fun _ => []) [] := rfl
theorem chkK (k : Nat) (h : k < 4) : chk false [nmK k] = 0 := by
  match k, h with
  | 0, _ => rfl
  | 1, _ => rfl
  | 2, _ => rfl
  | 3, _ => rfl
theorem findK (l : Nat → List UInt8) (pcs : List (Nat × Nat)) (k : Nat) (h : k < 4) : findL (oD l pcs).L (nmK k) = some ⟨k, nmK k, l k⟩ := by
  match k, h with
  | 0, _ => rfl
  | 1, _ => rfl
  | 2, _ => rfl
  | 3, _ => rfl
theorem nmK_size (k : Nat) (h : k < 4) : (nmK k).size ≤ maxLen := by
  match k, h with
  | 0, _ => decide
  | 1, _ => decide
  | 2, _ => decide
  | 3, _ => decide
/-- What was put: the file's number, the bytes. -/
def bodyF (qs : List (Nat × List UInt8)) (k : Nat) : List UInt8 := (qs.filter fun q => decide (q.1 = k)).flatMap fun q => q.2
def pcsF (qs : List (Nat × List UInt8)) : List (Nat × Nat) := (qs.filter fun q => decide (q.2.length ≠ 0)).map fun q => (q.1, q.2.length)
def sumF (qs : List (Nat × List UInt8)) : Nat := (qs.map fun q => q.2.length).sum
def wantF : List (Nat × List UInt8) → Int → Nat → List UInt8
  | [], _, _ => []
  | q :: qs, r, k => (if q.1 = k then q.2.take (keepI r q.2.length) else []) ++ wantF qs (r - (keepI r q.2.length : Int)) k
def roomF : List (Nat × List UInt8) → Int → Int
  | [], r => r
  | q :: qs, r => roomF qs (r - (keepI r q.2.length : Int))
theorem bodyF_cons (q : Nat × List UInt8) (qs : List (Nat × List UInt8)) (k : Nat) : bodyF (q :: qs) k = (if q.1 = k then q.2 else []) ++ bodyF qs k := by
  unfold bodyF
  by_cases h : q.1 = k
  · rw [List.filter_cons_of_pos (by simpa using h), if_pos h]; rfl
  · rw [List.filter_cons_of_neg (by simpa using h), if_neg h]; rfl
theorem bodyF_snoc (qs : List (Nat × List UInt8)) (i : Nat) (b : List UInt8) (k : Nat) : bodyF (qs ++ [(i, b)]) k = bodyF qs k ++ (if i = k then b else []) := by
  unfold bodyF
  rw [List.filter_append, List.flatMap_append]
  congr 1
  by_cases h : i = k
  · rw [if_pos h]; simp [h]
  · rw [if_neg h]; simp [h]
theorem pcsF_snoc (qs : List (Nat × List UInt8)) (i : Nat) (b : List UInt8) : pcsF (qs ++ [(i, b)]) = if b.length = 0 then pcsF qs else pcsF qs ++ [(i, b.length)] := by
  unfold pcsF
  rw [List.filter_append, List.map_append]
  by_cases h : b.length = 0
  · rw [if_pos h, List.length_eq_zero_iff.1 h]; simp
  · rw [if_neg h]
    congr 1
    rw [List.filter_cons_of_pos (by simpa using h)]
    rfl
theorem sumF_snoc (qs : List (Nat × List UInt8)) (i : Nat) (b : List UInt8) : sumF (qs ++ [(i, b)]) = sumF qs + b.length := by simp [sumF]
theorem wantF_snoc : ∀ (qs : List (Nat × List UInt8)) (r : Int) (i : Nat) (b : List UInt8) (k : Nat), wantF (qs ++ [(i, b)]) r k = wantF qs r k ++ (if i = k then b.take (keepI (roomF qs r) b.length) else [])
  | [], r, i, b, k => by simp [wantF, roomF]
  | q :: qs, r, i, b, k => by
    show (if q.1 = k then _ else _) ++ wantF (qs ++ [(i, b)]) _ k = _
    rw [wantF_snoc qs]
    simp only [wantF, roomF, List.append_assoc]
theorem roomF_snoc : ∀ (qs : List (Nat × List UInt8)) (r : Int) (i : Nat) (b : List UInt8), roomF (qs ++ [(i, b)]) r = roomF qs r - (keepI (roomF qs r) b.length : Int)
  | [], r, i, b => rfl
  | q :: qs, r, i, b => by
    show roomF (qs ++ [(i, b)]) _ = _
    rw [roomF_snoc qs]
    rfl
theorem or3 (qs : List (Nat × List UInt8)) (k : Nat) (b : List UInt8) (hk : k < 4) (hs : sumF qs + b.length ≤ 1048576) (hu : usedL (oD (bodyF qs) (pcsF qs)).L = sumF qs) : (oD (bodyF qs) (pcsF qs)).append (nmK k) b = (0, oD (bodyF (qs ++ [(k, b)])) (pcsF (qs ++ [(k, b)]))) := by
  have h1 : (oD (bodyF qs) (pcsF qs)).append (nmK k) b = (oD (bodyF qs) (pcsF qs)).putIn k b := by
    unfold Dk.append
    rw [show (oD (bodyF qs) (pcsF qs)).pre = oD (bodyF qs) (pcsF qs) from rfl, if_neg (by show ¬ chk false [nmK k] ≠ 0; rw [chkK k hk]; simp), findK _ _ k hk]
  rw [h1]
  unfold Dk.putIn
  rw [hu, if_neg (by show ¬ big < _; unfold big; omega)]
  have hbf : ∀ j, bodyF (qs ++ [(k, b)]) j = bodyF qs j ++ (if k = j then b else []) := fun j => bodyF_snoc qs k b j
  by_cases hb : b.length = 0
  · have hb' := List.length_eq_zero_iff.1 hb
    rw [if_pos hb, pcsF_snoc, if_pos hb]
    have : bodyF (qs ++ [(k, b)]) = bodyF qs := by funext j; rw [hbf, hb']; simp
    rw [this]
  · rw [if_neg hb, pcsF_snoc, if_neg hb]
    have : onId (oD (bodyF qs) (pcsF qs)).L k (putF b) = (oD (bodyF (qs ++ [(k, b)])) (pcsF qs ++ [(k, b.length)])).L := by
      match k, hk with
      | 0, _ => simp [oD, onId, putF, hbf]
      | 1, _ => simp [oD, onId, putF, hbf]
      | 2, _ => simp [oD, onId, putF, hbf]
      | 3, _ => simp [oD, onId, putF, hbf]
    rw [this]
    rfl
theorem used4 (l : Nat → List UInt8) (pcs : List (Nat × Nat)) : usedL (oD l pcs).L = (l 0).length + (l 1).length + (l 2).length + (l 3).length := by
  simp [oD, usedL]; omega
theorem or4 : ∀ (qs : List (Nat × List UInt8)), (∀ q ∈ qs, q.1 < 4) → (bodyF qs 0).length + (bodyF qs 1).length + (bodyF qs 2).length + (bodyF qs 3).length = sumF qs
  | [], _ => rfl
  | q :: qs, h => by
    have ih := or4 qs (fun p hp => h p (List.mem_cons_of_mem _ hp))
    have hq := h q List.mem_cons_self
    rw [bodyF_cons, bodyF_cons, bodyF_cons, bodyF_cons, show sumF (q :: qs) = q.2.length + sumF qs by simp [sumF]]
    have h4 : q.1 = 0 ∨ q.1 = 1 ∨ q.1 = 2 ∨ q.1 = 3 := by omega
    rcases h4 with e | e | e | e <;> simp [e] <;> omega
/-- What a crash takes of a file. -/
def lostP : List (Nat × Nat) → Int → Nat → Nat
  | [], _, _ => 0
  | p :: ps, r, i => (if p.1 = i then p.2 - keepI r p.2 else 0) + lostP ps (r - (keepI r p.2 : Int)) i
theorem cut_cut (a b : Nat) (x : Fl) : cutF a (cutF b x) = cutF (b + a) x := by
  simp only [cutF, Fl.mk.injEq, true_and, List.length_take, List.take_take]
  congr 1
  omega
theorem cut_zero (x : Fl) : cutF 0 x = x := by
  cases x
  simp [cutF]
theorem crashL_map : ∀ (ps : List (Nat × Nat)) (L : List Fl) (r : Int), crashL L ps r = L.map fun x => cutF (lostP ps r x.id) x
  | [], L, r => by
    show L = L.map fun x => cutF 0 x
    conv => lhs; rw [← List.map_id L]
    apply List.map_congr_left
    intro x _
    exact (cut_zero x).symm
  | p :: ps, L, r => by
    show crashL (onId L p.1 _) ps _ = _
    rw [crashL_map ps]
    unfold onId
    rw [List.map_map]
    apply List.map_congr_left
    intro x _
    have hid : (if x.id = p.1 then cutF (p.2 - keepI r p.2) x else x).id = x.id := by split <;> rfl
    show cutF (lostP ps (r - (keepI r p.2 : Int)) (if x.id = p.1 then cutF (p.2 - keepI r p.2) x else x).id) (if x.id = p.1 then cutF (p.2 - keepI r p.2) x else x) = cutF ((if p.1 = x.id then p.2 - keepI r p.2 else 0) + lostP ps (r - (keepI r p.2 : Int)) x.id) x
    rw [hid]
    by_cases h : x.id = p.1
    · rw [if_pos h, cut_cut, if_pos h.symm]
    · rw [if_neg h, if_neg (fun e => h e.symm), Nat.zero_add]
theorem keepI_neg {r : Int} (h : r ≤ 0) (c : Nat) : keepI r c = 0 := by unfold keepI; omega
theorem want_neg : ∀ (qs : List (Nat × List UInt8)) (r : Int) (k : Nat), r ≤ 0 → wantF qs r k = [] ∧ lostP (pcsF qs) r k = (bodyF qs k).length
  | [], r, k, _ => ⟨rfl, rfl⟩
  | q :: qs, r, k, h => by
    obtain ⟨a, b⟩ := want_neg qs r k h
    have hr : r - (keepI r q.2.length : Int) = r := by rw [keepI_neg h]; simp
    refine ⟨?_, ?_⟩
    · show (if q.1 = k then _ else _) ++ wantF qs _ k = _
      rw [hr, a, keepI_neg h]
      split <;> simp
    · rw [bodyF_cons, List.length_append]
      by_cases h0 : q.2.length = 0
      · have e : pcsF (q :: qs) = pcsF qs := by unfold pcsF; rw [List.filter_cons_of_neg (by simpa using h0)]
        rw [e, b]
        split <;> simp [h0]
      · have e : pcsF (q :: qs) = (q.1, q.2.length) :: pcsF qs := by unfold pcsF; rw [List.filter_cons_of_pos (by simpa using h0)]; rfl
        rw [e]
        show (if q.1 = k then q.2.length - keepI r q.2.length else 0) + lostP (pcsF qs) (r - (keepI r q.2.length : Int)) k = _
        rw [hr, b, keepI_neg h]
        split <;> simp
theorem want_is : ∀ (qs : List (Nat × List UInt8)) (r : Int) (k : Nat), lostP (pcsF qs) r k ≤ (bodyF qs k).length ∧ wantF qs r k = (bodyF qs k).take ((bodyF qs k).length - lostP (pcsF qs) r k)
  | [], r, k => ⟨Nat.le_refl _, rfl⟩
  | q :: qs, r, k => by
    have hkl := keepI_le r q.2.length
    have hlost : lostP (pcsF (q :: qs)) r k = (if q.1 = k then q.2.length - keepI r q.2.length else 0) + lostP (pcsF qs) (r - (keepI r q.2.length : Int)) k := by
      by_cases h0 : q.2.length = 0
      · have e : pcsF (q :: qs) = pcsF qs := by unfold pcsF; rw [List.filter_cons_of_neg (by simpa using h0)]
        have hk0 : keepI r q.2.length = 0 := by omega
        rw [e, hk0, h0]
        simp
      · have e : pcsF (q :: qs) = (q.1, q.2.length) :: pcsF qs := by unfold pcsF; rw [List.filter_cons_of_pos (by simpa using h0)]; rfl
        rw [e]
        rfl
    have hw : wantF (q :: qs) r k = (if q.1 = k then q.2.take (keepI r q.2.length) else []) ++ wantF qs (r - (keepI r q.2.length : Int)) k := rfl
    rw [hlost, hw, bodyF_cons]
    by_cases hfull : keepI r q.2.length = q.2.length
    · obtain ⟨a, b⟩ := want_is qs (r - (keepI r q.2.length : Int)) k
      rw [hfull] at a b ⊢
      by_cases hk : q.1 = k
      · rw [if_pos hk, if_pos hk, if_pos hk, b, List.length_append]
        refine ⟨by omega, ?_⟩
        rw [List.take_append, List.take_length, List.take_of_length_le (l := q.2) (by omega)]
        congr 2
        omega
      · rw [if_neg hk, if_neg hk, if_neg hk, b]
        simp only [List.nil_append, Nat.zero_add]
        exact ⟨a, trivial⟩
    · have hneg : r - (keepI r q.2.length : Int) ≤ 0 := by
        unfold keepI at hfull ⊢
        omega
      obtain ⟨a, b⟩ := want_neg qs _ k hneg
      rw [a, b]
      by_cases hk : q.1 = k
      · rw [if_pos hk, if_pos hk, if_pos hk, List.length_append, List.append_nil]
        refine ⟨by omega, ?_⟩
        rw [List.take_append]
        rw [show (bodyF qs k).take (q.2.length + (bodyF qs k).length - (q.2.length - keepI r q.2.length + (bodyF qs k).length) - q.2.length) = [] by rw [show q.2.length + (bodyF qs k).length - (q.2.length - keepI r q.2.length + (bodyF qs k).length) - q.2.length = 0 by omega]; rfl, List.append_nil]
        congr 1
        omega
      · rw [if_neg hk, if_neg hk, if_neg hk]
        simp
theorem low_ofO {w : World} {ao : Option Addr} {n : Nat} {bs : List UInt8} (h : Bytes w ao n bs) : 0 < n → ∀ ad, ao = some ad → ad.block < w.heap.size := by
  intro hn ad e
  obtain ⟨y, hy, hcl⟩ := h.2 0 _ (List.getElem?_eq_getElem (by rw [h.1]; exact hn))
  have h5 := World.block_lt_of_cell? w _ hcl
  have hbk : (y.add 0).block = y.block := by unfold Addr.add; split <;> rfl
  rw [hbk] at h5
  rw [hy] at e
  cases e
  exact h5
/-- Behind the crash. -/
theorem or5 (qs : List (Nat × List UInt8)) (r : Int) : ((oD (bodyF qs) (pcsF qs)).crash r).start = oD (wantF qs r) [] := by
  have hb : ∀ k, (bodyF qs k).take ((bodyF qs k).length - lostP (pcsF qs) r k) = wantF qs r k := fun k => ((want_is qs r k).2).symm
  unfold Dk.crash
  rw [if_neg (by show ¬ (false = true); simp)]
  unfold Dk.start
  rw [crashL_map]
  simp only [oD, List.map_cons, List.map_nil, cutF, hb]
theorem or6 (l : Nat → List UInt8) (pcs : List (Nat × Nat)) (k : Nat) (h : k < 4) : (oD l pcs).read (nmK k) = (l k, 0) := by
  unfold Dk.read
  rw [if_neg (by show ¬ chk false [nmK k] ≠ 0; rw [chkK k h]; simp), findK l pcs k h]
end Go.Proofs.Ytomeghngjiaofaa

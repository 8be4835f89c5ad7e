/-
  What three leaves come to. No walk. A row of digests as a path; three leaves that a call lays. No walk.
-/
import Derived.Test.YtaebpnednhkfhaaDoorPartS
import Derived.Test.YtaebpnednhkfhaaDoorNames2
namespace Go.Proofs.YtaebpnednhkfhaaDoor
open Go.RowKit
theorem mask_full (c : UInt8) (l : Nat) (h : 8 ≤ l) : maskB c l = c := by
  unfold maskB
  rw [Nat.min_eq_right h, show UInt8.ofNat (255 - 255 / 2 ^ 8) = -1 from rfl]
  exact UInt8.and_neg_one
theorem keptB_full (d : List UInt8) (L : Nat) : ∀ i, 8 * i ≤ L → keptB d L i = d
  | 0, _ => rfl
  | i + 1, h => by
    rw [keptB, keptB_full d L i (by omega), mask_full _ _ (by omega)]
    apply List.ext_getElem?
    intro j
    rw [List.getElem?_set]
    split
    · rename_i hij
      subst hij
      split
      · rename_i hl
        rw [List.getD_eq_getElem?_getD, List.getElem?_eq_getElem hl]; rfl
      · rename_i hl
        rw [List.getElem?_eq_none (by omega)]
    · rfl
theorem keptZ_all (bs : List UInt8) : keptZ 256 bs = shaB bs := keptB_full _ _ 32 (by decide)
theorem half3 : halfN 3 = 2 := by decide
theorem half2 : halfN 2 = 1 := by decide
theorem rootD_one (z : Int) (a : List UInt8) : rootD z [a] = leafD z a := rfl
theorem root2 (z : Int) (a b : List UInt8) : rootD z [a, b] = nodeD z (leafD z a) (leafD z b) := by
  rw [rootD_two z [a, b] (by simp) (by simp)]
  simp [half2, rootD_one]
theorem root3 (z : Int) (a b c : List UInt8) : rootD z [a, b, c] = nodeD z (nodeD z (leafD z a) (leafD z b)) (leafD z c) := by
  rw [rootD_two z [a, b, c] (by simp) (by simp)]
  simp [half3, root2, rootD_one]
theorem up32 : upL 3 2 = [⟨0, 2, true⟩] := by kernel_rfl
theorem out312 : outL 0 3 1 2 = [(0, 1), (2, 3)] := by decide
theorem path3 (z : Int) (la lb lc : LV) : besideD z [la, lb, lc] (spanS (upL 3 2)) = [nodeD z (leafD z la.bs) (leafD z lb.bs)] := by
  rw [up32]
  show [rootD z [la.bs, lb.bs]] = _
  rw [root2]
theorem range3 (z : Int) (la lb lc : LV) : besideD z [la, lb, lc] (outL 0 3 1 2) = [leafD z la.bs, leafD z lc.bs] := by
  rw [out312]; rfl
theorem climb3 (z : Int) (u d : List UInt8) : climbD z u (upL 3 2) [d] = nodeD z d u := by rw [up32]; simp only [climbD, List.zip_cons_cons, List.zip_nil_left, List.foldl_cons, List.foldl_nil, joinS, if_true]
theorem fill3f (z : Int) (lb : LV) (d1 d2 : List UInt8) (f : Nat) : fillF z [lb] 1 2 (f + 1 + 1 + 1) 0 3 [d1, d2] = nodeD z (nodeD z d1 (leafD z lb.bs)) d2 := by
  have e1 : ∀ g ds, fillF z [lb] 1 2 (g + 1) 0 1 ds = ds.headD [] := fun g ds => by rw [fillF, if_pos (by omega)]
  have e2 : ∀ g ds, fillF z [lb] 1 2 (g + 1) 2 3 ds = ds.headD [] := fun g ds => by rw [fillF, if_pos (by omega)]
  have e3 : ∀ g ds, fillF z [lb] 1 2 (g + 1) 1 2 ds = leafD z lb.bs := fun g ds => by
    rw [fillF, if_neg (by omega), if_pos (by omega)]
    show rootD z [lb.bs] = _
    exact rootD_one z lb.bs
  rw [fillF, if_neg (by omega), if_neg (by omega), show 0 + halfN (3 - 0) = 2 from by decide, show (outL 0 2 1 2).length = 1 from by decide, e2]
  rw [fillF, if_neg (by omega), if_neg (by omega), show 0 + halfN (2 - 0) = 1 from by decide, e1, e3]
  simp only [List.headD_cons, List.drop_succ_cons, List.drop_zero]
theorem fill3 (z : Int) (lb : LV) (d1 d2 : List UInt8) : fillF z [lb] 1 2 64 0 3 [d1, d2] = nodeD z (nodeD z d1 (leafD z lb.bs)) d2 := fill3f z lb d1 d2 61
end Go.Proofs.YtaebpnednhkfhaaDoor
namespace Go.Proofs.YtaebpnednhkfhaaDoor
open Go.RowKit
theorem digC_at : ∀ (ds : List (List UInt8)) (k : Nat) (d : List UInt8) (j : Nat), (∀ e ∈ ds, e.length = 32) → ds[k]? = some d → j < 32 → (digC ds)[k * 32 + j]? = (cellsOf d)[j]?
  | [], k, d, j, _, h, _ => by simp at h
  | x :: xs, 0, d, j, hl, h, hj => by
    simp at h
    subst h
    have hx := hl x (by simp)
    rw [show digC (x :: xs) = cellsOf x ++ digC xs from rfl, List.getElem?_append_left (by rw [cellsOf_length, hx]; omega)]
    simp
  | x :: xs, k + 1, d, j, hl, h, hj => by
    have hx := hl x (by simp)
    rw [show digC (x :: xs) = cellsOf x ++ digC xs from rfl, List.getElem?_append_right (by rw [cellsOf_length, hx]; omega), cellsOf_length, hx, show (k + 1) * 32 + j - 32 = k * 32 + j by omega]
    exact digC_at xs k d j (fun e he => hl e (by simp [he])) (by simpa using h) hj
theorem digC_length : ∀ (ds : List (List UInt8)), (∀ e ∈ ds, e.length = 32) → (digC ds).length = ds.length * 32
  | [], _ => rfl
  | x :: xs, hl => by
    rw [show digC (x :: xs) = cellsOf x ++ digC xs from rfl, List.length_append, cellsOf_length, hl x (by simp), digC_length xs (fun e he => hl e (by simp [he])), List.length_cons]
    omega
theorem DgV.path {w : World} {base : Nat} {v : Value} {ds : List (List UInt8)} (h : DgV w base v ds) :
    ∃ ao c, v = .slice ao ds.length c ∧ ds.length ≤ c ∧ c ≤ 9223372036854775807 ∧ PathV w ao ds ∧ (0 < ds.length → ∃ g, ao = some ⟨g, 0, none⟩ ∧ base ≤ g ∧ ∀ k d, ds[k]? = some d → w.rangeAt g (k * 32) (cellsOf d)) := by
  obtain ⟨⟨hl, ⟨rfl, h0⟩ | ⟨g, cap, cur, rfl, hg, hh, hc, hm, hs, ht⟩⟩, -, hd⟩ := h
  · have : ds = [] := List.length_eq_zero_iff.1 h0
    subst this
    exact ⟨none, 0, rfl, Nat.le_refl _, by omega, ⟨hd, fun h => absurd h (by simp)⟩, fun h => absurd h (by simp)⟩
  · have hr : ∀ k d, ds[k]? = some d → w.rangeAt g (k * 32) (cellsOf d) := fun k d hk j v hv => by
      have hj : j < 32 := by
        have := (List.getElem?_eq_some_iff.1 hv).1
        rw [cellsOf_length, hd d (List.mem_of_getElem? hk)] at this
        exact this
      have hk' := (List.getElem?_eq_some_iff.1 hk).1
      rw [cell_of_row w g _ _ _ _ hh]
      have h1 : cur.toList[k * 32 + j]? = some v := by
        have h2 : (cur.toList.take (ds.length * 32))[k * 32 + j]? = some v := by rw [ht, digC_at ds k d j hd hk hj]; exact hv
        rw [List.getElem?_take] at h2
        split at h2
        · exact h2
        · cases h2
      simpa using h1
    unfold maxLen at hm
    exact ⟨some ⟨g, 0, none⟩, cap, rfl, hc, by omega, ⟨hd, fun _ => ⟨g, 0, rfl, fun k d hk => by rw [Nat.zero_add]; exact hr k d hk⟩⟩, fun _ => ⟨g, rfl, hg, hr⟩⟩
/-- Three leaves of a byte each. -/
def ls3 (s : Nat) (a b c : UInt8) : List LV := [⟨some ⟨s, 0, none⟩, 1, 1, [a]⟩, ⟨some ⟨s + 1, 0, none⟩, 1, 1, [b]⟩, ⟨some ⟨s + 1 + 1, 0, none⟩, 1, 1, [c]⟩]
theorem one_bytes {w : World} {g : Nat} {a : UInt8} {fr : Nat × Nat} (h : w.heap[g]? = some (.cells #[.int .u8 (a.toNat : Int)] 5 fr)) : Bytes w (some ⟨g, 0, none⟩) 1 [a] := block_bytes (bs := [a]) h
theorem leaves3 {W : World} {s : Nat} {a b c : UInt8} {f1 f2 f3 f4 : Nat × Nat} (h1 : W.heap[s]? = some (.cells #[.int .u8 (a.toNat : Int)] 5 f1)) (h2 : W.heap[s + 1]? = some (.cells #[.int .u8 (b.toNat : Int)] 5 f2)) (h3 : W.heap[s + 2]? = some (.cells #[.int .u8 (c.toNat : Int)] 5 f3))
    (h4 : W.heap[s + 3]? = some (.cells #[.slice (some ⟨s, 0, none⟩) 1 1, .slice (some ⟨s + 1, 0, none⟩) 1 1, .slice (some ⟨s + 1 + 1, 0, none⟩) 1 1] 36 f4)) : LeavesV W (some ⟨s + 3, 0, none⟩) 3 3 (ls3 s a b c) := by
  refine ⟨rfl, Nat.le_refl _, by omega, fun _ => ⟨s + 3, 0, rfl, fun i p hp => ?_⟩⟩
  rw [Nat.zero_add, cell_of_row W (s + 3) i _ _ _ h4]
  match i, hp with
  | 0, hp => cases hp; exact ⟨rfl, one_bytes h1, (by omega : 1 ≤ 140737488355000), fun h => by cases h⟩
  | 1, hp => cases hp; exact ⟨rfl, one_bytes h2, (by omega : 1 ≤ 140737488355000), fun h => by cases h⟩
  | 2, hp => cases hp; exact ⟨rfl, one_bytes h3, (by omega : 1 ≤ 140737488355000), fun h => by cases h⟩
  | _ + 3, hp => simp [ls3] at hp
theorem nil_leaves (w : World) : LeavesV w none 0 0 [] := ⟨rfl, Nat.le_refl _, by omega, fun h => absurd h (by omega)⟩
theorem eq_same (x : List UInt8) (hx : x.length = 32) (w : World) : (Op.equalIn 10000 24 (.agg (cellsOf x).toArray) (.agg (cellsOf x).toArray)).run Tryd.prog w = .ok true w := by
  rw [equalIn_dig x x hx hx]; simp
theorem eq_same2 (x : List UInt8) (hx : x.length = 32) (w : World) : (binOp .eql 24 (.agg (cellsOf x).toArray) (.agg (cellsOf x).toArray)).run Tryd.prog w = .ok (.bool true) w := by
  rw [eq_dig x x hx hx]; simp
end Go.Proofs.YtaebpnednhkfhaaDoor

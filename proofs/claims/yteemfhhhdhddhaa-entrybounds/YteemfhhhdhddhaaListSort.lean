/-
  Exchanges in lists, the insertion sort and blocks that are sorted: plain mathematics, no program.
-/
import Derived.Test.YteemfhhhdhddhaaFoldMath
import Derived.Shelf.SlSortCmp.KitK
namespace Go.Proofs.Yteemfhhhdhddhaa
open Go.Sort
set_option linter.unusedSectionVars false
variable [Inhabited E]
set_option linter.unusedSectionVars false
section
variable {α : Type} [Inhabited α] {cf : α → α → Int}
theorem get_mid (A B : List α) (x : α) : (A ++ x :: B).toArray[A.length]! = x := by
  rw [getElem!_pos _ _ (by simp)]; simp
theorem swp_list (A M Z : List α) (x y : α) (i j : Nat) (hi : i = A.length) (hj : j = A.length + 1 + M.length) : swp (A ++ x :: (M ++ y :: Z)).toArray i j = (A ++ y :: (M ++ x :: Z)).toArray := by
  subst hi hj
  have h1 : (A ++ x :: (M ++ y :: Z)).toArray[A.length]! = x := get_mid A _ x
  have h2 : (A ++ x :: (M ++ y :: Z)).toArray[A.length + 1 + M.length]! = y := by
    have := get_mid (A ++ x :: M) Z y
    rw [List.append_assoc, List.cons_append, List.length_append, List.length_cons, ← Nat.add_assoc, Nat.add_right_comm] at this
    exact this
  unfold swp
  rw [h1, h2]
  simp [Nat.add_assoc, Nat.add_comm 1]
theorem swp_list' (A M Z : List α) (x y : α) (i j : Nat) (hi : i = A.length) (hj : j = A.length + 1 + M.length) : swp (A ++ x :: (M ++ y :: Z)).toArray j i = (A ++ y :: (M ++ x :: Z)).toArray := by
  subst hi hj
  have h1 : (A ++ x :: (M ++ y :: Z)).toArray[A.length]! = x := get_mid A _ x
  have h2 : (A ++ x :: (M ++ y :: Z)).toArray[A.length + 1 + M.length]! = y := by
    have := get_mid (A ++ x :: M) Z y
    rw [List.append_assoc, List.cons_append, List.length_append, List.length_cons, ← Nat.add_assoc, Nat.add_right_comm] at this
    exact this
  unfold swp
  rw [h1, h2]
  simp [Nat.add_assoc, Nat.add_comm 1]
/-- The round of an insertion: x goes to its place. -/
theorem insInner_list (h : Ord3 cf) (A : List α) (x : α) : ∀ (S Z : List α), Up cf S → ∃ S1 S2, S = S1 ++ S2 ∧ (∀ s ∈ S2, cf x s < 0) ∧ (∀ s ∈ S1, cf s x ≤ 0) ∧
    insInner (ltOf cf) A.length (A.length + S.length) (A ++ (S ++ x :: Z)).toArray = (A ++ (S1 ++ x :: (S2 ++ Z))).toArray := by
  intro S
  induction S using snoc_rec with
  | h0 =>
    intro Z _
    exact ⟨[], [], rfl, by simp, by simp, by rw [insInner_stop _ _ _ _ (.inl (by simp))]; simp⟩
  | hs S s ih =>
    intro Z hS
    have hS' := List.pairwise_append.1 hS
    by_cases hlt : cf x s < 0
    · obtain ⟨S1, S2, hS12, h2, h1, he⟩ := ih (s :: Z) hS'.1
      refine ⟨S1, S2 ++ [s], by rw [hS12, List.append_assoc], fun t ht => ?_, h1, ?_⟩
      · rcases List.mem_append.1 ht with ht | ht
        · exact h2 t ht
        · simp at ht; subst ht; exact hlt
      · have e1 : (A ++ ((S ++ [s]) ++ x :: Z)).toArray[A.length + (S ++ [s]).length]! = x := by
          have := get_mid (A ++ (S ++ [s])) Z x
          rw [List.append_assoc, List.length_append] at this
          exact this
        have e2 : (A ++ ((S ++ [s]) ++ x :: Z)).toArray[A.length + (S ++ [s]).length - 1]! = s := by
          have := get_mid (A ++ S) (x :: Z) s
          simpa [← Nat.add_assoc] using this
        rw [insInner_go _ _ _ _ (by simp) (by rw [e1, e2]; exact decide_eq_true hlt)]
        have hsw := swp_list' (A ++ S) [] Z s x (A.length + (S ++ [s]).length - 1) (A.length + (S ++ [s]).length) (by simp [← Nat.add_assoc]) (by simp [← Nat.add_assoc])
        simp only [List.nil_append, List.append_assoc] at hsw
        simp only [List.append_assoc, List.cons_append, List.nil_append]
        rw [hsw]
        simp only [List.length_append, List.length_cons, List.length_nil]
        rw [show A.length + (S.length + (0 + 1)) - 1 = A.length + S.length by omega]
        exact he
    · refine ⟨S ++ [s], [], by simp, by simp, fun t ht => ?_, ?_⟩
      · have hsx : cf s x ≤ 0 := by have := h.anti x s; omega
        rcases List.mem_append.1 ht with ht | ht
        · exact h.trans _ _ _ (hS'.2.2 t ht s (by simp)) hsx
        · simp at ht; subst ht; exact hsx
      · have e1 : (A ++ ((S ++ [s]) ++ x :: Z)).toArray[A.length + (S ++ [s]).length]! = x := by
          have := get_mid (A ++ (S ++ [s])) Z x
          rw [List.append_assoc, List.length_append] at this
          exact this
        have e2 : (A ++ ((S ++ [s]) ++ x :: Z)).toArray[A.length + (S ++ [s]).length - 1]! = s := by
          have := get_mid (A ++ S) (x :: Z) s
          simpa [← Nat.add_assoc] using this
        rw [insInner_stop _ _ _ _ (.inr (by rw [e1, e2]; exact decide_eq_false hlt))]
        rfl
theorem stab_ins (h : Ord3 cf) {l S1 S2 : List α} {x : α} (hs : Stab cf l (S1 ++ S2)) (h2 : ∀ s ∈ S2, cf x s < 0) (h1 : ∀ s ∈ S1, cf s x ≤ 0) : Stab cf (l ++ [x]) (S1 ++ x :: S2) := by
  have hp := List.pairwise_append.1 hs.srt
  have hc := stab_cross h (X1 := S1) (X2 := S2) (Y1 := [x]) (Y2 := []) (R1 := S1 ++ [x]) (R2 := S2) hs.srt (by simp [Up]) (by simp) (by simpa using h2) (stab_refl (List.pairwise_append.2 ⟨hp.1, by simp, fun a ha b hb => by simp at hb; subst hb; exact h1 a ha⟩)) (by rw [List.append_nil]; exact stab_refl hp.2.1)
  have := Stab.trans_app hs (stab_refl (by simp [Up] : Up cf [x])) (by simpa using hc)
  simpa using this
theorem insOuter_list (h : Ord3 cf) (A : List α) : ∀ (B l S Z : List α), Stab cf l S → ∃ S', Stab cf (l ++ B) S' ∧
    insOuter (ltOf cf) A.length (A.length + S.length + B.length) (A.length + S.length) (A ++ (S ++ (B ++ Z))).toArray = (A ++ (S' ++ Z)).toArray := by
  intro B
  induction B with
  | nil => intro l S Z hs; exact ⟨S, by simpa using hs, by rw [insOuter_stop _ _ _ _ _ (by simp)]; simp⟩
  | cons x B ih =>
    intro l S Z hs
    obtain ⟨S1, S2, hS12, h2, h1, he⟩ := insInner_list h A x S (B ++ Z) hs.srt
    subst hS12
    obtain ⟨S', hs', he'⟩ := ih (l ++ [x]) (S1 ++ x :: S2) Z (stab_ins h hs h2 h1)
    refine ⟨S', by simpa using hs', ?_⟩
    rw [insOuter_go _ _ _ _ _ (by simp)]
    have e : (A ++ ((S1 ++ S2) ++ (x :: B ++ Z))).toArray = (A ++ ((S1 ++ S2) ++ x :: (B ++ Z))).toArray := by simp
    rw [e, he]
    have e2 : (A ++ (S1 ++ x :: (S2 ++ (B ++ Z)))).toArray = (A ++ ((S1 ++ x :: S2) ++ (B ++ Z))).toArray := by simp
    rw [e2, ← he']
    congr 1 <;> simp <;> omega
/-- The insertion sort sorts stably. -/
theorem insertionSort_list (h : Ord3 cf) (A B Z : List α) (a b : Nat) (ha : a = A.length) (hb : b = A.length + B.length) : ∃ S, Stab cf B S ∧ insertionSort (ltOf cf) (A ++ (B ++ Z)).toArray a b = (A ++ (S ++ Z)).toArray := by
  subst ha hb
  unfold insertionSort
  cases B with
  | nil => exact ⟨[], stab_refl (by simp [Up]), by rw [insOuter_stop _ _ _ _ _ (by simp)]⟩
  | cons x B =>
    obtain ⟨S, hs, he⟩ := insOuter_list h A B [x] [x] Z (stab_refl (by simp [Up]))
    refine ⟨S, by simpa using hs, ?_⟩
    rw [← he]
    have e : A.length + (x :: B).length = A.length + [x].length + B.length := by simp; omega
    rw [e]
    rfl
/-! ### blocks -/
def BlkN (cf : α → α → Int) (n : Nat) : Nat → List α → List α → Prop
  | 0, l, S => l.length ≤ n ∧ Stab cf l S
  | k + 1, l, S => ∃ l1 S1 l2 L2 : List α, l = l1 ++ l2 ∧ S = S1 ++ L2 ∧ l1.length = n ∧ Stab cf l1 S1 ∧ BlkN cf n k l2 L2
def Blk (cf : α → α → Int) (n : Nat) (l S : List α) : Prop := ∃ k, BlkN cf n k l S
theorem Blk.last {n : Nat} {l S : List α} (h : l.length ≤ n) (s : Stab cf l S) : Blk cf n l S := ⟨0, h, s⟩
theorem Blk.more {n : Nat} {l1 S1 l2 L2 : List α} (h : l1.length = n) (s : Stab cf l1 S1) (b : Blk cf n l2 L2) : Blk cf n (l1 ++ l2) (S1 ++ L2) := by
  obtain ⟨k, b⟩ := b
  exact ⟨k + 1, l1, S1, l2, L2, rfl, rfl, h, s, b⟩
theorem Blk.two {n : Nat} {l S : List α} (h : Blk cf n l S) : (l.length ≤ n ∧ Stab cf l S) ∨ ∃ l1 S1 l2 L2 : List α, l = l1 ++ l2 ∧ S = S1 ++ L2 ∧ l1.length = n ∧ Stab cf l1 S1 ∧ Blk cf n l2 L2 := by
  obtain ⟨k, h⟩ := h
  cases k with
  | zero => exact .inl h
  | succ k => obtain ⟨l1, S1, l2, L2, e1, e2, h1, s, b⟩ := h; exact .inr ⟨l1, S1, l2, L2, e1, e2, h1, s, k, b⟩
def DoneN (cf : α → α → Int) (n : Nat) : Nat → List α → List α → Prop
  | 0, l, L => l = [] ∧ L = []
  | k + 1, l', L' => ∃ l L l1 S1 : List α, l' = l ++ l1 ∧ L' = L ++ S1 ∧ DoneN cf n k l L ∧ l1.length = n ∧ Stab cf l1 S1
def Done (cf : α → α → Int) (n : Nat) (l L : List α) : Prop := ∃ k, DoneN cf n k l L
theorem Done.none {n : Nat} : Done cf n [] [] := ⟨0, rfl, rfl⟩
theorem Done.snoc {n : Nat} {l L l1 S1 : List α} (d : Done cf n l L) (h : l1.length = n) (s : Stab cf l1 S1) : Done cf n (l ++ l1) (L ++ S1) := by
  obtain ⟨k, d⟩ := d
  exact ⟨k + 1, l, L, l1, S1, rfl, rfl, d, h, s⟩
theorem blk_perm {n : Nat} {l L : List α} (h : Blk cf n l L) : L.Perm l := by
  obtain ⟨k, h⟩ := h
  induction k generalizing l L with
  | zero => exact h.2.perm
  | succ k ih => obtain ⟨l1, S1, l2, L2, rfl, rfl, h1, s, b⟩ := h; exact s.perm.append (ih b)
theorem blk_one {n : Nat} {l L : List α} (h : Blk cf n l L) (hl : L.length ≤ n) : Stab cf l L := by
  rcases h.two with ⟨_, s⟩ | ⟨l1, S1, l2, L2, rfl, rfl, h1, s, h2⟩
  · exact s
  · have e1 := s.perm.length_eq
    have e2 := (blk_perm h2).length_eq
    rw [List.length_append] at hl
    have h3 : L2 = [] := List.eq_nil_of_length_eq_zero (by omega)
    have h4 : l2 = [] := List.eq_nil_of_length_eq_zero (by omega)
    subst h3 h4
    simpa using s
theorem blk_cut {n : Nat} {r R : List α} (h : Blk cf n r R) (hl : n < R.length) : ∃ r1 r2 S1 R2, r = r1 ++ r2 ∧ R = S1 ++ R2 ∧ S1.length = n ∧ r1.length = n ∧ Stab cf r1 S1 ∧ Blk cf n r2 R2 := by
  rcases h.two with ⟨h1, s⟩ | ⟨l1, S1, l2, L2, rfl, rfl, h1, s, h2⟩
  · have := s.perm.length_eq; omega
  · exact ⟨_, _, _, _, rfl, rfl, by have := s.perm.length_eq; omega, h1, s, h2⟩
theorem blk_two {n : Nat} {r R : List α} (hn : 0 < n) (h : Blk cf n r R) (hl : 2 * n ≤ R.length) : ∃ r1 r2 r3 S1 S2 R3, r = r1 ++ r2 ++ r3 ∧ R = S1 ++ (S2 ++ R3) ∧ S1.length = n ∧ S2.length = n ∧ r1.length = n ∧ r2.length = n ∧ Stab cf r1 S1 ∧ Stab cf r2 S2 ∧ Blk cf n r3 R3 := by
  obtain ⟨r1, r', S1, R', rfl, rfl, e1, e2, s1, b1⟩ := blk_cut h (by omega)
  rw [List.length_append] at hl
  by_cases hm : n < R'.length
  · obtain ⟨r2, r3, S2, R3, rfl, rfl, e3, e4, s2, b2⟩ := blk_cut b1 hm
    exact ⟨r1, r2, r3, S1, S2, R3, by simp, rfl, e1, e3, e2, e4, s1, s2, b2⟩
  · have s2 := blk_one b1 (by omega)
    have := s2.perm.length_eq
    exact ⟨r1, r', [], S1, R', [], by simp, by simp, e1, by omega, e2, by omega, s1, s2, .last (by simp) (stab_refl (by simp [Up]))⟩
theorem done_blk {n : Nat} {l L : List α} (h : Done cf n l L) : ∀ {r R : List α}, Blk cf n r R → Blk cf n (l ++ r) (L ++ R) := by
  obtain ⟨k, h⟩ := h
  induction k generalizing l L with
  | zero => obtain ⟨rfl, rfl⟩ := h; intro r R hb; exact hb
  | succ k ih => obtain ⟨l0, L0, l1, S1, rfl, rfl, d, h1, s⟩ := h; intro r R hb; rw [List.append_assoc, List.append_assoc]; exact ih d (.more h1 s hb)
/-! ### a search by halves -/
/-- What a search by halves finds: the first place at which the test holds. -/
theorem up_split (h : Ord3 cf) {Y : List α} (hY : Up cf Y) (i : Nat) (x : α) (hi : i ≤ Y.length) (h1 : 0 < i → cf Y[i - 1]! x < 0) : ∀ y ∈ Y.take i, cf y x < 0 := by
  intro y hy
  obtain ⟨j, hj, rfl⟩ := List.getElem_of_mem hy
  rw [List.length_take] at hj
  rw [List.getElem_take]
  have h2 := h1 (by omega)
  rw [getElem!_pos Y (i - 1) (by omega)] at h2
  by_cases e : j = i - 1
  · subst e; exact h2
  · exact h.lelt (List.pairwise_iff_getElem.1 hY j (i - 1) (by omega) (by omega) (by omega)) h2
theorem up_split_le (h : Ord3 cf) {Y : List α} (hY : Up cf Y) (i : Nat) (x : α) (hi : i ≤ Y.length) (h1 : 0 < i → cf Y[i - 1]! x ≤ 0) : ∀ y ∈ Y.take i, cf y x ≤ 0 := by
  intro y hy
  obtain ⟨j, hj, rfl⟩ := List.getElem_of_mem hy
  rw [List.length_take] at hj
  rw [List.getElem_take]
  have h2 := h1 (by omega)
  rw [getElem!_pos Y (i - 1) (by omega)] at h2
  by_cases e : j = i - 1
  · subst e; exact h2
  · exact h.trans _ _ _ (List.pairwise_iff_getElem.1 hY j (i - 1) (by omega) (by omega) (by omega)) h2
theorem up_rest (h : Ord3 cf) {Y : List α} (hY : Up cf Y) (i : Nat) (x : α) (h1 : i < Y.length → cf x Y[i]! ≤ 0) : ∀ y ∈ Y.drop i, cf x y ≤ 0 := by
  intro y hy
  obtain ⟨j, hj, rfl⟩ := List.getElem_of_mem hy
  rw [List.length_drop] at hj
  rw [List.getElem_drop]
  have h2 := h1 (by omega)
  rw [getElem!_pos Y i (by omega)] at h2
  by_cases e : j = 0
  · subst e; simpa using h2
  · exact h.trans _ _ _ h2 (List.pairwise_iff_getElem.1 hY i (i + j) (by omega) (by omega) (by omega))
theorem up_rest_lt (h : Ord3 cf) {Y : List α} (hY : Up cf Y) (i : Nat) (x : α) (h1 : i < Y.length → cf x Y[i]! < 0) : ∀ y ∈ Y.drop i, cf x y < 0 := by
  intro y hy
  obtain ⟨j, hj, rfl⟩ := List.getElem_of_mem hy
  rw [List.length_drop] at hj
  rw [List.getElem_drop]
  have h2 := h1 (by omega)
  rw [getElem!_pos Y i (by omega)] at h2
  by_cases e : j = 0
  · subst e; simpa using h2
  · exact h.ltle h2 (List.pairwise_iff_getElem.1 hY i (i + j) (by omega) (by omega) (by omega))
end
end Go.Proofs.Yteemfhhhdhddhaa

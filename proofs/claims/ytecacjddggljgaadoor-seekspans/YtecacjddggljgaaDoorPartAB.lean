/-
  Stable sorts and what entries come to: plain mathematics, no program. What a list of entries comes to: plain mathematics, no program. Exchanges in lists, the insertion sort and blocks that are sorted: plain mathematics, no program.
-/
import Derived.Test.YtecacjddggljgaaDoorPartAA
import Derived.Shelf.SlSortCmp.KitK
namespace Go.Proofs.YtecacjddggljgaaDoor
set_option linter.unusedSectionVars false
variable [Inhabited E]
/-- A total preorder by a comparison. -/
structure Ord3 {α : Type} (cf : α → α → Int) : Prop where
  anti : ∀ a b, cf a b < 0 ↔ 0 < cf b a
  trans : ∀ a b c, cf a b ≤ 0 → cf b c ≤ 0 → cf a c ≤ 0
section
variable {α : Type} {cf : α → α → Int}
theorem Ord3.self (h : Ord3 cf) (a : α) : cf a a = 0 := by have := h.anti a a; omega
theorem Ord3.zero (h : Ord3 cf) (a b : α) : cf a b = 0 ↔ cf b a = 0 := by
  have h1 := h.anti a b; have h2 := h.anti b a
  constructor <;> intro h0 <;> omega
theorem Ord3.ltle (h : Ord3 cf) {a b c : α} (h1 : cf a b < 0) (h2 : cf b c ≤ 0) : cf a c < 0 := by
  have h3 := h.trans a b c (by omega) h2
  have h4 := h.anti a c; have h5 := h.anti c a; have h6 := h.anti a b; have h7 := h.anti b a
  have h8 := h.trans b c a h2
  omega
theorem Ord3.lelt (h : Ord3 cf) {a b c : α} (h1 : cf a b ≤ 0) (h2 : cf b c < 0) : cf a c < 0 := by
  have h3 := h.trans a b c h1 (by omega)
  have h4 := h.anti a c; have h5 := h.anti c a; have h6 := h.anti b c; have h7 := h.anti c b
  have h8 := h.trans c a b
  omega
/-- Of a's class. -/
def cls (cf : α → α → Int) (c x : α) : Bool := cf c x == 0
/-- S is l, sorted, and stably so. -/
structure Stab (cf : α → α → Int) (l S : List α) : Prop where
  srt : S.Pairwise fun a b => cf a b ≤ 0
  keep : ∀ c, S.filter (cls cf c) = l.filter (cls cf c)
  perm : S.Perm l
def Up (cf : α → α → Int) (l : List α) : Prop := l.Pairwise fun a b => cf a b ≤ 0
theorem cls_swap (h : Ord3 cf) (Y X : List α) (hlt : ∀ y ∈ Y, ∀ x ∈ X, cf y x < 0) (c : α) : (Y ++ X).filter (cls cf c) = (X ++ Y).filter (cls cf c) := by
  rw [List.filter_append, List.filter_append]
  by_cases hY : Y.filter (cls cf c) = []
  · rw [hY, List.nil_append, List.append_nil]
  · have hX : X.filter (cls cf c) = [] := by
      obtain ⟨y, hy⟩ := List.exists_mem_of_ne_nil _ hY
      rw [List.mem_filter] at hy
      rw [List.filter_eq_nil_iff]
      intro x hx hcx
      have h1 := hlt y hy.1 x hx
      have hy2 := hy.2
      simp only [cls, beq_iff_eq] at hy2 hcx
      have h2 := (h.zero c y).1 hy2
      have h3 := h.trans x c y (by have := (h.zero c x).1 hcx; omega) (by omega)
      have h4 := h.anti y x
      have h5 := h.anti x y
      omega
    rw [hX, List.nil_append, List.append_nil]
/-- Two sorted pieces, cut so that the middle ones may change places. -/
theorem stab_cross (h : Ord3 cf) {X1 X2 Y1 Y2 R1 R2 : List α} (hX : Up cf (X1 ++ X2)) (hY : Up cf (Y1 ++ Y2))
    (h12 : ∀ x ∈ X1, ∀ y ∈ Y2, cf x y ≤ 0) (h21 : ∀ y ∈ Y1, ∀ x ∈ X2, cf y x < 0) (s1 : Stab cf (X1 ++ Y1) R1) (s2 : Stab cf (X2 ++ Y2) R2) :
    Stab cf ((X1 ++ X2) ++ (Y1 ++ Y2)) (R1 ++ R2) := by
  have hX' := List.pairwise_append.1 hX
  have hY' := List.pairwise_append.1 hY
  refine ⟨?_, fun c => ?_, ?_⟩
  · rw [List.pairwise_append]
    refine ⟨s1.srt, s2.srt, fun a ha b hb => ?_⟩
    rw [s1.perm.mem_iff, List.mem_append] at ha
    rw [s2.perm.mem_iff, List.mem_append] at hb
    rcases ha with ha | ha <;> rcases hb with hb | hb
    · exact hX'.2.2 a ha b hb
    · exact h12 a ha b hb
    · have := h21 a ha b hb; omega
    · exact hY'.2.2 a ha b hb
  · have hc := cls_swap h Y1 X2 h21 c
    rw [List.filter_append, List.filter_append] at hc
    rw [List.filter_append, s1.keep, s2.keep]
    simp only [List.filter_append, List.append_assoc]
    rw [← List.append_assoc ((Y1).filter _), hc, List.append_assoc]
  · refine (s1.perm.append s2.perm).trans ?_
    have h1 : (Y1 ++ X2).Perm (X2 ++ Y1) := List.perm_append_comm
    have h2 := ((h1.append_right Y2).append_left X1)
    simpa [List.append_assoc] using h2
theorem stab_refl {l : List α} (hl : Up cf l) : Stab cf l l := ⟨hl, fun _ => rfl, .refl _⟩
theorem Stab.trans_app {A B S T R : List α} (hA : Stab cf A S) (hB : Stab cf B T) (hR : Stab cf (S ++ T) R) : Stab cf (A ++ B) R :=
  ⟨hR.srt, fun c => by rw [hR.keep, List.filter_append, hA.keep, hB.keep, List.filter_append], hR.perm.trans (hA.perm.append hB.perm)⟩
end
end Go.Proofs.YtecacjddggljgaaDoor
namespace Go.Proofs.YtecacjddggljgaaDoor
set_option linter.unusedSectionVars false
variable [Inhabited E]
/-- Of entries in the order of their keys: the last of each key. -/
def lasts : List E → List E
  | [] => []
  | [a] => [a]
  | a :: b :: r => if b.key = a.key then lasts (b :: r) else a :: lasts (b :: r)
theorem lasts_end (l : List E) (i : Nat) (h : i + 1 = l.length) : lasts (l.drop i) = [l[i]!] := by
  have hi : i < l.length := by omega
  rw [List.drop_eq_getElem_cons hi, List.drop_eq_nil_of_le (by omega : l.length ≤ i + 1), getElem!_pos l i hi]
  rfl
theorem lasts_keep (l : List E) (i : Nat) (h : i + 1 < l.length) (hk : l[i + 1]!.key ≠ l[i]!.key) : lasts (l.drop i) = l[i]! :: lasts (l.drop (i + 1)) := by
  have hi : i < l.length := by omega
  rw [getElem!_pos l i hi, getElem!_pos l (i + 1) h] at hk
  rw [List.drop_eq_getElem_cons hi, List.drop_eq_getElem_cons h, lasts, if_neg hk, getElem!_pos l i hi]
theorem lasts_skip (l : List E) (i : Nat) (h : i + 1 < l.length) (hk : l[i + 1]!.key = l[i]!.key) : lasts (l.drop i) = lasts (l.drop (i + 1)) := by
  have hi : i < l.length := by omega
  rw [getElem!_pos l i hi, getElem!_pos l (i + 1) h] at hk
  rw [List.drop_eq_getElem_cons hi, List.drop_eq_getElem_cons h, lasts, if_pos hk]
theorem lasts_len : ∀ l : List E, (lasts l).length ≤ l.length
  | [] => Nat.le_refl _
  | [a] => Nat.le_refl _
  | a :: b :: r => by
    have := lasts_len (b :: r)
    rw [lasts]
    split <;> simp at * <;> omega
/-! ### comparing texts -/
theorem cb_self : ∀ a : List UInt8, Lib.compareBytes a a = 0
  | [] => rfl
  | x :: a => by rw [Lib.compareBytes, if_neg (UInt8.lt_irrefl x), if_neg (UInt8.lt_irrefl x)]; exact cb_self a
theorem cb_eq : ∀ a b : List UInt8, Lib.compareBytes a b = 0 → a = b
  | [], [], _ => rfl
  | [], _ :: _, h => by simp [Lib.compareBytes] at h
  | _ :: _, [], h => by simp [Lib.compareBytes] at h
  | x :: a, y :: b, h => by
    rw [Lib.compareBytes] at h
    split at h
    · omega
    · split at h
      · omega
      · rename_i h1 h2
        have := cb_eq a b h
        have hxy : x = y := UInt8.le_antisymm (UInt8.not_lt.1 h2) (UInt8.not_lt.1 h1)
        rw [this, hxy]
theorem cb_anti : ∀ a b : List UInt8, Lib.compareBytes a b < 0 ↔ 0 < Lib.compareBytes b a
  | [], [] => by simp [Lib.compareBytes]
  | [], _ :: _ => by simp [Lib.compareBytes]
  | _ :: _, [] => by simp [Lib.compareBytes]
  | x :: a, y :: b => by
    have ih := cb_anti a b
    rw [Lib.compareBytes, Lib.compareBytes]
    by_cases h1 : x < y
    · rw [if_pos h1, if_neg (UInt8.not_lt.2 (UInt8.le_of_lt h1)), if_pos h1]; omega
    · by_cases h2 : y < x
      · rw [if_neg h1, if_pos h2, if_pos h2]; omega
      · rw [if_neg h1, if_neg h2, if_neg h2, if_neg h1]; exact ih
theorem cb_trans : ∀ a b c : List UInt8, Lib.compareBytes a b ≤ 0 → Lib.compareBytes b c ≤ 0 → Lib.compareBytes a c ≤ 0
  | [], _, [], _, _ => by simp [Lib.compareBytes]
  | [], _, _ :: _, _, _ => by simp [Lib.compareBytes]
  | _ :: _, [], _, h, _ => by simp [Lib.compareBytes] at h
  | _ :: _, _ :: _, [], _, h => by simp [Lib.compareBytes] at h
  | x :: a, y :: b, z :: c, h1, h2 => by
    have ih := cb_trans a b c
    rw [Lib.compareBytes] at h1 h2 ⊢
    by_cases p : x < y
    · by_cases q : y < z
      · rw [if_pos (UInt8.lt_trans p q)]; omega
      · rw [if_neg q] at h2
        by_cases q2 : z < y
        · rw [if_pos q2] at h2; omega
        · have : y = z := UInt8.le_antisymm (UInt8.not_lt.1 q2) (UInt8.not_lt.1 q)
          subst this
          rw [if_pos p]; omega
    · rw [if_neg p] at h1
      by_cases p2 : y < x
      · rw [if_pos p2] at h1; omega
      · rw [if_neg p2] at h1
        have : x = y := UInt8.le_antisymm (UInt8.not_lt.1 p2) (UInt8.not_lt.1 p)
        subst this
        by_cases q : x < z
        · rw [if_pos q]; omega
        · rw [if_neg q] at h2 ⊢
          by_cases q2 : z < x
          · rw [if_pos q2] at h2; omega
          · rw [if_neg q2] at h2 ⊢
            exact ih h1 h2
theorem less_cb : ∀ a b : List UInt8, Op.bytesLess a b = decide (Lib.compareBytes a b < 0)
  | [], [] => rfl
  | [], _ :: _ => rfl
  | _ :: _, [] => rfl
  | x :: a, y :: b => by
    have ih := less_cb a b
    rw [Op.bytesLess, Lib.compareBytes]
    by_cases h1 : x < y
    · simp [h1]
    · by_cases h2 : y < x
      · have : x ≠ y := fun e => by subst e; exact UInt8.lt_irrefl x h2
        simp [h1, h2, this]
      · have : x = y := UInt8.le_antisymm (UInt8.not_lt.1 h2) (UInt8.not_lt.1 h1)
        subst this
        simp [UInt8.lt_irrefl, ih]
theorem cmpS_ord : Ord3 cmpS := ⟨fun _ _ => cb_anti _ _, fun _ _ _ => cb_trans _ _ _⟩
theorem cmpS_eq {a b : ByteArray} : cmpS a b = 0 ↔ a = b := by
  constructor
  · intro h
    have := cb_eq _ _ h
    exact ByteArray.ext (Array.toList_inj.1 this)
  · intro h; subst h; exact cb_self _
theorem less_cmpS (a b : ByteArray) : Op.bytesLess a.toList b.toList = decide (cmpS a b < 0) := by
  rw [ByteArray.toList_eq, ByteArray.toList_eq]; exact less_cb _ _
theorem eq_cmpS (a b : ByteArray) : (a.toList == b.toList) = decide (a = b) := by
  rw [ByteArray.toList_eq, ByteArray.toList_eq]
  by_cases h : a = b
  · subst h; simp
  · have : ¬ a.data = b.data := fun e => h (ByteArray.ext e)
    simp [h, this]
theorem cmpI_ord : Ord3 cmpI := ⟨fun a b => by unfold cmpI; split <;> split <;> (try split) <;> (try split) <;> omega, fun a b c => by unfold cmpI; split <;> split <;> (try split) <;> (try split) <;> (try split) <;> (try split) <;> omega⟩
theorem cmpI_le (a b : Int) : cmpI a b ≤ 0 ↔ a ≤ b := by unfold cmpI; split <;> (try split) <;> omega
theorem cmpI_zero (a b : Int) : cmpI a b = 0 ↔ a = b := by unfold cmpI; split <;> (try split) <;> omega
theorem cmpE_ord : Ord3 cmpE := by
  have hs := cmpS_ord
  have hi := cmpI_ord
  refine ⟨fun a b => ?_, fun a b c h1 h2 => ?_⟩
  · unfold cmpE
    have z := hs.zero a.key b.key
    by_cases h : cmpS a.key b.key = 0
    · rw [if_neg (by omega), if_neg (by omega)]; exact hi.anti _ _
    · rw [if_pos h, if_pos (by omega)]; exact hs.anti _ _
  · unfold cmpE at h1 h2 ⊢
    by_cases k1 : cmpS a.key b.key = 0
    · have e1 := cmpS_eq.1 k1
      rw [if_neg (by omega)] at h1
      rw [e1]
      by_cases k2 : cmpS b.key c.key = 0
      · rw [if_neg (by omega)] at h2 ⊢; exact hi.trans _ _ _ h1 h2
      · rw [if_pos k2] at h2 ⊢; exact h2
    · rw [if_pos k1] at h1
      have l1 : cmpS a.key b.key < 0 := by omega
      by_cases k2 : cmpS b.key c.key = 0
      · have e2 := cmpS_eq.1 k2
        rw [← e2, if_pos k1]; exact h1
      · rw [if_pos k2] at h2
        have := hs.ltle l1 h2
        rw [if_pos (by omega)]; omega
theorem cmpE_key {a b : E} (h : cmpE a b ≤ 0) : cmpS a.key b.key ≤ 0 := by
  unfold cmpE at h
  by_cases k1 : cmpS a.key b.key = 0
  · omega
  · rw [if_pos k1] at h; exact h
theorem cmpE_seq {a b : E} (h : cmpE a b ≤ 0) (hk : a.key = b.key) : a.seq ≤ b.seq := by
  unfold cmpE at h
  rw [if_neg (by rw [hk]; simpa using cmpS_ord.self b.key), cmpI_le] at h
  exact h
theorem cls_cmpE (c x : E) : cls cmpE c x = (decide (x.key = c.key) && decide (x.seq = c.seq)) := by
  unfold cls cmpE
  by_cases k1 : cmpS c.key x.key = 0
  · have e1 := cmpS_eq.1 k1
    rw [if_neg (by omega)]
    by_cases q : c.seq = x.seq
    · have h0 := (cmpI_zero c.seq x.seq).2 q
      rw [h0]
      simp [e1, q]
    · have h2 : cmpI c.seq x.seq ≠ 0 := fun h => q ((cmpI_zero _ _).1 h)
      have h3 : ¬ x.seq = c.seq := fun h => q h.symm
      simp [h2, h3]
  · have h2 : ¬ x.key = c.key := fun h => k1 (cmpS_eq.2 h.symm)
    rw [if_pos k1]
    simp [k1, h2]
/-! ### lists sorted by their keys -/
/-- Each key above the one ahead. -/
def Ks (l : List E) : Prop := l.Pairwise fun a b => cmpS a.key b.key < 0
/-- What a list has of a key. -/
def lk (k : ByteArray) (l : List E) : Option E := l.find? fun e => decide (e.key = k)
theorem lk_nil (k : ByteArray) : lk k [] = none := rfl
theorem lk_cons (k : ByteArray) (e : E) (l : List E) : lk k (e :: l) = if e.key = k then some e else lk k l := by
  unfold lk; rw [List.find?_cons]; by_cases h : e.key = k <;> simp [h]
theorem lk_none {k : ByteArray} {l : List E} (h : ∀ x ∈ l, x.key ≠ k) : lk k l = none := by
  unfold lk; rw [List.find?_eq_none]; intro x hx; simpa using h x hx
theorem lk_below {k : ByteArray} {e : E} {l : List E} (h : Ks (e :: l)) (hk : cmpS k e.key < 0) : lk k (e :: l) = none := by
  refine lk_none fun x hx => ?_
  rcases List.mem_cons.1 hx with rfl | hx
  · intro e1; rw [e1] at hk; have := cmpS_ord.self k; omega
  · have h1 := (List.pairwise_cons.1 h).1 x hx
    have h2 := cmpS_ord.ltle hk (by omega : cmpS e.key x.key ≤ 0)
    intro e1; rw [e1] at h2; have := cmpS_ord.self k; omega
theorem lk_head {e : E} {l : List E} (h : Ks (e :: l)) : lk e.key l = none := by
  refine lk_none fun x hx e1 => ?_
  have h1 := (List.pairwise_cons.1 h).1 x hx
  rw [e1] at h1; have := cmpS_ord.self e.key; omega
theorem lk_mem {k : ByteArray} {l : List E} {x : E} (h : lk k l = some x) : x ∈ l ∧ x.key = k := by
  unfold lk at h
  exact ⟨List.mem_of_find?_eq_some h, by simpa using List.find?_some h⟩
theorem lk_of_mem {l : List E} (h : Ks l) {x : E} (hx : x ∈ l) : lk x.key l = some x := by
  induction l with
  | nil => cases hx
  | cons e r ih =>
    rw [lk_cons]
    have hr := (List.pairwise_cons.1 h).2
    rcases List.mem_cons.1 hx with rfl | hx
    · rw [if_pos rfl]
    · have h1 := (List.pairwise_cons.1 h).1 x hx
      rw [if_neg (fun e1 => by rw [e1] at h1; have := cmpS_ord.self x.key; omega)]
      exact ih hr hx
theorem ks_ext : ∀ {a b : List E}, Ks a → Ks b → (∀ k, lk k a = lk k b) → a = b
  | [], [], _, _, _ => rfl
  | [], y :: b, _, _, h => by have := h y.key; rw [lk_nil, lk_cons, if_pos rfl] at this; cases this
  | x :: a, [], _, _, h => by have := h x.key; rw [lk_nil, lk_cons, if_pos rfl] at this; cases this
  | x :: a, y :: b, ha, hb, h => by
    have hk : cmpS x.key y.key = 0 := by
      have h1 := h x.key
      have h2 := h y.key
      by_cases p : cmpS x.key y.key < 0
      · rw [lk_cons, if_pos rfl, lk_below hb p] at h1; cases h1
      · by_cases q : cmpS y.key x.key < 0
        · rw [lk_below ha q, lk_cons, if_pos rfl] at h2; cases h2
        · have := cmpS_ord.anti y.key x.key; omega
    have hk := cmpS_eq.1 hk
    have h1 := h x.key
    rw [lk_cons, if_pos rfl, lk_cons, if_pos hk.symm] at h1
    cases h1
    congr 1
    refine ks_ext (List.pairwise_cons.1 ha).2 (List.pairwise_cons.1 hb).2 fun k => ?_
    have h2 := h k
    rw [lk_cons, lk_cons] at h2
    by_cases e1 : x.key = k
    · subst e1; rw [lk_head ha, lk_head hb]
    · rwa [if_neg e1, if_neg e1] at h2
/-! ### the fold -/
/-- An entry put into its place. -/
def insS : List E → E → List E
  | [], e => [e]
  | x :: r, e => if cmpS x.key e.key < 0 then x :: insS r e else if x.key = e.key then (if x.seq ≤ e.seq then e :: r else x :: r) else e :: x :: r
def foldS (l : List E) : List E := l.foldl insS []
/-- Of two entries of a key the later one. -/
def lat (o : Option E) (e : E) : Option E :=
  match o with
  | none => some e
  | some b => if b.seq ≤ e.seq then some e else some b
theorem lk_insS (k : ByteArray) (e : E) : ∀ {l : List E}, Ks l → lk k (insS l e) = if e.key = k then lat (lk k l) e else lk k l
  | [], _ => by rw [insS, lk_cons, lk_nil]; rfl
  | x :: r, h => by
    have hr := (List.pairwise_cons.1 h).2
    rw [insS]
    by_cases p : cmpS x.key e.key < 0
    · rw [if_pos p, lk_cons, lk_insS k e hr, lk_cons]
      by_cases e1 : x.key = k
      · have : ¬ e.key = k := fun e2 => by rw [e1, e2] at p; have := cmpS_ord.self k; omega
        rw [if_pos e1, if_pos e1, if_neg this]
      · rw [if_neg e1, if_neg e1]
    · rw [if_neg p]
      by_cases q : x.key = e.key
      · rw [if_pos q]
        by_cases s : x.seq ≤ e.seq
        · rw [if_pos s, lk_cons, lk_cons]
          by_cases e1 : e.key = k
          · rw [if_pos e1, if_pos e1, if_pos (q.trans e1)]; simp [lat, s]
          · rw [if_neg e1, if_neg e1, if_neg (fun e2 => e1 (q.symm.trans e2))]
        · rw [if_neg s, lk_cons]
          by_cases e1 : e.key = k
          · rw [if_pos e1, if_pos (q.trans e1)]; simp [lat, s]
          · rw [if_neg e1]
      · rw [if_neg q, lk_cons]
        by_cases e1 : e.key = k
        · have p2 : cmpS e.key x.key < 0 := by
            have h1 := cmpS_ord.anti e.key x.key
            have h2 : cmpS x.key e.key ≠ 0 := fun h => q (cmpS_eq.1 h)
            omega
          rw [if_pos e1, if_pos e1, ← e1, lk_below h p2]; rfl
        · rw [if_neg e1, if_neg e1]
theorem insS_mem {l : List E} {e x : E} (h : x ∈ insS l e) : x = e ∨ x ∈ l := by
  induction l with
  | nil => simp [insS] at h; exact .inl h
  | cons y r ih =>
    rw [insS] at h
    split at h
    · rcases List.mem_cons.1 h with rfl | h
      · exact .inr (List.mem_cons_self ..)
      · rcases ih h with h | h
        · exact .inl h
        · exact .inr (List.mem_cons_of_mem _ h)
    · split at h
      · split at h
        · rcases List.mem_cons.1 h with rfl | h
          · exact .inl rfl
          · exact .inr (List.mem_cons_of_mem _ h)
        · exact .inr h
      · rcases List.mem_cons.1 h with rfl | h
        · exact .inl rfl
        · exact .inr h
theorem ks_insS (e : E) : ∀ {l : List E}, Ks l → Ks (insS l e)
  | [], _ => List.pairwise_singleton _ _
  | x :: r, h => by
    have hr := List.pairwise_cons.1 h
    rw [insS]
    by_cases p : cmpS x.key e.key < 0
    · rw [if_pos p]
      refine List.pairwise_cons.2 ⟨fun y hy => ?_, ks_insS e hr.2⟩
      rcases insS_mem hy with rfl | hy
      · exact p
      · exact hr.1 y hy
    · rw [if_neg p]
      by_cases q : x.key = e.key
      · rw [if_pos q]
        by_cases s : x.seq ≤ e.seq
        · rw [if_pos s]
          exact List.pairwise_cons.2 ⟨fun y hy => by rw [← q]; exact hr.1 y hy, hr.2⟩
        · rw [if_neg s]; exact h
      · rw [if_neg q]
        have p2 : cmpS e.key x.key < 0 := by
          have h1 := cmpS_ord.anti e.key x.key
          have h2 : cmpS x.key e.key ≠ 0 := fun h => q (cmpS_eq.1 h)
          omega
        refine List.pairwise_cons.2 ⟨fun y hy => ?_, h⟩
        rcases List.mem_cons.1 hy with rfl | hy
        · exact p2
        · exact cmpS_ord.ltle p2 (by have := hr.1 y hy; omega)
theorem ks_foldl : ∀ (l a : List E), Ks a → Ks (l.foldl insS a)
  | [], _, h => h
  | e :: l, _, h => ks_foldl l _ (ks_insS e h)
theorem ks_foldS (l : List E) : Ks (foldS l) := ks_foldl l [] List.Pairwise.nil
/-- What of a key is the last. -/
def best (k : ByteArray) (o : Option E) (l : List E) : Option E := l.foldl (fun o e => if e.key = k then lat o e else o) o
theorem lk_foldl (k : ByteArray) : ∀ (l a : List E), Ks a → lk k (l.foldl insS a) = best k (lk k a) l
  | [], _, _ => rfl
  | e :: l, a, h => by
    show lk k (l.foldl insS (insS a e)) = best k (if e.key = k then lat (lk k a) e else lk k a) l
    rw [lk_foldl k l _ (ks_insS e h), lk_insS k e h]
theorem lk_foldS (k : ByteArray) (l : List E) : lk k (foldS l) = best k none l := lk_foldl k l [] List.Pairwise.nil
/-! ### the last of each key in a sorted list -/
theorem lasts_mem : ∀ {l : List E} {x : E}, x ∈ lasts l → x ∈ l
  | [], _, h => h
  | [_], _, h => h
  | a :: b :: r, x, h => by
    rw [lasts] at h
    split at h
    · exact List.mem_cons_of_mem _ (lasts_mem h)
    · rcases List.mem_cons.1 h with rfl | h
      · exact List.mem_cons_self ..
      · exact List.mem_cons_of_mem _ (lasts_mem h)
def Kle (l : List E) : Prop := l.Pairwise fun a b => cmpS a.key b.key ≤ 0
theorem ks_lasts : ∀ {l : List E}, Kle l → Ks (lasts l)
  | [], _ => List.Pairwise.nil
  | [_], _ => List.pairwise_singleton _ _
  | a :: b :: r, h => by
    have hr := List.pairwise_cons.1 h
    have ih := ks_lasts hr.2
    rw [lasts]
    by_cases p : b.key = a.key
    · rw [if_pos p]; exact ih
    · rw [if_neg p]
      refine List.pairwise_cons.2 ⟨fun y hy => ?_, ih⟩
      have h1 := hr.1 b (List.mem_cons_self ..)
      have h2 : cmpS a.key b.key < 0 := by
        have : cmpS a.key b.key ≠ 0 := fun h => p (cmpS_eq.1 h).symm
        omega
      rcases List.mem_cons.1 (lasts_mem hy) with rfl | h3
      · exact h2
      · exact cmpS_ord.ltle h2 ((List.pairwise_cons.1 hr.2).1 y h3)
def ofKey (k : ByteArray) (l : List E) : List E := l.filter fun e => decide (e.key = k)
theorem ofKey_cons (k : ByteArray) (e : E) (l : List E) : ofKey k (e :: l) = if e.key = k then e :: ofKey k l else ofKey k l := by
  unfold ofKey; rw [List.filter_cons]; by_cases h : e.key = k <;> simp [h]
theorem ofKey_none {k : ByteArray} {l : List E} (h : ∀ x ∈ l, x.key ≠ k) : ofKey k l = [] := by
  unfold ofKey; rw [List.filter_eq_nil_iff]; intro x hx; simpa using h x hx
theorem lk_lasts (k : ByteArray) : ∀ {l : List E}, Kle l → lk k (lasts l) = (ofKey k l).getLast?
  | [], _ => rfl
  | [_], _ => by rw [lasts, lk_cons, ofKey_cons, lk_nil]; split <;> rfl
  | a :: b :: r, h => by
    have hr := List.pairwise_cons.1 h
    have ih := lk_lasts k hr.2
    rw [lasts]
    by_cases p : b.key = a.key
    · rw [if_pos p, ih, ofKey_cons k a]
      by_cases e1 : a.key = k
      · rw [if_pos e1, ofKey_cons, if_pos (p.trans e1), List.getLast?_cons_cons]
      · rw [if_neg e1]
    · rw [if_neg p, lk_cons, ih, ofKey_cons k a]
      by_cases e1 : a.key = k
      · rw [if_pos e1, if_pos e1]
        have h1 := hr.1 b (List.mem_cons_self ..)
        have h2 : cmpS a.key b.key < 0 := by
          have : cmpS a.key b.key ≠ 0 := fun h => p (cmpS_eq.1 h).symm
          omega
        rw [ofKey_none]
        · rfl
        · intro x hx e2
          have h3 : cmpS a.key x.key < 0 := by
            rcases List.mem_cons.1 hx with rfl | h3
            · exact h2
            · exact cmpS_ord.ltle h2 ((List.pairwise_cons.1 hr.2).1 x h3)
          rw [e1, e2] at h3
          have := cmpS_ord.self k; omega
      · rw [if_neg e1, if_neg e1]
theorem best_ofKey (k : ByteArray) : ∀ (l : List E) (o : Option E), best k o l = (ofKey k l).foldl lat o
  | [], _ => rfl
  | e :: l, o => by
    rw [ofKey_cons]
    show best k (if e.key = k then lat o e else o) l = _
    rw [best_ofKey k l]
    by_cases h : e.key = k
    · rw [if_pos h, if_pos h]; rfl
    · rw [if_neg h, if_neg h]
theorem snoc_rec {α : Type} {p : List α → Prop} (h0 : p []) (hs : ∀ l a, p l → p (l ++ [a])) (l : List α) : p l := by
  have h : ∀ r : List α, p r.reverse := by
    intro r
    induction r with
    | nil => exact h0
    | cons a r ih => rw [List.reverse_cons]; exact hs _ _ ih
  have := h l.reverse
  rwa [List.reverse_reverse] at this
/-- The later one of all: it is the last of those with the greatest number. -/
theorem lat_spec : ∀ (l : List E) (x : E), l.foldl lat none = some x → (∀ y ∈ l, y.seq ≤ x.seq) ∧ (l.filter fun e => decide (e.seq = x.seq)).getLast? = some x ∧ x ∈ l := by
  intro l
  induction l using snoc_rec with
  | h0 => intro x h; cases h
  | hs l e ih =>
    intro x h
    rw [List.foldl_append] at h
    change lat (l.foldl lat none) e = some x at h
    cases hl : l.foldl lat none with
    | none =>
      rw [hl] at h
      cases h
      have : l = [] := by
        cases l with
        | nil => rfl
        | cons y r =>
          exfalso
          have : ∀ (r : List E) (b : E), ∃ z, r.foldl lat (some b) = some z := by
            intro r
            induction r with
            | nil => intro b; exact ⟨b, rfl⟩
            | cons c r ih2 => intro b; simp only [List.foldl_cons, lat]; split <;> exact ih2 _
          obtain ⟨z, hz⟩ := this r y
          change r.foldl lat (some y) = none at hl
          rw [hz] at hl; cases hl
      subst this
      simp
    | some b =>
      rw [hl] at h
      obtain ⟨h1, h2, h3⟩ := ih b hl
      simp only [lat] at h
      by_cases s : b.seq ≤ e.seq
      · rw [if_pos s] at h
        cases h
        refine ⟨fun y hy => ?_, ?_, by simp⟩
        · rcases List.mem_append.1 hy with hy | hy
          · have := h1 y hy; omega
          · simp at hy; subst hy; omega
        · rw [List.filter_append]; simp
      · rw [if_neg s] at h
        cases h
        refine ⟨fun y hy => ?_, ?_, by simp [h3]⟩
        · rcases List.mem_append.1 hy with hy | hy
          · exact h1 y hy
          · simp at hy; subst hy; omega
        · rw [List.filter_append]
          have : ¬ e.seq = x.seq := by omega
          simp [this, h2]
theorem lat_some : ∀ (l : List E), l ≠ [] → ∃ x, l.foldl lat none = some x := by
  intro l
  induction l using snoc_rec with
  | h0 => intro h; exact absurd rfl h
  | hs l e ih =>
    intro _
    rw [List.foldl_append]
    show ∃ x, lat (l.foldl lat none) e = some x
    cases l.foldl lat none with
    | none => exact ⟨e, rfl⟩
    | some b => simp only [lat]; split <;> exact ⟨_, rfl⟩
theorem getLast_max : ∀ (l : List E) (z : E), l.Pairwise (fun a b => a.seq ≤ b.seq) → l.getLast? = some z → (∀ y ∈ l, y.seq ≤ z.seq) ∧ (l.filter fun e => decide (e.seq = z.seq)).getLast? = some z := by
  intro l z hp hl
  obtain ⟨l', rfl⟩ : ∃ l', l = l' ++ [z] := by
    rw [List.getLast?_eq_some_iff] at hl; exact hl
  refine ⟨fun y hy => ?_, ?_⟩
  · rcases List.mem_append.1 hy with hy | hy
    · exact (List.pairwise_append.1 hp).2.2 y hy z (by simp)
    · simp at hy; subst hy; omega
  · rw [List.filter_append]; simp
/-- A stable sort's last entries are the fold. -/
theorem lasts_foldS {l S : List E} (h : Stab cmpE l S) : lasts S = foldS l := by
  have hK : Kle S := h.srt.imp fun hab => cmpE_key hab
  refine ks_ext (ks_lasts hK) (ks_foldS l) fun k => ?_
  rw [lk_lasts k hK, lk_foldS, best_ofKey]
  have hperm : (ofKey k S).Perm (ofKey k l) := h.perm.filter _
  by_cases hn : ofKey k l = []
  · have : ofKey k S = [] := by rw [hn] at hperm; exact hperm.eq_nil
    rw [hn, this]; rfl
  · obtain ⟨x, hx⟩ := lat_some _ hn
    obtain ⟨h1, h2, h3⟩ := lat_spec _ x hx
    have hn2 : ofKey k S ≠ [] := fun e => hn (by rw [e] at hperm; exact hperm.symm.eq_nil)
    obtain ⟨z, hz⟩ : ∃ z, (ofKey k S).getLast? = some z := by
      cases hh : (ofKey k S).getLast? with
      | none => exact absurd (List.getLast?_eq_none_iff.1 hh) hn2
      | some z => exact ⟨z, rfl⟩
    have hsort : (ofKey k S).Pairwise fun a b => a.seq ≤ b.seq := by
      have hp : (ofKey k S).Pairwise fun a b => cmpE a b ≤ 0 := h.srt.sublist List.filter_sublist
      refine (List.Pairwise.imp_of_mem ?_ hp)
      intro a b ha hb hab
      refine cmpE_seq hab ?_
      have ha := (List.mem_filter.1 ha).2
      have hb := (List.mem_filter.1 hb).2
      simp at ha hb
      rw [ha, hb]
    obtain ⟨g1, g2⟩ := getLast_max _ z hsort hz
    have hzm : z ∈ ofKey k S := List.mem_of_getLast? hz
    have hseq : z.seq = x.seq := by
      have a1 := h1 z (hperm.mem_iff.1 hzm)
      have a2 := g1 x (hperm.mem_iff.2 h3)
      omega
    have hkeyx : x.key = k := by simpa using (List.mem_filter.1 h3).2
    have hc := h.keep x
    have hcls : ∀ L : List E, L.filter (cls cmpE x) = (ofKey k L).filter fun e => decide (e.seq = x.seq) := by
      intro L
      unfold ofKey
      rw [List.filter_filter]
      congr 1
      funext e
      rw [cls_cmpE, hkeyx]
      exact Bool.and_comm _ _
    rw [hcls, hcls] at hc
    rw [hseq, hc, h2] at g2
    rw [hx, hz, g2]
end Go.Proofs.YtecacjddggljgaaDoor
namespace Go.Proofs.YtecacjddggljgaaDoor
open Go.Sort
set_option linter.unusedSectionVars false
variable [Inhabited E]
set_option linter.unusedSectionVars false
section
variable {α : Type} [Inhabited α] {cf : α → α → Int}
theorem get_mid (A B : List α) (x : α) : (A ++ x :: B).toArray[A.length]! = x := by
  rw [getElem!_pos _ _ (by simp)]; simp
theorem swp_list (A M Z : List α) (x y : α) (i j : Nat) (hi : i = A.length) (hj : j = A.length + 1 + M.length) : swp (A ++ x :: (M ++ y :: Z)).toArray i j = (A ++ y :: (M ++ x :: Z)).toArray := by
  subst hi hj
  have h1 : (A ++ x :: (M ++ y :: Z)).toArray[A.length]! = x := get_mid A _ x
  have h2 : (A ++ x :: (M ++ y :: Z)).toArray[A.length + 1 + M.length]! = y := by
    have := get_mid (A ++ x :: M) Z y
    rw [List.append_assoc, List.cons_append, List.length_append, List.length_cons, ← Nat.add_assoc, Nat.add_right_comm] at this
    exact this
  unfold swp
  rw [h1, h2]
  simp [Nat.add_assoc, Nat.add_comm 1]
theorem swp_list' (A M Z : List α) (x y : α) (i j : Nat) (hi : i = A.length) (hj : j = A.length + 1 + M.length) : swp (A ++ x :: (M ++ y :: Z)).toArray j i = (A ++ y :: (M ++ x :: Z)).toArray := by
  subst hi hj
  have h1 : (A ++ x :: (M ++ y :: Z)).toArray[A.length]! = x := get_mid A _ x
  have h2 : (A ++ x :: (M ++ y :: Z)).toArray[A.length + 1 + M.length]! = y := by
    have := get_mid (A ++ x :: M) Z y
    rw [List.append_assoc, List.cons_append, List.length_append, List.length_cons, ← Nat.add_assoc, Nat.add_right_comm] at this
    exact this
  unfold swp
  rw [h1, h2]
  simp [Nat.add_assoc, Nat.add_comm 1]
/-- The round of an insertion: x goes to its place. -/
theorem insInner_list (h : Ord3 cf) (A : List α) (x : α) : ∀ (S Z : List α), Up cf S → ∃ S1 S2, S = S1 ++ S2 ∧ (∀ s ∈ S2, cf x s < 0) ∧ (∀ s ∈ S1, cf s x ≤ 0) ∧
    insInner (ltOf cf) A.length (A.length + S.length) (A ++ (S ++ x :: Z)).toArray = (A ++ (S1 ++ x :: (S2 ++ Z))).toArray := by
  intro S
  induction S using snoc_rec with
  | h0 =>
    intro Z _
    exact ⟨[], [], rfl, by simp, by simp, by rw [insInner_stop _ _ _ _ (.inl (by simp))]; simp⟩
  | hs S s ih =>
    intro Z hS
    have hS' := List.pairwise_append.1 hS
    by_cases hlt : cf x s < 0
    · obtain ⟨S1, S2, hS12, h2, h1, he⟩ := ih (s :: Z) hS'.1
      refine ⟨S1, S2 ++ [s], by rw [hS12, List.append_assoc], fun t ht => ?_, h1, ?_⟩
      · rcases List.mem_append.1 ht with ht | ht
        · exact h2 t ht
        · simp at ht; subst ht; exact hlt
      · have e1 : (A ++ ((S ++ [s]) ++ x :: Z)).toArray[A.length + (S ++ [s]).length]! = x := by
          have := get_mid (A ++ (S ++ [s])) Z x
          rw [List.append_assoc, List.length_append] at this
          exact this
        have e2 : (A ++ ((S ++ [s]) ++ x :: Z)).toArray[A.length + (S ++ [s]).length - 1]! = s := by
          have := get_mid (A ++ S) (x :: Z) s
          simpa [← Nat.add_assoc] using this
        rw [insInner_go _ _ _ _ (by simp) (by rw [e1, e2]; exact decide_eq_true hlt)]
        have hsw := swp_list' (A ++ S) [] Z s x (A.length + (S ++ [s]).length - 1) (A.length + (S ++ [s]).length) (by simp [← Nat.add_assoc]) (by simp [← Nat.add_assoc])
        simp only [List.nil_append, List.append_assoc] at hsw
        simp only [List.append_assoc, List.cons_append, List.nil_append]
        rw [hsw]
        simp only [List.length_append, List.length_cons, List.length_nil]
        rw [show A.length + (S.length + (0 + 1)) - 1 = A.length + S.length by omega]
        exact he
    · refine ⟨S ++ [s], [], by simp, by simp, fun t ht => ?_, ?_⟩
      · have hsx : cf s x ≤ 0 := by have := h.anti x s; omega
        rcases List.mem_append.1 ht with ht | ht
        · exact h.trans _ _ _ (hS'.2.2 t ht s (by simp)) hsx
        · simp at ht; subst ht; exact hsx
      · have e1 : (A ++ ((S ++ [s]) ++ x :: Z)).toArray[A.length + (S ++ [s]).length]! = x := by
          have := get_mid (A ++ (S ++ [s])) Z x
          rw [List.append_assoc, List.length_append] at this
          exact this
        have e2 : (A ++ ((S ++ [s]) ++ x :: Z)).toArray[A.length + (S ++ [s]).length - 1]! = s := by
          have := get_mid (A ++ S) (x :: Z) s
          simpa [← Nat.add_assoc] using this
        rw [insInner_stop _ _ _ _ (.inr (by rw [e1, e2]; exact decide_eq_false hlt))]
        rfl
theorem stab_ins (h : Ord3 cf) {l S1 S2 : List α} {x : α} (hs : Stab cf l (S1 ++ S2)) (h2 : ∀ s ∈ S2, cf x s < 0) (h1 : ∀ s ∈ S1, cf s x ≤ 0) : Stab cf (l ++ [x]) (S1 ++ x :: S2) := by
  have hp := List.pairwise_append.1 hs.srt
  have hc := stab_cross h (X1 := S1) (X2 := S2) (Y1 := [x]) (Y2 := []) (R1 := S1 ++ [x]) (R2 := S2) hs.srt (by simp [Up]) (by simp) (by simpa using h2) (stab_refl (List.pairwise_append.2 ⟨hp.1, by simp, fun a ha b hb => by simp at hb; subst hb; exact h1 a ha⟩)) (by rw [List.append_nil]; exact stab_refl hp.2.1)
  have := Stab.trans_app hs (stab_refl (by simp [Up] : Up cf [x])) (by simpa using hc)
  simpa using this
theorem insOuter_list (h : Ord3 cf) (A : List α) : ∀ (B l S Z : List α), Stab cf l S → ∃ S', Stab cf (l ++ B) S' ∧
    insOuter (ltOf cf) A.length (A.length + S.length + B.length) (A.length + S.length) (A ++ (S ++ (B ++ Z))).toArray = (A ++ (S' ++ Z)).toArray := by
  intro B
  induction B with
  | nil => intro l S Z hs; exact ⟨S, by simpa using hs, by rw [insOuter_stop _ _ _ _ _ (by simp)]; simp⟩
  | cons x B ih =>
    intro l S Z hs
    obtain ⟨S1, S2, hS12, h2, h1, he⟩ := insInner_list h A x S (B ++ Z) hs.srt
    subst hS12
    obtain ⟨S', hs', he'⟩ := ih (l ++ [x]) (S1 ++ x :: S2) Z (stab_ins h hs h2 h1)
    refine ⟨S', by simpa using hs', ?_⟩
    rw [insOuter_go _ _ _ _ _ (by simp)]
    have e : (A ++ ((S1 ++ S2) ++ (x :: B ++ Z))).toArray = (A ++ ((S1 ++ S2) ++ x :: (B ++ Z))).toArray := by simp
    rw [e, he]
    have e2 : (A ++ (S1 ++ x :: (S2 ++ (B ++ Z)))).toArray = (A ++ ((S1 ++ x :: S2) ++ (B ++ Z))).toArray := by simp
    rw [e2, ← he']
    congr 1 <;> simp <;> omega
/-- The insertion sort sorts stably. -/
theorem insertionSort_list (h : Ord3 cf) (A B Z : List α) (a b : Nat) (ha : a = A.length) (hb : b = A.length + B.length) : ∃ S, Stab cf B S ∧ insertionSort (ltOf cf) (A ++ (B ++ Z)).toArray a b = (A ++ (S ++ Z)).toArray := by
  subst ha hb
  unfold insertionSort
  cases B with
  | nil => exact ⟨[], stab_refl (by simp [Up]), by rw [insOuter_stop _ _ _ _ _ (by simp)]⟩
  | cons x B =>
    obtain ⟨S, hs, he⟩ := insOuter_list h A B [x] [x] Z (stab_refl (by simp [Up]))
    refine ⟨S, by simpa using hs, ?_⟩
    rw [← he]
    have e : A.length + (x :: B).length = A.length + [x].length + B.length := by simp; omega
    rw [e]
    rfl
/-! ### blocks -/
def BlkN (cf : α → α → Int) (n : Nat) : Nat → List α → List α → Prop
  | 0, l, S => l.length ≤ n ∧ Stab cf l S
  | k + 1, l, S => ∃ l1 S1 l2 L2 : List α, l = l1 ++ l2 ∧ S = S1 ++ L2 ∧ l1.length = n ∧ Stab cf l1 S1 ∧ BlkN cf n k l2 L2
def Blk (cf : α → α → Int) (n : Nat) (l S : List α) : Prop := ∃ k, BlkN cf n k l S
theorem Blk.last {n : Nat} {l S : List α} (h : l.length ≤ n) (s : Stab cf l S) : Blk cf n l S := ⟨0, h, s⟩
theorem Blk.more {n : Nat} {l1 S1 l2 L2 : List α} (h : l1.length = n) (s : Stab cf l1 S1) (b : Blk cf n l2 L2) : Blk cf n (l1 ++ l2) (S1 ++ L2) := by
  obtain ⟨k, b⟩ := b
  exact ⟨k + 1, l1, S1, l2, L2, rfl, rfl, h, s, b⟩
theorem Blk.two {n : Nat} {l S : List α} (h : Blk cf n l S) : (l.length ≤ n ∧ Stab cf l S) ∨ ∃ l1 S1 l2 L2 : List α, l = l1 ++ l2 ∧ S = S1 ++ L2 ∧ l1.length = n ∧ Stab cf l1 S1 ∧ Blk cf n l2 L2 := by
  obtain ⟨k, h⟩ := h
  cases k with
  | zero => exact .inl h
  | succ k => obtain ⟨l1, S1, l2, L2, e1, e2, h1, s, b⟩ := h; exact .inr ⟨l1, S1, l2, L2, e1, e2, h1, s, k, b⟩
def DoneN (cf : α → α → Int) (n : Nat) : Nat → List α → List α → Prop
  | 0, l, L => l = [] ∧ L = []
  | k + 1, l', L' => ∃ l L l1 S1 : List α, l' = l ++ l1 ∧ L' = L ++ S1 ∧ DoneN cf n k l L ∧ l1.length = n ∧ Stab cf l1 S1
def Done (cf : α → α → Int) (n : Nat) (l L : List α) : Prop := ∃ k, DoneN cf n k l L
theorem Done.none {n : Nat} : Done cf n [] [] := ⟨0, rfl, rfl⟩
theorem Done.snoc {n : Nat} {l L l1 S1 : List α} (d : Done cf n l L) (h : l1.length = n) (s : Stab cf l1 S1) : Done cf n (l ++ l1) (L ++ S1) := by
  obtain ⟨k, d⟩ := d
  exact ⟨k + 1, l, L, l1, S1, rfl, rfl, d, h, s⟩
theorem blk_perm {n : Nat} {l L : List α} (h : Blk cf n l L) : L.Perm l := by
  obtain ⟨k, h⟩ := h
  induction k generalizing l L with
  | zero => exact h.2.perm
  | succ k ih => obtain ⟨l1, S1, l2, L2, rfl, rfl, h1, s, b⟩ := h; exact s.perm.append (ih b)
theorem blk_one {n : Nat} {l L : List α} (h : Blk cf n l L) (hl : L.length ≤ n) : Stab cf l L := by
  rcases h.two with ⟨_, s⟩ | ⟨l1, S1, l2, L2, rfl, rfl, h1, s, h2⟩
  · exact s
  · have e1 := s.perm.length_eq
    have e2 := (blk_perm h2).length_eq
    rw [List.length_append] at hl
    have h3 : L2 = [] := List.eq_nil_of_length_eq_zero (by omega)
    have h4 : l2 = [] := List.eq_nil_of_length_eq_zero (by omega)
    subst h3 h4
    simpa using s
theorem blk_cut {n : Nat} {r R : List α} (h : Blk cf n r R) (hl : n < R.length) : ∃ r1 r2 S1 R2, r = r1 ++ r2 ∧ R = S1 ++ R2 ∧ S1.length = n ∧ r1.length = n ∧ Stab cf r1 S1 ∧ Blk cf n r2 R2 := by
  rcases h.two with ⟨h1, s⟩ | ⟨l1, S1, l2, L2, rfl, rfl, h1, s, h2⟩
  · have := s.perm.length_eq; omega
  · exact ⟨_, _, _, _, rfl, rfl, by have := s.perm.length_eq; omega, h1, s, h2⟩
theorem blk_two {n : Nat} {r R : List α} (hn : 0 < n) (h : Blk cf n r R) (hl : 2 * n ≤ R.length) : ∃ r1 r2 r3 S1 S2 R3, r = r1 ++ r2 ++ r3 ∧ R = S1 ++ (S2 ++ R3) ∧ S1.length = n ∧ S2.length = n ∧ r1.length = n ∧ r2.length = n ∧ Stab cf r1 S1 ∧ Stab cf r2 S2 ∧ Blk cf n r3 R3 := by
  obtain ⟨r1, r', S1, R', rfl, rfl, e1, e2, s1, b1⟩ := blk_cut h (by omega)
  rw [List.length_append] at hl
  by_cases hm : n < R'.length
  · obtain ⟨r2, r3, S2, R3, rfl, rfl, e3, e4, s2, b2⟩ := blk_cut b1 hm
    exact ⟨r1, r2, r3, S1, S2, R3, by simp, rfl, e1, e3, e2, e4, s1, s2, b2⟩
  · have s2 := blk_one b1 (by omega)
    have := s2.perm.length_eq
    exact ⟨r1, r', [], S1, R', [], by simp, by simp, e1, by omega, e2, by omega, s1, s2, .last (by simp) (stab_refl (by simp [Up]))⟩
theorem done_blk {n : Nat} {l L : List α} (h : Done cf n l L) : ∀ {r R : List α}, Blk cf n r R → Blk cf n (l ++ r) (L ++ R) := by
  obtain ⟨k, h⟩ := h
  induction k generalizing l L with
  | zero => obtain ⟨rfl, rfl⟩ := h; intro r R hb; exact hb
  | succ k ih => obtain ⟨l0, L0, l1, S1, rfl, rfl, d, h1, s⟩ := h; intro r R hb; rw [List.append_assoc, List.append_assoc]; exact ih d (.more h1 s hb)
/-! ### a search by halves -/
/-- What a search by halves finds: the first place at which the test holds. -/
theorem up_split (h : Ord3 cf) {Y : List α} (hY : Up cf Y) (i : Nat) (x : α) (hi : i ≤ Y.length) (h1 : 0 < i → cf Y[i - 1]! x < 0) : ∀ y ∈ Y.take i, cf y x < 0 := by
  intro y hy
  obtain ⟨j, hj, rfl⟩ := List.getElem_of_mem hy
  rw [List.length_take] at hj
  rw [List.getElem_take]
  have h2 := h1 (by omega)
  rw [getElem!_pos Y (i - 1) (by omega)] at h2
  by_cases e : j = i - 1
  · subst e; exact h2
  · exact h.lelt (List.pairwise_iff_getElem.1 hY j (i - 1) (by omega) (by omega) (by omega)) h2
theorem up_split_le (h : Ord3 cf) {Y : List α} (hY : Up cf Y) (i : Nat) (x : α) (hi : i ≤ Y.length) (h1 : 0 < i → cf Y[i - 1]! x ≤ 0) : ∀ y ∈ Y.take i, cf y x ≤ 0 := by
  intro y hy
  obtain ⟨j, hj, rfl⟩ := List.getElem_of_mem hy
  rw [List.length_take] at hj
  rw [List.getElem_take]
  have h2 := h1 (by omega)
  rw [getElem!_pos Y (i - 1) (by omega)] at h2
  by_cases e : j = i - 1
  · subst e; exact h2
  · exact h.trans _ _ _ (List.pairwise_iff_getElem.1 hY j (i - 1) (by omega) (by omega) (by omega)) h2
theorem up_rest (h : Ord3 cf) {Y : List α} (hY : Up cf Y) (i : Nat) (x : α) (h1 : i < Y.length → cf x Y[i]! ≤ 0) : ∀ y ∈ Y.drop i, cf x y ≤ 0 := by
  intro y hy
  obtain ⟨j, hj, rfl⟩ := List.getElem_of_mem hy
  rw [List.length_drop] at hj
  rw [List.getElem_drop]
  have h2 := h1 (by omega)
  rw [getElem!_pos Y i (by omega)] at h2
  by_cases e : j = 0
  · subst e; simpa using h2
  · exact h.trans _ _ _ h2 (List.pairwise_iff_getElem.1 hY i (i + j) (by omega) (by omega) (by omega))
theorem up_rest_lt (h : Ord3 cf) {Y : List α} (hY : Up cf Y) (i : Nat) (x : α) (h1 : i < Y.length → cf x Y[i]! < 0) : ∀ y ∈ Y.drop i, cf x y < 0 := by
  intro y hy
  obtain ⟨j, hj, rfl⟩ := List.getElem_of_mem hy
  rw [List.length_drop] at hj
  rw [List.getElem_drop]
  have h2 := h1 (by omega)
  rw [getElem!_pos Y i (by omega)] at h2
  by_cases e : j = 0
  · subst e; simpa using h2
  · exact h.ltle h2 (List.pairwise_iff_getElem.1 hY i (i + j) (by omega) (by omega) (by omega))
end
end Go.Proofs.YtecacjddggljgaaDoor

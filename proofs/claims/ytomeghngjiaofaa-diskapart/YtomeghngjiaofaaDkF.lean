/-
  slices.DeleteFunc at pieces, disk's forget.
-/
import Derived.Test.YtomeghngjiaofaaDkO
import Derived.Lib.LazyBuf
import Derived.LaidEqlPtr
namespace Go.Proofs.Ytomeghngjiaofaa
open Go.RowKit
/-- A block of cells lies there. -/
def Bk (w : World) (k : Nat) : Prop := ∃ c t, w.heap[k]? = some (.cells c t (0, 0))
theorem Bk.below {w w' : World} {k : Nat} (h : Bk w k) (hb : Below w.heap.size w w') : Bk w' k := by
  obtain ⟨c, t, e⟩ := h
  exact ⟨c, t, by rw [hb.block k (heap_lt e)]; exact e⟩
theorem info77 : (Try.prog.info? 77).map (fun i => i.size) = some 2 := by kernel_rfl
theorem eql_ptr (w : World) (q h : Nat) (hq : Bk w q) (hh : Bk w h) : (binOp .eql 74 (.pointer (some ⟨q, 0, none⟩)) (.pointer (some ⟨h, 0, none⟩))).run Try.prog w = .ok (.bool (decide (q = h))) w := by
  obtain ⟨i, hi, hsz⟩ : ∃ i, Try.prog.info? 77 = some i ∧ i.size = 2 := by
    have := info77
    cases hx : Try.prog.info? 77 with
    | none => rw [hx] at this; cases this
    | some i => rw [hx] at this; exact ⟨i, rfl, by simpa using this⟩
  by_cases e : q = h
  · subst e
    rw [run_eql_ptr_same w _ Try.underlying74 hi]; simp
  · obtain ⟨c1, t1, e1⟩ := hq
    obtain ⟨c2, t2, e2⟩ := hh
    rw [run_eql_ptr_other w Try.underlying74 hi (by rw [hsz]; decide) (fun q' => e (by injection q')) e1 e2, decide_eq_false e]
theorem neq_ptr (w : World) (q h : Nat) (hq : Bk w q) (hh : Bk w h) : (binOp .neq 74 (.pointer (some ⟨q, 0, none⟩)) (.pointer (some ⟨h, 0, none⟩))).run Try.prog w = .ok (.bool (!decide (q = h))) w := by
  have h1 := eql_ptr w q h hq hh
  simp only [binOp] at h1 ⊢
  revert h1
  cases hx : (Op.equal 74 (.pointer (some ⟨q, 0, none⟩)) (.pointer (some ⟨h, 0, none⟩))).run Try.prog w <;> simp [hx]
set_option maxRecDepth 100000 in
theorem isf_any (q c bx h : Nat) (w : World) (hc : w.cell? ⟨bx, 0, none⟩ = some (.pointer (some ⟨h, 0, none⟩))) (hq : Bk w q) (hh : Bk w h) :
    Calls Try.prog 61 #[.agg #[.pointer (some ⟨q, 0, none⟩), .int .i64 (c : Int)], .pointer (some ⟨bx, 0, none⟩)] w fun e w' => e = .returned (.bool (decide (q = h))) ∧ Below w.heap.size w w' := by
  have hlt := World.block_lt_of_cell? w _ hc
  have hc1 : (w.alloc (.cells #[.pointer (some ⟨q, 0, none⟩), .int .i64 (c : Int)] 79)).cell? ⟨bx, 0, none⟩ = some (.pointer (some ⟨h, 0, none⟩)) := ((bel_alloc w _).cell (p := ⟨bx, 0, none⟩) hlt).trans hc
  have heq := eql_ptr (w.alloc (.cells #[.pointer (some ⟨q, 0, none⟩), .int .i64 (c : Int)] 79)) q h (hq.below (bel_alloc _ _)) (hh.below (bel_alloc _ _))
  clear hlt hc hq hh
  go_enter Try.func61, Try.ntmps61
  go_wp2
  go_ret
  exact ⟨rfl, bel_alloc _ _⟩
def isP (h : Nat) (p : Nat × Nat) : Bool := decide (p.1 = h)
def firstP (h : Nat) (l : List (Nat × Nat)) : Nat := l.findIdx (isP h)
def ndP (h : Nat) (l : List (Nat × Nat)) : List (Nat × Nat) := l.filter fun p => !isP h p
abbrev pcI (l : List (Nat × Nat)) : List Value := pcC (fun i => i) l
theorem firstP_at {h : Nat} {l : List (Nat × Nat)} {i : Nat} (hi : i < l.length) (e : isP h l[i]! = true) (hb : ∀ j, j < i → isP h l[j]! = false) : firstP h l = i := by
  unfold firstP
  rw [List.findIdx_eq hi]
  refine ⟨by rw [getElem!_pos l i hi] at e; exact e, fun j hj => ?_⟩
  have := hb j hj
  rw [getElem!_pos l j (by omega)] at this
  exact this
theorem firstP_none {h : Nat} {l : List (Nat × Nat)} (hb : ∀ j, j < l.length → isP h l[j]! = false) : firstP h l = l.length := by
  unfold firstP
  rw [List.findIdx_eq_length]
  intro x hx
  obtain ⟨i, hi, rfl⟩ := List.getElem_of_mem hx
  have := hb i hi
  rwa [getElem!_pos l i hi] at this
theorem firstP_before {h : Nat} {l : List (Nat × Nat)} {j : Nat} (e : j < firstP h l) : j < l.length ∧ isP h l[j]! = false := by
  unfold firstP at e
  have hl : j < l.length := Nat.lt_of_lt_of_le e List.findIdx_le_length
  refine ⟨hl, ?_⟩
  have := List.not_of_lt_findIdx e
  rw [getElem!_pos l j hl]
  simpa using this
theorem firstP_is {h : Nat} {l : List (Nat × Nat)} (e : firstP h l < l.length) : isP h l[firstP h l]! = true := by
  rw [getElem!_pos l _ e]
  exact List.findIdx_getElem (w := e)
theorem ndP_all {h : Nat} {l : List (Nat × Nat)} (e : ∀ j, j < l.length → isP h l[j]! = false) : ndP h l = l := by
  unfold ndP
  rw [List.filter_eq_self]
  intro x hx
  obtain ⟨i, hi, rfl⟩ := List.getElem_of_mem hx
  have := e i hi
  rw [getElem!_pos l i hi] at this
  simp [this]
theorem ndP_snoc (h : Nat) (l : List (Nat × Nat)) (j : Nat) (hj : j < l.length) (x : Nat × Nat) (hx : l[j]! = x) : ndP h (l.take (j + 1)) = ndP h (l.take j) ++ (if isP h x then [] else [x]) := by
  unfold ndP
  rw [List.take_add_one, List.filter_append, List.getElem?_eq_getElem hj]
  rw [getElem!_pos l j hj] at hx
  rw [hx]
  cases hd : isP h x <;> simp [hd]
theorem ndP_first (h : Nat) (l : List (Nat × Nat)) : ndP h (l.take (firstP h l)) = l.take (firstP h l) := by
  refine ndP_all fun j hj => ?_
  rw [List.length_take] at hj
  obtain ⟨h1, h2⟩ := firstP_before (h := h) (l := l) (j := j) (by omega)
  rw [getElem!_pos _ j (by rw [List.length_take]; omega), List.getElem_take]
  rwa [getElem!_pos l j h1] at h2
theorem rowP_at (F es : List (Nat × Nat)) (j : Nat) (hF : F.length ≤ j) (hj : j < es.length) : (F ++ es.drop F.length)[j]! = es[j]! := by
  rw [getElem!_pos (F ++ es.drop F.length) j (by rw [List.length_append, List.length_drop]; omega), getElem!_pos es j hj, List.getElem_append_right hF, List.getElem_drop]
  congr 1
  omega
theorem rowP_set (F es : List (Nat × Nat)) (x : Nat × Nat) (hF : F.length < es.length) : (F ++ es.drop F.length).set F.length x = (F ++ [x]) ++ es.drop (F ++ [x]).length := by
  rw [List.set_append_right _ _ (Nat.le_refl _), Nat.sub_self, List.drop_eq_getElem_cons hF, List.set_cons_zero, List.length_append, List.length_singleton, List.append_assoc]
  rfl
theorem pcI_two {w : World} {base g n cap : Nat} {l : List (Nat × Nat)} (h : w.ownsRow base 79 2 (.slice (some ⟨g, 0, none⟩) n cap) n (pcI l)) {j q c : Nat} (hj : j < l.length) (e : l[j]! = (q, c)) : w.cell? ⟨g, j * 2, none⟩ = some (.pointer (some ⟨q, 0, none⟩)) ∧ w.cell? ⟨g, j * 2 + 1, none⟩ = some (.int .i64 (c : Int)) := by
  rw [getElem!_pos l j hj] at e
  obtain ⟨a, b⟩ := pcC_at (fun i => i) l j (q, c) (by rw [List.getElem?_eq_getElem hj, e])
  have h1 := h.cells (g := g) rfl _ _ a
  have h2 := h.cells (g := g) rfl _ _ b
  rw [Addr.add_lit, Nat.zero_add] at h1 h2
  exact ⟨h1, h2⟩
theorem pcI_own {w : World} {base g n cap : Nat} {l : List (Nat × Nat)} (h : w.ownsRow base 79 2 (.slice (some ⟨g, 0, none⟩) n cap) n (pcI l)) : base ≤ g ∧ g < w.heap.size ∧ n ≤ cap ∧ cap ≤ maxLen ∧ l.length = n ∧ (∀ j, w.frozen? ⟨g, j, none⟩ = false) := by
  have hl : l.length = n := by have := h.1; rw [pcC_len] at this; omega
  refine ⟨?_, ?_, ?_, ?_, hl, fun j => h.frozenAt j⟩
  all_goals
    rcases h.2 with ⟨h', _⟩ | ⟨g', cap', cur, h', hb, hg, hnc, hcm, hcs, htake⟩
    · simp at h'
    · simp only [Value.slice.injEq, Option.some.injEq, Addr.mk.injEq, and_true, true_and] at h'
      obtain ⟨rfl, rfl⟩ := h'
      first | exact hb | exact (Array.getElem?_eq_some_iff.1 hg).1 | exact hnc | exact hcm
set_option maxRecDepth 100000 in
set_option maxHeartbeats 2000000 in
theorem indexP_any (base g n cap bx h : Nat) (l : List (Nat × Nat)) (w : World) (hE : w.ownsRow base 79 2 (.slice (some ⟨g, 0, none⟩) n cap) n (pcI l)) (hc : w.cell? ⟨bx, 0, none⟩ = some (.pointer (some ⟨h, 0, none⟩))) (hbig : n ≤ 1000000) (hL : ∀ p ∈ l, Bk w p.1) (hh : Bk w h) :
    Calls Try.prog 65 #[.slice (some ⟨g, 0, none⟩) n cap, .func (.func 61) #[] #[.pointer (some ⟨bx, 0, none⟩)]] w fun e w' => e = .returned (.int .i64 (if firstP h l < n then (firstP h l : Int) else -1)) ∧ Below w.heap.size w w' := by
  have HE : Hid (w.ownsRow base 79 2 (.slice (some ⟨g, 0, none⟩) n cap) n (pcI l)) := hE
  have HLN : Hid (l.length = n) := (pcI_own hE).2.2.2.2.1
  have HC : Hid (w.cell? ⟨bx, 0, none⟩ = some (.pointer (some ⟨h, 0, none⟩))) := hc
  have HBX : Hid (bx < w.heap.size) := World.block_lt_of_cell? w _ hc
  have HL : Hid (∀ p ∈ l, Bk w p.1) := hL
  have HH : Hid (Bk w h) := hh
  clear hE hc hL hh
  obtain ⟨r, HRV⟩ : ∃ r : Int, Hid ((if firstP h l < n then (firstP h l : Int) else -1) = r) := ⟨_, rfl⟩
  rw [HRV.out]
  go_enter Try.func65, Try.ntmps65
  go_wp2
  go_loopw [5, 8] (fun _ x wr => ∃ i : Nat, x = .int .i64 i ∧ i ≤ n ∧ Hid (∀ j, j < i → isP h l[j]! = false) ∧ Below w.heap.size w wr) (fun _ x _ => n - (intOf x).toNat)
  case atStart => exact ⟨0, rfl, by omega, fun j hj => absurd hj (by omega), Below.refl _ _⟩
  case round =>
    obtain ⟨i, rfl, hin, HF, hbr⟩ := hrel
    have HBR : Hid (Below w.heap.size w wr) := hbr
    by_cases hlt : i < n
    · have hltz : (i : Int) < (n : Int) := by omega
      obtain ⟨q0, c0, HX⟩ : ∃ q0 c0, Hid (l[i]! = (q0, c0)) := ⟨_, _, rfl⟩
      obtain ⟨e0, e1⟩ := pcI_two (own_below HE.out hbr (Nat.le_refl _)) (by rw [HLN.out]; exact hlt) HX.out
      have HCR : Hid (wr.cell? ⟨bx, 0, none⟩ = some (.pointer (some ⟨h, 0, none⟩))) := (hbr.cell (p := ⟨bx, 0, none⟩) HBX.out).trans HC.out
      have HQ : Hid (Bk wr q0) := (HL.out (q0, c0) (by have := HX.out; rw [getElem!_pos l i (by rw [HLN.out]; exact hlt)] at this; rw [← this]; exact List.getElem_mem _)).below hbr
      have HHR : Hid (Bk wr h) := HH.out.below hbr
      clear hbr
      go_wp2_with fail
      refine (isf_any q0 c0 bx h _ HCR.out HQ.out HHR.out).mono ?_
      rintro e w2 ⟨rfl, hb2⟩
      have HB2 : Hid (Below w.heap.size w w2) := HBR.out.trans (hb2.mono HBR.out.size)
      clear hb2 e0 e1
      cases hd : decide (q0 = h) with
      | true =>
        have HR : Hid (r = (i : Int)) := by
          show _ = _
          rw [← HRV.out, firstP_at (by rw [HLN.out]; exact hlt) (by rw [HX.out]; exact hd) HF.out, if_pos hlt]
        go_wp2
        go_ret
        exact ⟨by rw [HR.out]; rfl, HB2.out⟩
      | false =>
        have HF2 : Hid (∀ j, j < i + 1 → isP h l[j]! = false) := by
          show ∀ _, _
          intro j hj
          by_cases hji : j < i
          · exact HF.out j hji
          · rw [show j = i by omega, HX.out]; exact hd
        clear HF
        go_wp2
        go_roundw
        case rel => exact ⟨i + 1, by go_num, by omega, HF2, HB2.out⟩
        case measure => simp [intOf]; omega
    · have hltz : ¬ (i : Int) < (n : Int) := by omega
      have HR : Hid (r = -1) := by
        show _ = _
        rw [← HRV.out, firstP_none (fun j hj => HF.out j (by have := HLN.out; omega)), HLN.out, if_neg (by omega)]
      clear hbr
      go_wp2
      go_ret
      exact ⟨by rw [HR.out]; rfl, HBR.out⟩
set_option maxRecDepth 100000 in
theorem indexP_nil (bx : Nat) (w : World) : Calls Try.prog 65 #[.slice none 0 0, .func (.func 61) #[] #[.pointer (some ⟨bx, 0, none⟩)]] w fun e w' => e = .returned (.int .i64 (-1)) ∧ w' = w := by
  go_enter Try.func65, Try.ntmps65
  go_wp2
  go_loopw [5, 8] (fun _ x wr => x = .int .i64 0 ∧ wr = w) (fun _ _ _ => 0)
  case atStart => exact ⟨rfl, rfl⟩
  case round =>
    obtain ⟨rfl, rfl⟩ := hrel
    go_wp2
    go_ret
    exact ⟨rfl, rfl⟩
end Go.Proofs.Ytomeghngjiaofaa

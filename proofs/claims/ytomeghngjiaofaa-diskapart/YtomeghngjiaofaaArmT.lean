/-
  Two disks that lie apart; law07's texts.
-/
import Derived.Test.YtomeghngjiaofaaArmM
import Derived.Test.YtomeghngjiaofaaNamM
namespace Go.Proofs.Ytomeghngjiaofaa
open Go.RowKit Go.Maps Go.Sort Go.WideMaps
/-- Two disks that lie apart, both within C. -/
def Two (C : Nat → Prop) (w : World) (ga gb : Nat) (DA DB : Dk) (N : Nat) : Prop := ∃ PA PB : Nat → Prop, DiskAt PA w ga DA N ∧ DiskAt PB w gb DB N ∧ (∀ k, PA k → ¬ PB k) ∧ (∀ k, PA k → C k ∧ k < w.heap.size) ∧ (∀ k, PB k → C k ∧ k < w.heap.size)
section
variable {C : Nat → Prop} {w : World} {ga gb : Nat} {DA DB DA' DB' : Dk} {N : Nat}
theorem Two.swap (h : Two C w ga gb DA DB N) : Two C w gb ga DB DA N := by
  obtain ⟨PA, PB, h1, h2, h3, h4, h5⟩ := h
  exact ⟨PB, PA, h2, h1, fun k a b => h3 k b a, h5, h4⟩
theorem two_A {f : FuncId} {args : Array Value} {E : Ending} (h : Two C w ga gb DA DB N) (hC : ∀ k, w.heap.size ≤ k → C k) (hop : ∀ own : Nat → Prop, (∀ k, own k → C k) → DiskAt own w ga DA N → Calls Try.prog f args w fun e w' => e = E ∧ DiskAt (grow own w) w' ga DA' (N + 1) ∧ Only own w w') :
    Calls Try.prog f args w fun e w' => e = E ∧ Two C w' ga gb DA' DB (N + 1) ∧ Only C w w' := by
  obtain ⟨PA, PB, h1, h2, h3, h4, h5⟩ := h
  refine (hop PA (fun k e => (h4 k e).1) h1).mono ?_
  rintro e w' ⟨rfl, hd, ho⟩
  refine ⟨rfl, ⟨here (grow PA w) w', PB, hd.now, (h2.keep (fun k hk e => ho.block k hk (fun q => h3 k q e))).mono (fun _ _ e => e) (Nat.le_succ _), ?_, ?_, ?_⟩, ho.mono (fun k e => .inl (h4 k e).1)⟩
  · intro k e q
    rcases e.1 with a | a
    · exact h3 k a q
    · have := (h5 k q).2; omega
  · intro k e
    refine ⟨?_, e.2⟩
    rcases e.1 with a | a
    · exact (h4 k a).1
    · exact hC k a
  · intro k e
    exact ⟨(h5 k e).1, Nat.lt_of_lt_of_le (h5 k e).2 ho.size⟩
theorem two_B {f : FuncId} {args : Array Value} {E : Ending} (h : Two C w ga gb DA DB N) (hC : ∀ k, w.heap.size ≤ k → C k) (hop : ∀ own : Nat → Prop, (∀ k, own k → C k) → DiskAt own w gb DB N → Calls Try.prog f args w fun e w' => e = E ∧ DiskAt (grow own w) w' gb DB' (N + 1) ∧ Only own w w') :
    Calls Try.prog f args w fun e w' => e = E ∧ Two C w' ga gb DA DB' (N + 1) ∧ Only C w w' := by
  refine (two_A h.swap hC hop).mono ?_
  rintro e w' ⟨rfl, a, b⟩
  exact ⟨rfl, a.swap, b⟩
theorem Two.keep (h : Two C w ga gb DA DB N) {w' : World} (hs : w.heap.size ≤ w'.heap.size) (hb : ∀ k, k < w.heap.size → C k → w'.heap[k]? = w.heap[k]?) : Two C w' ga gb DA DB N := by
  obtain ⟨PA, PB, h1, h2, h3, h4, h5⟩ := h
  exact ⟨PA, PB, h1.keep (fun k hk e => hb k hk (h4 k e).1), h2.keep (fun k hk e => hb k hk (h5 k e).1), h3, fun k e => ⟨(h4 k e).1, Nat.lt_of_lt_of_le (h4 k e).2 hs⟩, fun k e => ⟨(h5 k e).1, Nat.lt_of_lt_of_le (h5 k e).2 hs⟩⟩
theorem Two.mono (h : Two C w ga gb DA DB N) {C' : Nat → Prop} (hC : ∀ k, k < w.heap.size → C k → C' k) {N' : Nat} (hN : N ≤ N') : Two C' w ga gb DA DB N' := by
  obtain ⟨PA, PB, h1, h2, h3, h4, h5⟩ := h
  exact ⟨PA, PB, h1.mono (fun _ _ e => e) hN, h2.mono (fun _ _ e => e) hN, h3, fun k e => ⟨hC k (h4 k e).2 (h4 k e).1, (h4 k e).2⟩, fun k e => ⟨hC k (h5 k e).2 (h5 k e).1, (h5 k e).2⟩⟩
theorem Two.now (h : Two C w ga gb DA DB N) : Two (here C w) w ga gb DA DB N := h.mono (fun _ hk e => ⟨e, hk⟩) (Nat.le_refl _)
theorem Two.grown (h : Two C w ga gb DA DB N) {w' : World} (hb : Below w.heap.size w w') : Two C w' ga gb DA DB N := h.keep hb.size (fun k hk _ => hb.block k hk)
theorem Two.a (h : Two C w ga gb DA DB N) : ∃ PA, DiskAt PA w ga DA N := by
  obtain ⟨PA, PB, h1, h2, h3, h4, h5⟩ := h
  exact ⟨PA, h1⟩
end
theorem names_good {A : Dk} (h : A.wf) : ∀ x ∈ A.L, x.nm.size ≤ maxLen := fun x hx => by
  have := h.good x hx
  unfold badName at this
  simp only [Bool.or_eq_false_iff, decide_eq_false_iff_not] at this
  unfold maxLen
  omega
theorem DiskAt.list_len {own : Nat → Prop} {w : World} {g : Nat} {A : Dk} {N : Nat} (h : DiskAt own w g A N) : A.list.length ≤ N := by
  obtain ⟨hwf, hpl, m, n, uo, uc, blk, bv, hnN, hin⟩ := h
  unfold Dk.list
  split
  · exact Nat.zero_le _
  · rw [namesL_len]
    obtain ⟨D, hown, hperm⟩ := hin.files.keys hwf.nms (names_good hwf)
    have h5 := hperm.length_eq
    rw [List.length_map] at h5
    have h6 := hown.size_le
    have h7 : (strKeys D).length = Maps.size D := by
      obtain ⟨es, rfl, -⟩ := hown.tidy (string_keyed Try.underlying9)
      simp [strKeys, Maps.size]
    omega
theorem list_small {A : Dk} (h : A.wf) : ∀ s ∈ A.list.map bS, s.size ≤ maxLen := by
  intro s hs
  obtain ⟨l, hl, rfl⟩ := List.mem_map.1 hs
  unfold Dk.list at hl
  split at hl
  · cases hl
  · unfold namesL at hl
    have h1 := (List.mergeSort_perm _ _).mem_iff.1 hl
    obtain ⟨x, hx, rfl⟩ := List.mem_map.1 h1
    rw [bS_size]
    show x.nm.data.toList.length ≤ _
    rw [Array.length_toList]
    exact names_good h x hx
/-- A row of texts. -/
def StrsAt (w : World) (o : Option Addr) (l : List ByteArray) : Prop := ∀ j s, l[j]? = some s → ∃ g, o = some ⟨g, 0, none⟩ ∧ w.cell? ⟨g, j, none⟩ = some (.string s)
theorem StrsAt.below {w w' : World} {o : Option Addr} {l : List ByteArray} (h : StrsAt w o l) (hb : Below w.heap.size w w') : StrsAt w' o l := fun j s hs => by
  obtain ⟨g, e, hc⟩ := h j s hs
  exact ⟨g, e, (hb.cell (p := ⟨g, j, none⟩) (World.block_lt_of_cell? w _ hc)).trans hc⟩
theorem strs_of {w : World} {B : Nat} {v : Value} {l : List (List UInt8)} (h : w.ownsRow B 9 1 v l.length (l.map encStr)) : ∃ o c, v = .slice o l.length c ∧ StrsAt w o (l.map bS) := by
  rcases h.2 with ⟨rfl, h0⟩ | ⟨g, cap, cur, rfl, rest⟩
  · have : l = [] := List.length_eq_zero_iff.1 h0
    subst this
    exact ⟨none, 0, rfl, fun j s hs => by simp at hs⟩
  · refine ⟨_, _, rfl, fun j s hs => ⟨g, rfl, ?_⟩⟩
    rw [List.getElem?_map] at hs
    cases hl : l[j]? with
    | none => rw [hl] at hs; cases hs
    | some x =>
      rw [hl] at hs
      cases hs
      have h1 : (l.map encStr)[j]? = some (encStr x) := by rw [List.getElem?_map, hl]; rfl
      have h2 := h.cells (g := g) rfl j _ h1
      rw [Addr.add_lit, Nat.zero_add] at h2
      exact h2
set_option maxRecDepth 100000 in
theorem texts_same (o1 o2 : Option Addr) (n c1 c2 : Nat) (l : List ByteArray) (w : World) (hl : l.length = n) (h1 : StrsAt w o1 l) (h2 : StrsAt w o2 l) (hn : n ≤ 1000000000) :
    Calls Try.prog 34 #[.slice o1 n c1, .slice o2 n c2] w fun e w' => e = .returned (.bool true) ∧ ∃ k, w' = w.drewN k := by
  have H1 : Hid (StrsAt w o1 l) := h1
  have H2 : Hid (StrsAt w o2 l) := h2
  have HL : Hid (l.length = n) := hl
  have HN : Hid (n ≤ 1000000000) := hn
  clear h1 h2 hl hn
  go_enter Try.func34, Try.ntmps34
  go_wp2_with fail
  go_loopw [5] (fun v wr => ∃ i k : Nat, v = .int .i64 i ∧ Hid (i ≤ n) ∧ Hid (wr = w.drewN k)) (fun v _ => n - (intOf v).toNat)
  case atStart => exact ⟨0, 0, rfl, Nat.zero_le _, rfl⟩
  case round =>
    obtain ⟨i, k, rfl, HI, HW⟩ := hrel
    by_cases hi : i < n
    · obtain ⟨s, hs⟩ : ∃ s, l[i]? = some s := ⟨l[i]'(by rw [HL.out]; exact hi), by simp⟩
      obtain ⟨g1, rfl, k1⟩ := H1.out i s hs
      obtain ⟨g2, rfl, k2⟩ := H2.out i s hs
      have q1 : wr.cell? ⟨g1, i, none⟩ = some (.string s) := by rw [HW.out]; exact (World.cell?_of_block (a := ⟨g1, i, none⟩) (by rw [heap_drewN])).trans k1
      have q2 : wr.cell? ⟨g2, i, none⟩ = some (.string s) := by rw [HW.out]; exact (World.cell?_of_block (a := ⟨g2, i, none⟩) (by rw [heap_drewN])).trans k2
      have hi' : (i : Int) < (n : Int) := Int.ofNat_lt.2 hi
      have hi0 : (0 : Int) ≤ (i : Int) := Int.natCast_nonneg _
      have HIL : Hid (i < n) := hi
      have HINC : Hid (wrap64 ((i : Int) + 1) = ((i + 1 : Nat) : Int)) := winc (by have := HN.out; omega)
      clear hs k1 k2 hi
      go_wp2_with fail
      go_quiet (fail)
      have HW2 : Hid (wr.drewN nq = w.drewN (k + nq)) := by
        show _ = _
        rw [HW.out]
        exact World.drewN_drewN w k nq
      clear q1 q2
      have hinc := HINC.out
      go_wp2_with fail
      go_roundw
      case rel => exact ⟨i + 1, k + nq, by first | rfl | rw [hinc], HIL.out, HW2⟩
      case measure => first | exact meas_up HIL.out | (rw [hinc]; exact meas_up HIL.out)
    · have hi' : ¬ (i : Int) < (n : Int) := fun e => hi (Int.ofNat_lt.1 e)
      clear hi
      go_wp2_with fail
      go_ret
      exact ⟨rfl, k, HW.out⟩
end Go.Proofs.Ytomeghngjiaofaa

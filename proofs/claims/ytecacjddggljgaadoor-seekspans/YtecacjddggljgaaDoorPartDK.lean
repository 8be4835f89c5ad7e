/-
  What marlstonelaw05.small and marlstonelaw06.small answer: contracts over this translation. What the law's span answers: a contract over this translation.
-/
import Derived.Test.YtecacjddggljgaaDoorPartBH
import Derived.Test.YtecacjddggljgaaDoorPartCC
import Derived.Test.YtecacjddggljgaaDoorPartDH
namespace Go.Proofs.YtecacjddggljgaaDoor.Sm
open Go.RowKit
theorem info36 : (Tryd.prog.info? 27).map (fun i => (i.zero, i.size, i.bytes)) = some (some (.slice none 0 0), 1, 24) := by kernel_rfl
/-- The first n pieces, the first m bytes of each. -/
def cutL (ps : List PP) (n m : Nat) : List (List UInt8) := (ps.take n).map fun p => p.bs.take m
theorem cutL_succ (ps : List PP) (k m : Nat) (p : PP) (h : ps[k]? = some p) : cutL ps (k + 1) m = cutL ps k m ++ [p.bs.take m] := by
  unfold cutL; rw [List.take_add_one, h]; simp
theorem cutL_more (ps : List PP) (k c m : Nat) (h1 : ps.length ≤ k) (h2 : k ≤ c) : cutL ps k m = cutL ps c m := by
  unfold cutL; rw [List.take_of_length_le h1, List.take_of_length_le (by omega)]
theorem cutL_len (ps : List PP) (k m : Nat) : (cutL ps k m).length = min k ps.length := by unfold cutL; simp
theorem bytesL_append (a b : List LV) : bytesL (a ++ b) = bytesL a ++ bytesL b := by unfold bytesL; simp
/-- The cells of a row of slices. -/
def slVs (ls : List LV) : List Value := ls.map fun p => .slice p.ao p.n p.c
/-- A row of slices of bytes of the call's own. -/
def OwnL (w : World) (base : Nat) (v : Value) (ls : List LV) : Prop := w.ownsRow base 27 1 v ls.length (slVs ls) ∧ ∀ p ∈ ls, Bytes w p.ao p.n p.bs ∧ p.n ≤ 140737488355000 ∧ (p.ao = none → p.c = 0) ∧ ∀ a, p.ao = some a → ∃ cs fr, w.heap[a.block]? = some (.cells cs 5 fr)
theorem OwnL.below {w w' : World} {base B : Nat} {v : Value} {ls : List LV} (h : OwnL w base v ls) (hb : Below B w w') (hB : w.heap.size ≤ B) : OwnL w' base v ls :=
  ⟨own_below h.1 hb hB, fun p hp => by
    obtain ⟨h1, h2, h3, h4⟩ := h.2 p hp
    refine ⟨bytes_kept h1 hb hB, h2, h3, fun a ha => ?_⟩
    obtain ⟨cs, fr, h5⟩ := h4 a ha
    exact ⟨cs, fr, (hb.block _ (Nat.lt_of_lt_of_le (Array.getElem?_eq_some_iff.1 h5).1 hB)).trans h5⟩⟩
theorem OwnL.leaves {w : World} {base : Nat} {v : Value} {ls : List LV} (h : OwnL w base v ls) : ∃ ao c, v = .slice ao ls.length c ∧ LeavesV w ao ls.length c ls := by
  obtain ⟨⟨hl, ⟨rfl, h0⟩ | ⟨g, cap, cur, rfl, hg, hh, hc, hm, hs, ht⟩⟩, hp⟩ := h
  · refine ⟨none, 0, by rw [h0], rfl, by omega, by omega, fun h => by omega⟩
  · refine ⟨some ⟨g, 0, none⟩, cap, rfl, rfl, hc, by unfold maxLen at hm; omega, fun _ => ⟨g, 0, rfl, fun i p hi => ?_⟩⟩
    obtain ⟨h1, h2, h3, _⟩ := hp p (List.mem_of_getElem? hi)
    refine ⟨?_, h1, h2, h3⟩
    rw [Nat.zero_add, cell_of_row w g i _ _ _ hh]
    have hi' := (List.getElem?_eq_some_iff.1 hi).1
    have e : (cur.toList.take (ls.length * 1))[i]? = some (Value.slice p.ao p.n p.c) := by rw [ht, slVs, List.getElem?_map, hi]; rfl
    rw [List.getElem?_take] at e
    split at e
    · simpa using e
    · cases e
/-- Leaves whose bytes are these. -/
def CutV (w : World) (ao : Option Addr) (n c : Nat) (bs : List (List UInt8)) : Prop := ∃ ls, LeavesV w ao n c ls ∧ bytesL ls = bs
theorem add_blk (a : Addr) (n : Nat) : (a.add n).block = a.block := by unfold Addr.add; split <;> rfl
theorem bytes_same {w w' : World} {ao : Option Addr} {n : Nat} {bs : List UInt8} (h : Bytes w ao n bs) (hb : ∀ a, ao = some a → w'.heap[a.block]? = w.heap[a.block]?) : Bytes w' ao n bs := by
  refine ⟨h.1, fun i c hi => ?_⟩
  obtain ⟨x, hx, hc⟩ := h.2 i c hi
  refine ⟨x, hx, ?_⟩
  rw [World.cell?_of_block (w := w) (w' := w') (a := x.add i) (by rw [add_blk]; exact hb x hx)]
  exact hc
theorem own_type {w : World} {base : Nat} {n : Nat} {bs : List UInt8} {ao : Option Addr} {k c : Nat} (h : w.ownsRow base 5 1 (.slice ao k c) n (cellsOf bs)) : ∀ a, ao = some a → ∃ cs fr, w.heap[a.block]? = some (.cells cs 5 fr) := by
  rcases h.2 with ⟨h1, -⟩ | ⟨g, cap, cur, h1, -, hh, -⟩
  · intro a ha; cases h1; cases ha
  · intro a ha; cases h1; cases ha; exact ⟨_, _, hh⟩
theorem OwnL.append {w w' : World} {base : Nat} {v v' : Value} {ls : List LV} {p : LV} (h : OwnL w base v ls) (hown : w'.ownsRow base 27 1 v' (ls.length + 1) (slVs ls ++ [.slice p.ao p.n p.c])) (hk : ∀ k, k < w.heap.size → some k ≠ v.ownBlock → w'.heap[k]? = w.heap[k]?)
    (h1 : Bytes w p.ao p.n p.bs) (h2 : p.n ≤ 140737488355000) (h3 : p.ao = none → p.c = 0) (h4 : ∀ a, p.ao = some a → ∃ cs fr, w.heap[a.block]? = some (.cells cs 5 fr)) : OwnL w' base v' (ls ++ [p]) := by
  have hsame : ∀ (a : Addr) cs fr, w.heap[a.block]? = some (.cells cs 5 fr) → w'.heap[a.block]? = w.heap[a.block]? := fun a cs fr ha => by
    refine hk a.block (Array.getElem?_eq_some_iff.1 ha).1 (fun e => ?_)
    rcases h.1.2 with ⟨e1, -⟩ | ⟨g, cap, cur, e1, -, hh, -⟩
    · rw [e1] at e; cases e
    · rw [e1] at e
      simp [Value.ownBlock] at e
      rw [e, hh] at ha
      cases ha
  have hall : ∀ q : LV, Bytes w q.ao q.n q.bs → q.n ≤ 140737488355000 → (q.ao = none → q.c = 0) → (∀ a, q.ao = some a → ∃ cs fr, w.heap[a.block]? = some (.cells cs 5 fr)) → Bytes w' q.ao q.n q.bs ∧ q.n ≤ 140737488355000 ∧ (q.ao = none → q.c = 0) ∧ ∀ a, q.ao = some a → ∃ cs fr, w'.heap[a.block]? = some (.cells cs 5 fr) := fun q q1 q2 q3 q4 =>
    ⟨bytes_same q1 (fun a ha => by obtain ⟨cs, fr, h⟩ := q4 a ha; exact hsame a cs fr h), q2, q3, fun a ha => by obtain ⟨cs, fr, h⟩ := q4 a ha; exact ⟨cs, fr, (hsame a cs fr h).trans h⟩⟩
  refine ⟨by rw [List.length_append]; simpa [slVs] using hown, fun q hq => ?_⟩
  rcases List.mem_append.1 hq with hq | hq
  · obtain ⟨q1, q2, q3, q4⟩ := h.2 q hq
    exact hall q q1 q2 q3 q4
  · rw [List.mem_singleton] at hq
    subst hq
    exact hall _ h1 h2 h3 h4
end Go.Proofs.YtecacjddggljgaaDoor.Sm
namespace Go.Proofs.YtecacjddggljgaaDoor
open Go.RowKit Go.Sort Go.Shelf
set_option linter.unusedSectionVars false
variable [Inhabited E] [DecidableEq E]
theorem own_rowtype {W : World} {base g : Nat} {old : Array Value} {t e : TypeId} {fr : Nat × Nat} {z : Nat} {x : Value} {n : Nat} {xs : List Value} (h : W.ownsRow base e z x n xs) (hg : W.heap[g]? = some (.cells old t fr)) (hne : t ≠ e) {V : World} (hV : ∀ k, k ≠ g → V.heap[k]? = W.heap[k]?) : V.ownsRow base e z x n xs := by
  refine ⟨h.1, ?_⟩
  rcases h.2 with h1 | ⟨g', cap, cur, h1, h2, h3, h4⟩
  · exact .inl h1
  · refine .inr ⟨g', cap, cur, h1, h2, ?_, h4⟩
    rw [hV g' (fun e => by rw [e, hg] at h3; cases h3; exact hne rfl)]
    exact h3
theorem ownL_type {W V : World} {base g : Nat} {old : Array Value} {fr : Nat × Nat} {v : Value} {ls : List Sm.LV} (h : Sm.OwnL W base v ls) (hg : W.heap[g]? = some (.cells old 39 fr)) (hV : ∀ k, k ≠ g → V.heap[k]? = W.heap[k]?) : Sm.OwnL V base v ls := by
  refine ⟨own_rowtype h.1 hg (by decide) hV, fun p hp => ?_⟩
  obtain ⟨h1, h2, h3, h4⟩ := h.2 p hp
  have hs : ∀ a, p.ao = some a → V.heap[a.block]? = W.heap[a.block]? := fun a ha => by
    obtain ⟨cs, fr', h5⟩ := h4 a ha
    exact hV _ (fun e => by rw [e, hg] at h5; cases h5)
  refine ⟨Sm.bytes_same h1 hs, h2, h3, fun a ha => ?_⟩
  obtain ⟨cs, fr', h5⟩ := h4 a ha
  exact ⟨cs, fr', (hs a ha).trans h5⟩
theorem dgo_type {W V : World} {base g : Nat} {old : Array Value} {fr : Nat × Nat} {v : Value} {ds : List (List UInt8)} (h : Sm.DgO W base v ds) (hg : W.heap[g]? = some (.cells old 39 fr)) (hV : ∀ k, k ≠ g → V.heap[k]? = W.heap[k]?) : Sm.DgO V base v ds :=
  ⟨own_rowtype h.1 hg (by decide) hV, h.2⟩
theorem built39 (f : Int) (qo : Option Addr) (qn qc : Nat) : Tryd.prog.built 39 [(0, .int .i64 f), (2, .slice qo qn qc)] = some #[.int .i64 f, .slice none 0 0, .slice qo qn qc] := by kernel_rfl
theorem step_append_path {ops : Array Oper} {o : Oper} {a : Act} {K : Act → World → Prop} {Q : Exit → Act → World → Prop} {E0 : Prop} (w : World)
    (hg : o.guard = none) (s x : Operand) (hop : o.op = Op.call { callee := Callee.builtin Builtin.append, args := #[s, x], argTypes := #[28, 28] })
    (base : Nat) (v : Value) (ds : List (List UInt8)) (hs : a.eval s = v) (hown : Sm.DgO w base v ds) (hbase : base ≤ w.heap.size)
    (ao : Option Addr) (m c : Nat) (es : List (List UInt8)) (hx : a.eval x = .slice ao m c) (hP : Sm.PathV w ao es) (hl : es.length = m) (h0 : ao = none → c = 0) (hb : ds.length + es.length ≤ 1000)
    (hK : ∀ v' w', Sm.DgO w' base v' (ds ++ es) → Below base w w' → (∀ k, k < w.heap.size → some k ≠ v.ownBlock → w'.heap[k]? = w.heap[k]?) → K (a.put o.dst v') w') :
    if Region.wanted o (yielded ops a.tmps) = true then Oper.wp Tryd.prog o a w K Q else E0 := by
  obtain ⟨i0, hi, hz0, hz1, hz2⟩ := info_parts Sm.info24
  cases ao with
  | none =>
    have hes : es = [] := by
      cases es with
      | nil => rfl
      | cons d t => obtain ⟨b, off, h, -⟩ := hP.2 (by simp); cases h
    subst hes
    obtain rfl := h0 rfl
    obtain rfl : 0 = m := hl
    have hw : Region.wanted o (yielded ops a.tmps) = true := by simp [Region.wanted, hg]
    rw [if_pos hw]
    have hrun := run_append_owned_none (P := Tryd.prog) (w := w) base 28 o.type 46 i0 32 Tryd.underlying28 hi v ds.length (Sm.digC ds) hown.1
    unfold Oper.wp
    simp [execOp, hop, resolve, invoke, builtin, hs, hx, hrun]
    exact hK v w (by rw [List.append_nil]; exact hown) (Below.refl _ _) (fun _ _ _ => rfl)
  | some ad =>
    have hw : Region.wanted o (yielded ops a.tmps) = true := by simp [Region.wanted, hg]
    rw [if_pos hw]
    have hcell : ∀ j u, (Sm.digC es)[j]? = some u → w.cell? (ad.add j) = some u := fun j u hu => by
      have hpos : 0 < es.length := by
        rcases Nat.eq_zero_or_pos es.length with h | h
        · rw [List.length_eq_zero_iff] at h
          subst h
          simp [Sm.digC] at hu
        · exact h
      obtain ⟨b, off, h1, h2⟩ := hP.2 hpos
      cases h1
      exact Sm.digC_cells hP.1 h2 j u hu
    refine wp_append_own w s x 28 hop base 46 i0 _ 32 32 Tryd.underlying28 hi hz0 hz1 hz2 (by simp [Value.cells]) (by decide) v ds.length (Sm.digC ds) hs hown.1 ad m c (Sm.digC es) hx (by rw [Sm.digC_length es hP.1, hl]) hcell (Sm.digC_one es) (by unfold maxLen; omega) (by omega) hbase ?_
    intro v' w' a1 a2 _
    refine hK v' w' ⟨by rw [Sm.digC_app, List.length_append, hl]; exact a1, fun d hd => ?_⟩ ((Below.refl _ _).grown a2 hbase (fun k hk => (hown.1.lt k hk).1)) a2.block
    rcases List.mem_append.1 hd with h | h
    · exact hown.2 d h
    · exact hP.1 d h
theorem blk_type {W : World} {base g : Nat} {old : Array Value} {t e : TypeId} {fr : Nat × Nat} {z : Nat} {v : Value} {n : Nat} {xs : List Value} (h : W.ownsRow base e z v n xs) (hg : W.heap[g]? = some (.cells old t fr)) (hne : t ≠ e) : some g ≠ v.ownBlock := fun he => by
  rcases h.2 with ⟨rfl, -⟩ | ⟨g', cap, cur, rfl, h2, h3, -⟩
  · cases he
  · have h4 := Option.some.inj (show some g = some g' from he)
    rw [h4, h3] at hg
    cases hg
    exact hne rfl
theorem own_keep {W V : World} {base base2 : Nat} {e e2 : TypeId} {z z2 : Nat} {x v : Value} {n n2 : Nat} {xs xs2 : List Value} (h : W.ownsRow base e z x n xs) (h2 : W.ownsRow base2 e2 z2 v n2 xs2) (hne : e ≠ e2) (hk : ∀ k, k < W.heap.size → some k ≠ v.ownBlock → V.heap[k]? = W.heap[k]?) : V.ownsRow base e z x n xs := by
  refine ⟨h.1, ?_⟩
  rcases h.2 with h1 | ⟨g', cap, cur, h1, h3, h4, h5⟩
  · exact .inl h1
  · exact .inr ⟨g', cap, cur, h1, h3, (hk g' (Array.getElem?_eq_some_iff.1 h4).1 (blk_type h2 h4 hne)).trans h4, h5⟩
def capsL (ls : List Sm.LV) : Prop := ∀ p ∈ ls, p.n ≤ p.c ∧ p.c ≤ 9223372036854775807
theorem capsL_nil : capsL [] := fun p hp => by cases hp
set_option maxRecDepth 100000 in
set_option maxHeartbeats 8000000 in
theorem span_any (frm : Int) (slo : Option Addr) (sn sc : Nat) (b off : Nat) (ps : List Sm.PP) (spo : Option Addr) (spn spc : Nat) (ds : List (List UInt8)) (w : World) (hP : Sm.Pieces w b off ps) (hn : ps.length = sn) (ha : 0 < sn → slo = some ⟨b, off, none⟩) (hpl : ds.length = spn) (hp0 : spo = none → spc = 0) (hp1 : spn ≤ spc) (hpp : Sm.PathV w spo ds) :
    Calls Tryd.prog 25 #[.agg #[.int .i64 frm, .slice slo sn sc, .slice spo spn spc]] w fun e w' => ∃ lo lc qo qc ls, e = .returned (.agg #[.int .i64 frm, .slice lo ls.length lc, .slice qo (ds.take 40).length qc]) ∧ Sm.OwnL w' w.heap.size (.slice lo ls.length lc) ls ∧ capsL ls ∧ ls.length ≤ 70 ∧ Sm.bytesL ls = Sm.cutL ps 70 1300 ∧ Sm.DgO w' w.heap.size (.slice qo (ds.take 40).length qc) (ds.take 40) ∧ Below w.heap.size w w' := by
  obtain ⟨W2, HW2⟩ : ∃ W, Hid (W = (w.alloc (.cells #[.int .i64 frm, .slice slo sn sc, .slice spo spn spc] 39)).alloc (.cells #[.int .i64 0, .slice none 0 0, .slice none 0 0] 39)) := ⟨_, rfl⟩
  have HF2 : Hid (W2.heap[w.heap.size]? = some (.cells #[.int .i64 frm, .slice slo sn sc, .slice spo spn spc] 39 (0, 0)) ∧ W2.heap[w.heap.size + 1]? = some (.cells zeroSC 39 (0, 0)) ∧ Below w.heap.size w W2 ∧ W2.heap.size = w.heap.size + 2) := by
    show _ ∧ _
    rw [HW2.out]; exact Sm.frame2 w _ _ _
  have HPS : Hid (Sm.Pieces W2 b off ps) := hP.below HF2.out.2.2.1 (Nat.le_refl _)
  have HPN : Hid (ps.length = sn ∧ (0 < sn → slo = some ⟨b, off, none⟩)) := ⟨hn, ha⟩
  have HPT : Hid (Sm.PathV W2 spo ds) := hpp.below HF2.out.2.2.1 (Nat.le_refl _)
  have HPQ : Hid (ds.length = spn ∧ (spo = none → spc = 0) ∧ spn ≤ spc) := ⟨hpl, hp0, hp1⟩
  have HS : Hid (∀ V, Below W2.heap.size W2 V → V.cell? ⟨w.heap.size, 0, none⟩ = some (.int .i64 frm) ∧ V.cell? ⟨w.heap.size, 2, none⟩ = some (.slice spo spn spc) ∧ V.cell? ⟨w.heap.size, 1, none⟩ = some (.slice slo sn sc) ∧ V.heap[w.heap.size + 1]? = some (.cells zeroSC 39 (0, 0))) := fun V hV => by
    have g1 := (hV.block w.heap.size (by have := HF2.out.2.2.2; omega)).trans HF2.out.1
    exact ⟨by rw [cell_of_row _ _ _ _ _ _ g1]; rfl, by rw [cell_of_row _ _ _ _ _ _ g1]; rfl, by rw [cell_of_row _ _ _ _ _ _ g1]; rfl, (hV.block _ (by have := HF2.out.2.2.2; omega)).trans HF2.out.2.1⟩
  obtain ⟨i0, hi, hz0, hz1, hz2⟩ := info_parts Sm.info36
  have HI : Hid (Tryd.prog.info? 27 = some i0 ∧ i0.zero = some (.slice none 0 0) ∧ i0.size = 1 ∧ i0.bytes = 24) := ⟨hi, hz0, hz1, hz2⟩
  obtain ⟨q, HQ⟩ : ∃ m : Nat, Hid (m = min spn 40) := ⟨_, rfl⟩
  have HQL : Hid ((ds.take 40).length = q ∧ ds.take 40 = ds.take q) := by
    show _ ∧ _
    have h1 := HQ.out
    rw [List.length_take, hpl]
    refine ⟨by omega, ?_⟩
    rcases Nat.le_total spn 40 with h | h
    · rw [List.take_of_length_le (by omega), List.take_of_length_le (by omega)]
    · rw [show q = 40 by omega]
  rw [HQL.out.1, HQL.out.2]
  have hq1 : min (spn : Int) 40 = (q : Int) := by have := HQ.out; omega
  have hq2 : q ≤ spc := by have := HQ.out; omega
  have hq3 : (q : Int) ≤ (spc : Int) := by omega
  clear hP hn ha hpl hp0 hp1 hpp hi hz0 hz1 hz2
  go_enter Tryd.func25, Tryd.ntmps25
  go_upto_region 1 with fail
  rw [← HW2.out]
  go_cut [3] (fun s3 wx => ∃ (g : Nat) (qo : Option Addr) (qc : Nat), s3 = .pointer (some ⟨g, 0, none⟩) ∧ Hid (wx.heap[g]? = some (.cells #[.int .i64 frm, .slice none 0 0, .slice qo q qc] 39 (0, 0))) ∧ Hid (Sm.DgO wx W2.heap.size (.slice qo q qc) (ds.take q)) ∧ Hid (W2.heap.size ≤ g) ∧ Hid (Below W2.heap.size W2 wx))
  case first =>
    as_aux_lemma =>
      have HSd : Hid _ := HS.out _ (Below.drew (Below.refl W2.heap.size W2))
      refine wp_region_held_drew (S := fun W => W.cell? ⟨w.heap.size, 0, none⟩ = some (.int .i64 frm) ∧ W.cell? ⟨w.heap.size, 2, none⟩ = some (.slice spo spn spc)) (by kernel_rfl) ⟨HSd.out.1, HSd.out.2.1⟩ (fun hS => ?_)
      obtain ⟨Wd, HWd⟩ : ∃ W, Hid (W2.drew = W) := ⟨_, rfl⟩
      have HBWd : Hid (Below W2.heap.size W2 Wd) := by show Below _ _ _; rw [← HWd.out]; exact Below.drew (Below.refl _ _)
      rw [HWd.out] at hS ⊢
      refine wpAnyH_take (i := 0) (v := ?_) rfl (by kernel_rfl) (by kernel_rfl) (by kernel_rfl) (fun _ _ _ h => h) (Or.inl ⟨by rfl, ?_⟩) (by assumption) ?_
      rotate_left
      · (intro w hSw; (try dsimp only at hSw); go_simp; try with_reducible rfl)
      simp only [Act.put, List.getElem_toArray, List.getElem_cons_zero, List.setIfInBounds_toArray, List.set_cons_zero, List.set_cons_succ]
      refine wpAnyH_take (i := 1) (v := ?_) rfl (by kernel_rfl) (by kernel_rfl) (by kernel_rfl) (fun _ _ _ h => h) (Or.inl ⟨by rfl, ?_⟩) (by assumption) ?_
      rotate_left
      · (intro w hSw; (try dsimp only at hSw); go_simp; try with_reducible rfl)
      simp only [Act.put, List.getElem_toArray, List.getElem_cons_zero, List.getElem_cons_succ, List.setIfInBounds_toArray, List.set_cons_zero, List.set_cons_succ]
      refine wpAnyH_take (i := 3) (v := ?_) rfl (by kernel_rfl) (by kernel_rfl) (by kernel_rfl) (fun _ _ _ h => h) (Or.inl ⟨by rfl, ?_⟩) (by assumption) ?_
      rotate_left
      · (intro w hSw; (try dsimp only at hSw); go_simp; try with_reducible rfl)
      simp only [Act.put, List.getElem_toArray, List.getElem_cons_zero, List.getElem_cons_succ, List.setIfInBounds_toArray, List.set_cons_zero, List.set_cons_succ]
      refine wpAnyH_take (i := 4) (v := ?_) rfl (by kernel_rfl) (by kernel_rfl) (by kernel_rfl) (fun _ _ _ h => h) (Or.inl ⟨by rfl, ?_⟩) (by assumption) ?_
      rotate_left
      · (intro w hSw; (try dsimp only at hSw); go_simp; try with_reducible rfl)
      simp only [Act.put, List.getElem_toArray, List.getElem_cons_zero, List.getElem_cons_succ, List.setIfInBounds_toArray, List.set_cons_zero, List.set_cons_succ]
      refine wpAnyH_take (i := 5) (v := ?_) rfl (by kernel_rfl) (by kernel_rfl) (by kernel_rfl) (fun _ _ _ h => h) (Or.inl ⟨by rfl, ?_⟩) (by assumption) ?_
      rotate_left
      · (intro w hSw; (try dsimp only at hSw); go_simp; try with_reducible rfl)
      simp only [Act.put, List.getElem_toArray, List.getElem_cons_zero, List.getElem_cons_succ, List.setIfInBounds_toArray, List.set_cons_zero, List.set_cons_succ]
      refine wpAnyH_take (i := 6) (v := ?_) rfl (by kernel_rfl) (by kernel_rfl) (by kernel_rfl) (fun _ _ _ h => h) (Or.inl ⟨by rfl, ?_⟩) (by assumption) ?_
      rotate_left
      · (intro w hSw; (try dsimp only at hSw); go_simp; try with_reducible rfl)
      simp only [Act.put, List.getElem_toArray, List.getElem_cons_zero, List.getElem_cons_succ, List.setIfInBounds_toArray, List.set_cons_zero, List.set_cons_succ]
      refine wpAnyH_take (i := 7) (v := ?_) rfl (by kernel_rfl) (by kernel_rfl) (by kernel_rfl) (fun _ _ _ h => h) (Or.inl ⟨by rfl, ?_⟩) (by assumption) ?_
      rotate_left
      · (intro w hSw; (try dsimp only at hSw); go_simp; try with_reducible rfl)
      simp only [Act.put, List.getElem_toArray, List.getElem_cons_zero, List.getElem_cons_succ, List.setIfInBounds_toArray, List.set_cons_zero, List.set_cons_succ]
      refine wpAnyH_take (i := 8) (v := ?_) rfl (by kernel_rfl) (by kernel_rfl) (by kernel_rfl) (fun _ _ _ h => h) (Or.inl ⟨by rfl, ?_⟩) (by assumption) ?_
      rotate_left
      · (intro w hSw; (try dsimp only at hSw); go_simp; try with_reducible rfl)
      simp only [Act.put, List.getElem_toArray, List.getElem_cons_zero, List.getElem_cons_succ, List.setIfInBounds_toArray, List.set_cons_zero, List.set_cons_succ]
      refine wpAnyH_take (i := 9) (v := ?_) rfl (by kernel_rfl) (by kernel_rfl) (by kernel_rfl) (fun _ _ _ h => h) (Or.inl ⟨by rfl, ?_⟩) (by assumption) ?_
      rotate_left
      · (intro w hSw; (try dsimp only at hSw); go_simp; try with_reducible rfl)
      simp only [Act.put, List.getElem_toArray, List.getElem_cons_zero, List.getElem_cons_succ, List.setIfInBounds_toArray, List.set_cons_zero, List.set_cons_succ]
      refine wpAnyH_ready (rs := [2, 12]) (by kernel_rfl) (by simp) ?_
      refine AllReadyH.cons rfl (fun K hK => ?_) (AllReadyH.cons rfl (fun K hK => ?_) AllReadyH.nil)
      · go_simp
        obtain ⟨V1, HV1⟩ : ∃ V, Hid (Wd.alloc (.cells #[] 46) = V) := ⟨_, rfl⟩
        have HBV1 : Hid (Below W2.heap.size W2 V1) := by show Below _ _ _; rw [← HV1.out]; exact HBWd.out.alloc HBWd.out.size _
        have HDV1 : Hid (Sm.DgO V1 Wd.heap.size (.slice (some ⟨Wd.heap.size, 0, none⟩) 0 0) []) := by show Sm.DgO _ _ _ _; rw [← HV1.out]; exact own_digs0 Wd
        rw [HV1.out]
        refine hK.out _ _ ⟨(HS.out _ HBV1.out).1, (HS.out _ HBV1.out).2.1⟩ (fun hHeld2 => ?_)
        clear hK K
        have HLQV1 : Hid (V1.heap.size = Wd.heap.size + 1) := by show _ = _; rw [← HV1.out]; simp
        have HLEV1 : Hid (Wd.heap.size ≤ V1.heap.size) := by show _ ≤ _; have := HLQV1.out; omega
        refine wpAnyH_ready (rs := [10, 12]) (by kernel_rfl) (by simp) ?_
        refine AllReadyH.cons rfl (fun K hK => ?_) (AllReadyH.cons rfl (fun K hK => ?_) AllReadyH.nil)
        · refine step_append_path V1 rfl (.tmp 7) (.tmp 14) rfl Wd.heap.size _ [] rfl HDV1.out (HLEV1.out) spo q spc (ds.take q) rfl (pathv_take (HPT.out.below HBV1.out (Nat.le_refl _)) q) (by rw [← HQL.out.2]; exact HQL.out.1) HPQ.out.2.1 (by rw [← HQL.out.2, HQL.out.1]; have := HQ.out; simp only [List.length_nil]; omega) ?_
          intro vV2 V2 hdV2 hbV2 hkV2
          have hd2V2 : Sm.DgO V2 Wd.heap.size vV2 (ds.take q) := hdV2
          obtain ⟨qoV2, qcV2, hvV2, -⟩ := dgo_path hd2V2
          rw [show (ds.take q).length = q by rw [← HQL.out.2]; exact HQL.out.1] at hvV2
          subst hvV2
          have HBV2 : Hid (Below W2.heap.size W2 V2) := HBV1.out.trans (hbV2.mono HBWd.out.size)
          have HDV2 : Hid _ := hd2V2
          have HBPV2 : Hid (Below Wd.heap.size V1 V2) := hbV2
          have HKPV2 : Hid _ := hkV2
          refine hK.out _ _ ⟨(HS.out _ HBV2.out).1, (HS.out _ HBV2.out).2.1⟩ (fun hHeld2 => ?_)
          clear hK K hdV2 hd2V2 hbV2 hkV2
          simp only [Act.put, List.getElem_toArray, List.getElem_cons_zero, List.getElem_cons_succ, List.setIfInBounds_toArray, List.set_cons_zero, List.set_cons_succ]
          refine wpAnyH_take (i := 11) (v := .agg #[.int .i64 frm, .slice none 0 0, .slice qoV2 q qcV2]) rfl (by kernel_rfl) (by kernel_rfl) (by kernel_rfl) (fun _ _ _ h => h) (Sm.yieldsIf_build (by rfl) 39 _ rfl #[.int .i64 frm, .slice none 0 0, .slice qoV2 q qcV2] _ (built39 frm qoV2 q qcV2) (by rfl)) (by assumption) ?_
          simp only [Act.put, List.getElem_toArray, List.getElem_cons_zero, List.getElem_cons_succ, List.setIfInBounds_toArray, List.set_cons_zero, List.set_cons_succ]
          refine wpAnyH_ready (rs := [12]) (by kernel_rfl) (by simp) ?_
          refine AllReadyH.cons rfl (fun K hK => ?_) AllReadyH.nil
          go_simp
          obtain ⟨V3, HV3⟩ : ∃ V, Hid (V2.alloc (.cells #[.int .i64 0, .slice none 0 0, .slice none 0 0] 39) = V) := ⟨_, rfl⟩
          have HBV3 : Hid (Below W2.heap.size W2 V3) := by show Below _ _ _; rw [← HV3.out]; exact HBV2.out.alloc HBV2.out.size _
          have HGV3 : Hid (V3.heap[V2.heap.size]? = some (.cells zeroSC 39 (0, 0)) ∧ W2.heap.size ≤ V2.heap.size) := ⟨by rw [← HV3.out]; exact heap_alloc_new _ _, HBV2.out.size⟩
          have HBEV3 : Hid (Below V2.heap.size V2 V3) := by show Below _ _ _; rw [← HV3.out]; exact bel_alloc _ _
          rw [HV3.out]
          refine hK.out _ _ ⟨(HS.out _ HBV3.out).1, (HS.out _ HBV3.out).2.1⟩ (fun hHeld2 => ?_)
          clear hK K
          have HDV3 : Hid (Sm.DgO V3 Wd.heap.size (.slice qoV2 q qcV2) (ds.take q)) := Sm.DgO.below HDV2.out HBEV3.out (Nat.le_refl _)
          have HLOW : Hid (W2.heap.size ≤ Wd.heap.size) := HBWd.out.size
          refine wpAnyH_ready (rs := [13]) (by kernel_rfl) (by simp) ?_
          refine AllReadyH.cons rfl (fun K hK => ?_) AllReadyH.nil
          rw [if_pos (by rfl)]
          refine wp_store_row 39 (.tmp 3) (.tmp 16) rfl V2.heap.size #[.int .i64 frm, .slice none 0 0, .slice qoV2 q qcV2] rfl rfl 39 zeroSC HGV3.out.1 size39 rfl (one3 _ _ _ _ _ _ _) ?_
          have HBZ : Hid (Below W2.heap.size W2 (V3.setRow V2.heap.size #[.int .i64 frm, .slice none 0 0, .slice qoV2 q qcV2])) := below_setRow HBV3.out HGV3.out.2 _
          have HRZ : Hid ((V3.setRow V2.heap.size #[.int .i64 frm, .slice none 0 0, .slice qoV2 q qcV2]).heap[V2.heap.size]? = some (.cells #[.int .i64 frm, .slice none 0 0, .slice qoV2 q qcV2] 39 (0, 0))) := setRow_heap _ _ _ _ _ _ HGV3.out.1
          have HDZ : Hid (Sm.DgO (V3.setRow V2.heap.size #[.int .i64 frm, .slice none 0 0, .slice qoV2 q qcV2]) W2.heap.size (.slice qoV2 q qcV2) (ds.take q)) := (dgo_type HDV3.out HGV3.out.1 (fun k hk => setRow_other V3 V2.heap.size k _ hk)).mono (HLOW.out)
          refine hK.out _ _ ⟨(HS.out _ HBZ.out).1, (HS.out _ HBZ.out).2.1⟩ (fun hHeld3 => ?_)
          clear hK K hHeld3 hS
          refine wpAnyH_done (by kernel_rfl) ?_ _
          clear hHeld2
          generalize V3.setRow V2.heap.size #[.int .i64 frm, .slice none 0 0, .slice qoV2 q qcV2] = WZ at *
          go_wp2_with fail
          go_meet
          case rel => exact ⟨V2.heap.size, qoV2, qcV2, rfl, HRZ.out, HDZ.out, HGV3.out.2, HBZ.out⟩
        · go_simp
          obtain ⟨V2, HV2⟩ : ∃ V, Hid (V1.alloc (.cells #[.int .i64 0, .slice none 0 0, .slice none 0 0] 39) = V) := ⟨_, rfl⟩
          have HBV2 : Hid (Below W2.heap.size W2 V2) := by show Below _ _ _; rw [← HV2.out]; exact HBV1.out.alloc HBV1.out.size _
          have HGV2 : Hid (V2.heap[V1.heap.size]? = some (.cells zeroSC 39 (0, 0)) ∧ W2.heap.size ≤ V1.heap.size) := ⟨by rw [← HV2.out]; exact heap_alloc_new _ _, HBV1.out.size⟩
          have HBEV2 : Hid (Below V1.heap.size V1 V2) := by show Below _ _ _; rw [← HV2.out]; exact bel_alloc _ _
          rw [HV2.out]
          refine hK.out _ _ ⟨(HS.out _ HBV2.out).1, (HS.out _ HBV2.out).2.1⟩ (fun hHeld2 => ?_)
          clear hK K
          have HDV2 : Hid (Sm.DgO V2 Wd.heap.size (.slice (some ⟨Wd.heap.size, 0, none⟩) 0 0) []) := Sm.DgO.below HDV1.out HBEV2.out (Nat.le_refl _)
          have HLEV2 : Hid (Wd.heap.size ≤ V2.heap.size) := Nat.le_trans HLEV1.out HBEV2.out.size
          refine wpAnyH_ready (rs := [10]) (by kernel_rfl) (by simp) ?_
          refine AllReadyH.cons rfl (fun K hK => ?_) AllReadyH.nil
          refine step_append_path V2 rfl (.tmp 7) (.tmp 14) rfl Wd.heap.size _ [] rfl HDV2.out (HLEV2.out) spo q spc (ds.take q) rfl (pathv_take (HPT.out.below HBV2.out (Nat.le_refl _)) q) (by rw [← HQL.out.2]; exact HQL.out.1) HPQ.out.2.1 (by rw [← HQL.out.2, HQL.out.1]; have := HQ.out; simp only [List.length_nil]; omega) ?_
          intro vV3 V3 hdV3 hbV3 hkV3
          have hd2V3 : Sm.DgO V3 Wd.heap.size vV3 (ds.take q) := hdV3
          obtain ⟨qoV3, qcV3, hvV3, -⟩ := dgo_path hd2V3
          rw [show (ds.take q).length = q by rw [← HQL.out.2]; exact HQL.out.1] at hvV3
          subst hvV3
          have HBV3 : Hid (Below W2.heap.size W2 V3) := HBV2.out.trans (hbV3.mono HBWd.out.size)
          have HDV3 : Hid _ := hd2V3
          have HBPV3 : Hid (Below Wd.heap.size V2 V3) := hbV3
          have HKPV3 : Hid _ := hkV3
          refine hK.out _ _ ⟨(HS.out _ HBV3.out).1, (HS.out _ HBV3.out).2.1⟩ (fun hHeld2 => ?_)
          clear hK K hdV3 hd2V3 hbV3 hkV3
          simp only [Act.put, List.getElem_toArray, List.getElem_cons_zero, List.getElem_cons_succ, List.setIfInBounds_toArray, List.set_cons_zero, List.set_cons_succ]
          refine wpAnyH_take (i := 11) (v := .agg #[.int .i64 frm, .slice none 0 0, .slice qoV3 q qcV3]) rfl (by kernel_rfl) (by kernel_rfl) (by kernel_rfl) (fun _ _ _ h => h) (Sm.yieldsIf_build (by rfl) 39 _ rfl #[.int .i64 frm, .slice none 0 0, .slice qoV3 q qcV3] _ (built39 frm qoV3 q qcV3) (by rfl)) (by assumption) ?_
          simp only [Act.put, List.getElem_toArray, List.getElem_cons_zero, List.getElem_cons_succ, List.setIfInBounds_toArray, List.set_cons_zero, List.set_cons_succ]
          have HGV3 : Hid (V3.heap[V1.heap.size]? = some (.cells zeroSC 39 (0, 0)) ∧ W2.heap.size ≤ V1.heap.size) := ⟨(HKPV3.out _ (Array.getElem?_eq_some_iff.1 HGV2.out.1).1 (fun e => by have h := HLQV1.out; have e2 := Option.some.inj (show some V1.heap.size = some Wd.heap.size from e); omega)).trans HGV2.out.1, HGV2.out.2⟩
          have HLOW : Hid (W2.heap.size ≤ Wd.heap.size) := HBWd.out.size
          refine wpAnyH_ready (rs := [13]) (by kernel_rfl) (by simp) ?_
          refine AllReadyH.cons rfl (fun K hK => ?_) AllReadyH.nil
          rw [if_pos (by rfl)]
          refine wp_store_row 39 (.tmp 3) (.tmp 16) rfl V1.heap.size #[.int .i64 frm, .slice none 0 0, .slice qoV3 q qcV3] rfl rfl 39 zeroSC HGV3.out.1 size39 rfl (one3 _ _ _ _ _ _ _) ?_
          have HBZ : Hid (Below W2.heap.size W2 (V3.setRow V1.heap.size #[.int .i64 frm, .slice none 0 0, .slice qoV3 q qcV3])) := below_setRow HBV3.out HGV3.out.2 _
          have HRZ : Hid ((V3.setRow V1.heap.size #[.int .i64 frm, .slice none 0 0, .slice qoV3 q qcV3]).heap[V1.heap.size]? = some (.cells #[.int .i64 frm, .slice none 0 0, .slice qoV3 q qcV3] 39 (0, 0))) := setRow_heap _ _ _ _ _ _ HGV3.out.1
          have HDZ : Hid (Sm.DgO (V3.setRow V1.heap.size #[.int .i64 frm, .slice none 0 0, .slice qoV3 q qcV3]) W2.heap.size (.slice qoV3 q qcV3) (ds.take q)) := (dgo_type HDV3.out HGV3.out.1 (fun k hk => setRow_other V3 V1.heap.size k _ hk)).mono (HLOW.out)
          refine hK.out _ _ ⟨(HS.out _ HBZ.out).1, (HS.out _ HBZ.out).2.1⟩ (fun hHeld3 => ?_)
          clear hK K hHeld3 hS
          refine wpAnyH_done (by kernel_rfl) ?_ _
          clear hHeld2
          generalize V3.setRow V1.heap.size #[.int .i64 frm, .slice none 0 0, .slice qoV3 q qcV3] = WZ at *
          go_wp2_with fail
          go_meet
          case rel => exact ⟨V1.heap.size, qoV3, qcV3, rfl, HRZ.out, HDZ.out, HGV3.out.2, HBZ.out⟩
      · go_simp
        obtain ⟨V1, HV1⟩ : ∃ V, Hid (Wd.alloc (.cells #[.int .i64 0, .slice none 0 0, .slice none 0 0] 39) = V) := ⟨_, rfl⟩
        have HBV1 : Hid (Below W2.heap.size W2 V1) := by show Below _ _ _; rw [← HV1.out]; exact HBWd.out.alloc HBWd.out.size _
        have HGV1 : Hid (V1.heap[Wd.heap.size]? = some (.cells zeroSC 39 (0, 0)) ∧ W2.heap.size ≤ Wd.heap.size) := ⟨by rw [← HV1.out]; exact heap_alloc_new _ _, HBWd.out.size⟩
        have HBEV1 : Hid (Below Wd.heap.size Wd V1) := by show Below _ _ _; rw [← HV1.out]; exact bel_alloc _ _
        rw [HV1.out]
        refine hK.out _ _ ⟨(HS.out _ HBV1.out).1, (HS.out _ HBV1.out).2.1⟩ (fun hHeld2 => ?_)
        clear hK K
        refine wpAnyH_ready (rs := [2]) (by kernel_rfl) (by simp) ?_
        refine AllReadyH.cons rfl (fun K hK => ?_) AllReadyH.nil
        go_simp
        obtain ⟨V2, HV2⟩ : ∃ V, Hid (V1.alloc (.cells #[] 46) = V) := ⟨_, rfl⟩
        have HBV2 : Hid (Below W2.heap.size W2 V2) := by show Below _ _ _; rw [← HV2.out]; exact HBV1.out.alloc HBV1.out.size _
        have HDV2 : Hid (Sm.DgO V2 V1.heap.size (.slice (some ⟨V1.heap.size, 0, none⟩) 0 0) []) := by show Sm.DgO _ _ _ _; rw [← HV2.out]; exact own_digs0 V1
        rw [HV2.out]
        refine hK.out _ _ ⟨(HS.out _ HBV2.out).1, (HS.out _ HBV2.out).2.1⟩ (fun hHeld2 => ?_)
        clear hK K
        have HGV2 : Hid (V2.heap[Wd.heap.size]? = some (.cells zeroSC 39 (0, 0))) := by show _ = _; rw [← HV2.out]; exact ((bel_alloc V1 _).block _ (Array.getElem?_eq_some_iff.1 HGV1.out.1).1).trans HGV1.out.1
        have HLEV2 : Hid (V1.heap.size ≤ V2.heap.size) := by show _ ≤ _; rw [← HV2.out]; simp
        refine wpAnyH_ready (rs := [10]) (by kernel_rfl) (by simp) ?_
        refine AllReadyH.cons rfl (fun K hK => ?_) AllReadyH.nil
        refine step_append_path V2 rfl (.tmp 7) (.tmp 14) rfl V1.heap.size _ [] rfl HDV2.out (HLEV2.out) spo q spc (ds.take q) rfl (pathv_take (HPT.out.below HBV2.out (Nat.le_refl _)) q) (by rw [← HQL.out.2]; exact HQL.out.1) HPQ.out.2.1 (by rw [← HQL.out.2, HQL.out.1]; have := HQ.out; simp only [List.length_nil]; omega) ?_
        intro vV3 V3 hdV3 hbV3 hkV3
        have hd2V3 : Sm.DgO V3 V1.heap.size vV3 (ds.take q) := hdV3
        obtain ⟨qoV3, qcV3, hvV3, -⟩ := dgo_path hd2V3
        rw [show (ds.take q).length = q by rw [← HQL.out.2]; exact HQL.out.1] at hvV3
        subst hvV3
        have HBV3 : Hid (Below W2.heap.size W2 V3) := HBV2.out.trans (hbV3.mono HBV1.out.size)
        have HDV3 : Hid _ := hd2V3
        have HBPV3 : Hid (Below V1.heap.size V2 V3) := hbV3
        have HKPV3 : Hid _ := hkV3
        refine hK.out _ _ ⟨(HS.out _ HBV3.out).1, (HS.out _ HBV3.out).2.1⟩ (fun hHeld2 => ?_)
        clear hK K hdV3 hd2V3 hbV3 hkV3
        simp only [Act.put, List.getElem_toArray, List.getElem_cons_zero, List.getElem_cons_succ, List.setIfInBounds_toArray, List.set_cons_zero, List.set_cons_succ]
        refine wpAnyH_take (i := 11) (v := .agg #[.int .i64 frm, .slice none 0 0, .slice qoV3 q qcV3]) rfl (by kernel_rfl) (by kernel_rfl) (by kernel_rfl) (fun _ _ _ h => h) (Sm.yieldsIf_build (by rfl) 39 _ rfl #[.int .i64 frm, .slice none 0 0, .slice qoV3 q qcV3] _ (built39 frm qoV3 q qcV3) (by rfl)) (by assumption) ?_
        simp only [Act.put, List.getElem_toArray, List.getElem_cons_zero, List.getElem_cons_succ, List.setIfInBounds_toArray, List.set_cons_zero, List.set_cons_succ]
        have HGV3 : Hid (V3.heap[Wd.heap.size]? = some (.cells zeroSC 39 (0, 0)) ∧ W2.heap.size ≤ Wd.heap.size) := ⟨(HBPV3.out.block _ (Array.getElem?_eq_some_iff.1 HGV1.out.1).1).trans HGV2.out, HGV1.out.2⟩
        have HLOW : Hid (W2.heap.size ≤ V1.heap.size) := HBV1.out.size
        refine wpAnyH_ready (rs := [13]) (by kernel_rfl) (by simp) ?_
        refine AllReadyH.cons rfl (fun K hK => ?_) AllReadyH.nil
        rw [if_pos (by rfl)]
        refine wp_store_row 39 (.tmp 3) (.tmp 16) rfl Wd.heap.size #[.int .i64 frm, .slice none 0 0, .slice qoV3 q qcV3] rfl rfl 39 zeroSC HGV3.out.1 size39 rfl (one3 _ _ _ _ _ _ _) ?_
        have HBZ : Hid (Below W2.heap.size W2 (V3.setRow Wd.heap.size #[.int .i64 frm, .slice none 0 0, .slice qoV3 q qcV3])) := below_setRow HBV3.out HGV3.out.2 _
        have HRZ : Hid ((V3.setRow Wd.heap.size #[.int .i64 frm, .slice none 0 0, .slice qoV3 q qcV3]).heap[Wd.heap.size]? = some (.cells #[.int .i64 frm, .slice none 0 0, .slice qoV3 q qcV3] 39 (0, 0))) := setRow_heap _ _ _ _ _ _ HGV3.out.1
        have HDZ : Hid (Sm.DgO (V3.setRow Wd.heap.size #[.int .i64 frm, .slice none 0 0, .slice qoV3 q qcV3]) W2.heap.size (.slice qoV3 q qcV3) (ds.take q)) := (dgo_type HDV3.out HGV3.out.1 (fun k hk => setRow_other V3 Wd.heap.size k _ hk)).mono (HLOW.out)
        refine hK.out _ _ ⟨(HS.out _ HBZ.out).1, (HS.out _ HBZ.out).2.1⟩ (fun hHeld3 => ?_)
        clear hK K hHeld3 hS
        refine wpAnyH_done (by kernel_rfl) ?_ _
        clear hHeld2
        generalize V3.setRow Wd.heap.size #[.int .i64 frm, .slice none 0 0, .slice qoV3 q qcV3] = WZ at *
        go_wp2_with fail
        go_meet
        case rel => exact ⟨Wd.heap.size, qoV3, qcV3, rfl, HRZ.out, HDZ.out, HGV3.out.2, HBZ.out⟩
  case rest =>
    obtain ⟨g, qo, qc, rfl, HG, HD0, HGE, HBX⟩ := hcut
    go_wp2_with fail
    go_loopw [4] (fun s4 wr => ∃ (k : Nat) (lo1 : Option Addr) (lc1 : Nat) (ls : List Sm.LV), s4 = .int .i64 k ∧ k ≤ sn ∧ k ≤ 70 ∧ Hid (wr.heap[g]? = some (.cells #[.int .i64 frm, .slice lo1 k lc1, .slice qo q qc] 39 (0, 0))) ∧ Hid (Sm.OwnL wr W2.heap.size (.slice lo1 k lc1) ls) ∧ Hid (Sm.bytesL ls = Sm.cutL ps k 1300) ∧ Hid (ls.length = k) ∧ Hid (capsL ls) ∧ Hid (Sm.DgO wr W2.heap.size (.slice qo q qc) (ds.take q)) ∧ Hid (Below W2.heap.size W2 wr)) (fun x _ => 70 - (intOf x).toNat)
    case atStart => exact ⟨0, none, 0, [], rfl, Nat.zero_le _, Nat.zero_le _, HG, ⟨World.ownsRow_nil _ _ _ _, fun p hp => by cases hp⟩, rfl, rfl, capsL_nil, HD0, HBX⟩
    case round =>
      obtain ⟨k, lo1, lc1, ls, rfl, hk, hk70, HRR, HO, HE, HLN, HCP, HD, HBE⟩ := hrel
      have HSW : Hid _ := HS.out wr HBE.out
      have hs1 := HSW.out.2.2.1
      by_cases hlt : k < sn ∧ k < 70
      case neg =>
        have HF : Hid (Sm.bytesL ls = Sm.cutL ps 70 1300) := by
          show _ = _
          rw [HE.out]
          rcases Nat.lt_or_ge k 70 with h | h
          · exact Sm.cutL_more ps k 70 1300 (by have := HPN.out.1; omega) (by omega)
          · rw [show k = 70 by omega]
        by_cases h1 : k < sn
        · have h1z : (k : Int) < (sn : Int) := by omega
          have h2z : ¬ (k : Int) < 70 := by omega
          have h2d : decide ((k : Int) < 70) = false := decide_eq_false h2z
          clear hlt h1
          have hk := HLN.out
          subst hk
          go_wp2_with (first | (refine wpList_load_row rfl 39 (.tmp 3) rfl g rfl 39 #[.int .i64 frm, .slice lo1 ls.length lc1, .slice qo q qc] (0, 0) _ HRR.out Tryd.underlying39 rfl size39 ?_) | (refine wpList_store_row rfl 39 (.tmp 2) (.tmp 48) rfl (w.heap.size + 1) #[.int .i64 frm, .slice lo1 ls.length lc1, .slice qo q qc] rfl rfl 39 zeroSC HSW.out.2.2.2 size39 rfl (one3 _ _ _ _ _ _ _) ?_))
          (try simp only [Exit.inBlock, Exit.then])
          refine bodyPost_ret (results_cell_row rfl _ _ (w.heap.size + 1) 39 #[.int .i64 frm, .slice lo1 ls.length lc1, .slice qo q qc] (0, 0) _ rfl (setRow_heap _ _ _ _ _ _ HSW.out.2.2.2) Tryd.underlying39 rfl size39) rfl ?_
          have hV : ∀ j, j ≠ w.heap.size + 1 → (wr.setRow (w.heap.size + 1) #[.int .i64 frm, .slice lo1 ls.length lc1, .slice qo q qc]).heap[j]? = wr.heap[j]? := fun j hj => setRow_other wr _ j _ hj
          have hO := ownL_type HO.out HSW.out.2.2.2 hV
          have hD := dgo_type HD.out HSW.out.2.2.2 hV
          exact ⟨lo1, lc1, qo, qc, ls, rfl, ⟨ownsRow_mono hO.1 HF2.out.2.2.1.size, hO.2⟩, HCP.out, hk70, HF.out, hD.mono HF2.out.2.2.1.size, below_setRow (HF2.out.2.2.1.trans (HBE.out.mono HF2.out.2.2.1.size)) (by omega) _⟩
        · have h1z : ¬ (k : Int) < (sn : Int) := by omega
          have h1d : decide ((k : Int) < (sn : Int)) = false := decide_eq_false h1z
          have h1n : decide (k < sn) = false := decide_eq_false h1
          clear hlt h1
          have hk := HLN.out
          subst hk
          go_wp2_with (first | (refine wpList_load_row rfl 39 (.tmp 3) rfl g rfl 39 #[.int .i64 frm, .slice lo1 ls.length lc1, .slice qo q qc] (0, 0) _ HRR.out Tryd.underlying39 rfl size39 ?_) | (refine wpList_store_row rfl 39 (.tmp 2) (.tmp 48) rfl (w.heap.size + 1) #[.int .i64 frm, .slice lo1 ls.length lc1, .slice qo q qc] rfl rfl 39 zeroSC HSW.out.2.2.2 size39 rfl (one3 _ _ _ _ _ _ _) ?_))
          (try simp only [Exit.inBlock, Exit.then])
          refine bodyPost_ret (results_cell_row rfl _ _ (w.heap.size + 1) 39 #[.int .i64 frm, .slice lo1 ls.length lc1, .slice qo q qc] (0, 0) _ rfl (setRow_heap _ _ _ _ _ _ HSW.out.2.2.2) Tryd.underlying39 rfl size39) rfl ?_
          have hV : ∀ j, j ≠ w.heap.size + 1 → (wr.setRow (w.heap.size + 1) #[.int .i64 frm, .slice lo1 ls.length lc1, .slice qo q qc]).heap[j]? = wr.heap[j]? := fun j hj => setRow_other wr _ j _ hj
          have hO := ownL_type HO.out HSW.out.2.2.2 hV
          have hD := dgo_type HD.out HSW.out.2.2.2 hV
          exact ⟨lo1, lc1, qo, qc, ls, rfl, ⟨ownsRow_mono hO.1 HF2.out.2.2.1.size, hO.2⟩, HCP.out, hk70, HF.out, hD.mono HF2.out.2.2.1.size, below_setRow (HF2.out.2.2.1.trans (HBE.out.mono HF2.out.2.2.1.size)) (by omega) _⟩
      case pos =>
        have HWI : Hid (wrap64 ((k : Int) + 1) = ((k + 1 : Nat) : Int)) := by show _ = _; unfold wrap64; omega
        have HK1 : Hid (k + 1 ≤ sn ∧ k + 1 ≤ 70) := ⟨by omega, by omega⟩
        have h1z : (k : Int) < (sn : Int) := by omega
        have h2z : (k : Int) < 70 := by omega
        have h1d : decide ((k : Int) < (sn : Int)) = true := decide_eq_true h1z
        have h2d : decide ((k : Int) < 70) = true := decide_eq_true h2z
        have h1n : decide (k < sn) = true := decide_eq_true hlt.1
        obtain rfl := HPN.out.2 (by omega)
        obtain ⟨⟨pao, pn, pc, pb⟩, HP⟩ : ∃ p, Hid (ps[k]? = some p) := ⟨_, List.getElem?_eq_getElem (by have := HPN.out.1; omega)⟩
        have HPK : Hid (∀ W, Below W2.heap.size W2 W → W.cell? ⟨b, off + k, none⟩ = some (.slice pao pn pc)) := fun W hW => Sm.bel_cell2 hW (Nat.le_refl _) (HPS.out k _ HP.out).1
        have HPB0 : Hid (Bytes W2 pao pn pb ∧ pn ≤ pc ∧ pc ≤ 9223372036854775807 ∧ (pao = none → pc = 0)) := (HPS.out k _ HP.out).2
        obtain ⟨m, HM⟩ : ∃ m, Hid (min pn 1300 = m) := ⟨_, rfl⟩
        have hm : min (pn : Int) 1300 = (m : Int) := by have := HM.out; omega
        have hmc : m ≤ pc := by have := HM.out; have := HPB0.out.2.1; omega
        have hmcz : (m : Int) ≤ (pc : Int) := by omega
        have HM2 : Hid (m ≤ pn ∧ m ≤ 1300) := by show _ ∧ _; have := HM.out; omega
        have HTB : Hid (pb.take 1300 = pb.take m) := by
          show _ = _
          have h := HPB0.out.1.1
          have h2 := HM.out
          rcases Nat.lt_or_ge pn 1300 with h3 | h3
          · rw [List.take_of_length_le (by omega), List.take_of_length_le (by omega)]
          · rw [show m = 1300 by omega]
        go_upto_region 5 with fail
        clear h1d h2d h1n hs1 hlt
        have HSd : Hid _ := HS.out _ (Below.drew HBE.out)
        refine wp_region_held_drew (S := fun W => W.cell? ⟨w.heap.size, 1, none⟩ = some (.slice (some ⟨b, off, none⟩) sn sc) ∧ W.cell? ⟨b, off + k, none⟩ = some (.slice pao pn pc)) (by kernel_rfl) ⟨HSd.out.2.2.1, HPK.out _ (Below.drew HBE.out)⟩ (fun hS => ?_)
        obtain ⟨Wd, HWd⟩ : ∃ W, Hid (wr.drew = W) := ⟨_, rfl⟩
        have HBWd : Hid (Below W2.heap.size W2 Wd) := by show Below _ _ _; rw [← HWd.out]; exact Below.drew HBE.out
        have HRd : Hid (Wd.heap[g]? = some (.cells #[.int .i64 frm, .slice lo1 k lc1, .slice qo q qc] 39 (0, 0))) := by show _ = _; rw [← HWd.out]; exact HRR.out
        have HOd : Hid (Sm.OwnL Wd W2.heap.size (.slice lo1 k lc1) ls) := by show Sm.OwnL _ _ _ _; rw [← HWd.out]; exact HO.out
        have HDd : Hid (Sm.DgO Wd W2.heap.size (.slice qo q qc) (ds.take q)) := by show Sm.DgO _ _ _ _; rw [← HWd.out]; exact HD.out
        have HWWd : Hid (Below Wd.heap.size Wd Wd) := Below.refl _ _
        have HGL : Hid (g < Wd.heap.size) := (Array.getElem?_eq_some_iff.1 HRd.out).1
        have HPBd : Hid (Bytes Wd pao pn pb ∧ pn ≤ pc ∧ pc ≤ 9223372036854775807 ∧ (pao = none → pc = 0)) := ⟨bytes_kept HPB0.out.1 HBWd.out (Nat.le_refl _), HPB0.out.2⟩
        rw [HWd.out] at hS ⊢
        refine wpAnyH_take (i := 0) (v := ?_) rfl (by kernel_rfl) (by kernel_rfl) (by kernel_rfl) (fun _ _ _ h => h) (Or.inl ⟨by rfl, ?_⟩) (by assumption) ?_
        rotate_left
        · (intro w hSw; (try dsimp only at hSw); go_simp; try with_reducible rfl)
        simp only [Act.put, List.getElem_toArray, List.getElem_cons_zero, List.setIfInBounds_toArray, List.set_cons_zero, List.set_cons_succ]
        refine wpAnyH_take (i := 3) (v := ?_) rfl (by kernel_rfl) (by kernel_rfl) (by kernel_rfl) (fun _ _ _ h => h) (Or.inl ⟨by rfl, ?_⟩) (by assumption) ?_
        rotate_left
        · (intro w hSw; (try dsimp only at hSw); go_simp; try with_reducible rfl)
        simp only [Act.put, List.getElem_toArray, List.getElem_cons_zero, List.getElem_cons_succ, List.setIfInBounds_toArray, List.set_cons_zero, List.set_cons_succ]
        refine wpAnyH_take (i := 4) (v := ?_) rfl (by kernel_rfl) (by kernel_rfl) (by kernel_rfl) (fun _ _ _ h => h) (Or.inl ⟨by rfl, ?_⟩) (by assumption) ?_
        rotate_left
        · (intro w hSw; (try dsimp only at hSw); go_simp; try with_reducible rfl)
        simp only [Act.put, List.getElem_toArray, List.getElem_cons_zero, List.getElem_cons_succ, List.setIfInBounds_toArray, List.set_cons_zero, List.set_cons_succ]
        refine wpAnyH_take (i := 5) (v := ?_) rfl (by kernel_rfl) (by kernel_rfl) (by kernel_rfl) (fun _ _ _ h => h) (Or.inl ⟨by rfl, ?_⟩) (by assumption) ?_
        rotate_left
        · (intro w hSw; (try dsimp only at hSw); go_simp; try with_reducible rfl)
        simp only [Act.put, List.getElem_toArray, List.getElem_cons_zero, List.getElem_cons_succ, List.setIfInBounds_toArray, List.set_cons_zero, List.set_cons_succ]
        refine wpAnyH_take (i := 6) (v := ?_) rfl (by kernel_rfl) (by kernel_rfl) (by kernel_rfl) (fun _ _ _ h => h) (Or.inl ⟨by rfl, ?_⟩) (by assumption) ?_
        rotate_left
        · (intro w hSw; (try dsimp only at hSw); go_simp; try with_reducible rfl)
        simp only [Act.put, List.getElem_toArray, List.getElem_cons_zero, List.getElem_cons_succ, List.setIfInBounds_toArray, List.set_cons_zero, List.set_cons_succ]
        refine wpAnyH_take (i := 7) (v := ?_) rfl (by kernel_rfl) (by kernel_rfl) (by kernel_rfl) (fun _ _ _ h => h) (Or.inl ⟨by rfl, ?_⟩) (by assumption) ?_
        rotate_left
        · (intro w hSw; (try dsimp only at hSw); go_simp; try with_reducible rfl)
        simp only [Act.put, List.getElem_toArray, List.getElem_cons_zero, List.getElem_cons_succ, List.setIfInBounds_toArray, List.set_cons_zero, List.set_cons_succ]
        refine wpAnyH_take (i := 8) (v := ?_) rfl (by kernel_rfl) (by kernel_rfl) (by kernel_rfl) (fun _ _ _ h => h) (Or.inl ⟨by rfl, ?_⟩) (by assumption) ?_
        rotate_left
        · (intro w hSw; (try dsimp only at hSw); go_simp; try with_reducible rfl)
        simp only [Act.put, List.getElem_toArray, List.getElem_cons_zero, List.getElem_cons_succ, List.setIfInBounds_toArray, List.set_cons_zero, List.set_cons_succ]
        refine wpAnyH_take (i := 9) (v := ?_) rfl (by kernel_rfl) (by kernel_rfl) (by kernel_rfl) (fun _ _ _ h => h) (Or.inl ⟨by rfl, ?_⟩) (by assumption) ?_
        rotate_left
        · (intro w hSw; (try dsimp only at hSw); go_simp; try with_reducible rfl)
        simp only [Act.put, List.getElem_toArray, List.getElem_cons_zero, List.getElem_cons_succ, List.setIfInBounds_toArray, List.set_cons_zero, List.set_cons_succ]
        refine wpAnyH_take (i := 10) (v := ?_) rfl (by kernel_rfl) (by kernel_rfl) (by kernel_rfl) (fun _ _ _ h => h) (Or.inl ⟨by rfl, ?_⟩) (by assumption) ?_
        rotate_left
        · (intro w hSw; (try dsimp only at hSw); go_simp; try with_reducible rfl)
        simp only [Act.put, List.getElem_toArray, List.getElem_cons_zero, List.getElem_cons_succ, List.setIfInBounds_toArray, List.set_cons_zero, List.set_cons_succ]
        refine wpAnyH_take (i := 11) (v := ?_) rfl (by kernel_rfl) (by kernel_rfl) (by kernel_rfl) (fun _ _ _ h => h) (Or.inl ⟨by rfl, ?_⟩) (by assumption) ?_
        rotate_left
        · (intro w hSw; (try dsimp only at hSw); go_simp; try with_reducible rfl)
        simp only [Act.put, List.getElem_toArray, List.getElem_cons_zero, List.getElem_cons_succ, List.setIfInBounds_toArray, List.set_cons_zero, List.set_cons_succ]
        refine wpAnyH_take (i := 12) (v := ?_) rfl (by kernel_rfl) (by kernel_rfl) (by kernel_rfl) (fun _ _ _ h => h) (Or.inl ⟨by rfl, ?_⟩) (by assumption) ?_
        rotate_left
        · (intro w hSw; (try dsimp only at hSw); go_simp; try with_reducible rfl)
        simp only [Act.put, List.getElem_toArray, List.getElem_cons_zero, List.getElem_cons_succ, List.setIfInBounds_toArray, List.set_cons_zero, List.set_cons_succ]
        refine wpAnyH_take (i := 13) (v := ?_) rfl (by kernel_rfl) (by kernel_rfl) (by kernel_rfl) (fun _ _ _ h => h) (Or.inl ⟨by rfl, ?_⟩) (by assumption) ?_
        rotate_left
        · (intro w hSw; (try dsimp only at hSw); go_simp; try with_reducible rfl)
        simp only [Act.put, List.getElem_toArray, List.getElem_cons_zero, List.getElem_cons_succ, List.setIfInBounds_toArray, List.set_cons_zero, List.set_cons_succ]
        refine wpAnyH_take (i := 14) (v := ?_) rfl (by kernel_rfl) (by kernel_rfl) (by kernel_rfl) (fun _ _ _ h => h) (Or.inl ⟨by rfl, ?_⟩) (by assumption) ?_
        rotate_left
        · (intro w hSw; (try dsimp only at hSw); go_simp; try with_reducible rfl)
        simp only [Act.put, List.getElem_toArray, List.getElem_cons_zero, List.getElem_cons_succ, List.setIfInBounds_toArray, List.set_cons_zero, List.set_cons_succ]
        refine wpAnyH_take (i := 15) (v := ?_) rfl (by kernel_rfl) (by kernel_rfl) (by kernel_rfl) (fun _ _ _ h => h) (Or.inl ⟨by rfl, ?_⟩) (by assumption) ?_
        rotate_left
        · (intro w hSw; (try dsimp only at hSw); go_simp; try with_reducible rfl)
        simp only [Act.put, List.getElem_toArray, List.getElem_cons_zero, List.getElem_cons_succ, List.setIfInBounds_toArray, List.set_cons_zero, List.set_cons_succ]
        refine wpAnyH_ready (rs := [1, 2]) (by kernel_rfl) (by simp) ?_
        refine AllReadyH.cons rfl (fun K hK => ?_) (AllReadyH.cons rfl (fun K hK => ?_) AllReadyH.nil)
        · have hrw := (HWWd.out.block _ HGL.out).trans HRd.out
          have c1 : Wd.cell? ⟨g, 1, none⟩ = some (.slice lo1 k lc1) := by rw [cell_of_row _ _ _ _ _ _ hrw]; rfl
          go_simp
          refine hK.out _ _ ⟨(HS.out Wd (HBWd.out.trans (HWWd.out.mono HBWd.out.size))).2.2.1, HPK.out Wd (HBWd.out.trans (HWWd.out.mono HBWd.out.size))⟩ (fun hHeld2 => ?_)
          clear hK K hrw c1 hHeld2
          try simp only [Act.put, List.getElem_toArray, List.getElem_cons_zero, List.getElem_cons_succ, List.setIfInBounds_toArray, List.set_cons_zero, List.set_cons_succ]
          refine wpAnyH_ready (rs := [2]) (by kernel_rfl) (by simp) ?_
          refine AllReadyH.cons rfl (fun K hK => ?_) AllReadyH.nil
          go_simp
          obtain ⟨X1, HX1⟩ : ∃ V, Hid (Wd.alloc (.cells #[] 5) = V) := ⟨_, rfl⟩
          have HWX1 : Hid (Below Wd.heap.size Wd X1) := by show Below _ _ _; rw [← HX1.out]; exact HWWd.out.alloc HWWd.out.size _
          have HOB : Hid (X1.ownsRow Wd.heap.size 5 1 (.slice (some ⟨Wd.heap.size, 0, none⟩) 0 0) 0 (cellsOf [])) := by show World.ownsRow _ _ _ _ _ _ _; rw [← HX1.out]; exact own_empty Wd
          have HLZ : Hid (Wd.heap.size ≤ X1.heap.size ∧ Wd.heap.size ≤ Wd.heap.size) := ⟨by rw [← HX1.out]; simp, HWWd.out.size⟩
          have HPB : Hid (Bytes X1 pao m (pb.take m)) := bytes_take (bytes_kept HPBd.out.1 HWX1.out (Nat.le_refl _)) m HM2.out.1
          rw [HX1.out]
          refine hK.out _ _ ⟨(HS.out X1 (HBWd.out.trans (HWX1.out.mono HBWd.out.size))).2.2.1, HPK.out X1 (HBWd.out.trans (HWX1.out.mono HBWd.out.size))⟩ (fun hHeld2 => ?_)
          clear hK K hHeld2
          clear HX1
          refine wpAnyH_ready (rs := [16]) (by kernel_rfl) (by simp) ?_
          refine AllReadyH.cons rfl (fun K hK => ?_) AllReadyH.nil
          refine Sm.step_append_bytes X1 rfl (.tmp 30) (.tmp 43) rfl _ _ 0 [] rfl HOB.out HLZ.out.1 pao m pc (pb.take m) rfl HPB.out HPBd.out.2.2.2 (by have := HM2.out; omega) ?_
          intro v2 X2 hown2 hb2
          have HWX2 : Hid (Below Wd.heap.size Wd X2) := HWX1.out.trans (hb2.mono HLZ.out.2)
          have hown3 : X2.ownsRow _ 5 1 v2 ([] ++ pb.take m).length (cellsOf ([] ++ pb.take m)) := hown2
          rw [List.nil_append] at hown3
          obtain ⟨ao2, c2, rfl, hby2, hno2, hc2, hm2, hl2, -⟩ := own_bytes hown3
          have HT2 := Sm.own_type hown3
          have hlen2 : (pb.take m).length = m := HPB.out.1
          rw [hlen2] at hby2 hc2
          skip
          have HV2 : Hid (Bytes X2 ao2 m (pb.take m) ∧ (ao2 = none → c2 = 0) ∧ m ≤ c2 ∧ c2 ≤ 9223372036854775807 ∧ ∀ a, ao2 = some a → ∃ cs fr, X2.heap[a.block]? = some (.cells cs 5 fr)) := ⟨hby2, hno2, hc2, by unfold maxLen at hm2; omega, HT2⟩
          refine hK.out _ _ ⟨(HS.out X2 (HBWd.out.trans (HWX2.out.mono HBWd.out.size))).2.2.1, HPK.out X2 (HBWd.out.trans (HWX2.out.mono HBWd.out.size))⟩ (fun hHeld2 => ?_)
          clear hK K hHeld2 hown2 hown3 hb2 hby2 hno2 hc2 hm2 hl2 HT2
          simp only [Act.put, List.getElem_toArray, List.getElem_cons_zero, List.getElem_cons_succ, List.setIfInBounds_toArray, List.set_cons_zero, List.set_cons_succ]
          try simp only [List.nil_append]
          try rw [hlen2]
          clear hlen2
          refine wpAnyH_ready (rs := [17]) (by kernel_rfl) (by simp) ?_
          refine AllReadyH.cons rfl (fun K hK => ?_) AllReadyH.nil
          go_simp
          obtain ⟨X3, HX3⟩ : ∃ V, Hid (X2.alloc (.cells #[.slice ao2 m c2] 27) = V) := ⟨_, rfl⟩
          have HWX3 : Hid (Below Wd.heap.size Wd X3) := by show Below _ _ _; rw [← HX3.out]; exact HWX2.out.alloc HWX2.out.size _
          have HC3 : Hid (∀ j u, [Value.slice ao2 m c2][j]? = some u → X3.cell? ((⟨X2.heap.size, 0, none⟩ : Addr).add j) = some u) := fun j u hu => by
            rw [← HX3.out, Addr.add_lit, cell_of_row _ _ _ _ _ _ (heap_alloc_new X2 _)]
            simpa using hu
          have HV3 : Hid (Bytes X3 ao2 m (pb.take m) ∧ ∀ a, ao2 = some a → ∃ cs fr, X3.heap[a.block]? = some (.cells cs 5 fr)) := by
            show _ ∧ _
            rw [← HX3.out]
            refine ⟨bytes_kept HV2.out.1 (bel_alloc X2 _) (Nat.le_refl _), fun a h => ?_⟩
            obtain ⟨cs, fr, h1⟩ := HV2.out.2.2.2.2 a h
            exact ⟨cs, fr, ((bel_alloc X2 _).block _ (Array.getElem?_eq_some_iff.1 h1).1).trans h1⟩
          rw [HX3.out]
          refine hK.out _ _ ⟨(HS.out X3 (HBWd.out.trans (HWX3.out.mono HBWd.out.size))).2.2.1, HPK.out X3 (HBWd.out.trans (HWX3.out.mono HBWd.out.size))⟩ (fun hHeld2 => ?_)
          clear hK K hHeld2
          clear HX3
          obtain ⟨blk, HBLK⟩ : ∃ x, Hid (X2.heap.size = x) := ⟨_, rfl⟩
          rw [HBLK.out] at HC3 ⊢
          refine wpAnyH_ready (rs := [18]) (by kernel_rfl) (by simp) ?_
          refine AllReadyH.cons rfl (fun K hK => ?_) AllReadyH.nil
          have HO3 : Hid (Sm.OwnL X3 W2.heap.size (.slice lo1 k lc1) ls) := HOd.out.below HWX3.out (Nat.le_refl _)
          have HR3 : Hid (X3.heap[g]? = some (.cells #[.int .i64 frm, .slice lo1 k lc1, .slice qo q qc] 39 (0, 0))) := (HWX3.out.block _ HGL.out).trans HRd.out
          have HD3 : Hid (Sm.DgO X3 W2.heap.size (.slice qo q qc) (ds.take q)) := Sm.DgO.below HDd.out HWX3.out (Nat.le_refl _)
          have HB3 : Hid (Below W2.heap.size W2 X3) := HBWd.out.trans (HWX3.out.mono HBWd.out.size)
          have hlk : ls.length = k := HLN.out
          refine Sm.step_append_twok X3 rfl (.tmp 29) (.tmp 45) 37 27 rfl i0 _ 1 24 Tryd.underlying37 HI.out.1 HI.out.2.1 HI.out.2.2.1 HI.out.2.2.2 rfl (by decide) W2.heap.size (.slice lo1 k lc1) ls.length (Sm.slVs ls) rfl HO3.out.1 HB3.out.size blk 1 1 [.slice ao2 m c2] rfl rfl HC3.out (fun u hu => by rw [List.mem_singleton] at hu; rw [hu]; rfl) (by omega) (by decide) ?_
          intro v4 w4 hown4 hb4 hk4 hn4
          have HO4 : Hid (Sm.OwnL w4 W2.heap.size v4 (ls ++ [⟨ao2, m, c2, pb.take m⟩])) := HO3.out.append hown4 hk4 HV3.out.1 (show m ≤ 140737488355000 by have := HM2.out; omega) HV2.out.2.1 HV3.out.2
          have HR4 : Hid (w4.heap[g]? = some (.cells #[.int .i64 frm, .slice lo1 k lc1, .slice qo q qc] 39 (0, 0))) := (hk4 _ (Array.getElem?_eq_some_iff.1 HR3.out).1 (blk_type HO3.out.1 HR3.out (by decide))).trans HR3.out
          have HD4 : Hid (Sm.DgO w4 W2.heap.size (.slice qo q qc) (ds.take q)) := ⟨own_keep HD3.out.1 HO3.out.1 (by decide) hk4, HD3.out.2⟩
          have HB4 : Hid (Below W2.heap.size W2 w4) := HB3.out.trans hb4
          obtain ⟨lo4, lc4, hv4, -⟩ := HO4.out.leaves
          rw [show (ls ++ [(⟨ao2, m, c2, pb.take m⟩ : Sm.LV)]).length = k + 1 by rw [List.length_append, hlk]; rfl] at hv4
          subst hv4
          refine hK.out _ _ ⟨(HS.out w4 HB4.out).2.2.1, HPK.out w4 HB4.out⟩ (fun hHeld3 => ?_)
          clear hK K hown4 hb4 hk4 hn4 hlk
          simp only [Act.put, List.getElem_toArray, List.getElem_cons_zero, List.getElem_cons_succ, List.setIfInBounds_toArray, List.set_cons_zero, List.set_cons_succ]
          refine wpAnyH_take (i := 19) (v := ?_) rfl (by kernel_rfl) (by kernel_rfl) (by kernel_rfl) (fun _ _ _ h => h) (Or.inl ⟨by rfl, ?_⟩) (by assumption) ?_
          rotate_left
          · (intro w hSw; (try dsimp only at hSw); go_simp; try with_reducible rfl)
          simp only [Act.put, List.getElem_toArray, List.getElem_cons_zero, List.getElem_cons_succ, List.setIfInBounds_toArray, List.set_cons_zero, List.set_cons_succ]
          clear hHeld3
          refine wpAnyH_ready (rs := [20]) (by kernel_rfl) (by simp) ?_
          refine AllReadyH.cons rfl (fun K hK => ?_) AllReadyH.nil
          have hrw := HR4.out
          have c4 : w4.cell? ⟨g, 1, none⟩ = some (.slice lo1 k lc1) := by rw [cell_of_row _ _ _ _ _ _ hrw]; rfl
          have z4 : w4.frozen? ⟨g, 1, none⟩ = false := frozen_of_row w4 _ 1 _ 39 hrw
          have HR5 : Hid ((w4.setCell ⟨g, 1, none⟩ (.slice lo4 (k + 1) lc4)).heap[g]? = some (.cells #[.int .i64 frm, .slice lo4 (k + 1) lc4, .slice qo q qc] 39 (0, 0))) := heap_set w4 g 1 _ _ _ hrw
          have hV5 : ∀ j, j ≠ g → (w4.setCell ⟨g, 1, none⟩ (.slice lo4 (k + 1) lc4)).heap[j]? = w4.heap[j]? := fun j hj => Below.heap_setCell _ _ _ _ hj
          have HO5 : Hid (Sm.OwnL (w4.setCell ⟨g, 1, none⟩ (.slice lo4 (k + 1) lc4)) W2.heap.size (.slice lo4 (k + 1) lc4) (ls ++ [⟨ao2, m, c2, pb.take m⟩])) := ownL_type HO4.out hrw hV5
          have HD5 : Hid (Sm.DgO (w4.setCell ⟨g, 1, none⟩ (.slice lo4 (k + 1) lc4)) W2.heap.size (.slice qo q qc) (ds.take q)) := dgo_type HD4.out hrw hV5
          have HB5 : Hid (Below W2.heap.size W2 (w4.setCell ⟨g, 1, none⟩ (.slice lo4 (k + 1) lc4))) := HB4.out.setCell HGE.out _
          clear hrw hV5
          go_simp
          refine hK.out _ _ ⟨(HS.out _ HB5.out).2.2.1, HPK.out _ HB5.out⟩ (fun hHeld4 => ?_)
          clear hK K hHeld4 hS c4 z4
          refine wpAnyH_done (by kernel_rfl) ?_ _
          generalize w4.setCell ⟨g, 1, none⟩ (.slice lo4 (k + 1) lc4) = w5 at *
          have HE5 : Hid (Sm.bytesL (ls ++ [⟨ao2, m, c2, pb.take m⟩]) = Sm.cutL ps (k + 1) 1300) := by
            show _ = _
            rw [Sm.bytesL_append, HE.out, Sm.cutL_succ ps k 1300 _ HP.out, HTB.out]
            rfl
          have HL5 : Hid ((ls ++ [(⟨ao2, m, c2, pb.take m⟩ : Sm.LV)]).length = k + 1) := by show _ = _; rw [List.length_append, HLN.out]; rfl
          have HC5 : Hid (capsL (ls ++ [⟨ao2, m, c2, pb.take m⟩])) := fun p hp => by
            rcases List.mem_append.1 hp with h | h
            · exact HCP.out p h
            · rw [List.mem_singleton] at h; subst h; exact ⟨HV2.out.2.2.1, HV2.out.2.2.2.1⟩
          clear hm hmc hmcz h1z h2z
          go_wp2_with fail
          go_roundw
          case rel => exact ⟨k + 1, lo4, lc4, _, by first | (rw [HWI.out]; done) | (rw [show ((k : Int) + 1) = ((k + 1 : Nat) : Int) by omega]), by have := HK1.out; omega, by have := HK1.out; omega, HR5, HO5, HE5, HL5, HC5, HD5, HB5⟩
          case measure => (try rw [HWI.out]); simp only [intOf]; have := HK1.out; omega
        · go_simp
          obtain ⟨X1, HX1⟩ : ∃ V, Hid (Wd.alloc (.cells #[] 5) = V) := ⟨_, rfl⟩
          have HWX1 : Hid (Below Wd.heap.size Wd X1) := by show Below _ _ _; rw [← HX1.out]; exact HWWd.out.alloc HWWd.out.size _
          have HOB : Hid (X1.ownsRow Wd.heap.size 5 1 (.slice (some ⟨Wd.heap.size, 0, none⟩) 0 0) 0 (cellsOf [])) := by show World.ownsRow _ _ _ _ _ _ _; rw [← HX1.out]; exact own_empty Wd
          have HLZ : Hid (Wd.heap.size ≤ X1.heap.size ∧ Wd.heap.size ≤ Wd.heap.size) := ⟨by rw [← HX1.out]; simp, HWWd.out.size⟩
          have HPB : Hid (Bytes X1 pao m (pb.take m)) := bytes_take (bytes_kept HPBd.out.1 HWX1.out (Nat.le_refl _)) m HM2.out.1
          rw [HX1.out]
          refine hK.out _ _ ⟨(HS.out X1 (HBWd.out.trans (HWX1.out.mono HBWd.out.size))).2.2.1, HPK.out X1 (HBWd.out.trans (HWX1.out.mono HBWd.out.size))⟩ (fun hHeld2 => ?_)
          clear hK K hHeld2
          clear HX1
          refine wpAnyH_ready (rs := [1, 16]) (by kernel_rfl) (by simp) ?_
          refine AllReadyH.cons rfl (fun K hK => ?_) (AllReadyH.cons rfl (fun K hK => ?_) AllReadyH.nil)
          · have hrw := (HWX1.out.block _ HGL.out).trans HRd.out
            have c1 : X1.cell? ⟨g, 1, none⟩ = some (.slice lo1 k lc1) := by rw [cell_of_row _ _ _ _ _ _ hrw]; rfl
            go_simp
            refine hK.out _ _ ⟨(HS.out X1 (HBWd.out.trans (HWX1.out.mono HBWd.out.size))).2.2.1, HPK.out X1 (HBWd.out.trans (HWX1.out.mono HBWd.out.size))⟩ (fun hHeld2 => ?_)
            clear hK K hrw c1 hHeld2
            try simp only [Act.put, List.getElem_toArray, List.getElem_cons_zero, List.getElem_cons_succ, List.setIfInBounds_toArray, List.set_cons_zero, List.set_cons_succ]
            refine wpAnyH_ready (rs := [16]) (by kernel_rfl) (by simp) ?_
            refine AllReadyH.cons rfl (fun K hK => ?_) AllReadyH.nil
            refine Sm.step_append_bytes X1 rfl (.tmp 30) (.tmp 43) rfl _ _ 0 [] rfl HOB.out HLZ.out.1 pao m pc (pb.take m) rfl HPB.out HPBd.out.2.2.2 (by have := HM2.out; omega) ?_
            intro v2 X2 hown2 hb2
            have HWX2 : Hid (Below Wd.heap.size Wd X2) := HWX1.out.trans (hb2.mono HLZ.out.2)
            have hown3 : X2.ownsRow _ 5 1 v2 ([] ++ pb.take m).length (cellsOf ([] ++ pb.take m)) := hown2
            rw [List.nil_append] at hown3
            obtain ⟨ao2, c2, rfl, hby2, hno2, hc2, hm2, hl2, -⟩ := own_bytes hown3
            have HT2 := Sm.own_type hown3
            have hlen2 : (pb.take m).length = m := HPB.out.1
            rw [hlen2] at hby2 hc2
            skip
            have HV2 : Hid (Bytes X2 ao2 m (pb.take m) ∧ (ao2 = none → c2 = 0) ∧ m ≤ c2 ∧ c2 ≤ 9223372036854775807 ∧ ∀ a, ao2 = some a → ∃ cs fr, X2.heap[a.block]? = some (.cells cs 5 fr)) := ⟨hby2, hno2, hc2, by unfold maxLen at hm2; omega, HT2⟩
            refine hK.out _ _ ⟨(HS.out X2 (HBWd.out.trans (HWX2.out.mono HBWd.out.size))).2.2.1, HPK.out X2 (HBWd.out.trans (HWX2.out.mono HBWd.out.size))⟩ (fun hHeld2 => ?_)
            clear hK K hHeld2 hown2 hown3 hb2 hby2 hno2 hc2 hm2 hl2 HT2
            simp only [Act.put, List.getElem_toArray, List.getElem_cons_zero, List.getElem_cons_succ, List.setIfInBounds_toArray, List.set_cons_zero, List.set_cons_succ]
            try simp only [List.nil_append]
            try rw [hlen2]
            clear hlen2
            refine wpAnyH_ready (rs := [17]) (by kernel_rfl) (by simp) ?_
            refine AllReadyH.cons rfl (fun K hK => ?_) AllReadyH.nil
            go_simp
            obtain ⟨X3, HX3⟩ : ∃ V, Hid (X2.alloc (.cells #[.slice ao2 m c2] 27) = V) := ⟨_, rfl⟩
            have HWX3 : Hid (Below Wd.heap.size Wd X3) := by show Below _ _ _; rw [← HX3.out]; exact HWX2.out.alloc HWX2.out.size _
            have HC3 : Hid (∀ j u, [Value.slice ao2 m c2][j]? = some u → X3.cell? ((⟨X2.heap.size, 0, none⟩ : Addr).add j) = some u) := fun j u hu => by
              rw [← HX3.out, Addr.add_lit, cell_of_row _ _ _ _ _ _ (heap_alloc_new X2 _)]
              simpa using hu
            have HV3 : Hid (Bytes X3 ao2 m (pb.take m) ∧ ∀ a, ao2 = some a → ∃ cs fr, X3.heap[a.block]? = some (.cells cs 5 fr)) := by
              show _ ∧ _
              rw [← HX3.out]
              refine ⟨bytes_kept HV2.out.1 (bel_alloc X2 _) (Nat.le_refl _), fun a h => ?_⟩
              obtain ⟨cs, fr, h1⟩ := HV2.out.2.2.2.2 a h
              exact ⟨cs, fr, ((bel_alloc X2 _).block _ (Array.getElem?_eq_some_iff.1 h1).1).trans h1⟩
            rw [HX3.out]
            refine hK.out _ _ ⟨(HS.out X3 (HBWd.out.trans (HWX3.out.mono HBWd.out.size))).2.2.1, HPK.out X3 (HBWd.out.trans (HWX3.out.mono HBWd.out.size))⟩ (fun hHeld2 => ?_)
            clear hK K hHeld2
            clear HX3
            obtain ⟨blk, HBLK⟩ : ∃ x, Hid (X2.heap.size = x) := ⟨_, rfl⟩
            rw [HBLK.out] at HC3 ⊢
            refine wpAnyH_ready (rs := [18]) (by kernel_rfl) (by simp) ?_
            refine AllReadyH.cons rfl (fun K hK => ?_) AllReadyH.nil
            have HO3 : Hid (Sm.OwnL X3 W2.heap.size (.slice lo1 k lc1) ls) := HOd.out.below HWX3.out (Nat.le_refl _)
            have HR3 : Hid (X3.heap[g]? = some (.cells #[.int .i64 frm, .slice lo1 k lc1, .slice qo q qc] 39 (0, 0))) := (HWX3.out.block _ HGL.out).trans HRd.out
            have HD3 : Hid (Sm.DgO X3 W2.heap.size (.slice qo q qc) (ds.take q)) := Sm.DgO.below HDd.out HWX3.out (Nat.le_refl _)
            have HB3 : Hid (Below W2.heap.size W2 X3) := HBWd.out.trans (HWX3.out.mono HBWd.out.size)
            have hlk : ls.length = k := HLN.out
            refine Sm.step_append_twok X3 rfl (.tmp 29) (.tmp 45) 37 27 rfl i0 _ 1 24 Tryd.underlying37 HI.out.1 HI.out.2.1 HI.out.2.2.1 HI.out.2.2.2 rfl (by decide) W2.heap.size (.slice lo1 k lc1) ls.length (Sm.slVs ls) rfl HO3.out.1 HB3.out.size blk 1 1 [.slice ao2 m c2] rfl rfl HC3.out (fun u hu => by rw [List.mem_singleton] at hu; rw [hu]; rfl) (by omega) (by decide) ?_
            intro v4 w4 hown4 hb4 hk4 hn4
            have HO4 : Hid (Sm.OwnL w4 W2.heap.size v4 (ls ++ [⟨ao2, m, c2, pb.take m⟩])) := HO3.out.append hown4 hk4 HV3.out.1 (show m ≤ 140737488355000 by have := HM2.out; omega) HV2.out.2.1 HV3.out.2
            have HR4 : Hid (w4.heap[g]? = some (.cells #[.int .i64 frm, .slice lo1 k lc1, .slice qo q qc] 39 (0, 0))) := (hk4 _ (Array.getElem?_eq_some_iff.1 HR3.out).1 (blk_type HO3.out.1 HR3.out (by decide))).trans HR3.out
            have HD4 : Hid (Sm.DgO w4 W2.heap.size (.slice qo q qc) (ds.take q)) := ⟨own_keep HD3.out.1 HO3.out.1 (by decide) hk4, HD3.out.2⟩
            have HB4 : Hid (Below W2.heap.size W2 w4) := HB3.out.trans hb4
            obtain ⟨lo4, lc4, hv4, -⟩ := HO4.out.leaves
            rw [show (ls ++ [(⟨ao2, m, c2, pb.take m⟩ : Sm.LV)]).length = k + 1 by rw [List.length_append, hlk]; rfl] at hv4
            subst hv4
            refine hK.out _ _ ⟨(HS.out w4 HB4.out).2.2.1, HPK.out w4 HB4.out⟩ (fun hHeld3 => ?_)
            clear hK K hown4 hb4 hk4 hn4 hlk
            simp only [Act.put, List.getElem_toArray, List.getElem_cons_zero, List.getElem_cons_succ, List.setIfInBounds_toArray, List.set_cons_zero, List.set_cons_succ]
            refine wpAnyH_take (i := 19) (v := ?_) rfl (by kernel_rfl) (by kernel_rfl) (by kernel_rfl) (fun _ _ _ h => h) (Or.inl ⟨by rfl, ?_⟩) (by assumption) ?_
            rotate_left
            · (intro w hSw; (try dsimp only at hSw); go_simp; try with_reducible rfl)
            simp only [Act.put, List.getElem_toArray, List.getElem_cons_zero, List.getElem_cons_succ, List.setIfInBounds_toArray, List.set_cons_zero, List.set_cons_succ]
            clear hHeld3
            refine wpAnyH_ready (rs := [20]) (by kernel_rfl) (by simp) ?_
            refine AllReadyH.cons rfl (fun K hK => ?_) AllReadyH.nil
            have hrw := HR4.out
            have c4 : w4.cell? ⟨g, 1, none⟩ = some (.slice lo1 k lc1) := by rw [cell_of_row _ _ _ _ _ _ hrw]; rfl
            have z4 : w4.frozen? ⟨g, 1, none⟩ = false := frozen_of_row w4 _ 1 _ 39 hrw
            have HR5 : Hid ((w4.setCell ⟨g, 1, none⟩ (.slice lo4 (k + 1) lc4)).heap[g]? = some (.cells #[.int .i64 frm, .slice lo4 (k + 1) lc4, .slice qo q qc] 39 (0, 0))) := heap_set w4 g 1 _ _ _ hrw
            have hV5 : ∀ j, j ≠ g → (w4.setCell ⟨g, 1, none⟩ (.slice lo4 (k + 1) lc4)).heap[j]? = w4.heap[j]? := fun j hj => Below.heap_setCell _ _ _ _ hj
            have HO5 : Hid (Sm.OwnL (w4.setCell ⟨g, 1, none⟩ (.slice lo4 (k + 1) lc4)) W2.heap.size (.slice lo4 (k + 1) lc4) (ls ++ [⟨ao2, m, c2, pb.take m⟩])) := ownL_type HO4.out hrw hV5
            have HD5 : Hid (Sm.DgO (w4.setCell ⟨g, 1, none⟩ (.slice lo4 (k + 1) lc4)) W2.heap.size (.slice qo q qc) (ds.take q)) := dgo_type HD4.out hrw hV5
            have HB5 : Hid (Below W2.heap.size W2 (w4.setCell ⟨g, 1, none⟩ (.slice lo4 (k + 1) lc4))) := HB4.out.setCell HGE.out _
            clear hrw hV5
            go_simp
            refine hK.out _ _ ⟨(HS.out _ HB5.out).2.2.1, HPK.out _ HB5.out⟩ (fun hHeld4 => ?_)
            clear hK K hHeld4 hS c4 z4
            refine wpAnyH_done (by kernel_rfl) ?_ _
            generalize w4.setCell ⟨g, 1, none⟩ (.slice lo4 (k + 1) lc4) = w5 at *
            have HE5 : Hid (Sm.bytesL (ls ++ [⟨ao2, m, c2, pb.take m⟩]) = Sm.cutL ps (k + 1) 1300) := by
              show _ = _
              rw [Sm.bytesL_append, HE.out, Sm.cutL_succ ps k 1300 _ HP.out, HTB.out]
              rfl
            have HL5 : Hid ((ls ++ [(⟨ao2, m, c2, pb.take m⟩ : Sm.LV)]).length = k + 1) := by show _ = _; rw [List.length_append, HLN.out]; rfl
            have HC5 : Hid (capsL (ls ++ [⟨ao2, m, c2, pb.take m⟩])) := fun p hp => by
              rcases List.mem_append.1 hp with h | h
              · exact HCP.out p h
              · rw [List.mem_singleton] at h; subst h; exact ⟨HV2.out.2.2.1, HV2.out.2.2.2.1⟩
            clear hm hmc hmcz h1z h2z
            go_wp2_with fail
            go_roundw
            case rel => exact ⟨k + 1, lo4, lc4, _, by first | (rw [HWI.out]; done) | (rw [show ((k : Int) + 1) = ((k + 1 : Nat) : Int) by omega]), by have := HK1.out; omega, by have := HK1.out; omega, HR5, HO5, HE5, HL5, HC5, HD5, HB5⟩
            case measure => (try rw [HWI.out]); simp only [intOf]; have := HK1.out; omega
          · refine Sm.step_append_bytes X1 rfl (.tmp 30) (.tmp 43) rfl _ _ 0 [] rfl HOB.out HLZ.out.1 pao m pc (pb.take m) rfl HPB.out HPBd.out.2.2.2 (by have := HM2.out; omega) ?_
            intro v2 X2 hown2 hb2
            have HWX2 : Hid (Below Wd.heap.size Wd X2) := HWX1.out.trans (hb2.mono HLZ.out.2)
            have hown3 : X2.ownsRow _ 5 1 v2 ([] ++ pb.take m).length (cellsOf ([] ++ pb.take m)) := hown2
            rw [List.nil_append] at hown3
            obtain ⟨ao2, c2, rfl, hby2, hno2, hc2, hm2, hl2, -⟩ := own_bytes hown3
            have HT2 := Sm.own_type hown3
            have hlen2 : (pb.take m).length = m := HPB.out.1
            rw [hlen2] at hby2 hc2
            skip
            have HV2 : Hid (Bytes X2 ao2 m (pb.take m) ∧ (ao2 = none → c2 = 0) ∧ m ≤ c2 ∧ c2 ≤ 9223372036854775807 ∧ ∀ a, ao2 = some a → ∃ cs fr, X2.heap[a.block]? = some (.cells cs 5 fr)) := ⟨hby2, hno2, hc2, by unfold maxLen at hm2; omega, HT2⟩
            refine hK.out _ _ ⟨(HS.out X2 (HBWd.out.trans (HWX2.out.mono HBWd.out.size))).2.2.1, HPK.out X2 (HBWd.out.trans (HWX2.out.mono HBWd.out.size))⟩ (fun hHeld2 => ?_)
            clear hK K hHeld2 hown2 hown3 hb2 hby2 hno2 hc2 hm2 hl2 HT2
            simp only [Act.put, List.getElem_toArray, List.getElem_cons_zero, List.getElem_cons_succ, List.setIfInBounds_toArray, List.set_cons_zero, List.set_cons_succ]
            try simp only [List.nil_append]
            try rw [hlen2]
            clear hlen2
            refine wpAnyH_ready (rs := [1, 17]) (by kernel_rfl) (by simp) ?_
            refine AllReadyH.cons rfl (fun K hK => ?_) (AllReadyH.cons rfl (fun K hK => ?_) AllReadyH.nil)
            · have hrw := (HWX2.out.block _ HGL.out).trans HRd.out
              have c1 : X2.cell? ⟨g, 1, none⟩ = some (.slice lo1 k lc1) := by rw [cell_of_row _ _ _ _ _ _ hrw]; rfl
              go_simp
              refine hK.out _ _ ⟨(HS.out X2 (HBWd.out.trans (HWX2.out.mono HBWd.out.size))).2.2.1, HPK.out X2 (HBWd.out.trans (HWX2.out.mono HBWd.out.size))⟩ (fun hHeld2 => ?_)
              clear hK K hrw c1 hHeld2
              try simp only [Act.put, List.getElem_toArray, List.getElem_cons_zero, List.getElem_cons_succ, List.setIfInBounds_toArray, List.set_cons_zero, List.set_cons_succ]
              refine wpAnyH_ready (rs := [17]) (by kernel_rfl) (by simp) ?_
              refine AllReadyH.cons rfl (fun K hK => ?_) AllReadyH.nil
              go_simp
              obtain ⟨X3, HX3⟩ : ∃ V, Hid (X2.alloc (.cells #[.slice ao2 m c2] 27) = V) := ⟨_, rfl⟩
              have HWX3 : Hid (Below Wd.heap.size Wd X3) := by show Below _ _ _; rw [← HX3.out]; exact HWX2.out.alloc HWX2.out.size _
              have HC3 : Hid (∀ j u, [Value.slice ao2 m c2][j]? = some u → X3.cell? ((⟨X2.heap.size, 0, none⟩ : Addr).add j) = some u) := fun j u hu => by
                rw [← HX3.out, Addr.add_lit, cell_of_row _ _ _ _ _ _ (heap_alloc_new X2 _)]
                simpa using hu
              have HV3 : Hid (Bytes X3 ao2 m (pb.take m) ∧ ∀ a, ao2 = some a → ∃ cs fr, X3.heap[a.block]? = some (.cells cs 5 fr)) := by
                show _ ∧ _
                rw [← HX3.out]
                refine ⟨bytes_kept HV2.out.1 (bel_alloc X2 _) (Nat.le_refl _), fun a h => ?_⟩
                obtain ⟨cs, fr, h1⟩ := HV2.out.2.2.2.2 a h
                exact ⟨cs, fr, ((bel_alloc X2 _).block _ (Array.getElem?_eq_some_iff.1 h1).1).trans h1⟩
              rw [HX3.out]
              refine hK.out _ _ ⟨(HS.out X3 (HBWd.out.trans (HWX3.out.mono HBWd.out.size))).2.2.1, HPK.out X3 (HBWd.out.trans (HWX3.out.mono HBWd.out.size))⟩ (fun hHeld2 => ?_)
              clear hK K hHeld2
              clear HX3
              obtain ⟨blk, HBLK⟩ : ∃ x, Hid (X2.heap.size = x) := ⟨_, rfl⟩
              rw [HBLK.out] at HC3 ⊢
              refine wpAnyH_ready (rs := [18]) (by kernel_rfl) (by simp) ?_
              refine AllReadyH.cons rfl (fun K hK => ?_) AllReadyH.nil
              have HO3 : Hid (Sm.OwnL X3 W2.heap.size (.slice lo1 k lc1) ls) := HOd.out.below HWX3.out (Nat.le_refl _)
              have HR3 : Hid (X3.heap[g]? = some (.cells #[.int .i64 frm, .slice lo1 k lc1, .slice qo q qc] 39 (0, 0))) := (HWX3.out.block _ HGL.out).trans HRd.out
              have HD3 : Hid (Sm.DgO X3 W2.heap.size (.slice qo q qc) (ds.take q)) := Sm.DgO.below HDd.out HWX3.out (Nat.le_refl _)
              have HB3 : Hid (Below W2.heap.size W2 X3) := HBWd.out.trans (HWX3.out.mono HBWd.out.size)
              have hlk : ls.length = k := HLN.out
              refine Sm.step_append_twok X3 rfl (.tmp 29) (.tmp 45) 37 27 rfl i0 _ 1 24 Tryd.underlying37 HI.out.1 HI.out.2.1 HI.out.2.2.1 HI.out.2.2.2 rfl (by decide) W2.heap.size (.slice lo1 k lc1) ls.length (Sm.slVs ls) rfl HO3.out.1 HB3.out.size blk 1 1 [.slice ao2 m c2] rfl rfl HC3.out (fun u hu => by rw [List.mem_singleton] at hu; rw [hu]; rfl) (by omega) (by decide) ?_
              intro v4 w4 hown4 hb4 hk4 hn4
              have HO4 : Hid (Sm.OwnL w4 W2.heap.size v4 (ls ++ [⟨ao2, m, c2, pb.take m⟩])) := HO3.out.append hown4 hk4 HV3.out.1 (show m ≤ 140737488355000 by have := HM2.out; omega) HV2.out.2.1 HV3.out.2
              have HR4 : Hid (w4.heap[g]? = some (.cells #[.int .i64 frm, .slice lo1 k lc1, .slice qo q qc] 39 (0, 0))) := (hk4 _ (Array.getElem?_eq_some_iff.1 HR3.out).1 (blk_type HO3.out.1 HR3.out (by decide))).trans HR3.out
              have HD4 : Hid (Sm.DgO w4 W2.heap.size (.slice qo q qc) (ds.take q)) := ⟨own_keep HD3.out.1 HO3.out.1 (by decide) hk4, HD3.out.2⟩
              have HB4 : Hid (Below W2.heap.size W2 w4) := HB3.out.trans hb4
              obtain ⟨lo4, lc4, hv4, -⟩ := HO4.out.leaves
              rw [show (ls ++ [(⟨ao2, m, c2, pb.take m⟩ : Sm.LV)]).length = k + 1 by rw [List.length_append, hlk]; rfl] at hv4
              subst hv4
              refine hK.out _ _ ⟨(HS.out w4 HB4.out).2.2.1, HPK.out w4 HB4.out⟩ (fun hHeld3 => ?_)
              clear hK K hown4 hb4 hk4 hn4 hlk
              simp only [Act.put, List.getElem_toArray, List.getElem_cons_zero, List.getElem_cons_succ, List.setIfInBounds_toArray, List.set_cons_zero, List.set_cons_succ]
              refine wpAnyH_take (i := 19) (v := ?_) rfl (by kernel_rfl) (by kernel_rfl) (by kernel_rfl) (fun _ _ _ h => h) (Or.inl ⟨by rfl, ?_⟩) (by assumption) ?_
              rotate_left
              · (intro w hSw; (try dsimp only at hSw); go_simp; try with_reducible rfl)
              simp only [Act.put, List.getElem_toArray, List.getElem_cons_zero, List.getElem_cons_succ, List.setIfInBounds_toArray, List.set_cons_zero, List.set_cons_succ]
              clear hHeld3
              refine wpAnyH_ready (rs := [20]) (by kernel_rfl) (by simp) ?_
              refine AllReadyH.cons rfl (fun K hK => ?_) AllReadyH.nil
              have hrw := HR4.out
              have c4 : w4.cell? ⟨g, 1, none⟩ = some (.slice lo1 k lc1) := by rw [cell_of_row _ _ _ _ _ _ hrw]; rfl
              have z4 : w4.frozen? ⟨g, 1, none⟩ = false := frozen_of_row w4 _ 1 _ 39 hrw
              have HR5 : Hid ((w4.setCell ⟨g, 1, none⟩ (.slice lo4 (k + 1) lc4)).heap[g]? = some (.cells #[.int .i64 frm, .slice lo4 (k + 1) lc4, .slice qo q qc] 39 (0, 0))) := heap_set w4 g 1 _ _ _ hrw
              have hV5 : ∀ j, j ≠ g → (w4.setCell ⟨g, 1, none⟩ (.slice lo4 (k + 1) lc4)).heap[j]? = w4.heap[j]? := fun j hj => Below.heap_setCell _ _ _ _ hj
              have HO5 : Hid (Sm.OwnL (w4.setCell ⟨g, 1, none⟩ (.slice lo4 (k + 1) lc4)) W2.heap.size (.slice lo4 (k + 1) lc4) (ls ++ [⟨ao2, m, c2, pb.take m⟩])) := ownL_type HO4.out hrw hV5
              have HD5 : Hid (Sm.DgO (w4.setCell ⟨g, 1, none⟩ (.slice lo4 (k + 1) lc4)) W2.heap.size (.slice qo q qc) (ds.take q)) := dgo_type HD4.out hrw hV5
              have HB5 : Hid (Below W2.heap.size W2 (w4.setCell ⟨g, 1, none⟩ (.slice lo4 (k + 1) lc4))) := HB4.out.setCell HGE.out _
              clear hrw hV5
              go_simp
              refine hK.out _ _ ⟨(HS.out _ HB5.out).2.2.1, HPK.out _ HB5.out⟩ (fun hHeld4 => ?_)
              clear hK K hHeld4 hS c4 z4
              refine wpAnyH_done (by kernel_rfl) ?_ _
              generalize w4.setCell ⟨g, 1, none⟩ (.slice lo4 (k + 1) lc4) = w5 at *
              have HE5 : Hid (Sm.bytesL (ls ++ [⟨ao2, m, c2, pb.take m⟩]) = Sm.cutL ps (k + 1) 1300) := by
                show _ = _
                rw [Sm.bytesL_append, HE.out, Sm.cutL_succ ps k 1300 _ HP.out, HTB.out]
                rfl
              have HL5 : Hid ((ls ++ [(⟨ao2, m, c2, pb.take m⟩ : Sm.LV)]).length = k + 1) := by show _ = _; rw [List.length_append, HLN.out]; rfl
              have HC5 : Hid (capsL (ls ++ [⟨ao2, m, c2, pb.take m⟩])) := fun p hp => by
                rcases List.mem_append.1 hp with h | h
                · exact HCP.out p h
                · rw [List.mem_singleton] at h; subst h; exact ⟨HV2.out.2.2.1, HV2.out.2.2.2.1⟩
              clear hm hmc hmcz h1z h2z
              go_wp2_with fail
              go_roundw
              case rel => exact ⟨k + 1, lo4, lc4, _, by first | (rw [HWI.out]; done) | (rw [show ((k : Int) + 1) = ((k + 1 : Nat) : Int) by omega]), by have := HK1.out; omega, by have := HK1.out; omega, HR5, HO5, HE5, HL5, HC5, HD5, HB5⟩
              case measure => (try rw [HWI.out]); simp only [intOf]; have := HK1.out; omega
            · go_simp
              obtain ⟨X3, HX3⟩ : ∃ V, Hid (X2.alloc (.cells #[.slice ao2 m c2] 27) = V) := ⟨_, rfl⟩
              have HWX3 : Hid (Below Wd.heap.size Wd X3) := by show Below _ _ _; rw [← HX3.out]; exact HWX2.out.alloc HWX2.out.size _
              have HC3 : Hid (∀ j u, [Value.slice ao2 m c2][j]? = some u → X3.cell? ((⟨X2.heap.size, 0, none⟩ : Addr).add j) = some u) := fun j u hu => by
                rw [← HX3.out, Addr.add_lit, cell_of_row _ _ _ _ _ _ (heap_alloc_new X2 _)]
                simpa using hu
              have HV3 : Hid (Bytes X3 ao2 m (pb.take m) ∧ ∀ a, ao2 = some a → ∃ cs fr, X3.heap[a.block]? = some (.cells cs 5 fr)) := by
                show _ ∧ _
                rw [← HX3.out]
                refine ⟨bytes_kept HV2.out.1 (bel_alloc X2 _) (Nat.le_refl _), fun a h => ?_⟩
                obtain ⟨cs, fr, h1⟩ := HV2.out.2.2.2.2 a h
                exact ⟨cs, fr, ((bel_alloc X2 _).block _ (Array.getElem?_eq_some_iff.1 h1).1).trans h1⟩
              rw [HX3.out]
              refine hK.out _ _ ⟨(HS.out X3 (HBWd.out.trans (HWX3.out.mono HBWd.out.size))).2.2.1, HPK.out X3 (HBWd.out.trans (HWX3.out.mono HBWd.out.size))⟩ (fun hHeld2 => ?_)
              clear hK K hHeld2
              clear HX3
              obtain ⟨blk, HBLK⟩ : ∃ x, Hid (X2.heap.size = x) := ⟨_, rfl⟩
              rw [HBLK.out] at HC3 ⊢
              refine wpAnyH_ready (rs := [1]) (by kernel_rfl) (by simp) ?_
              refine AllReadyH.cons rfl (fun K hK => ?_) AllReadyH.nil
              have hrw := (HWX3.out.block _ HGL.out).trans HRd.out
              have c1 : X3.cell? ⟨g, 1, none⟩ = some (.slice lo1 k lc1) := by rw [cell_of_row _ _ _ _ _ _ hrw]; rfl
              go_simp
              refine hK.out _ _ ⟨(HS.out X3 (HBWd.out.trans (HWX3.out.mono HBWd.out.size))).2.2.1, HPK.out X3 (HBWd.out.trans (HWX3.out.mono HBWd.out.size))⟩ (fun hHeld2 => ?_)
              clear hK K hrw c1 hHeld2
              try simp only [Act.put, List.getElem_toArray, List.getElem_cons_zero, List.getElem_cons_succ, List.setIfInBounds_toArray, List.set_cons_zero, List.set_cons_succ]
              refine wpAnyH_ready (rs := [18]) (by kernel_rfl) (by simp) ?_
              refine AllReadyH.cons rfl (fun K hK => ?_) AllReadyH.nil
              have HO3 : Hid (Sm.OwnL X3 W2.heap.size (.slice lo1 k lc1) ls) := HOd.out.below HWX3.out (Nat.le_refl _)
              have HR3 : Hid (X3.heap[g]? = some (.cells #[.int .i64 frm, .slice lo1 k lc1, .slice qo q qc] 39 (0, 0))) := (HWX3.out.block _ HGL.out).trans HRd.out
              have HD3 : Hid (Sm.DgO X3 W2.heap.size (.slice qo q qc) (ds.take q)) := Sm.DgO.below HDd.out HWX3.out (Nat.le_refl _)
              have HB3 : Hid (Below W2.heap.size W2 X3) := HBWd.out.trans (HWX3.out.mono HBWd.out.size)
              have hlk : ls.length = k := HLN.out
              refine Sm.step_append_twok X3 rfl (.tmp 29) (.tmp 45) 37 27 rfl i0 _ 1 24 Tryd.underlying37 HI.out.1 HI.out.2.1 HI.out.2.2.1 HI.out.2.2.2 rfl (by decide) W2.heap.size (.slice lo1 k lc1) ls.length (Sm.slVs ls) rfl HO3.out.1 HB3.out.size blk 1 1 [.slice ao2 m c2] rfl rfl HC3.out (fun u hu => by rw [List.mem_singleton] at hu; rw [hu]; rfl) (by omega) (by decide) ?_
              intro v4 w4 hown4 hb4 hk4 hn4
              have HO4 : Hid (Sm.OwnL w4 W2.heap.size v4 (ls ++ [⟨ao2, m, c2, pb.take m⟩])) := HO3.out.append hown4 hk4 HV3.out.1 (show m ≤ 140737488355000 by have := HM2.out; omega) HV2.out.2.1 HV3.out.2
              have HR4 : Hid (w4.heap[g]? = some (.cells #[.int .i64 frm, .slice lo1 k lc1, .slice qo q qc] 39 (0, 0))) := (hk4 _ (Array.getElem?_eq_some_iff.1 HR3.out).1 (blk_type HO3.out.1 HR3.out (by decide))).trans HR3.out
              have HD4 : Hid (Sm.DgO w4 W2.heap.size (.slice qo q qc) (ds.take q)) := ⟨own_keep HD3.out.1 HO3.out.1 (by decide) hk4, HD3.out.2⟩
              have HB4 : Hid (Below W2.heap.size W2 w4) := HB3.out.trans hb4
              obtain ⟨lo4, lc4, hv4, -⟩ := HO4.out.leaves
              rw [show (ls ++ [(⟨ao2, m, c2, pb.take m⟩ : Sm.LV)]).length = k + 1 by rw [List.length_append, hlk]; rfl] at hv4
              subst hv4
              refine hK.out _ _ ⟨(HS.out w4 HB4.out).2.2.1, HPK.out w4 HB4.out⟩ (fun hHeld3 => ?_)
              clear hK K hown4 hb4 hk4 hn4 hlk
              simp only [Act.put, List.getElem_toArray, List.getElem_cons_zero, List.getElem_cons_succ, List.setIfInBounds_toArray, List.set_cons_zero, List.set_cons_succ]
              refine wpAnyH_take (i := 19) (v := ?_) rfl (by kernel_rfl) (by kernel_rfl) (by kernel_rfl) (fun _ _ _ h => h) (Or.inl ⟨by rfl, ?_⟩) (by assumption) ?_
              rotate_left
              · (intro w hSw; (try dsimp only at hSw); go_simp; try with_reducible rfl)
              simp only [Act.put, List.getElem_toArray, List.getElem_cons_zero, List.getElem_cons_succ, List.setIfInBounds_toArray, List.set_cons_zero, List.set_cons_succ]
              clear hHeld3
              refine wpAnyH_ready (rs := [20]) (by kernel_rfl) (by simp) ?_
              refine AllReadyH.cons rfl (fun K hK => ?_) AllReadyH.nil
              have hrw := HR4.out
              have c4 : w4.cell? ⟨g, 1, none⟩ = some (.slice lo1 k lc1) := by rw [cell_of_row _ _ _ _ _ _ hrw]; rfl
              have z4 : w4.frozen? ⟨g, 1, none⟩ = false := frozen_of_row w4 _ 1 _ 39 hrw
              have HR5 : Hid ((w4.setCell ⟨g, 1, none⟩ (.slice lo4 (k + 1) lc4)).heap[g]? = some (.cells #[.int .i64 frm, .slice lo4 (k + 1) lc4, .slice qo q qc] 39 (0, 0))) := heap_set w4 g 1 _ _ _ hrw
              have hV5 : ∀ j, j ≠ g → (w4.setCell ⟨g, 1, none⟩ (.slice lo4 (k + 1) lc4)).heap[j]? = w4.heap[j]? := fun j hj => Below.heap_setCell _ _ _ _ hj
              have HO5 : Hid (Sm.OwnL (w4.setCell ⟨g, 1, none⟩ (.slice lo4 (k + 1) lc4)) W2.heap.size (.slice lo4 (k + 1) lc4) (ls ++ [⟨ao2, m, c2, pb.take m⟩])) := ownL_type HO4.out hrw hV5
              have HD5 : Hid (Sm.DgO (w4.setCell ⟨g, 1, none⟩ (.slice lo4 (k + 1) lc4)) W2.heap.size (.slice qo q qc) (ds.take q)) := dgo_type HD4.out hrw hV5
              have HB5 : Hid (Below W2.heap.size W2 (w4.setCell ⟨g, 1, none⟩ (.slice lo4 (k + 1) lc4))) := HB4.out.setCell HGE.out _
              clear hrw hV5
              go_simp
              refine hK.out _ _ ⟨(HS.out _ HB5.out).2.2.1, HPK.out _ HB5.out⟩ (fun hHeld4 => ?_)
              clear hK K hHeld4 hS c4 z4
              refine wpAnyH_done (by kernel_rfl) ?_ _
              generalize w4.setCell ⟨g, 1, none⟩ (.slice lo4 (k + 1) lc4) = w5 at *
              have HE5 : Hid (Sm.bytesL (ls ++ [⟨ao2, m, c2, pb.take m⟩]) = Sm.cutL ps (k + 1) 1300) := by
                show _ = _
                rw [Sm.bytesL_append, HE.out, Sm.cutL_succ ps k 1300 _ HP.out, HTB.out]
                rfl
              have HL5 : Hid ((ls ++ [(⟨ao2, m, c2, pb.take m⟩ : Sm.LV)]).length = k + 1) := by show _ = _; rw [List.length_append, HLN.out]; rfl
              have HC5 : Hid (capsL (ls ++ [⟨ao2, m, c2, pb.take m⟩])) := fun p hp => by
                rcases List.mem_append.1 hp with h | h
                · exact HCP.out p h
                · rw [List.mem_singleton] at h; subst h; exact ⟨HV2.out.2.2.1, HV2.out.2.2.2.1⟩
              clear hm hmc hmcz h1z h2z
              go_wp2_with fail
              go_roundw
              case rel => exact ⟨k + 1, lo4, lc4, _, by first | (rw [HWI.out]; done) | (rw [show ((k : Int) + 1) = ((k + 1 : Nat) : Int) by omega]), by have := HK1.out; omega, by have := HK1.out; omega, HR5, HO5, HE5, HL5, HC5, HD5, HB5⟩
              case measure => (try rw [HWI.out]); simp only [intOf]; have := HK1.out; omega
end Go.Proofs.YtecacjddggljgaaDoor

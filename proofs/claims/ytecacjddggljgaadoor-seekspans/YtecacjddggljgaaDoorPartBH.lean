/-
  'append(own, more...)' over this translation, and a block that is written into. What the walk over marlstonelaw02.SumPieces leans on: append in a region that draws, pieces that came in. No walk. What sum.Kept answers, whatever the capacity: a contract over this translation.
-/
import Derived.Test.YtecacjddggljgaaDoorPartBG
import Derived.Laws.AppendOwnNone
import Derived.Lib.MinMax
import Derived.Maps.AppendAt
import Derived.Deep.RegionHeld3
namespace Go.Proofs.YtecacjddggljgaaDoor.Sm
open Go.RowKit

/-- 'append(own, more...)'. -/
theorem wpList_append_bytes {ops : Array Oper} {rest : List Oper} {o : Oper} {a : Act} {Q : Exit → Act → World → Prop} (w : World)
    (hg : o.guard = none) (s x : Operand) (hop : o.op = Op.call { callee := Callee.builtin Builtin.append, args := #[s, x], argTypes := #[27, 27] })
    (base : Nat) (v : Value) (n : Nat) (bs : List UInt8) (hs : a.eval s = v) (hown : w.ownsRow base 5 1 v n (cellsOf bs)) (hbase : base ≤ w.heap.size)
    (ao : Option Addr) (m c : Nat) (ms : List UInt8) (hx : a.eval x = .slice ao m c) (hm : Bytes w ao m ms) (h0 : ao = none → c = 0)
    (hb : n + m ≤ 140737488355328)
    (hK : ∀ v' w', w'.ownsRow base 5 1 v' (bs ++ ms).length (cellsOf (bs ++ ms)) → Below base w w' → wpList Tryd.prog ops Q rest (a.put o.dst v') w') :
    wpList Tryd.prog ops Q (o :: rest) a w := by
  obtain ⟨i0, hi, hz0, hz1, hz2⟩ := info_parts info5
  have hn : n = bs.length := by have := hown.1; rw [cellsOf_length] at this; omega
  have hml := hm.1
  cases ao with
  | none =>
    have hms : ms = [] := by
      cases ms with
      | nil => rfl
      | cons b t =>
        obtain ⟨y, hy, _⟩ := hm.2 0 b (by simp)
        cases hy
    subst hms
    obtain rfl := h0 rfl
    have hm0 : m = 0 := by simpa using hml.symm
    subst hm0
    refine wpList_append_own_none hg s x 27 hop base 5 i0 1 Tryd.underlying27 hi v n (cellsOf bs) hs hown hx ?_
    exact hK v w (by rw [List.append_nil, ← hn]; exact hown) (Below.refl _ _)
  | some ad =>
    refine wpList_append_own w hg s x 27 hop base 5 i0 (.int .u8 0) 1 1 Tryd.underlying27 hi hz0 hz1 hz2 rfl (by decide) v n (cellsOf bs) hs hown ad m c (cellsOf ms) hx (by rw [cellsOf_length]; omega) ?_ (cellsOf_one ms) (by unfold maxLen; omega) (by omega) hbase ?_
    · intro j u hu
      obtain ⟨c, hc, rfl⟩ := cellsOf_at hu
      obtain ⟨y, hy, hcell⟩ := hm.2 j c hc
      cases hy
      exact hcell
    · intro v' w' h1 h2 _
      refine hK v' w' ?_ ((Below.refl _ _).grown h2 hbase (fun k hk => (hown.lt k hk).1))
      rw [List.length_append, hml, ← hn, cellsOf_append]
      exact h1

/-- The same, for a reader: the new slice written out, its numbers letters. -/
theorem wpList_append_read {ops : Array Oper} {rest : List Oper} {o : Oper} {a : Act} {Q : Exit → Act → World → Prop} (w : World)
    (hg : o.guard = none) (s x : Operand) (hop : o.op = Op.call { callee := Callee.builtin Builtin.append, args := #[s, x], argTypes := #[27, 27] })
    (base : Nat) (v : Value) (n : Nat) (bs : List UInt8) (hs : a.eval s = v) (hown : w.ownsRow base 5 1 v n (cellsOf bs)) (hbase : base ≤ w.heap.size)
    (ao : Option Addr) (m c : Nat) (ms : List UInt8) (hx : a.eval x = .slice ao m c) (hm : Bytes w ao m ms) (h0 : ao = none → c = 0)
    (hb : n + m ≤ 140737488355328)
    (hK : ∀ ao' n' c' w', Bytes w' ao' n' (bs ++ ms) → n' ≤ c' → c' ≤ 9223372036854775807 → n' ≤ n + m → Below base w w' → wpList Tryd.prog ops Q rest (a.put o.dst (.slice ao' n' c')) w') :
    wpList Tryd.prog ops Q (o :: rest) a w := by
  refine wpList_append_bytes w hg s x hop base v n bs hs hown hbase ao m c ms hx hm h0 hb ?_
  intro v' w' hown' hbel'
  obtain ⟨ao3, c3, rfl, hb3, _, hlc3, hcm3, _, _⟩ := own_bytes hown'
  have hn : n = bs.length := by have := hown.1; rw [cellsOf_length] at this; omega
  have hml := hm.1
  exact hK ao3 _ c3 w' hb3 hlc3 (by unfold maxLen at hcm3; omega) (by rw [List.length_append]; omega) hbel'

/-- The block of a row that is the call's own. -/
theorem own_cells {w : World} {base : Nat} {v : Value} {n : Nat} {bs : List UInt8} (h : w.ownsRow base 5 1 v n (cellsOf bs)) (hn : 0 < n) :
    ∃ g c R, v = .slice (some ⟨g, 0, none⟩) n c ∧ base ≤ g ∧ g < w.heap.size ∧ n ≤ c ∧ c ≤ 9223372036854775807 ∧ w.heap[g]? = some (.cells (cellsOf bs ++ R).toArray 5 (0, 0)) := by
  rcases h.2 with ⟨rfl, h0⟩ | ⟨g, cap, cur, rfl, hb, hg, hn', hm, hs, ht⟩
  · omega
  · refine ⟨g, cap, cur.toList.drop n, rfl, hb, (Array.getElem?_eq_some_iff.1 hg).1, hn', by unfold maxLen at hm; omega, ?_⟩
    rw [hg]
    have : cellsOf bs = cur.toList.take n := by rw [← ht]; simp
    rw [this, List.take_append_drop]
end Go.Proofs.YtecacjddggljgaaDoor.Sm
namespace Go.Proofs.YtecacjddggljgaaDoor.Sm
open Go.RowKit

/-- 'append(own, more...)' at a step of a region that draws its order. -/
theorem step_append_bytes {ops : Array Oper} {o : Oper} {a : Act} {K : Act → World → Prop} {Q : Exit → Act → World → Prop} {E : Prop} (w : World)
    (hg : o.guard = none) (s x : Operand) (hop : o.op = Op.call { callee := Callee.builtin Builtin.append, args := #[s, x], argTypes := #[27, 27] })
    (base : Nat) (v : Value) (n : Nat) (bs : List UInt8) (hs : a.eval s = v) (hown : w.ownsRow base 5 1 v n (cellsOf bs)) (hbase : base ≤ w.heap.size)
    (ao : Option Addr) (m c : Nat) (ms : List UInt8) (hx : a.eval x = .slice ao m c) (hm : Bytes w ao m ms) (h0 : ao = none → c = 0)
    (hb : n + m ≤ 140737488355328)
    (hK : ∀ v' w', w'.ownsRow base 5 1 v' (bs ++ ms).length (cellsOf (bs ++ ms)) → Below base w w' → K (a.put o.dst v') w') :
    if Region.wanted o (yielded ops a.tmps) = true then Oper.wp Tryd.prog o a w K Q else E := by
  have hw : Region.wanted o (yielded ops a.tmps) = true := by simp [Region.wanted, hg]
  rw [if_pos hw]
  obtain ⟨i0, hi, hz0, hz1, hz2⟩ := info_parts info5
  have hn : n = bs.length := by have := hown.1; rw [cellsOf_length] at this; omega
  have hml := hm.1
  cases ao with
  | none =>
    have hms : ms = [] := by
      cases ms with
      | nil => rfl
      | cons b t =>
        obtain ⟨y, hy, _⟩ := hm.2 0 b (by simp)
        cases hy
    subst hms
    obtain rfl := h0 rfl
    have hm0 : m = 0 := by simpa using hml.symm
    subst hm0
    have hrun := run_append_owned_none (P := Tryd.prog) (w := w) base 27 o.type 5 i0 1 Tryd.underlying27 hi v n (cellsOf bs) hown
    unfold Oper.wp
    simp [execOp, hop, resolve, invoke, builtin, hs, hx, hrun, Result.andThen]
    exact hK v w (by rw [List.append_nil, ← hn]; exact hown) (Below.refl _ _)
  | some ad =>
    refine wp_append_own w s x 27 hop base 5 i0 (.int .u8 0) 1 1 Tryd.underlying27 hi hz0 hz1 hz2 rfl (by decide) v n (cellsOf bs) hs hown ad m c (cellsOf ms) hx (by rw [cellsOf_length]; omega) ?_ (cellsOf_one ms) (by unfold maxLen; omega) (by omega) hbase ?_
    · intro j u hu
      obtain ⟨c, hc, rfl⟩ := cellsOf_at hu
      obtain ⟨y, hy, hcell⟩ := hm.2 j c hc
      cases hy
      exact hcell
    · intro v' w' h1 h2 _
      refine hK v' w' ?_ ((Below.refl _ _).grown h2 hbase (fun k hk => (hown.lt k hk).1))
      rw [List.length_append, hml, ← hn, cellsOf_append]
      exact h1
/-- 'append(own, more...)', and what stays as it was. -/
theorem wpList_append_at {ops : Array Oper} {rest : List Oper} {o : Oper} {a : Act} {Q : Exit → Act → World → Prop} (w : World)
    (hg : o.guard = none) (s x : Operand) (hop : o.op = Op.call { callee := Callee.builtin Builtin.append, args := #[s, x], argTypes := #[27, 27] })
    (base : Nat) (v : Value) (n : Nat) (bs : List UInt8) (hs : a.eval s = v) (hown : w.ownsRow base 5 1 v n (cellsOf bs)) (hbase : base ≤ w.heap.size)
    (ao : Option Addr) (m c : Nat) (ms : List UInt8) (hx : a.eval x = .slice ao m c) (hm : Bytes w ao m ms) (h0 : ao = none → c = 0)
    (hb : n + m ≤ 140737488355328)
    (hK : ∀ v' w', w'.ownsRow base 5 1 v' (n + m) (cellsOf (bs ++ ms)) → w.grownBy w' v.ownBlock → (v'.ownBlock = v.ownBlock ∨ v'.ownBlock = some w.heap.size) → wpList Tryd.prog ops Q rest (a.put o.dst v') w') :
    wpList Tryd.prog ops Q (o :: rest) a w := by
  obtain ⟨i0, hi, hz0, hz1, hz2⟩ := info_parts info5
  have hml := hm.1
  cases ao with
  | none =>
    have hms : ms = [] := by
      cases ms with
      | nil => rfl
      | cons b t =>
        obtain ⟨y, hy, _⟩ := hm.2 0 b (by simp)
        cases hy
    subst hms
    obtain rfl := h0 rfl
    have hm0 : m = 0 := by simpa using hml.symm
    subst hm0
    refine wpList_append_own_none hg s x 27 hop base 5 i0 1 Tryd.underlying27 hi v n (cellsOf bs) hs hown hx ?_
    exact hK v w (by rw [List.append_nil]; exact hown) ⟨rfl, rfl, rfl, Nat.le_refl _, fun _ _ _ => rfl⟩ (.inl rfl)
  | some ad =>
    refine wpList_append_own_at w hg s x 27 hop base 5 i0 (.int .u8 0) 1 1 Tryd.underlying27 hi hz0 hz1 hz2 rfl (by decide) v n (cellsOf bs) hs hown ad m c (cellsOf ms) hx (by rw [cellsOf_length]; omega) ?_ (cellsOf_one ms) (by unfold maxLen; omega) (by omega) hbase ?_
    · intro j u hu
      obtain ⟨c, hc, rfl⟩ := cellsOf_at hu
      obtain ⟨y, hy, hcell⟩ := hm.2 j c hc
      cases hy
      exact hcell
    · intro v' w' h1 h2 _ h4
      exact hK v' w' (by rw [cellsOf_append]; exact h1) h2 h4
theorem Chg.grown {b : Nat} {w w' : World} (h : Chg b w w') : w.grownBy w' (some b) := ⟨h.os, h.tape, h.output, h.size, fun k hk hn => h.block k hk (fun e => hn (by rw [e]))⟩
theorem bytes_grown {w w' : World} {row : Option Nat} {ao : Option Addr} {n : Nat} {bs : List UInt8} (h : Bytes w ao n bs) (hc : w.grownBy w' row) (hne : ∀ x, ao = some x → some x.block ≠ row) : Bytes w' ao n bs := by
  refine ⟨h.1, fun i c hi => ?_⟩
  obtain ⟨x, hx, hcell⟩ := h.2 i c hi
  refine ⟨x, hx, ?_⟩
  have hlt := World.block_lt_of_cell? w _ hcell
  have hb : (x.add i).block = x.block := by unfold Addr.add; split <;> rfl
  rw [World.cell?_of_block (hc.block _ hlt (by rw [hb]; exact hne x hx))]
  exact hcell
theorem HH.grown {w w' : World} {row : Option Nat} {b : Nat} {all : List UInt8} (h : HH w b all) (hc : w.grownBy w' row) (hne : some b ≠ row) : HH w' b all := by
  obtain ⟨part, hp, hb⟩ := h
  exact ⟨part, hp, (hc.block b (Array.getElem?_eq_some_iff.1 hb).1 hne).trans hb⟩
theorem HH.below {w w' : World} {B b : Nat} {all : List UInt8} (h : HH w b all) (hb : Below B w w') (hB : b < B) : HH w' b all := by
  obtain ⟨part, hp, hk⟩ := h
  exact ⟨part, hp, (hb.block b hB).trans hk⟩
theorem HH.lt {w : World} {b : Nat} {all : List UInt8} (h : HH w b all) : b < w.heap.size := by
  obtain ⟨part, hp, hk⟩ := h
  exact (Array.getElem?_eq_some_iff.1 hk).1

set_option maxRecDepth 100000 in
set_option maxHeartbeats 1000000 in
theorem of_cap (ao : Option Addr) (n cap : Nat) (bs : List UInt8) (w : World) (hb : Bytes w ao n bs) (hnc : n ≤ cap) (hcap : cap ≤ 9223372036854775807) (hn7 : n ≤ 9223372036854774000) (hK : WW w 1 ks) (h0 : 1 < w.heap.size) :
    Calls Tryd.prog 93 #[.slice ao n cap] w fun e w' => e = .returned (.agg (cellsOf (shaB bs)).toArray) ∧ Below w.heap.size w w' := by
  obtain ⟨D, HD⟩ : ∃ D, Hid (D = (cellsOf (shaB bs)).toArray) := ⟨_, rfl⟩
  have hDs : D.size = 32 := by rw [HD.out, List.size_toArray, cellsOf_length, shaB_length]
  have hD1 : D.all (·.oneCell') = true := by rw [HD.out]; exact all_oneCell_toArray (cellsOf_one _)
  rw [← HD.out]
  have hor := bytes_or hb
  have hbl := hb.1
  go_enter Tryd.func93, Tryd.ntmps93
  go_wp2_with fail
  obtain ⟨A, HA⟩ : ∃ A : Array Value, Hid (A = (cellsOf (List.replicate 32 0)).toArray) := ⟨_, rfl⟩
  have hA : A.size = 32 := by rw [HA.out]; rfl
  refine (new_any _).mono ?_
  rintro e w1 ⟨b, rfl, hb1, hb2, hH, hbel1⟩
  have hbelA : Below w.heap.size w w1 := (bel_alloc _ _).trans (hbel1.mono (by simp))
  have hsz : w.heap.size + 1 ≤ b := by simpa using hb1
  have hres : w1.heap[w.heap.size]? = some (.cells A 46) := by
    rw [HA.out]; exact (hbel1.block _ (by simp)).trans (heap_alloc_new _ _)
  have hbw := bytes_kept hb hbelA (Nat.le_refl _)
  have hK1 := hK.below hbelA h0
  clear hbel1 hb1 hb hK
  generalize hn : w.heap.size = r at *
  have HOR : Hid ((∀ x, ao = some x → x.block < r) ∨ bs = []) := hor
  clear hor HA
  go_wp2_with fail
  refine (write_old b r [] bs ao n cap w1 hH hbw HOR.out (by omega) hnc (by omega) hK1 (by omega) hb2 (by simp; omega)).mono ?_
  rintro e w2 ⟨rfl, hH2, hchg⟩
  rw [List.nil_append] at hH2
  have hs2 := hchg.size
  have hK2 := hK1.chg hchg (by omega) (by omega)
  have hres2 := (hchg.block r (by omega) (by omega)).trans hres
  have hbel2 : Below r w w2 := hbelA.trans (hchg.below (by omega) (by omega))
  clear hres hK1 hbw hchg hbelA
  go_wp2_with fail
  refine (sum_any b bs w2 hH2 hK2 (by omega) (by omega) (by omega)).mono ?_
  rintro e w3 ⟨rfl, hbel3⟩
  rw [← HD.out]
  have hres3 := (hbel3.block r (by omega)).trans hres2
  have hbelF : Below r w w3 := hbel2.trans (hbel3.mono (by omega))
  clear hres2 hK2 hH2 hbel3 hbel2 HD
  go_wp2_with (refine wpList_store_row rfl 46 (.tmp 2) (.tmp 9) rfl r D rfl rfl 46 A hres3 ?hs2 ?ho hD1 ?_)
  case hs2 => rw [size24, hDs]
  case ho => rw [hA, hDs]
  refine bodyPost_ret (results_cell_row rfl _ _ r 46 D (0, 0) _ rfl (setRow_heap _ _ _ _ _ _ hres3) Tryd.underlying46 rfl (by rw [size24, hDs])) rfl ?_
  exact ⟨rfl, by rw [hn]; exact below_setRow hbelF (Nat.le_refl _) _⟩

/-- A piece that came in: a slice of bytes. -/
structure PP where
  ao : Option Addr
  n : Nat
  c : Nat
  bs : List UInt8
def Pieces (w : World) (b off : Nat) (ps : List PP) : Prop := ∀ i p, ps[i]? = some p → w.cell? ⟨b, off + i, none⟩ = some (.slice p.ao p.n p.c) ∧ Bytes w p.ao p.n p.bs ∧ p.n ≤ p.c ∧ p.c ≤ 9223372036854775807 ∧ (p.ao = none → p.c = 0)
theorem Pieces.below {w w' : World} {B b off : Nat} {ps : List PP} (h : Pieces w b off ps) (hb : Below B w w') (hB : w.heap.size ≤ B) : Pieces w' b off ps := fun i p hp => by
  obtain ⟨h1, h2, h3⟩ := h i p hp
  have hlt := World.block_lt_of_cell? w _ h1
  refine ⟨?_, bytes_kept h2 hb hB, h3⟩
  rw [hb.cell (p := ⟨b, off + i, none⟩) (by omega)]
  exact h1
def allB (ps : List PP) (i : Nat) : List UInt8 := ((ps.take i).map fun p => p.bs.take 3000).flatten
theorem allB_zero (ps : List PP) : allB ps 0 = [] := rfl
theorem allB_succ (ps : List PP) (i : Nat) (p : PP) (h : ps[i]? = some p) : allB ps (i + 1) = allB ps i ++ p.bs.take 3000 := by
  unfold allB
  rw [List.take_add_one, h]
  simp
theorem allB_length (ps : List PP) : ∀ i, (allB ps i).length ≤ 3000 * i
  | 0 => by simp [allB_zero]
  | i + 1 => by
    cases h : ps[i]? with
    | none =>
      have : ps.take (i + 1) = ps.take i := by rw [List.take_add_one, h]; simp
      have e : allB ps (i + 1) = allB ps i := by unfold allB; rw [this]
      rw [e]; have := allB_length ps i; omega
    | some p =>
      rw [allB_succ ps i p h, List.length_append]
      have := allB_length ps i
      have : (p.bs.take 3000).length ≤ 3000 := by simp; omega
      omega
end Go.Proofs.YtecacjddggljgaaDoor.Sm
namespace Go.Proofs.YtecacjddggljgaaDoor.Sm
open Go.RowKit
set_option maxRecDepth 100000 in
set_option maxHeartbeats 1000000 in
theorem kept_cap (ao : Option Addr) (n cap : Nat) (bs : List UInt8) (z : Int) (w : World) (hb : Bytes w ao n bs) (hnc : n ≤ cap) (hcap : cap ≤ 9223372036854775807) (hn7 : n ≤ 9223372036854774000) (hK : WW w 1 ks) (h0 : 1 < w.heap.size) (hz1 : -9223372036854775808 ≤ z) (hz2 : z ≤ 9223372036854775807) :
    Calls Tryd.prog 67 #[.slice ao n cap, .int .i64 z] w fun e w' => e = .returned (.agg (cellsOf (keptB (shaB bs) (min (max z 0) 256).toNat 32)).toArray) ∧ Below w.heap.size w w' := by
  obtain ⟨L, HL⟩ : ∃ L : Nat, Hid (L = (min (max z 0) 256).toNat) := ⟨_, rfl⟩
  have hL : min (max z 0) 256 = (L : Int) := by rw [HL.out]; omega
  have hL256 : L ≤ 256 := by omega
  rw [← HL.out]
  obtain ⟨d0, HD0⟩ : ∃ d0, Hid (d0 = shaB bs) := ⟨_, rfl⟩
  have hd0 : d0.length = 32 := by rw [HD0.out]; exact shaB_length _
  rw [← HD0.out]
  go_enter Tryd.func67, Tryd.ntmps67
  go_wp2_with fail
  refine (of_cap ao n cap bs _ (bytes_kept hb (bel_alloc _ _) (Nat.le_refl _)) hnc hcap hn7 (hK.below (bel_alloc _ _) h0) (by simp; omega)).mono ?_
  rintro e w1 ⟨rfl, hbel1⟩
  rw [← HD0.out]
  have hD1 : (cellsOf d0).toArray.all (·.oneCell') = true := all_oneCell_toArray (cellsOf_one _)
  have hbel1' : Below w.heap.size w w1 := (bel_alloc _ _).trans (hbel1.mono (by simp))
  obtain ⟨A, hA, hres⟩ : ∃ A : Array Value, A.size = 32 ∧ w1.heap[w.heap.size]? = some (.cells A 46 (0, 0)) :=
    ⟨_, rfl, (hbel1.block _ (by simp)).trans (heap_alloc_new _ _)⟩
  have hs1 : w.heap.size + 1 ≤ w1.heap.size := by have := hbel1.size; simpa using this
  clear hb hK hbel1
  go_wp2_with (refine wpList_store_to rfl 46 (.tmp 5) (.tmp 10) rfl w1.heap.size (cellsOf d0).toArray rfl rfl 46 (cellsOf (List.replicate 32 0)).toArray ?hz ?hzs ?hzo hD1 ?_)
  case hz => exact heap_alloc_new _ _
  case hzs => rw [size24, List.size_toArray, cellsOf_length, hd0]
  case hzo => simp [cellsOf, hd0]
  intro w2 hblk2 hchg2
  have hs2 : w1.heap.size + 1 ≤ w2.heap.size := by have := hchg2.size; simpa using this
  have hbel2 : Below w1.heap.size w1 w2 := (bel_alloc _ _).trans (hchg2.below (Nat.le_refl _) (by simp))
  have hres2 := (hbel2.block w.heap.size (by omega)).trans hres
  have hbelw2 : Below w.heap.size w w2 := hbel1'.trans (hbel2.mono (by omega))
  clear hchg2 hres hbel1' hbel2 hD1 HL
  generalize hd : w1.heap.size = d at *
  generalize hn : w.heap.size = r at *
  go_wp2_with fail
  go_loopw [6, 14] (fun l t wr => ∃ i : Nat, i ≤ 32 ∧ t = .int .i64 i ∧ l = .int .i64 ((L - 8 * i : Nat) : Int) ∧ Below d w2 wr ∧ wr.heap[d]? = some (.cells (cellsOf (keptB d0 L i)).toArray 46)) (fun _ t _ => (32 - intOf t).toNat)
  case atStart => exact ⟨0, by omega, rfl, by simp, Below.refl _ _, hblk2⟩
  case round =>
    obtain ⟨i, hi, rfl, rfl, hb, hwr⟩ := hrel
    by_cases hi32 : i < 32
    · obtain ⟨l, hl⟩ : ∃ l, L - 8 * i = l := ⟨_, rfl⟩
      obtain ⟨h, hh⟩ : ∃ h, h = min l 8 := ⟨_, rfl⟩
      rw [hl]
      have hmin : min (l : Int) 8 = (h : Int) := by omega
      have hh8 : h ≤ 8 := by omega
      have hlen : (keptB d0 L i).length = 32 := by rw [keptB_length, hd0]
      have hcell : wr.cell? ⟨d, i, none⟩ = some (.int .u8 ((keptB d0 L i).getD i 0).toNat) := by rw [cell_of_row wr d i _ _ _ hwr]; exact cellsOf_getD _ _ (by omega)
      have hfz := frozen_of_row wr d i _ _ hwr
      rw [keptB_later d0 L i i (Nat.le_refl _)] at hcell
      have HNEW : Hid ((cellsOf (keptB d0 L i)).toArray.setIfInBounds i (.int .u8 (maskB (d0.getD i 0) h).toNat) = (cellsOf (keptB d0 L (i + 1))).toArray) := by
        show _ = _
        rw [List.setIfInBounds_toArray, keptB, hl]
        have : maskB (d0.getD i 0) l = maskB (d0.getD i 0) h := by rw [hh]; simp [maskB]
        rw [this]
        simp [cellsOf, List.map_set]
      have HMASK : Hid (bits .andNot .u8 ((d0.getD i 0).toNat : Int) ((255 : Int) / 2 ^ h) = ((maskB (d0.getD i 0) h).toNat : Int)) := by
        show _ = _
        rw [← mask_num (d0.getD i 0) h hh8]; simp
      generalize d0.getD i 0 = c at *
      have hcl := c.toNat_lt
      have hsh := shift_255 h hh8
      have HHH : Hid (h = min l 8) := hh
      have hlh : (h : Int) ≤ (l : Int) := by omega
      have hl256 : (l : Int) ≤ 256 := by omega
      have e1 : (i : Int) < 32 := by omega
      have e0 : (0 : Int) ≤ (i : Int) := by omega
      have HLL : Hid (L - 8 * i = l) := hl
      clear hh hl
      go_wp2_with fail
      go_region
      rw [HMASK.out]
      obtain ⟨hb3, hwr3⟩ := set_word (Nat.le_refl _) hb hwr HNEW.out
      generalize (wr.setCell _ _).drew = w3 at *
      clear hb hwr hcell hfz hsh HNEW HMASK hmin
      go_wp2
      go_roundw
      case rel => exact ⟨i + 1, by omega, by go_num, by have := HLL.out; have := HHH.out; first | (congr 1; omega) | (rw [show (l : Int) - (h : Int) = ((L - 8 * (i + 1) : Nat) : Int) by omega]), hb3, hwr3⟩
      case measure => simp [intOf]; omega
    · have hi' : i = 32 := by omega
      have hres5 := (hb.block r (by omega)).trans hres2
      have hbn : Below r w wr := hbelw2.trans (hb.mono (by omega))
      obtain ⟨D, HD⟩ : ∃ D, Hid (D = (cellsOf (keptB d0 L i)).toArray) := ⟨_, rfl⟩
      have hcs : D.size = 32 := by rw [HD.out, List.size_toArray, cellsOf_length, keptB_length, hd0]
      have hone : D.all (·.oneCell') = true := by rw [HD.out]; exact all_oneCell_toArray (cellsOf_one _)
      rw [← HD.out] at hwr
      have HD2 : Hid (D = (cellsOf (keptB d0 L 32)).toArray) := by show _ = _; rw [HD.out, hi']
      clear hblk2 hres2 hb hbelw2 HD
      go_wp2_with (first | (refine wpList_load_row rfl 46 (.tmp 5) rfl d rfl 46 D (0, 0) _ hwr Tryd.underlying46 rfl ?hs ?_) | (refine wpList_store_row rfl 46 (.tmp 4) (.tmp 30) rfl r D rfl rfl 46 A hres5 ?hs2 ?ho hone ?_))
      case hs => rw [size24, hcs]
      case hs2 => rw [size24, hcs]
      case ho => rw [hA, hcs]
      refine bodyPost_ret (results_cell_row rfl _ _ r 46 D (0, 0) _ rfl (setRow_heap _ _ _ _ _ _ hres5) Tryd.underlying46 rfl (by rw [size24, hcs])) rfl ?_
      exact ⟨by rw [HD2.out], by rw [hn]; exact below_setRow hbn (Nat.le_refl _) _⟩
end Go.Proofs.YtecacjddggljgaaDoor.Sm

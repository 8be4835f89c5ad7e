/-
  What sum.New and (*sum.Hash).Sum answer: contracts over this translation.
-/
import Derived.Test.YtiimmknnlciljaaDoorSWrite
import Derived.Deep.WholeRow
namespace Go.Proofs.YtiimmknnlciljaaDoor.Sm
open Go.RowKit
theorem size139 : (Tryd.prog.info? 85).map (·.size) = some 1 := by kernel_rfl
theorem run_index_cell {P : Program} (w : World) (t e : TypeId) (n : Nat) (k : IntKind) (cs : Array Value) (i : Nat) (v : Value) (ki : IntKind) (h : P.underlying t = some (.array n e)) (he : P.underlying e = some (.int k)) (hs : (P.info? e).map (·.size) = some 1) (hi : i < n) (hv : cs[i]? = some v) :
    (Instr.index t (.agg cs) (.int ki (i : Int))).run P w = .ok v w := by
  have h1 : (0 : Int) ≤ (i : Int) ∧ (i : Int) < (n : Int) := by omega
  have hss : (sizeOf e).run P w = .ok 1 w := by
    cases hq : P.info? e with
    | none => simp [hq] at hs
    | some j => simp [hq] at hs; simp [sizeOf, typeInfo, hq, hs]
  have hag : (isAgg e).run P w = .ok false w := by unfold isAgg; rw [Sem.run_bind, run_underlying he w]; rfl
  unfold Instr.index
  simp [Sem.run_bind, asIntOf, run_underlying h w, hi, hss, part, hag, hv]
theorem size146 : (Tryd.prog.info? 91).map (·.size) = some 73 := by kernel_rfl
theorem wpList_build_to {P : Program} {ops : Array Oper} {rest : List Oper} {o : Oper} {a : Act} {w : World} {Q : Exit → Act → World → Prop} (hg : o.guard = none) (t : TypeId) (parts : Array (Nat × Operand)) (ho : o.op = .build t parts) (cells : Array Value)
    (hf : P.built t (parts.map fun (i, x) => (i, a.eval x)).toList = some cells)
    (h : wpList P ops Q rest (a.put o.dst (.agg cells)) w) : wpList P ops Q (o :: rest) a w :=
  wpList_build hg t parts ho (by rw [hf]; rfl) (by rw [hf]; exact h)
theorem built58 : Tryd.prog.built 91 [(0, Value.agg (wcells H0.list).toArray)] = some (hashCells H0 (List.replicate 64 0) 0).toArray := by kernel_rfl
set_option maxRecDepth 100000 in
set_option maxHeartbeats 1000000 in
theorem roots_any (w : World) : Calls Tryd.prog 60 #[] w fun e w' => e = .returned (.agg (wcells H0.list).toArray) ∧ Below w.heap.size w w' := by
  go_enter Tryd.func60, Tryd.ntmps60
  go_wp2_with fail
  refine bodyPost_ret (results_cell_row rfl _ _ w.heap.size 87 _ (0, 0) _ rfl (heap_alloc_new _ _) Tryd.underlying87 rfl size141) rfl ?_
  exact ⟨rfl, bel_alloc _ _⟩
set_option maxRecDepth 100000 in
set_option maxHeartbeats 1000000 in
theorem new_any (w : World) : Calls Tryd.prog 49 #[] w fun e w' => ∃ b, e = .returned (.pointer (some ⟨b, 0, none⟩)) ∧ w.heap.size ≤ b ∧ b < w'.heap.size ∧ HH w' b [] ∧ Below w.heap.size w w' := by
  go_enter Tryd.func49, Tryd.ntmps49
  go_wp2_with fail
  refine (roots_any w).mono ?_
  rintro e w' ⟨rfl, hbel⟩
  obtain ⟨CC, HCC⟩ : ∃ CC, Hid (CC = (hashCells H0 (List.replicate 64 0) 0).toArray) := ⟨_, rfl⟩
  go_wp2_with (refine wpList_build_to rfl 91 #[(0, .tmp 1)] rfl CC ?hf ?_)
  case hf => rw [HCC.out]; exact (by simp : Tryd.prog.built 91 _ = Tryd.prog.built 91 [(0, Value.agg (wcells H0.list).toArray)]).trans built58
  go_ret
  refine ⟨_, rfl, hbel.size, by simp, ⟨List.replicate 64 0, ⟨rfl, rfl⟩, ?_⟩, hbel.alloc hbel.size _⟩
  rw [HCC.out]
  exact heap_alloc_new _ _
/-- The bytes of eight words, and the sum of a text. -/
def digest (s : S8) : List UInt8 := s.list.flatMap word4
def shaB (all : List UInt8) : List UInt8 := digest (chain (all ++ closeB all.length) ((all ++ closeB all.length).length / 64))
def digFill (s : S8) (i : Nat) : List UInt8 := (s.list.take i).flatMap word4 ++ List.replicate (32 - 4 * i) 0
theorem zero58 : (Tryd.prog.info? 91).map (fun i => (i.zero, i.size)) = some (some (.agg (hashCells ⟨0, 0, 0, 0, 0, 0, 0, 0⟩ (List.replicate 64 0) 0).toArray), 73) := by kernel_rfl
theorem size24 : (Tryd.prog.info? 32).map (·.size) = some 32 := by kernel_rfl
theorem block_bytes {w : World} {g : Nat} {bs : List UInt8} {t : TypeId} {fr : Nat × Nat} (h : w.heap[g]? = some (.cells (cellsOf bs).toArray t fr)) : Bytes w (some ⟨g, 0, none⟩) bs.length bs := by
  refine ⟨rfl, fun i c hi => ⟨_, rfl, ?_⟩⟩
  rw [Addr.add_lit, Nat.zero_add, cell_of_row w g i _ t fr h]
  simp [cellsOf, hi]
theorem wpList_store_to {P : Program} {ops : Array Oper} {rest : List Oper} {o : Oper} {a : Act} {w : World} {Q : Exit → Act → World → Prop} (hgd : o.guard = none) (ty : TypeId) (x y : Operand) (ho : o.op = .store ty x y)
    (g : Nat) (cells : Array Value) (hx : a.eval x = .pointer (some ⟨g, 0, none⟩)) (hy : a.eval y = .agg cells)
    (t : TypeId) (old : Array Value) (hg : w.heap[g]? = some (.cells old t (0, 0))) (hi : (P.info? ty).map (·.size) = some cells.size)
    (hold : old.size = cells.size) (h1 : cells.all (·.oneCell') = true)
    (h : ∀ w', w'.heap[g]? = some (.cells cells t (0, 0)) → Chg g w w' → wpList P ops Q rest (a.put o.dst undef) w') : wpList P ops Q (o :: rest) a w :=
  wpList_store_row hgd ty x y ho g cells hx hy t old hg hi hold h1 (h _ (setRow_heap w g _ _ t _ hg) ((Chg.refl _ _).row _))
theorem digFill_length (s : S8) (i : Nat) (h : i ≤ 8) : (digFill s i).length = 32 := by
  have : ∀ l : List UInt32, (l.flatMap word4).length = 4 * l.length := fun l => by
    induction l with
    | nil => rfl
    | cons a t ih => rw [List.flatMap_cons, List.length_append, ih, List.length_cons]; simp [word4]; omega
  rw [digFill, List.length_append, this, List.length_take, List.length_replicate]
  simp [S8.list]; omega
theorem digFill_succ (s : S8) (i : Nat) (x : UInt32) (h : i < 8) (hx : s.list[i]? = some x) : splice (cellsOf (digFill s i)) (4 * i) (cellsOf (word4 x)) = cellsOf (digFill s (i + 1)) := by
  have hl : ∀ l : List UInt32, (l.flatMap word4).length = 4 * l.length := fun l => by
    induction l with
    | nil => rfl
    | cons a t ih => rw [List.flatMap_cons, List.length_append, ih, List.length_cons]; simp [word4]; omega
  rw [cells_splice]
  congr 1
  unfold digFill
  rw [splice_at _ _ _ _ (by rw [hl, List.length_take]; simp [S8.list]; omega), List.take_add_one, hx, List.flatMap_append, List.drop_replicate, show 32 - 4 * (i + 1) = 32 - 4 * i - (word4 x).length by simp only [word4, List.length_cons, List.length_nil]; omega]
  simp
theorem digFill_all (s : S8) : digFill s 8 = digest s := by simp [digFill, digest, S8.list]
set_option maxRecDepth 100000 in
set_option maxHeartbeats 2000000 in
theorem sum_any (b : Nat) (all : List UInt8) (w : World) (hH : HH w b all) (hK : WW w 0 ks) (hb0 : 0 < b) (hbs : b < w.heap.size) (hbig : all.length < 9223372036854775000) :
    Calls Tryd.prog 51 #[.pointer (some ⟨b, 0, none⟩)] w fun e w' => e = .returned (.agg (cellsOf (shaB all)).toArray) ∧ Below w.heap.size w w' := by
  obtain ⟨part, hpart, hblk⟩ := hH
  obtain ⟨C, HC⟩ : ∃ C, Hid (C = hashCells (chain all (all.length / 64)) part all.length) := ⟨_, rfl⟩
  obtain ⟨Z, hZ, hZs⟩ : ∃ Z : Array Value, (∀ w, (zeroValue 91).run Tryd.prog w = .ok (.agg Z) w) ∧ Z.size = 73 := ⟨_, (zero_of_info zero58).1, by simp [hash_length]⟩
  rw [← HC.out] at hblk
  have hCl : C.length = 73 := by rw [HC.out]; exact hash_length _ _ _ hpart.1
  have hC1 : C.toArray.all (·.oneCell') = true := by
    rw [HC.out]; refine all_oneCell_toArray (fun v hv => ?_)
    simp only [hashCells, wcells, cellsOf, List.mem_append, List.mem_map, List.mem_singleton] at hv
    rcases hv with ⟨x, _, rfl⟩ | ⟨x, _, rfl⟩ | rfl <;> rfl
  go_enter Tryd.func51, Tryd.ntmps51
  go_wp2_with (first | (refine wpList_load_row rfl 91 (.tmp 8) rfl b rfl 91 C.toArray (0, 0) _ ?hl Tryd.underlying91 rfl ?hls ?_) | (refine wpList_store_to rfl 91 (.tmp 3) (.tmp 9) rfl (w.heap.size + 1) C.toArray rfl rfl 91 Z ?hz ?hzs ?hzo hC1 ?_))
  case hl => rw [heap_alloc_old _ _ hbs]; exact hblk
  case hls => rw [size146, List.size_toArray, hCl]
  case hz => exact heap_alloc2_new _ _ _
  case hzs => rw [size146, List.size_toArray, hCl]
  case hzo => rw [hZs, List.size_toArray, hCl]
  intro w1 hblk1 hchg1
  have hs1 := hchg1.size
  have hbel1 : Below w.heap.size w w1 := ((bel_alloc _ _).alloc (by simp) _).trans (hchg1.below (by omega) (by simp; omega))
  obtain ⟨A, hA, hres⟩ : ∃ A : Array Value, A.size = 32 ∧ w1.heap[w.heap.size]? = some (.cells A 32 (0, 0)) :=
    ⟨_, rfl, (hchg1.block _ (by simp; omega) (by omega)).trans ((heap_alloc_old _ _ (by simp)).trans (heap_alloc_new _ _))⟩
  have hblkb : w1.heap[b]? = some (.cells C.toArray 91) := (hbel1.block b hbs).trans hblk
  have hK1 := hK.below hbel1 (by omega)
  have hsz1 : w.heap.size + 2 ≤ w1.heap.size := by simp at hs1; omega
  have c72 : w1.cell? ⟨b, 72, none⟩ = some (.int .u64 (all.length : Int)) := by
    rw [cell_of_row _ b 72 _ _ _ hblkb, HC.out]
    simp [hashCells, wcells, S8.list, cellsOf, hpart.1]
  clear hchg1 hs1 hblk hblkb hZ hZs hC1 hK
  generalize hn : w.heap.size = n at *
  obtain ⟨N, HN⟩ : ∃ N, Hid (N = all.length) := ⟨_, rfl⟩
  rw [← HN.out] at c72
  go_wp2_with fail
  refine (closing_any N w1).mono ?_
  rintro e w2 ⟨g, m, rfl, hm, hg, hgb, hbel2⟩
  have hH2 : HH w2 (n + 1) all := ⟨part, hpart, by rw [← HC.out]; exact (hbel2.block _ (by omega)).trans hblk1⟩
  have hs2 := hbel2.size
  have hcl : m ≤ 72 := by rw [hm, closeB_length]; unfold zerosOf; omega
  have hby : Bytes w2 (some ⟨g, 0, none⟩) m (closeB N) := by rw [hm]; exact block_bytes hgb
  have hK2 := hK1.below hbel2 (by omega)
  have hres2 := (hbel2.block n (by omega)).trans hres
  have hne : ∀ x : Addr, some (Addr.mk g 0 none) = some x → x.block ≠ n + 1 := fun x hx => by cases hx; simp only; omega
  have HNE : Hid (∀ x : Addr, some (Addr.mk g 0 none) = some x → x.block ≠ n + 1) := hne
  have hNb : all.length + m < 9223372036854775807 := by omega
  clear hgb hblk1 hK1 c72 hres hm hne
  go_wp2_with fail
  refine (write_any (n + 1) all (closeB N) (some ⟨g, 0, none⟩) m m w2 hH2 hby HNE.out (Nat.le_refl _) (by omega) hK2 (by omega) (by omega) hNb).mono ?_
  rintro e w3 ⟨rfl, ⟨p3, hp3, hblk3⟩, hchg3⟩
  have hbel3 : Below n w w3 := (hbel1.trans (hbel2.mono (by omega))).trans (hchg3.below (by omega) (by omega))
  have hres3 := (hchg3.block n (by omega) (by omega)).trans hres2
  have hs3 := hchg3.size
  obtain ⟨s8, HS8⟩ : ∃ s8, Hid (s8 = chain (all ++ closeB N) ((all ++ closeB N).length / 64)) := ⟨_, rfl⟩
  rw [← HS8.out] at hblk3
  have HOUT : Hid (shaB all = digest s8) := by show _ = _; rw [HS8.out, HN.out]; rfl
  clear hby hK2 HNE hchg3 hres2 hbel2 hbel1 hp3 HS8 HN HC hpart hH2
  go_wp2_with (refine wpList_load_mid rfl 87 (.tmp 16) rfl (n + 1) 0 rfl (wcells s8.list) _ (World.rangeAt_alloc (range_words hblk3) _) Tryd.underlying87 rfl ?hs53 ?_)
  case hs53 => rw [size141]; rfl
  refine wp_gen (fun w4 => Below w3.heap.size w3 w4 ∧ w4.heap[w3.heap.size]? = some (.cells (cellsOf (digFill s8 0)).toArray 32)) ⟨bel_alloc _ _, heap_alloc_new _ _⟩ ?_
  rintro w4 ⟨hbel4, hblk4⟩
  have hs4 := hbel4.size
  generalize hd : w3.heap.size = d at *
  have hres4 := (hbel4.block n (by omega)).trans hres3
  clear hblk3 hres3
  go_loopw [18] (fun t wr => ∃ i : Nat, i ≤ 8 ∧ t = .int .i64 i ∧ Below d w4 wr ∧ wr.heap[d]? = some (.cells (cellsOf (digFill s8 i)).toArray 32)) (fun t _ => (8 - intOf t).toNat)
  case atStart => exact ⟨0, by omega, rfl, Below.refl _ _, hblk4⟩
  case round =>
    obtain ⟨i, hi, rfl, hb, hwr⟩ := hrel
    by_cases hi8 : i < 8
    · obtain ⟨x, hx⟩ : ∃ x, s8.list[i]? = some x := ⟨s8.list[i]'(by simp [S8.list]; omega), by simp⟩
      have hxa : (wcells s8.list).toArray[i]? = some (.int .u32 x.toNat) := by simp [wcells, hx]
      have e1 : (0 : Int) ≤ 4 * (i : Int) := by omega
      have e2 : 4 * (i : Int) ≤ 32 := by omega
      have e3 : ¬ (32 = 4 * i) := by omega
      have HF := digFill_succ s8 i x hi8 hx
      have hlen : 4 * i + 4 ≤ (cellsOf (digFill s8 i)).length := by rw [cellsOf_length, digFill_length s8 i hi]; omega
      have hidx := run_index_cell wr 87 85 8 .u32 (wcells s8.list).toArray i (.int .u32 x.toNat) .i64 Tryd.underlying87 Tryd.underlying85 size139 hi8 hxa
      have HFF : Hid (splice (cellsOf (digFill s8 i)) (4 * i) (cellsOf (word4 x)) = cellsOf (digFill s8 (i + 1))) := HF
      clear hx hxa HF
      go_wp2_with fail
      refine (putWord_any d (4 * i) (32 - 4 * i) (32 - 4 * i) (cellsOf (digFill s8 i)) 32 x wr hwr (by omega) hlen).mono ?_
      rintro e w5 ⟨rfl, rfl⟩
      rw [HFF.out]
      have hb5 : Below d w4 (wr.setRow d (cellsOf (digFill s8 (i + 1))).toArray) := below_setRow hb (Nat.le_refl _) _
      have hwr5 : (wr.setRow d (cellsOf (digFill s8 (i + 1))).toArray).heap[d]? = some (.cells (cellsOf (digFill s8 (i + 1))).toArray 32) := setRow_heap wr d _ _ 32 _ hwr
      generalize wr.setRow d (cellsOf (digFill s8 (i + 1))).toArray = w5 at *
      clear hb hwr hlen HFF hidx
      go_wp2
      go_roundw
      case rel => exact ⟨i + 1, by omega, by go_num, hb5, hwr5⟩
      case measure => simp [intOf]; omega
    · have hi' : i = 8 := by omega
      have hdig : shaB all = digFill s8 i := by rw [HOUT.out, hi', digFill_all]
      have hres5 := (hb.block n (by omega)).trans hres4
      have hdl := digFill_length s8 i hi
      have hcs : (cellsOf (digFill s8 i)).toArray.size = 32 := by rw [List.size_toArray, cellsOf_length, hdl]
      have hone : (cellsOf (digFill s8 i)).toArray.all (·.oneCell') = true := all_oneCell_toArray (cellsOf_one _)
      have hbn : Below n w wr := (hbel3.trans (hbel4.mono (by omega))).trans (hb.mono (by omega))
      obtain ⟨D, HD⟩ : ∃ D, Hid (D = (cellsOf (digFill s8 i)).toArray) := ⟨_, rfl⟩
      rw [← HD.out] at hcs hone hwr
      have hD2 : D = (cellsOf (shaB all)).toArray := by rw [hdig, HD.out]
      clear hblk4 hdig hdl hres4 HOUT hb hbel4 hbel3
      have HD2 : Hid (D = (cellsOf (shaB all)).toArray) := hD2
      clear hD2 HD
      go_wp2_with (first | (refine wpList_load_row rfl 32 (.tmp 4) rfl d rfl 32 D (0, 0) _ hwr Tryd.underlying32 rfl ?hs ?_) | (refine wpList_store_row rfl 32 (.tmp 2) (.tmp 28) rfl n D rfl rfl 32 A hres5 ?hs2 ?ho hone ?_))
      case hs => rw [size24, hcs]
      case hs2 => rw [size24, hcs]
      case ho => rw [hA, hcs]
      refine bodyPost_ret (results_cell_row rfl _ _ n 32 D (0, 0) _ rfl (setRow_heap _ _ _ _ _ _ hres5) Tryd.underlying32 rfl (by rw [size24, hcs])) rfl ?_
      exact ⟨by rw [HD2.out], by rw [hn]; exact below_setRow hbn (Nat.le_refl _) _⟩
end Go.Proofs.YtiimmknnlciljaaDoor.Sm

/-
  What sum.New and (*sum.Hash).Sum answer: contracts over this translation. What sum.Of and sum.CRC answer: contracts over this translation. What sum.Kept answers: a contract over this translation.
-/
import Derived.Test.YtecacjddggljgaaDoorPartBF
import Derived.Deep.WholeRow
namespace Go.Proofs.YtecacjddggljgaaDoor.Sm
open Go.RowKit
theorem size139 : (Tryd.prog.info? 196).map (·.size) = some 1 := by kernel_rfl
theorem run_index_cell {P : Program} (w : World) (t e : TypeId) (n : Nat) (k : IntKind) (cs : Array Value) (i : Nat) (v : Value) (ki : IntKind) (h : P.underlying t = some (.array n e)) (he : P.underlying e = some (.int k)) (hs : (P.info? e).map (·.size) = some 1) (hi : i < n) (hv : cs[i]? = some v) :
    (Instr.index t (.agg cs) (.int ki (i : Int))).run P w = .ok v w := by
  have h1 : (0 : Int) ≤ (i : Int) ∧ (i : Int) < (n : Int) := by omega
  have hss : (sizeOf e).run P w = .ok 1 w := by
    cases hq : P.info? e with
    | none => simp [hq] at hs
    | some j => simp [hq] at hs; simp [sizeOf, typeInfo, hq, hs]
  have hag : (isAgg e).run P w = .ok false w := by unfold isAgg; rw [Sem.run_bind, run_underlying he w]; rfl
  unfold Instr.index
  simp [Sem.run_bind, asIntOf, run_underlying h w, hi, hss, part, hag, hv]
theorem size146 : (Tryd.prog.info? 203).map (·.size) = some 73 := by kernel_rfl
theorem wpList_build_to {P : Program} {ops : Array Oper} {rest : List Oper} {o : Oper} {a : Act} {w : World} {Q : Exit → Act → World → Prop} (hg : o.guard = none) (t : TypeId) (parts : Array (Nat × Operand)) (ho : o.op = .build t parts) (cells : Array Value)
    (hf : P.built t (parts.map fun (i, x) => (i, a.eval x)).toList = some cells)
    (h : wpList P ops Q rest (a.put o.dst (.agg cells)) w) : wpList P ops Q (o :: rest) a w :=
  wpList_build hg t parts ho (by rw [hf]; rfl) (by rw [hf]; exact h)
theorem built58 : Tryd.prog.built 203 [(0, Value.agg (wcells H0.list).toArray)] = some (hashCells H0 (List.replicate 64 0) 0).toArray := by kernel_rfl
set_option maxRecDepth 100000 in
set_option maxHeartbeats 1000000 in
theorem roots_any (w : World) : Calls Tryd.prog 134 #[] w fun e w' => e = .returned (.agg (wcells H0.list).toArray) ∧ Below w.heap.size w w' := by
  go_enter Tryd.func134, Tryd.ntmps134
  go_wp2_with fail
  refine bodyPost_ret (results_cell_row rfl _ _ w.heap.size 199 _ (0, 0) _ rfl (heap_alloc_new _ _) Tryd.underlying199 rfl size141) rfl ?_
  exact ⟨rfl, bel_alloc _ _⟩
set_option maxRecDepth 100000 in
set_option maxHeartbeats 1000000 in
theorem new_any (w : World) : Calls Tryd.prog 121 #[] w fun e w' => ∃ b, e = .returned (.pointer (some ⟨b, 0, none⟩)) ∧ w.heap.size ≤ b ∧ b < w'.heap.size ∧ HH w' b [] ∧ Below w.heap.size w w' := by
  go_enter Tryd.func121, Tryd.ntmps121
  go_wp2_with fail
  refine (roots_any w).mono ?_
  rintro e w' ⟨rfl, hbel⟩
  obtain ⟨CC, HCC⟩ : ∃ CC, Hid (CC = (hashCells H0 (List.replicate 64 0) 0).toArray) := ⟨_, rfl⟩
  go_wp2_with (refine wpList_build_to rfl 203 #[(0, .tmp 1)] rfl CC ?hf ?_)
  case hf => rw [HCC.out]; exact (by simp : Tryd.prog.built 203 _ = Tryd.prog.built 203 [(0, Value.agg (wcells H0.list).toArray)]).trans built58
  go_ret
  refine ⟨_, rfl, hbel.size, by simp, ⟨List.replicate 64 0, ⟨rfl, rfl⟩, ?_⟩, hbel.alloc hbel.size _⟩
  rw [HCC.out]
  exact heap_alloc_new _ _
/-- The bytes of eight words, and the sum of a text. -/
def digest (s : S8) : List UInt8 := s.list.flatMap word4
def shaB (all : List UInt8) : List UInt8 := digest (chain (all ++ closeB all.length) ((all ++ closeB all.length).length / 64))
def digFill (s : S8) (i : Nat) : List UInt8 := (s.list.take i).flatMap word4 ++ List.replicate (32 - 4 * i) 0
theorem zero58 : (Tryd.prog.info? 203).map (fun i => (i.zero, i.size)) = some (some (.agg (hashCells ⟨0, 0, 0, 0, 0, 0, 0, 0⟩ (List.replicate 64 0) 0).toArray), 73) := by kernel_rfl
theorem size24 : (Tryd.prog.info? 46).map (·.size) = some 32 := by kernel_rfl
theorem block_bytes {w : World} {g : Nat} {bs : List UInt8} {t : TypeId} {fr : Nat × Nat} (h : w.heap[g]? = some (.cells (cellsOf bs).toArray t fr)) : Bytes w (some ⟨g, 0, none⟩) bs.length bs := by
  refine ⟨rfl, fun i c hi => ⟨_, rfl, ?_⟩⟩
  rw [Addr.add_lit, Nat.zero_add, cell_of_row w g i _ t fr h]
  simp [cellsOf, hi]
theorem wpList_store_to {P : Program} {ops : Array Oper} {rest : List Oper} {o : Oper} {a : Act} {w : World} {Q : Exit → Act → World → Prop} (hgd : o.guard = none) (ty : TypeId) (x y : Operand) (ho : o.op = .store ty x y)
    (g : Nat) (cells : Array Value) (hx : a.eval x = .pointer (some ⟨g, 0, none⟩)) (hy : a.eval y = .agg cells)
    (t : TypeId) (old : Array Value) (hg : w.heap[g]? = some (.cells old t (0, 0))) (hi : (P.info? ty).map (·.size) = some cells.size)
    (hold : old.size = cells.size) (h1 : cells.all (·.oneCell') = true)
    (h : ∀ w', w'.heap[g]? = some (.cells cells t (0, 0)) → Chg g w w' → wpList P ops Q rest (a.put o.dst undef) w') : wpList P ops Q (o :: rest) a w :=
  wpList_store_row hgd ty x y ho g cells hx hy t old hg hi hold h1 (h _ (setRow_heap w g _ _ t _ hg) ((Chg.refl _ _).row _))
theorem digFill_length (s : S8) (i : Nat) (h : i ≤ 8) : (digFill s i).length = 32 := by
  have : ∀ l : List UInt32, (l.flatMap word4).length = 4 * l.length := fun l => by
    induction l with
    | nil => rfl
    | cons a t ih => rw [List.flatMap_cons, List.length_append, ih, List.length_cons]; simp [word4]; omega
  rw [digFill, List.length_append, this, List.length_take, List.length_replicate]
  simp [S8.list]; omega
theorem digFill_succ (s : S8) (i : Nat) (x : UInt32) (h : i < 8) (hx : s.list[i]? = some x) : splice (cellsOf (digFill s i)) (4 * i) (cellsOf (word4 x)) = cellsOf (digFill s (i + 1)) := by
  have hl : ∀ l : List UInt32, (l.flatMap word4).length = 4 * l.length := fun l => by
    induction l with
    | nil => rfl
    | cons a t ih => rw [List.flatMap_cons, List.length_append, ih, List.length_cons]; simp [word4]; omega
  rw [cells_splice]
  congr 1
  unfold digFill
  rw [splice_at _ _ _ _ (by rw [hl, List.length_take]; simp [S8.list]; omega), List.take_add_one, hx, List.flatMap_append, List.drop_replicate, show 32 - 4 * (i + 1) = 32 - 4 * i - (word4 x).length by simp only [word4, List.length_cons, List.length_nil]; omega]
  simp
theorem digFill_all (s : S8) : digFill s 8 = digest s := by simp [digFill, digest, S8.list]
set_option maxRecDepth 100000 in
set_option maxHeartbeats 2000000 in
theorem sum_any (b : Nat) (all : List UInt8) (w : World) (hH : HH w b all) (hK : WW w 1 ks) (hb0 : 1 < b) (hbs : b < w.heap.size) (hbig : all.length < 9223372036854775000) :
    Calls Tryd.prog 123 #[.pointer (some ⟨b, 0, none⟩)] w fun e w' => e = .returned (.agg (cellsOf (shaB all)).toArray) ∧ Below w.heap.size w w' := by
  obtain ⟨part, hpart, hblk⟩ := hH
  obtain ⟨C, HC⟩ : ∃ C, Hid (C = hashCells (chain all (all.length / 64)) part all.length) := ⟨_, rfl⟩
  obtain ⟨Z, hZ, hZs⟩ : ∃ Z : Array Value, (∀ w, (zeroValue 203).run Tryd.prog w = .ok (.agg Z) w) ∧ Z.size = 73 := ⟨_, (zero_of_info zero58).1, by simp [hash_length]⟩
  rw [← HC.out] at hblk
  have hCl : C.length = 73 := by rw [HC.out]; exact hash_length _ _ _ hpart.1
  have hC1 : C.toArray.all (·.oneCell') = true := by
    rw [HC.out]; refine all_oneCell_toArray (fun v hv => ?_)
    simp only [hashCells, wcells, cellsOf, List.mem_append, List.mem_map, List.mem_singleton] at hv
    rcases hv with ⟨x, _, rfl⟩ | ⟨x, _, rfl⟩ | rfl <;> rfl
  go_enter Tryd.func123, Tryd.ntmps123
  go_wp2_with (first | (refine wpList_load_row rfl 203 (.tmp 8) rfl b rfl 203 C.toArray (0, 0) _ ?hl Tryd.underlying203 rfl ?hls ?_) | (refine wpList_store_to rfl 203 (.tmp 3) (.tmp 9) rfl (w.heap.size + 1) C.toArray rfl rfl 203 Z ?hz ?hzs ?hzo hC1 ?_))
  case hl => rw [heap_alloc_old _ _ hbs]; exact hblk
  case hls => rw [size146, List.size_toArray, hCl]
  case hz => exact heap_alloc2_new _ _ _
  case hzs => rw [size146, List.size_toArray, hCl]
  case hzo => rw [hZs, List.size_toArray, hCl]
  intro w1 hblk1 hchg1
  have hs1 := hchg1.size
  have hbel1 : Below w.heap.size w w1 := ((bel_alloc _ _).alloc (by simp) _).trans (hchg1.below (by omega) (by simp; omega))
  obtain ⟨A, hA, hres⟩ : ∃ A : Array Value, A.size = 32 ∧ w1.heap[w.heap.size]? = some (.cells A 46 (0, 0)) :=
    ⟨_, rfl, (hchg1.block _ (by simp; omega) (by omega)).trans ((heap_alloc_old _ _ (by simp)).trans (heap_alloc_new _ _))⟩
  have hblkb : w1.heap[b]? = some (.cells C.toArray 203) := (hbel1.block b hbs).trans hblk
  have hK1 := hK.below hbel1 (by omega)
  have hsz1 : w.heap.size + 2 ≤ w1.heap.size := by simp at hs1; omega
  have c72 : w1.cell? ⟨b, 72, none⟩ = some (.int .u64 (all.length : Int)) := by
    rw [cell_of_row _ b 72 _ _ _ hblkb, HC.out]
    simp [hashCells, wcells, S8.list, cellsOf, hpart.1]
  clear hchg1 hs1 hblk hblkb hZ hZs hC1 hK
  generalize hn : w.heap.size = n at *
  obtain ⟨N, HN⟩ : ∃ N, Hid (N = all.length) := ⟨_, rfl⟩
  rw [← HN.out] at c72
  go_wp2_with fail
  refine (closing_any N w1).mono ?_
  rintro e w2 ⟨g, m, rfl, hm, hg, hgb, hbel2⟩
  have hH2 : HH w2 (n + 1) all := ⟨part, hpart, by rw [← HC.out]; exact (hbel2.block _ (by omega)).trans hblk1⟩
  have hs2 := hbel2.size
  have hcl : m ≤ 72 := by rw [hm, closeB_length]; unfold zerosOf; omega
  have hby : Bytes w2 (some ⟨g, 0, none⟩) m (closeB N) := by rw [hm]; exact block_bytes hgb
  have hK2 := hK1.below hbel2 (by omega)
  have hres2 := (hbel2.block n (by omega)).trans hres
  have hne : ∀ x : Addr, some (Addr.mk g 0 none) = some x → x.block ≠ n + 1 := fun x hx => by cases hx; simp only; omega
  have HNE : Hid (∀ x : Addr, some (Addr.mk g 0 none) = some x → x.block ≠ n + 1) := hne
  have hNb : all.length + m < 9223372036854775807 := by omega
  clear hgb hblk1 hK1 c72 hres hm hne
  go_wp2_with fail
  refine (write_any (n + 1) all (closeB N) (some ⟨g, 0, none⟩) m m w2 hH2 hby HNE.out (Nat.le_refl _) (by omega) hK2 (by omega) (by omega) hNb).mono ?_
  rintro e w3 ⟨rfl, ⟨p3, hp3, hblk3⟩, hchg3⟩
  have hbel3 : Below n w w3 := (hbel1.trans (hbel2.mono (by omega))).trans (hchg3.below (by omega) (by omega))
  have hres3 := (hchg3.block n (by omega) (by omega)).trans hres2
  have hs3 := hchg3.size
  obtain ⟨s8, HS8⟩ : ∃ s8, Hid (s8 = chain (all ++ closeB N) ((all ++ closeB N).length / 64)) := ⟨_, rfl⟩
  rw [← HS8.out] at hblk3
  have HOUT : Hid (shaB all = digest s8) := by show _ = _; rw [HS8.out, HN.out]; rfl
  clear hby hK2 HNE hchg3 hres2 hbel2 hbel1 hp3 HS8 HN HC hpart hH2
  go_wp2_with (refine wpList_load_mid rfl 199 (.tmp 16) rfl (n + 1) 0 rfl (wcells s8.list) _ (World.rangeAt_alloc (range_words hblk3) _) Tryd.underlying199 rfl ?hs53 ?_)
  case hs53 => rw [size141]; rfl
  refine wp_gen (fun w4 => Below w3.heap.size w3 w4 ∧ w4.heap[w3.heap.size]? = some (.cells (cellsOf (digFill s8 0)).toArray 46)) ⟨bel_alloc _ _, heap_alloc_new _ _⟩ ?_
  rintro w4 ⟨hbel4, hblk4⟩
  have hs4 := hbel4.size
  generalize hd : w3.heap.size = d at *
  have hres4 := (hbel4.block n (by omega)).trans hres3
  clear hblk3 hres3
  go_loopw [18] (fun t wr => ∃ i : Nat, i ≤ 8 ∧ t = .int .i64 i ∧ Below d w4 wr ∧ wr.heap[d]? = some (.cells (cellsOf (digFill s8 i)).toArray 46)) (fun t _ => (8 - intOf t).toNat)
  case atStart => exact ⟨0, by omega, rfl, Below.refl _ _, hblk4⟩
  case round =>
    obtain ⟨i, hi, rfl, hb, hwr⟩ := hrel
    by_cases hi8 : i < 8
    · obtain ⟨x, hx⟩ : ∃ x, s8.list[i]? = some x := ⟨s8.list[i]'(by simp [S8.list]; omega), by simp⟩
      have hxa : (wcells s8.list).toArray[i]? = some (.int .u32 x.toNat) := by simp [wcells, hx]
      have e1 : (0 : Int) ≤ 4 * (i : Int) := by omega
      have e2 : 4 * (i : Int) ≤ 32 := by omega
      have e3 : ¬ (32 = 4 * i) := by omega
      have HF := digFill_succ s8 i x hi8 hx
      have hlen : 4 * i + 4 ≤ (cellsOf (digFill s8 i)).length := by rw [cellsOf_length, digFill_length s8 i hi]; omega
      have hidx := run_index_cell wr 199 196 8 .u32 (wcells s8.list).toArray i (.int .u32 x.toNat) .i64 Tryd.underlying199 Tryd.underlying196 size139 hi8 hxa
      have HFF : Hid (splice (cellsOf (digFill s8 i)) (4 * i) (cellsOf (word4 x)) = cellsOf (digFill s8 (i + 1))) := HF
      clear hx hxa HF
      go_wp2_with fail
      refine (putWord_any d (4 * i) (32 - 4 * i) (32 - 4 * i) (cellsOf (digFill s8 i)) 46 x wr hwr (by omega) hlen).mono ?_
      rintro e w5 ⟨rfl, rfl⟩
      rw [HFF.out]
      have hb5 : Below d w4 (wr.setRow d (cellsOf (digFill s8 (i + 1))).toArray) := below_setRow hb (Nat.le_refl _) _
      have hwr5 : (wr.setRow d (cellsOf (digFill s8 (i + 1))).toArray).heap[d]? = some (.cells (cellsOf (digFill s8 (i + 1))).toArray 46) := setRow_heap wr d _ _ 46 _ hwr
      generalize wr.setRow d (cellsOf (digFill s8 (i + 1))).toArray = w5 at *
      clear hb hwr hlen HFF hidx
      go_wp2
      go_roundw
      case rel => exact ⟨i + 1, by omega, by go_num, hb5, hwr5⟩
      case measure => simp [intOf]; omega
    · have hi' : i = 8 := by omega
      have hdig : shaB all = digFill s8 i := by rw [HOUT.out, hi', digFill_all]
      have hres5 := (hb.block n (by omega)).trans hres4
      have hdl := digFill_length s8 i hi
      have hcs : (cellsOf (digFill s8 i)).toArray.size = 32 := by rw [List.size_toArray, cellsOf_length, hdl]
      have hone : (cellsOf (digFill s8 i)).toArray.all (·.oneCell') = true := all_oneCell_toArray (cellsOf_one _)
      have hbn : Below n w wr := (hbel3.trans (hbel4.mono (by omega))).trans (hb.mono (by omega))
      obtain ⟨D, HD⟩ : ∃ D, Hid (D = (cellsOf (digFill s8 i)).toArray) := ⟨_, rfl⟩
      rw [← HD.out] at hcs hone hwr
      have hD2 : D = (cellsOf (shaB all)).toArray := by rw [hdig, HD.out]
      clear hblk4 hdig hdl hres4 HOUT hb hbel4 hbel3
      have HD2 : Hid (D = (cellsOf (shaB all)).toArray) := hD2
      clear hD2 HD
      go_wp2_with (first | (refine wpList_load_row rfl 46 (.tmp 4) rfl d rfl 46 D (0, 0) _ hwr Tryd.underlying46 rfl ?hs ?_) | (refine wpList_store_row rfl 46 (.tmp 2) (.tmp 28) rfl n D rfl rfl 46 A hres5 ?hs2 ?ho hone ?_))
      case hs => rw [size24, hcs]
      case hs2 => rw [size24, hcs]
      case ho => rw [hA, hcs]
      refine bodyPost_ret (results_cell_row rfl _ _ n 46 D (0, 0) _ rfl (setRow_heap _ _ _ _ _ _ hres5) Tryd.underlying46 rfl (by rw [size24, hcs])) rfl ?_
      exact ⟨by rw [HD2.out], by rw [hn]; exact below_setRow hbn (Nat.le_refl _) _⟩
end Go.Proofs.YtecacjddggljgaaDoor.Sm
namespace Go.Proofs.YtecacjddggljgaaDoor.Sm
open Go.RowKit
theorem shaB_length (all : List UInt8) : (shaB all).length = 32 := by
  rw [shaB, ← digFill_all]; exact digFill_length _ 8 (by omega)
set_option maxRecDepth 100000 in
set_option maxHeartbeats 1000000 in
theorem write_nil (b : Nat) (ao : Option Addr) (cap : Nat) (w : World) :
    Calls Tryd.prog 122 #[.pointer (some ⟨b, 0, none⟩), .slice ao 0 cap] w fun e w' => e = .returned (.tuple #[]) ∧ w' = w := by
  go_enter Tryd.func122, Tryd.ntmps122
  go_wp2
  go_loopw [1] (fun x wr => x = .slice ao 0 cap ∧ wr = w) (fun _ _ => 0)
  case atStart => exact ⟨rfl, rfl⟩
  case round =>
    obtain ⟨rfl, rfl⟩ := hrel
    go_wp2
    go_end0
    exact ⟨rfl, rfl⟩
theorem bytes_or {w : World} {ao : Option Addr} {n : Nat} {bs : List UInt8} (hb : Bytes w ao n bs) : (∀ x, ao = some x → x.block < w.heap.size) ∨ bs = [] := by
  cases hq : bs with
  | nil => exact .inr rfl
  | cons c t =>
    refine .inl (fun x hx => ?_)
    obtain ⟨y, hy, hc⟩ := hb.2 0 c (by rw [hq]; rfl)
    rw [hx] at hy; cases hy
    exact World.block_lt_of_cell? w _ hc
/-- Write, of whatever came in ahead of the Hash. -/
theorem write_old (b B : Nat) (all bs : List UInt8) (ao : Option Addr) (n cap : Nat) (w : World) (hH : HH w b all) (hb : Bytes w ao n bs) (hne : (∀ x, ao = some x → x.block < B) ∨ bs = []) (hB : B ≤ b) (hnc : n ≤ cap) (hcap : cap ≤ 9223372036854775807)
    (hK : WW w 1 ks) (hb0 : 1 < b) (hbs : b < w.heap.size) (hbig : all.length + n < 9223372036854775807) :
    Calls Tryd.prog 122 #[.pointer (some ⟨b, 0, none⟩), .slice ao n cap] w fun e w' => e = .returned (.tuple #[]) ∧ HH w' b (all ++ bs) ∧ Chg b w w' := by
  rcases hne with hne | rfl
  · exact write_any b all bs ao n cap w hH hb (fun x hx => by have := hne x hx; omega) hnc hcap hK hb0 hbs hbig
  · obtain rfl : n = 0 := hb.1.symm
    refine (write_nil b ao cap w).mono ?_
    rintro e w' ⟨rfl, rfl⟩
    exact ⟨rfl, by rw [List.append_nil]; exact hH, Chg.refl _ _⟩
set_option maxRecDepth 100000 in
set_option maxHeartbeats 1000000 in
theorem of_any (ao : Option Addr) (n cap : Nat) (bs : List UInt8) (w : World) (hb : Bytes w ao n bs) (hnc : n ≤ cap) (hcap : cap ≤ 9223372036854774000) (hK : WW w 1 ks) (h0 : 1 < w.heap.size) :
    Calls Tryd.prog 93 #[.slice ao n cap] w fun e w' => e = .returned (.agg (cellsOf (shaB bs)).toArray) ∧ Below w.heap.size w w' := by
  obtain ⟨D, HD⟩ : ∃ D, Hid (D = (cellsOf (shaB bs)).toArray) := ⟨_, rfl⟩
  have hDs : D.size = 32 := by rw [HD.out, List.size_toArray, cellsOf_length, shaB_length]
  have hD1 : D.all (·.oneCell') = true := by rw [HD.out]; exact all_oneCell_toArray (cellsOf_one _)
  rw [← HD.out]
  have hor := bytes_or hb
  have hbl := hb.1
  go_enter Tryd.func93, Tryd.ntmps93
  go_wp2_with fail
  obtain ⟨A, HA⟩ : ∃ A : Array Value, Hid (A = (cellsOf (List.replicate 32 0)).toArray) := ⟨_, rfl⟩
  have hA : A.size = 32 := by rw [HA.out]; rfl
  refine (new_any _).mono ?_
  rintro e w1 ⟨b, rfl, hb1, hb2, hH, hbel1⟩
  have hbelA : Below w.heap.size w w1 := (bel_alloc _ _).trans (hbel1.mono (by simp))
  have hsz : w.heap.size + 1 ≤ b := by simpa using hb1
  have hres : w1.heap[w.heap.size]? = some (.cells A 46) := by
    rw [HA.out]; exact (hbel1.block _ (by simp)).trans (heap_alloc_new _ _)
  have hbw := bytes_kept hb hbelA (Nat.le_refl _)
  have hK1 := hK.below hbelA h0
  clear hbel1 hb1 hb hK
  generalize hn : w.heap.size = r at *
  have HOR : Hid ((∀ x, ao = some x → x.block < r) ∨ bs = []) := hor
  clear hor HA
  go_wp2_with fail
  refine (write_old b r [] bs ao n cap w1 hH hbw HOR.out (by omega) hnc (by omega) hK1 (by omega) hb2 (by simp; omega)).mono ?_
  rintro e w2 ⟨rfl, hH2, hchg⟩
  rw [List.nil_append] at hH2
  have hs2 := hchg.size
  have hK2 := hK1.chg hchg (by omega) (by omega)
  have hres2 := (hchg.block r (by omega) (by omega)).trans hres
  have hbel2 : Below r w w2 := hbelA.trans (hchg.below (by omega) (by omega))
  clear hres hK1 hbw hchg hbelA
  go_wp2_with fail
  refine (sum_any b bs w2 hH2 hK2 (by omega) (by omega) (by omega)).mono ?_
  rintro e w3 ⟨rfl, hbel3⟩
  rw [← HD.out]
  have hres3 := (hbel3.block r (by omega)).trans hres2
  have hbelF : Below r w w3 := hbel2.trans (hbel3.mono (by omega))
  clear hres2 hK2 hH2 hbel3 hbel2 HD
  go_wp2_with (refine wpList_store_row rfl 46 (.tmp 2) (.tmp 9) rfl r D rfl rfl 46 A hres3 ?hs2 ?ho hD1 ?_)
  case hs2 => rw [size24, hDs]
  case ho => rw [hA, hDs]
  refine bodyPost_ret (results_cell_row rfl _ _ r 46 D (0, 0) _ rfl (setRow_heap _ _ _ _ _ _ hres3) Tryd.underlying46 rfl (by rw [size24, hDs])) rfl ?_
  exact ⟨rfl, by rw [hn]; exact below_setRow hbelF (Nat.le_refl _) _⟩

end Go.Proofs.YtecacjddggljgaaDoor.Sm
namespace Go.Proofs.YtecacjddggljgaaDoor.Sm
open Go.RowKit
/-- The first l bits of a byte. -/
def maskB (c : UInt8) (l : Nat) : UInt8 := c &&& UInt8.ofNat (255 - 255 / 2 ^ (min l 8))
def keptB (d : List UInt8) (l : Nat) : Nat → List UInt8
  | 0 => d
  | i + 1 => (keptB d l i).set i (maskB (d.getD i 0) (l - 8 * i))
theorem keptB_length (d : List UInt8) (l : Nat) : ∀ i, (keptB d l i).length = d.length
  | 0 => rfl
  | i + 1 => by rw [keptB, List.length_set, keptB_length d l i]
theorem keptB_later (d : List UInt8) (l j : Nat) : ∀ i, i ≤ j → (keptB d l i).getD j 0 = d.getD j 0
  | 0, _ => rfl
  | i + 1, h => by
    rw [keptB, List.getD, List.getElem?_set_ne (by omega)]
    exact keptB_later d l j i (by omega)
theorem mask_num (c : UInt8) (h : Nat) (hh : h ≤ 8) : bits .andNot .u8 (c.toNat : Int) ((255 / 2 ^ h : Nat) : Int) = ((maskB c h).toNat : Int) := by
  have hp : 255 / 2 ^ h ≤ 255 := Nat.div_le_self _ _
  rw [u8_andNot_nat c.toNat (255 / 2 ^ h) c.toNat_lt (by omega), maskB, Nat.min_eq_left hh, UInt8.toNat_and, toNat_ofNat _ (Nat.lt_of_le_of_lt (Nat.sub_le _ _) (by omega))]
theorem shift_255 (h : Nat) (hh : h ≤ 8) (w : World) : (Op.shift .shr .u8 255 .i64 (h : Int)).run Tryd.prog w = .ok (.int .u8 ((255 / 2 ^ h : Nat) : Int)) w := by
  match h, hh with
  | 0, _ => rfl
  | 1, _ => rfl
  | 2, _ => rfl
  | 3, _ => rfl
  | 4, _ => rfl
  | 5, _ => rfl
  | 6, _ => rfl
  | 7, _ => rfl
  | 8, _ => rfl
set_option maxRecDepth 100000 in
set_option maxHeartbeats 1000000 in
theorem kept_any (ao : Option Addr) (n cap : Nat) (bs : List UInt8) (z : Int) (w : World) (hb : Bytes w ao n bs) (hnc : n ≤ cap) (hcap : cap ≤ 9223372036854774000) (hK : WW w 1 ks) (h0 : 1 < w.heap.size) (hz1 : -9223372036854775808 ≤ z) (hz2 : z ≤ 9223372036854775807) :
    Calls Tryd.prog 67 #[.slice ao n cap, .int .i64 z] w fun e w' => e = .returned (.agg (cellsOf (keptB (shaB bs) (min (max z 0) 256).toNat 32)).toArray) ∧ Below w.heap.size w w' := by
  obtain ⟨L, HL⟩ : ∃ L : Nat, Hid (L = (min (max z 0) 256).toNat) := ⟨_, rfl⟩
  have hL : min (max z 0) 256 = (L : Int) := by rw [HL.out]; omega
  have hL256 : L ≤ 256 := by omega
  rw [← HL.out]
  obtain ⟨d0, HD0⟩ : ∃ d0, Hid (d0 = shaB bs) := ⟨_, rfl⟩
  have hd0 : d0.length = 32 := by rw [HD0.out]; exact shaB_length _
  rw [← HD0.out]
  go_enter Tryd.func67, Tryd.ntmps67
  go_wp2_with fail
  refine (of_any ao n cap bs _ (bytes_kept hb (bel_alloc _ _) (Nat.le_refl _)) hnc hcap (hK.below (bel_alloc _ _) h0) (by simp; omega)).mono ?_
  rintro e w1 ⟨rfl, hbel1⟩
  rw [← HD0.out]
  have hD1 : (cellsOf d0).toArray.all (·.oneCell') = true := all_oneCell_toArray (cellsOf_one _)
  have hbel1' : Below w.heap.size w w1 := (bel_alloc _ _).trans (hbel1.mono (by simp))
  obtain ⟨A, hA, hres⟩ : ∃ A : Array Value, A.size = 32 ∧ w1.heap[w.heap.size]? = some (.cells A 46 (0, 0)) :=
    ⟨_, rfl, (hbel1.block _ (by simp)).trans (heap_alloc_new _ _)⟩
  have hs1 : w.heap.size + 1 ≤ w1.heap.size := by have := hbel1.size; simpa using this
  clear hb hK hbel1
  go_wp2_with (refine wpList_store_to rfl 46 (.tmp 5) (.tmp 10) rfl w1.heap.size (cellsOf d0).toArray rfl rfl 46 (cellsOf (List.replicate 32 0)).toArray ?hz ?hzs ?hzo hD1 ?_)
  case hz => exact heap_alloc_new _ _
  case hzs => rw [size24, List.size_toArray, cellsOf_length, hd0]
  case hzo => simp [cellsOf, hd0]
  intro w2 hblk2 hchg2
  have hs2 : w1.heap.size + 1 ≤ w2.heap.size := by have := hchg2.size; simpa using this
  have hbel2 : Below w1.heap.size w1 w2 := (bel_alloc _ _).trans (hchg2.below (Nat.le_refl _) (by simp))
  have hres2 := (hbel2.block w.heap.size (by omega)).trans hres
  have hbelw2 : Below w.heap.size w w2 := hbel1'.trans (hbel2.mono (by omega))
  clear hchg2 hres hbel1' hbel2 hD1 HL
  generalize hd : w1.heap.size = d at *
  generalize hn : w.heap.size = r at *
  go_wp2_with fail
  go_loopw [6, 14] (fun l t wr => ∃ i : Nat, i ≤ 32 ∧ t = .int .i64 i ∧ l = .int .i64 ((L - 8 * i : Nat) : Int) ∧ Below d w2 wr ∧ wr.heap[d]? = some (.cells (cellsOf (keptB d0 L i)).toArray 46)) (fun _ t _ => (32 - intOf t).toNat)
  case atStart => exact ⟨0, by omega, rfl, by simp, Below.refl _ _, hblk2⟩
  case round =>
    obtain ⟨i, hi, rfl, rfl, hb, hwr⟩ := hrel
    by_cases hi32 : i < 32
    · obtain ⟨l, hl⟩ : ∃ l, L - 8 * i = l := ⟨_, rfl⟩
      obtain ⟨h, hh⟩ : ∃ h, h = min l 8 := ⟨_, rfl⟩
      rw [hl]
      have hmin : min (l : Int) 8 = (h : Int) := by omega
      have hh8 : h ≤ 8 := by omega
      have hlen : (keptB d0 L i).length = 32 := by rw [keptB_length, hd0]
      have hcell : wr.cell? ⟨d, i, none⟩ = some (.int .u8 ((keptB d0 L i).getD i 0).toNat) := by rw [cell_of_row wr d i _ _ _ hwr]; exact cellsOf_getD _ _ (by omega)
      have hfz := frozen_of_row wr d i _ _ hwr
      rw [keptB_later d0 L i i (Nat.le_refl _)] at hcell
      have HNEW : Hid ((cellsOf (keptB d0 L i)).toArray.setIfInBounds i (.int .u8 (maskB (d0.getD i 0) h).toNat) = (cellsOf (keptB d0 L (i + 1))).toArray) := by
        show _ = _
        rw [List.setIfInBounds_toArray, keptB, hl]
        have : maskB (d0.getD i 0) l = maskB (d0.getD i 0) h := by rw [hh]; simp [maskB]
        rw [this]
        simp [cellsOf, List.map_set]
      have HMASK : Hid (bits .andNot .u8 ((d0.getD i 0).toNat : Int) ((255 : Int) / 2 ^ h) = ((maskB (d0.getD i 0) h).toNat : Int)) := by
        show _ = _
        rw [← mask_num (d0.getD i 0) h hh8]; simp
      generalize d0.getD i 0 = c at *
      have hcl := c.toNat_lt
      have hsh := shift_255 h hh8
      have HHH : Hid (h = min l 8) := hh
      have hlh : (h : Int) ≤ (l : Int) := by omega
      have hl256 : (l : Int) ≤ 256 := by omega
      have e1 : (i : Int) < 32 := by omega
      have e0 : (0 : Int) ≤ (i : Int) := by omega
      have HLL : Hid (L - 8 * i = l) := hl
      clear hh hl
      go_wp2_with fail
      go_region
      rw [HMASK.out]
      obtain ⟨hb3, hwr3⟩ := set_word (Nat.le_refl _) hb hwr HNEW.out
      generalize (wr.setCell _ _).drew = w3 at *
      clear hb hwr hcell hfz hsh HNEW HMASK hmin
      go_wp2
      go_roundw
      case rel => exact ⟨i + 1, by omega, by go_num, by have := HLL.out; have := HHH.out; first | (congr 1; omega) | (rw [show (l : Int) - (h : Int) = ((L - 8 * (i + 1) : Nat) : Int) by omega]), hb3, hwr3⟩
      case measure => simp [intOf]; omega
    · have hi' : i = 32 := by omega
      have hres5 := (hb.block r (by omega)).trans hres2
      have hbn : Below r w wr := hbelw2.trans (hb.mono (by omega))
      obtain ⟨D, HD⟩ : ∃ D, Hid (D = (cellsOf (keptB d0 L i)).toArray) := ⟨_, rfl⟩
      have hcs : D.size = 32 := by rw [HD.out, List.size_toArray, cellsOf_length, keptB_length, hd0]
      have hone : D.all (·.oneCell') = true := by rw [HD.out]; exact all_oneCell_toArray (cellsOf_one _)
      rw [← HD.out] at hwr
      have HD2 : Hid (D = (cellsOf (keptB d0 L 32)).toArray) := by show _ = _; rw [HD.out, hi']
      clear hblk2 hres2 hb hbelw2 HD
      go_wp2_with (first | (refine wpList_load_row rfl 46 (.tmp 5) rfl d rfl 46 D (0, 0) _ hwr Tryd.underlying46 rfl ?hs ?_) | (refine wpList_store_row rfl 46 (.tmp 4) (.tmp 30) rfl r D rfl rfl 46 A hres5 ?hs2 ?ho hone ?_))
      case hs => rw [size24, hcs]
      case hs2 => rw [size24, hcs]
      case ho => rw [hA, hcs]
      refine bodyPost_ret (results_cell_row rfl _ _ r 46 D (0, 0) _ rfl (setRow_heap _ _ _ _ _ _ hres5) Tryd.underlying46 rfl (by rw [size24, hcs])) rfl ?_
      exact ⟨by rw [HD2.out], by rw [hn]; exact below_setRow hbn (Nat.le_refl _) _⟩
end Go.Proofs.YtecacjddggljgaaDoor.Sm

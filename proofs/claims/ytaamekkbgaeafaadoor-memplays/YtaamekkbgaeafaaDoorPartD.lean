/-
  What the document's answers marlstoneref02.CRC and marlstoneref02.Hex answer: contracts over this translation. What the document's answer marlstoneref02.turned answers, for each number of places that it is asked, and marlstoneref02.Constants: contracts over this translation. '[]byte(s)' and what is appended to it, byte by byte. No walk. What the document's answer marlstoneref02.Padded answers: a contract over this translation.
-/
import Derived.Test.YtaamekkbgaeafaaDoorSAppend
import Derived.Lib.FrozenHead2
import Derived.Lib.ConvBytes
namespace Go.Proofs.YtaamekkbgaeafaaDoor.Sm
open Go.RowKit
def strB (s : ByteArray) : List UInt8 := s.data.toList
theorem strB_length (s : ByteArray) : (strB s).length = s.size := by simp [strB]
theorem strB_mk (l : List UInt8) : strB ⟨l.toArray⟩ = l := by simp [strB]
theorem one_cell (w : World) (c : UInt8) (v1 : Value) (h1 : v1 = .int .u8 (c.toNat : Int)) : ∀ j u, (cellsOf [c])[j]? = some u → (w.alloc (.cells #[v1] 5)).cell? (Addr.add ⟨w.heap.size, 0, none⟩ j) = some u := by
  subst h1
  intro j u hu
  rw [Addr.add_lit, Nat.zero_add, cell_of_row _ _ j _ 5 (0, 0) (heap_alloc_new _ _)]
  simpa [cellsOf] using hu
end Go.Proofs.YtaamekkbgaeafaaDoor.Sm
namespace Go.Proofs.YtaamekkbgaeafaaDoor.Sm
open Go.RowKit
theorem w_turn (x n : UInt32) (p q : Nat) (hn : n.toNat < 32) (hm : (32 - n).toNat < 32) (hp : 2 ^ (32 - n).toNat = p) (hq : 2 ^ n.toNat = q) :
    bits .or .u32 ((x.toNat : Int) / (q : Int)) ((x.toNat : Int) * (p : Int) % 4294967296) = ((rot x n).toNat : Int) := by
  rw [w_shl x (32 - n) p hm hp, w_shr x n q hn hq, w_or, UInt32.or_comm]; rfl
theorem turned_2 (x : UInt32) (w : World) : Calls Tryd.prog 46 #[.int .u32 x.toNat, .int .i64 2] w fun e w' => e = .returned (.int .u32 (rot x 2).toNat) ∧ w' = w := by
  have hx := x.toNat_lt
  go_enter Tryd.func46, Tryd.ntmps46
  go_wp2
  go_ret
  exact ⟨ret_u32 (w_turn x 2 1073741824 4 (by decide) (by decide) (by decide) (by decide)), rfl⟩
theorem turned_13 (x : UInt32) (w : World) : Calls Tryd.prog 46 #[.int .u32 x.toNat, .int .i64 13] w fun e w' => e = .returned (.int .u32 (rot x 13).toNat) ∧ w' = w := by
  have hx := x.toNat_lt
  go_enter Tryd.func46, Tryd.ntmps46
  go_wp2
  go_ret
  exact ⟨ret_u32 (w_turn x 13 524288 8192 (by decide) (by decide) (by decide) (by decide)), rfl⟩
theorem turned_22 (x : UInt32) (w : World) : Calls Tryd.prog 46 #[.int .u32 x.toNat, .int .i64 22] w fun e w' => e = .returned (.int .u32 (rot x 22).toNat) ∧ w' = w := by
  have hx := x.toNat_lt
  go_enter Tryd.func46, Tryd.ntmps46
  go_wp2
  go_ret
  exact ⟨ret_u32 (w_turn x 22 1024 4194304 (by decide) (by decide) (by decide) (by decide)), rfl⟩
theorem turned_6 (x : UInt32) (w : World) : Calls Tryd.prog 46 #[.int .u32 x.toNat, .int .i64 6] w fun e w' => e = .returned (.int .u32 (rot x 6).toNat) ∧ w' = w := by
  have hx := x.toNat_lt
  go_enter Tryd.func46, Tryd.ntmps46
  go_wp2
  go_ret
  exact ⟨ret_u32 (w_turn x 6 67108864 64 (by decide) (by decide) (by decide) (by decide)), rfl⟩
theorem turned_11 (x : UInt32) (w : World) : Calls Tryd.prog 46 #[.int .u32 x.toNat, .int .i64 11] w fun e w' => e = .returned (.int .u32 (rot x 11).toNat) ∧ w' = w := by
  have hx := x.toNat_lt
  go_enter Tryd.func46, Tryd.ntmps46
  go_wp2
  go_ret
  exact ⟨ret_u32 (w_turn x 11 2097152 2048 (by decide) (by decide) (by decide) (by decide)), rfl⟩
theorem turned_25 (x : UInt32) (w : World) : Calls Tryd.prog 46 #[.int .u32 x.toNat, .int .i64 25] w fun e w' => e = .returned (.int .u32 (rot x 25).toNat) ∧ w' = w := by
  have hx := x.toNat_lt
  go_enter Tryd.func46, Tryd.ntmps46
  go_wp2
  go_ret
  exact ⟨ret_u32 (w_turn x 25 128 33554432 (by decide) (by decide) (by decide) (by decide)), rfl⟩
theorem turned_7 (x : UInt32) (w : World) : Calls Tryd.prog 46 #[.int .u32 x.toNat, .int .i64 7] w fun e w' => e = .returned (.int .u32 (rot x 7).toNat) ∧ w' = w := by
  have hx := x.toNat_lt
  go_enter Tryd.func46, Tryd.ntmps46
  go_wp2
  go_ret
  exact ⟨ret_u32 (w_turn x 7 33554432 128 (by decide) (by decide) (by decide) (by decide)), rfl⟩
theorem turned_18 (x : UInt32) (w : World) : Calls Tryd.prog 46 #[.int .u32 x.toNat, .int .i64 18] w fun e w' => e = .returned (.int .u32 (rot x 18).toNat) ∧ w' = w := by
  have hx := x.toNat_lt
  go_enter Tryd.func46, Tryd.ntmps46
  go_wp2
  go_ret
  exact ⟨ret_u32 (w_turn x 18 16384 262144 (by decide) (by decide) (by decide) (by decide)), rfl⟩
theorem turned_17 (x : UInt32) (w : World) : Calls Tryd.prog 46 #[.int .u32 x.toNat, .int .i64 17] w fun e w' => e = .returned (.int .u32 (rot x 17).toNat) ∧ w' = w := by
  have hx := x.toNat_lt
  go_enter Tryd.func46, Tryd.ntmps46
  go_wp2
  go_ret
  exact ⟨ret_u32 (w_turn x 17 32768 131072 (by decide) (by decide) (by decide) (by decide)), rfl⟩
theorem turned_19 (x : UInt32) (w : World) : Calls Tryd.prog 46 #[.int .u32 x.toNat, .int .i64 19] w fun e w' => e = .returned (.int .u32 (rot x 19).toNat) ∧ w' = w := by
  have hx := x.toNat_lt
  go_enter Tryd.func46, Tryd.ntmps46
  go_wp2
  go_ret
  exact ⟨ret_u32 (w_turn x 19 8192 524288 (by decide) (by decide) (by decide) (by decide)), rfl⟩
theorem wcells_length (l : List UInt32) : (wcells l).length = l.length := by simp [wcells]
set_option maxRecDepth 100000 in
set_option maxHeartbeats 1000000 in
theorem constants_any (w : World) : Calls Tryd.prog 43 #[] w fun e w' => ∃ g, e = .returned (.slice (some ⟨g, 0, none⟩) 64 64) ∧ w.heap.size ≤ g ∧ g < w'.heap.size ∧ WW w' g ks ∧ Below w.heap.size w w' := by
  go_enter Tryd.func43, Tryd.ntmps43
  go_wp2
  go_ret
  refine ⟨w.heap.size, rfl, Nat.le_refl _, by simp, WW_of_block (ty := 68) (fr := (0, 0)) rfl ?_, bel_alloc _ _⟩
  exact heap_alloc_new _ _
end Go.Proofs.YtaamekkbgaeafaaDoor.Sm
namespace Go.Proofs.YtaamekkbgaeafaaDoor.Sm
open Go.RowKit
/-- A row of bytes that the call owns; behind its last place there may be a mark. -/
def OwnT (w : World) (base : Nat) (v : Value) (bs : List UInt8) : Prop :=
  ∃ g cap cur fz, v = .slice (some ⟨g, 0, none⟩) bs.length cap ∧ base ≤ g ∧ w.heap[g]? = some (.cells cur 5 fz) ∧ (cap ≤ fz.1 ∨ fz.2 = 0) ∧ bs.length ≤ cap ∧ cap ≤ maxLen ∧ cur.size = cap ∧ cur.toList.take bs.length = cellsOf bs
theorem OwnT.below {w w' : World} {B base : Nat} {v : Value} {bs : List UInt8} (h : OwnT w base v bs) (hb : Below B w w') (hB : w.heap.size ≤ B) : OwnT w' base v bs := by
  obtain ⟨g, cap, cur, fz, h1, h2, h3, r⟩ := h
  exact ⟨g, cap, cur, fz, h1, h2, by rw [hb.block g (Nat.lt_of_lt_of_le (Array.getElem?_eq_some_iff.1 h3).1 hB)]; exact h3, r⟩
theorem OwnT.bytes {w : World} {base : Nat} {v : Value} {bs : List UInt8} (h : OwnT w base v bs) : ∃ g cap, v = .slice (some ⟨g, 0, none⟩) bs.length cap ∧ base ≤ g ∧ g < w.heap.size ∧ bs.length ≤ cap ∧ cap ≤ 9223372036854775807 ∧ Bytes w (some ⟨g, 0, none⟩) bs.length bs := by
  obtain ⟨g, cap, cur, fz, h1, h2, h3, _, h5, h6, h7, h8⟩ := h
  refine ⟨g, cap, h1, h2, (Array.getElem?_eq_some_iff.1 h3).1, h5, by unfold maxLen at h6; exact h6, rfl, fun i c hi => ⟨_, rfl, ?_⟩⟩
  rw [Addr.add_lit, Nat.zero_add, cell_of_row w g i _ 5 fz h3]
  have h9 : (cellsOf bs)[i]? = some (.int .u8 c.toNat) := by simp [cellsOf, hi]
  rw [← h8, List.getElem?_take] at h9
  split at h9
  · simpa using h9
  · cases h9
theorem run_storeCell_tail (P : Program) (g o : Nat) (t : TypeId) (fz : Nat × Nat) (v : Value) (cur : Array Value) (w : World) (hg : w.heap[g]? = some (.cells cur t fz)) (hfz : o < fz.1 ∨ fz.2 = 0) (hl : o < cur.size) (h1 : v.oneCell' = true) :
    (storeCells ⟨g, o, none⟩ [v] 0).run P w = .ok () (w.setRow g (cur.setIfInBounds o v)) := by
  have hadd : (⟨g, o, none⟩ : Addr).add 0 = ⟨g, o, none⟩ := by simp [Addr.add]
  have hcell : w.cell? ⟨g, o, none⟩ = some cur[o] := by simp [World.cell?, hg, hl]
  have hfro : w.frozen? ⟨g, o, none⟩ = false := by
    obtain ⟨lo, hi'⟩ := fz
    simp only [World.frozen?, hg, Bool.and_eq_false_iff, decide_eq_false_iff_not]
    simp only at hfz
    omega
  have hst : (store ((⟨g, o, none⟩ : Addr).add 0) v).run P w = .ok () (w.setRow g (cur.setIfInBounds o v)) := by
    rw [hadd, run_store P w _ v _ h1, hcell]
    simp [hfro, setCell_eq_setRow w g o cur t fz v hg]
  simp only [storeCells, Sem.run_bind, hst, Result.andThen_ok]
  rfl
theorem run_append_tail (w : World) (base : Nat) (ty : TypeId) (v : Value) (bs : List UInt8) (hown : OwnT w base v bs) (ad : Addr) (c : UInt8) (hc : w.cell? (ad.add 0) = some (.int .u8 c.toNat)) (k : Nat) (hb : bs.length + 1 ≤ 140737488355328) (hbase : base ≤ w.heap.size) :
    ∃ v' w', (Builtin.append_ #[52, 52] ty #[v, .slice (some ad) 1 k]).run Tryd.prog w = .ok v' w' ∧ OwnT w' base v' (bs ++ [c]) ∧ Below base w w' := by
  obtain ⟨i, hi, hz0, hz1, hz2⟩ := info_parts info5
  obtain ⟨g, cap, cur, fz, rfl, hbg, hg, hfz, hnc, hcm, hcs, htake⟩ := hown
  have hnews : ∀ j u, [Value.int .u8 c.toNat][j]? = some u → w.cell? (ad.add j) = some u := by
    intro j u hu
    cases j with
    | zero => simp at hu; subst hu; exact hc
    | succ j => simp at hu
  by_cases hroom : bs.length + 1 ≤ cap
  · have hf := run_firstCells_some (P := Tryd.prog) w i.size 1 ad 1 k [.int .u8 c.toNat] (by simp [hz1]) hnews
    have hst := run_storeCell_tail Tryd.prog g bs.length 5 fz (.int .u8 c.toNat) cur w hg (by omega) (by omega) rfl
    refine ⟨.slice (some ⟨g, 0, none⟩) (bs.length + 1) cap, w.setRow g (cur.setIfInBounds bs.length (.int .u8 c.toNat)), ?_, ?_, ?_⟩
    · simp [Builtin.append_, run_underlying Tryd.underlying52, sizeOf, typeInfo, hi, hz1, Builtin.lenOf, hroom] at hf ⊢
      simp [hf, Addr.add_lit, hst]
    · refine ⟨g, cap, _, fz, by simp, hbg, setRow_heap w g cur _ 5 _ hg, hfz, by simpa using hroom, hcm, by simpa using hcs, ?_⟩
      have hl : bs.length < cur.toList.length := by simp; omega
      rw [Array.toList_setIfInBounds, cellsOf_append, ← htake, List.length_append, List.length_singleton, List.take_add_one, List.take_set_of_le (Nat.le_refl _), List.getElem?_set_self hl]
      rfl
    · exact below_setRow (Below.refl _ _) hbg _
  · have holds : ∀ j u, (cellsOf bs)[j]? = some u → w.cell? ((⟨g, 0, none⟩ : Addr).add j) = some u := by
      intro j u hu
      rw [Addr.add_lit, Nat.zero_add, cell_of_row w g j _ 5 fz hg]
      rw [← htake, List.getElem?_take] at hu
      split at hu
      · simpa using hu
      · cases hu
    have hr := run_append_grow (P := Tryd.prog) w 52 ty 5 i (.int .u8 0) Tryd.underlying52 hi hz0 ⟨g, 0, none⟩ bs.length cap (cellsOf bs) (by rw [cellsOf_length, hz1]; omega) holds ad 1 k [.int .u8 c.toNat] (by simp [hz1]) hnews (by omega) (by omega) (growslice_fits (by omega) (by rw [hz2]; omega))
    have hge := grownCap_ge w (bs.length + 1) cap 5
    have hcm2 : grownCap w (bs.length + 1) cap 5 ≤ maxLen := grownCap_le_maxLen w (bs.length + 1) cap 5 (by unfold maxLen; omega)
    refine ⟨_, _, hr, ⟨w.heap.size, _, _, (0, 0), by simp, hbase, heap_alloc_new w.drew _, .inr rfl, by simpa using hge, hcm2, ?_, ?_⟩, (Below.drew (Below.refl _ _)).alloc (by simpa using hbase) _⟩
    · simp only [Array.size_append, List.size_toArray, size_zeroCells, cellsOf_length]
      simp [Value.cells]
      omega
    · simp only [Array.toList_append, List.append_assoc, cellsOf_append, List.length_append, List.length_singleton]
      have : (bs.length + 1) = (cellsOf bs ++ [Value.int .u8 (c.toNat : Int)]).length := by simp [cellsOf]
      rw [this, ← List.append_assoc]
      exact List.take_left
theorem wpList_append_tail {ops : Array Oper} {rest : List Oper} {o : Oper} {a : Act} {Q : Exit → Act → World → Prop} (w : World)
    (hg : o.guard = none) (s x : Operand) (hop : o.op = Op.call { callee := Callee.builtin Builtin.append, args := #[s, x], argTypes := #[52, 52] })
    (base : Nat) (v : Value) (bs : List UInt8) (hs : a.eval s = v) (hown : OwnT w base v bs) (hbase : base ≤ w.heap.size)
    (ad : Addr) (k : Nat) (c : UInt8) (hx : a.eval x = .slice (some ad) 1 k) (hc : w.cell? (ad.add 0) = some (.int .u8 c.toNat)) (hb : bs.length + 1 ≤ 140737488355328)
    (hK : ∀ v' w', OwnT w' base v' (bs ++ [c]) → Below base w w' → wpList Tryd.prog ops Q rest (a.put o.dst v') w') :
    wpList Tryd.prog ops Q (o :: rest) a w := by
  refine wpList_plain hg fun K hKK => ?_
  obtain ⟨v', w', hr, h2, h3⟩ := run_append_tail w base o.type v bs hown ad c hc k hb hbase
  unfold Oper.wp execOp
  simp only [hop, resolve, invoke, builtin, Sem.run_bind, Sem.run_pure, Result.andThen_ok, List.map_toArray, List.map_cons, List.map_nil, hs, hx, hr]
  exact hKK _ _ (hK v' w' h2 h3)
theorem ownT_conv (w : World) (s : ByteArray) (hs : s.size ≤ 1000000) : OwnT (Lib.bytesWorld w 5 s) w.heap.size (.slice (some ⟨w.heap.size, 0, none⟩) s.size (grownCap w s.size 0 5)) (strB s) := by
  have hge := grownCap_ge w s.size 0 5
  have hcm := grownCap_le_maxLen w s.size 0 5 (by unfold maxLen; omega)
  have hsz : (Lib.bytesCells w 5 s).size = grownCap w s.size 0 5 := by simp [Lib.bytesCells]; omega
  refine ⟨w.heap.size, grownCap w s.size 0 5, Lib.bytesCells w 5 s, _, by rw [strB_length], Nat.le_refl _, Lib.bytesWorld_at_new w 5 s, .inl (by rw [hsz]; exact Nat.le_refl _), by rw [strB_length]; exact hge, hcm, hsz, ?_⟩
  have e : (Lib.bytesCells w 5 s).toList = cellsOf (strB s) ++ List.replicate (grownCap w s.size 0 5 - s.size) (.int .u8 0) := by
    simp [Lib.bytesCells, cellsOf, strB]
  rw [e, show (strB s).length = (cellsOf (strB s)).length by rw [cellsOf_length]]
  exact List.take_left
theorem bel_conv (w : World) (s : ByteArray) : Below w.heap.size w (Lib.bytesWorld w 5 s) := by
  refine ⟨?_, ?_, ?_, by rw [Lib.bytesWorld_size]; omega, fun k hk => Lib.bytesWorld_at_old w 5 s k hk⟩ <;> first | (unfold Lib.bytesWorld World.freeze; simp; done) | (unfold Lib.bytesWorld World.freeze; simp; rfl)
end Go.Proofs.YtaamekkbgaeafaaDoor.Sm
namespace Go.Proofs.YtaamekkbgaeafaaDoor.Sm
open Go.RowKit
def lenB (m : Nat) : List UInt8 := [7, 6, 5, 4, 3, 2, 1, 0].map fun i => UInt8.ofNat (m / 2 ^ (8 * i) % 256)
theorem lenB_at (m i : Nat) (hi : i ≤ 7) : (lenB m)[7 - i]? = some (UInt8.ofNat (m / 2 ^ (8 * i) % 256)) := by
  match i, hi with
  | 0, _ => rfl
  | 1, _ => rfl
  | 2, _ => rfl
  | 3, _ => rfl
  | 4, _ => rfl
  | 5, _ => rfl
  | 6, _ => rfl
  | 7, _ => rfl
theorem lenB_eq (n : Nat) (h : 8 * n < 18446744073709551616) : word4 (UInt32.ofNat (8 * n % 18446744073709551616 / 4294967296)) ++ word4 (UInt32.ofNat (8 * n % 4294967296)) = lenB (8 * n) := by
  have e1 : (UInt32.ofNat (8 * n % 18446744073709551616 / 4294967296)).toNat = 8 * n / 4294967296 := by rw [UInt32.toNat_ofNat']; omega
  have e2 : (UInt32.ofNat (8 * n % 4294967296)).toNat = 8 * n % 4294967296 := by rw [UInt32.toNat_ofNat']; omega
  have k7 : 8 * n / 4294967296 / 16777216 = 8 * n / 2 ^ (8 * 7) % 256 := by simp only [Nat.reduceMul, Nat.reducePow]; omega
  have k6 : 8 * n / 4294967296 / 65536 % 256 = 8 * n / 2 ^ (8 * 6) % 256 := by simp only [Nat.reduceMul, Nat.reducePow]; omega
  have k5 : 8 * n / 4294967296 / 256 % 256 = 8 * n / 2 ^ (8 * 5) % 256 := by simp only [Nat.reduceMul, Nat.reducePow]; omega
  have k4 : 8 * n / 4294967296 % 256 = 8 * n / 2 ^ (8 * 4) % 256 := by simp only [Nat.reduceMul, Nat.reducePow]
  have k3 : 8 * n % 4294967296 / 16777216 = 8 * n / 2 ^ (8 * 3) % 256 := by simp only [Nat.reduceMul, Nat.reducePow]; omega
  have k2 : 8 * n % 4294967296 / 65536 % 256 = 8 * n / 2 ^ (8 * 2) % 256 := by simp only [Nat.reduceMul, Nat.reducePow]; omega
  have k1 : 8 * n % 4294967296 / 256 % 256 = 8 * n / 2 ^ (8 * 1) % 256 := by simp only [Nat.reduceMul, Nat.reducePow]; omega
  have k0 : 8 * n % 4294967296 % 256 = 8 * n / 2 ^ (8 * 0) % 256 := by simp only [Nat.reduceMul, Nat.reducePow]; omega
  rw [word4, word4, e1, e2, k7, k6, k5, k4, k3, k2, k1, k0]
  rfl
theorem byte_num (m i : Nat) : (m : Int) / 2 ^ (8 * i) % 256 = ((UInt8.ofNat (m / 2 ^ (8 * i) % 256)).toNat : Int) := by
  rw [toNat_ofNat _ (by omega)]; simp
theorem one_at (w : World) (c : UInt8) (v : Value) (h : v = .int .u8 (c.toNat : Int)) : (w.alloc (.cells #[v] 5)).cell? (Addr.add ⟨w.heap.size, 0, none⟩ 0) = some (.int .u8 c.toNat) := by
  subst h
  rw [Addr.add_lit, Nat.zero_add, cell_of_row _ _ 0 _ 5 (0, 0) (heap_alloc_new _ _)]
  rfl
set_option maxRecDepth 100000 in
set_option maxHeartbeats 1000000 in
theorem padded_any (s : ByteArray) (w : World) (hs : s.size ≤ 3000) :
    Calls Tryd.prog 44 #[.string s] w fun e w' => ∃ v, e = .returned v ∧ OwnT w' w.heap.size v (strB s ++ closeB s.size) ∧ Below w.heap.size w w' := by
  obtain ⟨n, hn⟩ : ∃ n, s.size = n := ⟨_, rfl⟩
  have hconv := Lib.run_convert_string_bytes (P := Tryd.prog) w 9 52 5 s Tryd.underlying9 Tryd.underlying52 Tryd.underlying5
  have hO := ownT_conv w s (by omega)
  have hbel := bel_conv w s
  have hsl := strB_length s
  rw [hn] at hO hconv hsl hs ⊢
  have HN : Hid (s.size = n) := hn
  clear hn
  generalize Lib.bytesWorld w 5 s = w1 at *
  generalize grownCap w n 0 5 = c1 at *
  have HO : Hid (OwnT w1 w.heap.size (.slice (some ⟨w.heap.size, 0, none⟩) n c1) (strB s)) := hO
  clear hO
  have hs1 := hbel.size
  have hszn := HN.out
  obtain ⟨z, HZ⟩ : ∃ z, Hid (z = zerosOf n) := ⟨_, rfl⟩
  have hz64 : z < 64 := by rw [HZ.out]; unfold zerosOf; omega
  have HZM : Hid (∀ j, j ≤ z → ((n + 1 + j) % 64 = 56 ↔ j = z)) := fun j hj => by rw [HZ.out] at *; unfold zerosOf at *; omega
  have HCL : Hid (closeB n = 128 :: List.replicate z 0 ++ lenB (8 * n)) := by show _ = _; rw [closeB, lenB_eq n (by omega), ← HZ.out]
  go_enter Tryd.func44, Tryd.ntmps44
  go_wp2_with (at_builtin; refine wpList_append_tail _ rfl (.tmp 8) (.tmp 9) rfl w.heap.size _ (strB s) rfl (HO.out.below (bel_alloc _ _) (Nat.le_refl _)) (by simp; omega) ⟨w1.heap.size, 0, none⟩ 1 128 rfl (one_at w1 128 _ rfl) (by omega) ?_)
  intro v2 w2 hO2 hbel2
  have hbw2 : Below w.heap.size w w2 := hbel.trans (((bel_alloc _ _).mono hbel.size).trans hbel2)
  clear hbel hbel2 HO hconv
  have hs2 := hbw2.size
  generalize hnn : w.heap.size = n0 at *
  have HO2 : Hid (OwnT w2 n0 v2 (strB s ++ [128])) := hO2
  clear hO2
  go_wp2_with fail
  go_loopw [3] (fun a wr => ∃ (j : Nat) (v : Value), j ≤ z ∧ v = a ∧ OwnT wr n0 v (strB s ++ 128 :: List.replicate j 0) ∧ Below n0 w wr ∧ n0 ≤ wr.heap.size) (fun a _ => match a with | .slice _ l _ => n + 1 + z - l | _ => 0)
  case atStart => exact ⟨0, _, by omega, rfl, HO2.out, hbw2, hs2⟩
  case round =>
    clear HO2
    obtain ⟨j, v, hj, rfl, hO, hbr, hsr⟩ := hrel
    have hl : (strB s ++ 128 :: List.replicate j 0).length = n + 1 + j := by simp [hsl]; omega
    have HO := hO
    obtain ⟨g, cap, cur, fz, hv, h2, h3, h4, h5, h6, h7, h8⟩ := hO
    have HOO : Hid (OwnT wr n0 v (strB s ++ 128 :: List.replicate j 0)) := HO
    rw [hl] at hv
    clear h3 h4 h5 h6 h7 h8 HO
    subst hv
    have hmod : (((n + 1 + j : Nat) : Int)).tmod 64 = (((n + 1 + j) % 64 : Nat) : Int) := by rw [Int.tmod_eq_emod_of_nonneg (by omega)]; omega
    have hjm := HZM.out j hj
    by_cases hjz : j = z
    · subst hjz
      have hne : (((n : Int) + 1 + (j : Int)) % 64 != 56) = false := by
        have : (n + 1 + j) % 64 = 56 := hjm.2 rfl
        simp; omega
      have HCL2 : Hid (strB s ++ closeB n = (strB s ++ 128 :: List.replicate j 0) ++ lenB (8 * n)) := by show _ = _; rw [HCL.out]; simp
      obtain ⟨A, HA⟩ : ∃ A : List UInt8, Hid (A = strB s ++ 128 :: List.replicate j 0) := ⟨strB s ++ 128 :: List.replicate j 0, rfl⟩
      rw [← HA.out] at HOO HCL2 hl
      have hn8 : ((n : Int) * 8) = ((8 * n : Nat) : Int) := by omega
      obtain ⟨m, hm⟩ : ∃ m, m = 8 * n := ⟨_, rfl⟩
      rw [← hm] at HCL2 hn8
      have hml : m < 18446744073709551616 := by omega
      have HM : Hid (m = 8 * n) := hm
      clear hjm hm HZM HCL HA
      go_wp2_with fail
      go_loopw [3, 5] (fun a t wq => ∃ (k : Nat) (v : Value), k ≤ 8 ∧ v = a ∧ t = .int .i64 (7 - (k : Int)) ∧ OwnT wq n0 v (A ++ (lenB m).take k) ∧ Below n0 w wq ∧ n0 ≤ wq.heap.size) (fun _ t _ => (intOf t + 1).toNat)
      case atStart => exact ⟨0, _, by omega, rfl, rfl, by rw [List.take_zero, List.append_nil]; exact HOO.out, hbr, hsr⟩
      case round =>
        clear HOO hbr hsr
        obtain ⟨k, v, hk, rfl, rfl, hO, hbr, hsr⟩ := hrel
        by_cases hk8 : k < 8
        · obtain ⟨i, hi⟩ : ∃ i, i = 7 - k := ⟨_, rfl⟩
          have hki : 7 - (k : Int) = (i : Int) := by omega
          rw [hki]
          have hi7 : (i : Int) ≤ 7 := by omega
          have hi0 : (0 : Int) ≤ (i : Int) := by omega
          have hx := lenB_at m i (by omega)
          have hnum := byte_num m i
          rw [show 7 - i = k by omega] at hx
          have HT : Hid (A ++ ((lenB m).take k ++ [UInt8.ofNat (m / 2 ^ (8 * i) % 256)]) = A ++ (lenB m).take (k + 1)) := by
            show _ = _; rw [List.take_add_one, hx]; rfl
          generalize UInt8.ofNat (m / 2 ^ (8 * i) % 256) = c at *
          have hcl := c.toNat_lt
          have hl2 : (A ++ (lenB m).take k).length ≤ 4000 := by rw [List.length_append, hl, List.length_take]; omega
          have HOK : Hid (OwnT wr n0 v (A ++ (lenB m).take k)) := hO
          have HK : Hid (i = 7 - k) := hi
          clear hO hx hi
          go_wp2_with (at_builtin; refine wpList_append_tail _ rfl (.tmp 26) (.tmp 33) rfl n0 v (A ++ (lenB m).take k) rfl (HOK.out.below (bel_alloc _ _) (Nat.le_refl _)) (by simp; omega) ⟨wr.heap.size, 0, none⟩ 1 c rfl (one_at wr c _ rfl) (by omega) ?_)
          intro v3 w3 hO3 hbel3
          rw [HT.out] at hO3
          have hbw3 : Below n0 w w3 := (hbr.trans ((bel_alloc _ _).mono hsr)).trans hbel3
          have hs3 := hbw3.size
          have HO3 : Hid (OwnT w3 n0 v3 (A ++ (lenB m).take (k + 1))) := hO3
          clear hO3 HOK hbel3 hnum
          go_wp2
          go_roundw
          case rel => exact ⟨k + 1, _, by omega, rfl, by have := HK.out; congr 1; omega, HO3.out, hbw3, by omega⟩
          case measure => first | (simp [intOf]; done) | (simp [intOf]; omega)
        · obtain rfl : k = 8 := by omega
          rw [show (lenB m).take 8 = lenB m from rfl, ← HCL2.out] at hO
          have HOK : Hid (OwnT wr n0 v (strB s ++ closeB n)) := hO
          have h78 : (7 : Int) - ((8 : Nat) : Int) = -1 := by omega
          rw [h78]
          clear hO
          go_wp2
          go_ret
          exact ⟨v, rfl, by rw [hnn]; exact HOK.out, by rw [hnn]; exact hbr⟩
    · have hne : ((((n + 1 + j) % 64 : Nat) : Int) != 56) = true := by
        have : (n + 1 + j) % 64 ≠ 56 := fun h => hjz (hjm.1 h)
        simp; omega
      generalize hmm : (n + 1 + j) % 64 = mm at *
      clear hjm
      go_wp2_with (at_builtin; refine wpList_append_tail _ rfl (.tmp 15) (.tmp 16) rfl n0 _ (strB s ++ 128 :: List.replicate j 0) rfl (HOO.out.below (bel_alloc _ _) (Nat.le_refl _)) (by simp; omega) ⟨wr.heap.size, 0, none⟩ 1 0 rfl (one_at wr 0 _ rfl) (by rw [hl]; omega) ?_)
      intro v3 w3 hO3 hbel3
      rw [← List.replicate_succ'] at hO3
      have hbw3 : Below n0 w w3 := (hbr.trans ((bel_alloc _ _).mono hsr)).trans hbel3
      have hs3 := hbw3.size
      have hl3 : (strB s ++ 128 :: List.replicate (j + 1) 0).length = n + 1 + (j + 1) := by simp [hsl]; omega
      have HO3 : Hid (OwnT w3 n0 v3 (strB s ++ 128 :: List.replicate (j + 1) 0)) := hO3
      obtain ⟨g3, cap3, cur3, fz3, hv3, k2, k3, k4, k5, k6, k7, k8⟩ := hO3
      rw [hl3] at hv3
      clear k3 k4 k5 k6 k7 k8 HOO hbel3
      subst hv3
      go_wp2
      go_roundw
      case rel => exact ⟨j + 1, _, by omega, rfl, HO3.out, hbw3, by omega⟩
      case measure => simp; omega
end Go.Proofs.YtaamekkbgaeafaaDoor.Sm

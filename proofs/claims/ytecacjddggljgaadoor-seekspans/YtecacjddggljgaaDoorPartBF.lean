/-
  A Hash in memory, and what a piece that is written makes of it. No walk. What sum.mixed answers: a contract over this translation. What (*sum.Hash).Write does: a contract over this translation.
-/
import Derived.Test.YtecacjddggljgaaDoorPartBE
import Derived.Test.YtecacjddggljgaaDoorPartBD
namespace Go.Proofs.YtecacjddggljgaaDoor.Sm
open Go.RowKit

theorem splice_mid {α : Type} (A B C X : List α) (k off : Nat) (hk : k = A.length + off) (h : off + X.length ≤ B.length) : splice (A ++ (B ++ C)) k X = A ++ (splice B off X ++ C) := by
  subst hk
  unfold splice
  have h1 : (A ++ (B ++ C)).take (A.length + off) = A ++ B.take off := by
    rw [List.take_append, List.take_of_length_le (by omega), show A.length + off - A.length = off by omega, List.take_append_of_le_length (by omega)]
  have h2 : (A ++ (B ++ C)).drop (A.length + off + X.length) = B.drop (off + X.length) ++ C := by
    rw [List.drop_append, List.drop_eq_nil_of_le (by omega), show A.length + off + X.length - A.length = off + X.length by omega, List.drop_append_of_le_length (by omega)]
    simp
  rw [h1, h2]
  simp
theorem cells_splice (p x : List UInt8) (off : Nat) : splice (cellsOf p) off (cellsOf x) = cellsOf (splice p off x) := by
  simp [splice, cellsOf, List.map_take, List.map_drop]

def hashCells (s : S8) (part : List UInt8) (n : Nat) : List Value := wcells s.list ++ (cellsOf part ++ [.int .u64 n])
theorem hash_length (s : S8) (part : List UInt8) (n : Nat) (h : part.length = 64) : (hashCells s part n).length = 73 := by
  simp [hashCells, wcells, S8.list, cellsOf, h]
theorem hash_splice (s : S8) (part x : List UInt8) (n off : Nat) (h : part.length = 64) (hx : off + x.length ≤ 64) : splice (hashCells s part n) (8 + off) (cellsOf x) = hashCells s (splice part off x) n := by
  unfold hashCells
  rw [splice_mid (wcells s.list) (cellsOf part) _ (cellsOf x) (8 + off) off (by simp [wcells, S8.list]) (by simp [cellsOf]; omega), cells_splice]
theorem hash_set (s : S8) (part : List UInt8) (n m : Nat) (h : part.length = 64) : (hashCells s part n).set 72 (.int .u64 m) = hashCells s part m := by
  unfold hashCells
  rw [List.set_append_right _ _ (by simp [wcells, S8.list]), List.set_append_right _ _ (by simp [wcells, S8.list, cellsOf, h])]
  simp [wcells, S8.list, cellsOf, h]
theorem hash_words (s t : S8) (part : List UInt8) (n : Nat) : splice (hashCells s part n) 0 (wcells t.list) = hashCells t part n := by
  unfold hashCells splice
  simp [wcells, S8.list]

theorem chain_append (l m : List UInt8) : ∀ n, 64 * n ≤ l.length → chain (l ++ m) n = chain l n
  | 0, _ => rfl
  | n + 1, h => by
    rw [chain, chain, chain_append l m n (by omega), List.drop_append_of_le_length (by omega), List.take_append_of_le_length (by simp; omega)]

/-- What a block holds that is a Hash into which 'all' was written. -/
def Part (part all : List UInt8) : Prop := part.length = 64 ∧ part.take (all.length % 64) = all.drop (64 * (all.length / 64))
def HH (w : World) (b : Nat) (all : List UInt8) : Prop := ∃ part, Part part all ∧ w.heap[b]? = some (.cells (hashCells (chain all (all.length / 64)) part all.length).toArray 203 (0, 0))

theorem part_more (part all x : List UInt8) (h : Part part all) (hx : all.length % 64 + x.length ≤ 64) (hr : (all.length + x.length) % 64 ≠ 0) :
    Part (splice part (all.length % 64) x) (all ++ x) ∧ chain (all ++ x) ((all ++ x).length / 64) = chain all (all.length / 64) := by
  obtain ⟨hl, ht⟩ := h
  have hdiv : (all.length + x.length) / 64 = all.length / 64 := by omega
  have hmod : (all.length + x.length) % 64 = all.length % 64 + x.length := by omega
  refine ⟨⟨by rw [length_splice _ _ _ (by omega)]; exact hl, ?_⟩, ?_⟩
  · rw [List.length_append, hdiv, hmod, List.drop_append_of_le_length (by omega), ← ht]
    unfold splice
    rw [← List.append_assoc, List.take_append_of_le_length (by simp; omega), List.take_of_length_le (by simp; omega)]
  · rw [List.length_append, hdiv, chain_append _ _ _ (by omega)]

theorem part_full (part all x : List UInt8) (h : Part part all) (hx : all.length % 64 + x.length = 64) :
    Part (splice part (all.length % 64) x) (all ++ x) ∧ chain (all ++ x) ((all ++ x).length / 64) = comp (chain all (all.length / 64)) (splice part (all.length % 64) x) := by
  obtain ⟨hl, ht⟩ := h
  have hdiv : (all.length + x.length) / 64 = all.length / 64 + 1 := by omega
  have hmod : (all.length + x.length) % 64 = 0 := by omega
  refine ⟨⟨by rw [length_splice _ _ _ (by omega)]; exact hl, ?_⟩, ?_⟩
  · rw [List.length_append, hdiv, hmod, List.take_zero, List.drop_eq_nil_of_le (by simp; omega)]
  · rw [List.length_append, hdiv, chain, chain_append _ _ _ (by omega)]
    congr 1
    rw [List.drop_append_of_le_length (by omega), ← ht, List.take_of_length_le (by simp; omega)]
    unfold splice
    rw [hx, List.drop_eq_nil_of_le (by omega)]
    simp

/-- Nothing is turned but one block. -/
structure Chg (b : Nat) (w w' : World) : Prop where
  os : w'.os = w.os
  tape : w'.tape = w.tape
  output : w'.output = w.output
  size : w.heap.size ≤ w'.heap.size
  block : ∀ k, k < w.heap.size → k ≠ b → w'.heap[k]? = w.heap[k]?
theorem Chg.refl (b : Nat) (w : World) : Chg b w w := ⟨rfl, rfl, rfl, Nat.le_refl _, fun _ _ _ => rfl⟩
theorem Chg.trans {b : Nat} {u v w : World} (h : Chg b u v) (k : Chg b v w) : Chg b u w :=
  ⟨k.os.trans h.os, k.tape.trans h.tape, k.output.trans h.output, Nat.le_trans h.size k.size, fun i hi hn => (k.block i (Nat.lt_of_lt_of_le hi h.size) hn).trans (h.block i hi hn)⟩
theorem Chg.bel {b B : Nat} {u v w : World} (h : Chg b u v) (k : Below B v w) (hB : v.heap.size ≤ B) : Chg b u w :=
  h.trans ⟨k.os, k.tape, k.output, k.size, fun i hi _ => k.block i (by omega)⟩
theorem Chg.drew {b : Nat} {u v : World} (h : Chg b u v) : Chg b u v.drew := ⟨h.os, h.tape, h.output, h.size, h.block⟩
theorem Chg.row {b : Nat} {u v : World} (h : Chg b u v) (cs : Array Value) : Chg b u (v.setRow b cs) :=
  h.trans ⟨rfl, rfl, rfl, by simp, fun k _ hn => setRow_other v b k cs hn⟩
theorem Chg.below {b B : Nat} {w w' : World} (h : Chg b w w') (hb : B ≤ b) (hB : B ≤ w.heap.size) : Below B w w' :=
  ⟨h.os, h.tape, h.output, h.size, fun k hk => h.block k (by omega) (by omega)⟩
theorem bytes_chg {w w' : World} {b : Nat} {ao : Option Addr} {n : Nat} {bs : List UInt8} (h : Bytes w ao n bs) (hc : Chg b w w') (hne : ∀ x, ao = some x → x.block ≠ b) : Bytes w' ao n bs := by
  refine ⟨h.1, fun i c hi => ?_⟩
  obtain ⟨x, hx, hcell⟩ := h.2 i c hi
  refine ⟨x, hx, ?_⟩
  have hlt := World.block_lt_of_cell? w _ hcell
  have hb : (x.add i).block = x.block := by unfold Addr.add; split <;> rfl
  rw [World.cell?_of_block (hc.block _ hlt (by rw [hb]; exact hne x hx))]
  exact hcell
theorem WW.chg {w w' : World} {b c : Nat} {ws : List UInt32} (h : WW w c ws) (hc : Chg b w w') (hb : c ≠ b) (hlt : c < w.heap.size) : WW w' c ws := fun t ht => by
  rw [World.cell?_of_block (hc.block c hlt hb)]; exact h t ht
theorem bytes_drop {w : World} {b off : Nat} {n : Nat} {bs : List UInt8} (h : Bytes w (some ⟨b, off, none⟩) n bs) (k : Nat) : Bytes w (some ⟨b, off + k, none⟩) (n - k) (bs.drop k) := by
  refine ⟨by rw [List.length_drop, h.1], fun i c hi => ⟨_, rfl, ?_⟩⟩
  rw [List.getElem?_drop] at hi
  obtain ⟨x, hx, hc⟩ := h.2 (k + i) c hi
  cases hx
  rw [Addr.add_lit] at hc ⊢
  rw [Nat.add_assoc]
  exact hc
end Go.Proofs.YtecacjddggljgaaDoor.Sm
namespace Go.Proofs.YtecacjddggljgaaDoor.Sm
open Go.RowKit
theorem mixed_start (s : S8) (ws : List UInt32) (w w1 : World) (hK : WW w 1 ks) (hw : ws.length = 64) (h0 : 1 < w.heap.size)
   (hw1 : ((w.alloc (Obj.cells (wcells s.list).toArray 199)).alloc (Obj.cells (wcells ws).toArray 205)).alloc (Obj.cells #[Value.int IntKind.u32 0, Value.int IntKind.u32 0, Value.int IntKind.u32 0, Value.int IntKind.u32 0, Value.int IntKind.u32 0, Value.int IntKind.u32 0, Value.int IntKind.u32 0, Value.int IntKind.u32 0] 199) = w1) :
   Below w.heap.size w w1 ∧ w1.heap.size = w.heap.size + 3 ∧ w1.heap[w.heap.size]? = some (.cells (wcells s.list).toArray 199) ∧ WW w1 (w.heap.size + 1) ws ∧ WW w1 1 ks ∧
    w1.heap[w.heap.size + 1 + 1]? = some (.cells #[Value.int IntKind.u32 0, Value.int IntKind.u32 0, Value.int IntKind.u32 0, Value.int IntKind.u32 0, Value.int IntKind.u32 0, Value.int IntKind.u32 0, Value.int IntKind.u32 0, Value.int IntKind.u32 0] 199) := by
  have hb : Below w.heap.size w w1 := by
    rw [← hw1]
    exact (((Below.refl _ _).alloc (Nat.le_refl _) _).alloc (by simp) _).alloc (by simp; omega) _
  have h60 : w1.heap[w.heap.size + 1]? = some (.cells (wcells ws).toArray 205) := by
    rw [← hw1, heap_alloc_get, if_neg (by simp), heap_alloc_get, if_pos (by simp)]
  refine ⟨hb, ?_, ?_, WW_of_block hw h60, hK.below hb h0, ?_⟩
  · rw [← hw1]; simp
  · rw [← hw1, heap_alloc_get, if_neg (by simp; omega), heap_alloc_get, if_neg (by simp), heap_alloc_get, if_pos rfl]
  · rw [← hw1, heap_alloc_get, if_pos (by simp)]
set_option maxRecDepth 100000 in
set_option maxHeartbeats 1000000 in
theorem mixed_any (s : S8) (ws : List UInt32) (out : List UInt32) (m : Nat) (w : World) (hK : WW w 1 ks) (hw : ws.length = 64) (h0 : 1 < w.heap.size) (hm : m = 64) (hout : out = (s.add (rounds ws s m)).list) :
    Calls Tryd.prog 135 #[.agg (wcells s.list).toArray, .agg (wcells ws).toArray] w fun e w' => e = .returned (.agg (wcells out).toArray) ∧ Below w.heap.size w w' := by
  go_enter Tryd.func135, Tryd.ntmps135
  go_wp2_with fail
  generalize hw1 : ((w.alloc (Obj.cells (wcells s.list).toArray 199)).alloc (Obj.cells (wcells ws).toArray 205)).alloc (Obj.cells #[Value.int IntKind.u32 0, Value.int IntKind.u32 0, Value.int IntKind.u32 0, Value.int IntKind.u32 0, Value.int IntKind.u32 0, Value.int IntKind.u32 0, Value.int IntKind.u32 0, Value.int IntKind.u32 0] 199) = w1
  obtain ⟨hbel, hsz, hS, hW, hKK, hZ⟩ := mixed_start s ws w w1 hK hw h0 hw1
  clear hw1 hK
  generalize hn : w.heap.size = n at *
  have c0 : w1.cell? ⟨n, 0, none⟩ = some (.int .u32 s.a.toNat) := cell_of_row w1 n 0 _ _ _ hS
  have c1 : w1.cell? ⟨n, 1, none⟩ = some (.int .u32 s.b.toNat) := cell_of_row w1 n 1 _ _ _ hS
  have c2 : w1.cell? ⟨n, 2, none⟩ = some (.int .u32 s.c.toNat) := cell_of_row w1 n 2 _ _ _ hS
  have c3 : w1.cell? ⟨n, 3, none⟩ = some (.int .u32 s.d.toNat) := cell_of_row w1 n 3 _ _ _ hS
  have c4 : w1.cell? ⟨n, 4, none⟩ = some (.int .u32 s.e.toNat) := cell_of_row w1 n 4 _ _ _ hS
  have c5 : w1.cell? ⟨n, 5, none⟩ = some (.int .u32 s.f.toNat) := cell_of_row w1 n 5 _ _ _ hS
  have c6 : w1.cell? ⟨n, 6, none⟩ = some (.int .u32 s.g.toNat) := cell_of_row w1 n 6 _ _ _ hS
  have c7 : w1.cell? ⟨n, 7, none⟩ = some (.int .u32 s.h.toNat) := cell_of_row w1 n 7 _ _ _ hS
  go_quiet (fail)
  have hbelq : Below (n + 3) w1 (w1.drewN nq) := bel_drewN (Below.refl _ _) nq
  generalize hw2 : w1.drewN nq = w2 at *
  clear hw2 c0 c1 c2 c3 c4 c5 c6 c7
  go_wp2
  go_loopw [5, 6, 7, 8, 9, 10, 11, 12, 34] (fun a b c d e f g h t wr => ∃ i : Nat, i ≤ 64 ∧ t = .int .i64 i ∧ a = .int .u32 (rounds ws s i).a.toNat ∧ b = .int .u32 (rounds ws s i).b.toNat ∧ c = .int .u32 (rounds ws s i).c.toNat ∧ d = .int .u32 (rounds ws s i).d.toNat ∧ e = .int .u32 (rounds ws s i).e.toNat ∧ f = .int .u32 (rounds ws s i).f.toNat ∧ g = .int .u32 (rounds ws s i).g.toNat ∧ h = .int .u32 (rounds ws s i).h.toNat ∧ Below (n + 3) w2 wr) (fun _ _ _ _ _ _ _ _ t _ => (64 - intOf t).toNat)
  case atStart => exact ⟨0, by omega, rfl, rfl, rfl, rfl, rfl, rfl, rfl, rfl, rfl, Below.refl _ _⟩
  case round =>
    obtain ⟨i, hi, rfl, rfl, rfl, rfl, rfl, rfl, rfl, rfl, rfl, hb⟩ := hrel
    by_cases hi64 : i < 64
    · have hk := ((hKK.below hbelq (by omega)).below hb (by omega)) i hi64
      have hx := ((hW.below hbelq (by omega)).below hb (by omega)) i hi64
      generalize hr : rounds ws s i = r at *
      generalize hkk : ks.getD i 0 = kk at *
      generalize hww : ws.getD i 0 = ww at *
      have HR : Hid (rounds ws s (i + 1) = rnd r kk ww) := by show _ = _; rw [rounds, hr, hkk, hww]
      clear hr hkk hww hKK hW hS hZ
      go_wp2_with fail
      go_quiet (first | (go_at_call_of 144 (Value.int .i64 6); exact Calls.quiet_of_same (rotr_6 _ _)) | (go_at_call_of 144 (Value.int .i64 11); exact Calls.quiet_of_same (rotr_11 _ _)) | (go_at_call_of 144 (Value.int .i64 25); exact Calls.quiet_of_same (rotr_25 _ _)))
      have hb2 : Below (n + 3) w2 (wr.drewN nq) := bel_drewN hb nq
      generalize hw3 : wr.drewN nq = w3 at *
      clear hw3 hk hx
      go_wp2_with fail
      refine (rotr_2 _ _).mono ?_
      rintro e w' ⟨rfl, rfl⟩
      go_wp2_with fail
      refine (rotr_13 _ _).mono ?_
      rintro e w' ⟨rfl, rfl⟩
      go_wp2_with fail
      refine (rotr_22 _ _).mono ?_
      rintro e w' ⟨rfl, rfl⟩
      go_wp2
      go_roundw
      case rel =>
        refine ⟨i + 1, by omega, by go_num, ?_, ?_, ?_, ?_, ?_, ?_, ?_, ?_, hb2⟩
        all_goals rw [HR.out]
        all_goals try simp only [w_not, w_and, w_xor, w_add5, w_add]
        all_goals rfl
      case measure => simp [intOf]; omega
    · have hi' : i = 64 := by omega
      have hout2 : out = (s.add (rounds ws s i)).list := by rw [hout, hm, hi']
      have hS2 := ((hbelq.trans hb).block n (by omega)).trans hS
      have hZ2 := ((hbelq.trans hb).block (n + 1 + 1) (by omega)).trans hZ
      have c0 : wr.cell? ⟨n, 0, none⟩ = some (.int .u32 s.a.toNat) := cell_of_row wr n 0 _ _ _ hS2
      have c1 : wr.cell? ⟨n, 1, none⟩ = some (.int .u32 s.b.toNat) := cell_of_row wr n 1 _ _ _ hS2
      have c2 : wr.cell? ⟨n, 2, none⟩ = some (.int .u32 s.c.toNat) := cell_of_row wr n 2 _ _ _ hS2
      have c3 : wr.cell? ⟨n, 3, none⟩ = some (.int .u32 s.d.toNat) := cell_of_row wr n 3 _ _ _ hS2
      have c4 : wr.cell? ⟨n, 4, none⟩ = some (.int .u32 s.e.toNat) := cell_of_row wr n 4 _ _ _ hS2
      have c5 : wr.cell? ⟨n, 5, none⟩ = some (.int .u32 s.f.toNat) := cell_of_row wr n 5 _ _ _ hS2
      have c6 : wr.cell? ⟨n, 6, none⟩ = some (.int .u32 s.g.toNat) := cell_of_row wr n 6 _ _ _ hS2
      have c7 : wr.cell? ⟨n, 7, none⟩ = some (.int .u32 s.h.toNat) := cell_of_row wr n 7 _ _ _ hS2
      generalize hr : rounds ws s i = r at *
      clear hS2 hS hZ hKK hW hout hr
      go_wp2_with (refine wpList_store_row rfl 199 (.tmp 4) (.tmp 131) rfl (n + 1 + 1) (wcells (s.add r).list).toArray rfl ?hy 199 _ hZ2 size141 rfl (wcells_one _) ?_)
      case hy => simp only [w_add]; rfl
      refine bodyPost_ret (results_cell_row rfl _ _ (n + 1 + 1) 199 _ (0, 0) _ rfl (setRow_heap _ _ _ _ _ _ hZ2) Tryd.underlying199 rfl size141) rfl ?_
      exact ⟨by rw [hout2], by rw [hn]; exact below_setRow (hbel.trans ((hbelq.trans hb).mono (by omega))) (by omega) _⟩
end Go.Proofs.YtecacjddggljgaaDoor.Sm
namespace Go.Proofs.YtecacjddggljgaaDoor.Sm
open Go.RowKit
def lenOf : Value → Nat
  | .slice _ n _ => n
  | _ => 0
theorem size5 : (Tryd.prog.info? 5).map (·.size) = some 1 := by kernel_rfl
/-- A copy into a row that is known whole, as one step of a region that draws its order. -/
theorem step_copy_exact {P : Program} {ops : Array Oper} {o : Oper} {a : Act} {w : World} {K : Act → World → Prop} {Q : Exit → Act → World → Prop} {E : Prop} (hgd : o.guard = none) (d s : Operand) (dT sT : TypeId)
    (ho : o.op = .call { callee := .builtin .copy, args := #[d, s], argTypes := #[dT, sT] }) (elem : TypeId) (hu : P.underlying dT = some (.slice elem)) (hsz : (P.info? elem).map (·.size) = some 1)
    (g off dLen dCap : Nat) (ad : Addr) (sLen sCap : Nat) (hd : a.eval d = .slice (some ⟨g, off, none⟩) dLen dCap) (hs : a.eval s = .slice (some ad) sLen sCap)
    (cur : List Value) (t : TypeId) (hg : w.heap[g]? = some (.cells cur.toArray t (0, 0))) (cs : List Value) (hn : cs.length = Nat.min sLen dLen)
    (hsrc : ∀ j v, cs[j]? = some v → w.cell? (ad.add j) = some v) (hfit : off + cs.length ≤ cur.length) (h1 : ∀ v ∈ cs, v.oneCell' = true)
    (h : K (a.put o.dst (goInt cs.length)) (w.setRow g (splice cur off cs).toArray)) :
    if Region.wanted o (yielded ops a.tmps) = true then Oper.wp P o a w K Q else E := by
  have hw : Region.wanted o (yielded ops a.tmps) = true := by simp [Region.wanted, hgd]
  rw [if_pos hw]
  have hrun := run_copy_row (P := P) w dT sT o.type elem g off dLen dCap ad sLen sCap cur.toArray t cs hu hsz hg hn hsrc (by simpa using hfit) h1
  unfold Oper.wp
  simp [execOp, ho, resolve, invoke, builtin, hd, hs, hrun, Result.andThen]
  have h2 := h
  simp [splice] at h2
  exact h2
theorem size143 : (Tryd.prog.info? 201).map (·.size) = some 64 := by kernel_rfl
theorem range_words {w : World} {b n : Nat} {s : S8} {p : List UInt8} {t : TypeId} {fr : Nat × Nat} (h : w.heap[b]? = some (.cells (hashCells s p n).toArray t fr)) : w.rangeAt b 0 (wcells s.list) := fun j v hv => by
  rw [Nat.zero_add, cell_of_row w b j _ t fr h]
  have hj : j < (wcells s.list).length := (List.getElem?_eq_some_iff.1 hv).1
  simp only [List.getElem?_toArray, hashCells]
  rw [List.getElem?_append_left hj]; exact hv
theorem range_part {w : World} {b n : Nat} {s : S8} {p : List UInt8} {t : TypeId} {fr : Nat × Nat} (h : w.heap[b]? = some (.cells (hashCells s p n).toArray t fr)) (_hp : p.length = 64) : w.rangeAt b 8 (cellsOf p) := fun j v hv => by
  rw [cell_of_row w b (8 + j) _ t fr h]
  have hj : j < (cellsOf p).length := (List.getElem?_eq_some_iff.1 hv).1
  have h8 : (wcells s.list).length = 8 := by simp [wcells, S8.list]
  simp only [List.getElem?_toArray, hashCells]
  rw [List.getElem?_append_right (by omega), h8, show 8 + j - 8 = j by omega, List.getElem?_append_left hj]; exact hv
theorem there_row {w : World} {b n : Nat} {C : List Value} {t : TypeId} (h : w.heap[b]? = some (.cells C.toArray t (0, 0))) (hn : n ≤ C.length) : w.there b 0 n := fun j hj =>
  ⟨by rw [Nat.zero_add, cell_of_row w b j _ t _ h]; simp; omega, frozen_of_row w b _ _ t h⟩
theorem setCells_row (b : Nat) (t : TypeId) : ∀ (vs : List Value) (o : Nat) (C : List Value) (w : World), w.heap[b]? = some (.cells C.toArray t (0, 0)) → o + vs.length ≤ C.length → w.setCells b o vs = w.setRow b (splice C o vs).toArray
  | [], o, C, w, h, _ => by rw [splice_nil, setRow_self w b _ t _ h]; rfl
  | v :: r, o, C, w, h, hl => by
    rw [World.setCells, set_list w b o C t v h, setCells_row b t r (o + 1) (C.set o v) _ (setRow_heap w b _ _ t _ h) (by simp at hl ⊢; omega), setRow_setRow, splice_cons _ _ _ _ (by simp at hl; omega)]
set_option maxRecDepth 100000 in
set_option maxHeartbeats 8000000 in
theorem write_any (b : Nat) (all bs : List UInt8) (ao : Option Addr) (n cap : Nat) (w : World) (hH : HH w b all) (hb : Bytes w ao n bs) (hne : ∀ x, ao = some x → x.block ≠ b) (hnc : n ≤ cap) (hcap : cap ≤ 9223372036854775807)
    (hK : WW w 1 ks) (hb0 : 1 < b) (hbs : b < w.heap.size) (hbig : all.length + n < 9223372036854775807) :
    Calls Tryd.prog 122 #[.pointer (some ⟨b, 0, none⟩), .slice ao n cap] w fun e w' => e = .returned (.tuple #[]) ∧ HH w' b (all ++ bs) ∧ Chg b w w' := by
  go_enter Tryd.func122, Tryd.ntmps122
  go_wp2
  go_loopw [1] (fun x wr => ∃ ao' n' cap' done rest, x = .slice ao' n' cap' ∧ bs = done ++ rest ∧ Bytes wr ao' n' rest ∧ (∀ y, ao' = some y → y.block ≠ b) ∧ n' ≤ cap' ∧ cap' ≤ 9223372036854775807 ∧ HH wr b (all ++ done) ∧ Chg b w wr) (fun x _ => lenOf x)
  case atStart => exact ⟨ao, n, cap, [], bs, rfl, rfl, hb, hne, hnc, hcap, by rw [List.append_nil]; exact hH, Chg.refl _ _⟩
  case round =>
    obtain ⟨ao', n', cap', done, rest, rfl, hsplit, hbr, hne', hnc', hcap', hHr, hchg⟩ := hrel
    have hbn := hb.1
    clear hH hb hne hnc hcap
    have hbl := hbr.1
    have hdl : done.length + rest.length = bs.length := by rw [hsplit, List.length_append]
    by_cases h0 : n' = 0
    · have hr0 : rest = [] := List.eq_nil_of_length_eq_zero (by omega)
      subst h0
      clear hbr hne' hK
      go_wp2
      go_end0
      exact ⟨rfl, by rw [hsplit, hr0, List.append_nil]; exact hHr, hchg⟩
    · obtain ⟨c, hc0⟩ : ∃ c, rest[0]? = some c := ⟨rest[0]'(by omega), by simp⟩
      obtain ⟨x, hx, hxc⟩ := hbr.2 0 c hc0
      obtain ⟨g, o, spot⟩ := x
      have hspot : spot = none := by simpa [Addr.add] using World.cell?_spot hxc
      subst hspot
      subst hx
      have hgb : g ≠ b := hne' _ rfl
      clear hc0 hxc hne'
      obtain ⟨part, hpart, hblk⟩ := hHr
      have hwrs := hchg.size
      have hKr := hK.chg hchg (by omega) (by omega)
      obtain ⟨L, hL⟩ : ∃ L, L = (all ++ done).length := ⟨_, rfl⟩
      obtain ⟨off, hoff⟩ : ∃ off, off = L % 64 := ⟨_, rfl⟩
      obtain ⟨m, hm⟩ : ∃ m, m = min n' (64 - off) := ⟨_, rfl⟩
      have hLb : L + n' < 9223372036854775807 := by rw [hL, List.length_append]; omega
      have c72 : wr.cell? ⟨b, 72, none⟩ = some (.int .u64 (L : Int)) := by
        rw [cell_of_row _ b 72 _ _ _ hblk, hL]
        simp [hashCells, wcells, S8.list, cellsOf, hpart.1]
      have hrem : (L : Int).tmod 64 = (off : Int) := by rw [Int.tmod_eq_emod_of_nonneg (by omega)]; omega
      have hoff64 : (off : Int) ≤ 64 := by omega
      have hn0 : (0 : Int) < (n' : Int) := by omega
      clear hK
      have hcx : Hid (splice (hashCells (chain (all ++ done) ((all ++ done).length / 64)) part (all ++ done).length) (8 + off) (cellsOf (rest.take m)) = hashCells (chain (all ++ done) ((all ++ done).length / 64)) (splice part off (rest.take m)) (all ++ done).length) :=
        hash_splice _ _ _ _ _ hpart.1 (by rw [List.length_take]; omega)
      have hbx := bytes_take hbr m (by omega)
      have HS : ∀ j v, (cellsOf (rest.take m))[j]? = some v → wr.drew.cell? (Addr.add ⟨g, o, none⟩ j) = some v := fun j v hv => by
        obtain ⟨c, hc, rfl⟩ := cellsOf_at hv
        obtain ⟨x, hx, hcell⟩ := hbx.2 j c hc
        cases hx
        exact hcell
      have HF : Hid (8 + off + (cellsOf (rest.take m)).length ≤ (hashCells (chain (all ++ done) ((all ++ done).length / 64)) part (all ++ done).length).length) := by
        show _ ≤ _
        rw [hash_length _ _ _ hpart.1, cellsOf_length, List.length_take]; omega
      have HM : Hid ((cellsOf (rest.take m)).length = Nat.min n' (64 - off)) := by
        show _ = min n' (64 - off)
        rw [cellsOf_length, List.length_take, hbl]; omega
      have hp1 : (splice part off (rest.take m)).length = 64 := by rw [length_splice _ _ _ (by rw [List.length_take, hpart.1]; omega)]; exact hpart.1
      obtain ⟨s8, hs8⟩ : ∃ s8, s8 = chain (all ++ done) ((all ++ done).length / 64) := ⟨_, rfl⟩
      rw [← hs8, ← hL] at hcx HF
      rw [← hs8, ← hL] at hblk
      obtain ⟨C, hC⟩ : ∃ C, Hid (C = hashCells s8 part L) := ⟨_, rfl⟩
      obtain ⟨C1, hC1⟩ : ∃ C1, Hid (C1 = hashCells s8 (splice part off (rest.take m)) L) := ⟨_, rfl⟩
      obtain ⟨X, hX⟩ : ∃ X, Hid (X = cellsOf (rest.take m)) := ⟨_, rfl⟩
      rw [← hC.out, ← hX.out] at HF
      rw [← hC.out, ← hX.out, ← hC1.out] at hcx
      rw [← hX.out] at HM
      rw [← hC.out] at hblk
      have HXo : Hid (∀ u ∈ X, u.oneCell' = true) := by show ∀ u ∈ X, u.oneCell' = true; rw [hX.out]; exact cellsOf_one _
      have HS2 : Hid (∀ j v, X[j]? = some v → wr.drew.cell? (Addr.add ⟨g, o, none⟩ j) = some v) := by show ∀ j v, X[j]? = some v → _; rw [hX.out]; exact HS
      clear HS hbx
      have hblk1 : (wr.drew.setRow b (splice C (8 + off) X).toArray).heap[b]? = some (.cells (splice C (8 + off) X).toArray 203 (0, 0)) := setRow_heap wr.drew b C.toArray _ 203 (0, 0) hblk
      have c72b : (wr.drew.setRow b (splice C (8 + off) X).toArray).cell? ⟨b, 72, none⟩ = some (.int .u64 (L : Int)) := by
        rw [cell_of_row _ b 72 _ _ _ hblk1, hcx.out, hC1.out]
        simp [hashCells, wcells, S8.list, cellsOf, hp1]
      have hofflt : (off : Int) < 64 := by omega
      have HL : Hid (L = (all ++ done).length) := hL
      have HO : Hid (off = L % 64) := hoff
      have HMM : Hid (m = min n' (64 - off)) := hm
      have HSP : Hid (bs = done ++ rest) := hsplit
      have HBL : Hid (rest.length = n') := hbl
      have HDL : Hid (done.length + rest.length = bs.length) := hdl
      have HS8 : Hid (s8 = chain (all ++ done) ((all ++ done).length / 64)) := hs8
      clear hL hoff hm hsplit hbl hdl hs8
      have hoffne : ¬ ((64 : Nat) = off) := by omega
      go_wp2_with fail
      go_region_held3 (fun w' => w'.cell? ⟨b, 72, none⟩ = some (.int .u64 (L : Int))) (first | assumption | go_keep) (refine step_copy_exact rfl (.tmp 16) (.tmp 17) 27 27 rfl 5 Tryd.underlying27 size5 b (8 + off) (64 - off) (64 - off) ⟨g, o, none⟩ n' cap' rfl rfl C 203 hblk X HM.out HS2.out HF.out HXo.out ?_)
      have hXl : X.length = m := by rw [hX.out, cellsOf_length, List.length_take]; have := HMM.out; have := HBL.out; omega
      rw [hXl]
      have hchg2 : Chg b w (wr.drew.setRow b (splice C (8 + off) X).toArray) := hchg.drew.row _
      have hbr2 : Bytes (wr.drew.setRow b (splice C (8 + off) X).toArray) (some ⟨g, o, none⟩) n' rest := bytes_chg hbr ((Chg.refl b wr).drew.row _) (fun x hx => by cases hx; exact hgb)
      have hKr2 : WW (wr.drew.setRow b (splice C (8 + off) X).toArray) 1 ks := hKr.chg ((Chg.refl b wr).drew.row _) (by omega) (by omega)
      generalize wr.drew.setRow b (splice C (8 + off) X).toArray = w2 at *
      rw [hcx.out] at hblk1
      have hfz := frozen_of_row w2 b 72 _ _ hblk1
      have hm1 : 1 ≤ m ∧ m ≤ n' ∧ off + m ≤ 64 := by have := HMM.out; omega
      obtain ⟨r, HR⟩ : ∃ r, Hid (r = (L + m) % 64) := ⟨_, rfl⟩
      have hrem2 : ((L : Int) + (m : Int)).tmod 64 = (r : Int) := by rw [Int.tmod_eq_emod_of_nonneg (by omega), HR.out]; omega
      have hmn : (m : Int) ≤ (n' : Int) := by omega
      have hm0 : (0 : Int) ≤ (m : Int) := by omega
      have hw1 : IntKind.u64.wrap ((L : Int) + (m : Int)) = (L : Int) + (m : Int) := by rw [IntKind.wrap_u64]; omega
      clear hblk hbr hKr c72 hchg HF HM HXo HS2 hrem hp1
      have hset : Hid (w2.setCell ⟨b, 72, none⟩ (.int .u64 ((L : Int) + (m : Int))) = w2.setRow b (hashCells s8 (splice part off (rest.take m)) (L + m)).toArray) := by
        show _ = _
        rw [set_list w2 b 72 C1 203 _ hblk1, hC1.out, ← hash_set s8 _ L (L + m) (by rw [length_splice _ _ _ (by rw [List.length_take, hpart.1]; have := HBL.out; omega)]; exact hpart.1)]
        simp
      have hchg3 : Chg b w (w2.setRow b (hashCells s8 (splice part off (rest.take m)) (L + m)).toArray) := hchg2.row _
      have hblk3 : (w2.setRow b (hashCells s8 (splice part off (rest.take m)) (L + m)).toArray).heap[b]? = some (.cells (hashCells s8 (splice part off (rest.take m)) (L + m)).toArray 203 (0, 0)) := setRow_heap w2 b _ _ 203 _ hblk1
      have hbr3 : Bytes (w2.setRow b (hashCells s8 (splice part off (rest.take m)) (L + m)).toArray) (some ⟨g, o, none⟩) n' rest := bytes_chg hbr2 ((Chg.refl b w2).row _) (fun x hx => by cases hx; exact hgb)
      have hKr3 : WW (w2.setRow b (hashCells s8 (splice part off (rest.take m)) (L + m)).toArray) 1 ks := hKr2.chg ((Chg.refl b w2).row _) (by omega) (by have := hchg2.size; omega)
      by_cases hr0 : r = 0
      · have hr0' : (r : Int) = 0 := by omega
        obtain ⟨q64, HQ⟩ : ∃ q, Hid (q = 64) := ⟨64, rfl⟩
        obtain ⟨p1, HP1⟩ : ∃ p1, Hid (p1 = splice part off (rest.take m)) := ⟨_, rfl⟩
        have hp1 : p1.length = 64 := by rw [HP1.out, length_splice _ _ _ (by rw [List.length_take, hpart.1]; have := HBL.out; omega)]; exact hpart.1
        have hset3 : Hid (w2.setCell ⟨b, 72, none⟩ (.int .u64 ((L : Int) + (m : Int))) = w2.setRow b (hashCells s8 p1 (L + m)).toArray) := by show _ = _; rw [HP1.out]; exact hset.out
        rw [← HP1.out] at hblk3 hchg3 hbr3 hKr3
        have hb3 : b < (w2.setRow b (hashCells s8 p1 (L + m)).toArray).heap.size := by have := hchg3.size; omega
        have hfin : Hid (∀ w5 : World, w5.heap[b]? = some (.cells (hashCells s8 p1 (L + m)).toArray 203 (0, 0)) → Below (w2.setRow b (hashCells s8 p1 (L + m)).toArray).heap.size (w2.setRow b (hashCells s8 p1 (L + m)).toArray) w5 →
            HH (w5.setRow b (hashCells (s8.add (rounds (sched p1 q64) s8 q64)) p1 (L + m)).toArray) b (all ++ (done ++ rest.take m)) ∧ Chg b w (w5.setRow b (hashCells (s8.add (rounds (sched p1 q64) s8 q64)) p1 (L + m)).toArray) ∧
            Bytes (w5.setRow b (hashCells (s8.add (rounds (sched p1 q64) s8 q64)) p1 (L + m)).toArray) (some ⟨g, o, none⟩) n' rest) := by
          intro w5 h5 hd
          have hlt : (rest.take m).length = m := by rw [List.length_take]; have := HBL.out; omega
          have hq := part_full part (all ++ done) (rest.take m) hpart (by rw [hlt, ← HL.out, ← HO.out]; have := HR.out; have := HO.out; omega)
          have e1 : (all ++ done ++ rest.take m).length = L + m := by rw [List.length_append, hlt, ← HL.out]
          have e2 : (all ++ done).length % 64 = off := by rw [← HL.out, ← HO.out]
          refine ⟨⟨p1, ?_, ?_⟩, (hchg3.bel hd (Nat.le_refl _)).row _, bytes_chg hbr3 (((Chg.refl b _).bel hd (Nat.le_refl _)).row _) (fun x hx => by cases hx; exact hgb)⟩
          · rw [← List.append_assoc, HP1.out, ← e2]; exact hq.1
          · rw [← List.append_assoc, hq.2, e1, e2, ← HS8.out, ← HP1.out, setRow_heap w5 b _ _ 203 _ h5, HQ.out]; rfl
        clear hset
        by_cases hmc : m < cap'
        · go_wp2_with fail
          rw [hset3.out]
          generalize hw3q : w2.setRow b (hashCells s8 p1 (L + m)).toArray = w3 at *
          clear hw3q hset3 hblk1 c72b hbr2 hKr2 hchg2 hfz hcx hbr3
          have h03 : 1 < w3.heap.size := by omega
          refine wp_region_noPanic ?_
          refine wp_region_held_drew (S := fun _ => True) (by kernel_rfl) trivial (fun hHeld => ?_)
          clear hHeld
          refine wpAnyH_take (i := 0) (v := ?_) rfl (by kernel_rfl) (by kernel_rfl) (by kernel_rfl) (fun _ _ _ h => h) (Or.inl ⟨by rfl, ?_⟩) trivial ?_
          rotate_left
          · (intro w hSw; clear hSw; go_simp; try with_reducible rfl)
          simp only [Act.put, List.getElem_toArray, List.getElem_cons_zero, List.setIfInBounds_toArray, List.set_cons_zero, List.set_cons_succ]
          refine wpAnyH_take (i := 1) (v := ?_) rfl (by kernel_rfl) (by kernel_rfl) (by kernel_rfl) (fun _ _ _ h => h) (Or.inl ⟨by rfl, ?_⟩) trivial ?_
          rotate_left
          · (intro w hSw; clear hSw; go_simp; try with_reducible rfl)
          simp only [Act.put, List.getElem_toArray, List.getElem_cons_zero, List.getElem_cons_succ, List.setIfInBounds_toArray, List.set_cons_zero, List.set_cons_succ]
          refine wpAnyH_take (i := 2) (v := ?_) rfl (by kernel_rfl) (by kernel_rfl) (by kernel_rfl) (fun _ _ _ h => h) (Or.inl ⟨by rfl, ?_⟩) trivial ?_
          rotate_left
          · (intro w hSw; clear hSw; go_simp; try with_reducible rfl)
          simp only [Act.put, List.getElem_toArray, List.getElem_cons_zero, List.getElem_cons_succ, List.setIfInBounds_toArray, List.set_cons_zero, List.set_cons_succ]
          refine wpAnyH_take (i := 3) (v := ?_) rfl (by kernel_rfl) (by kernel_rfl) (by kernel_rfl) (fun _ _ _ h => h) (Or.inl ⟨by rfl, ?_⟩) trivial ?_
          rotate_left
          · (intro w hSw; clear hSw; go_simp; try with_reducible rfl)
          simp only [Act.put, List.getElem_toArray, List.getElem_cons_zero, List.getElem_cons_succ, List.setIfInBounds_toArray, List.set_cons_zero, List.set_cons_succ]
          refine wpAnyH_take (i := 5) (v := ?_) rfl (by kernel_rfl) (by kernel_rfl) (by kernel_rfl) (fun _ _ _ h => h) (Or.inl ⟨by rfl, ?_⟩) trivial ?_
          rotate_left
          · (intro w hSw; clear hSw; go_simp; try with_reducible rfl)
          simp only [Act.put, List.getElem_toArray, List.getElem_cons_zero, List.getElem_cons_succ, List.setIfInBounds_toArray, List.set_cons_zero, List.set_cons_succ]
          refine wpAnyH_take (i := 6) (v := ?_) rfl (by kernel_rfl) (by kernel_rfl) (by kernel_rfl) (fun _ _ _ h => h) (Or.inl ⟨by rfl, ?_⟩) trivial ?_
          rotate_left
          · (intro w hSw; clear hSw; go_simp; try with_reducible rfl)
          simp only [Act.put, List.getElem_toArray, List.getElem_cons_zero, List.getElem_cons_succ, List.setIfInBounds_toArray, List.set_cons_zero, List.set_cons_succ]
          refine wpAnyH_take (i := 7) (v := ?_) rfl (by kernel_rfl) (by kernel_rfl) (by kernel_rfl) (fun _ _ _ h => h) (Or.inl ⟨by rfl, ?_⟩) trivial ?_
          rotate_left
          · (intro w hSw; clear hSw; go_simp; try with_reducible rfl)
          simp only [Act.put, List.getElem_toArray, List.getElem_cons_zero, List.getElem_cons_succ, List.setIfInBounds_toArray, List.set_cons_zero, List.set_cons_succ]
          refine wpAnyH_ready (rs := [4, 8]) (by kernel_rfl) (by simp) ?_
          refine AllReadyH.cons rfl (fun K hK => ?_) (AllReadyH.cons rfl (fun K hK => ?_) AllReadyH.nil)
          · rw [if_pos (by rfl)]
            refine wp_load_mid 199 (.tmp 40) rfl b 0 rfl (wcells s8.list) _ (range_words hblk3) Tryd.underlying199 rfl (by rw [size141]; rfl) ?_
            refine hK.out _ _ trivial (fun _ => ?_)
            clear hK K
            simp only [Act.put, List.getElem_toArray, List.getElem_cons_zero, List.getElem_cons_succ, List.setIfInBounds_toArray, List.set_cons_zero, List.set_cons_succ]
            refine wpAnyH_ready (rs := [8]) (by kernel_rfl) (by simp) ?_
            refine AllReadyH.cons rfl (fun K hK => ?_) AllReadyH.nil
            rw [if_pos (by rfl)]
            refine wp_load_mid 201 (.tmp 44) rfl b 8 rfl (cellsOf p1) _ (range_part hblk3 hp1) Tryd.underlying201 rfl (by rw [size143, cellsOf_length, hp1]) ?_
            refine hK.out _ _ trivial (fun _ => ?_)
            clear hK K
            simp only [Act.put, List.getElem_toArray, List.getElem_cons_zero, List.getElem_cons_succ, List.setIfInBounds_toArray, List.set_cons_zero, List.set_cons_succ]
            refine wpAnyH_ready (rs := [9]) (by kernel_rfl) (by simp) ?_
            refine AllReadyH.cons rfl (fun K hK => ?_) AllReadyH.nil
            rw [if_pos (by rfl)]
            go_simp
            refine (spread_any p1 (sched p1 q64) q64 _ hp1 HQ.out rfl).mono ?_
            rintro e w4 ⟨rfl, hbel4⟩
            have hblk4 := (hbel4.block b hb3).trans hblk3
            have hKr4 := WW.below hKr3 (Below.trans (Below.drew (Below.refl _ _)) hbel4) h03
            have hbs4 := hbel4.size
            go_wp2_with fail
            refine hK.out _ _ trivial (fun _ => ?_)
            clear hK K
            refine wpAnyH_ready (rs := [10]) (by kernel_rfl) (by simp) ?_
            refine AllReadyH.cons rfl (fun K hK => ?_) AllReadyH.nil
            rw [if_pos (by rfl)]
            go_simp
            refine (mixed_any s8 (sched p1 q64) ((s8.add (rounds (sched p1 q64) s8 q64)).list) q64 _ hKr4 (by rw [sched_length]; exact HQ.out) (by have : w3.drew.heap.size = w3.heap.size := rfl; omega) HQ.out rfl).mono ?_
            rintro e w5 ⟨rfl, hbel5⟩
            have hblk5 := (hbel5.block b (by have : w3.drew.heap.size = w3.heap.size := rfl; omega)).trans hblk4
            go_wp2_with fail
            refine hK.out _ _ trivial (fun _ => ?_)
            clear hK K
            refine wpAnyH_take (i := 11) (v := ?_) rfl (by kernel_rfl) (by kernel_rfl) (by kernel_rfl) (fun _ _ _ h => h) (Or.inl ⟨by rfl, ?_⟩) trivial ?_
            rotate_left
            · (intro w hSw; clear hSw; go_simp; try with_reducible rfl)
            simp only [Act.put, List.getElem_toArray, List.getElem_cons_zero, List.getElem_cons_succ, List.setIfInBounds_toArray, List.set_cons_zero, List.set_cons_succ]
            refine wpAnyH_take (i := 12) (v := ?_) rfl (by kernel_rfl) (by kernel_rfl) (by kernel_rfl) (fun _ _ _ h => h) (Or.inl ⟨by rfl, ?_⟩) trivial ?_
            rotate_left
            · (intro w hSw; clear hSw; go_simp; try with_reducible rfl)
            simp only [Act.put, List.getElem_toArray, List.getElem_cons_zero, List.getElem_cons_succ, List.setIfInBounds_toArray, List.set_cons_zero, List.set_cons_succ]
            refine wpAnyH_ready (rs := [13]) (by kernel_rfl) (by simp) ?_
            refine AllReadyH.cons rfl (fun K hK => ?_) AllReadyH.nil
            rw [if_pos (by rfl)]
            refine wp_store_mid 199 (.tmp 49) (.tmp 47) rfl b 0 (wcells (s8.add (rounds (sched p1 q64) s8 q64)).list).toArray rfl rfl (there_row hblk5 (by simp [wcells, S8.list]; rw [hash_length _ _ _ hp1]; omega)) (by rw [size141]; rfl) (wcells_one _) ?_
            refine hK.out _ _ trivial (fun _ => ?_)
            clear hK K
            simp only [Act.put]
            refine wpAnyH_done (by kernel_rfl) ?_ _
            refine NoPanic.normal ?_
            have hset5 : w5.setCells b 0 (wcells (s8.add (rounds (sched p1 q64) s8 q64)).list).toArray.toList = w5.setRow b (hashCells (s8.add (rounds (sched p1 q64) s8 q64)) p1 (L + m)).toArray := by
              rw [setCells_row _ 203 _ _ _ _ hblk5 (by simp [wcells, S8.list]; rw [hash_length _ _ _ hp1]; omega)]
              simp only
              rw [hash_words]
            rw [hset5]
            have hd5 : Below w3.heap.size w3 w5 := (Below.trans (Below.drew (Below.refl _ _)) hbel4).trans (hbel5.mono hbs4)
            obtain ⟨f1, f2, f3⟩ := hfin.out w5 hblk5 hd5
            generalize w5.setRow b (hashCells (s8.add (rounds (sched p1 q64) s8 q64)) p1 (L + m)).toArray = w6 at *
            clear hset5 hblk5 hblk4 hKr4 hbel4 hbel5 hd5 hfin
            go_wp2_with fail
            refine ⟨⟨_, _, _, done ++ rest.take m, rest.drop m, rfl, by rw [List.append_assoc, List.take_append_drop]; exact HSP.out, bytes_drop f3 m, ?_, by omega, by omega, f1, f2⟩, by simp [lenOf]; omega⟩
            intro y hy; cases hy; exact hgb
          · rw [if_pos (by rfl)]
            refine wp_load_mid 201 (.tmp 44) rfl b 8 rfl (cellsOf p1) _ (range_part hblk3 hp1) Tryd.underlying201 rfl (by rw [size143, cellsOf_length, hp1]) ?_
            refine hK.out _ _ trivial (fun _ => ?_)
            clear hK K
            simp only [Act.put, List.getElem_toArray, List.getElem_cons_zero, List.getElem_cons_succ, List.setIfInBounds_toArray, List.set_cons_zero, List.set_cons_succ]
            refine wpAnyH_ready (rs := [4, 9]) (by kernel_rfl) (by simp) ?_
            refine AllReadyH.cons rfl (fun K hK => ?_) (AllReadyH.cons rfl (fun K hK => ?_) AllReadyH.nil)
            · rw [if_pos (by rfl)]
              refine wp_load_mid 199 (.tmp 40) rfl b 0 rfl (wcells s8.list) _ (range_words hblk3) Tryd.underlying199 rfl (by rw [size141]; rfl) ?_
              refine hK.out _ _ trivial (fun _ => ?_)
              clear hK K
              simp only [Act.put, List.getElem_toArray, List.getElem_cons_zero, List.getElem_cons_succ, List.setIfInBounds_toArray, List.set_cons_zero, List.set_cons_succ]
              refine wpAnyH_ready (rs := [9]) (by kernel_rfl) (by simp) ?_
              refine AllReadyH.cons rfl (fun K hK => ?_) AllReadyH.nil
              rw [if_pos (by rfl)]
              go_simp
              refine (spread_any p1 (sched p1 q64) q64 _ hp1 HQ.out rfl).mono ?_
              rintro e w4 ⟨rfl, hbel4⟩
              have hblk4 := (hbel4.block b hb3).trans hblk3
              have hKr4 := WW.below hKr3 (Below.trans (Below.drew (Below.refl _ _)) hbel4) h03
              have hbs4 := hbel4.size
              go_wp2_with fail
              refine hK.out _ _ trivial (fun _ => ?_)
              clear hK K
              refine wpAnyH_ready (rs := [10]) (by kernel_rfl) (by simp) ?_
              refine AllReadyH.cons rfl (fun K hK => ?_) AllReadyH.nil
              rw [if_pos (by rfl)]
              go_simp
              refine (mixed_any s8 (sched p1 q64) ((s8.add (rounds (sched p1 q64) s8 q64)).list) q64 _ hKr4 (by rw [sched_length]; exact HQ.out) (by have : w3.drew.heap.size = w3.heap.size := rfl; omega) HQ.out rfl).mono ?_
              rintro e w5 ⟨rfl, hbel5⟩
              have hblk5 := (hbel5.block b (by have : w3.drew.heap.size = w3.heap.size := rfl; omega)).trans hblk4
              go_wp2_with fail
              refine hK.out _ _ trivial (fun _ => ?_)
              clear hK K
              refine wpAnyH_take (i := 11) (v := ?_) rfl (by kernel_rfl) (by kernel_rfl) (by kernel_rfl) (fun _ _ _ h => h) (Or.inl ⟨by rfl, ?_⟩) trivial ?_
              rotate_left
              · (intro w hSw; clear hSw; go_simp; try with_reducible rfl)
              simp only [Act.put, List.getElem_toArray, List.getElem_cons_zero, List.getElem_cons_succ, List.setIfInBounds_toArray, List.set_cons_zero, List.set_cons_succ]
              refine wpAnyH_take (i := 12) (v := ?_) rfl (by kernel_rfl) (by kernel_rfl) (by kernel_rfl) (fun _ _ _ h => h) (Or.inl ⟨by rfl, ?_⟩) trivial ?_
              rotate_left
              · (intro w hSw; clear hSw; go_simp; try with_reducible rfl)
              simp only [Act.put, List.getElem_toArray, List.getElem_cons_zero, List.getElem_cons_succ, List.setIfInBounds_toArray, List.set_cons_zero, List.set_cons_succ]
              refine wpAnyH_ready (rs := [13]) (by kernel_rfl) (by simp) ?_
              refine AllReadyH.cons rfl (fun K hK => ?_) AllReadyH.nil
              rw [if_pos (by rfl)]
              refine wp_store_mid 199 (.tmp 49) (.tmp 47) rfl b 0 (wcells (s8.add (rounds (sched p1 q64) s8 q64)).list).toArray rfl rfl (there_row hblk5 (by simp [wcells, S8.list]; rw [hash_length _ _ _ hp1]; omega)) (by rw [size141]; rfl) (wcells_one _) ?_
              refine hK.out _ _ trivial (fun _ => ?_)
              clear hK K
              simp only [Act.put]
              refine wpAnyH_done (by kernel_rfl) ?_ _
              refine NoPanic.normal ?_
              have hset5 : w5.setCells b 0 (wcells (s8.add (rounds (sched p1 q64) s8 q64)).list).toArray.toList = w5.setRow b (hashCells (s8.add (rounds (sched p1 q64) s8 q64)) p1 (L + m)).toArray := by
                rw [setCells_row _ 203 _ _ _ _ hblk5 (by simp [wcells, S8.list]; rw [hash_length _ _ _ hp1]; omega)]
                simp only
                rw [hash_words]
              rw [hset5]
              have hd5 : Below w3.heap.size w3 w5 := (Below.trans (Below.drew (Below.refl _ _)) hbel4).trans (hbel5.mono hbs4)
              obtain ⟨f1, f2, f3⟩ := hfin.out w5 hblk5 hd5
              generalize w5.setRow b (hashCells (s8.add (rounds (sched p1 q64) s8 q64)) p1 (L + m)).toArray = w6 at *
              clear hset5 hblk5 hblk4 hKr4 hbel4 hbel5 hd5 hfin
              go_wp2_with fail
              refine ⟨⟨_, _, _, done ++ rest.take m, rest.drop m, rfl, by rw [List.append_assoc, List.take_append_drop]; exact HSP.out, bytes_drop f3 m, ?_, by omega, by omega, f1, f2⟩, by simp [lenOf]; omega⟩
              intro y hy; cases hy; exact hgb
            · rw [if_pos (by rfl)]
              go_simp
              refine (spread_any p1 (sched p1 q64) q64 _ hp1 HQ.out rfl).mono ?_
              rintro e w4 ⟨rfl, hbel4⟩
              have hblk4 := (hbel4.block b hb3).trans hblk3
              have hKr4 := WW.below hKr3 (Below.trans (Below.drew (Below.refl _ _)) hbel4) h03
              have hbs4 := hbel4.size
              go_wp2_with fail
              refine hK.out _ _ trivial (fun _ => ?_)
              clear hK K
              refine wpAnyH_ready (rs := [4]) (by kernel_rfl) (by simp) ?_
              refine AllReadyH.cons rfl (fun K hK => ?_) AllReadyH.nil
              rw [if_pos (by rfl)]
              refine wp_load_mid 199 (.tmp 40) rfl b 0 rfl (wcells s8.list) _ (range_words hblk4) Tryd.underlying199 rfl (by rw [size141]; rfl) ?_
              refine hK.out _ _ trivial (fun _ => ?_)
              clear hK K
              simp only [Act.put, List.getElem_toArray, List.getElem_cons_zero, List.getElem_cons_succ, List.setIfInBounds_toArray, List.set_cons_zero, List.set_cons_succ]
              refine wpAnyH_ready (rs := [10]) (by kernel_rfl) (by simp) ?_
              refine AllReadyH.cons rfl (fun K hK => ?_) AllReadyH.nil
              rw [if_pos (by rfl)]
              go_simp
              refine (mixed_any s8 (sched p1 q64) ((s8.add (rounds (sched p1 q64) s8 q64)).list) q64 _ hKr4 (by rw [sched_length]; exact HQ.out) (by have : w3.drew.heap.size = w3.heap.size := rfl; omega) HQ.out rfl).mono ?_
              rintro e w5 ⟨rfl, hbel5⟩
              have hblk5 := (hbel5.block b (by have : w3.drew.heap.size = w3.heap.size := rfl; omega)).trans hblk4
              go_wp2_with fail
              refine hK.out _ _ trivial (fun _ => ?_)
              clear hK K
              refine wpAnyH_take (i := 11) (v := ?_) rfl (by kernel_rfl) (by kernel_rfl) (by kernel_rfl) (fun _ _ _ h => h) (Or.inl ⟨by rfl, ?_⟩) trivial ?_
              rotate_left
              · (intro w hSw; clear hSw; go_simp; try with_reducible rfl)
              simp only [Act.put, List.getElem_toArray, List.getElem_cons_zero, List.getElem_cons_succ, List.setIfInBounds_toArray, List.set_cons_zero, List.set_cons_succ]
              refine wpAnyH_take (i := 12) (v := ?_) rfl (by kernel_rfl) (by kernel_rfl) (by kernel_rfl) (fun _ _ _ h => h) (Or.inl ⟨by rfl, ?_⟩) trivial ?_
              rotate_left
              · (intro w hSw; clear hSw; go_simp; try with_reducible rfl)
              simp only [Act.put, List.getElem_toArray, List.getElem_cons_zero, List.getElem_cons_succ, List.setIfInBounds_toArray, List.set_cons_zero, List.set_cons_succ]
              refine wpAnyH_ready (rs := [13]) (by kernel_rfl) (by simp) ?_
              refine AllReadyH.cons rfl (fun K hK => ?_) AllReadyH.nil
              rw [if_pos (by rfl)]
              refine wp_store_mid 199 (.tmp 49) (.tmp 47) rfl b 0 (wcells (s8.add (rounds (sched p1 q64) s8 q64)).list).toArray rfl rfl (there_row hblk5 (by simp [wcells, S8.list]; rw [hash_length _ _ _ hp1]; omega)) (by rw [size141]; rfl) (wcells_one _) ?_
              refine hK.out _ _ trivial (fun _ => ?_)
              clear hK K
              simp only [Act.put]
              refine wpAnyH_done (by kernel_rfl) ?_ _
              refine NoPanic.normal ?_
              have hset5 : w5.setCells b 0 (wcells (s8.add (rounds (sched p1 q64) s8 q64)).list).toArray.toList = w5.setRow b (hashCells (s8.add (rounds (sched p1 q64) s8 q64)) p1 (L + m)).toArray := by
                rw [setCells_row _ 203 _ _ _ _ hblk5 (by simp [wcells, S8.list]; rw [hash_length _ _ _ hp1]; omega)]
                simp only
                rw [hash_words]
              rw [hset5]
              have hd5 : Below w3.heap.size w3 w5 := (Below.trans (Below.drew (Below.refl _ _)) hbel4).trans (hbel5.mono hbs4)
              obtain ⟨f1, f2, f3⟩ := hfin.out w5 hblk5 hd5
              generalize w5.setRow b (hashCells (s8.add (rounds (sched p1 q64) s8 q64)) p1 (L + m)).toArray = w6 at *
              clear hset5 hblk5 hblk4 hKr4 hbel4 hbel5 hd5 hfin
              go_wp2_with fail
              refine ⟨⟨_, _, _, done ++ rest.take m, rest.drop m, rfl, by rw [List.append_assoc, List.take_append_drop]; exact HSP.out, bytes_drop f3 m, ?_, by omega, by omega, f1, f2⟩, by simp [lenOf]; omega⟩
              intro y hy; cases hy; exact hgb
        · have hnm : n' = m := by omega
          have hcm : cap' = m := by omega
          subst hcm
          subst hnm
          go_wp2_with fail
          rw [hset3.out]
          generalize hw3q : w2.setRow b (hashCells s8 p1 (L + n')).toArray = w3 at *
          clear hw3q hset3 hblk1 c72b hbr2 hKr2 hchg2 hfz hcx hbr3
          have h03 : 1 < w3.heap.size := by omega
          refine wp_region_noPanic ?_
          refine wp_region_held_drew (S := fun _ => True) (by kernel_rfl) trivial (fun hHeld => ?_)
          clear hHeld
          refine wpAnyH_take (i := 0) (v := ?_) rfl (by kernel_rfl) (by kernel_rfl) (by kernel_rfl) (fun _ _ _ h => h) (Or.inl ⟨by rfl, ?_⟩) trivial ?_
          rotate_left
          · (intro w hSw; clear hSw; go_simp; try with_reducible rfl)
          simp only [Act.put, List.getElem_toArray, List.getElem_cons_zero, List.setIfInBounds_toArray, List.set_cons_zero, List.set_cons_succ]
          refine wpAnyH_take (i := 1) (v := ?_) rfl (by kernel_rfl) (by kernel_rfl) (by kernel_rfl) (fun _ _ _ h => h) (Or.inl ⟨by rfl, ?_⟩) trivial ?_
          rotate_left
          · (intro w hSw; clear hSw; go_simp; try with_reducible rfl)
          simp only [Act.put, List.getElem_toArray, List.getElem_cons_zero, List.getElem_cons_succ, List.setIfInBounds_toArray, List.set_cons_zero, List.set_cons_succ]
          refine wpAnyH_take (i := 2) (v := ?_) rfl (by kernel_rfl) (by kernel_rfl) (by kernel_rfl) (fun _ _ _ h => h) (Or.inl ⟨by rfl, ?_⟩) trivial ?_
          rotate_left
          · (intro w hSw; clear hSw; go_simp; try with_reducible rfl)
          simp only [Act.put, List.getElem_toArray, List.getElem_cons_zero, List.getElem_cons_succ, List.setIfInBounds_toArray, List.set_cons_zero, List.set_cons_succ]
          refine wpAnyH_take (i := 3) (v := ?_) rfl (by kernel_rfl) (by kernel_rfl) (by kernel_rfl) (fun _ _ _ h => h) (Or.inl ⟨by rfl, ?_⟩) trivial ?_
          rotate_left
          · (intro w hSw; clear hSw; go_simp; try with_reducible rfl)
          simp only [Act.put, List.getElem_toArray, List.getElem_cons_zero, List.getElem_cons_succ, List.setIfInBounds_toArray, List.set_cons_zero, List.set_cons_succ]
          refine wpAnyH_take (i := 5) (v := ?_) rfl (by kernel_rfl) (by kernel_rfl) (by kernel_rfl) (fun _ _ _ h => h) (Or.inl ⟨by rfl, ?_⟩) trivial ?_
          rotate_left
          · (intro w hSw; clear hSw; go_simp; try with_reducible rfl)
          simp only [Act.put, List.getElem_toArray, List.getElem_cons_zero, List.getElem_cons_succ, List.setIfInBounds_toArray, List.set_cons_zero, List.set_cons_succ]
          refine wpAnyH_take (i := 6) (v := ?_) rfl (by kernel_rfl) (by kernel_rfl) (by kernel_rfl) (fun _ _ _ h => h) (Or.inl ⟨by rfl, ?_⟩) trivial ?_
          rotate_left
          · (intro w hSw; clear hSw; go_simp; try with_reducible rfl)
          simp only [Act.put, List.getElem_toArray, List.getElem_cons_zero, List.getElem_cons_succ, List.setIfInBounds_toArray, List.set_cons_zero, List.set_cons_succ]
          refine wpAnyH_take (i := 7) (v := ?_) rfl (by kernel_rfl) (by kernel_rfl) (by kernel_rfl) (fun _ _ _ h => h) (Or.inl ⟨by rfl, ?_⟩) trivial ?_
          rotate_left
          · (intro w hSw; clear hSw; go_simp; try with_reducible rfl)
          simp only [Act.put, List.getElem_toArray, List.getElem_cons_zero, List.getElem_cons_succ, List.setIfInBounds_toArray, List.set_cons_zero, List.set_cons_succ]
          refine wpAnyH_ready (rs := [4, 8]) (by kernel_rfl) (by simp) ?_
          refine AllReadyH.cons rfl (fun K hK => ?_) (AllReadyH.cons rfl (fun K hK => ?_) AllReadyH.nil)
          · rw [if_pos (by rfl)]
            refine wp_load_mid 199 (.tmp 40) rfl b 0 rfl (wcells s8.list) _ (range_words hblk3) Tryd.underlying199 rfl (by rw [size141]; rfl) ?_
            refine hK.out _ _ trivial (fun _ => ?_)
            clear hK K
            simp only [Act.put, List.getElem_toArray, List.getElem_cons_zero, List.getElem_cons_succ, List.setIfInBounds_toArray, List.set_cons_zero, List.set_cons_succ]
            refine wpAnyH_ready (rs := [8]) (by kernel_rfl) (by simp) ?_
            refine AllReadyH.cons rfl (fun K hK => ?_) AllReadyH.nil
            rw [if_pos (by rfl)]
            refine wp_load_mid 201 (.tmp 44) rfl b 8 rfl (cellsOf p1) _ (range_part hblk3 hp1) Tryd.underlying201 rfl (by rw [size143, cellsOf_length, hp1]) ?_
            refine hK.out _ _ trivial (fun _ => ?_)
            clear hK K
            simp only [Act.put, List.getElem_toArray, List.getElem_cons_zero, List.getElem_cons_succ, List.setIfInBounds_toArray, List.set_cons_zero, List.set_cons_succ]
            refine wpAnyH_ready (rs := [9]) (by kernel_rfl) (by simp) ?_
            refine AllReadyH.cons rfl (fun K hK => ?_) AllReadyH.nil
            rw [if_pos (by rfl)]
            go_simp
            refine (spread_any p1 (sched p1 q64) q64 _ hp1 HQ.out rfl).mono ?_
            rintro e w4 ⟨rfl, hbel4⟩
            have hblk4 := (hbel4.block b hb3).trans hblk3
            have hKr4 := WW.below hKr3 (Below.trans (Below.drew (Below.refl _ _)) hbel4) h03
            have hbs4 := hbel4.size
            go_wp2_with fail
            refine hK.out _ _ trivial (fun _ => ?_)
            clear hK K
            refine wpAnyH_ready (rs := [10]) (by kernel_rfl) (by simp) ?_
            refine AllReadyH.cons rfl (fun K hK => ?_) AllReadyH.nil
            rw [if_pos (by rfl)]
            go_simp
            refine (mixed_any s8 (sched p1 q64) ((s8.add (rounds (sched p1 q64) s8 q64)).list) q64 _ hKr4 (by rw [sched_length]; exact HQ.out) (by have : w3.drew.heap.size = w3.heap.size := rfl; omega) HQ.out rfl).mono ?_
            rintro e w5 ⟨rfl, hbel5⟩
            have hblk5 := (hbel5.block b (by have : w3.drew.heap.size = w3.heap.size := rfl; omega)).trans hblk4
            go_wp2_with fail
            refine hK.out _ _ trivial (fun _ => ?_)
            clear hK K
            refine wpAnyH_take (i := 11) (v := ?_) rfl (by kernel_rfl) (by kernel_rfl) (by kernel_rfl) (fun _ _ _ h => h) (Or.inl ⟨by rfl, ?_⟩) trivial ?_
            rotate_left
            · (intro w hSw; clear hSw; go_simp; try with_reducible rfl)
            simp only [Act.put, List.getElem_toArray, List.getElem_cons_zero, List.getElem_cons_succ, List.setIfInBounds_toArray, List.set_cons_zero, List.set_cons_succ]
            refine wpAnyH_take (i := 12) (v := ?_) rfl (by kernel_rfl) (by kernel_rfl) (by kernel_rfl) (fun _ _ _ h => h) (Or.inl ⟨by rfl, ?_⟩) trivial ?_
            rotate_left
            · (intro w hSw; clear hSw; go_simp; try with_reducible rfl)
            simp only [Act.put, List.getElem_toArray, List.getElem_cons_zero, List.getElem_cons_succ, List.setIfInBounds_toArray, List.set_cons_zero, List.set_cons_succ]
            refine wpAnyH_ready (rs := [13]) (by kernel_rfl) (by simp) ?_
            refine AllReadyH.cons rfl (fun K hK => ?_) AllReadyH.nil
            rw [if_pos (by rfl)]
            refine wp_store_mid 199 (.tmp 49) (.tmp 47) rfl b 0 (wcells (s8.add (rounds (sched p1 q64) s8 q64)).list).toArray rfl rfl (there_row hblk5 (by simp [wcells, S8.list]; rw [hash_length _ _ _ hp1]; omega)) (by rw [size141]; rfl) (wcells_one _) ?_
            refine hK.out _ _ trivial (fun _ => ?_)
            clear hK K
            simp only [Act.put]
            refine wpAnyH_done (by kernel_rfl) ?_ _
            refine NoPanic.normal ?_
            have hset5 : w5.setCells b 0 (wcells (s8.add (rounds (sched p1 q64) s8 q64)).list).toArray.toList = w5.setRow b (hashCells (s8.add (rounds (sched p1 q64) s8 q64)) p1 (L + n')).toArray := by
              rw [setCells_row _ 203 _ _ _ _ hblk5 (by simp [wcells, S8.list]; rw [hash_length _ _ _ hp1]; omega)]
              simp only
              rw [hash_words]
            rw [hset5]
            have hd5 : Below w3.heap.size w3 w5 := (Below.trans (Below.drew (Below.refl _ _)) hbel4).trans (hbel5.mono hbs4)
            obtain ⟨f1, f2, f3⟩ := hfin.out w5 hblk5 hd5
            generalize w5.setRow b (hashCells (s8.add (rounds (sched p1 q64) s8 q64)) p1 (L + n')).toArray = w6 at *
            clear hset5 hblk5 hblk4 hKr4 hbel4 hbel5 hd5 hfin
            go_wp2_with fail
            refine ⟨⟨_, _, _, done ++ rest.take n', rest.drop n', rfl, by rw [List.append_assoc, List.take_append_drop]; exact HSP.out, ⟨by rw [List.length_drop]; have := HBL.out; omega, ?_⟩, ?_, by omega, by omega, f1, f2⟩, by simp [lenOf]; omega⟩
            · intro i c hi
              rw [List.drop_eq_nil_of_le (by have := HBL.out; omega)] at hi
              cases hi
            · intro y hy; cases hy; exact hgb
          · rw [if_pos (by rfl)]
            refine wp_load_mid 201 (.tmp 44) rfl b 8 rfl (cellsOf p1) _ (range_part hblk3 hp1) Tryd.underlying201 rfl (by rw [size143, cellsOf_length, hp1]) ?_
            refine hK.out _ _ trivial (fun _ => ?_)
            clear hK K
            simp only [Act.put, List.getElem_toArray, List.getElem_cons_zero, List.getElem_cons_succ, List.setIfInBounds_toArray, List.set_cons_zero, List.set_cons_succ]
            refine wpAnyH_ready (rs := [4, 9]) (by kernel_rfl) (by simp) ?_
            refine AllReadyH.cons rfl (fun K hK => ?_) (AllReadyH.cons rfl (fun K hK => ?_) AllReadyH.nil)
            · rw [if_pos (by rfl)]
              refine wp_load_mid 199 (.tmp 40) rfl b 0 rfl (wcells s8.list) _ (range_words hblk3) Tryd.underlying199 rfl (by rw [size141]; rfl) ?_
              refine hK.out _ _ trivial (fun _ => ?_)
              clear hK K
              simp only [Act.put, List.getElem_toArray, List.getElem_cons_zero, List.getElem_cons_succ, List.setIfInBounds_toArray, List.set_cons_zero, List.set_cons_succ]
              refine wpAnyH_ready (rs := [9]) (by kernel_rfl) (by simp) ?_
              refine AllReadyH.cons rfl (fun K hK => ?_) AllReadyH.nil
              rw [if_pos (by rfl)]
              go_simp
              refine (spread_any p1 (sched p1 q64) q64 _ hp1 HQ.out rfl).mono ?_
              rintro e w4 ⟨rfl, hbel4⟩
              have hblk4 := (hbel4.block b hb3).trans hblk3
              have hKr4 := WW.below hKr3 (Below.trans (Below.drew (Below.refl _ _)) hbel4) h03
              have hbs4 := hbel4.size
              go_wp2_with fail
              refine hK.out _ _ trivial (fun _ => ?_)
              clear hK K
              refine wpAnyH_ready (rs := [10]) (by kernel_rfl) (by simp) ?_
              refine AllReadyH.cons rfl (fun K hK => ?_) AllReadyH.nil
              rw [if_pos (by rfl)]
              go_simp
              refine (mixed_any s8 (sched p1 q64) ((s8.add (rounds (sched p1 q64) s8 q64)).list) q64 _ hKr4 (by rw [sched_length]; exact HQ.out) (by have : w3.drew.heap.size = w3.heap.size := rfl; omega) HQ.out rfl).mono ?_
              rintro e w5 ⟨rfl, hbel5⟩
              have hblk5 := (hbel5.block b (by have : w3.drew.heap.size = w3.heap.size := rfl; omega)).trans hblk4
              go_wp2_with fail
              refine hK.out _ _ trivial (fun _ => ?_)
              clear hK K
              refine wpAnyH_take (i := 11) (v := ?_) rfl (by kernel_rfl) (by kernel_rfl) (by kernel_rfl) (fun _ _ _ h => h) (Or.inl ⟨by rfl, ?_⟩) trivial ?_
              rotate_left
              · (intro w hSw; clear hSw; go_simp; try with_reducible rfl)
              simp only [Act.put, List.getElem_toArray, List.getElem_cons_zero, List.getElem_cons_succ, List.setIfInBounds_toArray, List.set_cons_zero, List.set_cons_succ]
              refine wpAnyH_take (i := 12) (v := ?_) rfl (by kernel_rfl) (by kernel_rfl) (by kernel_rfl) (fun _ _ _ h => h) (Or.inl ⟨by rfl, ?_⟩) trivial ?_
              rotate_left
              · (intro w hSw; clear hSw; go_simp; try with_reducible rfl)
              simp only [Act.put, List.getElem_toArray, List.getElem_cons_zero, List.getElem_cons_succ, List.setIfInBounds_toArray, List.set_cons_zero, List.set_cons_succ]
              refine wpAnyH_ready (rs := [13]) (by kernel_rfl) (by simp) ?_
              refine AllReadyH.cons rfl (fun K hK => ?_) AllReadyH.nil
              rw [if_pos (by rfl)]
              refine wp_store_mid 199 (.tmp 49) (.tmp 47) rfl b 0 (wcells (s8.add (rounds (sched p1 q64) s8 q64)).list).toArray rfl rfl (there_row hblk5 (by simp [wcells, S8.list]; rw [hash_length _ _ _ hp1]; omega)) (by rw [size141]; rfl) (wcells_one _) ?_
              refine hK.out _ _ trivial (fun _ => ?_)
              clear hK K
              simp only [Act.put]
              refine wpAnyH_done (by kernel_rfl) ?_ _
              refine NoPanic.normal ?_
              have hset5 : w5.setCells b 0 (wcells (s8.add (rounds (sched p1 q64) s8 q64)).list).toArray.toList = w5.setRow b (hashCells (s8.add (rounds (sched p1 q64) s8 q64)) p1 (L + n')).toArray := by
                rw [setCells_row _ 203 _ _ _ _ hblk5 (by simp [wcells, S8.list]; rw [hash_length _ _ _ hp1]; omega)]
                simp only
                rw [hash_words]
              rw [hset5]
              have hd5 : Below w3.heap.size w3 w5 := (Below.trans (Below.drew (Below.refl _ _)) hbel4).trans (hbel5.mono hbs4)
              obtain ⟨f1, f2, f3⟩ := hfin.out w5 hblk5 hd5
              generalize w5.setRow b (hashCells (s8.add (rounds (sched p1 q64) s8 q64)) p1 (L + n')).toArray = w6 at *
              clear hset5 hblk5 hblk4 hKr4 hbel4 hbel5 hd5 hfin
              go_wp2_with fail
              refine ⟨⟨_, _, _, done ++ rest.take n', rest.drop n', rfl, by rw [List.append_assoc, List.take_append_drop]; exact HSP.out, ⟨by rw [List.length_drop]; have := HBL.out; omega, ?_⟩, ?_, by omega, by omega, f1, f2⟩, by simp [lenOf]; omega⟩
              · intro i c hi
                rw [List.drop_eq_nil_of_le (by have := HBL.out; omega)] at hi
                cases hi
              · intro y hy; cases hy; exact hgb
            · rw [if_pos (by rfl)]
              go_simp
              refine (spread_any p1 (sched p1 q64) q64 _ hp1 HQ.out rfl).mono ?_
              rintro e w4 ⟨rfl, hbel4⟩
              have hblk4 := (hbel4.block b hb3).trans hblk3
              have hKr4 := WW.below hKr3 (Below.trans (Below.drew (Below.refl _ _)) hbel4) h03
              have hbs4 := hbel4.size
              go_wp2_with fail
              refine hK.out _ _ trivial (fun _ => ?_)
              clear hK K
              refine wpAnyH_ready (rs := [4]) (by kernel_rfl) (by simp) ?_
              refine AllReadyH.cons rfl (fun K hK => ?_) AllReadyH.nil
              rw [if_pos (by rfl)]
              refine wp_load_mid 199 (.tmp 40) rfl b 0 rfl (wcells s8.list) _ (range_words hblk4) Tryd.underlying199 rfl (by rw [size141]; rfl) ?_
              refine hK.out _ _ trivial (fun _ => ?_)
              clear hK K
              simp only [Act.put, List.getElem_toArray, List.getElem_cons_zero, List.getElem_cons_succ, List.setIfInBounds_toArray, List.set_cons_zero, List.set_cons_succ]
              refine wpAnyH_ready (rs := [10]) (by kernel_rfl) (by simp) ?_
              refine AllReadyH.cons rfl (fun K hK => ?_) AllReadyH.nil
              rw [if_pos (by rfl)]
              go_simp
              refine (mixed_any s8 (sched p1 q64) ((s8.add (rounds (sched p1 q64) s8 q64)).list) q64 _ hKr4 (by rw [sched_length]; exact HQ.out) (by have : w3.drew.heap.size = w3.heap.size := rfl; omega) HQ.out rfl).mono ?_
              rintro e w5 ⟨rfl, hbel5⟩
              have hblk5 := (hbel5.block b (by have : w3.drew.heap.size = w3.heap.size := rfl; omega)).trans hblk4
              go_wp2_with fail
              refine hK.out _ _ trivial (fun _ => ?_)
              clear hK K
              refine wpAnyH_take (i := 11) (v := ?_) rfl (by kernel_rfl) (by kernel_rfl) (by kernel_rfl) (fun _ _ _ h => h) (Or.inl ⟨by rfl, ?_⟩) trivial ?_
              rotate_left
              · (intro w hSw; clear hSw; go_simp; try with_reducible rfl)
              simp only [Act.put, List.getElem_toArray, List.getElem_cons_zero, List.getElem_cons_succ, List.setIfInBounds_toArray, List.set_cons_zero, List.set_cons_succ]
              refine wpAnyH_take (i := 12) (v := ?_) rfl (by kernel_rfl) (by kernel_rfl) (by kernel_rfl) (fun _ _ _ h => h) (Or.inl ⟨by rfl, ?_⟩) trivial ?_
              rotate_left
              · (intro w hSw; clear hSw; go_simp; try with_reducible rfl)
              simp only [Act.put, List.getElem_toArray, List.getElem_cons_zero, List.getElem_cons_succ, List.setIfInBounds_toArray, List.set_cons_zero, List.set_cons_succ]
              refine wpAnyH_ready (rs := [13]) (by kernel_rfl) (by simp) ?_
              refine AllReadyH.cons rfl (fun K hK => ?_) AllReadyH.nil
              rw [if_pos (by rfl)]
              refine wp_store_mid 199 (.tmp 49) (.tmp 47) rfl b 0 (wcells (s8.add (rounds (sched p1 q64) s8 q64)).list).toArray rfl rfl (there_row hblk5 (by simp [wcells, S8.list]; rw [hash_length _ _ _ hp1]; omega)) (by rw [size141]; rfl) (wcells_one _) ?_
              refine hK.out _ _ trivial (fun _ => ?_)
              clear hK K
              simp only [Act.put]
              refine wpAnyH_done (by kernel_rfl) ?_ _
              refine NoPanic.normal ?_
              have hset5 : w5.setCells b 0 (wcells (s8.add (rounds (sched p1 q64) s8 q64)).list).toArray.toList = w5.setRow b (hashCells (s8.add (rounds (sched p1 q64) s8 q64)) p1 (L + n')).toArray := by
                rw [setCells_row _ 203 _ _ _ _ hblk5 (by simp [wcells, S8.list]; rw [hash_length _ _ _ hp1]; omega)]
                simp only
                rw [hash_words]
              rw [hset5]
              have hd5 : Below w3.heap.size w3 w5 := (Below.trans (Below.drew (Below.refl _ _)) hbel4).trans (hbel5.mono hbs4)
              obtain ⟨f1, f2, f3⟩ := hfin.out w5 hblk5 hd5
              generalize w5.setRow b (hashCells (s8.add (rounds (sched p1 q64) s8 q64)) p1 (L + n')).toArray = w6 at *
              clear hset5 hblk5 hblk4 hKr4 hbel4 hbel5 hd5 hfin
              go_wp2_with fail
              refine ⟨⟨_, _, _, done ++ rest.take n', rest.drop n', rfl, by rw [List.append_assoc, List.take_append_drop]; exact HSP.out, ⟨by rw [List.length_drop]; have := HBL.out; omega, ?_⟩, ?_, by omega, by omega, f1, f2⟩, by simp [lenOf]; omega⟩
              · intro i c hi
                rw [List.drop_eq_nil_of_le (by have := HBL.out; omega)] at hi
                cases hi
              · intro y hy; cases hy; exact hgb
      · have hr0' : ¬ (r : Int) = 0 := by omega
        have hHH : HH (w2.setRow b (hashCells s8 (splice part off (rest.take m)) (L + m)).toArray) b (all ++ (done ++ rest.take m)) := by
          have hlt : (rest.take m).length = m := by rw [List.length_take]; have := HBL.out; omega
          have hq := part_more part (all ++ done) (rest.take m) hpart (by rw [← HL.out, ← HO.out]; omega) (by rw [← HL.out, hlt, ← HR.out]; exact hr0)
          refine ⟨_, by rw [← List.append_assoc]; exact hq.1, ?_⟩
          have e1 : (all ++ done ++ rest.take m).length = L + m := by rw [List.length_append, hlt, ← HL.out]
          have e2 : (all ++ done).length % 64 = off := by rw [← HL.out, ← HO.out]
          rw [← List.append_assoc, hq.2, e1, e2, ← HS8.out]
          exact hblk3
        by_cases hmc : m < cap'
        · go_wp2_with fail
          rw [hset.out]
          refine ⟨⟨_, _, _, done ++ rest.take m, rest.drop m, rfl, by rw [List.append_assoc, List.take_append_drop]; exact HSP.out, bytes_drop hbr3 m, ?_, by omega, by omega, hHH, hchg3⟩, by simp [lenOf]; omega⟩
          intro y hy; cases hy; exact hgb
        · have hnm : n' = m := by omega
          have hcm : cap' = m := by omega
          subst hcm
          subst hnm
          go_wp2_with fail
          rw [hset.out]
          refine ⟨⟨_, _, _, done ++ rest.take n', rest.drop n', rfl, by rw [List.append_assoc, List.take_append_drop]; exact HSP.out, ⟨by rw [List.length_drop]; have := HBL.out; omega, ?_⟩, ?_, by omega, by omega, hHH, hchg3⟩, by simp [lenOf]; omega⟩
          · intro i c hi
            rw [List.drop_eq_nil_of_le (by have := HBL.out; omega)] at hi
            cases hi
          · intro y hy; cases hy; exact hgb
end Go.Proofs.YtecacjddggljgaaDoor.Sm

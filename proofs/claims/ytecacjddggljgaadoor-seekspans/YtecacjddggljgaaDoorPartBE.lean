/-
  What sum.spread answers: a contract over this translation. Slices of bytes, as the walks take them. What sum.putWord and sum.closing do: contracts over this translation.
-/
import Derived.Test.YtecacjddggljgaaDoorPartBD
import Derived.Deep.RegionHeld3
import Derived.OpenShut
namespace Go.Proofs.YtecacjddggljgaaDoor.Sm
open Go.RowKit
/-- Bytes as cells. -/
def cellsOf (bs : List UInt8) : List Value := bs.map fun b => Value.int .u8 b.toNat
/-- The words so far, and 0 for the others. -/
def wsFill (bl : List UInt8) (i : Nat) : List UInt32 := sched bl i ++ List.replicate (64 - i) 0
theorem size148 : (Tryd.prog.info? 205).map (·.size) = some 64 := by kernel_rfl
theorem cellsOf_getD (l : List UInt8) (t : Nat) (h : t < l.length) : (cellsOf l).toArray[t]? = some (.int .u8 (l.getD t 0).toNat) := by
  simp [cellsOf, List.getD, h]
theorem sched_length (bl : List UInt8) : ∀ i, (sched bl i).length = i
  | 0 => rfl
  | i + 1 => by simp [sched, sched_length bl i]
theorem wsFill_length (bl : List UInt8) (i : Nat) (h : i ≤ 64) : (wsFill bl i).length = 64 := by
  simp [wsFill, sched_length]; omega
theorem wsFill_old (bl : List UInt8) (i j : Nat) (h : j < i) : (wsFill bl i).getD j 0 = (sched bl i).getD j 0 := by
  simp [wsFill, List.getD, List.getElem?_append, sched_length, h]
theorem wsFill_here (bl : List UInt8) (i : Nat) (h : i < 64) : (wsFill bl i).getD i 0 = 0 := by
  have h0 : 0 < 64 - i := by omega
  simp [wsFill, List.getD, sched_length, h0]
theorem wsFill_succ (bl : List UInt8) (i : Nat) (h : i < 64) : (wcells (wsFill bl i)).toArray.setIfInBounds i (.int .u32 (nextW bl (sched bl i) i).toNat) = (wcells (wsFill bl (i + 1))).toArray := by
  rw [List.setIfInBounds_toArray]
  congr 1
  unfold wsFill wcells
  obtain ⟨k, hk⟩ : ∃ k, 64 - i = k + 1 := ⟨63 - i, by omega⟩
  rw [hk, List.replicate_succ, show 64 - (i + 1) = k by omega, List.map_append, List.set_append_right _ _ (by simp [sched_length]), sched]
  simp [sched_length]
def nextF (x y z v : UInt32) : UInt32 := (rot y 17 ^^^ rot y 19 ^^^ y >>> 10) + z + (rot x 7 ^^^ rot x 18 ^^^ x >>> 3) + v
theorem nextW_far (bl : List UInt8) (l : List UInt32) (k : Nat) : nextW bl l (k + 16) = nextF (l.getD (k + 1) 0) (l.getD (k + 14) 0) (l.getD (k + 9) 0) (l.getD k 0) := by
  rw [nextW, if_neg (by omega)]
  rfl
theorem three_blocks (w : World) (A B C : Array Value) (ta tb tc : TypeId) : Below w.heap.size w (((w.alloc (.cells A ta)).alloc (.cells B tb)).alloc (.cells C tc)) ∧ (((w.alloc (.cells A ta)).alloc (.cells B tb)).alloc (.cells C tc)).heap.size = w.heap.size + 3 ∧
    (((w.alloc (.cells A ta)).alloc (.cells B tb)).alloc (.cells C tc)).heap[w.heap.size]? = some (.cells A ta) ∧ (((w.alloc (.cells A ta)).alloc (.cells B tb)).alloc (.cells C tc)).heap[w.heap.size + 1]? = some (.cells B tb) ∧ (((w.alloc (.cells A ta)).alloc (.cells B tb)).alloc (.cells C tc)).heap[w.heap.size + 1 + 1]? = some (.cells C tc) := by
  refine ⟨(((Below.refl _ _).alloc (Nat.le_refl _) _).alloc (by simp) _).alloc (by simp; omega) _, by simp, ?_, ?_, ?_⟩
  · rw [heap_alloc_get, if_neg (by simp; omega), heap_alloc_get, if_neg (by simp), heap_alloc_get, if_pos rfl]
  · rw [heap_alloc_get, if_neg (by simp), heap_alloc_get, if_pos (by simp)]
  · rw [heap_alloc_get, if_pos (by simp)]
theorem set_word {wr w1 : World} {B g i : Nat} {cur new : Array Value} {ty : TypeId} {v : Value} (hB : B ≤ g) (hb : Below B w1 wr) (hg : wr.heap[g]? = some (.cells cur ty (0, 0))) (hnew : cur.setIfInBounds i v = new) :
    Below B w1 (wr.setCell ⟨g, i, none⟩ v).drew ∧ (wr.setCell ⟨g, i, none⟩ v).drew.heap[g]? = some (.cells new ty (0, 0)) := by
  rw [setCell_eq_setRow wr g i cur ty (0, 0) v hg, hnew]
  exact ⟨(below_setRow hb hB _).drew, setRow_heap wr g cur new ty (0, 0) hg⟩
theorem drewN_heap (w : World) : ∀ n, (w.drewN n).heap = w.heap
  | 0 => rfl
  | n + 1 => drewN_heap w n
theorem wp_gen {P : Program} {c : Code} {Q : Exit → Act → World → Prop} {a : Act} {w : World} (R : World → Prop) (hR : R w) (h : ∀ w1, R w1 → Code.wp P c Q a w1) : Code.wp P c Q a w := h w hR
set_option maxRecDepth 100000 in
set_option maxHeartbeats 2000000 in
theorem spread_any (bl : List UInt8) (out : List UInt32) (m : Nat) (w : World) (hl : bl.length = 64) (hm : m = 64) (hout : out = sched bl m) :
    Calls Tryd.prog 136 #[.agg (cellsOf bl).toArray] w fun e w' => e = .returned (.agg (wcells out).toArray) ∧ Below w.heap.size w w' := by
  go_enter Tryd.func136, Tryd.ntmps136
  go_wp2
  refine wp_gen (fun w1 => Below w.heap.size w w1 ∧ w1.heap.size = w.heap.size + 3 ∧ w1.heap[w.heap.size]? = some (.cells (cellsOf bl).toArray 201) ∧ w1.heap[w.heap.size + 1]? = some (.cells (wcells (wsFill bl 0)).toArray 205) ∧ w1.heap[w.heap.size + 1 + 1]? = some (.cells (wcells (wsFill bl 0)).toArray 205)) ?_ ?_
  · exact three_blocks w _ _ _ _ _ _
  rintro w1 ⟨hbel, hsz, hB, hR, hW⟩
  generalize hn : w.heap.size = n at *
  go_loopw [10] (fun t wr => ∃ i : Nat, i ≤ 64 ∧ t = .int .i64 i ∧ Below (n + 2) w1 wr ∧ wr.heap[n + 1 + 1]? = some (.cells (wcells (wsFill bl i)).toArray 205)) (fun t _ => (64 - intOf t).toNat)
  case atStart => exact ⟨0, by omega, rfl, Below.refl _ _, hW⟩
  case round =>
    obtain ⟨i, hi, rfl, hb, hwr⟩ := hrel
    have hbs := hb.size
    by_cases hi64 : i < 64
    · have hnew := wsFill_succ bl i hi64
      have hcd : wr.cell? ⟨n + 1 + 1, i, none⟩ = some (.int .u32 ((wsFill bl i).getD i 0).toNat) := by rw [cell_of_row wr _ i _ _ _ hwr]; exact wcells_getD _ _ (by rw [wsFill_length bl i hi]; exact hi64)
      have hfz := frozen_of_row wr (n + 1 + 1) i _ _ hwr
      by_cases h16 : i < 16
      · have hBr := (hb.block n (by omega)).trans hB
        have hx : ∀ j, j < 64 → wr.cell? ⟨n, j, none⟩ = some (.int .u8 (bl.getD j 0).toNat) := fun j hj => by rw [cell_of_row wr n j _ _ _ hBr]; exact cellsOf_getD bl j (by omega)
        have x0 := hx (4 * i) (by omega)
        have x1 := hx (4 * i + 1) (by omega)
        have x2 := hx (4 * i + 2) (by omega)
        have x3 := hx (4 * i + 3) (by omega)
        have hN : Hid (nextW bl (sched bl i) i = be4 bl i) := by show _ = _; rw [nextW, if_pos h16]
        clear hx hBr
        have e1 : (0 : Int) ≤ 4 * (i : Int) := by omega
        have e2 : 4 * (i : Int) ≤ 4 * (i : Int) + 4 := by omega
        have e3 : 4 * (i : Int) + 4 ≤ 64 := by omega
        have b0 := (bl.getD (4 * i) 0).toNat_lt
        have b1 := (bl.getD (4 * i + 1) 0).toNat_lt
        have b2 := (bl.getD (4 * i + 2) 0).toNat_lt
        have b3 := (bl.getD (4 * i + 3) 0).toNat_lt
        have HE : Hid (be4 bl i = (bl.getD (4 * i) 0).toUInt32 <<< 24 ||| (bl.getD (4 * i + 1) 0).toUInt32 <<< 16 ||| (bl.getD (4 * i + 2) 0).toUInt32 <<< 8 ||| (bl.getD (4 * i + 3) 0).toUInt32) := rfl
        generalize bl.getD (4 * i) 0 = c0 at *
        generalize bl.getD (4 * i + 1) 0 = c1 at *
        generalize bl.getD (4 * i + 2) 0 = c2 at *
        generalize bl.getD (4 * i + 3) 0 = c3 at *
        have HNew : Hid ((wcells (wsFill bl i)).toArray.setIfInBounds i (.int .u32 (nextW bl (sched bl i) i).toNat) = (wcells (wsFill bl (i + 1))).toArray) := hnew
        clear hnew
        go_wp2_with fail
        rw [show 4 * i + 4 - 4 * i = 4 by omega]
        have hfar : ∀ (v : Value) (j : Nat), (wr.setCell ⟨n + 1 + 1, i, none⟩ v).cell? ⟨n, j, none⟩ = wr.cell? ⟨n, j, none⟩ := fun v j => World.cell?_setCell_other _ _ _ _ (by simp)
        go_region_held3 (fun w' => w'.cell? ⟨n, 4 * i, none⟩ = some (.int .u8 (c0.toNat : Int)) ∧ w'.cell? ⟨n, 4 * i + 1, none⟩ = some (.int .u8 (c1.toNat : Int)) ∧ w'.cell? ⟨n, 4 * i + 2, none⟩ = some (.int .u8 (c2.toNat : Int)) ∧ w'.cell? ⟨n, 4 * i + 3, none⟩ = some (.int .u8 (c3.toNat : Int))) (first | assumption | go_keep) (fail)
        simp only [u8w, wshl24, wshl16, wshl8, w_or]
        rw [← HE.out, ← hN.out]
        obtain ⟨hb2, hwr2⟩ := set_word (by omega) hb hwr HNew.out
        generalize (wr.setCell _ _).drew = w3 at *
        clear hb hwr x0 x1 x2 x3 HE hN HNew hfar hcd hfz
        go_wp2
        go_roundw
        case rel => exact ⟨i + 1, by omega, by go_num, hb2, hwr2⟩
        case measure => simp [intOf]; omega
      · have hy : ∀ j, j < i → wr.cell? ⟨n + 1 + 1, j, none⟩ = some (.int .u32 ((sched bl i).getD j 0).toNat) := fun j hj => by
          rw [cell_of_row wr _ j _ _ _ hwr, ← wsFill_old bl i j hj]; exact wcells_getD _ _ (by rw [wsFill_length bl i hi]; omega)
        have HNew : Hid ((wcells (wsFill bl i)).toArray.setIfInBounds i (.int .u32 (nextW bl (sched bl i) i).toNat) = (wcells (wsFill bl (i + 1))).toArray) := hnew
        obtain ⟨j1, hj1, g1⟩ : ∃ j : Nat, (i : Int) - 15 = (j : Int) ∧ i - 15 = j := ⟨i - 15, by omega, rfl⟩
        obtain ⟨j14, hj14, g14⟩ : ∃ j : Nat, (i : Int) - 2 = (j : Int) ∧ i - 2 = j := ⟨i - 2, by omega, rfl⟩
        obtain ⟨j9, hj9, g9⟩ : ∃ j : Nat, (i : Int) - 7 = (j : Int) ∧ i - 7 = j := ⟨i - 7, by omega, rfl⟩
        obtain ⟨j0, hj0, g0⟩ : ∃ j : Nat, (i : Int) - 16 = (j : Int) ∧ i - 16 = j := ⟨i - 16, by omega, rfl⟩
        have hN : Hid (nextW bl (sched bl i) i = nextF ((sched bl i).getD j1 0) ((sched bl i).getD j14 0) ((sched bl i).getD j9 0) ((sched bl i).getD j0 0)) := by
          show _ = _
          rw [nextW, if_neg h16, g1, g14, g9, g0]; rfl
        have y1 := hy j1 (by omega)
        have y14 := hy j14 (by omega)
        have y9 := hy j9 (by omega)
        have y0 := hy j0 (by omega)
        have l1 : (j1 : Int) < 64 := by omega
        have l14 : (j14 : Int) < 64 := by omega
        have l9 : (j9 : Int) < 64 := by omega
        have l0 : (j0 : Int) < 64 := by omega
        clear hy hnew
        generalize (sched bl i).getD j1 0 = x at *
        generalize (sched bl i).getD j14 0 = y at *
        generalize (sched bl i).getD j9 0 = z at *
        generalize (sched bl i).getD j0 0 = v at *
        clear g1 g14 g9 g0
        go_wp2_with fail
        go_quiet (fail)
        have hq := drewN_heap wr nq
        have hb2 : Below (n + 2) w1 (wr.drewN nq) := bel_drewN hb nq
        have hwr2 : (wr.drewN nq).heap[n + 1 + 1]? = some (.cells (wcells (wsFill bl i)).toArray 205) := by rw [hq]; exact hwr
        have z9 : (wr.drewN nq).cell? ⟨n + 1 + 1, j9, none⟩ = some (.int .u32 z.toNat) := by rw [World.cell?_of_block (by rw [hq])]; exact y9
        have z0 : (wr.drewN nq).cell? ⟨n + 1 + 1, j0, none⟩ = some (.int .u32 v.toNat) := by rw [World.cell?_of_block (by rw [hq])]; exact y0
        have hcd2 : ((wr.drewN nq).cell? ⟨n + 1 + 1, i, none⟩) = some (.int .u32 ((wsFill bl i).getD i 0).toNat) := by rw [World.cell?_of_block (by rw [hq])]; exact hcd
        have hfz2 := frozen_of_row _ (n + 1 + 1) i _ _ hwr2
        generalize wr.drewN nq = w2 at *
        have hfar : ∀ u : Value, (w2.setCell ⟨n + 1 + 1, i, none⟩ u).cell? ⟨n + 1 + 1, j9, none⟩ = w2.cell? ⟨n + 1 + 1, j9, none⟩ := fun u => World.cell?_setCell_other _ _ _ _ (fun h => by have := congrArg Addr.off h; simp only at this; omega)
        have hfar0 : ∀ u : Value, (w2.setCell ⟨n + 1 + 1, i, none⟩ u).cell? ⟨n + 1 + 1, j0, none⟩ = w2.cell? ⟨n + 1 + 1, j0, none⟩ := fun u => World.cell?_setCell_other _ _ _ _ (fun h => by have := congrArg Addr.off h; simp only at this; omega)
        clear hb hwr y1 y14 y9 y0 hcd hfz hq
        go_wp2_with fail
        refine (rotr_7 _ _).mono ?_
        rintro e w' ⟨rfl, rfl⟩
        go_wp2_with fail
        refine (rotr_18 _ _).mono ?_
        rintro e w' ⟨rfl, rfl⟩
        go_wp2_with fail
        refine (rotr_17 _ _).mono ?_
        rintro e w' ⟨rfl, rfl⟩
        go_wp2_with fail
        refine (rotr_19 _ _).mono ?_
        rintro e w' ⟨rfl, rfl⟩
        go_wp2_with fail
        have hw9 : IntKind.i64.wrap (j9 : Int) = (j9 : Int) := by rw [IntKind.wrap_i64]; omega
        have hw0 : IntKind.i64.wrap (j0 : Int) = (j0 : Int) := by rw [IntKind.wrap_i64]; omega
        have hp9 : (0 : Int) ≤ (j9 : Int) := by omega
        have hp0 : (0 : Int) ≤ (j0 : Int) := by omega
        have hpi : (0 : Int) ≤ (i : Int) := by omega
        have hli : (i : Int) < 64 := by omega
        go_region_held3 (fun w'' => w''.cell? ⟨n + 1 + 1, j9, none⟩ = some (.int .u32 (z.toNat : Int)) ∧ w''.cell? ⟨n + 1 + 1, j0, none⟩ = some (.int .u32 (v.toNat : Int))) (first | assumption | go_keep) (fail)
        simp only [wshr3, wshr10, w_xor, w_wadd]
        have HV : nextF x y z v = (rot y 17 ^^^ rot y 19 ^^^ y >>> 10) + z + (rot x 7 ^^^ rot x 18 ^^^ x >>> 3) + v := rfl
        rw [← HV, ← hN.out]
        obtain ⟨hb3, hwr3⟩ := set_word (by omega) hb2 hwr2 HNew.out
        generalize (World.setCell _ _ _).drew = w3 at *
        clear hb2 hwr2 z9 z0 hN HNew HV hfar hfar0 hcd2 hfz2
        go_wp2
        go_roundw
        case rel => exact ⟨i + 1, by omega, by go_num, hb3, hwr3⟩
        case measure => simp [intOf]; omega
    · have hi' : i = 64 := by omega
      have hout2 : out = wsFill bl i := by rw [hout, hm, hi']; simp [wsFill]
      have hR2 := (hb.block (n + 1) (by omega)).trans hR
      clear hR hB hW hout
      go_wp2_with (first | (refine wpList_load_row rfl 205 (.tmp 3) rfl (n + 1 + 1) rfl 205 _ (0, 0) _ hwr Tryd.underlying205 rfl ?hs ?_) | (refine wpList_store_row rfl 205 (.tmp 2) (.tmp 85) rfl (n + 1) (wcells (wsFill bl i)).toArray rfl rfl 205 _ hR2 ?hs2 ?ho (wcells_one _) ?_))
      case hs => rw [size148]; simp [wcells, wsFill_length bl i hi]
      case hs2 => rw [size148]; simp [wcells, wsFill_length bl i hi]
      case ho => simp [wcells, wsFill_length bl i hi]; rfl
      refine bodyPost_ret (results_cell_row rfl _ _ (n + 1) 205 _ (0, 0) _ rfl (setRow_heap _ _ _ _ _ _ hR2) Tryd.underlying205 rfl ?hs3) rfl ?_
      case hs3 => rw [size148]; simp [wcells, wsFill_length bl i hi]
      exact ⟨by rw [hout2], by rw [hn]; exact below_setRow (hbel.trans (hb.mono (by omega))) (by omega) _⟩
end Go.Proofs.YtecacjddggljgaaDoor.Sm
namespace Go.Proofs.YtecacjddggljgaaDoor.Sm
open Go.RowKit
theorem toNat_ofNat (n : Nat) (h : n < 256) : (UInt8.ofNat n).toNat = n := by
  rw [UInt8.toNat_ofNat']; omega

/-- The slice whose elements are the bytes bs. -/
def Bytes (w : World) (ao : Option Addr) (len : Nat) (bs : List UInt8) : Prop :=
  bs.length = len ∧ ∀ i c, bs[i]? = some c → ∃ x, ao = some x ∧ w.cell? (x.add i) = some (.int .u8 c.toNat)
theorem info5 : (Tryd.prog.info? 5).map (fun i => (i.zero, i.size, i.bytes)) = some (some (.int .u8 0), 1, 1) := by kernel_rfl
theorem cellsOf_length (bs : List UInt8) : (cellsOf bs).length = bs.length := by simp [cellsOf]
theorem cellsOf_append (a b : List UInt8) : cellsOf (a ++ b) = cellsOf a ++ cellsOf b := by simp [cellsOf]
theorem cellsOf_one (bs : List UInt8) : ∀ u ∈ cellsOf bs, u.oneCell' = true := by
  intro u hu
  simp only [cellsOf, List.mem_map] at hu
  obtain ⟨b, _, rfl⟩ := hu
  rfl
theorem cellsOf_at {bs : List UInt8} {j : Nat} {u : Value} (h : (cellsOf bs)[j]? = some u) : ∃ c, bs[j]? = some c ∧ u = .int .u8 c.toNat := by
  simp only [cellsOf, List.getElem?_map, Option.map_eq_some_iff] at h
  obtain ⟨c, hc, rfl⟩ := h
  exact ⟨c, hc, rfl⟩
theorem ownsRow_mono {w : World} {B B' : Nat} {e : TypeId} {size : Nat} {v : Value} {n : Nat} {xs : List Value} (h : w.ownsRow B e size v n xs) (hB : B' ≤ B) : w.ownsRow B' e size v n xs := by
  obtain ⟨h1, h2⟩ := h
  refine ⟨h1, ?_⟩
  rcases h2 with h2 | ⟨g, cap, cur, hv, hg, r⟩
  · exact .inl h2
  · exact .inr ⟨g, cap, cur, hv, by omega, r⟩
/-- A slice that is bs, and that may be appended to: it has no room, or is the call's own. -/
def Buf (w : World) (base : Nat) (v : Value) (bs : List UInt8) : Prop :=
  (∃ ao, v = .slice ao bs.length bs.length ∧ Bytes w ao bs.length bs) ∨ w.ownsRow base 5 1 v bs.length (cellsOf bs)
theorem Buf.alloc {w : World} {base : Nat} {v : Value} {bs : List UInt8} (h : Buf w base v bs) (o : Obj) : Buf (w.alloc o) base v bs := by
  rcases h with ⟨ao, hv, hl, hc⟩ | h
  · refine .inl ⟨ao, hv, hl, fun i c hi => ?_⟩
    obtain ⟨x, hx, hcell⟩ := hc i c hi
    refine ⟨x, hx, ?_⟩
    rw [← hcell]
    exact World.cell?_of_block (Below.heap_alloc _ _ _ (by have := World.block_lt_of_cell? w _ hcell; exact this))
  · exact .inr (h.alloc o)
theorem wpList_append_buf {ops : Array Oper} {rest : List Oper} {o : Oper} {a : Act} {Q : Exit → Act → World → Prop} (w : World)
    (hg : o.guard = none) (s x : Operand) (hop : o.op = Op.call { callee := Callee.builtin Builtin.append, args := #[s, x], argTypes := #[27, 27] })
    (base : Nat) (v : Value) (bs : List UInt8) (hs : a.eval s = v) (hbuf : Buf w base v bs) (hbase : base ≤ w.heap.size)
    (ad : Addr) (m c : Nat) (news : List UInt8) (hx : a.eval x = .slice (some ad) m c) (hn : news.length = m) (hm : 0 < m) (hc : ∀ j u, (cellsOf news)[j]? = some u → w.cell? (ad.add j) = some u)
    (hb : bs.length + m ≤ 140737488355328)
    (hK : ∀ v' w', w'.ownsRow base 5 1 v' (bs ++ news).length (cellsOf (bs ++ news)) → Below base w w' → wpList Tryd.prog ops Q rest (a.put o.dst v') w') :
    wpList Tryd.prog ops Q (o :: rest) a w := by
  obtain ⟨i0, hi, hz0, hz1, hz2⟩ := info_parts info5
  have hlen : (bs ++ news).length = bs.length + m := by simp [hn]
  rw [hlen] at hK
  simp only [cellsOf_append] at hK
  rcases hbuf with ⟨ao, hv, hl, hcells⟩ | hown
  · subst hv
    refine wpList_append_grows w hg s x 27 hop 5 i0 (.int .u8 0) 1 1 Tryd.underlying27 hi hz0 hz1 hz2 rfl (by decide) ao bs.length bs.length (cellsOf bs) hs ?_ (by rw [cellsOf_length]; omega) ?_ ad m c (cellsOf news) hx (by rw [cellsOf_length]; omega) hc (cellsOf_one news) (by omega) (by unfold maxLen; omega) (by omega) ?_
    · intro h0
      subst h0
      cases bs with
      | nil => simp
      | cons b t =>
        obtain ⟨x, hx, _⟩ := hcells 0 b (by simp)
        cases hx
    · intro b hb j u hu
      obtain ⟨c, hc, rfl⟩ := cellsOf_at hu
      obtain ⟨x, hx, hcell⟩ := hcells j c hc
      rw [hb] at hx
      cases hx
      exact hcell
    · intro v' w' h1 h2
      exact hK v' w' (ownsRow_mono h1 hbase) ((Below.refl _ _).grown h2 hbase (fun k hk => by cases hk))
  · refine wpList_append_own w hg s x 27 hop base 5 i0 (.int .u8 0) 1 1 Tryd.underlying27 hi hz0 hz1 hz2 rfl (by decide) v bs.length (cellsOf bs) hs hown ad m c (cellsOf news) hx (by rw [cellsOf_length]; omega) hc (cellsOf_one news) (by unfold maxLen; omega) (by omega) hbase ?_
    intro v' w' h1 h2 _
    exact hK v' w' h1 ((Below.refl _ _).grown h2 hbase (fun k hk => (hown.lt k hk).1))

theorem foldl_push (bs : List UInt8) : ∀ s : ByteArray, (bs.map (fun b => (b.toNat : Int))).foldl (fun r n => r.push (UInt8.ofNat n.toNat)) s = ⟨s.data ++ bs.toArray⟩ := by
  induction bs with
  | nil => intro s; simp
  | cons b t ih =>
    intro s
    rw [List.map_cons, List.foldl_cons, ih]
    have hb : UInt8.ofNat ((b.toNat : Int)).toNat = b := by simp
    rw [hb]
    show ByteArray.mk (s.data.push b ++ t.toArray) = _
    simp
theorem foldl_bytes (bs : List UInt8) : (bs.map (fun b => (b.toNat : Int))).foldl (fun r n => r.push (UInt8.ofNat n.toNat)) ByteArray.empty = ⟨bs.toArray⟩ := by
  rw [foldl_push]
  show ByteArray.mk (#[] ++ bs.toArray) = _
  simp
/-- 'string(b)'. -/
theorem str_bytes {w : World} {ao : Option Addr} {n : Nat} {bs : List UInt8} (cap : Nat) (h : Bytes w ao n bs) :
    (convert 27 9 (.slice ao n cap)).run Tryd.prog w = .ok (.string ⟨bs.toArray⟩) w := by
  rw [run_convert_bytes_string w 27 9 5 _ _ _ Tryd.underlying27 Tryd.underlying5 Tryd.underlying9]
  cases ao with
  | none =>
    have hb : bs = [] := by
      cases bs with
      | nil => rfl
      | cons b t =>
        obtain ⟨x, hx, _⟩ := h.2 0 b (by simp)
        cases hx
    subst hb
    simp [Conv.bytesToString]
    rfl
  | some x =>
    have hl := run_loadCells_list (P := Tryd.prog) (w := w) x (cellsOf bs) (fun j u hu => by
      obtain ⟨c, hc, rfl⟩ := cellsOf_at hu
      obtain ⟨y, hy, hcell⟩ := h.2 j c hc
      cases hy
      exact hcell)
    rw [cellsOf_length, h.1] at hl
    have e : cellsOf bs = (bs.map fun b => (b.toNat : Int)).map (Value.int .u8) := by simp [cellsOf]
    rw [e] at hl
    rw [run_bytesToString w x n cap _ hl, foldl_bytes]
theorem own_bytes {w : World} {base : Nat} {v : Value} {n : Nat} {bs : List UInt8} (h : w.ownsRow base 5 1 v n (cellsOf bs)) :
    ∃ ao cap, v = .slice ao n cap ∧ Bytes w ao n bs ∧ (ao = none → cap = 0) ∧ n ≤ cap ∧ cap ≤ maxLen ∧ n = bs.length ∧ (∀ x, ao = some x → base ≤ x.block ∧ x.block < w.heap.size) := by
  have hlen : n = bs.length := by have := h.1; rw [cellsOf_length] at this; omega
  rcases h.2 with ⟨rfl, h0⟩ | ⟨g, cap, cur, rfl, hb, hg, hn, hm, hs, ht⟩
  · subst h0
    have : bs = [] := List.eq_nil_of_length_eq_zero hlen.symm
    subst this
    exact ⟨none, 0, rfl, ⟨rfl, fun i c hi => by simp at hi⟩, fun _ => rfl, Nat.le_refl _, by simp [maxLen], rfl, fun x hx => by cases hx⟩
  · refine ⟨_, cap, rfl, ⟨hlen.symm, fun i c hi => ⟨_, rfl, ?_⟩⟩, fun h => (by cases h), hn, hm, hlen, fun x hx => ?_⟩
    · exact h.cells (g := g) rfl i _ (by simp [cellsOf, hi])
    · cases hx
      exact ⟨hb, (Array.getElem?_eq_some_iff.1 hg).1⟩
theorem bytes_below {w w' : World} {B : Nat} {ao : Option Addr} {n : Nat} {bs : List UInt8} (h : Bytes w ao n bs) (hb : Below B w w') (hB : ∀ x, ao = some x → x.block < B) : Bytes w' ao n bs := by
  refine ⟨h.1, fun i c hi => ?_⟩
  obtain ⟨x, hx, hc⟩ := h.2 i c hi
  refine ⟨x, hx, ?_⟩
  have hblk : (x.add i).block = x.block := by unfold Addr.add; split <;> rfl
  rw [hb.cell (p := x.add i) (by rw [hblk]; exact hB x hx)]
  exact hc
theorem bytes_nil (w : World) : Bytes w none 0 [] := ⟨rfl, fun i c hi => by simp at hi⟩

theorem bytes_kept {w w' : World} {B : Nat} {ao : Option Addr} {n : Nat} {bs : List UInt8} (h : Bytes w ao n bs) (hb : Below B w w') (hB : w.heap.size ≤ B) : Bytes w' ao n bs := by
  refine ⟨h.1, fun i c hi => ?_⟩
  obtain ⟨x, hx, hc⟩ := h.2 i c hi
  refine ⟨x, hx, ?_⟩
  have hlt := World.block_lt_of_cell? w _ hc
  rw [hb.cell (p := x.add i) (by omega)]
  exact hc
theorem bytes_take {w : World} {ao : Option Addr} {n : Nat} {bs : List UInt8} (h : Bytes w ao n bs) (k : Nat) (hk : k ≤ n) : Bytes w ao k (bs.take k) := by
  refine ⟨by rw [List.length_take, h.1]; omega, fun i c hi => ?_⟩
  rw [List.getElem?_take] at hi
  split at hi
  · exact h.2 i c hi
  · cases hi
theorem row_bytes {w : World} {a : Option Addr} {len cap : Nat} {zs : List Int}
    (h : (a = none ∧ len = 0 ∧ cap = 0 ∧ zs = []) ∨
      ∃ x, a = some x ∧ len ≤ cap ∧ cap ≤ maxLen ∧ zs.length = cap ∧ (∀ i, i < zs.length → w.cell? (x.add i) = some (.int .u8 (zs.getD i 0))) ∧ ∀ n ∈ zs, (Lit.int .u8 n).wf = true) :
    ∃ bs, Bytes w a len bs ∧ (a = none → cap = 0) ∧ len ≤ cap ∧ cap ≤ 9223372036854775807 := by
  rcases h with ⟨rfl, rfl, rfl, rfl⟩ | ⟨x, rfl, hl, hm, hz, hc, hw⟩
  · exact ⟨[], bytes_nil w, fun _ => rfl, Nat.le_refl _, by omega⟩
  · refine ⟨(zs.take len).map (fun z => UInt8.ofNat z.toNat), ⟨by simp; omega, fun i c hi => ⟨x, rfl, ?_⟩⟩, fun h => (by cases h), hl, by unfold maxLen at hm; omega⟩
    simp only [List.getElem?_map, Option.map_eq_some_iff] at hi
    obtain ⟨z, hz1, rfl⟩ := hi
    rw [List.getElem?_take] at hz1
    split at hz1
    · rename_i hil
      have hmem : z ∈ zs := List.mem_of_getElem? hz1
      have hb := bounds_u8 (hw z hmem)
      rw [hc i (by omega)]
      have hg : zs.getD i 0 = z := by rw [List.getD_eq_getElem?_getD, hz1]; rfl
      rw [hg, toNat_ofNat z.toNat (by omega), Int.toNat_of_nonneg hb.1]
    · cases hz1


/-- An empty slice that was written out. -/
theorem own_empty (w : World) : (w.alloc (.cells #[] 5)).ownsRow w.heap.size 5 1 (.slice (some ⟨w.heap.size, 0, none⟩) 0 0) 0 (cellsOf []) :=
  World.ownsRow_made w #[] 0 (Nat.le_refl _) (by unfold maxLen; omega) rfl
theorem bel_alloc (w : World) (o : Obj) : Below w.heap.size w (w.alloc o) := (Below.refl _ _).alloc (Nat.le_refl _) _

theorem own_shape {w : World} {base : Nat} {v : Value} {n : Nat} {xs : List Value} (h : w.ownsRow base 5 1 v n xs) (hn : 0 < n) :
    ∃ g c, v = .slice (some ⟨g, 0, none⟩) n c ∧ base ≤ g ∧ g < w.heap.size ∧ n ≤ c ∧ c ≤ 9223372036854775807 := by
  rcases h.2 with ⟨rfl, h0⟩ | ⟨g, cap, cur, rfl, hb, hg, hn, hm, hs, ht⟩
  · omega
  · exact ⟨g, cap, rfl, hb, (Array.getElem?_eq_some_iff.1 hg).1, hn, by unfold maxLen at hm; omega⟩
theorem own_below {w w' : World} {B base : Nat} {e : TypeId} {size : Nat} {v : Value} {n : Nat} {xs : List Value} (h : w.ownsRow base e size v n xs) (hb : Below B w w') (hB : w.heap.size ≤ B) : w'.ownsRow base e size v n xs := by
  refine ⟨h.1, ?_⟩
  rcases h.2 with hn | ⟨g, cap, cur, rfl, hbg, hg, r⟩
  · exact .inl hn
  · have hlt := (Array.getElem?_eq_some_iff.1 hg).1
    exact .inr ⟨g, cap, cur, rfl, hbg, by rw [hb.block g (by omega)]; exact hg, r⟩
theorem own_row_bytes {w : World} {base g m c : Nat} {bs : List UInt8} (h : w.ownsRow base 5 1 (.slice (some ⟨g, 0, none⟩) m c) m (cellsOf bs)) : Bytes w (some ⟨g, 0, none⟩) m bs := by
  obtain ⟨ao', c', he, hb', _⟩ := own_bytes h
  cases he
  exact hb'
theorem bytes_drew1 {w : World} {ao : Option Addr} {n : Nat} {bs : List UInt8} (h : Bytes w ao n bs) : Bytes w.drew ao n bs := bytes_kept h (Below.drew (Below.refl w.heap.size w)) (Nat.le_refl _)

end Go.Proofs.YtecacjddggljgaaDoor.Sm
namespace Go.Proofs.YtecacjddggljgaaDoor.Sm
open Go.RowKit
/-- Four bytes of a word, the highest first. -/
def word4 (x : UInt32) : List UInt8 := [UInt8.ofNat (x.toNat / 16777216), UInt8.ofNat (x.toNat / 65536 % 256), UInt8.ofNat (x.toNat / 256 % 256), UInt8.ofNat (x.toNat % 256)]
theorem splice_nil {α : Type} (C : List α) (o : Nat) : splice C o [] = C := by simp [splice]
theorem splice_cons {α : Type} (C : List α) (o : Nat) (v : α) (vs : List α) (h : o < C.length) : splice C o (v :: vs) = splice (C.set o v) (o + 1) vs := by
  unfold splice
  rw [List.drop_set_of_lt (by omega), List.take_add_one, List.take_set_of_le (by omega), List.getElem?_set_self h, show o + (v :: vs).length = o + 1 + vs.length by simp only [List.length_cons]; omega]
  simp
theorem set_list (w : World) (g i : Nat) (C : List Value) (t : TypeId) (v : Value) (hg : w.heap[g]? = some (.cells C.toArray t (0, 0))) : w.setCell ⟨g, i, none⟩ v = w.setRow g (C.set i v).toArray := by
  rw [setCell_eq_setRow w g i _ t (0, 0) v hg, List.setIfInBounds_toArray]
theorem set4 (w : World) (g o : Nat) (C : List Value) (t : TypeId) (v0 v1 v2 v3 : Value) (hg : w.heap[g]? = some (.cells C.toArray t (0, 0))) (hC : o + 4 ≤ C.length) :
    (((w.setCell ⟨g, o, none⟩ v0).setCell ⟨g, o + 1, none⟩ v1).setCell ⟨g, o + 2, none⟩ v2).setCell ⟨g, o + 3, none⟩ v3 = w.setRow g (splice C o [v0, v1, v2, v3]).toArray := by
  rw [set_list w g o C t v0 hg]
  rw [set_list _ g (o + 1) (C.set o v0) t v1 (setRow_heap w g _ _ t _ hg), setRow_setRow]
  rw [set_list _ g (o + 2) _ t v2 (setRow_heap w g _ _ t _ hg), setRow_setRow]
  rw [set_list _ g (o + 3) _ t v3 (setRow_heap w g _ _ t _ hg), setRow_setRow]
  rw [splice_cons _ _ _ _ (by omega), splice_cons _ _ _ _ (by simp; omega), splice_cons _ _ _ _ (by simp; omega), splice_cons _ _ _ _ (by simp; omega), splice_nil]
theorem word4_cells (x : UInt32) : cellsOf (word4 x) = [.int .u8 ((x.toNat : Int) / (16777216 : Int)), .int .u8 ((x.toNat : Int) / (65536 : Int) % (256 : Int)), .int .u8 ((x.toNat : Int) / (256 : Int) % (256 : Int)), .int .u8 ((x.toNat : Int) % (256 : Int))] := by
  have hx := x.toNat_lt
  simp only [cellsOf, word4, List.map_cons, List.map_nil]
  rw [toNat_ofNat _ (by omega), toNat_ofNat _ (by omega), toNat_ofNat _ (by omega), toNat_ofNat _ (by omega)]
  rfl
set_option maxRecDepth 100000 in
set_option maxHeartbeats 1000000 in
theorem putWord_any (g o len cap : Nat) (C : List Value) (ty : TypeId) (x : UInt32) (w : World) (hg : w.heap[g]? = some (.cells C.toArray ty (0, 0))) (hlen : 4 ≤ len) (hC : o + 4 ≤ C.length) :
    Calls Tryd.prog 138 #[.slice (some ⟨g, o, none⟩) len cap, .int .u32 x.toNat] w fun e w' => e = .returned (.tuple #[]) ∧ w' = w.setRow g (splice C o (cellsOf (word4 x))).toArray := by
  have hx := x.toNat_lt
  have l0 : (0 : Int) < (len : Int) := by omega
  have l1 : (1 : Int) < (len : Int) := by omega
  have l2 : (2 : Int) < (len : Int) := by omega
  have l3 : (3 : Int) < (len : Int) := by omega
  have c0 : w.cell? ⟨g, o, none⟩ = some (C[o]'(by omega)) := by rw [cell_of_row w g o _ _ _ hg]; simp
  have c1 : w.cell? ⟨g, o + 1, none⟩ = some (C[o + 1]'(by omega)) := by rw [cell_of_row w g (o + 1) _ _ _ hg]; simp
  have c2 : w.cell? ⟨g, o + 2, none⟩ = some (C[o + 2]'(by omega)) := by rw [cell_of_row w g (o + 2) _ _ _ hg]; simp
  have c3 : w.cell? ⟨g, o + 3, none⟩ = some (C[o + 3]'(by omega)) := by rw [cell_of_row w g (o + 3) _ _ _ hg]; simp
  have hfz : ∀ j, w.frozen? ⟨g, j, none⟩ = false := fun j => frozen_of_row w g j _ _ hg
  go_enter Tryd.func138, Tryd.ntmps138
  go_wp2
  go_end0
  rw [set4 w g o C ty _ _ _ _ hg hC, word4_cells]
  exact ⟨rfl, rfl⟩
/-- What stands behind a text of so many bytes. -/
def zerosOf (n : Nat) : Nat := (64 + 55 - n % 64) % 64
def closeB (n : Nat) : List UInt8 := 128 :: List.replicate (zerosOf n) 0 ++ (word4 (UInt32.ofNat (8 * n % 18446744073709551616 / 4294967296)) ++ word4 (UInt32.ofNat (8 * n % 4294967296)))
theorem closeB_length (n : Nat) : (closeB n).length = 1 + zerosOf n + 8 := by simp [closeB, word4]; omega
theorem splice_at {α : Type} (P R A : List α) (k : Nat) (hk : k = P.length) : splice (P ++ R) k A = P ++ (A ++ R.drop A.length) := by
  subst hk
  unfold splice
  rw [List.take_left', List.drop_append]
  · simp
  · rfl
theorem close_cells (n z : Nat) (hz : zerosOf n = z) : splice (splice ((cellsOf (List.replicate (1 + z + 8) 0)).set 0 (.int .u8 128)) (1 + z) (cellsOf (word4 (UInt32.ofNat (8 * n % 18446744073709551616 / 4294967296))))) (1 + z + 4) (cellsOf (word4 (UInt32.ofNat (8 * n % 4294967296)))) = cellsOf (closeB n) := by
  have h1 : (cellsOf (List.replicate (1 + z + 8) 0)).set 0 (.int .u8 128) = cellsOf (128 :: List.replicate z 0) ++ cellsOf (List.replicate 8 0) := by
    rw [← cellsOf_append, show 1 + z + 8 = (z + 8) + 1 by omega, List.replicate_succ, ← List.replicate_append_replicate]
    rfl
  rw [h1, splice_at _ _ _ _ (by simp [cellsOf]; omega), ← List.append_assoc, splice_at _ _ _ _ (by simp [cellsOf, word4]; omega)]
  subst hz
  simp [cellsOf, closeB, word4]
theorem made_zero (n : Nat) : (madeCells #[Value.int .u8 0] n).toList = cellsOf (List.replicate n 0) := by
  apply List.ext_getElem
  · simp [madeCells, cellsOf]
  · intro i h1 h2
    simp [madeCells, cellsOf, Nat.mod_one]
theorem own_block {w : World} {base g n : Nat} {xs : List Value} (h : w.ownsRow base 5 1 (.slice (some ⟨g, 0, none⟩) n n) n xs) : w.heap[g]? = some (.cells xs.toArray 5 (0, 0)) := by
  obtain ⟨hl, h | ⟨g', cap, cur, hv, _, hg, _, _, hs, ht⟩⟩ := h
  · exact absurd h.1 (by simp)
  · injection hv with h1 h2 h3
    injection h1 with h1
    injection h1 with h1
    subst h1; subst h3
    rw [hg, ← ht, List.take_of_length_le (by simp; omega)]
set_option maxRecDepth 100000 in
set_option maxHeartbeats 1000000 in
theorem closing_any (n : Nat) (w : World) :
    Calls Tryd.prog 137 #[.int .u64 n] w fun e w' => ∃ g m, e = .returned (.slice (some ⟨g, 0, none⟩) m m) ∧ m = (closeB n).length ∧ w.heap.size ≤ g ∧ w'.heap[g]? = some (.cells (cellsOf (closeB n)).toArray 5 (0, 0)) ∧ Below w.heap.size w w' := by
  obtain ⟨z, hz⟩ : ∃ z, zerosOf n = z := ⟨_, rfl⟩
  have hz64 : z < 64 := by rw [← hz]; unfold zerosOf; omega
  have hrem : (IntKind.u64.wrap (55 - (n : Int))).tmod 64 = (z : Int) := by
    rw [IntKind.wrap_u64, Int.tmod_eq_emod_of_nonneg (by omega), ← hz]; unfold zerosOf; omega
  have hw1 : IntKind.u64.wrap (1 + (z : Int)) = 1 + (z : Int) := by rw [IntKind.wrap_u64]; omega
  have hw2 : IntKind.u64.wrap (1 + (z : Int) + 8) = 1 + (z : Int) + 8 := by rw [IntKind.wrap_u64]; omega
  obtain ⟨x1, hhi, HX1⟩ : ∃ x1 : UInt32, IntKind.u64.wrap ((n : Int) * 8) / 4294967296 % 4294967296 = (x1.toNat : Int) ∧ Hid (x1 = UInt32.ofNat (8 * n % 18446744073709551616 / 4294967296)) :=
    ⟨_, by rw [IntKind.wrap_u64, UInt32.toNat_ofNat']; omega, rfl⟩
  obtain ⟨x2, hlo, HX2⟩ : ∃ x2 : UInt32, IntKind.u64.wrap ((n : Int) * 8) % 4294967296 = (x2.toNat : Int) ∧ Hid (x2 = UInt32.ofNat (8 * n % 4294967296)) :=
    ⟨_, by rw [IntKind.wrap_u64, UInt32.toNat_ofNat']; omega, rfl⟩
  have hw3 : IntKind.u64.wrap (1 + (z : Int) + 4) = 1 + (z : Int) + 4 := by rw [IntKind.wrap_u64]; omega
  obtain ⟨i0, hi, hz0, hz1, hz2⟩ := info_parts info5
  go_enter Tryd.func137, Tryd.ntmps137
  go_wp2_with (refine wpList_make_full w rfl (.tmp 11) (.tmp 11) 27 rfl w.heap.size 5 i0 (.int .u8 0) 1 Tryd.underlying27 hi hz0 hz1 .u64 .u64 _ _ (1 + z + 8) rfl rfl ?hL ?hL2 ?b2 ?b3 (Nat.le_refl _) ?_)
  case hL => omega
  case hL2 => omega
  case b2 => rw [hz2]; omega
  case b3 => unfold maxLen; omega
  intro w1 hown hgrow
  have hbel : Below w.heap.size w w1 := (Below.refl _ _).grown hgrow (Nat.le_refl _) (fun k hk => by cases hk)
  have hblk := own_block hown
  rw [made_zero] at hblk
  clear hown hgrow hi hz0 hz1 hz2
  generalize hgq : w.heap.size = g at *
  have c0 : w1.cell? ⟨g, 0, none⟩ = some (.int .u8 0) := by rw [cell_of_row w1 g 0 _ _ _ hblk]; simp [cellsOf]
  have hfz := frozen_of_row w1 g 0 _ _ hblk
  have e0 : (0 : Int) < ((1 + z + 8 : Nat) : Int) := by omega
  go_wp2_with fail
  rw [set_list w1 g 0 _ 5 _ hblk]
  refine (putWord_any g (1 + z) 8 8 _ 5 x1 _ (setRow_heap w1 g _ _ 5 _ hblk) (by omega) (by simp [cellsOf])).mono ?_
  rintro e w' ⟨rfl, rfl⟩
  rw [setRow_setRow]
  obtain ⟨C2, HC2⟩ : ∃ C2, Hid (C2 = splice ((cellsOf (List.replicate (1 + z + 8) 0)).set 0 (Value.int IntKind.u8 128)) (1 + z) (cellsOf (word4 x1))) := ⟨_, rfl⟩
  have hlen2 : C2.length = 1 + z + 8 := by
    rw [HC2.out, length_splice]
    · simp [cellsOf]
    · simp [cellsOf, word4]
  rw [← HC2.out]
  have hblk2 := setRow_heap w1 g _ C2.toArray 5 _ hblk
  have hbel2 : Below g w (w1.setRow g C2.toArray) := below_setRow hbel (Nat.le_refl _) _
  generalize hw2q : w1.setRow g C2.toArray = w2 at *
  clear hblk c0 hfz hw2q
  go_wp2_with fail
  refine (putWord_any g (1 + z + 4) 4 4 _ 5 x2 _ hblk2 (by omega) (by omega)).mono ?_
  rintro e w' ⟨rfl, rfl⟩
  have hblk3 := setRow_heap w2 g _ (splice C2 (1 + z + 4) (cellsOf (word4 x2))).toArray 5 _ hblk2
  have hbel3 : Below g w (w2.setRow g (splice C2 (1 + z + 4) (cellsOf (word4 x2))).toArray) := below_setRow hbel2 (Nat.le_refl _) _
  generalize w2.setRow g (splice C2 (1 + z + 4) (cellsOf (word4 x2))).toArray = w3 at *
  rw [HC2.out, HX1.out, HX2.out, close_cells n z hz, ← hgq] at hblk3
  rw [← hgq] at hbel3
  clear hblk2 hbel2 HC2 HX1 HX2 hlen2
  have HM : Hid (1 + z + 8 = (closeB n).length) := by show _ = _; rw [closeB_length, hz]
  go_wp2
  go_ret
  exact ⟨w.heap.size, 1 + z + 8, by rw [hgq]; rfl, HM.out, Nat.le_refl _, hblk3, hbel3⟩
end Go.Proofs.YtecacjddggljgaaDoor.Sm

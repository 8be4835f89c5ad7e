/-
  What sum.mixed answers: a contract over this translation.
-/
import Derived.Test.YtiimmknnlciljaaDoorSWords
namespace Go.Proofs.YtiimmknnlciljaaDoor.Sm
open Go.RowKit
theorem mixed_start (s : S8) (ws : List UInt32) (w w1 : World) (hK : WW w 0 ks) (hw : ws.length = 64) (h0 : 0 < w.heap.size)
   (hw1 : ((w.alloc (Obj.cells (wcells s.list).toArray 87)).alloc (Obj.cells (wcells ws).toArray 93)).alloc (Obj.cells #[Value.int IntKind.u32 0, Value.int IntKind.u32 0, Value.int IntKind.u32 0, Value.int IntKind.u32 0, Value.int IntKind.u32 0, Value.int IntKind.u32 0, Value.int IntKind.u32 0, Value.int IntKind.u32 0] 87) = w1) :
   Below w.heap.size w w1 ∧ w1.heap.size = w.heap.size + 3 ∧ w1.heap[w.heap.size]? = some (.cells (wcells s.list).toArray 87) ∧ WW w1 (w.heap.size + 1) ws ∧ WW w1 0 ks ∧
    w1.heap[w.heap.size + 1 + 1]? = some (.cells #[Value.int IntKind.u32 0, Value.int IntKind.u32 0, Value.int IntKind.u32 0, Value.int IntKind.u32 0, Value.int IntKind.u32 0, Value.int IntKind.u32 0, Value.int IntKind.u32 0, Value.int IntKind.u32 0] 87) := by
  have hb : Below w.heap.size w w1 := by
    rw [← hw1]
    exact (((Below.refl _ _).alloc (Nat.le_refl _) _).alloc (by simp) _).alloc (by simp; omega) _
  have h60 : w1.heap[w.heap.size + 1]? = some (.cells (wcells ws).toArray 93) := by
    rw [← hw1, heap_alloc_get, if_neg (by simp), heap_alloc_get, if_pos (by simp)]
  refine ⟨hb, ?_, ?_, WW_of_block hw h60, hK.below hb h0, ?_⟩
  · rw [← hw1]; simp
  · rw [← hw1, heap_alloc_get, if_neg (by simp; omega), heap_alloc_get, if_neg (by simp), heap_alloc_get, if_pos rfl]
  · rw [← hw1, heap_alloc_get, if_pos (by simp)]
set_option maxRecDepth 100000 in
set_option maxHeartbeats 1000000 in
theorem mixed_any (s : S8) (ws : List UInt32) (out : List UInt32) (m : Nat) (w : World) (hK : WW w 0 ks) (hw : ws.length = 64) (h0 : 0 < w.heap.size) (hm : m = 64) (hout : out = (s.add (rounds ws s m)).list) :
    Calls Tryd.prog 61 #[.agg (wcells s.list).toArray, .agg (wcells ws).toArray] w fun e w' => e = .returned (.agg (wcells out).toArray) ∧ Below w.heap.size w w' := by
  go_enter Tryd.func61, Tryd.ntmps61
  go_wp2_with fail
  generalize hw1 : ((w.alloc (Obj.cells (wcells s.list).toArray 87)).alloc (Obj.cells (wcells ws).toArray 93)).alloc (Obj.cells #[Value.int IntKind.u32 0, Value.int IntKind.u32 0, Value.int IntKind.u32 0, Value.int IntKind.u32 0, Value.int IntKind.u32 0, Value.int IntKind.u32 0, Value.int IntKind.u32 0, Value.int IntKind.u32 0] 87) = w1
  obtain ⟨hbel, hsz, hS, hW, hKK, hZ⟩ := mixed_start s ws w w1 hK hw h0 hw1
  clear hw1 hK
  generalize hn : w.heap.size = n at *
  have c0 : w1.cell? ⟨n, 0, none⟩ = some (.int .u32 s.a.toNat) := cell_of_row w1 n 0 _ _ _ hS
  have c1 : w1.cell? ⟨n, 1, none⟩ = some (.int .u32 s.b.toNat) := cell_of_row w1 n 1 _ _ _ hS
  have c2 : w1.cell? ⟨n, 2, none⟩ = some (.int .u32 s.c.toNat) := cell_of_row w1 n 2 _ _ _ hS
  have c3 : w1.cell? ⟨n, 3, none⟩ = some (.int .u32 s.d.toNat) := cell_of_row w1 n 3 _ _ _ hS
  have c4 : w1.cell? ⟨n, 4, none⟩ = some (.int .u32 s.e.toNat) := cell_of_row w1 n 4 _ _ _ hS
  have c5 : w1.cell? ⟨n, 5, none⟩ = some (.int .u32 s.f.toNat) := cell_of_row w1 n 5 _ _ _ hS
  have c6 : w1.cell? ⟨n, 6, none⟩ = some (.int .u32 s.g.toNat) := cell_of_row w1 n 6 _ _ _ hS
  have c7 : w1.cell? ⟨n, 7, none⟩ = some (.int .u32 s.h.toNat) := cell_of_row w1 n 7 _ _ _ hS
  go_quiet (fail)
  have hbelq : Below (n + 3) w1 (w1.drewN nq) := bel_drewN (Below.refl _ _) nq
  generalize hw2 : w1.drewN nq = w2 at *
  clear hw2 c0 c1 c2 c3 c4 c5 c6 c7
  go_wp2
  go_loopw [5, 6, 7, 8, 9, 10, 11, 12, 34] (fun a b c d e f g h t wr => ∃ i : Nat, i ≤ 64 ∧ t = .int .i64 i ∧ a = .int .u32 (rounds ws s i).a.toNat ∧ b = .int .u32 (rounds ws s i).b.toNat ∧ c = .int .u32 (rounds ws s i).c.toNat ∧ d = .int .u32 (rounds ws s i).d.toNat ∧ e = .int .u32 (rounds ws s i).e.toNat ∧ f = .int .u32 (rounds ws s i).f.toNat ∧ g = .int .u32 (rounds ws s i).g.toNat ∧ h = .int .u32 (rounds ws s i).h.toNat ∧ Below (n + 3) w2 wr) (fun _ _ _ _ _ _ _ _ t _ => (64 - intOf t).toNat)
  case atStart => exact ⟨0, by omega, rfl, rfl, rfl, rfl, rfl, rfl, rfl, rfl, rfl, Below.refl _ _⟩
  case round =>
    obtain ⟨i, hi, rfl, rfl, rfl, rfl, rfl, rfl, rfl, rfl, rfl, hb⟩ := hrel
    by_cases hi64 : i < 64
    · have hk := ((hKK.below hbelq (by omega)).below hb (by omega)) i hi64
      have hx := ((hW.below hbelq (by omega)).below hb (by omega)) i hi64
      generalize hr : rounds ws s i = r at *
      generalize hkk : ks.getD i 0 = kk at *
      generalize hww : ws.getD i 0 = ww at *
      have HR : Hid (rounds ws s (i + 1) = rnd r kk ww) := by show _ = _; rw [rounds, hr, hkk, hww]
      clear hr hkk hww hKK hW hS hZ
      go_wp2_with fail
      go_quiet (first | (go_at_call_of 72 (Value.int .i64 6); exact Calls.quiet_of_same (rotr_6 _ _)) | (go_at_call_of 72 (Value.int .i64 11); exact Calls.quiet_of_same (rotr_11 _ _)) | (go_at_call_of 72 (Value.int .i64 25); exact Calls.quiet_of_same (rotr_25 _ _)))
      have hb2 : Below (n + 3) w2 (wr.drewN nq) := bel_drewN hb nq
      generalize hw3 : wr.drewN nq = w3 at *
      clear hw3 hk hx
      go_wp2_with fail
      refine (rotr_2 _ _).mono ?_
      rintro e w' ⟨rfl, rfl⟩
      go_wp2_with fail
      refine (rotr_13 _ _).mono ?_
      rintro e w' ⟨rfl, rfl⟩
      go_wp2_with fail
      refine (rotr_22 _ _).mono ?_
      rintro e w' ⟨rfl, rfl⟩
      go_wp2
      go_roundw
      case rel =>
        refine ⟨i + 1, by omega, by go_num, ?_, ?_, ?_, ?_, ?_, ?_, ?_, ?_, hb2⟩
        all_goals rw [HR.out]
        all_goals try simp only [w_not, w_and, w_xor, w_add5, w_add]
        all_goals rfl
      case measure => simp [intOf]; omega
    · have hi' : i = 64 := by omega
      have hout2 : out = (s.add (rounds ws s i)).list := by rw [hout, hm, hi']
      have hS2 := ((hbelq.trans hb).block n (by omega)).trans hS
      have hZ2 := ((hbelq.trans hb).block (n + 1 + 1) (by omega)).trans hZ
      have c0 : wr.cell? ⟨n, 0, none⟩ = some (.int .u32 s.a.toNat) := cell_of_row wr n 0 _ _ _ hS2
      have c1 : wr.cell? ⟨n, 1, none⟩ = some (.int .u32 s.b.toNat) := cell_of_row wr n 1 _ _ _ hS2
      have c2 : wr.cell? ⟨n, 2, none⟩ = some (.int .u32 s.c.toNat) := cell_of_row wr n 2 _ _ _ hS2
      have c3 : wr.cell? ⟨n, 3, none⟩ = some (.int .u32 s.d.toNat) := cell_of_row wr n 3 _ _ _ hS2
      have c4 : wr.cell? ⟨n, 4, none⟩ = some (.int .u32 s.e.toNat) := cell_of_row wr n 4 _ _ _ hS2
      have c5 : wr.cell? ⟨n, 5, none⟩ = some (.int .u32 s.f.toNat) := cell_of_row wr n 5 _ _ _ hS2
      have c6 : wr.cell? ⟨n, 6, none⟩ = some (.int .u32 s.g.toNat) := cell_of_row wr n 6 _ _ _ hS2
      have c7 : wr.cell? ⟨n, 7, none⟩ = some (.int .u32 s.h.toNat) := cell_of_row wr n 7 _ _ _ hS2
      generalize hr : rounds ws s i = r at *
      clear hS2 hS hZ hKK hW hout hr
      go_wp2_with (refine wpList_store_row rfl 87 (.tmp 4) (.tmp 131) rfl (n + 1 + 1) (wcells (s.add r).list).toArray rfl ?hy 87 _ hZ2 size141 rfl (wcells_one _) ?_)
      case hy => simp only [w_add]; rfl
      refine bodyPost_ret (results_cell_row rfl _ _ (n + 1 + 1) 87 _ (0, 0) _ rfl (setRow_heap _ _ _ _ _ _ hZ2) Tryd.underlying87 rfl size141) rfl ?_
      exact ⟨by rw [hout2], by rw [hn]; exact below_setRow (hbel.trans ((hbelq.trans hb).mono (by omega))) (by omega) _⟩
end Go.Proofs.YtiimmknnlciljaaDoor.Sm

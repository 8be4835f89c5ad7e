/-
  What marlstonelaw02.shown answers: a contract over this translation.
-/
import Derived.Test.YtdlkaeegcagkpaaDoorKept
import Derived.Test.YtdlkaeegcagkpaaDoorHex
import Derived.Lib.SlBytesConst
import Derived.Stop.BytesEq
namespace Go.Proofs.YtdlkaeegcagkpaaDoor
open Go.RowKit
set_option maxRecDepth 100000 in
theorem sha_nil : shaB [] = [0xe3, 0xb0, 0xc4, 0x42, 0x98, 0xfc, 0x1c, 0x14, 0x9a, 0xfb, 0xf4, 0xc8, 0x99, 0x6f, 0xb9, 0x24, 0x27, 0xae, 0x41, 0xe4, 0x64, 0x9b, 0x93, 0x4c, 0xa4, 0x95, 0x99, 0x1b, 0x78, 0x52, 0xb8, 0x55] := by decide +kernel
set_option maxRecDepth 100000 in
theorem sha_abc : shaB [97, 98, 99] = [0xba, 0x78, 0x16, 0xbf, 0x8f, 0x01, 0xcf, 0xea, 0x41, 0x41, 0x40, 0xde, 0x5d, 0xae, 0x22, 0x23, 0xb0, 0x03, 0x61, 0xa3, 0x96, 0x17, 0x7a, 0x9c, 0xb4, 0x10, 0xff, 0x61, 0xf2, 0x00, 0x15, 0xad] := by decide +kernel
set_option maxRecDepth 100000 in
theorem kept_abc : keptB [0xba, 0x78, 0x16, 0xbf, 0x8f, 0x01, 0xcf, 0xea, 0x41, 0x41, 0x40, 0xde, 0x5d, 0xae, 0x22, 0x23, 0xb0, 0x03, 0x61, 0xa3, 0x96, 0x17, 0x7a, 0x9c, 0xb4, 0x10, 0xff, 0x61, 0xf2, 0x00, 0x15, 0xad] 4 32 = 0xb0 :: List.replicate 31 0 := by decide +kernel
set_option maxRecDepth 100000 in
theorem crc_nine : crcB [49, 50, 51, 52, 53, 54, 55, 56, 57] = 0xcbf43926 := by decide +kernel
theorem three_abc (w : World) : Bytes (w.alloc (.cells #[.int .u8 97, .int .u8 98, .int .u8 99] 5 (3, 4))) (some ⟨w.heap.size, 0, none⟩) 3 [97, 98, 99] :=
  block_bytes (bs := [97, 98, 99]) (heap_alloc_new _ _)
theorem nine_bytes (w : World) : Bytes (w.alloc (.cells #[.int .u8 49, .int .u8 50, .int .u8 51, .int .u8 52, .int .u8 53, .int .u8 54, .int .u8 55, .int .u8 56, .int .u8 57] 5 (9, 10))) (some ⟨w.heap.size, 0, none⟩) 9 [49, 50, 51, 52, 53, 54, 55, 56, 57] :=
  block_bytes (bs := [49, 50, 51, 52, 53, 54, 55, 56, 57]) (heap_alloc_new _ _)
theorem guard25 : Tryd.prog.eqGuardType Tryd.prog.depth 25 = false := by kernel_rfl
theorem sizeOf5 (w : World) : (sizeOf 5).run Tryd.prog w = .ok 1 w := by
  obtain ⟨i0, hi, hz0, hz1, hz2⟩ := info_parts info5
  simp [sizeOf, typeInfo, hi, hz1]
theorem run_eq_dig (xs ys : List UInt8) (hx : xs.length = 32) (hy : ys.length = 32) (w : World) : (binOp .eql 25 (.agg (cellsOf xs).toArray) (.agg (cellsOf ys).toArray)).run Tryd.prog w = .ok (.bool (xs == ys)) w :=
  run_eql_bytes w 25 5 32 Tryd.underlying25 Tryd.underlying5 sizeOf5 xs ys hx hy
theorem run_ne_dig (xs ys : List UInt8) (hx : xs.length = 32) (hy : ys.length = 32) (w : World) : (binOp .neq 25 (.agg (cellsOf xs).toArray) (.agg (cellsOf ys).toArray)).run Tryd.prog w = .ok (.bool (!(xs == ys))) w := by
  rw [run_neq_struct, show (cellsOf xs).toArray = (xs.map Extern.Stop.cell).toArray from rfl, show (cellsOf ys).toArray = (ys.map Extern.Stop.cell).toArray from rfl, run_equalIn_bytes w 9998 25 5 32 Tryd.underlying25 Tryd.underlying5 sizeOf5 xs ys hx hy]
  rfl
theorem built25 : Tryd.prog.built 25 [(0, Value.int .u8 176)] = some (cellsOf (0xb0 :: List.replicate 31 0)).toArray := by kernel_rfl
theorem run_load25 {w : World} {q : Nat} {B : Array Value} {fr : Nat × Nat} (h : w.heap[q]? = some (.cells B 25 fr)) (hs : B.size = 32) : (Instr.loadAt 25 (.pointer (some ⟨q, 0, none⟩))).run Tryd.prog w = .ok (.agg B) w := by
  simp only [Instr.loadAt, Instr.sureAddr, Sem.run_bind, Sem.run_pure, Result.andThen_ok]
  exact run_loadVar_row _ _ 25 25 B fr _ h Tryd.underlying25 rfl (by rw [size25, hs])
theorem wpList_load_rowG {P : Program} {ops : Array Oper} {rest : List Oper} {o : Oper} {a : Act} {w : World} {Q : Exit → Act → World → Prop} (hw : Region.wanted o (yielded ops a.tmps) = true) (ty : TypeId) (x : Operand) (ho : o.op = .load ty x)
    (g : Nat) (hx : a.eval x = .pointer (some ⟨g, 0, none⟩)) (t : TypeId) (cs : Array Value) (fr : Nat × Nat) (d : TypeDesc) (hg : w.heap[g]? = some (.cells cs t fr))
    (hu : P.underlying ty = some d) (hd : (match d with | .struct _ | .array _ _ => true | _ => false) = true) (hi : (P.info? ty).map (·.size) = some cs.size)
    (h : wpList P ops Q rest (a.put o.dst (.agg cs)) w) : wpList P ops Q (o :: rest) a w :=
  BigFrame.wpList_want hw fun _ hK => wp_load_row ty x ho g hx t cs fr d hg hu hd hi (hK _ _ h)
theorem eq_b0 (w : World) : (Op.equalIn 10000 25 (.agg (cellsOf (0xb0 :: List.replicate 31 0)).toArray) (.agg #[.int .u8 176, .int .u8 0, .int .u8 0, .int .u8 0, .int .u8 0, .int .u8 0, .int .u8 0, .int .u8 0, .int .u8 0, .int .u8 0, .int .u8 0, .int .u8 0, .int .u8 0, .int .u8 0, .int .u8 0, .int .u8 0, .int .u8 0, .int .u8 0, .int .u8 0, .int .u8 0, .int .u8 0, .int .u8 0, .int .u8 0, .int .u8 0, .int .u8 0, .int .u8 0, .int .u8 0, .int .u8 0, .int .u8 0, .int .u8 0, .int .u8 0, .int .u8 0])).run Tryd.prog w = .ok true w :=
  (run_equalIn_bytes w 9998 25 5 32 Tryd.underlying25 Tryd.underlying5 sizeOf5 (0xb0 :: List.replicate 31 0) (0xb0 :: List.replicate 31 0) rfl rfl).trans (by simp)
def digs0 : List UInt8 := [101, 51, 98, 48, 99, 52, 52, 50, 57, 56, 102, 99, 49, 99, 49, 52, 57, 97, 102, 98, 102, 52, 99, 56, 57, 57, 54, 102, 98, 57, 50, 52, 50, 55, 97, 101, 52, 49, 101, 52, 54, 52, 57, 98, 57, 51, 52, 99, 97, 52, 57, 53, 57, 57, 49, 98, 55, 56, 53, 50, 98, 56, 53, 53]
def digs1 : List UInt8 := [98, 97, 55, 56, 49, 54, 98, 102, 56, 102, 48, 49, 99, 102, 101, 97, 52, 49, 52, 49, 52, 48, 100, 101, 53, 100, 97, 101, 50, 50, 50, 51, 98, 48, 48, 51, 54, 49, 97, 51, 57, 54, 49, 55, 55, 97, 57, 99, 98, 52, 49, 48, 102, 102, 54, 49, 102, 50, 48, 48, 49, 53, 97, 100]
theorem hex_nil : hexB [0xe3, 0xb0, 0xc4, 0x42, 0x98, 0xfc, 0x1c, 0x14, 0x9a, 0xfb, 0xf4, 0xc8, 0x99, 0x6f, 0xb9, 0x24, 0x27, 0xae, 0x41, 0xe4, 0x64, 0x9b, 0x93, 0x4c, 0xa4, 0x95, 0x99, 0x1b, 0x78, 0x52, 0xb8, 0x55] = digs0 := by decide +kernel
theorem hex_abc : hexB [0xba, 0x78, 0x16, 0xbf, 0x8f, 0x01, 0xcf, 0xea, 0x41, 0x41, 0x40, 0xde, 0x5d, 0xae, 0x22, 0x23, 0xb0, 0x03, 0x61, 0xa3, 0x96, 0x17, 0x7a, 0x9c, 0xb4, 0x10, 0xff, 0x61, 0xf2, 0x00, 0x15, 0xad] = digs1 := by decide +kernel
set_option maxRecDepth 100000 in
set_option maxHeartbeats 4000000 in
theorem shown_any (w : World) (hK : WW w 0 ks) (h0 : 0 < w.heap.size) : Calls Tryd.prog 9 #[] w fun e w' => e = .returned (.bool true) ∧ Below w.heap.size w w' := by
  obtain ⟨s0, HS0⟩ : ∃ s0, Hid (s0 = hexB (shaB [])) := ⟨_, rfl⟩
  obtain ⟨s1, HS1⟩ : ∃ s1, Hid (s1 = hexB (shaB [97, 98, 99])) := ⟨_, rfl⟩
  obtain ⟨k1, HK1⟩ : ∃ k1, Hid (k1 = keptB (shaB [97, 98, 99]) (min (max (4 : Int) 0) 256).toNat 32) := ⟨_, rfl⟩
  obtain ⟨c1, HC1⟩ : ∃ c1, Hid (c1 = crcB [49, 50, 51, 52, 53, 54, 55, 56, 57]) := ⟨_, rfl⟩
  obtain ⟨d0, HD0⟩ : ∃ d0, Hid (d0 = shaB []) := ⟨_, rfl⟩
  obtain ⟨d1, HD1⟩ : ∃ d1, Hid (d1 = shaB [97, 98, 99]) := ⟨_, rfl⟩
  have hd0 : d0.length = 32 := by rw [HD0.out]; exact shaB_length _
  have hd1 : d1.length = 32 := by rw [HD1.out]; exact shaB_length _
  have kc := fun (w : World) (C : Array Value) (n c : Nat) => Lib.run_convert_bytes_const (P := Tryd.prog) w 22 5 C n c Tryd.underlying22 Tryd.underlying5
  go_enter Tryd.func9, Tryd.ntmps9
  go_wp2_with fail
  refine (of_any none 0 0 [] w (bytes_nil w) (Nat.le_refl _) (by omega) hK h0).mono ?_
  rintro e w1 ⟨rfl, hb1⟩
  rw [← HD0.out]
  have hs1 := hb1.size
  have hK1 := hK.below hb1 h0
  go_wp2_with fail
  refine (hex_any d0 w1 hd0).mono ?_
  rintro e w2 ⟨rfl, hb2⟩
  rw [HD0.out, ← HS0.out]
  have hs2 := hb2.size
  have hK2 := hK1.below hb2 (by omega)
  have hbw2 : Below w.heap.size w w2 := hb1.trans (hb2.mono (by omega))
  clear hK1 hb1 hb2 HD0 hd0 hK
  go_wp2_with fail
  refine (of_any _ 3 3 [97, 98, 99] _ (three_abc w2) (Nat.le_refl _) (by omega) (hK2.below (bel_alloc _ _) (by omega)) (by simp)).mono ?_
  rintro e w3 ⟨rfl, hb3⟩
  rw [← HD1.out]
  have hbx3 : Below w2.heap.size w2 w3 := (bel_alloc _ _).trans (hb3.mono (by simp))
  have hs3 := hbx3.size
  have hK3 := hK2.below hbx3 (by omega)
  have hbw3 : Below w.heap.size w w3 := hbw2.trans (hbx3.mono (by omega))
  clear hb3 hbx3 hK2 hbw2
  go_wp2_with fail
  refine (hex_any d1 w3 hd1).mono ?_
  rintro e w4 ⟨rfl, hb4⟩
  rw [HD1.out, ← HS1.out]
  have hs4 := hb4.size
  have hK4 := hK3.below hb4 (by omega)
  have hbw4 : Below w.heap.size w w4 := hbw3.trans (hb4.mono (by omega))
  clear hb4 hK3 hbw3
  go_wp2_with fail
  refine (kept_any _ 3 3 [97, 98, 99] 4 _ (three_abc w4) (Nat.le_refl _) (by omega) (hK4.below (bel_alloc _ _) (by omega)) (by simp) (by omega) (by omega)).mono ?_
  rintro e w5 ⟨rfl, hb5⟩
  rw [← HK1.out]
  have hbx5 : Below w4.heap.size w4 w5 := (bel_alloc _ _).trans (hb5.mono (by simp))
  have hs5 := hbx5.size
  have hK5 := hK4.below hbx5 (by omega)
  have hbw5 : Below w.heap.size w w5 := hbw4.trans (hbx5.mono (by omega))
  have hk1 : k1.length = 32 := by rw [HK1.out, keptB_length, shaB_length]
  have hk1o : (cellsOf k1).toArray.all (·.oneCell') = true := all_oneCell_toArray (cellsOf_one _)
  clear hb5 hbx5 hK4 hbw4
  go_wp2_with (refine wpList_store_to rfl 25 (.tmp 3) (.tmp 13) rfl w5.heap.size (cellsOf k1).toArray rfl rfl 25 (cellsOf (List.replicate 32 0)).toArray ?hz ?hzs ?hzo hk1o ?_)
  case hz => exact heap_alloc_new _ _
  case hzs => rw [size25, List.size_toArray, cellsOf_length, hk1]
  case hzo => simp [cellsOf, hk1]
  intro w6 hblk6 hchg6
  have hbx6 : Below w5.heap.size w5 w6 := (bel_alloc _ _).trans (hchg6.below (Nat.le_refl _) (by simp))
  have hs6 : w5.heap.size + 1 ≤ w6.heap.size := by have := hchg6.size; simpa using this
  have hK6 := hK5.below hbx6 (by omega)
  have hbw6 : Below w.heap.size w w6 := hbw5.trans (hbx6.mono (by omega))
  clear hchg6 hbx6 hK5 hbw5 hk1o
  generalize hq : w5.heap.size = q at *
  go_wp2_with fail
  refine (new_any w6).mono ?_
  rintro e w7 ⟨b, rfl, hb7, hb7s, hH7, hbel7⟩
  have hK7 := hK6.below hbel7 (by omega)
  have hbw7 : Below w.heap.size w w7 := hbw6.trans (hbel7.mono (by omega))
  have hblk7 := (hbel7.block q (by omega)).trans hblk6
  have hs7 := hbel7.size
  clear hbel7 hK6 hbw6 hblk6
  go_wp2_with fail
  refine (write_any b [] [97, 98, 99] _ 3 3 _ ⟨hH7.choose, hH7.choose_spec.1, (heap_alloc_old _ _ hb7s).trans hH7.choose_spec.2⟩ (three_abc w7) (fun x hx => by cases hx; simp only; omega) (Nat.le_refl _) (by omega) (hK7.below (bel_alloc _ _) (by omega)) (by omega) (by simp; omega) (by simp)).mono ?_
  rintro e w8 ⟨rfl, hH8, hchg8⟩
  rw [List.nil_append] at hH8
  have hchg78 : Chg b w7 w8 := ((Chg.refl b w7).bel (bel_alloc _ _) (Nat.le_refl _)).trans hchg8
  have hs8 := hchg78.size
  have hK8 := hK7.chg hchg78 (by omega) (by omega)
  have hblk8 := (hchg78.block q (by omega) (by omega)).trans hblk7
  have hbw8 : Below w.heap.size w w8 := hbw7.trans (hchg78.below (by omega) (by omega))
  clear hchg8 hchg78 hK7 hblk7 hbw7 hH7
  have hs0v : s0 = digs0 := by rw [HS0.out, sha_nil]; exact hex_nil
  have hs1v : s1 = digs1 := by rw [HS1.out, sha_abc]; exact hex_abc
  subst hs0v
  subst hs1v
  have hk1v : k1 = 0xb0 :: List.replicate 31 0 := by rw [HK1.out, sha_abc]; exact kept_abc
  have hg25 := guard25
  obtain ⟨B, HB⟩ : ∃ B, Hid (B = (cellsOf k1).toArray) := ⟨_, rfl⟩
  have hBs : B.size = 32 := by rw [HB.out, List.size_toArray, cellsOf_length, hk1]
  have heq : ∀ w, (Op.equalIn 10000 25 (.agg B) (.agg #[.int .u8 176, .int .u8 0, .int .u8 0, .int .u8 0, .int .u8 0, .int .u8 0, .int .u8 0, .int .u8 0, .int .u8 0, .int .u8 0, .int .u8 0, .int .u8 0, .int .u8 0, .int .u8 0, .int .u8 0, .int .u8 0, .int .u8 0, .int .u8 0, .int .u8 0, .int .u8 0, .int .u8 0, .int .u8 0, .int .u8 0, .int .u8 0, .int .u8 0, .int .u8 0, .int .u8 0, .int .u8 0, .int .u8 0, .int .u8 0, .int .u8 0, .int .u8 0])).run Tryd.prog w = .ok true w := fun w => by
    rw [HB.out, hk1v]; exact eq_b0 w
  rw [← HB.out] at hblk8
  clear hk1v HB HK1 hk1
  go_wp2_with (first | (refine wpList_load_rowG rfl 25 (.tmp 3) rfl q rfl 25 B (0, 0) _ hblk8 Tryd.underlying25 rfl ?hl ?_))
  case hl => rw [size25, hBs]
  clear heq hblk8 hBs hg25
  refine (crc_any _ 9 9 [49, 50, 51, 52, 53, 54, 55, 56, 57] _ (nine_bytes w8) (by omega)).mono ?_
  rintro e w9 ⟨rfl, rfl⟩
  rw [crc_nine]
  generalize hw9 : w8.alloc _ = w9
  have hbel9 : Below w8.heap.size w8 w9 := by rw [← hw9]; exact bel_alloc _ _
  clear hw9
  have hs9 := hbel9.size
  have hH9 : HH w9 b [97, 98, 99] := ⟨hH8.choose, hH8.choose_spec.1, (hbel9.block b (by omega)).trans hH8.choose_spec.2⟩
  have hK9 := hK8.below hbel9 (by omega)
  have hbw9 : Below w.heap.size w w9 := hbw8.trans (hbel9.mono (by omega))
  clear hbw8 hK8 hH8 hbel9
  go_wp2_with fail
  refine (sum_any b [97, 98, 99] w9 hH9 hK9 (by omega) (by omega) (by simp)).mono ?_
  rintro e w10 ⟨rfl, hbel10⟩
  have hbw10 : Below w.heap.size w w10 := hbw9.trans (hbel10.mono (by omega))
  have hs10 := hbel10.size
  clear hbw9 hH9 hK9 hbel10
  rw [← HD1.out]
  go_wp2_with fail
  refine (hex_any d1 w10 hd1).mono ?_
  rintro e w11 ⟨rfl, hbel11⟩
  have hbw11 : Below w.heap.size w w11 := hbw10.trans (hbel11.mono (by omega))
  rw [HD1.out, sha_abc, hex_abc]
  clear hbw10 hbel11
  go_wp2
  go_ret
  exact ⟨rfl, hbw11⟩
end Go.Proofs.YtdlkaeegcagkpaaDoor

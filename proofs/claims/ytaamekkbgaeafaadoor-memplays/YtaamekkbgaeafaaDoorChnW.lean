/-
  MemChains: the walk.
-/
import Derived.Test.YtaamekkbgaeafaaDoorChnM
import Derived.Stop.BytesEq
import Derived.Deep.RegionHeld3
namespace Go.Proofs.YtaamekkbgaeafaaDoor
open Go.RowKit
set_option linter.unusedSectionVars false
set_option linter.unusedVariables false
variable [Inhabited E] [DecidableEq E]
theorem equal_dig (x : List UInt8) (hx : x.length = 32) (w : World) : (Op.equalIn 10000 42 (.agg (cellsOf x).toArray) (.agg (cellsOf x).toArray)).run Tryd.prog w = .ok true w := by
  have := run_equalIn_bytes (P := Tryd.prog) w 9998 42 5 32 Tryd.underlying42 Tryd.underlying5 Tryd.sizeOf5 x x hx hx
  rw [show (x == x) = true by simp] at this
  exact this
theorem guard42 : Tryd.prog.eqGuardType Tryd.prog.depth 42 = false := by kernel_rfl
set_option maxRecDepth 100000 in
set_option maxHeartbeats 4000000 in
theorem chains_walk (ao : Option Addr) (n c : Nat) (es : List E) (kb vb : ByteArray) (db : Bool) (qb0 : Int) (w : World) (hE : EntsV w ao n es) (hS : Small es) (hnc : n ≤ c) (hc : c ≤ 9223372036854775807) (skb : kb.size ≤ 9223372036854775807) (svb : vb.size ≤ 9223372036854775807) (hK : KK w) :
    Calls Tryd.prog 5 #[.slice ao n c, .agg #[.string kb, .string vb, .bool db, .int .i64 qb0]] w fun e w' => e = .returned (.bool true) ∧ Below w.heap.size w w' := by
  have hk2 := hK.2
  obtain ⟨B, HB⟩ : ∃ B, Hid (w.heap.size = B) := ⟨_, rfl⟩
  rw [HB.out] at hk2
  rw [HB.out]
  have HE : Hid (∀ W, Below B w W → EntsV W ao n es) := fun W hW => hE.below hW (by rw [HB.out]; exact Nat.le_refl _)
  obtain ⟨W0, hW0⟩ : ∃ W0, W0 = w.alloc (Obj.cells #[Value.string kb, Value.string vb, Value.bool db, Value.int IntKind.i64 qb0] 29) := ⟨_, rfl⟩
  have hbW0 : Below B w W0 := by rw [hW0, ← HB.out]; exact bel_alloc w _
  have hK0 : KK W0 := by rw [hW0]; exact hK.below (bel_alloc w _) hK.2
  have b0 : W0.heap[B]? = some (.cells #[Value.string kb, Value.string vb, Value.bool db, Value.int IntKind.i64 qb0] 29) := by rw [hW0, ← HB.out]; exact heap_alloc_new w _
  have hs0 : W0.heap.size = B + 1 := by rw [hW0, ← HB.out]; simp
  clear hE hK
  go_enter Tryd.func5, Tryd.ntmps5
  go_wp2_with fail
  rw [← hW0]
  clear hW0
  refine (shown_any W0 hK0).mono ?_
  rintro e w1 ⟨rfl, hb1, hk1⟩
  rw [hs0] at hb1
  have hs1 : B + 1 ≤ w1.heap.size := by have := hb1.size; omega
  go_wp2_with fail
  refine (new_fr (B + 1) w1 hk1 hs1 (by omega)).mono ?_
  rintro e w2 ⟨ga, rfl, hMa, hb2, hk2x⟩
  have hs2 : B + 1 ≤ w2.heap.size := Nat.le_trans hs1 hb2.size
  go_wp2_with fail
  refine (new_mem w2 hk2x).mono ?_
  rintro e w3 ⟨gb, rfl, hMb, hb3⟩
  have hk3 : KK w3 := hk2x.below hb3 hk2x.2
  have hT3 : Two (B + 1) w3 ga gb mm0 mm0 (here (Fr (B + 1)) w2) (here (fun k => w2.heap.size ≤ k) w3) := by
    refine ⟨(hMa.now).grown hb3, hMb.now, fun k hk => ⟨hk.1, Nat.lt_of_lt_of_le hk.2 hb3.size⟩, fun k hk => ⟨Nat.le_trans hs2 hk.1, hk.2⟩, fun k hk hk2 => ?_⟩
    have := hk.2; have := hk2.1; omega
  have b3 : w3.heap[B]? = some (.cells #[Value.string kb, Value.string vb, Value.bool db, Value.int IntKind.i64 qb0] 29) := by rw [hb3.block B (by omega), hb2.block B (by omega), hb1.block B (by omega)]; exact b0
  have hb3w : Below B w w3 := hbW0.trans ((hb1.mono (by omega)).trans ((hb2.mono (by omega)).trans (hb3.mono (by omega))))
  have hs3 : B + 1 ≤ w3.heap.size := Nat.le_trans hs2 hb3.size
  clear hMa hMb hb1 hb2 hb3 hbW0 hK0 b0 hs0 hk1 hk2x hs1 hs2
  generalize here (Fr (B + 1)) w2 = oa at hT3
  generalize here (fun k => w2.heap.size ≤ k) w3 = ob at hT3
  have hpf : putN mm0 ⟨⟨#[102, 105, 114, 115, 116]⟩, ⟨#[]⟩, false, 1⟩ = 0 := putN_ok (by decide) (by decide) (by decide)
  have hpm := put_mem oa ga mm0 ⟨#[102, 105, 114, 115, 116]⟩ ⟨#[]⟩ false 1 w3 hT3.ma hk3 (fun e => by have := (hT3.la 1 e).1; omega) (by decide) (by decide)
  rw [putA_ok hpf, hpf] at hpm
  go_wp2_with fail
  refine hpm.mono ?_
  rintro e w4 ⟨rfl, hm4, ho4⟩
  obtain ⟨oa4, hT4, hoa4⟩ := hT3.stepA hm4 ho4 (by omega)
  have hk4 : KK w4 := hk3.only ho4 (fun e => by have := (hT3.la 1 e).1; omega)
  have b4 : w4.heap[B]? = some (.cells #[Value.string kb, Value.string vb, Value.bool db, Value.int IntKind.i64 qb0] 29) := (ho4.block B (by omega) (fun e => by have := (hT3.la B e).1; omega)).trans b3
  have hb4w : Below B w w4 := hb3w.trans (ho4.below (fun k hk => by have := (hT3.la k hk).1; omega) (by omega))
  have hs4 := Nat.le_trans hs3 ho4.size
  clear hpm hm4 ho4 hT3 hk3 b3 hb3w hs3 hoa4 hpf
  go_wp2_with fail
  refine (clear_any oa4 ga _ w4 hT4.ma hk4 (fun e => by have := (hT4.la 1 e).1; omega)).mono ?_
  rintro e w5 ⟨rfl, hm5, ho5⟩
  obtain ⟨oa5, hT5, hoa5⟩ := hT4.stepA (hm5.mono (fun k _ e => .inl e)) ho5 (by omega)
  have hk5 : KK w5 := hk4.only ho5 (fun e => by have := (hT4.la 1 e).1; omega)
  have b5 : w5.heap[B]? = some (.cells #[Value.string kb, Value.string vb, Value.bool db, Value.int IntKind.i64 qb0] 29) := (ho5.block B (by omega) (fun e => by have := (hT4.la B e).1; omega)).trans b4
  have hb5w : Below B w w5 := hb4w.trans (ho5.below (fun k hk => by have := (hT4.la k hk).1; omega) (by omega))
  have hs5 := Nat.le_trans hs4 ho5.size
  clear hm5 ho5 hT4 hk4 b4 hb4w hs4 hoa5
  have HQ : Hid (∀ w, (Op.equalIn 10000 42 (.agg (cellsOf noneB).toArray) (.agg (cellsOf noneB).toArray)).run Tryd.prog w = .ok true w) := equal_dig noneB noneB_len
  obtain ⟨D0, HD0⟩ : ∃ D0, Hid ((cellsOf noneB).toArray = D0) := ⟨_, rfl⟩
  rw [HD0.out] at HQ
  have hq0 := HQ.out
  have hgd := guard42
  have hca := chain_any oa5 ga _ w5 hT5.ma
  rw [show (cellsOf (Mm.ch ⟨[], 1, noneB⟩)).toArray = D0 from HD0.out] at hca
  go_wp2_with fail
  refine hca.mono ?_
  rintro e w6 ⟨rfl, hb6⟩
  have hT6 := hT5.below hb6
  have hcb := chain_any ob gb _ w6 hT6.mb
  rw [show (cellsOf mm0.ch).toArray = D0 from HD0.out] at hcb
  clear hca
  go_wp2_with fail
  refine hcb.mono ?_
  rintro e w7 ⟨rfl, hb7⟩
  have hT7 := hT6.below hb7
  have hb7x : Below w5.heap.size w5 w7 := hb6.trans (hb7.mono hb6.size)
  have hk7 : KK w7 := hk5.below hb7x hk5.2
  have b7 : w7.heap[B]? = some (.cells #[Value.string kb, Value.string vb, Value.bool db, Value.int IntKind.i64 qb0] 29) := (hb7x.block B (by omega)).trans b5
  have hb7w : Below B w w7 := hb5w.trans (hb7x.mono (by omega))
  clear hcb hT5 hT6 hb6 hb7 hb7x b5 hb5w hk5
  go_wp2_with fail
  clear hq0 HQ HD0
  go_loopw [9, 10, 11, 12, 13, 14] (fun x9 _ _ _ _ _ wr => ∃ (i : Nat) (A C : Mm) (oa ob : Nat → Prop) (qb : Int), x9 = .int .i64 (i : Nat) ∧ i ≤ n ∧ i ≤ 40 ∧ Hid (Two (B + 1) wr ga gb A C oa ob ∧ KK wr ∧ Below B w wr ∧ wr.heap[B]? = some (.cells #[Value.string kb, Value.string vb, Value.bool db, Value.int IntKind.i64 qb] 29) ∧ Like A C ∧ A.last ≤ (i : Int) + 1)) (fun x _ _ _ _ _ _ => 40 - (intOf x).toNat)
  case atStart => exact ⟨0, _, _, _, _, qb0, rfl, by omega, by omega, hT7, hk7, hb7w, b7, ⟨rfl, rfl, by decide, by decide⟩, by decide⟩
  case round =>
    obtain ⟨i, A, C, oa, ob, qb, rfl, hi1, hi2, HI⟩ := hrel
    clear hT7 hk7 hb7w b7
    by_cases hin : i < n ∧ i < 40
    · obtain ⟨hi3, hi4⟩ := hin
      have hz1 : (i : Int) < (n : Int) := by omega
      have hz2 : (i : Int) < 40 := by omega
      obtain ⟨b, off, hao, hEn⟩ := (HE.out wr HI.out.2.2.1).2 (by omega)
      have hel := (HE.out wr HI.out.2.2.1).1
      subst hao
      obtain ⟨k, v, d, q, hx⟩ : ∃ k v d q, es[i]! = ⟨k, v, d, q⟩ := ⟨_, _, _, _, rfl⟩
      obtain ⟨f0, f1, f2, f3⟩ := ents_four hEn i (by rw [hel]; exact hi3) hx
      obtain ⟨sk, sv⟩ := small_at hS i (by rw [hel]; exact hi3) hx
      obtain ⟨k2, v2, HC, sk2, sv2⟩ := cut_form k v d q
      have hcc := cut_any k v d q wr sk sv
      rw [HC] at hcc
      have HCC : Hid (Calls Tryd.prog 12 #[.agg #[.string k, .string v, .bool d, .int .i64 q]] wr fun e w' => e = .returned (.agg #[.string k2, .string v2, .bool d, .int .i64 q]) ∧ Below wr.heap.size wr w') := hcc
      clear hcc HC hEn hx sk sv hel
      go_wp2_with (go_at_call 12; refine Calls.mono HCC.out ?_; rintro e w3 ⟨rfl, hb3⟩)
      obtain ⟨W3, hW3⟩ : ∃ W3, W3 = w3.alloc (Obj.cells #[Value.string k2, Value.string v2, Value.bool d, Value.int IntKind.i64 ((i : Int) + 2)] 29) := ⟨_, rfl⟩
      rw [← hW3]
      have hbA : Below wr.heap.size wr W3 := by rw [hW3]; exact hb3.trans ((bel_alloc w3 _).mono hb3.size)
      have e3 : W3.heap[w3.heap.size]? = some (.cells #[Value.string k2, Value.string v2, Value.bool d, Value.int IntKind.i64 ((i : Int) + 2)] 29) := by rw [hW3]; exact heap_alloc_new w3 _
      have hs3 : wr.heap.size ≤ w3.heap.size := hb3.size
      have hB0 : B + 1 ≤ wr.heap.size := by have := heap_lt HI.out.2.2.2.1; omega
      obtain ⟨D, HD⟩ : ∃ D, Hid (D = (cellsOf C.ch).toArray) := ⟨_, rfl⟩
      have hDs : D.size = 32 := by rw [HD.out, List.size_toArray, cellsOf_length, HI.out.1.mb.1.chl]
      have hD1 : D.all (·.oneCell') = true := by rw [HD.out]; exact dig_one _
      obtain ⟨ZZ, HZ⟩ : ∃ ZZ : Array Value, Hid (ZZ = #[Value.int IntKind.u8 0, Value.int IntKind.u8 0, Value.int IntKind.u8 0, Value.int IntKind.u8 0, Value.int IntKind.u8 0, Value.int IntKind.u8 0, Value.int IntKind.u8 0, Value.int IntKind.u8 0, Value.int IntKind.u8 0, Value.int IntKind.u8 0, Value.int IntKind.u8 0, Value.int IntKind.u8 0, Value.int IntKind.u8 0, Value.int IntKind.u8 0, Value.int IntKind.u8 0, Value.int IntKind.u8 0, Value.int IntKind.u8 0, Value.int IntKind.u8 0, Value.int IntKind.u8 0, Value.int IntKind.u8 0, Value.int IntKind.u8 0, Value.int IntKind.u8 0, Value.int IntKind.u8 0, Value.int IntKind.u8 0, Value.int IntKind.u8 0, Value.int IntKind.u8 0, Value.int IntKind.u8 0, Value.int IntKind.u8 0, Value.int IntKind.u8 0, Value.int IntKind.u8 0, Value.int IntKind.u8 0, Value.int IntKind.u8 0]) := ⟨_, rfl⟩
      have hZ : ZZ.size = 32 := by rw [HZ.out]; rfl
      have hcb := chain_any ob gb C W3 (HI.out.1.below hbA).mb
      rw [← HD.out] at hcb
      refine hcb.mono ?_
      rintro e w4 ⟨rfl, hb4⟩
      have hbA4 : Below wr.heap.size wr w4 := hbA.trans (hb4.mono hbA.size)
      have hs34 : w3.heap.size < w4.heap.size := Nat.lt_of_lt_of_le (heap_lt e3) hb4.size
      have hres : (w4.alloc (Obj.cells #[Value.int IntKind.u8 0, Value.int IntKind.u8 0, Value.int IntKind.u8 0, Value.int IntKind.u8 0, Value.int IntKind.u8 0, Value.int IntKind.u8 0, Value.int IntKind.u8 0, Value.int IntKind.u8 0, Value.int IntKind.u8 0, Value.int IntKind.u8 0, Value.int IntKind.u8 0, Value.int IntKind.u8 0, Value.int IntKind.u8 0, Value.int IntKind.u8 0, Value.int IntKind.u8 0, Value.int IntKind.u8 0, Value.int IntKind.u8 0, Value.int IntKind.u8 0, Value.int IntKind.u8 0, Value.int IntKind.u8 0, Value.int IntKind.u8 0, Value.int IntKind.u8 0, Value.int IntKind.u8 0, Value.int IntKind.u8 0, Value.int IntKind.u8 0, Value.int IntKind.u8 0, Value.int IntKind.u8 0, Value.int IntKind.u8 0, Value.int IntKind.u8 0, Value.int IntKind.u8 0, Value.int IntKind.u8 0, Value.int IntKind.u8 0] 42)).heap[w4.heap.size]? = some (.cells ZZ 42) := by rw [HZ.out]; exact heap_alloc_new _ _
      have HRES : Hid ((w4.alloc (Obj.cells #[Value.int IntKind.u8 0, Value.int IntKind.u8 0, Value.int IntKind.u8 0, Value.int IntKind.u8 0, Value.int IntKind.u8 0, Value.int IntKind.u8 0, Value.int IntKind.u8 0, Value.int IntKind.u8 0, Value.int IntKind.u8 0, Value.int IntKind.u8 0, Value.int IntKind.u8 0, Value.int IntKind.u8 0, Value.int IntKind.u8 0, Value.int IntKind.u8 0, Value.int IntKind.u8 0, Value.int IntKind.u8 0, Value.int IntKind.u8 0, Value.int IntKind.u8 0, Value.int IntKind.u8 0, Value.int IntKind.u8 0, Value.int IntKind.u8 0, Value.int IntKind.u8 0, Value.int IntKind.u8 0, Value.int IntKind.u8 0, Value.int IntKind.u8 0, Value.int IntKind.u8 0, Value.int IntKind.u8 0, Value.int IntKind.u8 0, Value.int IntKind.u8 0, Value.int IntKind.u8 0, Value.int IntKind.u8 0, Value.int IntKind.u8 0] 42)).heap[w4.heap.size]? = some (.cells ZZ 42)) := hres
      obtain ⟨W5, HW5⟩ : ∃ W5, Hid ((w4.alloc (Obj.cells #[Value.int IntKind.u8 0, Value.int IntKind.u8 0, Value.int IntKind.u8 0, Value.int IntKind.u8 0, Value.int IntKind.u8 0, Value.int IntKind.u8 0, Value.int IntKind.u8 0, Value.int IntKind.u8 0, Value.int IntKind.u8 0, Value.int IntKind.u8 0, Value.int IntKind.u8 0, Value.int IntKind.u8 0, Value.int IntKind.u8 0, Value.int IntKind.u8 0, Value.int IntKind.u8 0, Value.int IntKind.u8 0, Value.int IntKind.u8 0, Value.int IntKind.u8 0, Value.int IntKind.u8 0, Value.int IntKind.u8 0, Value.int IntKind.u8 0, Value.int IntKind.u8 0, Value.int IntKind.u8 0, Value.int IntKind.u8 0, Value.int IntKind.u8 0, Value.int IntKind.u8 0, Value.int IntKind.u8 0, Value.int IntKind.u8 0, Value.int IntKind.u8 0, Value.int IntKind.u8 0, Value.int IntKind.u8 0, Value.int IntKind.u8 0] 42)).setRow w4.heap.size D = W5) := ⟨_, rfl⟩
      have hbA5 : Below wr.heap.size wr W5 := by rw [← HW5.out]; exact below_setRow (hbA4.trans ((bel_alloc w4 _).mono hbA4.size)) (by have := hbA4.size; omega) _
      have d5 : W5.heap[w4.heap.size]? = some (.cells D 42) := by rw [← HW5.out]; exact setRow_heap _ _ _ _ _ _ hres
      have e5 : W5.heap[w3.heap.size]? = some (.cells #[Value.string k2, Value.string v2, Value.bool d, Value.int IntKind.i64 ((i : Int) + 2)] 29) := by
        rw [← HW5.out, setRow_other _ _ _ _ (by omega)]
        have h9 := Below.heap_alloc w4 (Obj.cells #[Value.int IntKind.u8 0, Value.int IntKind.u8 0, Value.int IntKind.u8 0, Value.int IntKind.u8 0, Value.int IntKind.u8 0, Value.int IntKind.u8 0, Value.int IntKind.u8 0, Value.int IntKind.u8 0, Value.int IntKind.u8 0, Value.int IntKind.u8 0, Value.int IntKind.u8 0, Value.int IntKind.u8 0, Value.int IntKind.u8 0, Value.int IntKind.u8 0, Value.int IntKind.u8 0, Value.int IntKind.u8 0, Value.int IntKind.u8 0, Value.int IntKind.u8 0, Value.int IntKind.u8 0, Value.int IntKind.u8 0, Value.int IntKind.u8 0, Value.int IntKind.u8 0, Value.int IntKind.u8 0, Value.int IntKind.u8 0, Value.int IntKind.u8 0, Value.int IntKind.u8 0, Value.int IntKind.u8 0, Value.int IntKind.u8 0, Value.int IntKind.u8 0, Value.int IntKind.u8 0, Value.int IntKind.u8 0, Value.int IntKind.u8 0] 42) w3.heap.size hs34
        rw [h9, hb4.block _ (heap_lt e3)]
        exact e3
      have hT5 := HI.out.1.below hbA5
      have hK5 : KK W5 := HI.out.2.1.below hbA5 HI.out.2.1.2
      have b5 : W5.heap[B]? = some (.cells #[Value.string kb, Value.string vb, Value.bool db, Value.int IntKind.i64 qb] 29) := (hbA5.block B (by omega)).trans HI.out.2.2.2.1
      have hbw5 : Below B w W5 := HI.out.2.2.1.trans (hbA5.mono (by omega))
      have hBB5 : B + 1 ≤ W5.heap.size := Nat.le_trans hB0 hbA5.size
      have hB5 : B ≤ W5.heap.size := by omega
      have HNA : Hid (∀ k, oa k → k < wr.heap.size) := fun k hk => (HI.out.1.la k hk).2
      have HNB : Hid (∀ k, ob k → k < wr.heap.size) := fun k hk => (HI.out.1.lb k hk).2
      obtain ⟨x0, x1, x2, x3⟩ := four_cells e5
      obtain ⟨hlp, hlk⟩ := like_put HI.out.2.2.2.2.1 (e := ⟨k2, v2, d, (i : Int) + 2⟩) (by have := HI.out.2.2.2.2.2; show A.last < (i : Int) + 2; omega)
      obtain ⟨px, HP2⟩ : ∃ px, Hid (putN C ⟨k2, v2, d, (i : Int) + 2⟩ = px) := ⟨_, rfl⟩
      have HP1 : Hid (putN A ⟨k2, v2, d, (i : Int) + 2⟩ = px) := hlp.trans HP2.out
      have HL : Hid (Like (putA A ⟨k2, v2, d, (i : Int) + 2⟩) (putA C ⟨k2, v2, d, (i : Int) + 2⟩)) := hlk
      clear hcb hb4 hbA hbA4 e3 hW3 hb3 HCC f0 f1 f2 f3 hbA5 hlp hlk hres
      go_wp2_with (refine wpList_store_row rfl 42 (.tmp 11) (.tmp 57) rfl w4.heap.size D rfl rfl 42 ZZ HRES.out (by rw [size42, hDs]) (by rw [hZ, hDs]) hD1 ?_; rw [HW5.out]; clear HRES HW5)
      have hpa := put_mem oa ga A k2 v2 d ((i : Int) + 2) W5 hT5.ma hK5 (fun e => by have := (hT5.la 1 e).1; omega) sk2 sv2
      rw [HP1.out] at hpa
      refine hpa.mono ?_
      rintro e w6 ⟨rfl, hm6, ho6⟩
      obtain ⟨oa6, hT6, hoa6⟩ := hT5.stepA hm6 ho6 (by omega)
      have hK6 : KK w6 := hK5.only ho6 (fun e => by have := (hT5.la 1 e).1; omega)
      have e6 : w6.heap[w3.heap.size]? = some (.cells #[Value.string k2, Value.string v2, Value.bool d, Value.int IntKind.i64 ((i : Int) + 2)] 29) := (ho6.block _ (heap_lt e5) (fun e => by have := HNA.out _ e; omega)).trans e5
      have d6 : w6.heap[w4.heap.size]? = some (.cells D 42) := (ho6.block _ (heap_lt d5) (fun e => by have := HNA.out _ e; omega)).trans d5
      have b6 : w6.heap[B]? = some (.cells #[Value.string kb, Value.string vb, Value.bool db, Value.int IntKind.i64 qb] 29) := (ho6.block _ (heap_lt b5) (fun e => by have := (hT5.la B e).1; omega)).trans b5
      have hbw6 : Below B w w6 := hbw5.trans (ho6.below (fun k hk => by have := (hT5.la k hk).1; omega) hB5)
      have hB6 : B + 1 ≤ w6.heap.size := Nat.le_trans hBB5 ho6.size
      have n6a : ¬ oa6 w3.heap.size ∧ ¬ oa6 w4.heap.size := ⟨hoa6 _ (heap_lt e5) (fun e => by have := HNA.out _ e; omega), hoa6 _ (heap_lt d5) (fun e => by have := HNA.out _ e; omega)⟩
      have hs56 := ho6.size
      clear hpa hm6 ho6 hoa6 hT5 hK5 e5 d5 b5 hbw5 x0 x1 x2 x3
      obtain ⟨x0, x1, x2, x3⟩ := four_cells e6
      go_wp2_with fail
      have hpb := put_mem ob gb C k2 v2 d ((i : Int) + 2) w6 hT6.mb hK6 (fun e => by have := (hT6.lb 1 e).1; omega) sk2 sv2
      rw [HP2.out] at hpb
      refine hpb.mono ?_
      rintro e w7 ⟨rfl, hm7, ho7⟩
      obtain ⟨ob7, hT7, hob7⟩ := hT6.stepB hm7 ho7 (by omega)
      have hK7 : KK w7 := hK6.only ho7 (fun e => by have := (hT6.lb 1 e).1; omega)
      have e7 : w7.heap[w3.heap.size]? = some (.cells #[Value.string k2, Value.string v2, Value.bool d, Value.int IntKind.i64 ((i : Int) + 2)] 29) := (ho7.block _ (heap_lt e6) (fun e => by have := HNB.out _ e; omega)).trans e6
      have d7 : w7.heap[w4.heap.size]? = some (.cells D 42) := (ho7.block _ (heap_lt d6) (fun e => by have := HNB.out _ e; omega)).trans d6
      have b7 : w7.heap[B]? = some (.cells #[Value.string kb, Value.string vb, Value.bool db, Value.int IntKind.i64 qb] 29) := (ho7.block _ (heap_lt b6) (fun e => by have := (hT6.lb B e).1; omega)).trans b6
      have hbw7 : Below B w w7 := hbw6.trans (ho7.below (fun k hk => by have := (hT6.lb k hk).1; omega) (by omega))
      have hB7 : B + 1 ≤ w7.heap.size := Nat.le_trans hB6 ho7.size
      have n7b : ¬ ob7 w3.heap.size ∧ ¬ ob7 w4.heap.size := ⟨hob7 _ (heap_lt e6) (fun e => by have := HNB.out _ e; omega), hob7 _ (heap_lt d6) (fun e => by have := HNB.out _ e; omega)⟩
      clear hpb hm7 ho7 hob7 hT6 hK6 e6 d6 b6 hbw6 x0 x1 x2 x3
      obtain ⟨C7, hC7⟩ : ∃ C7, C7 = putA C ⟨k2, v2, d, (i : Int) + 2⟩ := ⟨_, rfl⟩
      obtain ⟨A7, hA7⟩ : ∃ A7, A7 = putA A ⟨k2, v2, d, (i : Int) + 2⟩ := ⟨_, rfl⟩
      rw [← hC7, ← hA7] at hT7
      have HLK : Hid (Like A7 C7) := by show Like _ _; rw [hA7, hC7]; exact HL.out
      have HC7 : Hid (px ≠ 0 → C7 = C) := fun h => by rw [hC7]; exact put_bad (by rw [HP2.out]; exact h)
      have HLA : Hid (A7.last ≤ (i : Int) + 2) := by show _ ≤ _; rw [hA7]; exact put_last_le (by show A.last ≤ (i : Int) + 2; have := HI.out.2.2.2.2.2; omega)
      clear hC7 hA7
      obtain ⟨ql, HQL⟩ : ∃ ql, Hid (C7.last = ql) := ⟨_, rfl⟩
      have hla := last_any ob7 gb C7 w7 hT7.mb
      rw [HQL.out] at hla
      have b7w : w7.heap[w.heap.size]? = some (.cells #[Value.string kb, Value.string vb, Value.bool db, Value.int IntKind.i64 qb] 29) := by rw [HB.out]; exact b7
      obtain ⟨z0, z1, z2, z3⟩ := four_cells b7w
      have fz3 := fz_of b7w 3
      obtain ⟨W8, HW8⟩ : ∃ W8, Hid (w7.setCell ⟨w.heap.size, 3, none⟩ (.int .i64 ql) = W8) := ⟨_, rfl⟩
      have b8w : W8.heap[w.heap.size]? = some (.cells #[Value.string kb, Value.string vb, Value.bool db, Value.int IntKind.i64 ql] 29) := by rw [← HW8.out, heap_set b7w]; simp
      have hT8 : Two (B + 1) W8 ga gb A7 C7 oa6 ob7 := hT7.far (by rw [← HW8.out]; simp [World.setCell]) (fun k hk => by
        rw [← HW8.out]
        refine heap_set_ne _ _ _ (fun e => ?_)
        rw [e, HB.out] at hk
        rcases hk with h | h
        · have := (hT7.la _ h).1; omega
        · have := (hT7.lb _ h).1; omega)
      have hs8 : W8.heap.size = w7.heap.size := by rw [← HW8.out]; simp [World.setCell]
      have hoth : ∀ kk, kk ≠ B → W8.heap[kk]? = w7.heap[kk]? := fun kk hkk => by rw [← HW8.out]; exact heap_set_ne _ _ _ (by rw [HB.out]; exact hkk)
      have e8 : W8.heap[w3.heap.size]? = some (.cells #[Value.string k2, Value.string v2, Value.bool d, Value.int IntKind.i64 ((i : Int) + 2)] 29) := (hoth _ (by omega)).trans e7
      have d8 : W8.heap[w4.heap.size]? = some (.cells D 42) := (hoth _ (by omega)).trans d7
      have hK8 : KK W8 := by
        refine ⟨fun t ht => ?_, by rw [hs8]; exact hK7.2⟩
        rw [← hK7.1 t ht]
        exact World.cell?_of_block (a := ⟨1, t, none⟩) (hoth 1 (by omega))
      have hbw8 : Below B w W8 := hbw7.trans ⟨by rw [← HW8.out]; rfl, by rw [← HW8.out]; rfl, by rw [← HW8.out]; rfl, by rw [hs8]; exact Nat.le_refl _, fun kk hkk => hoth kk (by omega)⟩
      clear hT7 hK7 e7 d7 b7 hbw7 hoth b7w
      obtain ⟨y0, y1, y2, y3⟩ := four_cells b8w
      go_wp2_with (go_at_call 22; refine hla.mono ?_; rintro e wx ⟨rfl, hwx⟩; rw [hwx])
      rw [HW8.out]
      have hpz := put_mem ob7 gb C7 kb vb db ql W8 hT8.mb hK8 (fun e => by have := (hT8.lb 1 e).1; omega) skb svb
      rw [← HQL.out, (put_again C7 kb vb db).1, (put_again C7 kb vb db).2, HQL.out] at hpz
      clear hla HW8 z0 z1 z2 z3 fz3
      refine hpz.mono ?_
      rintro e w9 ⟨rfl, hm9, ho9⟩
      obtain ⟨ob9, hT9, hob9⟩ := hT8.stepB hm9 ho9 (by omega)
      have hK9 : KK w9 := hK8.only ho9 (fun e => by have := (hT8.lb 1 e).1; omega)
      have e9 : w9.heap[w3.heap.size]? = some (.cells #[Value.string k2, Value.string v2, Value.bool d, Value.int IntKind.i64 ((i : Int) + 2)] 29) := (ho9.block _ (heap_lt e8) n7b.1).trans e8
      have d9 : w9.heap[w4.heap.size]? = some (.cells D 42) := (ho9.block _ (heap_lt d8) n7b.2).trans d8
      have b9 : w9.heap[B]? = some (.cells #[Value.string kb, Value.string vb, Value.bool db, Value.int IntKind.i64 ql] 29) := by rw [← HB.out]; exact (ho9.block _ (heap_lt b8w) (fun e => by have := (hT8.lb _ e).1; have := HB.out; omega)).trans b8w
      have hbw9 : Below B w w9 := hbw8.trans (ho9.below (fun k hk => by have := (hT8.lb k hk).1; omega) (by omega))
      have hB9 : B + 1 ≤ w9.heap.size := Nat.le_trans (by omega) ho9.size
      clear hpz hm9 ho9 hob9 hT8 hK8 e8 d8 b8w hbw8 y0 y1 y2 y3 n7b n6a
      obtain ⟨x0, -, -, -⟩ := four_cells e9
      go_wp2_with fail
      refine (get_mem ob9 gb C7 k2 w9 hT9.mb).mono ?_
      rintro e w10 ⟨rfl, hb10⟩
      have hT10 := hT9.below hb10
      clear x0
      go_wp2_with fail
      refine (all_mem ob9 gb C7 w10 hT10.mb).mono ?_
      rintro e w11 ⟨v11, rfl, -, hb11⟩
      have hb9x : Below w9.heap.size w9 w11 := hb10.trans (hb11.mono hb10.size)
      have HT : Hid (Two (B + 1) w11 ga gb A7 C7 oa6 ob9) := hT10.below hb11
      have HKX : Hid (KK w11) := hK9.below hb9x hK9.2
      have HBX : Hid (w11.heap[B]? = some (.cells #[Value.string kb, Value.string vb, Value.bool db, Value.int IntKind.i64 ql] 29)) := (hb9x.block B (by omega)).trans b9
      have HWX : Hid (Below B w w11) := hbw9.trans (hb9x.mono (by omega))
      have HDX : Hid (w11.heap[w4.heap.size]? = some (.cells D 42)) := (hb9x.block _ (heap_lt d9)).trans d9
      clear hT9 hT10 hb10 hb11 hb9x hK9 b9 hbw9 d9 e9 hDs hD1 hZ
      go_wp2_with fail
      obtain ⟨D2, HD2⟩ : ∃ D2, Hid ((cellsOf C7.ch).toArray = D2) := ⟨_, rfl⟩
      have hq2 := equal_dig C7.ch HT.out.mb.1.chl
      rw [HD2.out] at hq2
      obtain ⟨lz, HLZ⟩ : ∃ lz, Hid (A7.last = lz) := ⟨_, rfl⟩
      have hmax : max 1 ql = lz := by rw [← HLZ.out, ← HQL.out]; exact HLK.out.2.2.1.symm
      have HCA : Hid (∀ W, Below w11.heap.size w11 W → Calls Tryd.prog 23 #[.pointer (some ⟨ga, 0, none⟩)] W fun e w' => e = .returned (.agg D2) ∧ Below W.heap.size W w') := fun W hW => by
        have := chain_any oa6 ga A7 W (HT.out.ma.grown hW)
        rw [HLK.out.2.1, HD2.out] at this
        exact this
      have HCB : Hid (∀ W, Below w11.heap.size w11 W → Calls Tryd.prog 23 #[.pointer (some ⟨gb, 0, none⟩)] W fun e w' => e = .returned (.agg D2) ∧ Below W.heap.size W w') := fun W hW => by
        have := chain_any ob9 gb C7 W (HT.out.mb.grown hW)
        rw [HD2.out] at this
        exact this
      have HLAx : Hid (∀ W, Below w11.heap.size w11 W → Calls Tryd.prog 22 #[.pointer (some ⟨ga, 0, none⟩)] W fun e w' => e = .returned (.int .i64 lz) ∧ w' = W) := fun W hW => by
        have := last_any oa6 ga A7 W (HT.out.ma.grown hW)
        rw [HLZ.out] at this
        exact this
      have HLBx : Hid (∀ W, Below w11.heap.size w11 W → Calls Tryd.prog 22 #[.pointer (some ⟨gb, 0, none⟩)] W fun e w' => e = .returned (.int .i64 ql) ∧ w' = W) := fun W hW => by
        have := last_any ob9 gb C7 W (HT.out.mb.grown hW)
        rw [HQL.out] at this
        exact this
      by_cases hpx : px = 0
      · subst hpx
        refine wp_region_held_drew (S := fun _ => True) (by kernel_rfl) True.intro (fun hS => ?_)
        refine wpAnyH_take (i := 0) (v := ?_) rfl (by kernel_rfl) (by kernel_rfl) (by kernel_rfl) (fun _ _ _ h => h) (Or.inl ⟨by rfl, ?_⟩) (by assumption) ?_
        rotate_left
        · (intro w hSw; (try dsimp only at hSw); go_simp; try with_reducible rfl)
        simp only [Act.put, List.getElem_toArray, List.getElem_cons_zero, List.setIfInBounds_toArray, List.set_cons_zero, List.set_cons_succ]
        refine wpAnyH_take (i := 1) (v := ?_) rfl (by kernel_rfl) (by kernel_rfl) (by kernel_rfl) (fun _ _ _ h => h) (Or.inl ⟨by rfl, ?_⟩) (by assumption) ?_
        rotate_left
        · (intro w hSw; (try dsimp only at hSw); go_simp; try with_reducible rfl)
        simp only [Act.put, List.getElem_toArray, List.getElem_cons_zero, List.getElem_cons_succ, List.setIfInBounds_toArray, List.set_cons_zero, List.set_cons_succ]
        refine wpAnyH_take (i := 2) (v := ?_) rfl (by kernel_rfl) (by kernel_rfl) (by kernel_rfl) (fun _ _ _ h => h) (Or.inl ⟨by rfl, ?_⟩) (by assumption) ?_
        rotate_left
        · (intro w hSw; (try dsimp only at hSw); go_simp; try with_reducible rfl)
        simp only [Act.put, List.getElem_toArray, List.getElem_cons_zero, List.getElem_cons_succ, List.setIfInBounds_toArray, List.set_cons_zero, List.set_cons_succ]
        refine wpAnyH_take (i := 3) (v := ?_) rfl (by kernel_rfl) (by kernel_rfl) (by kernel_rfl) (fun _ _ _ h => h) (Or.inl ⟨by rfl, ?_⟩) (by assumption) ?_
        rotate_left
        · (intro w hSw; (try dsimp only at hSw); go_simp; try with_reducible rfl)
        simp only [Act.put, List.getElem_toArray, List.getElem_cons_zero, List.getElem_cons_succ, List.setIfInBounds_toArray, List.set_cons_zero, List.set_cons_succ]
        refine wpAnyH_take (i := 4) (v := ?_) rfl (by kernel_rfl) (by kernel_rfl) (by kernel_rfl) (fun _ _ _ h => h) (Or.inl ⟨by rfl, ?_⟩) (by assumption) ?_
        rotate_left
        · (intro w hSw; (try dsimp only at hSw); go_simp; try with_reducible rfl)
        simp only [Act.put, List.getElem_toArray, List.getElem_cons_zero, List.getElem_cons_succ, List.setIfInBounds_toArray, List.set_cons_zero, List.set_cons_succ]
        refine wpAnyH_take (i := 5) (v := ?_) rfl (by kernel_rfl) (by kernel_rfl) (by kernel_rfl) (fun _ _ _ h => h) (Or.inl ⟨by rfl, ?_⟩) (by assumption) ?_
        rotate_left
        · (intro w hSw; (try dsimp only at hSw); go_simp; try with_reducible rfl)
        simp only [Act.put, List.getElem_toArray, List.getElem_cons_zero, List.getElem_cons_succ, List.setIfInBounds_toArray, List.set_cons_zero, List.set_cons_succ]
        refine wpAnyH_take (i := 6) (v := ?_) rfl (by kernel_rfl) (by kernel_rfl) (by kernel_rfl) (fun _ _ _ h => h) (Or.inl ⟨by rfl, ?_⟩) (by assumption) ?_
        rotate_left
        · (intro w hSw; (try dsimp only at hSw); go_simp; try with_reducible rfl)
        simp only [Act.put, List.getElem_toArray, List.getElem_cons_zero, List.getElem_cons_succ, List.setIfInBounds_toArray, List.set_cons_zero, List.set_cons_succ]
        refine wpAnyH_take (i := 7) (v := ?_) rfl (by kernel_rfl) (by kernel_rfl) (by kernel_rfl) (fun _ _ _ h => h) (Or.inl ⟨by rfl, ?_⟩) (by assumption) ?_
        rotate_left
        · (intro w hSw; (try dsimp only at hSw); go_simp; try with_reducible rfl)
        simp only [Act.put, List.getElem_toArray, List.getElem_cons_zero, List.getElem_cons_succ, List.setIfInBounds_toArray, List.set_cons_zero, List.set_cons_succ]
        refine wpAnyH_take (i := 8) (v := ?_) rfl (by kernel_rfl) (by kernel_rfl) (by kernel_rfl) (fun _ _ _ h => h) (Or.inl ⟨by rfl, ?_⟩) (by assumption) ?_
        rotate_left
        · (intro w hSw; (try dsimp only at hSw); go_simp; try with_reducible rfl)
        simp only [Act.put, List.getElem_toArray, List.getElem_cons_zero, List.getElem_cons_succ, List.setIfInBounds_toArray, List.set_cons_zero, List.set_cons_succ]
        refine wpAnyH_take (i := 10) (v := ?_) rfl (by kernel_rfl) (by kernel_rfl) (by kernel_rfl) (fun _ _ _ h => h) (Or.inl ⟨by rfl, ?_⟩) (by assumption) ?_
        rotate_left
        · (intro w hSw; (try dsimp only at hSw); go_simp; try with_reducible rfl)
        simp only [Act.put, List.getElem_toArray, List.getElem_cons_zero, List.getElem_cons_succ, List.setIfInBounds_toArray, List.set_cons_zero, List.set_cons_succ]
        refine wpAnyH_ready (rs := [9]) (by kernel_rfl) (by simp) ?_
        refine AllReadyH.cons rfl (fun K hK => ?_) AllReadyH.nil
        go_simp
        refine Calls.mono (HCA.out _ (Below.drew (Below.refl w11.heap.size w11))) ?_
        rintro e y1 ⟨rfl, hy1⟩
        have HCy1 : Hid (Below w11.heap.size w11 y1) := (Below.drew (Below.refl w11.heap.size w11)).trans (hy1.mono (Below.drew (Below.refl w11.heap.size w11)).size)
        clear hy1
        go_wp2_with fail
        refine hK.out _ _ (True.intro) (fun hHeld2 => ?_)
        clear hK K
        refine wpAnyH_ready (rs := [11]) (by kernel_rfl) (by simp) ?_
        refine AllReadyH.cons rfl (fun K hK => ?_) AllReadyH.nil
        go_simp
        refine Calls.mono (HCB.out _ HCy1.out) ?_
        rintro e y2 ⟨rfl, hy2⟩
        have HCy2 : Hid (Below w11.heap.size w11 y2) := HCy1.out.trans (hy2.mono HCy1.out.size)
        clear hy2
        go_wp2_with fail
        refine hK.out _ _ (True.intro) (fun hHeld2 => ?_)
        clear hK K
        refine wpAnyH_take (i := 12) (v := ?_) rfl (by kernel_rfl) (by kernel_rfl) (by kernel_rfl) (fun _ _ _ h => h) (Or.inl ⟨by rfl, ?_⟩) (by assumption) ?_
        rotate_left
        · (intro w hSw; (try dsimp only at hSw); go_simp; try with_reducible rfl)
        simp only [Act.put, List.getElem_toArray, List.getElem_cons_zero, List.getElem_cons_succ, List.setIfInBounds_toArray, List.set_cons_zero, List.set_cons_succ]
        refine wpAnyH_take (i := 13) (v := ?_) rfl (by kernel_rfl) (by kernel_rfl) (by kernel_rfl) (fun _ _ _ h => h) (Or.inl ⟨by rfl, ?_⟩) (by assumption) ?_
        rotate_left
        · (intro w hSw; (try dsimp only at hSw); go_simp; try with_reducible rfl)
        simp only [Act.put, List.getElem_toArray, List.getElem_cons_zero, List.getElem_cons_succ, List.setIfInBounds_toArray, List.set_cons_zero, List.set_cons_succ]
        refine wpAnyH_take (i := 14) (v := ?_) rfl (by kernel_rfl) (by kernel_rfl) (by kernel_rfl) (fun _ _ _ h => h) (Or.inl ⟨by rfl, ?_⟩) (by assumption) ?_
        rotate_left
        · (intro w hSw; (try dsimp only at hSw); go_simp; try with_reducible rfl)
        simp only [Act.put, List.getElem_toArray, List.getElem_cons_zero, List.getElem_cons_succ, List.setIfInBounds_toArray, List.set_cons_zero, List.set_cons_succ]
        refine wpAnyH_take (i := 15) (v := ?_) rfl (by kernel_rfl) (by kernel_rfl) (by kernel_rfl) (fun _ _ _ h => h) (Or.inl ⟨by rfl, ?_⟩) (by assumption) ?_
        rotate_left
        · (intro w hSw; (try dsimp only at hSw); go_simp; try with_reducible rfl)
        simp only [Act.put, List.getElem_toArray, List.getElem_cons_zero, List.getElem_cons_succ, List.setIfInBounds_toArray, List.set_cons_zero, List.set_cons_succ]
        refine wpAnyH_take (i := 16) (v := ?_) rfl (by kernel_rfl) (by kernel_rfl) (by kernel_rfl) (fun _ _ _ h => h) (Or.inl ⟨by rfl, ?_⟩) (by assumption) ?_
        rotate_left
        · (intro w hSw; (try dsimp only at hSw); go_simp; try with_reducible rfl)
        simp only [Act.put, List.getElem_toArray, List.getElem_cons_zero, List.getElem_cons_succ, List.setIfInBounds_toArray, List.set_cons_zero, List.set_cons_succ]
        refine wpAnyH_take (i := 17) (v := ?_) rfl (by kernel_rfl) (by kernel_rfl) (by kernel_rfl) (fun _ _ _ h => h) (Or.inl ⟨by rfl, ?_⟩) (by assumption) ?_
        rotate_left
        · (intro w hSw; (try dsimp only at hSw); go_simp; try with_reducible rfl)
        simp only [Act.put, List.getElem_toArray, List.getElem_cons_zero, List.getElem_cons_succ, List.setIfInBounds_toArray, List.set_cons_zero, List.set_cons_succ]
        refine wpAnyH_take (i := 18) (v := undef) rfl (by kernel_rfl) (by kernel_rfl) (by kernel_rfl) (fun _ _ _ h => h) (Or.inr ⟨by rfl, rfl⟩) (by assumption) ?_
        simp only [Act.put, List.getElem_toArray, List.getElem_cons_zero, List.getElem_cons_succ, List.setIfInBounds_toArray, List.set_cons_zero, List.set_cons_succ]
        refine wpAnyH_take (i := 19) (v := undef) rfl (by kernel_rfl) (by kernel_rfl) (by kernel_rfl) (fun _ _ _ h => h) (Or.inr ⟨by rfl, rfl⟩) (by assumption) ?_
        simp only [Act.put, List.getElem_toArray, List.getElem_cons_zero, List.getElem_cons_succ, List.setIfInBounds_toArray, List.set_cons_zero, List.set_cons_succ]
        refine wpAnyH_take (i := 20) (v := undef) rfl (by kernel_rfl) (by kernel_rfl) (by kernel_rfl) (fun _ _ _ h => h) (Or.inr ⟨by rfl, rfl⟩) (by assumption) ?_
        simp only [Act.put, List.getElem_toArray, List.getElem_cons_zero, List.getElem_cons_succ, List.setIfInBounds_toArray, List.set_cons_zero, List.set_cons_succ]
        refine wpAnyH_take (i := 21) (v := undef) rfl (by kernel_rfl) (by kernel_rfl) (by kernel_rfl) (fun _ _ _ h => h) (Or.inr ⟨by rfl, rfl⟩) (by assumption) ?_
        simp only [Act.put, List.getElem_toArray, List.getElem_cons_zero, List.getElem_cons_succ, List.setIfInBounds_toArray, List.set_cons_zero, List.set_cons_succ]
        refine wpAnyH_take (i := 22) (v := ?_) rfl (by kernel_rfl) (by kernel_rfl) (by kernel_rfl) (fun _ _ _ h => h) (Or.inl ⟨by rfl, ?_⟩) (by assumption) ?_
        rotate_left
        · (intro w hSw; (try dsimp only at hSw); go_simp; try with_reducible rfl)
        simp only [Act.put, List.getElem_toArray, List.getElem_cons_zero, List.getElem_cons_succ, List.setIfInBounds_toArray, List.set_cons_zero, List.set_cons_succ]
        refine wpAnyH_take (i := 23) (v := ?_) rfl (by kernel_rfl) (by kernel_rfl) (by kernel_rfl) (fun _ _ _ h => h) (Or.inl ⟨by rfl, ?_⟩) (by assumption) ?_
        rotate_left
        · (intro w hSw; (try dsimp only at hSw); go_simp; try with_reducible rfl)
        simp only [Act.put, List.getElem_toArray, List.getElem_cons_zero, List.getElem_cons_succ, List.setIfInBounds_toArray, List.set_cons_zero, List.set_cons_succ]
        refine wpAnyH_take (i := 24) (v := ?_) rfl (by kernel_rfl) (by kernel_rfl) (by kernel_rfl) (fun _ _ _ h => h) (Or.inl ⟨by rfl, ?_⟩) (by assumption) ?_
        rotate_left
        · (intro w hSw; (try dsimp only at hSw); go_simp; try with_reducible rfl)
        simp only [Act.put, List.getElem_toArray, List.getElem_cons_zero, List.getElem_cons_succ, List.setIfInBounds_toArray, List.set_cons_zero, List.set_cons_succ]
        refine wpAnyH_take (i := 25) (v := ?_) rfl (by kernel_rfl) (by kernel_rfl) (by kernel_rfl) (fun _ _ _ h => h) (Or.inl ⟨by rfl, ?_⟩) (by assumption) ?_
        rotate_left
        · (intro w hSw; (try dsimp only at hSw); go_simp; try with_reducible rfl)
        simp only [Act.put, List.getElem_toArray, List.getElem_cons_zero, List.getElem_cons_succ, List.setIfInBounds_toArray, List.set_cons_zero, List.set_cons_succ]
        refine wpAnyH_take (i := 27) (v := ?_) rfl (by kernel_rfl) (by kernel_rfl) (by kernel_rfl) (fun _ _ _ h => h) (Or.inl ⟨by rfl, ?_⟩) (by assumption) ?_
        rotate_left
        · (intro w hSw; (try dsimp only at hSw); go_simp; try with_reducible rfl)
        simp only [Act.put, List.getElem_toArray, List.getElem_cons_zero, List.getElem_cons_succ, List.setIfInBounds_toArray, List.set_cons_zero, List.set_cons_succ]
        refine wpAnyH_ready (rs := [26]) (by kernel_rfl) (by simp) ?_
        refine AllReadyH.cons rfl (fun K hK => ?_) AllReadyH.nil
        go_simp
        refine Calls.mono (HLAx.out _ HCy2.out) ?_
        rintro e wz ⟨rfl, hwz⟩
        rw [hwz]
        clear hwz
        go_wp2_with fail
        refine hK.out _ _ (True.intro) (fun hHeld2 => ?_)
        clear hK K
        refine wpAnyH_ready (rs := [28]) (by kernel_rfl) (by simp) ?_
        refine AllReadyH.cons rfl (fun K hK => ?_) AllReadyH.nil
        go_simp
        refine Calls.mono (HLBx.out _ HCy2.out) ?_
        rintro e wz ⟨rfl, hwz⟩
        rw [hwz]
        clear hwz
        go_wp2_with fail
        refine hK.out _ _ (True.intro) (fun hHeld2 => ?_)
        clear hK K
        refine wpAnyH_take (i := 29) (v := ?_) rfl (by kernel_rfl) (by kernel_rfl) (by kernel_rfl) (fun _ _ _ h => h) (Or.inl ⟨by rfl, ?_⟩) (by assumption) ?_
        rotate_left
        · (intro w hSw; (try dsimp only at hSw); go_simp; try with_reducible rfl)
        simp only [Act.put, List.getElem_toArray, List.getElem_cons_zero, List.getElem_cons_succ, List.setIfInBounds_toArray, List.set_cons_zero, List.set_cons_succ]
        refine wpAnyH_take (i := 30) (v := ?_) rfl (by kernel_rfl) (by kernel_rfl) (by kernel_rfl) (fun _ _ _ h => h) (Or.inl ⟨by rfl, ?_⟩) (by assumption) ?_
        rotate_left
        · (intro w hSw; (try dsimp only at hSw); go_simp; try with_reducible rfl)
        simp only [Act.put, List.getElem_toArray, List.getElem_cons_zero, List.getElem_cons_succ, List.setIfInBounds_toArray, List.set_cons_zero, List.set_cons_succ]
        refine wpAnyH_take (i := 31) (v := ?_) rfl (by kernel_rfl) (by kernel_rfl) (by kernel_rfl) (fun _ _ _ h => h) (Or.inl ⟨by rfl, ?_⟩) (by assumption) ?_
        rotate_left
        · (intro w hSw; (try dsimp only at hSw); go_simp; try with_reducible rfl)
        simp only [Act.put, List.getElem_toArray, List.getElem_cons_zero, List.getElem_cons_succ, List.setIfInBounds_toArray, List.set_cons_zero, List.set_cons_succ]
        refine wpAnyH_done (by kernel_rfl) ?_ _
        have HNX : Hid (Two (B + 1) y2 ga gb A7 C7 oa6 ob9 ∧ KK y2 ∧ Below B w y2 ∧ y2.heap[B]? = some (.cells #[Value.string kb, Value.string vb, Value.bool db, Value.int IntKind.i64 ql] 29) ∧ Like A7 C7 ∧ A7.last ≤ ((i + 1 : Nat) : Int) + 1) := ⟨HT.out.below HCy2.out, HKX.out.below HCy2.out HKX.out.2, HWX.out.trans (HCy2.out.mono (by have := heap_lt HBX.out; omega)), (HCy2.out.block B (heap_lt HBX.out)).trans HBX.out, HLK.out, (by have := HLA.out; omega)⟩
        clear HT HKX HWX HBX HLK HLA hq2 hmax HCA HCB HLAx HLBx HDX HC7 HL HP1 HP2 HI HNA HNB HQL HLZ HD2 HD HZ HCy1
        go_wp2
        go_roundw
        case rel => exact ⟨i + 1, _, _, _, _, _, by go_num, by omega, by omega, HNX⟩
        case measure => (try simp [intOf]); omega
      · have dpx : decide (px = 0) = false := decide_eq_false hpx
        have bpx : (px == 0) = false := by simpa using hpx
        have npx : (px != 0) = true := by simpa using hpx
        have hDD : D2 = D := by rw [← HD2.out, HD.out, HC7.out hpx]
        subst hDD
        have HDS : Hid (D2.size = 32) := by show _ = _; rw [← HD2.out, List.size_toArray, cellsOf_length, HT.out.mb.1.chl]
        have HSD : Hid (∀ W, Below w11.heap.size w11 W → (fun w' => w'.rangeAt w4.heap.size 0 D2.toList) W) := fun W hW j u hu => by
          rw [Nat.zero_add, cell_of_row _ _ _ _ _ _ ((hW.block _ (heap_lt HDX.out)).trans HDX.out)]
          simpa using hu
        refine wp_region_held_drew (S := fun w' => w'.rangeAt w4.heap.size 0 D2.toList) (by kernel_rfl) (HSD.out _ (Below.drew (Below.refl w11.heap.size w11))) (fun hS => ?_)
        refine wpAnyH_take (i := 0) (v := ?_) rfl (by kernel_rfl) (by kernel_rfl) (by kernel_rfl) (fun _ _ _ h => h) (Or.inl ⟨by rfl, ?_⟩) (by assumption) ?_
        rotate_left
        · (intro w hSw; (try dsimp only at hSw); go_simp; try with_reducible rfl)
        simp only [Act.put, List.getElem_toArray, List.getElem_cons_zero, List.setIfInBounds_toArray, List.set_cons_zero, List.set_cons_succ]
        refine wpAnyH_take (i := 1) (v := ?_) rfl (by kernel_rfl) (by kernel_rfl) (by kernel_rfl) (fun _ _ _ h => h) (Or.inl ⟨by rfl, ?_⟩) (by assumption) ?_
        rotate_left
        · (intro w hSw; (try dsimp only at hSw); go_simp; try with_reducible rfl)
        simp only [Act.put, List.getElem_toArray, List.getElem_cons_zero, List.getElem_cons_succ, List.setIfInBounds_toArray, List.set_cons_zero, List.set_cons_succ]
        refine wpAnyH_take (i := 2) (v := ?_) rfl (by kernel_rfl) (by kernel_rfl) (by kernel_rfl) (fun _ _ _ h => h) (Or.inl ⟨by rfl, ?_⟩) (by assumption) ?_
        rotate_left
        · (intro w hSw; (try dsimp only at hSw); go_simp; try with_reducible rfl)
        simp only [Act.put, List.getElem_toArray, List.getElem_cons_zero, List.getElem_cons_succ, List.setIfInBounds_toArray, List.set_cons_zero, List.set_cons_succ]
        refine wpAnyH_take (i := 3) (v := ?_) rfl (by kernel_rfl) (by kernel_rfl) (by kernel_rfl) (fun _ _ _ h => h) (Or.inl ⟨by rfl, ?_⟩) (by assumption) ?_
        rotate_left
        · (intro w hSw; (try dsimp only at hSw); go_simp; try with_reducible rfl)
        simp only [Act.put, List.getElem_toArray, List.getElem_cons_zero, List.getElem_cons_succ, List.setIfInBounds_toArray, List.set_cons_zero, List.set_cons_succ]
        refine wpAnyH_take (i := 4) (v := ?_) rfl (by kernel_rfl) (by kernel_rfl) (by kernel_rfl) (fun _ _ _ h => h) (Or.inl ⟨by rfl, ?_⟩) (by assumption) ?_
        rotate_left
        · (intro w hSw; (try dsimp only at hSw); go_simp; try with_reducible rfl)
        simp only [Act.put, List.getElem_toArray, List.getElem_cons_zero, List.getElem_cons_succ, List.setIfInBounds_toArray, List.set_cons_zero, List.set_cons_succ]
        refine wpAnyH_take (i := 5) (v := ?_) rfl (by kernel_rfl) (by kernel_rfl) (by kernel_rfl) (fun _ _ _ h => h) (Or.inl ⟨by rfl, ?_⟩) (by assumption) ?_
        rotate_left
        · (intro w hSw; (try dsimp only at hSw); go_simp; try with_reducible rfl)
        simp only [Act.put, List.getElem_toArray, List.getElem_cons_zero, List.getElem_cons_succ, List.setIfInBounds_toArray, List.set_cons_zero, List.set_cons_succ]
        refine wpAnyH_take (i := 6) (v := ?_) rfl (by kernel_rfl) (by kernel_rfl) (by kernel_rfl) (fun _ _ _ h => h) (Or.inl ⟨by rfl, ?_⟩) (by assumption) ?_
        rotate_left
        · (intro w hSw; (try dsimp only at hSw); go_simp; try with_reducible rfl)
        simp only [Act.put, List.getElem_toArray, List.getElem_cons_zero, List.getElem_cons_succ, List.setIfInBounds_toArray, List.set_cons_zero, List.set_cons_succ]
        refine wpAnyH_take (i := 7) (v := ?_) rfl (by kernel_rfl) (by kernel_rfl) (by kernel_rfl) (fun _ _ _ h => h) (Or.inl ⟨by rfl, ?_⟩) (by assumption) ?_
        rotate_left
        · (intro w hSw; (try dsimp only at hSw); go_simp; try with_reducible rfl)
        simp only [Act.put, List.getElem_toArray, List.getElem_cons_zero, List.getElem_cons_succ, List.setIfInBounds_toArray, List.set_cons_zero, List.set_cons_succ]
        refine wpAnyH_take (i := 8) (v := ?_) rfl (by kernel_rfl) (by kernel_rfl) (by kernel_rfl) (fun _ _ _ h => h) (Or.inl ⟨by rfl, ?_⟩) (by assumption) ?_
        rotate_left
        · (intro w hSw; (try dsimp only at hSw); go_simp; try with_reducible rfl)
        simp only [Act.put, List.getElem_toArray, List.getElem_cons_zero, List.getElem_cons_succ, List.setIfInBounds_toArray, List.set_cons_zero, List.set_cons_succ]
        refine wpAnyH_take (i := 10) (v := ?_) rfl (by kernel_rfl) (by kernel_rfl) (by kernel_rfl) (fun _ _ _ h => h) (Or.inl ⟨by rfl, ?_⟩) (by assumption) ?_
        rotate_left
        · (intro w hSw; (try dsimp only at hSw); go_simp; try with_reducible rfl)
        simp only [Act.put, List.getElem_toArray, List.getElem_cons_zero, List.getElem_cons_succ, List.setIfInBounds_toArray, List.set_cons_zero, List.set_cons_succ]
        refine wpAnyH_ready (rs := [9]) (by kernel_rfl) (by simp) ?_
        refine AllReadyH.cons rfl (fun K hK => ?_) AllReadyH.nil
        go_simp
        refine Calls.mono (HCA.out _ (Below.drew (Below.refl w11.heap.size w11))) ?_
        rintro e y1 ⟨rfl, hy1⟩
        have HCy1 : Hid (Below w11.heap.size w11 y1) := (Below.drew (Below.refl w11.heap.size w11)).trans (hy1.mono (Below.drew (Below.refl w11.heap.size w11)).size)
        clear hy1
        go_wp2_with fail
        refine hK.out _ _ (HSD.out _ HCy1.out) (fun hHeld2 => ?_)
        clear hK K
        refine wpAnyH_ready (rs := [11]) (by kernel_rfl) (by simp) ?_
        refine AllReadyH.cons rfl (fun K hK => ?_) AllReadyH.nil
        go_simp
        refine Calls.mono (HCB.out _ HCy1.out) ?_
        rintro e y2 ⟨rfl, hy2⟩
        have HCy2 : Hid (Below w11.heap.size w11 y2) := HCy1.out.trans (hy2.mono HCy1.out.size)
        clear hy2
        go_wp2_with fail
        refine hK.out _ _ (HSD.out _ HCy2.out) (fun hHeld2 => ?_)
        clear hK K
        refine wpAnyH_take (i := 12) (v := ?_) rfl (by kernel_rfl) (by kernel_rfl) (by kernel_rfl) (fun _ _ _ h => h) (Or.inl ⟨by rfl, ?_⟩) (by assumption) ?_
        rotate_left
        · (intro w hSw; (try dsimp only at hSw); go_simp; try with_reducible rfl)
        simp only [Act.put, List.getElem_toArray, List.getElem_cons_zero, List.getElem_cons_succ, List.setIfInBounds_toArray, List.set_cons_zero, List.set_cons_succ]
        refine wpAnyH_take (i := 13) (v := ?_) rfl (by kernel_rfl) (by kernel_rfl) (by kernel_rfl) (fun _ _ _ h => h) (Or.inl ⟨by rfl, ?_⟩) (by assumption) ?_
        rotate_left
        · (intro w hSw; (try dsimp only at hSw); go_simp; try with_reducible rfl)
        simp only [Act.put, List.getElem_toArray, List.getElem_cons_zero, List.getElem_cons_succ, List.setIfInBounds_toArray, List.set_cons_zero, List.set_cons_succ]
        refine wpAnyH_take (i := 14) (v := ?_) rfl (by kernel_rfl) (by kernel_rfl) (by kernel_rfl) (fun _ _ _ h => h) (Or.inl ⟨by rfl, ?_⟩) (by assumption) ?_
        rotate_left
        · (intro w hSw; (try dsimp only at hSw); go_simp; try with_reducible rfl)
        simp only [Act.put, List.getElem_toArray, List.getElem_cons_zero, List.getElem_cons_succ, List.setIfInBounds_toArray, List.set_cons_zero, List.set_cons_succ]
        refine wpAnyH_take (i := 15) (v := ?_) rfl (by kernel_rfl) (by kernel_rfl) (by kernel_rfl) (fun _ _ _ h => h) (Or.inl ⟨by rfl, ?_⟩) (by assumption) ?_
        rotate_left
        · (intro w hSw; (try dsimp only at hSw); go_simp; try with_reducible rfl)
        simp only [Act.put, List.getElem_toArray, List.getElem_cons_zero, List.getElem_cons_succ, List.setIfInBounds_toArray, List.set_cons_zero, List.set_cons_succ]
        refine wpAnyH_take (i := 16) (v := ?_) rfl (by kernel_rfl) (by kernel_rfl) (by kernel_rfl) (fun _ _ _ h => h) (Or.inl ⟨by rfl, ?_⟩) (by assumption) ?_
        rotate_left
        · (intro w hSw; (try dsimp only at hSw); go_simp; try with_reducible rfl)
        simp only [Act.put, List.getElem_toArray, List.getElem_cons_zero, List.getElem_cons_succ, List.setIfInBounds_toArray, List.set_cons_zero, List.set_cons_succ]
        refine wpAnyH_take (i := 17) (v := ?_) rfl (by kernel_rfl) (by kernel_rfl) (by kernel_rfl) (fun _ _ _ h => h) (Or.inl ⟨by rfl, ?_⟩) (by assumption) ?_
        rotate_left
        · (intro w hSw; (try dsimp only at hSw); go_simp; try with_reducible rfl)
        simp only [Act.put, List.getElem_toArray, List.getElem_cons_zero, List.getElem_cons_succ, List.setIfInBounds_toArray, List.set_cons_zero, List.set_cons_succ]
        refine wpAnyH_take (i := 18) (v := ?_) rfl (by kernel_rfl) (by kernel_rfl) (by kernel_rfl) (fun _ _ _ h => h) (Or.inl ⟨by rfl, ?_⟩) (by assumption) ?_
        rotate_left
        · (intro w hSw; (try dsimp only at hSw); go_simp; try with_reducible rfl)
        simp only [Act.put, List.getElem_toArray, List.getElem_cons_zero, List.getElem_cons_succ, List.setIfInBounds_toArray, List.set_cons_zero, List.set_cons_succ]
        refine wpAnyH_take (i := 20) (v := .agg D2.toList.toArray) rfl (by kernel_rfl) (by kernel_rfl) (by kernel_rfl) (fun _ _ _ h => h) (yieldsIf_load_mid (by rfl) 42 (.tmp 11) rfl w4.heap.size 0 rfl D2.toList _ (fun _ h => h) Tryd.underlying42 rfl (by rw [size42]; simp [HDS.out])) (by assumption) ?_
        simp only [Act.put, List.getElem_toArray, List.getElem_cons_zero, List.getElem_cons_succ, List.setIfInBounds_toArray, List.set_cons_zero, List.set_cons_succ]
        simp only [Array.toArray_toList]
        refine wpAnyH_ready (rs := [19]) (by kernel_rfl) (by simp) ?_
        refine AllReadyH.cons rfl (fun K hK => ?_) AllReadyH.nil
        go_simp
        refine Calls.mono (HCB.out _ HCy2.out) ?_
        rintro e y3 ⟨rfl, hy3⟩
        have HCy3 : Hid (Below w11.heap.size w11 y3) := HCy2.out.trans (hy3.mono HCy2.out.size)
        clear hy3
        go_wp2_with fail
        refine hK.out _ _ (HSD.out _ HCy3.out) (fun hHeld2 => ?_)
        clear hK K
        refine wpAnyH_take (i := 21) (v := ?_) rfl (by kernel_rfl) (by kernel_rfl) (by kernel_rfl) (fun _ _ _ h => h) (Or.inl ⟨by rfl, ?_⟩) (by assumption) ?_
        rotate_left
        · (intro w hSw; (try dsimp only at hSw); go_simp; try with_reducible rfl)
        simp only [Act.put, List.getElem_toArray, List.getElem_cons_zero, List.getElem_cons_succ, List.setIfInBounds_toArray, List.set_cons_zero, List.set_cons_succ]
        refine wpAnyH_take (i := 22) (v := ?_) rfl (by kernel_rfl) (by kernel_rfl) (by kernel_rfl) (fun _ _ _ h => h) (Or.inl ⟨by rfl, ?_⟩) (by assumption) ?_
        rotate_left
        · (intro w hSw; (try dsimp only at hSw); go_simp; try with_reducible rfl)
        simp only [Act.put, List.getElem_toArray, List.getElem_cons_zero, List.getElem_cons_succ, List.setIfInBounds_toArray, List.set_cons_zero, List.set_cons_succ]
        refine wpAnyH_take (i := 23) (v := ?_) rfl (by kernel_rfl) (by kernel_rfl) (by kernel_rfl) (fun _ _ _ h => h) (Or.inl ⟨by rfl, ?_⟩) (by assumption) ?_
        rotate_left
        · (intro w hSw; (try dsimp only at hSw); go_simp; try with_reducible rfl)
        simp only [Act.put, List.getElem_toArray, List.getElem_cons_zero, List.getElem_cons_succ, List.setIfInBounds_toArray, List.set_cons_zero, List.set_cons_succ]
        refine wpAnyH_take (i := 24) (v := ?_) rfl (by kernel_rfl) (by kernel_rfl) (by kernel_rfl) (fun _ _ _ h => h) (Or.inl ⟨by rfl, ?_⟩) (by assumption) ?_
        rotate_left
        · (intro w hSw; (try dsimp only at hSw); go_simp; try with_reducible rfl)
        simp only [Act.put, List.getElem_toArray, List.getElem_cons_zero, List.getElem_cons_succ, List.setIfInBounds_toArray, List.set_cons_zero, List.set_cons_succ]
        refine wpAnyH_take (i := 25) (v := ?_) rfl (by kernel_rfl) (by kernel_rfl) (by kernel_rfl) (fun _ _ _ h => h) (Or.inl ⟨by rfl, ?_⟩) (by assumption) ?_
        rotate_left
        · (intro w hSw; (try dsimp only at hSw); go_simp; try with_reducible rfl)
        simp only [Act.put, List.getElem_toArray, List.getElem_cons_zero, List.getElem_cons_succ, List.setIfInBounds_toArray, List.set_cons_zero, List.set_cons_succ]
        refine wpAnyH_take (i := 27) (v := ?_) rfl (by kernel_rfl) (by kernel_rfl) (by kernel_rfl) (fun _ _ _ h => h) (Or.inl ⟨by rfl, ?_⟩) (by assumption) ?_
        rotate_left
        · (intro w hSw; (try dsimp only at hSw); go_simp; try with_reducible rfl)
        simp only [Act.put, List.getElem_toArray, List.getElem_cons_zero, List.getElem_cons_succ, List.setIfInBounds_toArray, List.set_cons_zero, List.set_cons_succ]
        refine wpAnyH_ready (rs := [26]) (by kernel_rfl) (by simp) ?_
        refine AllReadyH.cons rfl (fun K hK => ?_) AllReadyH.nil
        go_simp
        refine Calls.mono (HLAx.out _ HCy3.out) ?_
        rintro e wz ⟨rfl, hwz⟩
        rw [hwz]
        clear hwz
        go_wp2_with fail
        refine hK.out _ _ (HSD.out _ HCy3.out) (fun hHeld2 => ?_)
        clear hK K
        refine wpAnyH_ready (rs := [28]) (by kernel_rfl) (by simp) ?_
        refine AllReadyH.cons rfl (fun K hK => ?_) AllReadyH.nil
        go_simp
        refine Calls.mono (HLBx.out _ HCy3.out) ?_
        rintro e wz ⟨rfl, hwz⟩
        rw [hwz]
        clear hwz
        go_wp2_with fail
        refine hK.out _ _ (HSD.out _ HCy3.out) (fun hHeld2 => ?_)
        clear hK K
        refine wpAnyH_take (i := 29) (v := ?_) rfl (by kernel_rfl) (by kernel_rfl) (by kernel_rfl) (fun _ _ _ h => h) (Or.inl ⟨by rfl, ?_⟩) (by assumption) ?_
        rotate_left
        · (intro w hSw; (try dsimp only at hSw); go_simp; try with_reducible rfl)
        simp only [Act.put, List.getElem_toArray, List.getElem_cons_zero, List.getElem_cons_succ, List.setIfInBounds_toArray, List.set_cons_zero, List.set_cons_succ]
        refine wpAnyH_take (i := 30) (v := ?_) rfl (by kernel_rfl) (by kernel_rfl) (by kernel_rfl) (fun _ _ _ h => h) (Or.inl ⟨by rfl, ?_⟩) (by assumption) ?_
        rotate_left
        · (intro w hSw; (try dsimp only at hSw); go_simp; try with_reducible rfl)
        simp only [Act.put, List.getElem_toArray, List.getElem_cons_zero, List.getElem_cons_succ, List.setIfInBounds_toArray, List.set_cons_zero, List.set_cons_succ]
        refine wpAnyH_take (i := 31) (v := ?_) rfl (by kernel_rfl) (by kernel_rfl) (by kernel_rfl) (fun _ _ _ h => h) (Or.inl ⟨by rfl, ?_⟩) (by assumption) ?_
        rotate_left
        · (intro w hSw; (try dsimp only at hSw); go_simp; try with_reducible rfl)
        simp only [Act.put, List.getElem_toArray, List.getElem_cons_zero, List.getElem_cons_succ, List.setIfInBounds_toArray, List.set_cons_zero, List.set_cons_succ]
        refine wpAnyH_done (by kernel_rfl) ?_ _
        have HNX : Hid (Two (B + 1) y3 ga gb A7 C7 oa6 ob9 ∧ KK y3 ∧ Below B w y3 ∧ y3.heap[B]? = some (.cells #[Value.string kb, Value.string vb, Value.bool db, Value.int IntKind.i64 ql] 29) ∧ Like A7 C7 ∧ A7.last ≤ ((i + 1 : Nat) : Int) + 1) := ⟨HT.out.below HCy3.out, HKX.out.below HCy3.out HKX.out.2, HWX.out.trans (HCy3.out.mono (by have := heap_lt HBX.out; omega)), (HCy3.out.block B (heap_lt HBX.out)).trans HBX.out, HLK.out, (by have := HLA.out; omega)⟩
        clear HT HKX HWX HBX HLK HLA hq2 hmax HCA HCB HLAx HLBx HDX HC7 HL HP1 HP2 HI HNA HNB HQL HLZ HD2 HZ HCy2 HSD HDS HCy1
        go_wp2
        go_roundw
        case rel => exact ⟨i + 1, _, _, _, _, _, by go_num, by omega, by omega, HNX⟩
        case measure => (try simp [intOf]); omega
    · by_cases hni : i < n
      · have hz1 : (i : Int) < (n : Int) := by omega
        have hz2 : ¬ ((i : Int) < 40) := by omega
        have dz2 : decide ((i : Int) < 40) = false := decide_eq_false hz2
        clear hin hni
        go_wp2
        go_ret
        exact ⟨rfl, HI.out.2.2.1⟩
      · have hz1 : ¬ ((i : Int) < (n : Int)) := by omega
        have dz1 : decide ((i : Int) < (n : Int)) = false := decide_eq_false hz1
        have dz3 : decide (i < n) = false := decide_eq_false hni
        clear hin hni
        go_wp2
        go_ret
        exact ⟨rfl, HI.out.2.2.1⟩
end Go.Proofs.YtaamekkbgaeafaaDoor

/-
  What touched answers: a contract over this translation.
-/
import Derived.Test.YtnkbhojflcckmaaPkN
import Derived.Test.YtnkbhojflcckmaaPkK
namespace Go.Proofs.Ytnkbhojflcckmaa
open Go.RowKit
set_option linter.unusedSectionVars false
def enters (q : FuncId) : Prop := ∀ args w, (callFunc q args).run Try.prog w = .ok (.enter q args) w
theorem enters29 : enters 29 := enters_of Try.func29 (by kernel_rfl) rfl
theorem enters31 : enters 31 := enters_of Try.func31 (by kernel_rfl) rfl
theorem enters26 : enters 26 := enters_of Try.func26 (by kernel_rfl) rfl
theorem size45 : (Try.prog.info? 45).map (·.size) = some 3 := by kernel_rfl
/-- The least First, the greatest Last. -/
def loT (ts : List Tb) : ByteArray := minN (ts.map Tb.first) ts.length
def hiT (ts : List Tb) : ByteArray := maxN (ts.map Tb.last) ts.length
set_option maxRecDepth 100000 in
set_option maxHeartbeats 8000000 in
theorem touched_any (tl : Int) (ao : Option Addr) (n c : Nat) (ts : List Tb) (w : World) (hE : TabsV w ao n ts) (hn : n ≤ 1000) (h1 : 1 ≤ n) :
    Calls Try.prog 20 #[.int .i64 tl, .slice ao n c] w fun e w' => e = .returned (.agg #[.int .i64 tl, .string (loT ts), .string (hiT ts)]) ∧ Below w.heap.size w w' := by
  obtain ⟨W, HW⟩ : ∃ W, Hid (w.alloc (.cells #[.int .i64 0, .string ⟨#[]⟩, .string ⟨#[]⟩] 45) = W) := ⟨_, rfl⟩
  have HB0 : Hid (W.heap[w.heap.size]? = some (.cells #[.int .i64 0, .string ⟨#[]⟩, .string ⟨#[]⟩] 45 (0, 0))) := by show _ = _; rw [← HW.out]; exact heap_alloc_new w _
  have HWB : Hid (Below w.heap.size w W ∧ W.heap.size = w.heap.size + 1) := by rw [← HW.out]; exact ⟨bel_alloc w _, by simp⟩
  have HE : Hid (∀ V, Below w.heap.size w V → TabsV V ao n ts) := fun V hV => hE.below hV (Nat.le_refl _)
  have HLN : Hid (ts.length = n) := hE.1
  have C1 : Hid _ := askedS_any 29 Tb.first enters29 ao n c ts W (HE.out W HWB.out.1) hn first_any
  clear hE
  go_enter Try.func20, Try.ntmps20
  go_upto_region 1 with fail
  rw [HW.out]
  go_wp2_with fail
  refine Calls.mono C1.out ?_
  rintro e w1 ⟨v1, rfl, ho1, hb1⟩
  obtain ⟨a1, c1, rfl, hs1, -⟩ := own_strsV ho1
  have HB1 : Hid (Below W.heap.size W w1) := hb1
  have C2 : Hid _ := minL_any a1 n c1 (ts.map Tb.first) w1 hs1 hn h1
  rw [show minN (ts.map Tb.first) n = loT ts by unfold loT; rw [HLN.out]] at C2
  clear ho1 hb1 hs1 C1
  go_wp2_with fail
  refine Calls.mono C2.out ?_
  rintro e w2 ⟨rfl, hb2⟩
  have HB2 : Hid (Below W.heap.size W w2 ∧ Below w.heap.size w w2) := ⟨HB1.out.trans (hb2.mono HB1.out.size), HWB.out.1.trans ((HB1.out.trans (hb2.mono HB1.out.size)).mono HWB.out.1.size)⟩
  have C3 : Hid _ := askedS_any 31 Tb.last enters31 ao n c ts w2 (HE.out w2 HB2.out.2) hn last_any
  clear hb2 C2
  go_wp2_with fail
  refine Calls.mono C3.out ?_
  rintro e w3 ⟨v3, rfl, ho3, hb3⟩
  obtain ⟨a3, c3, rfl, hs3, -⟩ := own_strsV ho3
  have HB3 : Hid (Below W.heap.size W w3) := HB2.out.1.trans (hb3.mono HB2.out.1.size)
  have C4 : Hid _ := maxL_any a3 n c3 (ts.map Tb.last) w3 hs3 hn h1
  rw [show maxN (ts.map Tb.last) n = hiT ts by unfold hiT; rw [HLN.out]] at C4
  clear ho3 hb3 hs3 C3
  go_wp2_with fail
  refine Calls.mono C4.out ?_
  rintro e w4 ⟨rfl, hb4⟩
  have HB4 : Hid (Below W.heap.size W w4) := HB3.out.trans (hb4.mono HB3.out.size)
  have HR4 : Hid (w4.heap[w.heap.size]? = some (.cells #[.int .i64 0, .string ⟨#[]⟩, .string ⟨#[]⟩] 45 (0, 0))) := (HB4.out.block _ (by rw [HWB.out.2]; omega)).trans HB0.out
  have HBE : Hid (Below w.heap.size w w4) := HWB.out.1.trans (HB4.out.mono HWB.out.1.size)
  clear hb4 C4
  have HA : Hid ((#[Value.int .i64 tl, .string (loT ts), .string (hiT ts)] : Array Value).all (·.oneCell') = true) := by show _ = _; simp [Value.oneCell']
  have HZ : Hid ((Try.prog.info? 45).map (·.size) = some (#[Value.int .i64 tl, .string (loT ts), .string (hiT ts)] : Array Value).size) := by show _ = _; rw [size45]; rfl
  go_wp2_with (refine wpList_store_row (P := Try.prog) rfl 45 (.tmp 4) (.tmp 12) rfl w.heap.size #[.int .i64 tl, .string (loT ts), .string (hiT ts)] rfl rfl 45 #[.int .i64 0, .string ⟨#[]⟩, .string ⟨#[]⟩] HR4.out HZ.out rfl HA.out ?_)
  refine bodyPost_ret (results_cell_row rfl _ _ w.heap.size 45 #[.int .i64 tl, .string (loT ts), .string (hiT ts)] (0, 0) _ rfl (setRow_heap _ _ _ _ _ _ HR4.out) Try.underlying45 rfl HZ.out) rfl ?_
  exact ⟨rfl, below_setRow HBE.out (Nat.le_refl _) _⟩
end Go.Proofs.Ytnkbhojflcckmaa

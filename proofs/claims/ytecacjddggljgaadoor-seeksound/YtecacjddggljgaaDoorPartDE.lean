/-
  What seek.places answers: a contract over this translation. What seek.ProveSpan answers: a contract over this translation. What seek.ProveSpan answers: a contract over this translation.
-/
import Derived.Test.YtecacjddggljgaaDoorPartDB
import Derived.Lib.MinMax
import Derived.Test.YtecacjddggljgaaDoorPartDC
namespace Go.Proofs.YtecacjddggljgaaDoor
open Go.RowKit Go.Sort Go.Shelf
set_option linter.unusedSectionVars false
variable [Inhabited E] [DecidableEq E]
def fromN (lo : ByteArray) (es : List E) : Nat := belowN lo es - 1
def endN (hi : ByteArray) (es : List E) : Nat := if hi = ByteArray.empty then es.length else belowN hi es
def toN (hi : ByteArray) (es : List E) : Nat := min (endN hi es + 1) es.length
set_option maxRecDepth 100000 in
set_option maxHeartbeats 2000000 in
theorem places_any (ao : Option Addr) (n c : Nat) (es : List E) (lo hi : ByteArray) (w : World) (hE : EntsV w ao n es) (hn : n ≤ 1000) :
    Calls Tryd.prog 43 #[.slice ao n c, .string lo, .string hi] w fun e w' => e = .returned (.tuple #[.int .i64 (fromN lo es : Nat), .int .i64 (toN hi es : Nat)]) ∧ Below w.heap.size w w' := by
  have hl := hE.1
  have HF : Hid (∀ W k, Below w.heap.size w W → Calls Tryd.prog 31 #[.slice ao n c, .string k] W fun e w' => e = .returned (.tuple #[.int .i64 (belowN k es : Nat), .bool (isIn k es)]) ∧ Below W.heap.size W w') := fun W k hW => find_any ao n c es k W (hE.below hW (Nat.le_refl _)) (by omega)
  have HB : Hid (belowN lo es ≤ n ∧ belowN hi es ≤ n) := by
    have h1 := belowN_le lo es
    have h2 := belowN_le hi es
    exact ⟨by omega, by omega⟩
  have HR : Hid (∀ a b : Nat, a = fromN lo es → b = toN hi es → (Ending.returned (.tuple #[.int .i64 (a : Int), .int .i64 (b : Int)]) : Ending) = .returned (.tuple #[.int .i64 (fromN lo es : Nat), .int .i64 (toN hi es : Nat)])) := fun a b h1 h2 => by rw [h1, h2]
  have HFN : Hid (fromN lo es = belowN lo es - 1) := rfl
  have HTN : Hid (toN hi es = min ((if hi = ByteArray.empty then n else belowN hi es) + 1) n) := by show _ = _; unfold toN endN; rw [hl]
  have hnil := eq_nil hi
  obtain ⟨a, HA⟩ : ∃ a, Hid (belowN lo es = a) := ⟨_, rfl⟩
  obtain ⟨b, HBB⟩ : ∃ b, Hid (belowN hi es = b) := ⟨_, rfl⟩
  obtain ⟨A, HAA⟩ : ∃ a, Hid (fromN lo es = a) := ⟨_, rfl⟩
  obtain ⟨B, HBN⟩ : ∃ b, Hid (toN hi es = b) := ⟨_, rfl⟩
  rw [HA.out, HBB.out] at HB
  rw [HAA.out, HA.out] at HFN
  rw [HBN.out, HBB.out] at HTN
  have HNN : Hid (n ≤ 1000) := hn
  rw [HAA.out, HBN.out]
  clear hE hl HR hn
  go_enter Tryd.func43, Tryd.ntmps43
  go_wp2_with fail
  refine (HF.out w lo (Below.refl _ _)).mono ?_
  rintro e w1 ⟨rfl, hb1⟩
  have HB1 : Hid _ := hb1
  rw [HA.out]
  clear hb1
  by_cases h0 : hi = ByteArray.empty
  · have e2 : (hi.toList == []) = true := by rw [hnil]; exact decide_eq_true h0
    have HT2 : Hid (B = min (n + 1) n) := by show _ = _; rw [HTN.out, if_pos h0]
    clear hnil h0
    have k1 : wrap64 ((a : Int) - 1) = (a : Int) - 1 := by have := HB.out.1; have := HNN.out; unfold wrap64; omega
    have k2 : wrap64 ((n : Int) + 1) = (n : Int) + 1 := by have := HNN.out; unfold wrap64; omega
    have k3 : IntKind.i64.wrap ((a : Int) - 1) = (a : Int) - 1 := by have := HB.out.1; have := HNN.out; rw [IntKind.wrap_i64]; omega
    have k4 : IntKind.i64.wrap ((n : Int) + 1) = (n : Int) + 1 := by have := HNN.out; rw [IntKind.wrap_i64]; omega
    have k5 : max ((a : Int) - 1) 0 = (A : Int) := by have := HFN.out; omega
    have k6 : min ((n : Int) + 1) (n : Int) = (B : Int) := by have := HT2.out; omega
    go_wp2
    go_ret2
    exact ⟨rfl, HB1.out⟩
  · have e2 : (hi.toList == []) = false := by rw [hnil]; exact decide_eq_false h0
    have HT2 : Hid (B = min (b + 1) n) := by show _ = _; rw [HTN.out, if_neg h0]
    clear hnil h0
    go_wp2_with fail
    refine (HF.out w1 hi HB1.out).mono ?_
    rintro e w2 ⟨rfl, hb2⟩
    have HB2 : Hid (Below w.heap.size w w2) := HB1.out.trans (hb2.mono HB1.out.size)
    rw [HBB.out]
    clear hb2
    have k1 : wrap64 ((a : Int) - 1) = (a : Int) - 1 := by have := HB.out.1; have := HNN.out; unfold wrap64; omega
    have k2 : wrap64 ((b : Int) + 1) = (b : Int) + 1 := by have := HB.out.2; have := HNN.out; unfold wrap64; omega
    have k3 : IntKind.i64.wrap ((a : Int) - 1) = (a : Int) - 1 := by have := HB.out.1; have := HNN.out; rw [IntKind.wrap_i64]; omega
    have k4 : IntKind.i64.wrap ((b : Int) + 1) = (b : Int) + 1 := by have := HB.out.2; have := HNN.out; rw [IntKind.wrap_i64]; omega
    have k5 : max ((a : Int) - 1) 0 = (A : Int) := by have := HFN.out; omega
    have k6 : min ((b : Int) + 1) (n : Int) = (B : Int) := by have := HT2.out; omega
    go_wp2
    go_ret2
    exact ⟨rfl, HB2.out⟩
end Go.Proofs.YtecacjddggljgaaDoor
namespace Go.Proofs.YtecacjddggljgaaDoor
open Go.RowKit Go.Sort Go.Shelf
set_option linter.unusedSectionVars false
variable [Inhabited E] [DecidableEq E]
/-- A span as it lies: its place, its leaves, its path. -/
structure Spn where
  frm : Int
  lo : Option Addr
  ln : Nat
  lc : Nat
  ls : List Sm.LV
  po : Option Addr
  pn : Nat
  pc : Nat
  ds : List (List UInt8)
def Spn.cells (s : Spn) : Array Value := #[.int .i64 s.frm, .slice s.lo s.ln s.lc, .slice s.po s.pn s.pc]
structure SpnV (w : World) (s : Spn) : Prop where
  leaves : Sm.LeavesV w s.lo s.ln s.lc s.ls
  caps : ∀ p ∈ s.ls, p.n ≤ p.c ∧ p.c ≤ 9223372036854775807
  len : s.ds.length = s.pn
  p1 : s.pn ≤ s.pc
  p2 : s.pc ≤ 9223372036854775807
  path : Sm.PathV w s.po s.ds
theorem SpnV.keep {w w' : World} {s : Spn} (h : SpnV w s) (hb : Below w.heap.size w w') : SpnV w' s :=
  ⟨h.leaves.below hb (Nat.le_refl _), h.caps, h.len, h.p1, h.p2, h.path.below hb (Nat.le_refl _)⟩
def zeroSp : Spn := ⟨0, none, 0, 0, [], none, 0, 0, []⟩
theorem zeroSp_V (w : World) : SpnV w zeroSp := ⟨⟨rfl, Nat.le_refl _, by simp [zeroSp], fun h => by simp [zeroSp] at h⟩, fun p h => by simp [zeroSp] at h, rfl, Nat.le_refl _, by simp [zeroSp], ⟨fun d h => by simp [zeroSp] at h, fun h => by simp [zeroSp] at h⟩⟩
def zeroSC : Array Value := #[.int .i64 0, .slice none 0 0, .slice none 0 0]
theorem one3 (a : Int) (lo po : Option Addr) (ln lc pn pc : Nat) : (#[Value.int .i64 a, .slice lo ln lc, .slice po pn pc] : Array Value).all (·.oneCell') = true := by simp [Value.oneCell']
theorem zeroSC_one : zeroSC.all (·.oneCell') = true := one3 0 none none 0 0 0 0
theorem size39 : (Tryd.prog.info? 39).map (·.size) = some 3 := by kernel_rfl
theorem results_sp {fn : Func} {p u : Tmp} (h : fn.results = #[.cell p 39, .tmp u]) (tmps : Array Value) (w : World) (g : Nat) (t : TypeId) (cs : Array Value) (fr : Nat × Nat)
    (hp : tmps.getD p undef = .pointer (some ⟨g, 0, none⟩)) (hg : w.heap[g]? = some (.cells cs t fr)) (hi : (Tryd.prog.info? 39).map (·.size) = some cs.size) :
    (results fn tmps).run Tryd.prog w = .ok (.tuple #[.agg cs, tmps.getD u undef]) w := by
  have hp' : tmps[p]?.getD undef = .pointer (some ⟨g, 0, none⟩) := by simpa using hp
  simp [results, h, hp', asAddr, run_loadVar_row w g t 39 cs fr _ hg Tryd.underlying39 rfl hi]
theorem owns_move {base : Nat} {W V : World} {e : TypeId} {s : Nat} {v : Value} {n : Nat} {xs : List Value} (h : W.ownsRow base e s v n xs) (hk : ∀ k, base ≤ k → k < W.heap.size → V.heap[k]? = W.heap[k]?) : V.ownsRow base e s v n xs := by
  refine ⟨h.1, ?_⟩
  rcases h.2 with h1 | ⟨g, cap, cur, h1, h2, h3, h4⟩
  · exact .inl h1
  · exact .inr ⟨g, cap, cur, h1, h2, (hk g h2 (Array.getElem?_eq_some_iff.1 h3).1).trans h3, h4⟩
theorem leavesO_move {base : Nat} {W V : World} {v : Value} {ls : List SV} (h : LeavesO base W v ls) (hk : ∀ k, base ≤ k → k < W.heap.size → V.heap[k]? = W.heap[k]?) : LeavesO base V v ls :=
  ⟨owns_move h.1 hk, fun p hp => owns_move (h.2 p hp) hk⟩
def spanIs (z : Int) (ls : List Sm.LV) (x y : Nat) (s : Spn) : Prop := s.frm = (x : Int) ∧ Sm.bytesL s.ls = Sm.bytesL (Sm.partL ls x y) ∧ s.ds = Sm.rangeD z ls (x : Int) (y : Int)
def proveSpS (z : Int) (es : List E) (lo hi : ByteArray) (S : Spn) (er : Int) : Prop :=
  if fitB es = true then
    (if ovB es[0]!.key es[es.length - 1]!.key lo hi = true then
      ∃ ls, Sm.bytesL ls = es.map bytesB ∧ er = 0 ∧ spanIs z ls (fromN lo es) (toN hi es) S
    else er = 5 ∧ S = zeroSp)
  else er = 1 ∧ S = zeroSp
theorem below_mono {lo hi : ByteArray} (h : cmpS lo hi < 0) : ∀ (es : List E), belowN lo es ≤ belowN hi es := fun es => by
  unfold belowN
  refine List.countP_mono_left fun e _ he => ?_
  simp only [decide_eq_true_eq] at he ⊢
  exact cmpS_ord.ltle he (by omega)
theorem ov_places {es : List E} {lo hi : ByteArray} (hf : fitB es = true) (h : ovB es[0]!.key es[es.length - 1]!.key lo hi = true) : fromN lo es < toN hi es ∧ toN hi es ≤ es.length := by
  have h1 := (fit_len hf).1
  have hks := fit_ks hf
  unfold ovB at h
  simp only [Bool.and_eq_true, decide_eq_true_eq] at h
  obtain ⟨⟨a1, a2⟩, a3⟩ := h
  have hq : belowN lo es < es.length := by
    have p1 := ks_place lo hks (es.length - 1) (by omega)
    have p2 : ¬ cmpS es[es.length - 1]!.key lo < 0 := fun h => by have := (cmpS_ord.anti _ _).1 h; omega
    have p3 : ¬ es.length - 1 < belowN lo es := fun h => p2 (p1.2 h)
    omega
  unfold fromN toN endN
  unfold belB at a1
  by_cases he : hi = ByteArray.empty
  · rw [if_pos he]; omega
  · rw [if_neg he]
    rw [decide_eq_false he, Bool.false_or, decide_eq_true_eq] at a1
    have := below_mono a1 es
    omega
end Go.Proofs.YtecacjddggljgaaDoor
namespace Go.Proofs.YtecacjddggljgaaDoor
open Go.RowKit Go.Sort Go.Shelf
set_option linter.unusedSectionVars false
variable [Inhabited E] [DecidableEq E]
set_option maxRecDepth 100000 in
set_option maxHeartbeats 4000000 in
theorem proveSpan_any (z : Int) (ao : Option Addr) (n c : Nat) (es : List E) (lo hi : ByteArray) (w : World) (hE : EntsV w ao n es) (hsm : Small es) (hn : n ≤ 1000) (hK : Sm.WW w 1 Sm.ks) (hz0 : 1 < w.heap.size) (hz : -9223372036854775808 ≤ z ∧ z ≤ 9223372036854775807) :
    Calls Tryd.prog 14 #[.agg #[.int .i64 z], .slice ao n c, .string lo, .string hi] w fun e w' => ∃ S er, e = .returned (.tuple #[.agg S.cells, .int .i64 er]) ∧ SpnV w' S ∧ proveSpS z es lo hi S er ∧ Below w.heap.size w w' := by
  have hlen := hE.1
  obtain ⟨W2, HW2⟩ : ∃ W, Hid (W = (w.alloc (.cells #[.int .i64 z] 26)).alloc (.cells #[.int .i64 0, .slice none 0 0, .slice none 0 0] 39)) := ⟨_, rfl⟩
  have HF2 : Hid (W2.heap[w.heap.size]? = some (.cells #[.int .i64 z] 26 (0, 0)) ∧ W2.heap[w.heap.size + 1]? = some (.cells zeroSC 39 (0, 0)) ∧ Below w.heap.size w W2 ∧ W2.heap.size = w.heap.size + 2) := by
    show _ ∧ _
    rw [HW2.out]; exact Sm.frame2 w _ _ _
  have HFT : Hid (∀ W, Below w.heap.size w W → Calls Tryd.prog 36 #[.slice ao n c] W fun e w' => e = .returned (.bool (fitB es)) ∧ Below W.heap.size W w') := fun W hW => fitT_any ao n c es W (hE.below hW (Nat.le_refl _)) hsm (by omega)
  have HEN : Hid (fitB es = true → ∀ W, Below w.heap.size w W → Calls Tryd.prog 37 #[.slice ao n c] W fun e w' => e = .returned (.agg (tabC 0 0 (List.replicate 32 0) es[0]!.key es[es.length - 1]!.key)) ∧ Below W.heap.size W w') := fun hf W hW => by
    have h1 := (fit_len hf).1
    obtain ⟨b, off, h2, -⟩ := hE.2 (by omega)
    subst h2
    exact ends_any b off n c es W (hE.below hW (Nat.le_refl _)) (by omega) hn
  have HLV : Hid (∀ W, Below w.heap.size w W → Calls Tryd.prog 32 #[.slice ao n c] W fun e w' => ∃ v, e = .returned v ∧ ∃ ls, LeavesO W.heap.size w' v ls ∧ ls.map SV.bs = es.map bytesB ∧ Below W.heap.size W w') := fun W hW => leavesT_any ao n c es W (hE.below hW (Nat.le_refl _)) hsm hn
  have HPL : Hid (∀ W, Below w.heap.size w W → Calls Tryd.prog 43 #[.slice ao n c, .string lo, .string hi] W fun e w' => e = .returned (.tuple #[.int .i64 (fromN lo es : Nat), .int .i64 (toN hi es : Nat)]) ∧ Below W.heap.size W w') := fun W hW => places_any ao n c es lo hi W (hE.below hW (Nat.le_refl _)) hn
  have HOV : Hid (∀ W, Calls Tryd.prog 20 #[.agg (tabC 0 0 (List.replicate 32 0) es[0]!.key es[es.length - 1]!.key), .string lo, .string hi] W fun e w' => e = .returned (.bool (ovB es[0]!.key es[es.length - 1]!.key lo hi)) ∧ Below W.heap.size W w') := fun W => overlaps_any _ _ _ lo hi W (tabC_at 0 0 (by simp) _ _).2.2.1 (tabC_at 0 0 (by simp) _ _).2.2.2
  have HRG : Hid (∀ W ao2 c2 ls (x y : Int), Below w.heap.size w W → Sm.LeavesV W ao2 n c2 ls → Calls Tryd.prog 44 #[.agg #[.int .i64 z], .slice ao2 n c2, .int .i64 x, .int .i64 y] W fun e w' => ∃ v, e = .returned (.tuple #[v, .int .i64 (Sm.rangeE n x y)]) ∧ Sm.DgV w' W.heap.size v (Sm.rangeD z ls x y) ∧ Below W.heap.size W w') := fun W ao2 c2 ls x y hW hL => Sm.range_any z ao2 n c2 ls x y W hL hn (hK.below hW hz0) (Nat.lt_of_lt_of_le hz0 hW.size) hz
  have HSP : Hid (∀ S er, (if fitB es = true then (if ovB es[0]!.key es[es.length - 1]!.key lo hi = true then ∃ ls, Sm.bytesL ls = es.map bytesB ∧ er = 0 ∧ spanIs z ls (fromN lo es) (toN hi es) S else er = 5 ∧ S = zeroSp) else er = 1 ∧ S = zeroSp) → proveSpS z es lo hi S er) := fun S er h => h
  have HPP : Hid (fitB es = true → ovB es[0]!.key es[es.length - 1]!.key lo hi = true → fromN lo es < toN hi es ∧ toN hi es ≤ n) := fun h1 h2 => by rw [← hlen]; exact ov_places h1 h2
  have HN : Hid (n ≤ 1000 ∧ es.length = n) := ⟨hn, hlen⟩
  have HBB : Hid (∀ p ∈ es.map bytesB, p.length ≤ 2000) := fun p hp => by obtain ⟨e, -, he⟩ := List.mem_map.1 hp; rw [← he]; exact bytesB_len3 e
  obtain ⟨T, HT⟩ : ∃ t, Hid (tabC 0 0 (List.replicate 32 0) es[0]!.key es[es.length - 1]!.key = t) := ⟨_, rfl⟩
  rw [HT.out] at HEN HOV
  obtain ⟨f, HFF⟩ : ∃ b, Hid (fitB es = b) := ⟨_, rfl⟩
  obtain ⟨cv, HCC⟩ : ∃ b, Hid (ovB es[0]!.key es[es.length - 1]!.key lo hi = b) := ⟨_, rfl⟩
  obtain ⟨x, HXX⟩ : ∃ b, Hid (fromN lo es = b) := ⟨_, rfl⟩
  obtain ⟨y, HYY⟩ : ∃ b, Hid (toN hi es = b) := ⟨_, rfl⟩
  rw [HFF.out] at HFT HEN HSP HPP
  rw [HCC.out] at HOV HSP HPP
  rw [HXX.out, HYY.out] at HPL HSP HPP
  generalize proveSpS z es lo hi = PS at *
  clear hE hsm hn hK hz0 hz hlen
  go_enter Tryd.func14, Tryd.ntmps14
  go_upto_region 1 with fail
  rw [← HW2.out]
  go_wp2_with fail
  refine (HFT.out W2 HF2.out.2.2.1).mono ?_
  rintro e w1 ⟨rfl, hb1⟩
  have HB1 : Hid (Below (w.heap.size + 2) W2 w1 ∧ Below w.heap.size w w1) := ⟨by have h := hb1; rw [HF2.out.2.2.2] at h; exact h, HF2.out.2.2.1.trans (hb1.mono HF2.out.2.2.1.size)⟩
  have HR : Hid (∀ V, Below (w.heap.size + 2) W2 V → V.heap[w.heap.size]? = some (.cells #[.int .i64 z] 26 (0, 0)) ∧ V.heap[w.heap.size + 1]? = some (.cells zeroSC 39 (0, 0))) := fun V hV => ⟨(hV.block _ (by omega)).trans HF2.out.1, (hV.block _ (by omega)).trans HF2.out.2.1⟩
  clear hb1 HFT
  cases f with
  | false =>
    have h0 := HSP.out zeroSp 1 ⟨rfl, rfl⟩
    have H0 : Hid _ := h0
    clear h0
    go_upto_region 2 with fail
    go_wp2_with (refine wpList_store_row rfl 39 (.tmp 8) (.tmp 18) rfl (w.heap.size + 1) zeroSC rfl rfl 39 zeroSC (HR.out _ HB1.out.1).2 size39 rfl zeroSC_one ?_)
    refine bodyPost_ret (results_sp rfl _ _ (w.heap.size + 1) 39 zeroSC (0, 0) rfl (setRow_heap _ _ _ _ _ _ (HR.out _ HB1.out.1).2) size39) rfl ?_
    exact ⟨zeroSp, 1, rfl, zeroSp_V _, H0.out, below_setRow HB1.out.2 (by omega) _⟩
  | true =>
    go_upto_region 3 with fail
    go_wp2_with fail
    refine (HEN.out (by trivial) w1 HB1.out.2).mono ?_
    rintro e w2 ⟨rfl, hb2⟩
    have HB2 : Hid (Below (w.heap.size + 2) W2 w2 ∧ Below w.heap.size w w2) := ⟨HB1.out.1.trans (hb2.mono (by have := HB1.out.1.size; have := HF2.out.2.2.2; omega)), HB1.out.2.trans (hb2.mono HB1.out.2.size)⟩
    clear hb2 HEN
    go_wp2_with fail
    refine (HOV.out w2).mono ?_
    rintro e w3 ⟨rfl, hb3⟩
    have HB3 : Hid (Below (w.heap.size + 2) W2 w3 ∧ Below w.heap.size w w3) := ⟨HB2.out.1.trans (hb3.mono (by have := HB2.out.1.size; have := HF2.out.2.2.2; omega)), HB2.out.2.trans (hb3.mono HB2.out.2.size)⟩
    clear hb3 HOV
    cases cv with
    | false =>
      have h0 := HSP.out zeroSp 5 ⟨rfl, rfl⟩
      have H0 : Hid _ := h0
      clear h0
      go_upto_region 4 with fail
      go_wp2_with (refine wpList_store_row rfl 39 (.tmp 8) (.tmp 25) rfl (w.heap.size + 1) zeroSC rfl rfl 39 zeroSC (HR.out _ HB3.out.1).2 size39 rfl zeroSC_one ?_)
      refine bodyPost_ret (results_sp rfl _ _ (w.heap.size + 1) 39 zeroSC (0, 0) rfl (setRow_heap _ _ _ _ _ _ (HR.out _ HB3.out.1).2) size39) rfl ?_
      exact ⟨zeroSp, 5, rfl, zeroSp_V _, H0.out, below_setRow HB3.out.2 (by omega) _⟩
    | true =>
      go_upto_region 5 with fail
      go_wp2_with fail
      refine (HLV.out w3 HB3.out.2).mono ?_
      rintro e w4 ⟨v4, rfl, ls, hLO, hbs, hb4⟩
      have hbs2 : ∀ p ∈ ls, p.bs.length ≤ 2000 := fun p hp => HBB.out _ (by rw [← hbs]; exact List.mem_map_of_mem hp)
      obtain ⟨ao2, c2, hv4, hLV, hbl⟩ := leavesO_V hLO hbs2
      have hll : ls.length = n := by
        have h1 := congrArg List.length hbs
        simp only [List.length_map] at h1
        rw [h1]; exact HN.out.2
      rw [hll] at hv4 hLV
      subst hv4
      obtain ⟨hxy, hyn⟩ := HPP.out (by trivial) (by trivial)
      obtain ⟨b2, off2, rfl, -⟩ := hLV.2.2.2 (by omega)
      have HLO : Hid _ := hLO
      have HLVV : Hid _ := hLV
      have HBL : Hid (Sm.bytesL (ls.map toLV) = es.map bytesB) := by show _ = _; rw [hbl, hbs]
      have HLL : Hid _ := hll
      have HBS : Hid _ := hbs2
      have HB4 : Hid (Below (w.heap.size + 2) W2 w4 ∧ Below w.heap.size w w4 ∧ Below w3.heap.size w3 w4) := ⟨HB3.out.1.trans (hb4.mono (by have := HB3.out.1.size; have := HF2.out.2.2.2; omega)), HB3.out.2.trans (hb4.mono HB3.out.2.size), hb4⟩
      have HS3 : Hid (w.heap.size + 2 ≤ w3.heap.size) := by have := HB3.out.1.size; have := HF2.out.2.2.2; show _ ≤ _; omega
      have HXY : Hid (x < y ∧ y ≤ n ∧ n ≤ c2 ∧ c2 ≤ 9223372036854775807) := ⟨hxy, hyn, hLV.2.1, hLV.2.2.1⟩
      have HSQ : Hid (∀ S, spanIs z (ls.map toLV) x y S → PS S 0) := fun S h => HSP.out S 0 (by
        refine (if_pos (by trivial)).mpr ((if_pos (by trivial)).mpr ⟨_, HBL.out, by trivial, h⟩))
      clear hb4 hLO hLV hbl hbs hll hbs2 HLV HBB hxy hyn HSP HPP
      go_upto_region 6 with fail
      go_wp2_with fail
      refine (HPL.out w4 HB4.out.2.1).mono ?_
      rintro e w5 ⟨rfl, hb5⟩
      have HB5 : Hid (Below (w.heap.size + 2) W2 w5 ∧ Below w.heap.size w w5 ∧ Below w4.heap.size w4 w5 ∧ w.heap.size + 2 ≤ w5.heap.size) := by
        have h1 := HB4.out.1.size
        have h2 := HF2.out.2.2.2
        have h3 := hb5.size
        exact ⟨HB4.out.1.trans (hb5.mono (by omega)), HB4.out.2.1.trans (hb5.mono HB4.out.2.1.size), hb5, by omega⟩
      clear hb5 HPL
      have HCR : Hid _ := HRG.out w5 (some ⟨b2, off2, none⟩) c2 (ls.map toLV) x y HB5.out.2.1 (Sm.LeavesV.below HLVV.out HB5.out.2.2.1 (Nat.le_refl _))
      clear HRG
      go_wp2_with (refine wpList_load_row rfl 26 (.tmp 4) rfl w.heap.size rfl 26 #[.int .i64 z] (0, 0) _ (HR.out _ HB5.out.1).1 Tryd.underlying26 rfl size26 ?_)
      refine Calls.mono HCR.out ?_
      rintro e w6 ⟨v6, rfl, hdg, hb6⟩
      obtain ⟨po, pc, rfl, hpc1, hpc2, hpv, hpg⟩ := hdg.path
      have HPC : Hid _ := And.intro hpc1 hpc2
      have HPG : Hid (∀ V, (∀ g o vs, w5.heap.size ≤ g → w6.rangeAt g o vs → V.rangeAt g o vs) → Sm.PathV V po (Sm.rangeD z (ls.map toLV) (x : Int) (y : Int))) := fun V hV => by
        refine ⟨hpv.1, fun h => ?_⟩
        obtain ⟨g, rfl, hg, hr⟩ := hpg h
        exact ⟨g, 0, rfl, fun k d hd => by rw [Nat.zero_add]; exact hV g _ _ hg (hr k d hd)⟩
      obtain ⟨q, HQ⟩ : ∃ q, Hid ((Sm.rangeD z (ls.map toLV) (x : Int) (y : Int)).length = q) := ⟨_, rfl⟩
      rw [HQ.out] at HPC
      rw [HQ.out]
      have HB6 : Hid (Below (w.heap.size + 2) W2 w6 ∧ Below w.heap.size w w6 ∧ Below w4.heap.size w4 w6) := ⟨HB5.out.1.trans (hb6.mono (by have := HB5.out.2.2.2; omega)), HB5.out.2.1.trans (hb6.mono HB5.out.2.1.size), HB5.out.2.2.1.trans (hb6.mono HB5.out.2.2.1.size)⟩
      have hx1 : (x : Int) ≤ (y : Int) := by have := HXY.out.1; omega
      have hx2 : (y : Int) ≤ (c2 : Int) := by have := HXY.out; omega
      have hx0 : (0 : Int) ≤ (x : Int) := by omega
      have hx3 : x ≤ y := by have := HXY.out.1; omega
      have hx4 : y ≤ c2 := by have := HXY.out; omega
      have hx5 : ¬ y = x := by have := HXY.out.1; omega
      have hx6 : ¬ y - x = 0 := by have := HXY.out.1; omega
      clear hpc1 hpc2 hpv hpg hb6 hdg HCR
      go_upto_region 8 with fail
      go_wp2_with (refine wpList_store_row rfl 39 (.tmp 8) (.tmp 50) rfl (w.heap.size + 1) #[.int .i64 (x : Int), .slice (some ⟨b2, off2 + x, none⟩) (y - x) (y - x), .slice po q pc] rfl rfl 39 zeroSC (HR.out _ HB6.out.1).2 size39 rfl (one3 _ _ _ _ _ _ _) ?_)
      refine bodyPost_ret (results_sp rfl _ _ (w.heap.size + 1) 39 #[.int .i64 (x : Int), .slice (some ⟨b2, off2 + x, none⟩) (y - x) (y - x), .slice po q pc] (0, 0) rfl (setRow_heap _ _ _ _ _ _ (HR.out _ HB6.out.1).2) size39) rfl ?_
      refine ⟨⟨(x : Int), some ⟨b2, off2 + x, none⟩, y - x, y - x, Sm.partL (ls.map toLV) x y, po, q, pc, Sm.rangeD z (ls.map toLV) (x : Int) (y : Int)⟩, 0, rfl, ⟨?_, ?_, HQ.out, HPC.out.1, HPC.out.2, ?_⟩, HSQ.out _ ⟨rfl, rfl, rfl⟩, below_setRow HB6.out.2.1 (by omega) _⟩
      · have h1 := leavesO_move (V := w6.setRow (w.heap.size + 1) #[.int .i64 (x : Int), .slice (some ⟨b2, off2 + x, none⟩) (y - x) (y - x), .slice po q pc]) HLO.out (fun k hk hk2 => by
          rw [setRow_other w6 (w.heap.size + 1) k _ (by have := HS3.out; omega)]
          exact HB6.out.2.2.block k hk2)
        obtain ⟨ao3, c3, hv3, hL3, -⟩ := leavesO_V h1 HBS.out
        rw [HLL.out] at hL3
        cases hv3
        have h2 := Sm.LeavesV.part hL3 x y HXY.out.1 HXY.out.2.1
        exact ⟨h2.1, Nat.le_refl _, by have := HXY.out; show y - x ≤ _; omega, h2.2.2.2⟩
      · intro p hp
        have hp2 : p ∈ ls.map toLV := by
          unfold Sm.partL at hp
          exact List.mem_of_mem_drop (List.mem_of_mem_take hp)
        obtain ⟨p0, hp0, rfl⟩ := List.mem_map.1 hp2
        exact leaf_cap HLO.out hp0
      · exact HPG.out _ (fun g o vs hg hr j v hv => Sm.cell_row_far (hr j v hv) (by have := HB5.out.2.2.2; show g ≠ _; omega))
end Go.Proofs.YtecacjddggljgaaDoor

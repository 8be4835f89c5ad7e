/-
  What seek.places answers: a contract over this translation. What seek.ProveSpan answers: a contract over this translation.
-/
import Derived.Test.YtecacjddggljgaaDoorPartDB
import Derived.Lib.MinMax
import Derived.Test.YtecacjddggljgaaDoorPartDC
namespace Go.Proofs.YtecacjddggljgaaDoor
open Go.RowKit Go.Sort Go.Shelf
set_option linter.unusedSectionVars false
variable [Inhabited E] [DecidableEq E]
def fromN (lo : ByteArray) (es : List E) : Nat := belowN lo es - 1
def endN (hi : ByteArray) (es : List E) : Nat := if hi = ByteArray.empty then es.length else belowN hi es
def toN (hi : ByteArray) (es : List E) : Nat := min (endN hi es + 1) es.length
set_option maxRecDepth 100000 in
set_option maxHeartbeats 2000000 in
theorem places_any (ao : Option Addr) (n c : Nat) (es : List E) (lo hi : ByteArray) (w : World) (hE : EntsV w ao n es) (hn : n ≤ 1000) :
    Calls Tryd.prog 43 #[.slice ao n c, .string lo, .string hi] w fun e w' => e = .returned (.tuple #[.int .i64 (fromN lo es : Nat), .int .i64 (toN hi es : Nat)]) ∧ Below w.heap.size w w' := by
  have hl := hE.1
  have HF : Hid (∀ W k, Below w.heap.size w W → Calls Tryd.prog 31 #[.slice ao n c, .string k] W fun e w' => e = .returned (.tuple #[.int .i64 (belowN k es : Nat), .bool (isIn k es)]) ∧ Below W.heap.size W w') := fun W k hW => find_any ao n c es k W (hE.below hW (Nat.le_refl _)) (by omega)
  have HB : Hid (belowN lo es ≤ n ∧ belowN hi es ≤ n) := by
    have h1 := belowN_le lo es
    have h2 := belowN_le hi es
    exact ⟨by omega, by omega⟩
  have HR : Hid (∀ a b : Nat, a = fromN lo es → b = toN hi es → (Ending.returned (.tuple #[.int .i64 (a : Int), .int .i64 (b : Int)]) : Ending) = .returned (.tuple #[.int .i64 (fromN lo es : Nat), .int .i64 (toN hi es : Nat)])) := fun a b h1 h2 => by rw [h1, h2]
  have HFN : Hid (fromN lo es = belowN lo es - 1) := rfl
  have HTN : Hid (toN hi es = min ((if hi = ByteArray.empty then n else belowN hi es) + 1) n) := by show _ = _; unfold toN endN; rw [hl]
  have hnil := eq_nil hi
  obtain ⟨a, HA⟩ : ∃ a, Hid (belowN lo es = a) := ⟨_, rfl⟩
  obtain ⟨b, HBB⟩ : ∃ b, Hid (belowN hi es = b) := ⟨_, rfl⟩
  obtain ⟨A, HAA⟩ : ∃ a, Hid (fromN lo es = a) := ⟨_, rfl⟩
  obtain ⟨B, HBN⟩ : ∃ b, Hid (toN hi es = b) := ⟨_, rfl⟩
  rw [HA.out, HBB.out] at HB
  rw [HAA.out, HA.out] at HFN
  rw [HBN.out, HBB.out] at HTN
  have HNN : Hid (n ≤ 1000) := hn
  rw [HAA.out, HBN.out]
  clear hE hl HR hn
  go_enter Tryd.func43, Tryd.ntmps43
  go_wp2_with fail
  refine (HF.out w lo (Below.refl _ _)).mono ?_
  rintro e w1 ⟨rfl, hb1⟩
  have HB1 : Hid _ := hb1
  rw [HA.out]
  clear hb1
  by_cases h0 : hi = ByteArray.empty
  · have e2 : (hi.toList == []) = true := by rw [hnil]; exact decide_eq_true h0
    have HT2 : Hid (B = min (n + 1) n) := by show _ = _; rw [HTN.out, if_pos h0]
    clear hnil h0
    have k1 : wrap64 ((a : Int) - 1) = (a : Int) - 1 := by have := HB.out.1; have := HNN.out; unfold wrap64; omega
    have k2 : wrap64 ((n : Int) + 1) = (n : Int) + 1 := by have := HNN.out; unfold wrap64; omega
    have k3 : IntKind.i64.wrap ((a : Int) - 1) = (a : Int) - 1 := by have := HB.out.1; have := HNN.out; rw [IntKind.wrap_i64]; omega
    have k4 : IntKind.i64.wrap ((n : Int) + 1) = (n : Int) + 1 := by have := HNN.out; rw [IntKind.wrap_i64]; omega
    have k5 : max ((a : Int) - 1) 0 = (A : Int) := by have := HFN.out; omega
    have k6 : min ((n : Int) + 1) (n : Int) = (B : Int) := by have := HT2.out; omega
    go_wp2
    go_ret2
    exact ⟨rfl, HB1.out⟩
  · have e2 : (hi.toList == []) = false := by rw [hnil]; exact decide_eq_false h0
    have HT2 : Hid (B = min (b + 1) n) := by show _ = _; rw [HTN.out, if_neg h0]
    clear hnil h0
    go_wp2_with fail
    refine (HF.out w1 hi HB1.out).mono ?_
    rintro e w2 ⟨rfl, hb2⟩
    have HB2 : Hid (Below w.heap.size w w2) := HB1.out.trans (hb2.mono HB1.out.size)
    rw [HBB.out]
    clear hb2
    have k1 : wrap64 ((a : Int) - 1) = (a : Int) - 1 := by have := HB.out.1; have := HNN.out; unfold wrap64; omega
    have k2 : wrap64 ((b : Int) + 1) = (b : Int) + 1 := by have := HB.out.2; have := HNN.out; unfold wrap64; omega
    have k3 : IntKind.i64.wrap ((a : Int) - 1) = (a : Int) - 1 := by have := HB.out.1; have := HNN.out; rw [IntKind.wrap_i64]; omega
    have k4 : IntKind.i64.wrap ((b : Int) + 1) = (b : Int) + 1 := by have := HB.out.2; have := HNN.out; rw [IntKind.wrap_i64]; omega
    have k5 : max ((a : Int) - 1) 0 = (A : Int) := by have := HFN.out; omega
    have k6 : min ((b : Int) + 1) (n : Int) = (B : Int) := by have := HT2.out; omega
    go_wp2
    go_ret2
    exact ⟨rfl, HB2.out⟩
end Go.Proofs.YtecacjddggljgaaDoor
namespace Go.Proofs.YtecacjddggljgaaDoor
open Go.RowKit Go.Sort Go.Shelf
set_option linter.unusedSectionVars false
variable [Inhabited E] [DecidableEq E]
/-- A span as it lies: its place, its leaves, its path. -/
structure Spn where
  frm : Int
  lo : Option Addr
  ln : Nat
  lc : Nat
  ls : List Sm.LV
  po : Option Addr
  pn : Nat
  pc : Nat
  ds : List (List UInt8)
def Spn.cells (s : Spn) : Array Value := #[.int .i64 s.frm, .slice s.lo s.ln s.lc, .slice s.po s.pn s.pc]
structure SpnV (w : World) (s : Spn) : Prop where
  leaves : Sm.LeavesV w s.lo s.ln s.lc s.ls
  caps : ∀ p ∈ s.ls, p.n ≤ p.c ∧ p.c ≤ 9223372036854775807
  len : s.ds.length = s.pn
  p1 : s.pn ≤ s.pc
  p2 : s.pc ≤ 9223372036854775807
  path : Sm.PathV w s.po s.ds
theorem SpnV.keep {w w' : World} {s : Spn} (h : SpnV w s) (hb : Below w.heap.size w w') : SpnV w' s :=
  ⟨h.leaves.below hb (Nat.le_refl _), h.caps, h.len, h.p1, h.p2, h.path.below hb (Nat.le_refl _)⟩
def zeroSp : Spn := ⟨0, none, 0, 0, [], none, 0, 0, []⟩
theorem zeroSp_V (w : World) : SpnV w zeroSp := ⟨⟨rfl, Nat.le_refl _, by simp [zeroSp], fun h => by simp [zeroSp] at h⟩, fun p h => by simp [zeroSp] at h, rfl, Nat.le_refl _, by simp [zeroSp], ⟨fun d h => by simp [zeroSp] at h, fun h => by simp [zeroSp] at h⟩⟩
def zeroSC : Array Value := #[.int .i64 0, .slice none 0 0, .slice none 0 0]
theorem one3 (a : Int) (lo po : Option Addr) (ln lc pn pc : Nat) : (#[Value.int .i64 a, .slice lo ln lc, .slice po pn pc] : Array Value).all (·.oneCell') = true := by simp [Value.oneCell']
theorem zeroSC_one : zeroSC.all (·.oneCell') = true := one3 0 none none 0 0 0 0
theorem size39 : (Tryd.prog.info? 39).map (·.size) = some 3 := by kernel_rfl
theorem results_sp {fn : Func} {p u : Tmp} (h : fn.results = #[.cell p 39, .tmp u]) (tmps : Array Value) (w : World) (g : Nat) (t : TypeId) (cs : Array Value) (fr : Nat × Nat)
    (hp : tmps.getD p undef = .pointer (some ⟨g, 0, none⟩)) (hg : w.heap[g]? = some (.cells cs t fr)) (hi : (Tryd.prog.info? 39).map (·.size) = some cs.size) :
    (results fn tmps).run Tryd.prog w = .ok (.tuple #[.agg cs, tmps.getD u undef]) w := by
  have hp' : tmps[p]?.getD undef = .pointer (some ⟨g, 0, none⟩) := by simpa using hp
  simp [results, h, hp', asAddr, run_loadVar_row w g t 39 cs fr _ hg Tryd.underlying39 rfl hi]
theorem owns_move {base : Nat} {W V : World} {e : TypeId} {s : Nat} {v : Value} {n : Nat} {xs : List Value} (h : W.ownsRow base e s v n xs) (hk : ∀ k, base ≤ k → k < W.heap.size → V.heap[k]? = W.heap[k]?) : V.ownsRow base e s v n xs := by
  refine ⟨h.1, ?_⟩
  rcases h.2 with h1 | ⟨g, cap, cur, h1, h2, h3, h4⟩
  · exact .inl h1
  · exact .inr ⟨g, cap, cur, h1, h2, (hk g h2 (Array.getElem?_eq_some_iff.1 h3).1).trans h3, h4⟩
theorem leavesO_move {base : Nat} {W V : World} {v : Value} {ls : List SV} (h : LeavesO base W v ls) (hk : ∀ k, base ≤ k → k < W.heap.size → V.heap[k]? = W.heap[k]?) : LeavesO base V v ls :=
  ⟨owns_move h.1 hk, fun p hp => owns_move (h.2 p hp) hk⟩
def spanIs (z : Int) (ls : List Sm.LV) (x y : Nat) (s : Spn) : Prop := s.frm = (x : Int) ∧ Sm.bytesL s.ls = Sm.bytesL (Sm.partL ls x y) ∧ s.ds = Sm.rangeD z ls (x : Int) (y : Int)
def proveSpS (z : Int) (es : List E) (lo hi : ByteArray) (S : Spn) (er : Int) : Prop :=
  if fitB es = true then
    (if ovB es[0]!.key es[es.length - 1]!.key lo hi = true then
      ∃ ls, Sm.bytesL ls = es.map bytesB ∧ er = 0 ∧ spanIs z ls (fromN lo es) (toN hi es) S
    else er = 5 ∧ S = zeroSp)
  else er = 1 ∧ S = zeroSp
theorem below_mono {lo hi : ByteArray} (h : cmpS lo hi < 0) : ∀ (es : List E), belowN lo es ≤ belowN hi es := fun es => by
  unfold belowN
  refine List.countP_mono_left fun e _ he => ?_
  simp only [decide_eq_true_eq] at he ⊢
  exact cmpS_ord.ltle he (by omega)
theorem ov_places {es : List E} {lo hi : ByteArray} (hf : fitB es = true) (h : ovB es[0]!.key es[es.length - 1]!.key lo hi = true) : fromN lo es < toN hi es ∧ toN hi es ≤ es.length := by
  have h1 := (fit_len hf).1
  have hks := fit_ks hf
  unfold ovB at h
  simp only [Bool.and_eq_true, decide_eq_true_eq] at h
  obtain ⟨⟨a1, a2⟩, a3⟩ := h
  have hq : belowN lo es < es.length := by
    have p1 := ks_place lo hks (es.length - 1) (by omega)
    have p2 : ¬ cmpS es[es.length - 1]!.key lo < 0 := fun h => by have := (cmpS_ord.anti _ _).1 h; omega
    have p3 : ¬ es.length - 1 < belowN lo es := fun h => p2 (p1.2 h)
    omega
  unfold fromN toN endN
  unfold belB at a1
  by_cases he : hi = ByteArray.empty
  · rw [if_pos he]; omega
  · rw [if_neg he]
    rw [decide_eq_false he, Bool.false_or, decide_eq_true_eq] at a1
    have := below_mono a1 es
    omega
end Go.Proofs.YtecacjddggljgaaDoor

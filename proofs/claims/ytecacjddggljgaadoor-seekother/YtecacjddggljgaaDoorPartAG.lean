/-
  What seek.below, seek.Covers and seek.Overlaps answer: contracts over this translation. Arguments that are entries, lists of entries and bytes, opened. A key's place parts a sorted list: what the law EntryFinds answers, for any arguments.
-/
import Derived.Test.YtecacjddggljgaaDoorPartAF
import Derived.Lib.SmallJoins
import Derived.Deep.Slices
import Derived.OpenShut
import Derived.ShutString
namespace Go.Proofs.YtecacjddggljgaaDoor
open Go.RowKit Go.Sort Go.Shelf
set_option linter.unusedSectionVars false
variable [Inhabited E] [DecidableEq E]
def belB (k hi : ByteArray) : Bool := decide (hi = ByteArray.empty) || decide (cmpS k hi < 0)
def covB (f l k : ByteArray) : Bool := decide (cmpS f k ≤ 0) && decide (cmpS k l ≤ 0)
def ovB (f l lo hi : ByteArray) : Bool := belB lo hi && decide (cmpS lo l ≤ 0) && belB f hi
theorem eq_nil (hi : ByteArray) : (hi.toList == []) = decide (hi = ByteArray.empty) := by
  have h := eq_cmpS hi ByteArray.empty
  rwa [show ByteArray.empty.toList = [] from by decide +kernel] at h
theorem le_cmpS (a b : ByteArray) : (Op.bytesLess a.toList b.toList || (a.toList == b.toList)) = decide (cmpS a b ≤ 0) := by
  rw [less_cmpS, eq_cmpS]
  by_cases h : a = b
  · subst h; have := cmpS_ord.self a; simp [this]
  · have h2 : cmpS a b ≠ 0 := fun h3 => h (cmpS_eq.1 h3)
    rw [decide_eq_false h, Bool.or_false]
    exact decide_eq_decide.2 ⟨fun x => by omega, fun x => by omega⟩
theorem le_cases (a b : ByteArray) : (Op.bytesLess a.toList b.toList = true ∧ decide (cmpS a b ≤ 0) = true) ∨ (Op.bytesLess a.toList b.toList = false ∧ (a.toList == b.toList) = true ∧ decide (cmpS a b ≤ 0) = true) ∨ (Op.bytesLess a.toList b.toList = false ∧ (a.toList == b.toList) = false ∧ decide (cmpS a b ≤ 0) = false) := by
  have h := le_cmpS a b
  cases h1 : Op.bytesLess a.toList b.toList <;> cases h2 : (a.toList == b.toList) <;> rw [h1, h2] at h <;> simp_all
set_option maxRecDepth 100000 in
theorem below_any (k hi : ByteArray) (w : World) : Calls Tryd.prog 48 #[.string k, .string hi] w fun e w' => e = .returned (.bool (belB k hi)) ∧ Below w.heap.size w w' := by
  have e1 := less_cmpS k hi
  have e2 := eq_nil hi
  obtain ⟨B, HB⟩ : ∃ x, Hid (belB k hi = x) := ⟨_, rfl⟩
  rw [HB.out]
  go_enter Tryd.func48, Tryd.ntmps48
  by_cases h1 : hi = ByteArray.empty
  · have e2' : (hi.toList == []) = true := by rw [e2]; exact decide_eq_true h1
    have H1 : Hid _ := h1
    clear e1 e2 h1
    go_wp2
    go_ret
    exact ⟨by rw [← HB.out]; unfold belB; rw [decide_eq_true H1.out]; rfl, Below.refl _ _⟩
  · have e2' : (hi.toList == []) = false := by rw [e2]; exact decide_eq_false h1
    have H1 : Hid _ := h1
    clear e2 h1
    by_cases h2 : cmpS k hi < 0
    · have e1' : Op.bytesLess k.toList hi.toList = true := by rw [e1]; exact decide_eq_true h2
      have H2 : Hid _ := h2
      clear e1 h2
      go_wp2
      go_ret
      exact ⟨by rw [← HB.out]; unfold belB; rw [decide_eq_false H1.out, decide_eq_true H2.out]; rfl, Below.refl _ _⟩
    · have e1' : Op.bytesLess k.toList hi.toList = false := by rw [e1]; exact decide_eq_false h2
      have H2 : Hid _ := h2
      clear e1 h2
      go_wp2
      go_ret
      exact ⟨by rw [← HB.out]; unfold belB; rw [decide_eq_false H1.out, decide_eq_false H2.out]; rfl, Below.refl _ _⟩
theorem cell_kept {B : Nat} {w w' : World} (h : Below B w w') {g i : Nat} {v : Value} (hg : g < B) (hc : w.cell? ⟨g, i, none⟩ = some v) : w'.cell? ⟨g, i, none⟩ = some v := by
  simp only [World.cell?] at hc ⊢
  rw [h.block g hg]; exact hc
/-- A table's two keys, read where it lies. -/
theorem box_keys (w : World) (cells : Array Value) (t : TypeId) (i : Nat) (v : Value) (h : cells[i]? = some v) : (w.alloc (.cells cells t)).cell? ⟨w.heap.size, i, none⟩ = some v := by
  rw [cell_of_row _ _ _ _ _ _ (show (w.alloc (Obj.cells cells t)).heap[w.heap.size]? = some (Obj.cells cells t (0, 0)) by rw [heap_alloc_get, if_pos rfl])]
  exact h
set_option maxRecDepth 100000 in
theorem covers_any (cells : Array Value) (f l k : ByteArray) (w : World) (hf : cells[34]? = some (.string f)) (hl : cells[35]? = some (.string l)) : Calls Tryd.prog 18 #[.agg cells, .string k] w fun e w' => e = .returned (.bool (covB f l k)) ∧ Below w.heap.size w w' := by
  have c1 := box_keys w cells 48 34 _ hf
  have c2 := box_keys w cells 48 35 _ hl
  have HU : Hid (∀ x y, decide (cmpS f k ≤ 0) = x → decide (cmpS k l ≤ 0) = y → covB f l k = (x && y)) := fun x y hx hy => by unfold covB; rw [hx, hy]
  obtain ⟨B, HB⟩ : ∃ x, Hid (covB f l k = x) := ⟨_, rfl⟩
  rw [HB.out]
  clear hf hl
  go_enter Tryd.func18, Tryd.ntmps18
  rcases le_cases f k with ⟨a1, a3⟩ | ⟨a1, a2, a3⟩ | ⟨a1, a2, a3⟩ <;> rcases le_cases k l with ⟨b1, b3⟩ | ⟨b1, b2, b3⟩ | ⟨b1, b2, b3⟩ <;>
    (have A3 : Hid _ := HU.out _ _ a3 b3
     clear a3 b3 HU
     go_wp2
     go_ret
     exact ⟨by rw [← HB.out, A3.out]; rfl, bel_alloc _ _⟩)
set_option maxRecDepth 100000 in
set_option maxHeartbeats 2000000 in
theorem overlaps_any (cells : Array Value) (f l lo hi : ByteArray) (w : World) (hf : cells[34]? = some (.string f)) (hl : cells[35]? = some (.string l)) : Calls Tryd.prog 20 #[.agg cells, .string lo, .string hi] w fun e w' => e = .returned (.bool (ovB f l lo hi)) ∧ Below w.heap.size w w' := by
  have c1 := box_keys w cells 48 34 _ hf
  have c2 := box_keys w cells 48 35 _ hl
  obtain ⟨B, HB⟩ : ∃ x, Hid (ovB f l lo hi = x) := ⟨_, rfl⟩
  rw [HB.out]
  clear hf hl
  go_enter Tryd.func20, Tryd.ntmps20
  obtain ⟨x, HX⟩ : ∃ x, Hid (belB lo hi = x) := ⟨_, rfl⟩
  obtain ⟨y, HY⟩ : ∃ x, Hid (belB f hi = x) := ⟨_, rfl⟩
  have k1 : Aside (∀ w, Calls Tryd.prog 48 #[.string lo, .string hi] w fun e w' => e = .returned (.bool x) ∧ Below w.heap.size w w') := fun w => by rw [← HX.out]; exact below_any lo hi w
  have k2 : Aside (∀ w, Calls Tryd.prog 48 #[.string f, .string hi] w fun e w' => e = .returned (.bool y) ∧ Below w.heap.size w w') := fun w => by rw [← HY.out]; exact below_any f hi w
  have HR : Hid (B = (x && decide (cmpS lo l ≤ 0) && y)) := by show _ = _; rw [← HB.out, ← HX.out, ← HY.out]; rfl
  clear HX HY HB
  go_wp2_with fail
  refine (k1.out _).mono ?_
  rintro e w1 ⟨rfl, hb1⟩
  have d1 := cell_kept hb1 (by simp) c1
  have d2 := cell_kept hb1 (by simp) c2
  have HB1 : Hid (Below w.heap.size w w1) := (bel_alloc w _).trans (hb1.mono (by simp))
  clear c1 c2 hb1 k1
  cases x with
  | false =>
    go_wp2
    go_ret
    exact ⟨by rw [HR.out]; rfl, HB1.out⟩
  | true =>
    have HF : Hid (decide (cmpS lo l ≤ 0) = false → B = false) := fun h => by rw [HR.out, h]; rfl
    have HT : Hid (decide (cmpS lo l ≤ 0) = true → B = y) := fun h => by rw [HR.out, h]; rfl
    clear HR
    rcases le_cases lo l with ⟨a1, a3⟩ | ⟨a1, a2, a3⟩ | ⟨a1, a2, a3⟩
    · have A3 : Hid _ := HT.out a3
      clear a3 HT HF
      go_wp2_with fail
      refine (k2.out _).mono ?_
      rintro e w2 ⟨rfl, hb2⟩
      have HB2 : Hid (Below w.heap.size w w2) := HB1.out.trans (hb2.mono HB1.out.size)
      clear hb2 d1 d2
      go_wp2
      go_ret
      exact ⟨by rw [A3.out]; rfl, HB2.out⟩
    · have A3 : Hid _ := HT.out a3
      clear a3 HT HF
      go_wp2_with fail
      refine (k2.out _).mono ?_
      rintro e w2 ⟨rfl, hb2⟩
      have HB2 : Hid (Below w.heap.size w w2) := HB1.out.trans (hb2.mono HB1.out.size)
      clear hb2 d1 d2
      go_wp2
      go_ret
      exact ⟨by rw [A3.out]; rfl, HB2.out⟩
    · have A3 : Hid _ := HF.out a3
      clear a3 HT HF
      go_wp2
      go_ret
      exact ⟨by rw [A3.out]; rfl, HB1.out⟩
end Go.Proofs.YtecacjddggljgaaDoor
namespace Go.Proofs.YtecacjddggljgaaDoor
open Go.ChangeShapes Go.WideShapes Go.ChangeAt Go.RowKit Go.Joins Go.Deep
set_option linter.unusedSectionVars false
variable [Inhabited E]
theorem cells23 : Tryd.prog.cellsOf 54 = 4 := by kernel_rfl
theorem cells9 : Tryd.prog.cellsOf 9 = 1 := by kernel_rfl
theorem cells4 : Tryd.prog.cellsOf 4 = 1 := by kernel_rfl
theorem cells3 : Tryd.prog.cellsOf 3 = 1 := by kernel_rfl
theorem cells5 : Tryd.prog.cellsOf 5 = 1 := by kernel_rfl
theorem list4 {cs : List Value} (h : cs.length = 4) : ∃ a b c d, cs = [a, b, c, d] := by
  match cs, h with
  | [a, b, c, d], _ => exact ⟨a, b, c, d, rfl⟩
section
variable {H : Type} {enc : TypeId × Value → H} {w : World} {base : Nat} {spare : Nat → Bool} {held : Bool}
/-- The four cells that read as an entry. -/
theorem cells_entry {n : Nat} {cs : List Value} {x : DataW H × List MemPlace} (h : DataW.trod enc Tryd.prog w base spare held n 54 cs = some x) :
    ∃ e : E, cs = encE e ∧ e.key.size ≤ 9223372036854775807 ∧ e.value.size ≤ 9223372036854775807 ∧ (Lit.int .i64 e.seq).wf = true := by
  obtain ⟨y0, y1, y2, y3, m, _, hl, h0, h1, h2, h3⟩ := trod_struct4 Tryd.underlying54 h
  rw [cells23] at hl
  obtain ⟨a, b, c, d, rfl⟩ := list4 hl
  simp only [cells9, cells4, cells3, List.drop_zero, List.drop_succ_cons, List.take_succ_cons, List.take_zero] at h0 h1 h2 h3
  obtain ⟨s0, e0, _, z0⟩ := DataW.trod_string Tryd.underlying9 h0
  obtain ⟨s1, e1, _, z1⟩ := DataW.trod_string Tryd.underlying9 h1
  obtain ⟨b2, e2, _⟩ := DataW.trod_bool Tryd.underlying4 h2
  obtain ⟨n3, e3, _, z3⟩ := DataW.trod_int Tryd.underlying3 h3
  simp only [List.cons.injEq, and_true] at e0 e1 e2 e3
  subst e0 e1 e2 e3
  unfold maxLen at z0 z1
  exact ⟨⟨s0, s1, b2, n3⟩, rfl, by simpa using z0, by simpa using z1, z3⟩
set_option maxRecDepth 100000 in
theorem open_ents {r : Reach} {b0 : Nat} {v : Value} {d : DataW H} {p : List MemPlace} (hv : Value.okWide Tryd.prog w r b0 22 v) (h : DataW.Trod enc Tryd.prog w base spare held 22 v d p) :
    ∃ ao n c es, v = .slice ao n c ∧ EntsV w ao n es ∧ Small es ∧ n ≤ c ∧ c ≤ 9223372036854775807 := by
  obtain ⟨a0, len0, cap0, rfl⟩ := okWide_slice Tryd.underlying22 hv
  obtain ⟨fuel, hf⟩ := h
  rcases open_slice Tryd.underlying22 hf with ⟨hcs, _⟩ | ⟨a, len, cap, m, n, D, Pl, hcs, _, hl, hm, hmm, _, hel⟩
  · simp [Value.cells] at hcs
    obtain ⟨rfl, rfl, rfl⟩ := hcs
    exact ⟨none, 0, 0, [], rfl, ⟨rfl, fun h => absurd h (by omega)⟩, (fun _ he => by cases he), Nat.le_refl _, by omega⟩
  · simp [Value.cells] at hcs
    obtain ⟨rfl, rfl, rfl⟩ := hcs
    have hlm : len0 ≤ m := by rw [hmm]; split <;> omega
    have hel2 : ∀ i, i < len0 → ∃ e : E, w.cells? base (a.add (i * 4)) 4 = some (encE e) ∧ e.key.size ≤ 9223372036854775807 ∧ e.value.size ≤ 9223372036854775807 := by
      intro i hi
      obtain ⟨cs', h1, h2⟩ := hel i (by omega)
      rw [cells23] at h1
      obtain ⟨e, rfl, z0, z1, _⟩ := cells_entry h2
      exact ⟨e, h1, z0, z1⟩
    obtain ⟨f, hf2⟩ := choose_lt hel2
    refine ⟨some a, len0, cap0, (List.range len0).map f, rfl, ⟨by simp, fun hp => ?_⟩, ?_, hl, by unfold maxLen at hm; omega⟩
    · obtain ⟨b, off, spot⟩ := a
      have hspot : spot = none := by
        have := (World.cells?_some (hf2 0 hp).1).2.2 0 (by omega)
        have h3 : (encE (f 0))[0]? = some (.string (f 0).key) := rfl
        rw [h3] at this
        simpa [Addr.add] using World.cell?_spot this
      subst hspot
      refine ⟨b, off, rfl, fun j u hu => ?_⟩
      have hj : j < len0 * 4 := by
        have := (List.getElem?_eq_some_iff.1 hu).1
        rw [flatE_len] at this; simpa using this
      rw [flatE_get _ j (by simpa using hj)] at hu
      have hget : ((List.range len0).map f)[j / 4]! = f (j / 4) := by
        rw [getElem!_pos _ _ (by simp; omega)]; simp
      rw [hget] at hu
      have := (World.cells?_some (hf2 (j / 4) (by omega)).1).2.2 (j % 4) (by omega)
      rw [hu, Addr.add_lit, Addr.add_lit] at this
      rw [← this]
      congr 2
      omega
    · intro e he
      simp only [List.mem_map, List.mem_range] at he
      obtain ⟨i, hi, rfl⟩ := he
      exact ⟨(hf2 i hi).2.1, (hf2 i hi).2.2⟩
set_option maxRecDepth 100000 in
theorem open_entry {r : Reach} {b0 : Nat} {v : Value} {d : DataW H} {p : List MemPlace} (hv : Value.okWide Tryd.prog w r b0 54 v) (h : DataW.Trod enc Tryd.prog w base spare held 54 v d p) :
    ∃ e : E, v = .agg (encE e).toArray ∧ e.key.size ≤ 9223372036854775807 ∧ e.value.size ≤ 9223372036854775807 ∧ (Lit.int .i64 e.seq).wf = true := by
  obtain ⟨cs, rfl, hsz⟩ := okWide_struct Tryd.underlying54 hv
  obtain ⟨fuel, hf⟩ := h
  obtain ⟨e, he, h1, h2, h3⟩ := cells_entry hf
  refine ⟨e, ?_, h1, h2, h3⟩
  have : cs.toList = encE e := by simpa [Value.cells] using he
  rw [← this]
set_option maxRecDepth 100000 in
theorem open_bytes {r : Reach} {b0 : Nat} {v : Value} {d : DataW H} {p : List MemPlace} (hv : Value.okWide Tryd.prog w r b0 27 v) (h : DataW.Trod enc Tryd.prog w base spare held 27 v d p) (hsp : ∀ x, spare x = true) :
    ∃ ao n c bs, v = .slice ao n c ∧ Bytes w ao n bs ∧ (ao = none → c = 0) ∧ n ≤ c ∧ c ≤ 9223372036854775807 := by
  obtain ⟨a0, len0, cap0, rfl⟩ := okWide_slice Tryd.underlying27 hv
  obtain ⟨fuel, hf⟩ := h
  have hr : ∃ zs : List Int, (a0 = none ∧ len0 = 0 ∧ cap0 = 0 ∧ zs = []) ∨
      ∃ x, a0 = some x ∧ len0 ≤ cap0 ∧ cap0 ≤ maxLen ∧ zs.length = cap0 ∧ (∀ i, i < zs.length → w.cell? (x.add i) = some (.int .u8 (zs.getD i 0))) ∧ ∀ n ∈ zs, (Lit.int .u8 n).wf = true := by
    rcases open_ints Tryd.underlying27 Tryd.underlying5 cells5 hf with ⟨hcs, _⟩ | ⟨x, l, c, zs, hcs, _, hl, hm, hz, _, hcell, hwz⟩
    · simp [Value.cells] at hcs
      obtain ⟨rfl, rfl, rfl⟩ := hcs
      exact ⟨[], .inl ⟨rfl, rfl, rfl, rfl⟩⟩
    · simp [Value.cells] at hcs
      obtain ⟨rfl, rfl, rfl⟩ := hcs
      exact ⟨zs, .inr ⟨_, rfl, hl, hm, by simpa [hsp] using hz, hcell, hwz⟩⟩
  obtain ⟨zs, hzs⟩ := hr
  obtain ⟨bs, h1, h2, h3, h4⟩ := row_bytes hzs
  exact ⟨a0, len0, cap0, bs, rfl, h1, h2, h3, h4⟩
end
end Go.Proofs.YtecacjddggljgaaDoor
namespace Go.Proofs.YtecacjddggljgaaDoor
open Go.RowKit Go.Sort Go.Shelf
set_option linter.unusedSectionVars false
variable [Inhabited E]
theorem own_entsV {w : World} {base : Nat} {v : Value} {n : Nat} {es : List E} (h : w.ownsRow base 54 4 v n (flatE es)) (hn : es.length = n) : ∃ ao c, v = .slice ao n c ∧ EntsV w ao n es := by
  by_cases hp : 0 < n
  · obtain ⟨g, c, rfl, hE, _⟩ := own_shapeE h hp
    exact ⟨_, c, rfl, hn, fun _ => ⟨g, 0, rfl, hE⟩⟩
  · obtain rfl : n = 0 := by omega
    rcases h.2 with ⟨hv, _⟩ | ⟨g, cap, cur, rfl, _⟩
    · exact ⟨none, 0, hv, hn, fun h => absurd h (by omega)⟩
    · exact ⟨_, cap, rfl, hn, fun h => absurd h (by omega)⟩
theorem EntsV.below {w w' : World} {ao : Option Addr} {n B : Nat} {es : List E} (h : EntsV w ao n es) (hb : Below B w w') (hB : w.heap.size ≤ B) : EntsV w' ao n es :=
  ⟨h.1, fun hp => by obtain ⟨b, off, h1, h2⟩ := h.2 hp; exact ⟨b, off, h1, h2.below hb hB⟩⟩
theorem belowN_cons (key : ByteArray) (e : E) (r : List E) : belowN key (e :: r) = (if cmpS e.key key < 0 then 1 else 0) + belowN key r := by
  unfold belowN; rw [List.countP_cons, Nat.add_comm]; by_cases h : cmpS e.key key < 0 <;> simp [h]
theorem belowN_zero {key : ByteArray} {r : List E} (h : ∀ e ∈ r, ¬ cmpS e.key key < 0) : belowN key r = 0 := by
  unfold belowN; rw [List.countP_eq_zero]; intro e he; simpa using h e he
theorem ks_place (key : ByteArray) : ∀ {l : List E}, Ks l → ∀ i, i < l.length → (cmpS l[i]!.key key < 0 ↔ i < belowN key l)
  | [], _, i, h => by simp at h
  | e :: r, hk, i, h => by
    have hk' := List.pairwise_cons.1 hk
    rw [belowN_cons]
    by_cases c : cmpS e.key key < 0
    · rw [if_pos c]
      cases i with
      | zero => simp [c]; omega
      | succ i =>
        have := ks_place key hk'.2 i (by simpa using h)
        simp only [List.getElem!_cons_succ]
        rw [this]; omega
    · have hz : belowN key r = 0 := belowN_zero fun x hx hc => c (cmpS_ord.ltle (hk'.1 x hx) (by omega))
      rw [if_neg c, hz]
      cases i with
      | zero => exact ⟨fun h => absurd h c, fun h => by omega⟩
      | succ i =>
        have hi : i < r.length := by simpa using h
        simp only [List.getElem!_cons_succ]
        have : ¬ cmpS r[i]!.key key < 0 := fun hc => by
          rw [getElem!_pos r i hi] at hc
          exact c (cmpS_ord.ltle (hk'.1 _ (List.getElem_mem hi)) (by omega))
        exact ⟨fun h => absurd h this, fun h => by omega⟩
theorem ks_isIn (key : ByteArray) : ∀ {l : List E}, Ks l → isIn key l = (decide (belowN key l < l.length) && decide (l[belowN key l]!.key = key))
  | [], _ => rfl
  | e :: r, hk => by
    have hk' := List.pairwise_cons.1 hk
    have ih := ks_isIn key hk'.2
    have hu : isIn key (e :: r) = (decide (e.key = key) || isIn key r) := by unfold isIn; rw [List.any_cons]
    rw [hu, belowN_cons]
    by_cases c : cmpS e.key key < 0
    · have hne : ¬ e.key = key := fun h => by rw [h] at c; have := cmpS_ord.self key; omega
      rw [if_pos c, ih, Nat.add_comm 1]
      simp [hne]
    · have hz : belowN key r = 0 := belowN_zero fun x hx hc => c (cmpS_ord.ltle (hk'.1 x hx) (by omega))
      rw [if_neg c, hz]
      by_cases h2 : e.key = key
      · simp [h2]
      · have : isIn key r = false := by
          unfold isIn
          rw [List.any_eq_false]
          intro x hx hc
          simp at hc
          have h3 := hk'.1 x hx
          rw [hc] at h3
          exact c h3
        simp [h2, this]
theorem foldS_len (l : List E) : (foldS l).length ≤ l.length := by
  have hi : ∀ (a : List E) (e : E), (insS a e).length ≤ a.length + 1 := by
    intro a e
    induction a with
    | nil => simp [insS]
    | cons x r ih =>
      rw [insS]
      split
      · simpa using ih
      · split
        · split <;> simp
        · simp
  have : ∀ (l a : List E), (l.foldl insS a).length ≤ a.length + l.length := by
    intro l
    induction l with
    | nil => intro a; simp
    | cons e l ih =>
      intro a
      have h1 := ih (insS a e)
      have h2 := hi a e
      simp only [List.foldl_cons, List.length_cons]
      omega
  have h := this l []
  rw [List.length_nil, Nat.zero_add] at h
  exact h
end Go.Proofs.YtecacjddggljgaaDoor

/-
  What cut, few, Find and Sorted answer: contracts over this translation. Arguments that are entries, lists of entries and bytes, opened. A key's place parts a sorted list: what the law EntryFinds answers, for any arguments.
-/
import Derived.Test.YtaamekkbgaeafaaDoorPartL
import Derived.Lib.MinMax
import Derived.Lib.SmallJoins
import Derived.Deep.Slices
import Derived.OpenShut
import Derived.ShutString
namespace Go.Proofs.YtaamekkbgaeafaaDoor
open Go.RowKit Go.Sort Go.Shelf
set_option linter.unusedSectionVars false
variable [Inhabited E]
/-- An entry of at most so many bytes. -/
def cutE (a b : Nat) (e : E) : E := ⟨e.key.extract 0 (min e.key.size a), e.value.extract 0 (min e.value.size b), e.del, e.seq⟩
/-- At most so many entries, each cut. -/
def fewS (a b most : Nat) (es : List E) : List E := (es.take most).map (cutE a b)
theorem fewS_len (a b most : Nat) (es : List E) : (fewS a b most es).length = min most es.length := by rw [fewS, List.length_map, List.length_take]
theorem fewS_snoc (a b i : Nat) (es : List E) (h : i < es.length) : fewS a b (i + 1) es = fewS a b i es ++ [cutE a b es[i]!] := by
  unfold fewS
  rw [List.take_succ_eq_append_getElem h, getElem!_pos es i h, List.map_append, List.map_singleton]
theorem fewS_all (a b i : Nat) (es : List E) (h : es.length ≤ i) (j : Nat) (hj : es.length ≤ j) : fewS a b i es = fewS a b j es := by
  unfold fewS
  rw [List.take_of_length_le h, List.take_of_length_le hj]
theorem results_entry1 {fn : Func} {p : Tmp} (h : fn.results = #[.cell p 29]) (tmps : Array Value) (w : World) (g : Nat) (t : TypeId) (cs : Array Value) (fr : Nat × Nat)
    (hp : tmps.getD p undef = .pointer (some ⟨g, 0, none⟩)) (hg : w.heap[g]? = some (.cells cs t fr)) (hi : (Tryd.prog.info? 29).map (·.size) = some cs.size) :
    (results fn tmps).run Tryd.prog w = .ok (.agg cs) w := by
  have hp' : tmps[p]?.getD undef = .pointer (some ⟨g, 0, none⟩) := by simpa using hp
  simp [results, h, hp', asAddr, run_loadVar_row w g t 29 cs fr _ hg Tryd.underlying29 rfl hi]
set_option maxRecDepth 100000 in
set_option maxHeartbeats 1000000 in
theorem cut_any (k v : ByteArray) (d : Bool) (q : Int) (w : World) (hk : k.size ≤ 9223372036854775807) (hv : v.size ≤ 9223372036854775807) :
    Calls Tryd.prog 12 #[.agg #[.string k, .string v, .bool d, .int .i64 q]] w fun e w' => e = .returned (.agg (encE (cutE 130 1030 ⟨k, v, d, q⟩)).toArray) ∧ Below w.heap.size w w' := by
  obtain ⟨m1, hm1⟩ : ∃ m, m = min k.size 130 := ⟨_, rfl⟩
  obtain ⟨m2, hm2⟩ : ∃ m, m = min v.size 1030 := ⟨_, rfl⟩
  have hz1 : min ((k.size : Nat) : Int) 130 = (m1 : Int) := by omega
  have hz2 : min ((v.size : Nat) : Int) 1030 = (m2 : Int) := by omega
  have hl1 : (m1 : Int) ≤ (k.size : Int) := by omega
  have hl2 : (m2 : Int) ≤ (v.size : Int) := by omega
  have HR : Hid (cutE 130 1030 ⟨k, v, d, q⟩ = ⟨k.extract 0 m1, v.extract 0 m2, d, q⟩) := by show _ = _; rw [cutE, hm1, hm2]
  rw [HR.out]
  clear hm1 hm2
  go_enter Tryd.func12, Tryd.ntmps12
  go_wp2
  refine bodyPost_ret (results_entry1 rfl _ _ (w.heap.size + 1) 29 _ _ rfl (by rw [heap_alloc_get, if_pos (by simp)]) (by exact size23)) rfl ?_
  exact ⟨rfl, (bel_alloc w _).trans ((bel_alloc _ _).mono (by simp))⟩
theorem ents_at {w : World} {b off : Nat} {l : List E} (h : Ents w b off l) (i c : Nat) (hi : i < l.length) (hc : c < 4) : w.cell? ⟨b, off + i * 4 + c, none⟩ = some (encE l[i]!)[c]! := by
  have := h (i * 4 + c) _ ((flatE_at l i c hi hc).trans (encE_get! _ c hc))
  rwa [← Nat.add_assoc] at this
/-- The four cells of an entry. -/
theorem ents_four {w : World} {b off : Nat} {l : List E} (h : Ents w b off l) (i : Nat) (hi : i < l.length) {k v : ByteArray} {d : Bool} {q : Int} (hx : l[i]! = ⟨k, v, d, q⟩) :
    w.cell? ⟨b, off + i * 4, none⟩ = some (.string k) ∧ w.cell? ⟨b, off + i * 4 + 1, none⟩ = some (.string v) ∧ w.cell? ⟨b, off + i * 4 + 2, none⟩ = some (.bool d) ∧ w.cell? ⟨b, off + i * 4 + 3, none⟩ = some (.int .i64 q) := by
  have c0 := ents_at h i 0 hi (by decide)
  have c1 := ents_at h i 1 hi (by decide)
  have c2 := ents_at h i 2 hi (by decide)
  have c3 := ents_at h i 3 hi (by decide)
  rw [hx] at c0 c1 c2 c3
  exact ⟨c0, c1, c2, c3⟩
/-- All texts of entries are no longer than a text may be. -/
def Small (es : List E) : Prop := ∀ e ∈ es, e.key.size ≤ 9223372036854775807 ∧ e.value.size ≤ 9223372036854775807
theorem small_at {es : List E} (h : Small es) (i : Nat) (hi : i < es.length) {k v : ByteArray} {d : Bool} {q : Int} (hx : es[i]! = ⟨k, v, d, q⟩) : k.size ≤ 9223372036854775807 ∧ v.size ≤ 9223372036854775807 := by
  have := h es[i]! (by rw [getElem!_pos es i hi]; exact List.getElem_mem hi)
  rw [hx] at this
  exact this
/-- The cells of one entry, laid by a literal. -/
theorem ent_laid (w5 : World) (k0 v0 : ByteArray) (d0 : Bool) (q0 : Int) : ∀ j u, (encE (E.mk k0 v0 d0 q0))[j]? = some u → (w5.alloc (Obj.cells #[.string k0, .string v0, .bool d0, .int .i64 q0] 29)).cell? ((⟨w5.heap.size, 0, none⟩ : Addr).add j) = some u := by
  intro j u hu
  have hb : (w5.alloc (Obj.cells #[.string k0, .string v0, .bool d0, .int .i64 q0] 29)).heap[w5.heap.size]? = some (Obj.cells #[.string k0, .string v0, .bool d0, .int .i64 q0] 29) := by rw [heap_alloc_get, if_pos rfl]
  rw [Addr.add_lit, Nat.zero_add, cell_of_row _ _ _ _ _ _ hb, ← hu]
  simp [encE]
theorem take_snoc {α : Type} [Inhabited α] (es : List α) (i : Nat) (h : i < es.length) : es.take (i + 1) = es.take i ++ [es[i]!] := by
  rw [List.take_succ_eq_append_getElem h, getElem!_pos es i h]
/-- How many keys are below, and whether it is there. -/
def belowN (key : ByteArray) (es : List E) : Nat := es.countP fun e => decide (cmpS e.key key < 0)
def isIn (key : ByteArray) (es : List E) : Bool := es.any fun e => decide (e.key = key)
theorem belowN_le (key : ByteArray) (es : List E) : belowN key es ≤ es.length := List.countP_le_length
/-- Each key above the one ahead, as a test. -/
def sortedB : List E → Bool
  | a :: b :: r => decide (cmpS a.key b.key < 0) && sortedB (b :: r)
  | _ => true
theorem sortedB_at : ∀ (es : List E), sortedB es = true ↔ ∀ i, i + 1 < es.length → cmpS es[i]!.key es[i + 1]!.key < 0
  | [] => by simp [sortedB]
  | [a] => by simp [sortedB]
  | a :: b :: r => by
    rw [sortedB, Bool.and_eq_true, sortedB_at (b :: r)]
    constructor
    · rintro ⟨h1, h2⟩ i hi
      cases i with
      | zero => simpa using h1
      | succ i => simpa using h2 i (by simpa using hi)
    · intro h
      exact ⟨by simpa using h 0 (by simp), fun i hi => by simpa using h (i + 1) (by simpa using hi)⟩
theorem sortedB_ks : ∀ {es : List E}, sortedB es = true ↔ Ks es
  | [] => by simp [sortedB, Ks]
  | [a] => by simp [sortedB, Ks]
  | a :: b :: r => by
    rw [sortedB, Bool.and_eq_true, sortedB_ks (es := b :: r), decide_eq_true_eq]
    constructor
    · rintro ⟨h1, h2⟩
      refine List.pairwise_cons.2 ⟨fun y hy => ?_, h2⟩
      rcases List.mem_cons.1 hy with rfl | hy
      · exact h1
      · exact cmpS_ord.ltle h1 (by have := (List.pairwise_cons.1 h2).1 y hy; omega)
    · intro h
      have h' := List.pairwise_cons.1 h
      exact ⟨h'.1 b (by simp), h'.2⟩
set_option maxRecDepth 100000 in
set_option maxHeartbeats 2000000 in
theorem sorted_any (ao : Option Addr) (n c : Nat) (es : List E) (w : World) (hE : EntsV w ao n es) (hbig : n ≤ 1000000000000) :
    Calls Tryd.prog 28 #[.slice ao n c] w fun e w' => e = .returned (.bool (sortedB es)) ∧ Below w.heap.size w w' := by
  have HE : Hid _ := hE
  clear hE
  go_enter Tryd.func28, Tryd.ntmps28
  go_wp2
  go_loopw [3] (fun x wr => ∃ i : Nat, x = .int .i64 (i + 1 : Nat) ∧ (i = 0 ∨ i + 1 ≤ n) ∧ Hid (∀ j, j < i → j + 1 < es.length → cmpS es[j]!.key es[j + 1]!.key < 0) ∧ Below w.heap.size w wr) (fun x _ => n - (intOf x).toNat)
  case atStart => exact ⟨0, rfl, .inl rfl, (fun j h => absurd h (by omega)), Below.refl _ _⟩
  case round =>
    obtain ⟨i, rfl, hin, HS, hbel⟩ := hrel
    by_cases hlt : i + 1 < n
    · have hltz : (i : Int) + 1 < (n : Int) := by omega
      obtain ⟨b, off, hao, hEn⟩ := HE.out.2 (by omega)
      have hln := HE.out.1
      have hEr : Ents wr b off es := hEn.below hbel (Nat.le_refl _)
      obtain ⟨k0, v0, d0, q0, HX⟩ : ∃ k0 v0 d0 q0, Hid (es[i]! = E.mk k0 v0 d0 q0) := ⟨_, _, _, _, rfl⟩
      obtain ⟨k1, v1, d1, q1, HY⟩ : ∃ k0 v0 d0 q0, Hid (es[i + 1]! = E.mk k0 v0 d0 q0) := ⟨_, _, _, _, rfl⟩
      obtain ⟨c0, -, -, -⟩ := ents_four hEr i (by omega) HX.out
      obtain ⟨c1, -, -, -⟩ := ents_four hEr (i + 1) (by omega) HY.out
      subst hao
      have HB : Hid _ := hbel
      clear hEr hEn hbel hin
      have HLN : Hid _ := hln
      clear hln
      have e1 := less_cmpS k1 k0
      have e2 := eq_cmpS k1 k0
      by_cases h1 : cmpS k0 k1 < 0
      · have h3 : ¬ cmpS k1 k0 < 0 := by have := cmpS_ord.anti k0 k1; omega
        have h2 : ¬ k1 = k0 := fun h => by rw [h] at h1; have := cmpS_ord.self k0; omega
        have e1' : Op.bytesLess k1.toList k0.toList = false := by rw [e1]; exact decide_eq_false h3
        have e2' : (k1.toList == k0.toList) = false := by rw [e2]; exact decide_eq_false h2
        clear e1 e2
        go_wp2_with fail
        go_quiet (fail)
        go_wp2
        go_roundw
        case rel =>
          refine ⟨i + 1, by go_num, .inr (by omega), (fun j hj hj2 => ?_), bel_drewN HB.out nq⟩
          by_cases e : j = i
          · subst e; rw [HX.out, HY.out]; exact h1
          · exact HS.out j (by omega) hj2
        case measure => simp [intOf]; omega
      · have hf : Hid (sortedB es = false) := by
          show _ = _
          cases hh : sortedB es with
          | false => rfl
          | true =>
            have := (sortedB_at es).1 hh i (by rw [HLN.out]; omega)
            rw [HX.out, HY.out] at this
            exact absurd this h1
        by_cases h2 : k1 = k0
        · have e2' : (k1.toList == k0.toList) = true := by rw [e2]; exact decide_eq_true h2
          have e1' : Op.bytesLess k1.toList k0.toList = false := by rw [e1]; exact decide_eq_false (by rw [h2]; have := cmpS_ord.self k0; omega)
          clear e1 e2 h2
          go_wp2_with fail
          go_quiet (fail)
          go_wp2
          go_ret
          exact ⟨by rw [hf.out]; rfl, bel_drewN HB.out nq⟩
        · have e2' : (k1.toList == k0.toList) = false := by rw [e2]; exact decide_eq_false h2
          have h3 : cmpS k1 k0 < 0 := by
            have a1 := cmpS_ord.anti k0 k1; have a2 := cmpS_ord.anti k1 k0
            have a3 : cmpS k1 k0 ≠ 0 := fun h => h2 (cmpS_eq.1 h)
            omega
          have e1' : Op.bytesLess k1.toList k0.toList = true := by rw [e1]; exact decide_eq_true h3
          clear e1 e2
          go_wp2_with fail
          go_quiet (fail)
          go_wp2
          go_ret
          exact ⟨by rw [hf.out]; rfl, bel_drewN HB.out nq⟩
    · have hltz : ¬ (i : Int) + 1 < (n : Int) := by omega
      have ht : Hid (sortedB es = true) := (sortedB_at es).2 fun j hj => HS.out j (by rw [HE.out.1] at hj; omega) hj
      go_wp2
      go_ret
      exact ⟨by rw [ht.out]; rfl, hbel⟩
end Go.Proofs.YtaamekkbgaeafaaDoor
namespace Go.Proofs.YtaamekkbgaeafaaDoor
open Go.ChangeShapes Go.WideShapes Go.ChangeAt Go.RowKit Go.Joins Go.Deep
set_option linter.unusedSectionVars false
variable [Inhabited E]
theorem cells23 : Tryd.prog.cellsOf 29 = 4 := by kernel_rfl
theorem cells9 : Tryd.prog.cellsOf 9 = 1 := by kernel_rfl
theorem cells4 : Tryd.prog.cellsOf 4 = 1 := by kernel_rfl
theorem cells3 : Tryd.prog.cellsOf 3 = 1 := by kernel_rfl
theorem cells5 : Tryd.prog.cellsOf 5 = 1 := by kernel_rfl
theorem list4 {cs : List Value} (h : cs.length = 4) : ∃ a b c d, cs = [a, b, c, d] := by
  match cs, h with
  | [a, b, c, d], _ => exact ⟨a, b, c, d, rfl⟩
section
variable {H : Type} {enc : TypeId × Value → H} {w : World} {base : Nat} {spare : Nat → Bool} {held : Bool}
/-- The four cells that read as an entry. -/
theorem cells_entry {n : Nat} {cs : List Value} {x : DataW H × List MemPlace} (h : DataW.trod enc Tryd.prog w base spare held n 29 cs = some x) :
    ∃ e : E, cs = encE e ∧ e.key.size ≤ 9223372036854775807 ∧ e.value.size ≤ 9223372036854775807 ∧ (Lit.int .i64 e.seq).wf = true := by
  obtain ⟨y0, y1, y2, y3, m, _, hl, h0, h1, h2, h3⟩ := trod_struct4 Tryd.underlying29 h
  rw [cells23] at hl
  obtain ⟨a, b, c, d, rfl⟩ := list4 hl
  simp only [cells9, cells4, cells3, List.drop_zero, List.drop_succ_cons, List.take_succ_cons, List.take_zero] at h0 h1 h2 h3
  obtain ⟨s0, e0, _, z0⟩ := DataW.trod_string Tryd.underlying9 h0
  obtain ⟨s1, e1, _, z1⟩ := DataW.trod_string Tryd.underlying9 h1
  obtain ⟨b2, e2, _⟩ := DataW.trod_bool Tryd.underlying4 h2
  obtain ⟨n3, e3, _, z3⟩ := DataW.trod_int Tryd.underlying3 h3
  simp only [List.cons.injEq, and_true] at e0 e1 e2 e3
  subst e0 e1 e2 e3
  unfold maxLen at z0 z1
  exact ⟨⟨s0, s1, b2, n3⟩, rfl, by simpa using z0, by simpa using z1, z3⟩
set_option maxRecDepth 100000 in
theorem open_ents {r : Reach} {b0 : Nat} {v : Value} {d : DataW H} {p : List MemPlace} (hv : Value.okWide Tryd.prog w r b0 35 v) (h : DataW.Trod enc Tryd.prog w base spare held 35 v d p) :
    ∃ ao n c es, v = .slice ao n c ∧ EntsV w ao n es ∧ Small es ∧ n ≤ c ∧ c ≤ 9223372036854775807 := by
  obtain ⟨a0, len0, cap0, rfl⟩ := okWide_slice Tryd.underlying35 hv
  obtain ⟨fuel, hf⟩ := h
  rcases open_slice Tryd.underlying35 hf with ⟨hcs, _⟩ | ⟨a, len, cap, m, n, D, Pl, hcs, _, hl, hm, hmm, _, hel⟩
  · simp [Value.cells] at hcs
    obtain ⟨rfl, rfl, rfl⟩ := hcs
    exact ⟨none, 0, 0, [], rfl, ⟨rfl, fun h => absurd h (by omega)⟩, (fun _ he => by cases he), Nat.le_refl _, by omega⟩
  · simp [Value.cells] at hcs
    obtain ⟨rfl, rfl, rfl⟩ := hcs
    have hlm : len0 ≤ m := by rw [hmm]; split <;> omega
    have hel2 : ∀ i, i < len0 → ∃ e : E, w.cells? base (a.add (i * 4)) 4 = some (encE e) ∧ e.key.size ≤ 9223372036854775807 ∧ e.value.size ≤ 9223372036854775807 := by
      intro i hi
      obtain ⟨cs', h1, h2⟩ := hel i (by omega)
      rw [cells23] at h1
      obtain ⟨e, rfl, z0, z1, _⟩ := cells_entry h2
      exact ⟨e, h1, z0, z1⟩
    obtain ⟨f, hf2⟩ := choose_lt hel2
    refine ⟨some a, len0, cap0, (List.range len0).map f, rfl, ⟨by simp, fun hp => ?_⟩, ?_, hl, by unfold maxLen at hm; omega⟩
    · obtain ⟨b, off, spot⟩ := a
      have hspot : spot = none := by
        have := (World.cells?_some (hf2 0 hp).1).2.2 0 (by omega)
        have h3 : (encE (f 0))[0]? = some (.string (f 0).key) := rfl
        rw [h3] at this
        simpa [Addr.add] using World.cell?_spot this
      subst hspot
      refine ⟨b, off, rfl, fun j u hu => ?_⟩
      have hj : j < len0 * 4 := by
        have := (List.getElem?_eq_some_iff.1 hu).1
        rw [flatE_len] at this; simpa using this
      rw [flatE_get _ j (by simpa using hj)] at hu
      have hget : ((List.range len0).map f)[j / 4]! = f (j / 4) := by
        rw [getElem!_pos _ _ (by simp; omega)]; simp
      rw [hget] at hu
      have := (World.cells?_some (hf2 (j / 4) (by omega)).1).2.2 (j % 4) (by omega)
      rw [hu, Addr.add_lit, Addr.add_lit] at this
      rw [← this]
      congr 2
      omega
    · intro e he
      simp only [List.mem_map, List.mem_range] at he
      obtain ⟨i, hi, rfl⟩ := he
      exact ⟨(hf2 i hi).2.1, (hf2 i hi).2.2⟩
set_option maxRecDepth 100000 in
theorem open_entry {r : Reach} {b0 : Nat} {v : Value} {d : DataW H} {p : List MemPlace} (hv : Value.okWide Tryd.prog w r b0 29 v) (h : DataW.Trod enc Tryd.prog w base spare held 29 v d p) :
    ∃ e : E, v = .agg (encE e).toArray ∧ e.key.size ≤ 9223372036854775807 ∧ e.value.size ≤ 9223372036854775807 ∧ (Lit.int .i64 e.seq).wf = true := by
  obtain ⟨cs, rfl, hsz⟩ := okWide_struct Tryd.underlying29 hv
  obtain ⟨fuel, hf⟩ := h
  obtain ⟨e, he, h1, h2, h3⟩ := cells_entry hf
  refine ⟨e, ?_, h1, h2, h3⟩
  have : cs.toList = encE e := by simpa [Value.cells] using he
  rw [← this]
set_option maxRecDepth 100000 in
theorem open_bytes {r : Reach} {b0 : Nat} {v : Value} {d : DataW H} {p : List MemPlace} (hv : Value.okWide Tryd.prog w r b0 52 v) (h : DataW.Trod enc Tryd.prog w base spare held 52 v d p) (hsp : ∀ x, spare x = true) :
    ∃ ao n c bs, v = .slice ao n c ∧ Bytes w ao n bs ∧ (ao = none → c = 0) ∧ n ≤ c ∧ c ≤ 9223372036854775807 := by
  obtain ⟨a0, len0, cap0, rfl⟩ := okWide_slice Tryd.underlying52 hv
  obtain ⟨fuel, hf⟩ := h
  have hr : ∃ zs : List Int, (a0 = none ∧ len0 = 0 ∧ cap0 = 0 ∧ zs = []) ∨
      ∃ x, a0 = some x ∧ len0 ≤ cap0 ∧ cap0 ≤ maxLen ∧ zs.length = cap0 ∧ (∀ i, i < zs.length → w.cell? (x.add i) = some (.int .u8 (zs.getD i 0))) ∧ ∀ n ∈ zs, (Lit.int .u8 n).wf = true := by
    rcases open_ints Tryd.underlying52 Tryd.underlying5 cells5 hf with ⟨hcs, _⟩ | ⟨x, l, c, zs, hcs, _, hl, hm, hz, _, hcell, hwz⟩
    · simp [Value.cells] at hcs
      obtain ⟨rfl, rfl, rfl⟩ := hcs
      exact ⟨[], .inl ⟨rfl, rfl, rfl, rfl⟩⟩
    · simp [Value.cells] at hcs
      obtain ⟨rfl, rfl, rfl⟩ := hcs
      exact ⟨zs, .inr ⟨_, rfl, hl, hm, by simpa [hsp] using hz, hcell, hwz⟩⟩
  obtain ⟨zs, hzs⟩ := hr
  obtain ⟨bs, h1, h2, h3, h4⟩ := row_bytes hzs
  exact ⟨a0, len0, cap0, bs, rfl, h1, h2, h3, h4⟩
end
end Go.Proofs.YtaamekkbgaeafaaDoor
namespace Go.Proofs.YtaamekkbgaeafaaDoor
open Go.RowKit Go.Sort Go.Shelf
set_option linter.unusedSectionVars false
variable [Inhabited E]
theorem own_entsV {w : World} {base : Nat} {v : Value} {n : Nat} {es : List E} (h : w.ownsRow base 29 4 v n (flatE es)) (hn : es.length = n) : ∃ ao c, v = .slice ao n c ∧ EntsV w ao n es := by
  by_cases hp : 0 < n
  · obtain ⟨g, c, rfl, hE, _⟩ := own_shapeE h hp
    exact ⟨_, c, rfl, hn, fun _ => ⟨g, 0, rfl, hE⟩⟩
  · obtain rfl : n = 0 := by omega
    rcases h.2 with ⟨hv, _⟩ | ⟨g, cap, cur, rfl, _⟩
    · exact ⟨none, 0, hv, hn, fun h => absurd h (by omega)⟩
    · exact ⟨_, cap, rfl, hn, fun h => absurd h (by omega)⟩
theorem EntsV.below {w w' : World} {ao : Option Addr} {n B : Nat} {es : List E} (h : EntsV w ao n es) (hb : Below B w w') (hB : w.heap.size ≤ B) : EntsV w' ao n es :=
  ⟨h.1, fun hp => by obtain ⟨b, off, h1, h2⟩ := h.2 hp; exact ⟨b, off, h1, h2.below hb hB⟩⟩
theorem belowN_cons (key : ByteArray) (e : E) (r : List E) : belowN key (e :: r) = (if cmpS e.key key < 0 then 1 else 0) + belowN key r := by
  unfold belowN; rw [List.countP_cons, Nat.add_comm]; by_cases h : cmpS e.key key < 0 <;> simp [h]
theorem belowN_zero {key : ByteArray} {r : List E} (h : ∀ e ∈ r, ¬ cmpS e.key key < 0) : belowN key r = 0 := by
  unfold belowN; rw [List.countP_eq_zero]; intro e he; simpa using h e he
theorem ks_place (key : ByteArray) : ∀ {l : List E}, Ks l → ∀ i, i < l.length → (cmpS l[i]!.key key < 0 ↔ i < belowN key l)
  | [], _, i, h => by simp at h
  | e :: r, hk, i, h => by
    have hk' := List.pairwise_cons.1 hk
    rw [belowN_cons]
    by_cases c : cmpS e.key key < 0
    · rw [if_pos c]
      cases i with
      | zero => simp [c]; omega
      | succ i =>
        have := ks_place key hk'.2 i (by simpa using h)
        simp only [List.getElem!_cons_succ]
        rw [this]; omega
    · have hz : belowN key r = 0 := belowN_zero fun x hx hc => c (cmpS_ord.ltle (hk'.1 x hx) (by omega))
      rw [if_neg c, hz]
      cases i with
      | zero => exact ⟨fun h => absurd h c, fun h => by omega⟩
      | succ i =>
        have hi : i < r.length := by simpa using h
        simp only [List.getElem!_cons_succ]
        have : ¬ cmpS r[i]!.key key < 0 := fun hc => by
          rw [getElem!_pos r i hi] at hc
          exact c (cmpS_ord.ltle (hk'.1 _ (List.getElem_mem hi)) (by omega))
        exact ⟨fun h => absurd h this, fun h => by omega⟩
theorem ks_isIn (key : ByteArray) : ∀ {l : List E}, Ks l → isIn key l = (decide (belowN key l < l.length) && decide (l[belowN key l]!.key = key))
  | [], _ => rfl
  | e :: r, hk => by
    have hk' := List.pairwise_cons.1 hk
    have ih := ks_isIn key hk'.2
    have hu : isIn key (e :: r) = (decide (e.key = key) || isIn key r) := by unfold isIn; rw [List.any_cons]
    rw [hu, belowN_cons]
    by_cases c : cmpS e.key key < 0
    · have hne : ¬ e.key = key := fun h => by rw [h] at c; have := cmpS_ord.self key; omega
      rw [if_pos c, ih, Nat.add_comm 1]
      simp [hne]
    · have hz : belowN key r = 0 := belowN_zero fun x hx hc => c (cmpS_ord.ltle (hk'.1 x hx) (by omega))
      rw [if_neg c, hz]
      by_cases h2 : e.key = key
      · simp [h2]
      · have : isIn key r = false := by
          unfold isIn
          rw [List.any_eq_false]
          intro x hx hc
          simp at hc
          have h3 := hk'.1 x hx
          rw [hc] at h3
          exact c h3
        simp [h2, this]
theorem foldS_len (l : List E) : (foldS l).length ≤ l.length := by
  have hi : ∀ (a : List E) (e : E), (insS a e).length ≤ a.length + 1 := by
    intro a e
    induction a with
    | nil => simp [insS]
    | cons x r ih =>
      rw [insS]
      split
      · simpa using ih
      · split
        · split <;> simp
        · simp
  have : ∀ (l a : List E), (l.foldl insS a).length ≤ a.length + l.length := by
    intro l
    induction l with
    | nil => intro a; simp
    | cons e l ih =>
      intro a
      have h1 := ih (insS a e)
      have h2 := hi a e
      simp only [List.foldl_cons, List.length_cons]
      omega
  have h := this l []
  rw [List.length_nil, Nat.zero_add] at h
  exact h
end Go.Proofs.YtaamekkbgaeafaaDoor

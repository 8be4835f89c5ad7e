/-
  What cut, few, Find and Sorted answer: contracts over this translation.
-/
import Derived.Test.YteemfhhhdhddhaaShown
import Derived.Test.YteemfhhhdhddhaaRead
import Derived.Lib.MinMax
namespace Go.Proofs.Yteemfhhhdhddhaa
open Go.RowKit Go.Sort Go.Shelf
set_option linter.unusedSectionVars false
variable [Inhabited E]
/-- An entry of at most so many bytes. -/
def cutE (a b : Nat) (e : E) : E := ⟨e.key.extract 0 (min e.key.size a), e.value.extract 0 (min e.value.size b), e.del, e.seq⟩
/-- At most so many entries, each cut. -/
def fewS (a b most : Nat) (es : List E) : List E := (es.take most).map (cutE a b)
theorem fewS_len (a b most : Nat) (es : List E) : (fewS a b most es).length = min most es.length := by rw [fewS, List.length_map, List.length_take]
theorem fewS_snoc (a b i : Nat) (es : List E) (h : i < es.length) : fewS a b (i + 1) es = fewS a b i es ++ [cutE a b es[i]!] := by
  unfold fewS
  rw [List.take_succ_eq_append_getElem h, getElem!_pos es i h, List.map_append, List.map_singleton]
theorem fewS_all (a b i : Nat) (es : List E) (h : es.length ≤ i) (j : Nat) (hj : es.length ≤ j) : fewS a b i es = fewS a b j es := by
  unfold fewS
  rw [List.take_of_length_le h, List.take_of_length_le hj]
theorem results_entry1 {fn : Func} {p : Tmp} (h : fn.results = #[.cell p 23]) (tmps : Array Value) (w : World) (g : Nat) (t : TypeId) (cs : Array Value) (fr : Nat × Nat)
    (hp : tmps.getD p undef = .pointer (some ⟨g, 0, none⟩)) (hg : w.heap[g]? = some (.cells cs t fr)) (hi : (Try.prog.info? 23).map (·.size) = some cs.size) :
    (results fn tmps).run Try.prog w = .ok (.agg cs) w := by
  have hp' : tmps[p]?.getD undef = .pointer (some ⟨g, 0, none⟩) := by simpa using hp
  simp [results, h, hp', asAddr, run_loadVar_row w g t 23 cs fr _ hg Try.underlying23 rfl hi]
set_option maxRecDepth 100000 in
set_option maxHeartbeats 1000000 in
theorem cut_any (k v : ByteArray) (d : Bool) (q : Int) (w : World) (hk : k.size ≤ 9223372036854775807) (hv : v.size ≤ 9223372036854775807) :
    Calls Try.prog 19 #[.agg #[.string k, .string v, .bool d, .int .i64 q]] w fun e w' => e = .returned (.agg (encE (cutE 200 1100 ⟨k, v, d, q⟩)).toArray) ∧ Below w.heap.size w w' := by
  obtain ⟨m1, hm1⟩ : ∃ m, m = min k.size 200 := ⟨_, rfl⟩
  obtain ⟨m2, hm2⟩ : ∃ m, m = min v.size 1100 := ⟨_, rfl⟩
  have hz1 : min ((k.size : Nat) : Int) 200 = (m1 : Int) := by omega
  have hz2 : min ((v.size : Nat) : Int) 1100 = (m2 : Int) := by omega
  have hl1 : (m1 : Int) ≤ (k.size : Int) := by omega
  have hl2 : (m2 : Int) ≤ (v.size : Int) := by omega
  have HR : Hid (cutE 200 1100 ⟨k, v, d, q⟩ = ⟨k.extract 0 m1, v.extract 0 m2, d, q⟩) := by show _ = _; rw [cutE, hm1, hm2]
  rw [HR.out]
  clear hm1 hm2
  go_enter Try.func19, Try.ntmps19
  go_wp2
  refine bodyPost_ret (results_entry1 rfl _ _ (w.heap.size + 1) 23 _ _ rfl (by rw [heap_alloc_get, if_pos (by simp)]) (by exact size23)) rfl ?_
  exact ⟨rfl, (bel_alloc w _).trans ((bel_alloc _ _).mono (by simp))⟩
theorem ents_at {w : World} {b off : Nat} {l : List E} (h : Ents w b off l) (i c : Nat) (hi : i < l.length) (hc : c < 4) : w.cell? ⟨b, off + i * 4 + c, none⟩ = some (encE l[i]!)[c]! := by
  have := h (i * 4 + c) _ ((flatE_at l i c hi hc).trans (encE_get! _ c hc))
  rwa [← Nat.add_assoc] at this
/-- The four cells of an entry. -/
theorem ents_four {w : World} {b off : Nat} {l : List E} (h : Ents w b off l) (i : Nat) (hi : i < l.length) {k v : ByteArray} {d : Bool} {q : Int} (hx : l[i]! = ⟨k, v, d, q⟩) :
    w.cell? ⟨b, off + i * 4, none⟩ = some (.string k) ∧ w.cell? ⟨b, off + i * 4 + 1, none⟩ = some (.string v) ∧ w.cell? ⟨b, off + i * 4 + 2, none⟩ = some (.bool d) ∧ w.cell? ⟨b, off + i * 4 + 3, none⟩ = some (.int .i64 q) := by
  have c0 := ents_at h i 0 hi (by decide)
  have c1 := ents_at h i 1 hi (by decide)
  have c2 := ents_at h i 2 hi (by decide)
  have c3 := ents_at h i 3 hi (by decide)
  rw [hx] at c0 c1 c2 c3
  exact ⟨c0, c1, c2, c3⟩
/-- All texts of entries are no longer than a text may be. -/
def Small (es : List E) : Prop := ∀ e ∈ es, e.key.size ≤ 9223372036854775807 ∧ e.value.size ≤ 9223372036854775807
theorem small_at {es : List E} (h : Small es) (i : Nat) (hi : i < es.length) {k v : ByteArray} {d : Bool} {q : Int} (hx : es[i]! = ⟨k, v, d, q⟩) : k.size ≤ 9223372036854775807 ∧ v.size ≤ 9223372036854775807 := by
  have := h es[i]! (by rw [getElem!_pos es i hi]; exact List.getElem_mem hi)
  rw [hx] at this
  exact this
/-- The cells of one entry, laid by a literal. -/
theorem ent_laid (w5 : World) (k0 v0 : ByteArray) (d0 : Bool) (q0 : Int) : ∀ j u, (encE (E.mk k0 v0 d0 q0))[j]? = some u → (w5.alloc (Obj.cells #[.string k0, .string v0, .bool d0, .int .i64 q0] 23)).cell? ((⟨w5.heap.size, 0, none⟩ : Addr).add j) = some u := by
  intro j u hu
  have hb : (w5.alloc (Obj.cells #[.string k0, .string v0, .bool d0, .int .i64 q0] 23)).heap[w5.heap.size]? = some (Obj.cells #[.string k0, .string v0, .bool d0, .int .i64 q0] 23) := by rw [heap_alloc_get, if_pos rfl]
  rw [Addr.add_lit, Nat.zero_add, cell_of_row _ _ _ _ _ _ hb, ← hu]
  simp [encE]
theorem take_snoc {α : Type} [Inhabited α] (es : List α) (i : Nat) (h : i < es.length) : es.take (i + 1) = es.take i ++ [es[i]!] := by
  rw [List.take_succ_eq_append_getElem h, getElem!_pos es i h]
set_option maxRecDepth 100000 in
set_option maxHeartbeats 2000000 in
theorem few_any (ao : Option Addr) (n c most : Nat) (es : List E) (w : World) (hE : EntsV w ao n es) (hsm : Small es) (hbig : n ≤ 9223372036854775807) (hmost : most ≤ 1000) :
    Calls Try.prog 26 #[.slice ao n c, .int .i64 most] w fun e w' => ∃ v', e = .returned v' ∧ w'.ownsRow w.heap.size 23 4 v' (fewS 200 1100 most es).length (flatE (fewS 200 1100 most es)) ∧ Below w.heap.size w w' := by
  obtain ⟨i0, hi, hz0, hz1, hz2⟩ := info_parts info23
  have HE : Hid _ := hE
  clear hE
  go_enter Try.func26, Try.ntmps26
  go_wp2
  go_loopw [5, 6] (fun o x wr => ∃ i : Nat, x = .int .i64 i ∧ i ≤ n ∧ i ≤ most ∧ wr.ownsRow w.heap.size 23 4 o (fewS 200 1100 i es).length (flatE (fewS 200 1100 i es)) ∧ Below w.heap.size w wr) (fun _ x _ => n - (intOf x).toNat)
  case atStart => exact ⟨0, rfl, by omega, by omega, World.ownsRow_nil _ _ _ _, Below.refl _ _⟩
  case round =>
    obtain ⟨i, rfl, hin, him, hown, hbel⟩ := hrel
    by_cases hlt : i < n
    · have hltz : (i : Int) < (n : Int) := by omega
      by_cases hlm : i < most
      · have hlmz : (i : Int) < (most : Int) := by omega
        obtain ⟨b, off, hao, hEn⟩ := HE.out.2 (by omega)
        have hln := HE.out.1
        have hEr : Ents wr b off es := hEn.below hbel (Nat.le_refl _)
        obtain ⟨k0, v0, d0, q0, HX⟩ : ∃ k0 v0 d0 q0, Hid (es[i]! = E.mk k0 v0 d0 q0) := ⟨_, _, _, _, rfl⟩
        obtain ⟨c0, c1, c2, c3⟩ := ents_four hEr i (by omega) HX.out
        obtain ⟨s0, s1⟩ := small_at hsm i (by omega) HX.out
        subst hao
        obtain ⟨k1, v1, HY⟩ : ∃ k1 v1, Hid (cutE 200 1100 ⟨k0, v0, d0, q0⟩ = ⟨k1, v1, d0, q0⟩) := ⟨_, _, rfl⟩
        have CC := fun w => cut_any k0 v0 d0 q0 w s0 s1
        rw [HY.out] at CC
        have HCC : Hid _ := CC
        obtain ⟨done, HD⟩ : ∃ done, Hid (fewS 200 1100 i es = done) := ⟨_, rfl⟩
        rw [HD.out] at hown
        have hlenD : done.length ≤ 1000 := by rw [← HD.out, fewS_len]; omega
        have HBO : Hid _ := And.intro hown hbel
        clear hEr hEn hown hbel CC hln s0 s1
        go_wp2_with fail
        refine (HCC.out _).mono ?_
        rintro e w5 ⟨rfl, hb5⟩
        have hbel5 : Below w.heap.size w w5 := HBO.out.2.trans (hb5.mono HBO.out.2.size)
        have HOA : Hid ((w5.alloc (Obj.cells #[.string k1, .string v1, .bool d0, .int .i64 q0] 23)).ownsRow w.heap.size 23 4 u5 done.length (flatE done)) := (own_below HBO.out.1 hb5 (Nat.le_refl _)).alloc _
        have HCA : Hid (∀ j u, (encE (E.mk k1 v1 d0 q0))[j]? = some u → (w5.alloc (Obj.cells #[.string k1, .string v1, .bool d0, .int .i64 q0] 23)).cell? ((⟨w5.heap.size, 0, none⟩ : Addr).add j) = some u) := ent_laid w5 k1 v1 d0 q0
        have HBA : Hid (w.heap.size ≤ (w5.alloc (Obj.cells #[.string k1, .string v1, .bool d0, .int .i64 q0] 23)).heap.size) := by show _ ≤ _; have := hbel5.size; simp; omega
        have HB5 : Hid _ := hbel5
        clear hb5 hbel5 HBO c0 c1 c2 c3
        simp only [encE]
        go_wp2_with (at_builtin; refine wpList_append_own _ rfl (.tmp 18) (.tmp 24) 35 rfl w.heap.size 23 i0 _ 4 48 Try.underlying35 hi hz0 hz1 hz2 rfl (by decide) _ done.length (flatE done) rfl HOA.out ⟨w5.heap.size, 0, none⟩ 1 1 (encE (E.mk k1 v1 d0 q0)) rfl rfl HCA.out (encE_one _) (by unfold maxLen; omega) (by omega) HBA.out ?_)
        intro v' w6 hown6 hgr6 _
        have hbel6 : Below w.heap.size w w6 := (HB5.out.alloc HB5.out.size _).trans ((Below.refl _ _).grown hgr6 HBA.out (fun k hk => (HOA.out.lt k hk).1))
        clear hgr6 HOA HCA
        have HN : Hid _ := And.intro hown6 hbel6
        clear hown6 hbel6
        go_wp2
        go_roundw
        case rel =>
          refine ⟨i + 1, by go_num, by omega, by omega, ?_, HN.out.2⟩
          rw [fewS_snoc _ _ _ _ (by rw [HE.out.1]; omega), HD.out, HX.out, HY.out, flatE_append, List.length_append]
          simpa [flatE] using HN.out.1
        case measure => simp [intOf]; omega
      · have hlmz : ¬ (i : Int) < (most : Int) := by omega
        have hi2 : i = most := by omega
        have HN : Hid _ := And.intro hown hbel
        clear hown hbel
        go_wp2
        go_ret
        exact ⟨_, rfl, by rw [← hi2]; exact HN.out.1, HN.out.2⟩
    · have hltz : ¬ (i : Int) < (n : Int) := by omega
      have HT : Hid (fewS 200 1100 most es = fewS 200 1100 i es) := fewS_all _ _ _ _ (by rw [HE.out.1]; omega) _ (by rw [HE.out.1]; omega)
      have HN : Hid _ := And.intro hown hbel
      clear hown hbel
      go_wp2
      go_ret
      exact ⟨_, rfl, by rw [HT.out]; exact HN.out.1, HN.out.2⟩
/-- How many keys are below, and whether it is there. -/
def belowN (key : ByteArray) (es : List E) : Nat := es.countP fun e => decide (cmpS e.key key < 0)
def isIn (key : ByteArray) (es : List E) : Bool := es.any fun e => decide (e.key = key)
theorem belowN_le (key : ByteArray) (es : List E) : belowN key es ≤ es.length := List.countP_le_length
set_option maxRecDepth 100000 in
set_option maxHeartbeats 2000000 in
theorem find_any (ao : Option Addr) (n c : Nat) (es : List E) (key : ByteArray) (w : World) (hE : EntsV w ao n es) (hbig : n ≤ 1000000000000) :
    Calls Try.prog 32 #[.slice ao n c, .string key] w fun e w' => e = .returned (.tuple #[.int .i64 (belowN key es : Nat), .bool (isIn key es)]) ∧ Below w.heap.size w w' := by
  have HE : Hid _ := hE
  clear hE
  go_enter Try.func32, Try.ntmps32
  go_wp2
  go_loopw [6, 7, 9, 12] (fun s6 s7 s9 x wr => ∃ i : Nat, x = .int .i64 i ∧ i ≤ n ∧ s6 = .int .i64 (belowN key (es.take i) : Nat) ∧ s7 = .bool (isIn key (es.take i)) ∧ Below w.heap.size w wr) (fun _ _ _ x _ => n - (intOf x).toNat)
  case atStart => exact ⟨0, rfl, by omega, rfl, rfl, Below.refl _ _⟩
  case round =>
    obtain ⟨i, rfl, hin, rfl, rfl, hbel⟩ := hrel
    by_cases hlt : i < n
    · have hltz : (i : Int) < (n : Int) := by omega
      obtain ⟨b, off, hao, hEn⟩ := HE.out.2 (by omega)
      have hln := HE.out.1
      have hEr : Ents wr b off es := hEn.below hbel (Nat.le_refl _)
      obtain ⟨k0, v0, d0, q0, HX⟩ : ∃ k0 v0 d0 q0, Hid (es[i]! = E.mk k0 v0 d0 q0) := ⟨_, _, _, _, rfl⟩
      obtain ⟨c0, c1, c2, c3⟩ := ents_four hEr i (by omega) HX.out
      subst hao
      obtain ⟨m, HM⟩ : ∃ m, Hid (belowN key (es.take i) = m) := ⟨_, rfl⟩
      obtain ⟨y, HY⟩ : ∃ y, Hid (isIn key (es.take i) = y) := ⟨_, rfl⟩
      rw [HM.out, HY.out]
      have hm : m ≤ n := by rw [← HM.out]; have := belowN_le key (es.take i); rw [List.length_take] at this; omega
      have HM2 : Hid (belowN key (es.take (i + 1)) = m + if cmpS k0 key < 0 then 1 else 0) := by
        show _ = _
        rw [take_snoc es i (by omega), HX.out, ← HM.out]
        unfold belowN
        rw [List.countP_append]
        by_cases h : cmpS k0 key < 0 <;> simp [h]
      have HY2 : Hid (isIn key (es.take (i + 1)) = (y || decide (k0 = key))) := by
        show _ = _
        rw [take_snoc es i (by omega), HX.out, ← HY.out]
        unfold isIn
        rw [List.any_append]
        simp
      have HB : Hid _ := hbel
      clear hEr hEn hbel hln
      have e1 := less_cmpS k0 key
      have e2 := eq_cmpS k0 key
      by_cases h1 : cmpS k0 key < 0
      · have e1' : Op.bytesLess k0.toList key.toList = true := by rw [e1]; exact decide_eq_true h1
        have h2 : ¬ k0 = key := fun h => by rw [h] at h1; have := cmpS_ord.self key; omega
        have e2' : (k0.toList == key.toList) = false := by rw [e2]; exact decide_eq_false h2
        clear e1 e2
        go_wp2
        go_roundw
        case rel => exact ⟨i + 1, by go_num, by omega, by rw [HM2.out, if_pos h1]; go_num, by rw [HY2.out, decide_eq_false h2, Bool.or_false], HB.out.alloc HB.out.size _⟩
        case measure => simp [intOf]; omega
      · have e1' : Op.bytesLess k0.toList key.toList = false := by rw [e1]; exact decide_eq_false h1
        by_cases h2 : k0 = key
        · have e2' : (k0.toList == key.toList) = true := by rw [e2]; exact decide_eq_true h2
          have H2 : Hid _ := h2
          clear e1 e2 h2
          go_wp2
          go_roundw
          case rel => exact ⟨i + 1, by go_num, by omega, by rw [HM2.out, if_neg h1]; rfl, by rw [HY2.out, decide_eq_true H2.out, Bool.or_true], HB.out.alloc HB.out.size _⟩
          case measure => simp [intOf]; omega
        · have e2' : (k0.toList == key.toList) = false := by rw [e2]; exact decide_eq_false h2
          clear e1 e2
          go_wp2
          go_roundw
          case rel => exact ⟨i + 1, by go_num, by omega, by rw [HM2.out, if_neg h1]; rfl, by rw [HY2.out, decide_eq_false h2, Bool.or_false], HB.out.alloc HB.out.size _⟩
          case measure => simp [intOf]; omega
    · have hltz : ¬ (i : Int) < (n : Int) := by omega
      have HT : Hid (es.take i = es) := by show _ = _; rw [List.take_of_length_le (by rw [HE.out.1]; omega)]
      rw [HT.out]
      obtain ⟨m, HM⟩ : ∃ m, Hid (belowN key es = m) := ⟨_, rfl⟩
      obtain ⟨y, HY⟩ : ∃ y, Hid (isIn key es = y) := ⟨_, rfl⟩
      rw [HM.out, HY.out]
      go_wp2
      go_ret2
      exact ⟨by rw [HM.out, HY.out]; rfl, hbel⟩
/-- Each key above the one ahead, as a test. -/
def sortedB : List E → Bool
  | a :: b :: r => decide (cmpS a.key b.key < 0) && sortedB (b :: r)
  | _ => true
theorem sortedB_at : ∀ (es : List E), sortedB es = true ↔ ∀ i, i + 1 < es.length → cmpS es[i]!.key es[i + 1]!.key < 0
  | [] => by simp [sortedB]
  | [a] => by simp [sortedB]
  | a :: b :: r => by
    rw [sortedB, Bool.and_eq_true, sortedB_at (b :: r)]
    constructor
    · rintro ⟨h1, h2⟩ i hi
      cases i with
      | zero => simpa using h1
      | succ i => simpa using h2 i (by simpa using hi)
    · intro h
      exact ⟨by simpa using h 0 (by simp), fun i hi => by simpa using h (i + 1) (by simpa using hi)⟩
theorem sortedB_ks : ∀ {es : List E}, sortedB es = true ↔ Ks es
  | [] => by simp [sortedB, Ks]
  | [a] => by simp [sortedB, Ks]
  | a :: b :: r => by
    rw [sortedB, Bool.and_eq_true, sortedB_ks (es := b :: r), decide_eq_true_eq]
    constructor
    · rintro ⟨h1, h2⟩
      refine List.pairwise_cons.2 ⟨fun y hy => ?_, h2⟩
      rcases List.mem_cons.1 hy with rfl | hy
      · exact h1
      · exact cmpS_ord.ltle h1 (by have := (List.pairwise_cons.1 h2).1 y hy; omega)
    · intro h
      have h' := List.pairwise_cons.1 h
      exact ⟨h'.1 b (by simp), h'.2⟩
set_option maxRecDepth 100000 in
set_option maxHeartbeats 2000000 in
theorem sorted_any (ao : Option Addr) (n c : Nat) (es : List E) (w : World) (hE : EntsV w ao n es) (hbig : n ≤ 1000000000000) :
    Calls Try.prog 34 #[.slice ao n c] w fun e w' => e = .returned (.bool (sortedB es)) ∧ Below w.heap.size w w' := by
  have HE : Hid _ := hE
  clear hE
  go_enter Try.func34, Try.ntmps34
  go_wp2
  go_loopw [3] (fun x wr => ∃ i : Nat, x = .int .i64 (i + 1 : Nat) ∧ (i = 0 ∨ i + 1 ≤ n) ∧ Hid (∀ j, j < i → j + 1 < es.length → cmpS es[j]!.key es[j + 1]!.key < 0) ∧ Below w.heap.size w wr) (fun x _ => n - (intOf x).toNat)
  case atStart => exact ⟨0, rfl, .inl rfl, (fun j h => absurd h (by omega)), Below.refl _ _⟩
  case round =>
    obtain ⟨i, rfl, hin, HS, hbel⟩ := hrel
    by_cases hlt : i + 1 < n
    · have hltz : (i : Int) + 1 < (n : Int) := by omega
      obtain ⟨b, off, hao, hEn⟩ := HE.out.2 (by omega)
      have hln := HE.out.1
      have hEr : Ents wr b off es := hEn.below hbel (Nat.le_refl _)
      obtain ⟨k0, v0, d0, q0, HX⟩ : ∃ k0 v0 d0 q0, Hid (es[i]! = E.mk k0 v0 d0 q0) := ⟨_, _, _, _, rfl⟩
      obtain ⟨k1, v1, d1, q1, HY⟩ : ∃ k0 v0 d0 q0, Hid (es[i + 1]! = E.mk k0 v0 d0 q0) := ⟨_, _, _, _, rfl⟩
      obtain ⟨c0, -, -, -⟩ := ents_four hEr i (by omega) HX.out
      obtain ⟨c1, -, -, -⟩ := ents_four hEr (i + 1) (by omega) HY.out
      subst hao
      have HB : Hid _ := hbel
      clear hEr hEn hbel hin
      have HLN : Hid _ := hln
      clear hln
      have e1 := less_cmpS k1 k0
      have e2 := eq_cmpS k1 k0
      by_cases h1 : cmpS k0 k1 < 0
      · have h3 : ¬ cmpS k1 k0 < 0 := by have := cmpS_ord.anti k0 k1; omega
        have h2 : ¬ k1 = k0 := fun h => by rw [h] at h1; have := cmpS_ord.self k0; omega
        have e1' : Op.bytesLess k1.toList k0.toList = false := by rw [e1]; exact decide_eq_false h3
        have e2' : (k1.toList == k0.toList) = false := by rw [e2]; exact decide_eq_false h2
        clear e1 e2
        go_wp2_with fail
        go_quiet (fail)
        go_wp2
        go_roundw
        case rel =>
          refine ⟨i + 1, by go_num, .inr (by omega), (fun j hj hj2 => ?_), bel_drewN HB.out nq⟩
          by_cases e : j = i
          · subst e; rw [HX.out, HY.out]; exact h1
          · exact HS.out j (by omega) hj2
        case measure => simp [intOf]; omega
      · have hf : Hid (sortedB es = false) := by
          show _ = _
          cases hh : sortedB es with
          | false => rfl
          | true =>
            have := (sortedB_at es).1 hh i (by rw [HLN.out]; omega)
            rw [HX.out, HY.out] at this
            exact absurd this h1
        by_cases h2 : k1 = k0
        · have e2' : (k1.toList == k0.toList) = true := by rw [e2]; exact decide_eq_true h2
          have e1' : Op.bytesLess k1.toList k0.toList = false := by rw [e1]; exact decide_eq_false (by rw [h2]; have := cmpS_ord.self k0; omega)
          clear e1 e2 h2
          go_wp2_with fail
          go_quiet (fail)
          go_wp2
          go_ret
          exact ⟨by rw [hf.out]; rfl, bel_drewN HB.out nq⟩
        · have e2' : (k1.toList == k0.toList) = false := by rw [e2]; exact decide_eq_false h2
          have h3 : cmpS k1 k0 < 0 := by
            have a1 := cmpS_ord.anti k0 k1; have a2 := cmpS_ord.anti k1 k0
            have a3 : cmpS k1 k0 ≠ 0 := fun h => h2 (cmpS_eq.1 h)
            omega
          have e1' : Op.bytesLess k1.toList k0.toList = true := by rw [e1]; exact decide_eq_true h3
          clear e1 e2
          go_wp2_with fail
          go_quiet (fail)
          go_wp2
          go_ret
          exact ⟨by rw [hf.out]; rfl, bel_drewN HB.out nq⟩
    · have hltz : ¬ (i : Int) + 1 < (n : Int) := by omega
      have ht : Hid (sortedB es = true) := (sortedB_at es).2 fun j hj => HS.out j (by rw [HE.out.1] at hj; omega) hj
      go_wp2
      go_ret
      exact ⟨by rw [ht.out]; rfl, hbel⟩
end Go.Proofs.Yteemfhhhdhddhaa

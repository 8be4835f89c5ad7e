/-
  Arguments that are entries, lists of entries and bytes, opened. A key's place parts a sorted list: what the law EntryFinds answers, for any arguments. What marlstoneref03.Same answers: a contract over this translation.
-/
import Derived.Test.YtecacjddggljgaaDoorPartAG
import Derived.Lib.SmallJoins
import Derived.Deep.Slices
import Derived.OpenShut
import Derived.ShutString
import Derived.Laws.StructEq
namespace Go.Proofs.YtecacjddggljgaaDoor
open Go.ChangeShapes Go.WideShapes Go.ChangeAt Go.RowKit Go.Joins Go.Deep
set_option linter.unusedSectionVars false
variable [Inhabited E]
theorem cells23 : Tryd.prog.cellsOf 54 = 4 := by kernel_rfl
theorem cells9 : Tryd.prog.cellsOf 9 = 1 := by kernel_rfl
theorem cells4 : Tryd.prog.cellsOf 4 = 1 := by kernel_rfl
theorem cells3 : Tryd.prog.cellsOf 3 = 1 := by kernel_rfl
theorem cells5 : Tryd.prog.cellsOf 5 = 1 := by kernel_rfl
theorem list4 {cs : List Value} (h : cs.length = 4) : ∃ a b c d, cs = [a, b, c, d] := by
  match cs, h with
  | [a, b, c, d], _ => exact ⟨a, b, c, d, rfl⟩
section
variable {H : Type} {enc : TypeId × Value → H} {w : World} {base : Nat} {spare : Nat → Bool} {held : Bool}
/-- The four cells that read as an entry. -/
theorem cells_entry {n : Nat} {cs : List Value} {x : DataW H × List MemPlace} (h : DataW.trod enc Tryd.prog w base spare held n 54 cs = some x) :
    ∃ e : E, cs = encE e ∧ e.key.size ≤ 9223372036854775807 ∧ e.value.size ≤ 9223372036854775807 ∧ (Lit.int .i64 e.seq).wf = true := by
  obtain ⟨y0, y1, y2, y3, m, _, hl, h0, h1, h2, h3⟩ := trod_struct4 Tryd.underlying54 h
  rw [cells23] at hl
  obtain ⟨a, b, c, d, rfl⟩ := list4 hl
  simp only [cells9, cells4, cells3, List.drop_zero, List.drop_succ_cons, List.take_succ_cons, List.take_zero] at h0 h1 h2 h3
  obtain ⟨s0, e0, _, z0⟩ := DataW.trod_string Tryd.underlying9 h0
  obtain ⟨s1, e1, _, z1⟩ := DataW.trod_string Tryd.underlying9 h1
  obtain ⟨b2, e2, _⟩ := DataW.trod_bool Tryd.underlying4 h2
  obtain ⟨n3, e3, _, z3⟩ := DataW.trod_int Tryd.underlying3 h3
  simp only [List.cons.injEq, and_true] at e0 e1 e2 e3
  subst e0 e1 e2 e3
  unfold maxLen at z0 z1
  exact ⟨⟨s0, s1, b2, n3⟩, rfl, by simpa using z0, by simpa using z1, z3⟩
set_option maxRecDepth 100000 in
theorem open_ents {r : Reach} {b0 : Nat} {v : Value} {d : DataW H} {p : List MemPlace} (hv : Value.okWide Tryd.prog w r b0 22 v) (h : DataW.Trod enc Tryd.prog w base spare held 22 v d p) :
    ∃ ao n c es, v = .slice ao n c ∧ EntsV w ao n es ∧ Small es ∧ n ≤ c ∧ c ≤ 9223372036854775807 := by
  obtain ⟨a0, len0, cap0, rfl⟩ := okWide_slice Tryd.underlying22 hv
  obtain ⟨fuel, hf⟩ := h
  rcases open_slice Tryd.underlying22 hf with ⟨hcs, _⟩ | ⟨a, len, cap, m, n, D, Pl, hcs, _, hl, hm, hmm, _, hel⟩
  · simp [Value.cells] at hcs
    obtain ⟨rfl, rfl, rfl⟩ := hcs
    exact ⟨none, 0, 0, [], rfl, ⟨rfl, fun h => absurd h (by omega)⟩, (fun _ he => by cases he), Nat.le_refl _, by omega⟩
  · simp [Value.cells] at hcs
    obtain ⟨rfl, rfl, rfl⟩ := hcs
    have hlm : len0 ≤ m := by rw [hmm]; split <;> omega
    have hel2 : ∀ i, i < len0 → ∃ e : E, w.cells? base (a.add (i * 4)) 4 = some (encE e) ∧ e.key.size ≤ 9223372036854775807 ∧ e.value.size ≤ 9223372036854775807 := by
      intro i hi
      obtain ⟨cs', h1, h2⟩ := hel i (by omega)
      rw [cells23] at h1
      obtain ⟨e, rfl, z0, z1, _⟩ := cells_entry h2
      exact ⟨e, h1, z0, z1⟩
    obtain ⟨f, hf2⟩ := choose_lt hel2
    refine ⟨some a, len0, cap0, (List.range len0).map f, rfl, ⟨by simp, fun hp => ?_⟩, ?_, hl, by unfold maxLen at hm; omega⟩
    · obtain ⟨b, off, spot⟩ := a
      have hspot : spot = none := by
        have := (World.cells?_some (hf2 0 hp).1).2.2 0 (by omega)
        have h3 : (encE (f 0))[0]? = some (.string (f 0).key) := rfl
        rw [h3] at this
        simpa [Addr.add] using World.cell?_spot this
      subst hspot
      refine ⟨b, off, rfl, fun j u hu => ?_⟩
      have hj : j < len0 * 4 := by
        have := (List.getElem?_eq_some_iff.1 hu).1
        rw [flatE_len] at this; simpa using this
      rw [flatE_get _ j (by simpa using hj)] at hu
      have hget : ((List.range len0).map f)[j / 4]! = f (j / 4) := by
        rw [getElem!_pos _ _ (by simp; omega)]; simp
      rw [hget] at hu
      have := (World.cells?_some (hf2 (j / 4) (by omega)).1).2.2 (j % 4) (by omega)
      rw [hu, Addr.add_lit, Addr.add_lit] at this
      rw [← this]
      congr 2
      omega
    · intro e he
      simp only [List.mem_map, List.mem_range] at he
      obtain ⟨i, hi, rfl⟩ := he
      exact ⟨(hf2 i hi).2.1, (hf2 i hi).2.2⟩
set_option maxRecDepth 100000 in
theorem open_entry {r : Reach} {b0 : Nat} {v : Value} {d : DataW H} {p : List MemPlace} (hv : Value.okWide Tryd.prog w r b0 54 v) (h : DataW.Trod enc Tryd.prog w base spare held 54 v d p) :
    ∃ e : E, v = .agg (encE e).toArray ∧ e.key.size ≤ 9223372036854775807 ∧ e.value.size ≤ 9223372036854775807 ∧ (Lit.int .i64 e.seq).wf = true := by
  obtain ⟨cs, rfl, hsz⟩ := okWide_struct Tryd.underlying54 hv
  obtain ⟨fuel, hf⟩ := h
  obtain ⟨e, he, h1, h2, h3⟩ := cells_entry hf
  refine ⟨e, ?_, h1, h2, h3⟩
  have : cs.toList = encE e := by simpa [Value.cells] using he
  rw [← this]
set_option maxRecDepth 100000 in
theorem open_bytes {r : Reach} {b0 : Nat} {v : Value} {d : DataW H} {p : List MemPlace} (hv : Value.okWide Tryd.prog w r b0 27 v) (h : DataW.Trod enc Tryd.prog w base spare held 27 v d p) (hsp : ∀ x, spare x = true) :
    ∃ ao n c bs, v = .slice ao n c ∧ Bytes w ao n bs ∧ (ao = none → c = 0) ∧ n ≤ c ∧ c ≤ 9223372036854775807 := by
  obtain ⟨a0, len0, cap0, rfl⟩ := okWide_slice Tryd.underlying27 hv
  obtain ⟨fuel, hf⟩ := h
  have hr : ∃ zs : List Int, (a0 = none ∧ len0 = 0 ∧ cap0 = 0 ∧ zs = []) ∨
      ∃ x, a0 = some x ∧ len0 ≤ cap0 ∧ cap0 ≤ maxLen ∧ zs.length = cap0 ∧ (∀ i, i < zs.length → w.cell? (x.add i) = some (.int .u8 (zs.getD i 0))) ∧ ∀ n ∈ zs, (Lit.int .u8 n).wf = true := by
    rcases open_ints Tryd.underlying27 Tryd.underlying5 cells5 hf with ⟨hcs, _⟩ | ⟨x, l, c, zs, hcs, _, hl, hm, hz, _, hcell, hwz⟩
    · simp [Value.cells] at hcs
      obtain ⟨rfl, rfl, rfl⟩ := hcs
      exact ⟨[], .inl ⟨rfl, rfl, rfl, rfl⟩⟩
    · simp [Value.cells] at hcs
      obtain ⟨rfl, rfl, rfl⟩ := hcs
      exact ⟨zs, .inr ⟨_, rfl, hl, hm, by simpa [hsp] using hz, hcell, hwz⟩⟩
  obtain ⟨zs, hzs⟩ := hr
  obtain ⟨bs, h1, h2, h3, h4⟩ := row_bytes hzs
  exact ⟨a0, len0, cap0, bs, rfl, h1, h2, h3, h4⟩
end
end Go.Proofs.YtecacjddggljgaaDoor
namespace Go.Proofs.YtecacjddggljgaaDoor
open Go.RowKit Go.Sort Go.Shelf
set_option linter.unusedSectionVars false
variable [Inhabited E]
theorem own_entsV {w : World} {base : Nat} {v : Value} {n : Nat} {es : List E} (h : w.ownsRow base 54 4 v n (flatE es)) (hn : es.length = n) : ∃ ao c, v = .slice ao n c ∧ EntsV w ao n es := by
  by_cases hp : 0 < n
  · obtain ⟨g, c, rfl, hE, _⟩ := own_shapeE h hp
    exact ⟨_, c, rfl, hn, fun _ => ⟨g, 0, rfl, hE⟩⟩
  · obtain rfl : n = 0 := by omega
    rcases h.2 with ⟨hv, _⟩ | ⟨g, cap, cur, rfl, _⟩
    · exact ⟨none, 0, hv, hn, fun h => absurd h (by omega)⟩
    · exact ⟨_, cap, rfl, hn, fun h => absurd h (by omega)⟩
theorem EntsV.below {w w' : World} {ao : Option Addr} {n B : Nat} {es : List E} (h : EntsV w ao n es) (hb : Below B w w') (hB : w.heap.size ≤ B) : EntsV w' ao n es :=
  ⟨h.1, fun hp => by obtain ⟨b, off, h1, h2⟩ := h.2 hp; exact ⟨b, off, h1, h2.below hb hB⟩⟩
theorem belowN_cons (key : ByteArray) (e : E) (r : List E) : belowN key (e :: r) = (if cmpS e.key key < 0 then 1 else 0) + belowN key r := by
  unfold belowN; rw [List.countP_cons, Nat.add_comm]; by_cases h : cmpS e.key key < 0 <;> simp [h]
theorem belowN_zero {key : ByteArray} {r : List E} (h : ∀ e ∈ r, ¬ cmpS e.key key < 0) : belowN key r = 0 := by
  unfold belowN; rw [List.countP_eq_zero]; intro e he; simpa using h e he
theorem ks_place (key : ByteArray) : ∀ {l : List E}, Ks l → ∀ i, i < l.length → (cmpS l[i]!.key key < 0 ↔ i < belowN key l)
  | [], _, i, h => by simp at h
  | e :: r, hk, i, h => by
    have hk' := List.pairwise_cons.1 hk
    rw [belowN_cons]
    by_cases c : cmpS e.key key < 0
    · rw [if_pos c]
      cases i with
      | zero => simp [c]; omega
      | succ i =>
        have := ks_place key hk'.2 i (by simpa using h)
        simp only [List.getElem!_cons_succ]
        rw [this]; omega
    · have hz : belowN key r = 0 := belowN_zero fun x hx hc => c (cmpS_ord.ltle (hk'.1 x hx) (by omega))
      rw [if_neg c, hz]
      cases i with
      | zero => exact ⟨fun h => absurd h c, fun h => by omega⟩
      | succ i =>
        have hi : i < r.length := by simpa using h
        simp only [List.getElem!_cons_succ]
        have : ¬ cmpS r[i]!.key key < 0 := fun hc => by
          rw [getElem!_pos r i hi] at hc
          exact c (cmpS_ord.ltle (hk'.1 _ (List.getElem_mem hi)) (by omega))
        exact ⟨fun h => absurd h this, fun h => by omega⟩
theorem ks_isIn (key : ByteArray) : ∀ {l : List E}, Ks l → isIn key l = (decide (belowN key l < l.length) && decide (l[belowN key l]!.key = key))
  | [], _ => rfl
  | e :: r, hk => by
    have hk' := List.pairwise_cons.1 hk
    have ih := ks_isIn key hk'.2
    have hu : isIn key (e :: r) = (decide (e.key = key) || isIn key r) := by unfold isIn; rw [List.any_cons]
    rw [hu, belowN_cons]
    by_cases c : cmpS e.key key < 0
    · have hne : ¬ e.key = key := fun h => by rw [h] at c; have := cmpS_ord.self key; omega
      rw [if_pos c, ih, Nat.add_comm 1]
      simp [hne]
    · have hz : belowN key r = 0 := belowN_zero fun x hx hc => c (cmpS_ord.ltle (hk'.1 x hx) (by omega))
      rw [if_neg c, hz]
      by_cases h2 : e.key = key
      · simp [h2]
      · have : isIn key r = false := by
          unfold isIn
          rw [List.any_eq_false]
          intro x hx hc
          simp at hc
          have h3 := hk'.1 x hx
          rw [hc] at h3
          exact c h3
        simp [h2, this]
theorem foldS_len (l : List E) : (foldS l).length ≤ l.length := by
  have hi : ∀ (a : List E) (e : E), (insS a e).length ≤ a.length + 1 := by
    intro a e
    induction a with
    | nil => simp [insS]
    | cons x r ih =>
      rw [insS]
      split
      · simpa using ih
      · split
        · split <;> simp
        · simp
  have : ∀ (l a : List E), (l.foldl insS a).length ≤ a.length + l.length := by
    intro l
    induction l with
    | nil => intro a; simp
    | cons e l ih =>
      intro a
      have h1 := ih (insS a e)
      have h2 := hi a e
      simp only [List.foldl_cons, List.length_cons]
      omega
  have h := this l []
  rw [List.length_nil, Nat.zero_add] at h
  exact h
end Go.Proofs.YtecacjddggljgaaDoor
namespace Go.Proofs.YtecacjddggljgaaDoor
open Go.RowKit Go.Sort Go.Shelf
set_option linter.unusedSectionVars false
variable [Inhabited E] [DecidableEq E]
theorem stood23 : Tryd.prog.stoodInHeld 54 = false := by kernel_rfl
theorem guard23 : Tryd.prog.eqGuardType Tryd.prog.depth 54 = false := by kernel_rfl
theorem fields23 : Tryd.prog.underlying 54 = some (.struct (Tryd.prog.fieldsOf 54)) := by kernel_rfl
set_option maxRecDepth 100000 in
set_option maxHeartbeats 2000000 in
theorem equal23 (k0 v0 : ByteArray) (d0 : Bool) (q0 : Int) (k1 v1 : ByteArray) (d1 : Bool) (q1 : Int) (w : World) :
    (Op.equalIn 10000 54 (.agg #[.string k0, .string v0, .bool d0, .int .i64 q0]) (.agg #[.string k1, .string v1, .bool d1, .int .i64 q1])).run Tryd.prog w = .ok (decide ((⟨k0, v0, d0, q0⟩ : E) = ⟨k1, v1, d1, q1⟩)) w := by
  have h0 := eq_cmpS k0 k1
  have h1 := eq_cmpS v0 v1
  have hf : (Tryd.prog.fieldsOf 54).toList = [⟨"Key", 9, 0, false, "", "", 0⟩, ⟨"Value", 9, 1, false, "", "", 16⟩, ⟨"Del", 4, 2, false, "", "", 32⟩, ⟨"Seq", 3, 3, false, "", "", 40⟩] := by kernel_rfl
  have p9 : ∀ (xs : Array Value) (o : Nat) (v : Value) (w : World), xs[o]? = some v → (part 9 xs o).run Tryd.prog w = .ok v w := by
    intro xs o v w h
    simp [part, Tryd.isAgg9, h]
  have p4 : ∀ (xs : Array Value) (o : Nat) (v : Value) (w : World), xs[o]? = some v → (part 4 xs o).run Tryd.prog w = .ok v w := by
    intro xs o v w h
    simp [part, Tryd.isAgg4, h]
  have p3 : ∀ (xs : Array Value) (o : Nat) (v : Value) (w : World), xs[o]? = some v → (part 3 xs o).run Tryd.prog w = .ok v w := by
    intro xs o v w h
    simp [part, Tryd.isAgg3, h]
  rw [run_equalIn_agg w 9999 54 _ _ fields23 stood23, hf]
  simp only [Op.eqFields, Sem.run_bind, Sem.run_ite]
  rw [p9 _ 0 (.string k0) w rfl, Result.andThen_ok, p9 _ 0 (.string k1) w rfl, Result.andThen_ok, run_equalIn_string w 9998 9 k0 k1 Tryd.underlying9, Result.andThen_ok, h0]
  by_cases c0 : k0 = k1
  · subst c0
    rw [p9 _ 1 (.string v0) w rfl, Result.andThen_ok, p9 _ 1 (.string v1) w rfl, Result.andThen_ok, run_equalIn_string w 9998 9 v0 v1 Tryd.underlying9, Result.andThen_ok, h1]
    by_cases c1 : v0 = v1
    · subst c1
      rw [p4 _ 2 (.bool d0) w rfl, Result.andThen_ok, p4 _ 2 (.bool d1) w rfl, Result.andThen_ok, run_equalIn_bool' w 9998 4 d0 d1 Tryd.underlying4, Result.andThen_ok]
      by_cases c2 : d0 = d1
      · subst c2
        rw [p3 _ 3 (.int .i64 q0) w rfl, Result.andThen_ok, p3 _ 3 (.int .i64 q1) w rfl, Result.andThen_ok, run_equalIn_int w 9998 3 .i64 .i64 q0 q1 Tryd.underlying3, Result.andThen_ok]
        by_cases c3 : q0 = q1
        · subst c3; simp
        · simp [c3]
      · simp [c2]
    · simp [c1]
  · simp [c0]
set_option maxRecDepth 100000 in
set_option maxHeartbeats 2000000 in
theorem same_any (ao : Option Addr) (n c : Nat) (xs : List E) (bo : Option Addr) (m d : Nat) (ys : List E) (w : World) (hA : EntsV w ao n xs) (hB : EntsV w bo m ys) (hn : n ≤ 1000000000000) (hm : m ≤ 1000000000000) :
    Calls Tryd.prog 28 #[.slice ao n c, .slice bo m d] w fun e w' => e = .returned (.bool (decide (xs = ys))) ∧ Below w.heap.size w w' := by
  obtain ⟨r, HR⟩ : ∃ r, Hid (decide (xs = ys) = r) := ⟨_, rfl⟩
  rw [HR.out]
  have HA : Hid _ := hA
  have HB : Hid _ := hB
  clear hA hB
  have hg := guard23
  by_cases hnm : n = m
  · subst hnm
    go_enter Tryd.func28, Tryd.ntmps28
    go_wp2
    go_loopw [5] (fun x wr => ∃ i : Nat, x = .int .i64 i ∧ i ≤ n ∧ Hid (xs.take i = ys.take i) ∧ Below w.heap.size w wr) (fun x _ => n - (intOf x).toNat)
    case atStart => exact ⟨0, rfl, by omega, rfl, Below.refl _ _⟩
    case round =>
      obtain ⟨i, rfl, hin, HS, hbel⟩ := hrel
      by_cases hlt : i < n
      · have hltz : (i : Int) < (n : Int) := by omega
        obtain ⟨b, off, hao, hEn⟩ := HA.out.2 (by omega)
        obtain ⟨b2, off2, hbo, hEn2⟩ := HB.out.2 (by omega)
        have hEr := hEn.below hbel (Nat.le_refl _)
        have hEr2 := hEn2.below hbel (Nat.le_refl _)
        obtain ⟨k0, v0, d0, q0, HX⟩ : ∃ k0 v0 d0 q0, Hid (xs[i]! = E.mk k0 v0 d0 q0) := ⟨_, _, _, _, rfl⟩
        obtain ⟨k1, v1, d1, q1, HY⟩ : ∃ k0 v0 d0 q0, Hid (ys[i]! = E.mk k0 v0 d0 q0) := ⟨_, _, _, _, rfl⟩
        obtain ⟨c0, c1, c2, c3⟩ := ents_four hEr i (by have := HA.out.1; omega) HX.out
        obtain ⟨f0, f1, f2, f3⟩ := ents_four hEr2 i (by have := HB.out.1; omega) HY.out
        subst hao hbo
        have heq := fun w => equal23 k0 v0 d0 q0 k1 v1 d1 q1 w
        have HBE : Hid _ := hbel
        clear hEr hEr2 hEn hEn2 hbel
        have HSN : Hid (xs.take (i + 1) = xs.take i ++ [xs[i]!] ∧ ys.take (i + 1) = ys.take i ++ [ys[i]!]) := ⟨take_snoc xs i (by have := HA.out.1; omega), take_snoc ys i (by have := HB.out.1; omega)⟩
        by_cases he : (⟨k0, v0, d0, q0⟩ : E) = ⟨k1, v1, d1, q1⟩
        · have HE : Hid _ := he
          rw [decide_eq_true he] at heq
          clear he
          go_wp2_with fail
          go_quiet (fail)
          go_wp2
          go_roundw
          case rel => exact ⟨i + 1, by go_num, by omega, (by show _ = _; rw [HSN.out.1, HSN.out.2, HS.out, HX.out, HY.out, HE.out]), bel_drewN HBE.out nq⟩
          case measure => simp [intOf]; omega
        · have hf : r = false := by
            rw [← HR.out]
            refine decide_eq_false fun h => he ?_
            rw [← HX.out, ← HY.out, h]
          subst hf
          rw [decide_eq_false he] at heq
          clear he
          go_wp2_with fail
          go_quiet (fail)
          go_wp2
          go_ret
          exact ⟨rfl, bel_drewN HBE.out nq⟩
      · have hltz : ¬ (i : Int) < (n : Int) := by omega
        have ht : r = true := by
          rw [← HR.out]
          refine decide_eq_true ?_
          have := HS.out
          rwa [List.take_of_length_le (by have := HA.out.1; omega), List.take_of_length_le (by have := HB.out.1; omega)] at this
        subst ht
        go_wp2
        go_ret
        exact ⟨rfl, hbel⟩
  · have hf : r = false := by
      rw [← HR.out]
      refine decide_eq_false fun h => hnm ?_
      rw [← HA.out.1, ← HB.out.1, h]
    subst hf
    have hnz : ((n : Int) != (m : Int)) = true := by simp; omega
    go_enter Tryd.func28, Tryd.ntmps28
    go_wp2
    go_ret
    exact ⟨rfl, Below.refl _ _⟩
end Go.Proofs.YtecacjddggljgaaDoor

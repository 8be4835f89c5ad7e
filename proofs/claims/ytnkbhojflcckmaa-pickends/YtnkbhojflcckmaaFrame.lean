/-
  What the statements' frames share: tables and numbers handed in. No walk.
-/
import Derived.Test.YtnkbhojflcckmaaRows
import Derived.Test.YtnkbhojflcckmaaPkI
import Derived.ProofKit
import Derived.OpenShut
import Derived.ChangeOld
import Derived.Below
import Derived.SizedLaws
import Derived.Lib.SmallJoins
import Derived.Deep.Slices
import Derived.ShutString
namespace Go.Proofs.Ytnkbhojflcckmaa
open Go.ChangeShapes Go.WideShapes Go.ChangeAt Go.RowKit Go.Joins Go.Deep
theorem cells32 : Try.prog.cellsOf 32 = 36 := by kernel_rfl
theorem cells30 : Try.prog.cellsOf 30 = 32 := by kernel_rfl
theorem cells9 : Try.prog.cellsOf 9 = 1 := by kernel_rfl
theorem cells3 : Try.prog.cellsOf 3 = 1 := by kernel_rfl
theorem cells5 : Try.prog.cellsOf 5 = 1 := by kernel_rfl
theorem choose_lt' {α : Type} (z : α) {n : Nat} {p : Nat → α → Prop} (h : ∀ i, i < n → ∃ x, p i x) : ∃ f : Nat → α, ∀ i, i < n → p i (f i) :=
  ⟨fun i => if hi : i < n then Classical.choose (h i hi) else z, fun i hi => by simp only [dif_pos hi]; exact Classical.choose_spec (h i hi)⟩
section
variable {H : Type} {enc : TypeId × Value → H} {w : World} {base : Nat} {spare : Nat → Bool} {held : Bool}
theorem trod_struct5 {t : TypeId} {f0 f1 f2 f3 f4 : Field} {fuel : Nat} {cs : List Value} {x : DataW H × List MemPlace} (ht : Try.prog.underlying t = some (.struct #[f0, f1, f2, f3, f4])) (h : DataW.trod enc Try.prog w base spare held fuel t cs = some x) :
    ∃ y0 y1 y2 y3 y4 n, cs.length = Try.prog.cellsOf t ∧ DataW.trod enc Try.prog w base spare held n f0.type ((cs.drop f0.offset).take (Try.prog.cellsOf f0.type)) = some y0 ∧
      DataW.trod enc Try.prog w base spare held n f1.type ((cs.drop f1.offset).take (Try.prog.cellsOf f1.type)) = some y1 ∧ DataW.trod enc Try.prog w base spare held n f2.type ((cs.drop f2.offset).take (Try.prog.cellsOf f2.type)) = some y2 ∧
      DataW.trod enc Try.prog w base spare held n f3.type ((cs.drop f3.offset).take (Try.prog.cellsOf f3.type)) = some y3 ∧ DataW.trod enc Try.prog w base spare held n f4.type ((cs.drop f4.offset).take (Try.prog.cellsOf f4.type)) = some y4 := by
  obtain ⟨xs, n, _, rfl, hl, hlen, hf⟩ := DataW.trod_struct ht h
  match xs, hlen with
  | [y0, y1, y2, y3, y4], _ => exact ⟨y0, y1, y2, y3, y4, n, hl, by simpa using hf 0 f0 rfl, by simpa using hf 1 f1 rfl, by simpa using hf 2 f2 rfl, by simpa using hf 3 f3 rfl, by simpa using hf 4 f4 rfl⟩
set_option maxRecDepth 10000 in
/-- The 32 cells that read as a digest. -/
theorem cells_digest {n : Nat} {cs : List Value} {x : DataW H × List MemPlace} (hl : cs.length = 32) (h : DataW.trod enc Try.prog w base spare held n 30 cs = some x) : ∃ bs : List UInt8, bs.length = 32 ∧ cs = cellsOf bs := by
  cases n with
  | zero => simp [DataW.trod] at h
  | succ m =>
    simp only [DataW.trod, Try.underlying30, cells30, cells5, Nat.mul_one] at h
    rw [if_pos (by simpa using hl)] at h
    obtain ⟨xs, hm, _⟩ := Option.map_eq_some_iff.1 h
    have hall : ∀ i, i < 32 → ∃ c : UInt8, cs[i]? = some (.int .u8 c.toNat) := fun i hi => by
      obtain ⟨b, hb, hf⟩ := Lib.mapM_at hm i i (by simp [hi])
      obtain ⟨z, hc, _, hw⟩ := DataW.trod_int Try.underlying5 hf
      have hz := bounds_u8 hw
      refine ⟨UInt8.ofNat z.toNat, ?_⟩
      have h1 : cs[i]? = some (.int .u8 z) := by
        have := congrArg (·[0]?) hc
        simpa [List.getElem?_take, List.getElem?_drop] using this
      rw [toNat_ofNat z.toNat (by omega), Int.toNat_of_nonneg hz.1]
      exact h1
    refine ⟨(List.range 32).map fun i => UInt8.ofNat (intOf (cs[i]?.getD (.int .u8 0))).toNat, by simp, ?_⟩
    apply List.ext_getElem
    · simp [cellsOf, hl]
    · intro i h1 h2
      obtain ⟨c, hc⟩ := hall i (by omega)
      have h3 : cs[i] = .int .u8 c.toNat := by
        have := List.getElem?_eq_getElem h1
        rw [this] at hc; exact Option.some.inj hc
      have h5 : (intOf (cs[i]?.getD (.int .u8 0))).toNat = c.toNat := by rw [hc]; simp [intOf]
      have h6 : UInt8.ofNat c.toNat = c := by simp
      have h7 : ((fun b : UInt8 => Value.int .u8 b.toNat) ∘ fun i => UInt8.ofNat (intOf (cs[i]?.getD (.int .u8 0))).toNat) i = .int .u8 c.toNat := by
        show Value.int .u8 (UInt8.ofNat (intOf (cs[i]?.getD (.int .u8 0))).toNat).toNat = _
        rw [h5, h6]
      rw [h3, ← h7]
      simp only [cellsOf, List.map_map, List.getElem_map, List.getElem_range]
theorem cut36 (cs : List Value) (hl : cs.length = 36) : cs = cs.take 1 ++ ((cs.drop 1).take 1 ++ ((cs.drop 2).take 32 ++ ((cs.drop 34).take 1 ++ (cs.drop 35).take 1))) := by
  have e5 : (cs.drop 35).take 1 = cs.drop 35 := List.take_of_length_le (by simp; omega)
  have e4 : (cs.drop 34).take 1 ++ cs.drop 35 = cs.drop 34 := by have := List.take_append_drop 1 (cs.drop 34); rwa [List.drop_drop] at this
  have e3 : (cs.drop 2).take 32 ++ cs.drop 34 = cs.drop 2 := by have := List.take_append_drop 32 (cs.drop 2); rwa [List.drop_drop] at this
  have e2 : (cs.drop 1).take 1 ++ cs.drop 2 = cs.drop 1 := by have := List.take_append_drop 1 (cs.drop 1); rwa [List.drop_drop] at this
  rw [e5, e4, e3, e2, List.take_append_drop]
/-- The cells that read as a table. -/
theorem cells_table {n : Nat} {cs : List Value} {x : DataW H × List MemPlace} (h : DataW.trod enc Try.prog w base spare held n 32 cs = some x) :
    ∃ t : Tb, cs = encT t ∧ t.first.size ≤ 9223372036854775807 ∧ t.last.size ≤ 9223372036854775807 := by
  obtain ⟨y0, y1, y2, y3, y4, m, hl, h0, h1, h2, h3, h4⟩ := trod_struct5 Try.underlying32 h
  rw [cells32] at hl
  have hcut := cut36 cs hl
  simp only [cells9, cells3, cells30, List.drop_zero] at h0 h1 h2 h3 h4
  obtain ⟨n0, e0, _, _⟩ := DataW.trod_int Try.underlying3 h0
  obtain ⟨n1, e1, _, _⟩ := DataW.trod_int Try.underlying3 h1
  obtain ⟨bs, hbs, e2⟩ := cells_digest (by simp; omega) h2
  obtain ⟨s3, e3, _, z3⟩ := DataW.trod_string Try.underlying9 h3
  obtain ⟨s4, e4, _, z4⟩ := DataW.trod_string Try.underlying9 h4
  unfold maxLen at z3 z4
  refine ⟨⟨n0, n1, bs, s3, s4, hbs⟩, ?_, by show s3.size ≤ _; omega, by show s4.size ≤ _; omega⟩
  rw [hcut, e0, e1, e2, e3, e4]
  simp [encT]
set_option maxRecDepth 100000 in
theorem open_tabs {r : Reach} {b0 : Nat} {v : Value} {d : DataW H} {p : List MemPlace} (hv : Value.okWide Try.prog w r b0 22 v) (h : DataW.Trod enc Try.prog w base spare held 22 v d p) :
    ∃ ao n c ts, v = .slice ao n c ∧ TabsV w ao n ts ∧ n ≤ c ∧ c ≤ 9223372036854775807 ∧ (ao = none → c = 0) := by
  obtain ⟨a0, len0, cap0, rfl⟩ := okWide_slice Try.underlying22 hv
  obtain ⟨fuel, hf⟩ := h
  rcases open_slice Try.underlying22 hf with ⟨hcs, _⟩ | ⟨a, len, cap, m, n, D, Pl, hcs, _, hl, hm, hmm, _, hel⟩
  · simp [Value.cells] at hcs
    obtain ⟨rfl, rfl, rfl⟩ := hcs
    exact ⟨none, 0, 0, [], rfl, tabsV_nil _ _, Nat.le_refl _, by omega, fun _ => rfl⟩
  · simp [Value.cells] at hcs
    obtain ⟨rfl, rfl, rfl⟩ := hcs
    have hlm : len0 ≤ m := by rw [hmm]; split <;> omega
    have hel2 : ∀ i, i < len0 → ∃ e : Tb, w.cells? base (a.add (i * 36)) 36 = some (encT e) ∧ e.first.size ≤ 9223372036854775807 ∧ e.last.size ≤ 9223372036854775807 := by
      intro i hi
      obtain ⟨cs', h1, h2⟩ := hel i (by omega)
      rw [cells32] at h1
      obtain ⟨e, rfl, z0, z1⟩ := cells_table h2
      exact ⟨e, h1, z0, z1⟩
    obtain ⟨f, hf2⟩ := choose_lt' zT hel2
    refine ⟨some a, len0, cap0, (List.range len0).map f, rfl, ⟨by simp, fun hp => ?_⟩, hl, by unfold maxLen at hm; omega, fun h => by cases h⟩
    · obtain ⟨b, off, spot⟩ := a
      have hspot : spot = none := by
        have := (World.cells?_some (hf2 0 hp).1).2.2 0 (by omega)
        have h3 : (encT (f 0))[0]? = some (.int .i64 (f 0).lv) := rfl
        rw [h3] at this
        simpa [Addr.add] using World.cell?_spot this
      subst hspot
      refine ⟨b, off, rfl, fun j u hu => ?_⟩
      have hj : j < len0 * 36 := by
        have := (List.getElem?_eq_some_iff.1 hu).1
        rw [flatT_len] at this; simpa using this
      have hat := flatT_at ((List.range len0).map f) (j / 36) (j % 36) (by simp; omega) (by omega)
      rw [show j / 36 * 36 + j % 36 = j by omega] at hat
      rw [hat] at hu
      have hget : ((List.range len0).map f).getD (j / 36) zT = f (j / 36) := by
        rw [getD_at _ _ _ (by simp; omega)]; simp
      rw [hget] at hu
      have := (World.cells?_some (hf2 (j / 36) (by omega)).1).2.2 (j % 36) (by omega)
      rw [hu, Addr.add_lit, Addr.add_lit] at this
      rw [← this]
      congr 2
      omega
set_option maxRecDepth 100000 in
theorem open_tab {r : Reach} {b0 : Nat} {v : Value} {d : DataW H} {p : List MemPlace} (hv : Value.okWide Try.prog w r b0 32 v) (h : DataW.Trod enc Try.prog w base spare held 32 v d p) :
    ∃ t : Tb, v = .agg (encT t).toArray ∧ t.first.size ≤ 9223372036854775807 ∧ t.last.size ≤ 9223372036854775807 := by
  obtain ⟨cs, rfl, hsz⟩ := okWide_struct Try.underlying32 hv
  obtain ⟨fuel, hf⟩ := h
  obtain ⟨e, he, h1, h2⟩ := cells_table hf
  refine ⟨e, ?_, h1, h2⟩
  have : cs.toList = encT e := by simpa [Value.cells] using he
  rw [← this]
set_option maxRecDepth 100000 in
theorem open_intsR {r : Reach} {b0 : Nat} {v : Value} {d : DataW H} {p : List MemPlace} (hv : Value.okWide Try.prog w r b0 24 v) (h : DataW.Trod enc Try.prog w base spare held 24 v d p) (hsp : ∀ x, spare x = true) :
    ∃ ao n c, ∃ zs : List Int, v = .slice ao n c ∧ n ≤ c ∧ c ≤ 9223372036854775807 ∧ (0 < n → ∃ b off, ao = some ⟨b, off, none⟩ ∧ ∀ i, i < n → w.cell? ⟨b, off + i, none⟩ = some (.int .i64 (zs.getD i 0))) := by
  obtain ⟨a0, len0, cap0, rfl⟩ := okWide_slice Try.underlying24 hv
  obtain ⟨fuel, hf⟩ := h
  rcases open_ints Try.underlying24 Try.underlying3 cells3 hf with ⟨hcs, _⟩ | ⟨x, l, c, zs, hcs, _, hl, hm, hz, _, hcell, hwz⟩
  · simp [Value.cells] at hcs
    obtain ⟨rfl, rfl, rfl⟩ := hcs
    exact ⟨none, 0, 0, [], rfl, by omega, by omega, fun h => absurd h (by omega)⟩
  · simp [Value.cells] at hcs
    obtain ⟨rfl, rfl, rfl⟩ := hcs
    refine ⟨_, len0, cap0, zs, rfl, hl, by unfold maxLen at hm; omega, fun hp => ?_⟩
    obtain ⟨b, off, spot⟩ := x
    have hz2 : zs.length = cap0 := by simpa [hsp] using hz
    have hspot : spot = none := by
      have := hcell 0 (by omega)
      simpa [Addr.add] using World.cell?_spot this
    subst hspot
    refine ⟨b, off, rfl, fun i hi => ?_⟩
    have := hcell i (by omega)
    rwa [Addr.add_lit] at this
end
end Go.Proofs.Ytnkbhojflcckmaa

/-
  What marlstoneref03.Same answers: a contract over this translation. What entry.Parse answers: a contract over this translation. What seek.soleEntry answers: contract over this translation.
-/
import Derived.Test.YtecacjddggljgaaDoorPartAG
import Derived.Laws.StructEq
namespace Go.Proofs.YtecacjddggljgaaDoor
open Go.RowKit Go.Sort Go.Shelf
set_option linter.unusedSectionVars false
variable [Inhabited E] [DecidableEq E]
theorem stood23 : Tryd.prog.stoodInHeld 54 = false := by kernel_rfl
theorem guard23 : Tryd.prog.eqGuardType Tryd.prog.depth 54 = false := by kernel_rfl
theorem fields23 : Tryd.prog.underlying 54 = some (.struct (Tryd.prog.fieldsOf 54)) := by kernel_rfl
set_option maxRecDepth 100000 in
set_option maxHeartbeats 2000000 in
theorem equal23 (k0 v0 : ByteArray) (d0 : Bool) (q0 : Int) (k1 v1 : ByteArray) (d1 : Bool) (q1 : Int) (w : World) :
    (Op.equalIn 10000 54 (.agg #[.string k0, .string v0, .bool d0, .int .i64 q0]) (.agg #[.string k1, .string v1, .bool d1, .int .i64 q1])).run Tryd.prog w = .ok (decide ((⟨k0, v0, d0, q0⟩ : E) = ⟨k1, v1, d1, q1⟩)) w := by
  have h0 := eq_cmpS k0 k1
  have h1 := eq_cmpS v0 v1
  have hf : (Tryd.prog.fieldsOf 54).toList = [⟨"Key", 9, 0, false, "", "", 0⟩, ⟨"Value", 9, 1, false, "", "", 16⟩, ⟨"Del", 4, 2, false, "", "", 32⟩, ⟨"Seq", 3, 3, false, "", "", 40⟩] := by kernel_rfl
  have p9 : ∀ (xs : Array Value) (o : Nat) (v : Value) (w : World), xs[o]? = some v → (part 9 xs o).run Tryd.prog w = .ok v w := by
    intro xs o v w h
    simp [part, Tryd.isAgg9, h]
  have p4 : ∀ (xs : Array Value) (o : Nat) (v : Value) (w : World), xs[o]? = some v → (part 4 xs o).run Tryd.prog w = .ok v w := by
    intro xs o v w h
    simp [part, Tryd.isAgg4, h]
  have p3 : ∀ (xs : Array Value) (o : Nat) (v : Value) (w : World), xs[o]? = some v → (part 3 xs o).run Tryd.prog w = .ok v w := by
    intro xs o v w h
    simp [part, Tryd.isAgg3, h]
  rw [run_equalIn_agg w 9999 54 _ _ fields23 stood23, hf]
  simp only [Op.eqFields, Sem.run_bind, Sem.run_ite]
  rw [p9 _ 0 (.string k0) w rfl, Result.andThen_ok, p9 _ 0 (.string k1) w rfl, Result.andThen_ok, run_equalIn_string w 9998 9 k0 k1 Tryd.underlying9, Result.andThen_ok, h0]
  by_cases c0 : k0 = k1
  · subst c0
    rw [p9 _ 1 (.string v0) w rfl, Result.andThen_ok, p9 _ 1 (.string v1) w rfl, Result.andThen_ok, run_equalIn_string w 9998 9 v0 v1 Tryd.underlying9, Result.andThen_ok, h1]
    by_cases c1 : v0 = v1
    · subst c1
      rw [p4 _ 2 (.bool d0) w rfl, Result.andThen_ok, p4 _ 2 (.bool d1) w rfl, Result.andThen_ok, run_equalIn_bool' w 9998 4 d0 d1 Tryd.underlying4, Result.andThen_ok]
      by_cases c2 : d0 = d1
      · subst c2
        rw [p3 _ 3 (.int .i64 q0) w rfl, Result.andThen_ok, p3 _ 3 (.int .i64 q1) w rfl, Result.andThen_ok, run_equalIn_int w 9998 3 .i64 .i64 q0 q1 Tryd.underlying3, Result.andThen_ok]
        by_cases c3 : q0 = q1
        · subst c3; simp
        · simp [c3]
      · simp [c2]
    · simp [c1]
  · simp [c0]
set_option maxRecDepth 100000 in
set_option maxHeartbeats 2000000 in
theorem same_any (ao : Option Addr) (n c : Nat) (xs : List E) (bo : Option Addr) (m d : Nat) (ys : List E) (w : World) (hA : EntsV w ao n xs) (hB : EntsV w bo m ys) (hn : n ≤ 1000000000000) (hm : m ≤ 1000000000000) :
    Calls Tryd.prog 28 #[.slice ao n c, .slice bo m d] w fun e w' => e = .returned (.bool (decide (xs = ys))) ∧ Below w.heap.size w w' := by
  obtain ⟨r, HR⟩ : ∃ r, Hid (decide (xs = ys) = r) := ⟨_, rfl⟩
  rw [HR.out]
  have HA : Hid _ := hA
  have HB : Hid _ := hB
  clear hA hB
  have hg := guard23
  by_cases hnm : n = m
  · subst hnm
    go_enter Tryd.func28, Tryd.ntmps28
    go_wp2
    go_loopw [5] (fun x wr => ∃ i : Nat, x = .int .i64 i ∧ i ≤ n ∧ Hid (xs.take i = ys.take i) ∧ Below w.heap.size w wr) (fun x _ => n - (intOf x).toNat)
    case atStart => exact ⟨0, rfl, by omega, rfl, Below.refl _ _⟩
    case round =>
      obtain ⟨i, rfl, hin, HS, hbel⟩ := hrel
      by_cases hlt : i < n
      · have hltz : (i : Int) < (n : Int) := by omega
        obtain ⟨b, off, hao, hEn⟩ := HA.out.2 (by omega)
        obtain ⟨b2, off2, hbo, hEn2⟩ := HB.out.2 (by omega)
        have hEr := hEn.below hbel (Nat.le_refl _)
        have hEr2 := hEn2.below hbel (Nat.le_refl _)
        obtain ⟨k0, v0, d0, q0, HX⟩ : ∃ k0 v0 d0 q0, Hid (xs[i]! = E.mk k0 v0 d0 q0) := ⟨_, _, _, _, rfl⟩
        obtain ⟨k1, v1, d1, q1, HY⟩ : ∃ k0 v0 d0 q0, Hid (ys[i]! = E.mk k0 v0 d0 q0) := ⟨_, _, _, _, rfl⟩
        obtain ⟨c0, c1, c2, c3⟩ := ents_four hEr i (by have := HA.out.1; omega) HX.out
        obtain ⟨f0, f1, f2, f3⟩ := ents_four hEr2 i (by have := HB.out.1; omega) HY.out
        subst hao hbo
        have heq := fun w => equal23 k0 v0 d0 q0 k1 v1 d1 q1 w
        have HBE : Hid _ := hbel
        clear hEr hEr2 hEn hEn2 hbel
        have HSN : Hid (xs.take (i + 1) = xs.take i ++ [xs[i]!] ∧ ys.take (i + 1) = ys.take i ++ [ys[i]!]) := ⟨take_snoc xs i (by have := HA.out.1; omega), take_snoc ys i (by have := HB.out.1; omega)⟩
        by_cases he : (⟨k0, v0, d0, q0⟩ : E) = ⟨k1, v1, d1, q1⟩
        · have HE : Hid _ := he
          rw [decide_eq_true he] at heq
          clear he
          go_wp2_with fail
          go_quiet (fail)
          go_wp2
          go_roundw
          case rel => exact ⟨i + 1, by go_num, by omega, (by show _ = _; rw [HSN.out.1, HSN.out.2, HS.out, HX.out, HY.out, HE.out]), bel_drewN HBE.out nq⟩
          case measure => simp [intOf]; omega
        · have hf : r = false := by
            rw [← HR.out]
            refine decide_eq_false fun h => he ?_
            rw [← HX.out, ← HY.out, h]
          subst hf
          rw [decide_eq_false he] at heq
          clear he
          go_wp2_with fail
          go_quiet (fail)
          go_wp2
          go_ret
          exact ⟨rfl, bel_drewN HBE.out nq⟩
      · have hltz : ¬ (i : Int) < (n : Int) := by omega
        have ht : r = true := by
          rw [← HR.out]
          refine decide_eq_true ?_
          have := HS.out
          rwa [List.take_of_length_le (by have := HA.out.1; omega), List.take_of_length_le (by have := HB.out.1; omega)] at this
        subst ht
        go_wp2
        go_ret
        exact ⟨rfl, hbel⟩
  · have hf : r = false := by
      rw [← HR.out]
      refine decide_eq_false fun h => hnm ?_
      rw [← HA.out.1, ← HB.out.1, h]
    subst hf
    have hnz : ((n : Int) != (m : Int)) = true := by simp; omega
    go_enter Tryd.func28, Tryd.ntmps28
    go_wp2
    go_ret
    exact ⟨rfl, Below.refl _ _⟩
end Go.Proofs.YtecacjddggljgaaDoor
namespace Go.Proofs.YtecacjddggljgaaDoor
open Go.RowKit Go.Sort Go.Shelf
set_option linter.unusedSectionVars false
variable [Inhabited E] [DecidableEq E]
/-- The right entry that bytes begin with, and how many they are. -/
def parseOf (bs : List UInt8) : Option (E × Nat) :=
  match readOf bs with
  | some (x, n) => if rightB x then some (x, n) else none
  | none => none
def parseV (o : Option (E × Nat)) : Value :=
  match o with
  | some (x, n) => .tuple #[.agg (encE x).toArray, .int .i64 (n : Nat), .int .i64 0]
  | none => .tuple #[.agg (encE ⟨.empty, .empty, false, 0⟩).toArray, .int .i64 0, .int .i64 2]
theorem heap_set (w : World) (g j : Nat) (cs : Array Value) (t : TypeId) (v : Value) (hg : w.heap[g]? = some (.cells cs t (0, 0))) : (w.setCell ⟨g, j, none⟩ v).heap[g]? = some (.cells (cs.setIfInBounds j v) t (0, 0)) := by
  unfold World.setCell
  simp only [Array.getElem?_modify, if_pos, hg, Option.map_some]
  rfl
/-- Four stores into a block of four cells. -/
theorem heap_four (w : World) (g : Nat) (a b c d a' b' c' d' : Value) (t : TypeId) (hg : w.heap[g]? = some (.cells #[a, b, c, d] t (0, 0))) :
    ((((w.setCell ⟨g, 0, none⟩ a').setCell ⟨g, 1, none⟩ b').setCell ⟨g, 2, none⟩ c').setCell ⟨g, 3, none⟩ d').heap[g]? = some (.cells #[a', b', c', d'] t (0, 0)) := by
  rw [heap_set _ g 3 _ t d' (heap_set _ g 2 _ t c' (heap_set _ g 1 _ t b' (heap_set _ g 0 _ t a' hg)))]
  rfl
theorem bel_four {B : Nat} {w0 w : World} (h : Below B w0 w) {g : Nat} (hg : B ≤ g) (a' b' c' d' : Value) : Below B w0 ((((w.setCell ⟨g, 0, none⟩ a').setCell ⟨g, 1, none⟩ b').setCell ⟨g, 2, none⟩ c').setCell ⟨g, 3, none⟩ d') :=
  (((h.setCell hg _).setCell hg _).setCell hg _).setCell hg _
set_option maxRecDepth 100000 in
set_option maxHeartbeats 1000000 in
theorem read_none (ao : Option Addr) (cap : Nat) (w : World) :
    Calls Tryd.prog 125 #[.slice ao 0 cap] w fun e w' => ReadSays (readOf []) e ∧ Below w.heap.size w w' := by
  go_enter Tryd.func125, Tryd.ntmps125
  go_wp2
  (try simp only [Exit.inBlock, Exit.then])
  refine bodyPost_ret (results_entry3 rfl _ _ w.heap.size 54 _ _ rfl (heap_alloc_new w _) (by exact size23)) rfl ?_
  exact ⟨⟨⟨.empty, .empty, false, 0⟩, 0, rfl⟩, bel_alloc _ _⟩
theorem read_any (ao : Option Addr) (len cap : Nat) (bs : List UInt8) (w : World) (hb : Bytes w ao len bs) (hlc : len ≤ cap) (hmax : cap ≤ 9223372036854775807) :
    Calls Tryd.prog 125 #[.slice ao len cap] w fun e w' => ReadSays (readOf bs) e ∧ Below w.heap.size w w' := by
  cases bs with
  | nil =>
    have hl : len = 0 := by simpa using hb.1.symm
    subst hl
    exact read_none ao cap w
  | cons t r =>
    obtain ⟨x, hx, hc⟩ := hb.2 0 t rfl
    subst hx
    obtain ⟨b, off, spot⟩ := x
    have hspot : spot = none := by simpa [Addr.add] using World.cell?_spot hc
    subst hspot
    exact read_cells b off len cap t r w hb hlc hmax
theorem wrap64_small {v : Nat} (h : v < 9223372036854775808) : wrap64 (v : Int) = v := by
  unfold wrap64; omega
theorem readOf_sizes {bs : List UInt8} {x : E} {n : Nat} (h : readOf bs = some (x, n)) (hl : bs.length ≤ 9223372036854775807) : x.key.size ≤ 9223372036854775807 ∧ x.value.size ≤ 9223372036854775807 := by
  have ht : ∀ l : List UInt8, (textOf l).1.length ≤ l.length := by
    intro l
    unfold textOf
    split
    · simp
    · simp only [List.length_take, List.length_drop]; omega
  cases bs with
  | nil => simp [readOf] at h
  | cons t r =>
    simp only [readOf] at h
    have h1 := ht (r.drop (getB r).2.1)
    have h2 := ht (r.drop ((getB r).2.1 + (textOf (r.drop (getB r).2.1)).2.1))
    rw [List.length_drop] at h1 h2
    simp only [List.length_cons] at hl
    split at h
    · cases h
    · split at h
      · cases h
      · split at h
        · cases h
        · split at h
          · cases h
            refine ⟨?_, by simp [ByteArray.size]⟩
            simp only [ByteArray.size, List.size_toArray]; omega
          · split at h
            · cases h
            · cases h
              simp only [ByteArray.size, List.size_toArray]
              exact ⟨by omega, by omega⟩
set_option maxRecDepth 100000 in
set_option maxHeartbeats 1000000 in
theorem parse_any (ao : Option Addr) (len cap : Nat) (bs : List UInt8) (w : World) (hb : Bytes w ao len bs) (hlc : len ≤ cap) (hmax : cap ≤ 9223372036854775807) :
    Calls Tryd.prog 107 #[.slice ao len cap] w fun e w' => e = .returned (parseV (parseOf bs)) ∧ Below w.heap.size w w' := by
  obtain ⟨o, HO⟩ : ∃ o, Hid (readOf bs = o) := ⟨_, rfl⟩
  obtain ⟨p, HP⟩ : ∃ p, Hid (parseOf bs = p) := ⟨_, rfl⟩
  rw [HP.out]
  have CR := fun w' hw => read_any ao len cap bs w' (bytes_kept hb hw (Nat.le_refl _)) hlc hmax
  rw [HO.out] at CR
  have HCR : Hid _ := CR
  have HL : Hid (bs.length ≤ 9223372036854775807) := by show _ ≤ _; rw [hb.1]; omega
  clear CR hb
  go_enter Tryd.func107, Tryd.ntmps107
  go_wp2_with fail
  refine (HCR.out _ (bel_alloc w _)).mono ?_
  rintro e w1 ⟨he, hbel1⟩
  have hB1 : Below w.heap.size w w1 := (bel_alloc w _).trans (hbel1.mono (by simp))
  have hblk : w1.heap[w.heap.size]? = some (Obj.cells #[.string ByteArray.empty, .string ByteArray.empty, .bool false, .int .i64 0] 54) := by rw [hbel1.block _ (by simp), heap_alloc_get, if_pos rfl]; rfl
  have hsz1 : w.heap.size < w1.heap.size := by have := hbel1.size; simp at this; omega
  have b0 : w1.cell? ⟨w.heap.size, 0, none⟩ = some (.string ByteArray.empty) := by rw [cell_of_row _ _ _ _ _ _ hblk]; rfl
  have b1 : w1.cell? ⟨w.heap.size, 1, none⟩ = some (.string ByteArray.empty) := by rw [cell_of_row _ _ _ _ _ _ hblk]; rfl
  have b2 : w1.cell? ⟨w.heap.size, 2, none⟩ = some (.bool false) := by rw [cell_of_row _ _ _ _ _ _ hblk]; rfl
  have b3 : w1.cell? ⟨w.heap.size, 3, none⟩ = some (.int .i64 0) := by rw [cell_of_row _ _ _ _ _ _ hblk]; rfl
  have fz := frozen_of_row w1 w.heap.size
  have f0 : w1.frozen? ⟨w.heap.size, 0, none⟩ = false := frozen_of_row w1 _ 0 _ 54 hblk
  have f1 : w1.frozen? ⟨w.heap.size, 1, none⟩ = false := frozen_of_row w1 _ 1 _ 54 hblk
  have f2 : w1.frozen? ⟨w.heap.size, 2, none⟩ = false := frozen_of_row w1 _ 2 _ 54 hblk
  have f3 : w1.frozen? ⟨w.heap.size, 3, none⟩ = false := frozen_of_row w1 _ 3 _ 54 hblk
  clear fz
  have HBK : Hid _ := hblk
  have HB1 : Hid _ := hB1
  clear hbel1 hB1 HCR hblk
  cases o with
  | none =>
    obtain ⟨⟨k, v, d, q⟩, n, rfl⟩ := he
    have hp : p = none := by rw [← HP.out, parseOf, HO.out]
    subst hp
    simp only [encE]
    go_wp2
    (try simp only [Exit.inBlock, Exit.then])
    refine bodyPost_ret (results_entry3 rfl _ _ w.heap.size 54 _ _ rfl (by rw [heap_alloc_get, if_neg (by simp; omega)]; exact heap_four _ _ _ _ _ _ _ _ _ _ _ HBK.out) (by exact size23)) rfl ?_
    exact ⟨rfl, (bel_four HB1.out (Nat.le_refl _) _ _ _ _).alloc (by simp; omega) _⟩
  | some xn =>
    obtain ⟨⟨k, v, d, q⟩, n⟩ := xn
    obtain ⟨s1, s2⟩ := readOf_sizes HO.out HL.out
    simp only at s1 s2
    have he' : e = .returned (.tuple #[.agg (encE ⟨k, v, d, q⟩).toArray, .int .i64 (n : Nat), .bool true]) := he
    subst he'
    clear he
    obtain ⟨r, HR⟩ : ∃ r, Hid (rightB ⟨k, v, d, q⟩ = r) := ⟨_, rfl⟩
    have CR := fun w => right_any k v d q w s1 s2
    rw [HR.out] at CR
    have HCR : Hid _ := CR
    clear CR
    have HPR : Hid (p = if r then some (⟨k, v, d, q⟩, n) else none) := by show _ = _; rw [← HP.out, parseOf, HO.out, ← HR.out]
    simp only [encE]
    go_wp2_with fail
    refine (HCR.out _).mono ?_
    rintro e w2 ⟨rfl, hb2⟩
    have hblk2 : w2.heap[w.heap.size]? = some (Obj.cells #[.string ByteArray.empty, .string ByteArray.empty, .bool false, .int .i64 0] 54) := by rw [hb2.block _ (by simp; omega), heap_alloc_get, if_neg (by omega)]; exact HBK.out
    have hblk3 : w2.heap[w1.heap.size]? = some (Obj.cells #[.string k, .string v, .bool d, .int .i64 q] 54) := by rw [hb2.block _ (by simp), heap_alloc_get, if_pos rfl]
    have hB2 : Below w.heap.size w w2 := (HB1.out.alloc HB1.out.size _).trans (hb2.mono (by simp; omega))
    clear b0 b1 b2 b3 f0 f1 f2 f3 hb2
    have hsz2 : w.heap.size < w2.heap.size := (Array.getElem?_eq_some_iff.1 hblk2).1
    have b0 : w2.cell? ⟨w.heap.size, 0, none⟩ = some (.string ByteArray.empty) := by rw [cell_of_row _ _ _ _ _ _ hblk2]; rfl
    have b1 : w2.cell? ⟨w.heap.size, 1, none⟩ = some (.string ByteArray.empty) := by rw [cell_of_row _ _ _ _ _ _ hblk2]; rfl
    have b2 : w2.cell? ⟨w.heap.size, 2, none⟩ = some (.bool false) := by rw [cell_of_row _ _ _ _ _ _ hblk2]; rfl
    have b3 : w2.cell? ⟨w.heap.size, 3, none⟩ = some (.int .i64 0) := by rw [cell_of_row _ _ _ _ _ _ hblk2]; rfl
    have f0 : w2.frozen? ⟨w.heap.size, 0, none⟩ = false := frozen_of_row w2 _ 0 _ 54 hblk2
    have f1 : w2.frozen? ⟨w.heap.size, 1, none⟩ = false := frozen_of_row w2 _ 1 _ 54 hblk2
    have f2 : w2.frozen? ⟨w.heap.size, 2, none⟩ = false := frozen_of_row w2 _ 2 _ 54 hblk2
    have f3 : w2.frozen? ⟨w.heap.size, 3, none⟩ = false := frozen_of_row w2 _ 3 _ 54 hblk2
    have e0 : w2.cell? ⟨w1.heap.size, 0, none⟩ = some (.string k) := by rw [cell_of_row _ _ _ _ _ _ hblk3]; rfl
    have e1 : w2.cell? ⟨w1.heap.size, 1, none⟩ = some (.string v) := by rw [cell_of_row _ _ _ _ _ _ hblk3]; rfl
    have e2 : w2.cell? ⟨w1.heap.size, 2, none⟩ = some (.bool d) := by rw [cell_of_row _ _ _ _ _ _ hblk3]; rfl
    have e3 : w2.cell? ⟨w1.heap.size, 3, none⟩ = some (.int .i64 q) := by rw [cell_of_row _ _ _ _ _ _ hblk3]; rfl
    have HB2 : Hid _ := And.intro hB2 hblk2
    clear hblk2 hblk3 hB2
    cases r with
    | false =>
      have hp : p = none := HPR.out
      subst hp
      go_wp2
      (try simp only [Exit.inBlock, Exit.then])
      refine bodyPost_ret (results_entry3 rfl _ _ w.heap.size 54 _ _ rfl (heap_four _ _ _ _ _ _ _ _ _ _ _ HB2.out.2) (by exact size23)) rfl ?_
      exact ⟨rfl, bel_four HB2.out.1 (Nat.le_refl _) _ _ _ _⟩
    | true =>
      have hp : p = some (⟨k, v, d, q⟩, n) := HPR.out
      subst hp
      go_wp2
      (try simp only [Exit.inBlock, Exit.then])
      refine bodyPost_ret (results_entry3 rfl _ _ w.heap.size 54 _ _ rfl (heap_four _ _ _ _ _ _ _ _ _ _ _ HB2.out.2) (by exact size23)) rfl ?_
      exact ⟨rfl, bel_four HB2.out.1 (Nat.le_refl _) _ _ _ _⟩
end Go.Proofs.YtecacjddggljgaaDoor
namespace Go.Proofs.YtecacjddggljgaaDoor
open Go.RowKit Go.Sort Go.Shelf
set_option linter.unusedSectionVars false
variable [Inhabited E] [DecidableEq E]
theorem results_entry2 {fn : Func} {p u : Tmp} (h : fn.results = #[.cell p 54, .tmp u]) (tmps : Array Value) (w : World) (g : Nat) (t : TypeId) (cs : Array Value) (fr : Nat × Nat)
    (hp : tmps.getD p undef = .pointer (some ⟨g, 0, none⟩)) (hg : w.heap[g]? = some (.cells cs t fr)) (hi : (Tryd.prog.info? 54).map (·.size) = some cs.size) :
    (results fn tmps).run Tryd.prog w = .ok (.tuple #[.agg cs, tmps.getD u undef]) w := by
  have hp' : tmps[p]?.getD undef = .pointer (some ⟨g, 0, none⟩) := by simpa using hp
  simp [results, h, hp', asAddr, run_loadVar_row w g t 54 cs fr _ hg Tryd.underlying54 rfl hi]
def zeroE : E := ⟨.empty, .empty, false, 0⟩
def soleOf (bs : List UInt8) : Option E := match parseOf bs with
  | some (x, n) => if n = bs.length then some x else none
  | none => none
def soleV (o : Option E) : Value := match o with
  | some x => .tuple #[.agg (encE x).toArray, .bool true]
  | none => .tuple #[.agg (encE zeroE).toArray, .bool false]
set_option maxRecDepth 100000 in
set_option maxHeartbeats 2000000 in
theorem sole_any (ao : Option Addr) (len cap : Nat) (bs : List UInt8) (w : World) (hb : Bytes w ao len bs) (hlc : len ≤ cap) (hmax : cap ≤ 9223372036854775807) :
    Calls Tryd.prog 77 #[.slice ao len cap] w fun e w' => e = .returned (soleV (soleOf bs)) ∧ Below w.heap.size w w' := by
  obtain ⟨o, HO⟩ : ∃ o, Hid (soleOf bs = o) := ⟨_, rfl⟩
  obtain ⟨p, HP⟩ : ∃ p, Hid (parseOf bs = p) := ⟨_, rfl⟩
  have HC : Hid (∀ w', Below w.heap.size w w' → Calls Tryd.prog 107 #[.slice ao len cap] w' fun e w'' => e = .returned (parseV p) ∧ Below w'.heap.size w' w'') := fun w' h => by
    rw [← HP.out]; exact parse_any ao len cap bs w' (bytes_kept hb h (Nat.le_refl _)) hlc hmax
  have HL : Hid (bs.length = len) := hb.1
  rw [HO.out]
  clear hb
  go_enter Tryd.func77, Tryd.ntmps77
  go_wp2_with fail
  refine (HC.out _ (bel_alloc w _)).mono ?_
  rintro e w1 ⟨rfl, hbel1⟩
  have hB1 : Below w.heap.size w w1 := (bel_alloc w _).trans (hbel1.mono (by simp))
  have hblk : w1.heap[w.heap.size]? = some (Obj.cells #[.string ByteArray.empty, .string ByteArray.empty, .bool false, .int .i64 0] 54) := by rw [hbel1.block _ (by simp), heap_alloc_get, if_pos rfl]; rfl
  have hsz1 : w.heap.size < w1.heap.size := by have := hbel1.size; simp at this; omega
  have b0 : w1.cell? ⟨w.heap.size, 0, none⟩ = some (.string ByteArray.empty) := by rw [cell_of_row _ _ _ _ _ _ hblk]; rfl
  have b1 : w1.cell? ⟨w.heap.size, 1, none⟩ = some (.string ByteArray.empty) := by rw [cell_of_row _ _ _ _ _ _ hblk]; rfl
  have b2 : w1.cell? ⟨w.heap.size, 2, none⟩ = some (.bool false) := by rw [cell_of_row _ _ _ _ _ _ hblk]; rfl
  have b3 : w1.cell? ⟨w.heap.size, 3, none⟩ = some (.int .i64 0) := by rw [cell_of_row _ _ _ _ _ _ hblk]; rfl
  have f0 : w1.frozen? ⟨w.heap.size, 0, none⟩ = false := frozen_of_row w1 _ 0 _ 54 hblk
  have f1 : w1.frozen? ⟨w.heap.size, 1, none⟩ = false := frozen_of_row w1 _ 1 _ 54 hblk
  have f2 : w1.frozen? ⟨w.heap.size, 2, none⟩ = false := frozen_of_row w1 _ 2 _ 54 hblk
  have f3 : w1.frozen? ⟨w.heap.size, 3, none⟩ = false := frozen_of_row w1 _ 3 _ 54 hblk

  have HBK : Hid _ := hblk
  have HB1 : Hid _ := hB1
  clear hbel1 hB1 HC hblk
  cases p with
  | none =>
    have ho : o = none := by rw [← HO.out, soleOf, HP.out]
    subst ho
    simp only [parseV, encE]
    go_wp2
    (try simp only [Exit.inBlock, Exit.then])
    refine bodyPost_ret (results_entry2 rfl _ _ w.heap.size 54 _ _ rfl (by rw [heap_alloc_get, if_neg (by simp; omega)]; exact heap_four _ _ _ _ _ _ _ _ _ _ _ HBK.out) (by exact size23)) rfl ?_
    exact ⟨rfl, (bel_four HB1.out (Nat.le_refl _) _ _ _ _).alloc (by simp; omega) _⟩
  | some xn =>
    obtain ⟨⟨k, v, d, q⟩, n⟩ := xn
    have HOo : Hid (o = if n = len then some ⟨k, v, d, q⟩ else none) := by show _ = _; rw [← HO.out, soleOf, HP.out, ← HL.out]
    clear HO HP
    simp only [parseV, encE]
    by_cases hn : n = len
    · subst hn
      have ho : o = some ⟨k, v, d, q⟩ := by rw [HOo.out, if_pos rfl]
      subst ho
      go_wp2
      (try simp only [Exit.inBlock, Exit.then])
      refine bodyPost_ret (results_entry2 rfl _ _ w.heap.size 54 _ _ rfl (by rw [heap_alloc_get, if_neg (by simp; omega)]; exact heap_four _ _ _ _ _ _ _ _ _ _ _ HBK.out) (by exact size23)) rfl ?_
      exact ⟨rfl, (bel_four HB1.out (Nat.le_refl _) _ _ _ _).alloc (by simp; omega) _⟩
    · have hnz : ¬ (n : Int) = (len : Int) := by omega
      have ho : o = none := by rw [HOo.out, if_neg hn]
      subst ho
      go_wp2
      (try simp only [Exit.inBlock, Exit.then])
      refine bodyPost_ret (results_entry2 rfl _ _ w.heap.size 54 _ _ rfl (by rw [heap_alloc_get, if_neg (by simp; omega)]; exact heap_four _ _ _ _ _ _ _ _ _ _ _ HBK.out) (by exact size23)) rfl ?_
      exact ⟨rfl, (bel_four HB1.out (Nat.le_refl _) _ _ _ _).alloc (by simp; omega) _⟩
end Go.Proofs.YtecacjddggljgaaDoor

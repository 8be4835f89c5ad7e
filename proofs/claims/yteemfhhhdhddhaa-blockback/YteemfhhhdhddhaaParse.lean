/-
  What entry.Parse answers: a contract over this translation.
-/
import Derived.Test.YteemfhhhdhddhaaSame
namespace Go.Proofs.Yteemfhhhdhddhaa
open Go.RowKit Go.Sort Go.Shelf
set_option linter.unusedSectionVars false
variable [Inhabited E] [DecidableEq E]
/-- The right entry that bytes begin with, and how many they are. -/
def parseOf (bs : List UInt8) : Option (E × Nat) :=
  match readOf bs with
  | some (x, n) => if rightB x then some (x, n) else none
  | none => none
def parseV (o : Option (E × Nat)) : Value :=
  match o with
  | some (x, n) => .tuple #[.agg (encE x).toArray, .int .i64 (n : Nat), .int .i64 0]
  | none => .tuple #[.agg (encE ⟨.empty, .empty, false, 0⟩).toArray, .int .i64 0, .int .i64 2]
theorem heap_set (w : World) (g j : Nat) (cs : Array Value) (t : TypeId) (v : Value) (hg : w.heap[g]? = some (.cells cs t (0, 0))) : (w.setCell ⟨g, j, none⟩ v).heap[g]? = some (.cells (cs.setIfInBounds j v) t (0, 0)) := by
  unfold World.setCell
  simp only [Array.getElem?_modify, if_pos, hg, Option.map_some]
  rfl
/-- Four stores into a block of four cells. -/
theorem heap_four (w : World) (g : Nat) (a b c d a' b' c' d' : Value) (t : TypeId) (hg : w.heap[g]? = some (.cells #[a, b, c, d] t (0, 0))) :
    ((((w.setCell ⟨g, 0, none⟩ a').setCell ⟨g, 1, none⟩ b').setCell ⟨g, 2, none⟩ c').setCell ⟨g, 3, none⟩ d').heap[g]? = some (.cells #[a', b', c', d'] t (0, 0)) := by
  rw [heap_set _ g 3 _ t d' (heap_set _ g 2 _ t c' (heap_set _ g 1 _ t b' (heap_set _ g 0 _ t a' hg)))]
  rfl
theorem bel_four {B : Nat} {w0 w : World} (h : Below B w0 w) {g : Nat} (hg : B ≤ g) (a' b' c' d' : Value) : Below B w0 ((((w.setCell ⟨g, 0, none⟩ a').setCell ⟨g, 1, none⟩ b').setCell ⟨g, 2, none⟩ c').setCell ⟨g, 3, none⟩ d') :=
  (((h.setCell hg _).setCell hg _).setCell hg _).setCell hg _
set_option maxRecDepth 100000 in
set_option maxHeartbeats 1000000 in
theorem read_none (ao : Option Addr) (cap : Nat) (w : World) :
    Calls Try.prog 45 #[.slice ao 0 cap] w fun e w' => ReadSays (readOf []) e ∧ Below w.heap.size w w' := by
  go_enter Try.func45, Try.ntmps45
  go_wp2
  (try simp only [Exit.inBlock, Exit.then])
  refine bodyPost_ret (results_entry3 rfl _ _ w.heap.size 23 _ _ rfl (heap_alloc_new w _) (by exact size23)) rfl ?_
  exact ⟨⟨⟨.empty, .empty, false, 0⟩, 0, rfl⟩, bel_alloc _ _⟩
theorem read_any (ao : Option Addr) (len cap : Nat) (bs : List UInt8) (w : World) (hb : Bytes w ao len bs) (hlc : len ≤ cap) (hmax : cap ≤ 9223372036854775807) :
    Calls Try.prog 45 #[.slice ao len cap] w fun e w' => ReadSays (readOf bs) e ∧ Below w.heap.size w w' := by
  cases bs with
  | nil =>
    have hl : len = 0 := by simpa using hb.1.symm
    subst hl
    exact read_none ao cap w
  | cons t r =>
    obtain ⟨x, hx, hc⟩ := hb.2 0 t rfl
    subst hx
    obtain ⟨b, off, spot⟩ := x
    have hspot : spot = none := by simpa [Addr.add] using World.cell?_spot hc
    subst hspot
    exact read_cells b off len cap t r w hb hlc hmax
theorem wrap64_small {v : Nat} (h : v < 9223372036854775808) : wrap64 (v : Int) = v := by
  unfold wrap64; omega
theorem readOf_sizes {bs : List UInt8} {x : E} {n : Nat} (h : readOf bs = some (x, n)) (hl : bs.length ≤ 9223372036854775807) : x.key.size ≤ 9223372036854775807 ∧ x.value.size ≤ 9223372036854775807 := by
  have ht : ∀ l : List UInt8, (textOf l).1.length ≤ l.length := by
    intro l
    unfold textOf
    split
    · simp
    · simp only [List.length_take, List.length_drop]; omega
  cases bs with
  | nil => simp [readOf] at h
  | cons t r =>
    simp only [readOf] at h
    have h1 := ht (r.drop (getB r).2.1)
    have h2 := ht (r.drop ((getB r).2.1 + (textOf (r.drop (getB r).2.1)).2.1))
    rw [List.length_drop] at h1 h2
    simp only [List.length_cons] at hl
    split at h
    · cases h
    · split at h
      · cases h
      · split at h
        · cases h
        · split at h
          · cases h
            refine ⟨?_, by simp [ByteArray.size]⟩
            simp only [ByteArray.size, List.size_toArray]; omega
          · split at h
            · cases h
            · cases h
              simp only [ByteArray.size, List.size_toArray]
              exact ⟨by omega, by omega⟩
set_option maxRecDepth 100000 in
set_option maxHeartbeats 1000000 in
theorem parse_any (ao : Option Addr) (len cap : Nat) (bs : List UInt8) (w : World) (hb : Bytes w ao len bs) (hlc : len ≤ cap) (hmax : cap ≤ 9223372036854775807) :
    Calls Try.prog 20 #[.slice ao len cap] w fun e w' => e = .returned (parseV (parseOf bs)) ∧ Below w.heap.size w w' := by
  obtain ⟨o, HO⟩ : ∃ o, Hid (readOf bs = o) := ⟨_, rfl⟩
  obtain ⟨p, HP⟩ : ∃ p, Hid (parseOf bs = p) := ⟨_, rfl⟩
  rw [HP.out]
  have CR := fun w' hw => read_any ao len cap bs w' (bytes_kept hb hw (Nat.le_refl _)) hlc hmax
  rw [HO.out] at CR
  have HCR : Hid _ := CR
  have HL : Hid (bs.length ≤ 9223372036854775807) := by show _ ≤ _; rw [hb.1]; omega
  clear CR hb
  go_enter Try.func20, Try.ntmps20
  go_wp2_with fail
  refine (HCR.out _ (bel_alloc w _)).mono ?_
  rintro e w1 ⟨he, hbel1⟩
  have hB1 : Below w.heap.size w w1 := (bel_alloc w _).trans (hbel1.mono (by simp))
  have hblk : w1.heap[w.heap.size]? = some (Obj.cells #[.string ByteArray.empty, .string ByteArray.empty, .bool false, .int .i64 0] 23) := by rw [hbel1.block _ (by simp), heap_alloc_get, if_pos rfl]; rfl
  have hsz1 : w.heap.size < w1.heap.size := by have := hbel1.size; simp at this; omega
  have b0 : w1.cell? ⟨w.heap.size, 0, none⟩ = some (.string ByteArray.empty) := by rw [cell_of_row _ _ _ _ _ _ hblk]; rfl
  have b1 : w1.cell? ⟨w.heap.size, 1, none⟩ = some (.string ByteArray.empty) := by rw [cell_of_row _ _ _ _ _ _ hblk]; rfl
  have b2 : w1.cell? ⟨w.heap.size, 2, none⟩ = some (.bool false) := by rw [cell_of_row _ _ _ _ _ _ hblk]; rfl
  have b3 : w1.cell? ⟨w.heap.size, 3, none⟩ = some (.int .i64 0) := by rw [cell_of_row _ _ _ _ _ _ hblk]; rfl
  have fz := frozen_of_row w1 w.heap.size
  have f0 : w1.frozen? ⟨w.heap.size, 0, none⟩ = false := frozen_of_row w1 _ 0 _ 23 hblk
  have f1 : w1.frozen? ⟨w.heap.size, 1, none⟩ = false := frozen_of_row w1 _ 1 _ 23 hblk
  have f2 : w1.frozen? ⟨w.heap.size, 2, none⟩ = false := frozen_of_row w1 _ 2 _ 23 hblk
  have f3 : w1.frozen? ⟨w.heap.size, 3, none⟩ = false := frozen_of_row w1 _ 3 _ 23 hblk
  clear fz
  have HBK : Hid _ := hblk
  have HB1 : Hid _ := hB1
  clear hbel1 hB1 HCR hblk
  cases o with
  | none =>
    obtain ⟨⟨k, v, d, q⟩, n, rfl⟩ := he
    have hp : p = none := by rw [← HP.out, parseOf, HO.out]
    subst hp
    simp only [encE]
    go_wp2
    (try simp only [Exit.inBlock, Exit.then])
    refine bodyPost_ret (results_entry3 rfl _ _ w.heap.size 23 _ _ rfl (by rw [heap_alloc_get, if_neg (by simp; omega)]; exact heap_four _ _ _ _ _ _ _ _ _ _ _ HBK.out) (by exact size23)) rfl ?_
    exact ⟨rfl, (bel_four HB1.out (Nat.le_refl _) _ _ _ _).alloc (by simp; omega) _⟩
  | some xn =>
    obtain ⟨⟨k, v, d, q⟩, n⟩ := xn
    obtain ⟨s1, s2⟩ := readOf_sizes HO.out HL.out
    simp only at s1 s2
    have he' : e = .returned (.tuple #[.agg (encE ⟨k, v, d, q⟩).toArray, .int .i64 (n : Nat), .bool true]) := he
    subst he'
    clear he
    obtain ⟨r, HR⟩ : ∃ r, Hid (rightB ⟨k, v, d, q⟩ = r) := ⟨_, rfl⟩
    have CR := fun w => right_any k v d q w s1 s2
    rw [HR.out] at CR
    have HCR : Hid _ := CR
    clear CR
    have HPR : Hid (p = if r then some (⟨k, v, d, q⟩, n) else none) := by show _ = _; rw [← HP.out, parseOf, HO.out, ← HR.out]
    simp only [encE]
    go_wp2_with fail
    refine (HCR.out _).mono ?_
    rintro e w2 ⟨rfl, hb2⟩
    have hblk2 : w2.heap[w.heap.size]? = some (Obj.cells #[.string ByteArray.empty, .string ByteArray.empty, .bool false, .int .i64 0] 23) := by rw [hb2.block _ (by simp; omega), heap_alloc_get, if_neg (by omega)]; exact HBK.out
    have hblk3 : w2.heap[w1.heap.size]? = some (Obj.cells #[.string k, .string v, .bool d, .int .i64 q] 23) := by rw [hb2.block _ (by simp), heap_alloc_get, if_pos rfl]
    have hB2 : Below w.heap.size w w2 := (HB1.out.alloc HB1.out.size _).trans (hb2.mono (by simp; omega))
    clear b0 b1 b2 b3 f0 f1 f2 f3 hb2
    have hsz2 : w.heap.size < w2.heap.size := (Array.getElem?_eq_some_iff.1 hblk2).1
    have b0 : w2.cell? ⟨w.heap.size, 0, none⟩ = some (.string ByteArray.empty) := by rw [cell_of_row _ _ _ _ _ _ hblk2]; rfl
    have b1 : w2.cell? ⟨w.heap.size, 1, none⟩ = some (.string ByteArray.empty) := by rw [cell_of_row _ _ _ _ _ _ hblk2]; rfl
    have b2 : w2.cell? ⟨w.heap.size, 2, none⟩ = some (.bool false) := by rw [cell_of_row _ _ _ _ _ _ hblk2]; rfl
    have b3 : w2.cell? ⟨w.heap.size, 3, none⟩ = some (.int .i64 0) := by rw [cell_of_row _ _ _ _ _ _ hblk2]; rfl
    have f0 : w2.frozen? ⟨w.heap.size, 0, none⟩ = false := frozen_of_row w2 _ 0 _ 23 hblk2
    have f1 : w2.frozen? ⟨w.heap.size, 1, none⟩ = false := frozen_of_row w2 _ 1 _ 23 hblk2
    have f2 : w2.frozen? ⟨w.heap.size, 2, none⟩ = false := frozen_of_row w2 _ 2 _ 23 hblk2
    have f3 : w2.frozen? ⟨w.heap.size, 3, none⟩ = false := frozen_of_row w2 _ 3 _ 23 hblk2
    have e0 : w2.cell? ⟨w1.heap.size, 0, none⟩ = some (.string k) := by rw [cell_of_row _ _ _ _ _ _ hblk3]; rfl
    have e1 : w2.cell? ⟨w1.heap.size, 1, none⟩ = some (.string v) := by rw [cell_of_row _ _ _ _ _ _ hblk3]; rfl
    have e2 : w2.cell? ⟨w1.heap.size, 2, none⟩ = some (.bool d) := by rw [cell_of_row _ _ _ _ _ _ hblk3]; rfl
    have e3 : w2.cell? ⟨w1.heap.size, 3, none⟩ = some (.int .i64 q) := by rw [cell_of_row _ _ _ _ _ _ hblk3]; rfl
    have HB2 : Hid _ := And.intro hB2 hblk2
    clear hblk2 hblk3 hB2
    cases r with
    | false =>
      have hp : p = none := HPR.out
      subst hp
      go_wp2
      (try simp only [Exit.inBlock, Exit.then])
      refine bodyPost_ret (results_entry3 rfl _ _ w.heap.size 23 _ _ rfl (heap_four _ _ _ _ _ _ _ _ _ _ _ HB2.out.2) (by exact size23)) rfl ?_
      exact ⟨rfl, bel_four HB2.out.1 (Nat.le_refl _) _ _ _ _⟩
    | true =>
      have hp : p = some (⟨k, v, d, q⟩, n) := HPR.out
      subst hp
      go_wp2
      (try simp only [Exit.inBlock, Exit.then])
      refine bodyPost_ret (results_entry3 rfl _ _ w.heap.size 23 _ _ rfl (heap_four _ _ _ _ _ _ _ _ _ _ _ HB2.out.2) (by exact size23)) rfl ?_
      exact ⟨rfl, bel_four HB2.out.1 (Nat.le_refl _) _ _ _ _⟩
end Go.Proofs.Yteemfhhhdhddhaa

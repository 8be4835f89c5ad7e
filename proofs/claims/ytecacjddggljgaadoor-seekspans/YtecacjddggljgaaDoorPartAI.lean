/-
  What entry.Parse answers: a contract over this translation. What seek.soleEntry answers: contract over this translation. Entries behind one another are read as they were: what the law EntryRow answers, for any arguments.
-/
import Derived.Test.YtecacjddggljgaaDoorPartAH
import Derived.Test.YtecacjddggljgaaDoorPartAG
namespace Go.Proofs.YtecacjddggljgaaDoor
open Go.RowKit Go.Sort Go.Shelf
set_option linter.unusedSectionVars false
variable [Inhabited E] [DecidableEq E]
/-- The right entry that bytes begin with, and how many they are. -/
def parseOf (bs : List UInt8) : Option (E × Nat) :=
  match readOf bs with
  | some (x, n) => if rightB x then some (x, n) else none
  | none => none
def parseV (o : Option (E × Nat)) : Value :=
  match o with
  | some (x, n) => .tuple #[.agg (encE x).toArray, .int .i64 (n : Nat), .int .i64 0]
  | none => .tuple #[.agg (encE ⟨.empty, .empty, false, 0⟩).toArray, .int .i64 0, .int .i64 2]
theorem heap_set (w : World) (g j : Nat) (cs : Array Value) (t : TypeId) (v : Value) (hg : w.heap[g]? = some (.cells cs t (0, 0))) : (w.setCell ⟨g, j, none⟩ v).heap[g]? = some (.cells (cs.setIfInBounds j v) t (0, 0)) := by
  unfold World.setCell
  simp only [Array.getElem?_modify, if_pos, hg, Option.map_some]
  rfl
/-- Four stores into a block of four cells. -/
theorem heap_four (w : World) (g : Nat) (a b c d a' b' c' d' : Value) (t : TypeId) (hg : w.heap[g]? = some (.cells #[a, b, c, d] t (0, 0))) :
    ((((w.setCell ⟨g, 0, none⟩ a').setCell ⟨g, 1, none⟩ b').setCell ⟨g, 2, none⟩ c').setCell ⟨g, 3, none⟩ d').heap[g]? = some (.cells #[a', b', c', d'] t (0, 0)) := by
  rw [heap_set _ g 3 _ t d' (heap_set _ g 2 _ t c' (heap_set _ g 1 _ t b' (heap_set _ g 0 _ t a' hg)))]
  rfl
theorem bel_four {B : Nat} {w0 w : World} (h : Below B w0 w) {g : Nat} (hg : B ≤ g) (a' b' c' d' : Value) : Below B w0 ((((w.setCell ⟨g, 0, none⟩ a').setCell ⟨g, 1, none⟩ b').setCell ⟨g, 2, none⟩ c').setCell ⟨g, 3, none⟩ d') :=
  (((h.setCell hg _).setCell hg _).setCell hg _).setCell hg _
set_option maxRecDepth 100000 in
set_option maxHeartbeats 1000000 in
theorem read_none (ao : Option Addr) (cap : Nat) (w : World) :
    Calls Tryd.prog 125 #[.slice ao 0 cap] w fun e w' => ReadSays (readOf []) e ∧ Below w.heap.size w w' := by
  go_enter Tryd.func125, Tryd.ntmps125
  go_wp2
  (try simp only [Exit.inBlock, Exit.then])
  refine bodyPost_ret (results_entry3 rfl _ _ w.heap.size 54 _ _ rfl (heap_alloc_new w _) (by exact size23)) rfl ?_
  exact ⟨⟨⟨.empty, .empty, false, 0⟩, 0, rfl⟩, bel_alloc _ _⟩
theorem read_any (ao : Option Addr) (len cap : Nat) (bs : List UInt8) (w : World) (hb : Bytes w ao len bs) (hlc : len ≤ cap) (hmax : cap ≤ 9223372036854775807) :
    Calls Tryd.prog 125 #[.slice ao len cap] w fun e w' => ReadSays (readOf bs) e ∧ Below w.heap.size w w' := by
  cases bs with
  | nil =>
    have hl : len = 0 := by simpa using hb.1.symm
    subst hl
    exact read_none ao cap w
  | cons t r =>
    obtain ⟨x, hx, hc⟩ := hb.2 0 t rfl
    subst hx
    obtain ⟨b, off, spot⟩ := x
    have hspot : spot = none := by simpa [Addr.add] using World.cell?_spot hc
    subst hspot
    exact read_cells b off len cap t r w hb hlc hmax
theorem wrap64_small {v : Nat} (h : v < 9223372036854775808) : wrap64 (v : Int) = v := by
  unfold wrap64; omega
theorem readOf_sizes {bs : List UInt8} {x : E} {n : Nat} (h : readOf bs = some (x, n)) (hl : bs.length ≤ 9223372036854775807) : x.key.size ≤ 9223372036854775807 ∧ x.value.size ≤ 9223372036854775807 := by
  have ht : ∀ l : List UInt8, (textOf l).1.length ≤ l.length := by
    intro l
    unfold textOf
    split
    · simp
    · simp only [List.length_take, List.length_drop]; omega
  cases bs with
  | nil => simp [readOf] at h
  | cons t r =>
    simp only [readOf] at h
    have h1 := ht (r.drop (getB r).2.1)
    have h2 := ht (r.drop ((getB r).2.1 + (textOf (r.drop (getB r).2.1)).2.1))
    rw [List.length_drop] at h1 h2
    simp only [List.length_cons] at hl
    split at h
    · cases h
    · split at h
      · cases h
      · split at h
        · cases h
        · split at h
          · cases h
            refine ⟨?_, by simp [ByteArray.size]⟩
            simp only [ByteArray.size, List.size_toArray]; omega
          · split at h
            · cases h
            · cases h
              simp only [ByteArray.size, List.size_toArray]
              exact ⟨by omega, by omega⟩
set_option maxRecDepth 100000 in
set_option maxHeartbeats 1000000 in
theorem parse_any (ao : Option Addr) (len cap : Nat) (bs : List UInt8) (w : World) (hb : Bytes w ao len bs) (hlc : len ≤ cap) (hmax : cap ≤ 9223372036854775807) :
    Calls Tryd.prog 107 #[.slice ao len cap] w fun e w' => e = .returned (parseV (parseOf bs)) ∧ Below w.heap.size w w' := by
  obtain ⟨o, HO⟩ : ∃ o, Hid (readOf bs = o) := ⟨_, rfl⟩
  obtain ⟨p, HP⟩ : ∃ p, Hid (parseOf bs = p) := ⟨_, rfl⟩
  rw [HP.out]
  have CR := fun w' hw => read_any ao len cap bs w' (bytes_kept hb hw (Nat.le_refl _)) hlc hmax
  rw [HO.out] at CR
  have HCR : Hid _ := CR
  have HL : Hid (bs.length ≤ 9223372036854775807) := by show _ ≤ _; rw [hb.1]; omega
  clear CR hb
  go_enter Tryd.func107, Tryd.ntmps107
  go_wp2_with fail
  refine (HCR.out _ (bel_alloc w _)).mono ?_
  rintro e w1 ⟨he, hbel1⟩
  have hB1 : Below w.heap.size w w1 := (bel_alloc w _).trans (hbel1.mono (by simp))
  have hblk : w1.heap[w.heap.size]? = some (Obj.cells #[.string ByteArray.empty, .string ByteArray.empty, .bool false, .int .i64 0] 54) := by rw [hbel1.block _ (by simp), heap_alloc_get, if_pos rfl]; rfl
  have hsz1 : w.heap.size < w1.heap.size := by have := hbel1.size; simp at this; omega
  have b0 : w1.cell? ⟨w.heap.size, 0, none⟩ = some (.string ByteArray.empty) := by rw [cell_of_row _ _ _ _ _ _ hblk]; rfl
  have b1 : w1.cell? ⟨w.heap.size, 1, none⟩ = some (.string ByteArray.empty) := by rw [cell_of_row _ _ _ _ _ _ hblk]; rfl
  have b2 : w1.cell? ⟨w.heap.size, 2, none⟩ = some (.bool false) := by rw [cell_of_row _ _ _ _ _ _ hblk]; rfl
  have b3 : w1.cell? ⟨w.heap.size, 3, none⟩ = some (.int .i64 0) := by rw [cell_of_row _ _ _ _ _ _ hblk]; rfl
  have fz := frozen_of_row w1 w.heap.size
  have f0 : w1.frozen? ⟨w.heap.size, 0, none⟩ = false := frozen_of_row w1 _ 0 _ 54 hblk
  have f1 : w1.frozen? ⟨w.heap.size, 1, none⟩ = false := frozen_of_row w1 _ 1 _ 54 hblk
  have f2 : w1.frozen? ⟨w.heap.size, 2, none⟩ = false := frozen_of_row w1 _ 2 _ 54 hblk
  have f3 : w1.frozen? ⟨w.heap.size, 3, none⟩ = false := frozen_of_row w1 _ 3 _ 54 hblk
  clear fz
  have HBK : Hid _ := hblk
  have HB1 : Hid _ := hB1
  clear hbel1 hB1 HCR hblk
  cases o with
  | none =>
    obtain ⟨⟨k, v, d, q⟩, n, rfl⟩ := he
    have hp : p = none := by rw [← HP.out, parseOf, HO.out]
    subst hp
    simp only [encE]
    go_wp2
    (try simp only [Exit.inBlock, Exit.then])
    refine bodyPost_ret (results_entry3 rfl _ _ w.heap.size 54 _ _ rfl (by rw [heap_alloc_get, if_neg (by simp; omega)]; exact heap_four _ _ _ _ _ _ _ _ _ _ _ HBK.out) (by exact size23)) rfl ?_
    exact ⟨rfl, (bel_four HB1.out (Nat.le_refl _) _ _ _ _).alloc (by simp; omega) _⟩
  | some xn =>
    obtain ⟨⟨k, v, d, q⟩, n⟩ := xn
    obtain ⟨s1, s2⟩ := readOf_sizes HO.out HL.out
    simp only at s1 s2
    have he' : e = .returned (.tuple #[.agg (encE ⟨k, v, d, q⟩).toArray, .int .i64 (n : Nat), .bool true]) := he
    subst he'
    clear he
    obtain ⟨r, HR⟩ : ∃ r, Hid (rightB ⟨k, v, d, q⟩ = r) := ⟨_, rfl⟩
    have CR := fun w => right_any k v d q w s1 s2
    rw [HR.out] at CR
    have HCR : Hid _ := CR
    clear CR
    have HPR : Hid (p = if r then some (⟨k, v, d, q⟩, n) else none) := by show _ = _; rw [← HP.out, parseOf, HO.out, ← HR.out]
    simp only [encE]
    go_wp2_with fail
    refine (HCR.out _).mono ?_
    rintro e w2 ⟨rfl, hb2⟩
    have hblk2 : w2.heap[w.heap.size]? = some (Obj.cells #[.string ByteArray.empty, .string ByteArray.empty, .bool false, .int .i64 0] 54) := by rw [hb2.block _ (by simp; omega), heap_alloc_get, if_neg (by omega)]; exact HBK.out
    have hblk3 : w2.heap[w1.heap.size]? = some (Obj.cells #[.string k, .string v, .bool d, .int .i64 q] 54) := by rw [hb2.block _ (by simp), heap_alloc_get, if_pos rfl]
    have hB2 : Below w.heap.size w w2 := (HB1.out.alloc HB1.out.size _).trans (hb2.mono (by simp; omega))
    clear b0 b1 b2 b3 f0 f1 f2 f3 hb2
    have hsz2 : w.heap.size < w2.heap.size := (Array.getElem?_eq_some_iff.1 hblk2).1
    have b0 : w2.cell? ⟨w.heap.size, 0, none⟩ = some (.string ByteArray.empty) := by rw [cell_of_row _ _ _ _ _ _ hblk2]; rfl
    have b1 : w2.cell? ⟨w.heap.size, 1, none⟩ = some (.string ByteArray.empty) := by rw [cell_of_row _ _ _ _ _ _ hblk2]; rfl
    have b2 : w2.cell? ⟨w.heap.size, 2, none⟩ = some (.bool false) := by rw [cell_of_row _ _ _ _ _ _ hblk2]; rfl
    have b3 : w2.cell? ⟨w.heap.size, 3, none⟩ = some (.int .i64 0) := by rw [cell_of_row _ _ _ _ _ _ hblk2]; rfl
    have f0 : w2.frozen? ⟨w.heap.size, 0, none⟩ = false := frozen_of_row w2 _ 0 _ 54 hblk2
    have f1 : w2.frozen? ⟨w.heap.size, 1, none⟩ = false := frozen_of_row w2 _ 1 _ 54 hblk2
    have f2 : w2.frozen? ⟨w.heap.size, 2, none⟩ = false := frozen_of_row w2 _ 2 _ 54 hblk2
    have f3 : w2.frozen? ⟨w.heap.size, 3, none⟩ = false := frozen_of_row w2 _ 3 _ 54 hblk2
    have e0 : w2.cell? ⟨w1.heap.size, 0, none⟩ = some (.string k) := by rw [cell_of_row _ _ _ _ _ _ hblk3]; rfl
    have e1 : w2.cell? ⟨w1.heap.size, 1, none⟩ = some (.string v) := by rw [cell_of_row _ _ _ _ _ _ hblk3]; rfl
    have e2 : w2.cell? ⟨w1.heap.size, 2, none⟩ = some (.bool d) := by rw [cell_of_row _ _ _ _ _ _ hblk3]; rfl
    have e3 : w2.cell? ⟨w1.heap.size, 3, none⟩ = some (.int .i64 q) := by rw [cell_of_row _ _ _ _ _ _ hblk3]; rfl
    have HB2 : Hid _ := And.intro hB2 hblk2
    clear hblk2 hblk3 hB2
    cases r with
    | false =>
      have hp : p = none := HPR.out
      subst hp
      go_wp2
      (try simp only [Exit.inBlock, Exit.then])
      refine bodyPost_ret (results_entry3 rfl _ _ w.heap.size 54 _ _ rfl (heap_four _ _ _ _ _ _ _ _ _ _ _ HB2.out.2) (by exact size23)) rfl ?_
      exact ⟨rfl, bel_four HB2.out.1 (Nat.le_refl _) _ _ _ _⟩
    | true =>
      have hp : p = some (⟨k, v, d, q⟩, n) := HPR.out
      subst hp
      go_wp2
      (try simp only [Exit.inBlock, Exit.then])
      refine bodyPost_ret (results_entry3 rfl _ _ w.heap.size 54 _ _ rfl (heap_four _ _ _ _ _ _ _ _ _ _ _ HB2.out.2) (by exact size23)) rfl ?_
      exact ⟨rfl, bel_four HB2.out.1 (Nat.le_refl _) _ _ _ _⟩
end Go.Proofs.YtecacjddggljgaaDoor
namespace Go.Proofs.YtecacjddggljgaaDoor
open Go.RowKit Go.Sort Go.Shelf
set_option linter.unusedSectionVars false
variable [Inhabited E] [DecidableEq E]
theorem results_entry2 {fn : Func} {p u : Tmp} (h : fn.results = #[.cell p 54, .tmp u]) (tmps : Array Value) (w : World) (g : Nat) (t : TypeId) (cs : Array Value) (fr : Nat × Nat)
    (hp : tmps.getD p undef = .pointer (some ⟨g, 0, none⟩)) (hg : w.heap[g]? = some (.cells cs t fr)) (hi : (Tryd.prog.info? 54).map (·.size) = some cs.size) :
    (results fn tmps).run Tryd.prog w = .ok (.tuple #[.agg cs, tmps.getD u undef]) w := by
  have hp' : tmps[p]?.getD undef = .pointer (some ⟨g, 0, none⟩) := by simpa using hp
  simp [results, h, hp', asAddr, run_loadVar_row w g t 54 cs fr _ hg Tryd.underlying54 rfl hi]
def zeroE : E := ⟨.empty, .empty, false, 0⟩
def soleOf (bs : List UInt8) : Option E := match parseOf bs with
  | some (x, n) => if n = bs.length then some x else none
  | none => none
def soleV (o : Option E) : Value := match o with
  | some x => .tuple #[.agg (encE x).toArray, .bool true]
  | none => .tuple #[.agg (encE zeroE).toArray, .bool false]
set_option maxRecDepth 100000 in
set_option maxHeartbeats 2000000 in
theorem sole_any (ao : Option Addr) (len cap : Nat) (bs : List UInt8) (w : World) (hb : Bytes w ao len bs) (hlc : len ≤ cap) (hmax : cap ≤ 9223372036854775807) :
    Calls Tryd.prog 77 #[.slice ao len cap] w fun e w' => e = .returned (soleV (soleOf bs)) ∧ Below w.heap.size w w' := by
  obtain ⟨o, HO⟩ : ∃ o, Hid (soleOf bs = o) := ⟨_, rfl⟩
  obtain ⟨p, HP⟩ : ∃ p, Hid (parseOf bs = p) := ⟨_, rfl⟩
  have HC : Hid (∀ w', Below w.heap.size w w' → Calls Tryd.prog 107 #[.slice ao len cap] w' fun e w'' => e = .returned (parseV p) ∧ Below w'.heap.size w' w'') := fun w' h => by
    rw [← HP.out]; exact parse_any ao len cap bs w' (bytes_kept hb h (Nat.le_refl _)) hlc hmax
  have HL : Hid (bs.length = len) := hb.1
  rw [HO.out]
  clear hb
  go_enter Tryd.func77, Tryd.ntmps77
  go_wp2_with fail
  refine (HC.out _ (bel_alloc w _)).mono ?_
  rintro e w1 ⟨rfl, hbel1⟩
  have hB1 : Below w.heap.size w w1 := (bel_alloc w _).trans (hbel1.mono (by simp))
  have hblk : w1.heap[w.heap.size]? = some (Obj.cells #[.string ByteArray.empty, .string ByteArray.empty, .bool false, .int .i64 0] 54) := by rw [hbel1.block _ (by simp), heap_alloc_get, if_pos rfl]; rfl
  have hsz1 : w.heap.size < w1.heap.size := by have := hbel1.size; simp at this; omega
  have b0 : w1.cell? ⟨w.heap.size, 0, none⟩ = some (.string ByteArray.empty) := by rw [cell_of_row _ _ _ _ _ _ hblk]; rfl
  have b1 : w1.cell? ⟨w.heap.size, 1, none⟩ = some (.string ByteArray.empty) := by rw [cell_of_row _ _ _ _ _ _ hblk]; rfl
  have b2 : w1.cell? ⟨w.heap.size, 2, none⟩ = some (.bool false) := by rw [cell_of_row _ _ _ _ _ _ hblk]; rfl
  have b3 : w1.cell? ⟨w.heap.size, 3, none⟩ = some (.int .i64 0) := by rw [cell_of_row _ _ _ _ _ _ hblk]; rfl
  have f0 : w1.frozen? ⟨w.heap.size, 0, none⟩ = false := frozen_of_row w1 _ 0 _ 54 hblk
  have f1 : w1.frozen? ⟨w.heap.size, 1, none⟩ = false := frozen_of_row w1 _ 1 _ 54 hblk
  have f2 : w1.frozen? ⟨w.heap.size, 2, none⟩ = false := frozen_of_row w1 _ 2 _ 54 hblk
  have f3 : w1.frozen? ⟨w.heap.size, 3, none⟩ = false := frozen_of_row w1 _ 3 _ 54 hblk

  have HBK : Hid _ := hblk
  have HB1 : Hid _ := hB1
  clear hbel1 hB1 HC hblk
  cases p with
  | none =>
    have ho : o = none := by rw [← HO.out, soleOf, HP.out]
    subst ho
    simp only [parseV, encE]
    go_wp2
    (try simp only [Exit.inBlock, Exit.then])
    refine bodyPost_ret (results_entry2 rfl _ _ w.heap.size 54 _ _ rfl (by rw [heap_alloc_get, if_neg (by simp; omega)]; exact heap_four _ _ _ _ _ _ _ _ _ _ _ HBK.out) (by exact size23)) rfl ?_
    exact ⟨rfl, (bel_four HB1.out (Nat.le_refl _) _ _ _ _).alloc (by simp; omega) _⟩
  | some xn =>
    obtain ⟨⟨k, v, d, q⟩, n⟩ := xn
    have HOo : Hid (o = if n = len then some ⟨k, v, d, q⟩ else none) := by show _ = _; rw [← HO.out, soleOf, HP.out, ← HL.out]
    clear HO HP
    simp only [parseV, encE]
    by_cases hn : n = len
    · subst hn
      have ho : o = some ⟨k, v, d, q⟩ := by rw [HOo.out, if_pos rfl]
      subst ho
      go_wp2
      (try simp only [Exit.inBlock, Exit.then])
      refine bodyPost_ret (results_entry2 rfl _ _ w.heap.size 54 _ _ rfl (by rw [heap_alloc_get, if_neg (by simp; omega)]; exact heap_four _ _ _ _ _ _ _ _ _ _ _ HBK.out) (by exact size23)) rfl ?_
      exact ⟨rfl, (bel_four HB1.out (Nat.le_refl _) _ _ _ _).alloc (by simp; omega) _⟩
    · have hnz : ¬ (n : Int) = (len : Int) := by omega
      have ho : o = none := by rw [HOo.out, if_neg hn]
      subst ho
      go_wp2
      (try simp only [Exit.inBlock, Exit.then])
      refine bodyPost_ret (results_entry2 rfl _ _ w.heap.size 54 _ _ rfl (by rw [heap_alloc_get, if_neg (by simp; omega)]; exact heap_four _ _ _ _ _ _ _ _ _ _ _ HBK.out) (by exact size23)) rfl ?_
      exact ⟨rfl, (bel_four HB1.out (Nat.le_refl _) _ _ _ _).alloc (by simp; omega) _⟩
end Go.Proofs.YtecacjddggljgaaDoor
namespace Go.Proofs.YtecacjddggljgaaDoor
open Go.RowKit Go.Sort Go.Shelf
set_option linter.unusedSectionVars false
variable [Inhabited E] [DecidableEq E]
/-- The bytes of entries, one behind the other. -/
def rowB (es : List E) : List UInt8 := es.flatMap bytesB
theorem rowB_snoc (es : List E) (e : E) : rowB (es ++ [e]) = rowB es ++ bytesB e := by simp [rowB]
theorem rowB_cons (es : List E) (e : E) : rowB (e :: es) = bytesB e ++ rowB es := by simp [rowB]
theorem textB_len (s : List UInt8) : (textB s).length ≤ s.length + 10 := by
  have := putB_le s.length
  rw [textB, List.length_append]; omega
theorem bytesB_len (e : E) : (bytesB e).length ≤ 1200 := by
  unfold bytesB
  cases h : rightB e with
  | false => simp
  | true =>
    obtain ⟨h1, h2, qn, h3, h4, h5⟩ := right_parts h
    have a1 := textB_len (strB e.key)
    have a2 := textB_len (strB e.value)
    have a3 := putB_le e.seq.toNat
    rw [strB_length] at a1 a2
    have a4 : (headB e).length ≤ 1 + 10 + 138 := by
      unfold headB
      simp only [List.length_append, List.length_cons]
      omega
    simp only [if_true]
    split
    · omega
    · rw [List.length_append]; omega
theorem rowB_len : ∀ es : List E, (rowB es).length ≤ 1200 * es.length
  | [] => by simp [rowB]
  | e :: es => by
    have h1 := rowB_len es
    have h2 := bytesB_len e
    rw [rowB_cons, List.length_append, List.length_cons]; omega
theorem read_bytes (e : E) (h : rightB e = true) (more : List UInt8) : readOf (bytesB e ++ more) = some (e, (bytesB e).length) := by
  obtain ⟨h1, h2, qn, h3, h4, h5⟩ := right_parts h
  have hdel : e.del = true → e.value = ⟨#[]⟩ := by
    intro hd
    simp only [rightB, decide_eq_true_eq] at h
    exact (size_zero e.value).1 (h.2.2.2.1 hd)
  obtain ⟨k, v, d, q⟩ := e
  simp only at h1 h2 h3 hdel
  subst h3
  have hq : wrap64 (qn : Int) = qn := by unfold wrap64; omega
  have g1 : ∀ m, getB (putB qn ++ m) = (qn, (putB qn).length, true) := fun m => getB_putB qn (by omega) m
  have t1 : ∀ m, textOf (textB (strB k) ++ m) = (strB k, (textB (strB k)).length, true) := fun m => textOf_textB _ m (by rw [strB_length]; omega)
  have t2 : ∀ m, textOf (textB (strB v) ++ m) = (strB v, (textB (strB v)).length, true) := fun m => textOf_textB _ m (by rw [strB_length]; omega)
  have d1 : ∀ m, (putB qn ++ m).drop (putB qn).length = m := fun m => List.drop_left
  have d2 : ∀ m, (putB qn ++ (textB (strB k) ++ m)).drop ((putB qn).length + (textB (strB k)).length) = m := fun m => by
    rw [← List.append_assoc, ← List.length_append]; exact List.drop_left
  rw [bytesB, h]
  cases d with
  | true =>
    simp only [if_true, headB, List.cons_append, List.append_assoc, readOf]
    have e0 : (⟨k, v, true, (qn : Int)⟩ : E).seq.toNat = qn := rfl
    rw [e0, if_neg (by decide), g1]
    simp only
    rw [if_neg (by simp), d1, t1]
    simp only
    rw [if_neg (by simp), if_pos (by decide), hq, ← str_mk, hdel rfl]
    simp only [List.length_cons, List.length_append]
    congr 2
    omega
  | false =>
    simp only [if_true, headB, List.cons_append, List.append_assoc, readOf, Bool.false_eq_true, if_false]
    have e0 : (⟨k, v, false, (qn : Int)⟩ : E).seq.toNat = qn := rfl
    rw [e0, if_neg (by decide), g1]
    simp only
    rw [if_neg (by simp), d1, t1]
    simp only
    rw [if_neg (by simp), if_neg (by decide), d2, t2]
    simp only
    rw [if_neg (by simp), hq, ← str_mk, ← str_mk]
    simp only [List.length_cons, List.length_append]
    congr 2
    omega
theorem parse_bytes (e : E) (h : rightB e = true) (more : List UInt8) : parseOf (bytesB e ++ more) = some (e, (bytesB e).length) := by
  rw [parseOf, read_bytes e h more]; simp [h]
theorem bytesB_pos (e : E) (h : rightB e = true) : 1 ≤ (bytesB e).length := by
  rw [bytesB, h]
  simp only [if_true, headB, List.cons_append]
  split <;> simp
theorem bytesB_wrong (e : E) (h : rightB e = false) : bytesB e = [] := by rw [bytesB, h]; rfl
theorem fewS_small (a b most : Nat) (es : List E) (h : Small es) : Small (fewS a b most es) := by
  intro e he
  unfold fewS at he
  simp only [List.mem_map] at he
  obtain ⟨x, hx, rfl⟩ := he
  have := h x (List.mem_of_mem_take hx)
  refine ⟨?_, ?_⟩
  · show (x.key.extract 0 (min x.key.size a)).size ≤ _
    rw [ByteArray.size_extract]; omega
  · show (x.value.extract 0 (min x.value.size b)).size ≤ _
    rw [ByteArray.size_extract]; omega
end Go.Proofs.YtecacjddggljgaaDoor

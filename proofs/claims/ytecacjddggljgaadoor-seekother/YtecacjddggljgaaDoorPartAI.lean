/-
  Entries behind one another are read as they were: what the law EntryRow answers, for any arguments. codec's functions, and the document's answers for them: contracts over this translation. What block.common and the document's common answer: contracts over this translation.
-/
import Derived.Test.YtecacjddggljgaaDoorPartAH
import Derived.WalkKit
import Derived.WalkSpells
import Derived.WalkLawsBesides
import Derived.Lib.Walk
import Derived.Lib.AppendStr
import Derived.OpenShut
import Derived.Deep.QuietTactic
import Derived.BigQuiet
import Derived.Laws.AppendOwnNone
import Derived.Lib.MinMax
import Derived.Deep.RegionHeld3
namespace Go.Proofs.YtecacjddggljgaaDoor
open Go.RowKit Go.Sort Go.Shelf
set_option linter.unusedSectionVars false
variable [Inhabited E] [DecidableEq E]
/-- The bytes of entries, one behind the other. -/
def rowB (es : List E) : List UInt8 := es.flatMap bytesB
theorem rowB_snoc (es : List E) (e : E) : rowB (es ++ [e]) = rowB es ++ bytesB e := by simp [rowB]
theorem rowB_cons (es : List E) (e : E) : rowB (e :: es) = bytesB e ++ rowB es := by simp [rowB]
theorem textB_len (s : List UInt8) : (textB s).length ≤ s.length + 10 := by
  have := putB_le s.length
  rw [textB, List.length_append]; omega
theorem bytesB_len (e : E) : (bytesB e).length ≤ 1200 := by
  unfold bytesB
  cases h : rightB e with
  | false => simp
  | true =>
    obtain ⟨h1, h2, qn, h3, h4, h5⟩ := right_parts h
    have a1 := textB_len (strB e.key)
    have a2 := textB_len (strB e.value)
    have a3 := putB_le e.seq.toNat
    rw [strB_length] at a1 a2
    have a4 : (headB e).length ≤ 1 + 10 + 138 := by
      unfold headB
      simp only [List.length_append, List.length_cons]
      omega
    simp only [if_true]
    split
    · omega
    · rw [List.length_append]; omega
theorem rowB_len : ∀ es : List E, (rowB es).length ≤ 1200 * es.length
  | [] => by simp [rowB]
  | e :: es => by
    have h1 := rowB_len es
    have h2 := bytesB_len e
    rw [rowB_cons, List.length_append, List.length_cons]; omega
theorem read_bytes (e : E) (h : rightB e = true) (more : List UInt8) : readOf (bytesB e ++ more) = some (e, (bytesB e).length) := by
  obtain ⟨h1, h2, qn, h3, h4, h5⟩ := right_parts h
  have hdel : e.del = true → e.value = ⟨#[]⟩ := by
    intro hd
    simp only [rightB, decide_eq_true_eq] at h
    exact (size_zero e.value).1 (h.2.2.2.1 hd)
  obtain ⟨k, v, d, q⟩ := e
  simp only at h1 h2 h3 hdel
  subst h3
  have hq : wrap64 (qn : Int) = qn := by unfold wrap64; omega
  have g1 : ∀ m, getB (putB qn ++ m) = (qn, (putB qn).length, true) := fun m => getB_putB qn (by omega) m
  have t1 : ∀ m, textOf (textB (strB k) ++ m) = (strB k, (textB (strB k)).length, true) := fun m => textOf_textB _ m (by rw [strB_length]; omega)
  have t2 : ∀ m, textOf (textB (strB v) ++ m) = (strB v, (textB (strB v)).length, true) := fun m => textOf_textB _ m (by rw [strB_length]; omega)
  have d1 : ∀ m, (putB qn ++ m).drop (putB qn).length = m := fun m => List.drop_left
  have d2 : ∀ m, (putB qn ++ (textB (strB k) ++ m)).drop ((putB qn).length + (textB (strB k)).length) = m := fun m => by
    rw [← List.append_assoc, ← List.length_append]; exact List.drop_left
  rw [bytesB, h]
  cases d with
  | true =>
    simp only [if_true, headB, List.cons_append, List.append_assoc, readOf]
    have e0 : (⟨k, v, true, (qn : Int)⟩ : E).seq.toNat = qn := rfl
    rw [e0, if_neg (by decide), g1]
    simp only
    rw [if_neg (by simp), d1, t1]
    simp only
    rw [if_neg (by simp), if_pos (by decide), hq, ← str_mk, hdel rfl]
    simp only [List.length_cons, List.length_append]
    congr 2
    omega
  | false =>
    simp only [if_true, headB, List.cons_append, List.append_assoc, readOf, Bool.false_eq_true, if_false]
    have e0 : (⟨k, v, false, (qn : Int)⟩ : E).seq.toNat = qn := rfl
    rw [e0, if_neg (by decide), g1]
    simp only
    rw [if_neg (by simp), d1, t1]
    simp only
    rw [if_neg (by simp), if_neg (by decide), d2, t2]
    simp only
    rw [if_neg (by simp), hq, ← str_mk, ← str_mk]
    simp only [List.length_cons, List.length_append]
    congr 2
    omega
theorem parse_bytes (e : E) (h : rightB e = true) (more : List UInt8) : parseOf (bytesB e ++ more) = some (e, (bytesB e).length) := by
  rw [parseOf, read_bytes e h more]; simp [h]
theorem bytesB_pos (e : E) (h : rightB e = true) : 1 ≤ (bytesB e).length := by
  rw [bytesB, h]
  simp only [if_true, headB, List.cons_append]
  split <;> simp
theorem bytesB_wrong (e : E) (h : rightB e = false) : bytesB e = [] := by rw [bytesB, h]; rfl
theorem fewS_small (a b most : Nat) (es : List E) (h : Small es) : Small (fewS a b most es) := by
  intro e he
  unfold fewS at he
  simp only [List.mem_map] at he
  obtain ⟨x, hx, rfl⟩ := he
  have := h x (List.mem_of_mem_take hx)
  refine ⟨?_, ?_⟩
  · show (x.key.extract 0 (min x.key.size a)).size ≤ _
    rw [ByteArray.size_extract]; omega
  · show (x.value.extract 0 (min x.value.size b)).size ≤ _
    rw [ByteArray.size_extract]; omega
end Go.Proofs.YtecacjddggljgaaDoor
namespace Go.Proofs.YtecacjddggljgaaDoor
open Go.RowKit
set_option linter.unusedSectionVars false
variable [Inhabited E] [DecidableEq E]
/-- The four bytes of a number, the highest first. -/
def fixB (v : Nat) : List UInt8 := [UInt8.ofNat (v / 16777216 % 256), UInt8.ofNat (v / 65536 % 256), UInt8.ofNat (v / 256 % 256), UInt8.ofNat (v % 256)]
theorem fix1 (v : Nat) (h : v < 4294967296) : (v : Int) / 16777216 = ((UInt8.ofNat (v / 16777216 % 256)).toNat : Int) := by rw [toNat_ofNat _ (by omega)]; omega
theorem fix2 (v : Nat) : (v : Int) / 65536 % 256 = ((UInt8.ofNat (v / 65536 % 256)).toNat : Int) := by rw [toNat_ofNat _ (by omega)]; omega
theorem fix3 (v : Nat) : (v : Int) / 256 % 256 = ((UInt8.ofNat (v / 256 % 256)).toNat : Int) := by rw [toNat_ofNat _ (by omega)]; omega
theorem fix4 (v : Nat) : (v : Int) % 256 = ((UInt8.ofNat (v % 256)).toNat : Int) := by rw [toNat_ofNat _ (by omega)]; omega
theorem cell_four (w : World) (a b c d : UInt8) : ∀ j u, (cellsOf [a, b, c, d])[j]? = some u →
    (w.alloc (.cells #[.int .u8 (a.toNat : Int), .int .u8 (b.toNat : Int), .int .u8 (c.toNat : Int), .int .u8 (d.toNat : Int)] 5)).cell? ((⟨w.heap.size, 0, none⟩ : Addr).add j) = some u := by
  intro j u hj
  match j, hj with
  | 0, hj => simp [cellsOf] at hj; subst hj; simp [Addr.add]
  | 1, hj => simp [cellsOf] at hj; subst hj; simp [Addr.add]
  | 2, hj => simp [cellsOf] at hj; subst hj; simp [Addr.add]
  | 3, hj => simp [cellsOf] at hj; subst hj; simp [Addr.add]
  | n + 4, hj => simp [cellsOf] at hj
/-- What four bytes tell. -/
def fixOf (bs : List UInt8) : Nat × Bool :=
  if bs.length < 4 then (0, false) else ((bs.getD 0 0).toNat * 16777216 + (bs.getD 1 0).toNat * 65536 + (bs.getD 2 0).toNat * 256 + (bs.getD 3 0).toNat, true)
theorem or_at (k a b : Nat) (h : b < 2 ^ k) : a * 2 ^ k ||| b = a * 2 ^ k + b := by
  have := Nat.two_pow_add_eq_or_of_lt h a
  rw [Nat.mul_comm a, this]
theorem or_four (a b c d : Nat) (ha : a < 256) (hb : b < 256) (hc : c < 256) (hd : d < 256) :
    bits .or .u32 (bits .or .u32 (bits .or .u32 ((a : Int) * 16777216) ((b : Int) * 65536)) ((c : Int) * 256)) (d : Int) = ((a * 16777216 + b * 65536 + c * 256 + d : Nat) : Int) := by
  have e1 := or_at 24 a (b * 65536) (by omega)
  have e2 := or_at 16 (a * 256 + b) (c * 256) (by omega)
  have e3 := or_at 8 (a * 65536 + b * 256 + c) d (by omega)
  simp only [Nat.reducePow] at e1 e2 e3
  rw [show (a * 256 + b) * 65536 = a * 16777216 + b * 65536 from by omega] at e2
  rw [show (a * 65536 + b * 256 + c) * 256 = a * 16777216 + b * 65536 + c * 256 from by omega] at e3
  rw [show ((a : Int) * 16777216) = ((a * 16777216 : Nat) : Int) from by omega, show ((b : Int) * 65536) = ((b * 65536 : Nat) : Int) from by omega, show ((c : Int) * 256) = ((c * 256 : Nat) : Int) from by omega]
  rw [u32_or_nat _ _ (by omega) (by omega), e1, u32_or_nat _ _ (by omega) (by omega), e2, u32_or_nat _ _ (by omega) (by omega), e3]
theorem tup2 {a a' : Int} {p p' : Bool} (h1 : a = a') (h3 : p = p') :
    Ending.returned (.tuple #[.int .u32 a, .bool p]) = .returned (.tuple #[.int .u32 a', .bool p']) := by rw [h1, h3]
theorem fixOf_fixB (v : Nat) (hv : v < 4294967296) (more : List UInt8) : fixOf (fixB v ++ more) = (v, true) := by
  unfold fixOf
  rw [if_neg (by simp [fixB])]
  simp only [fixB, List.cons_append, List.getD_cons_zero, List.getD_cons_succ, Prod.mk.injEq, and_true]
  rw [toNat_ofNat _ (by omega), toNat_ofNat _ (by omega), toNat_ofNat _ (by omega), toNat_ofNat _ (by omega)]
  omega
theorem run_index_at (s : ByteArray) (k : Nat) (h : k < s.size) (w : World) : (Instr.index 9 (.string s) (.int .i64 (k : Int))).run Tryd.prog w = .ok (.int .u8 (s[k].toNat : Int)) w := by
  rw [run_index_string w 9 s .i64 (k : Int) Tryd.underlying9, dif_pos ⟨by omega, by omega⟩]
  rfl
/-- Four bytes that were written out. -/
theorem bytes_four (w : World) (a b c d : UInt8) : Bytes (w.alloc (.cells #[.int .u8 (a.toNat : Int), .int .u8 (b.toNat : Int), .int .u8 (c.toNat : Int), .int .u8 (d.toNat : Int)] 5)) (some ⟨w.heap.size, 0, none⟩) 4 [a, b, c, d] := by
  refine ⟨rfl, fun i x hi => ⟨_, rfl, ?_⟩⟩
  match i, hi with
  | 0, hi => simp at hi; subst hi; simp [Addr.add]
  | 1, hi => simp at hi; subst hi; simp [Addr.add]
  | 2, hi => simp at hi; subst hi; simp [Addr.add]
  | 3, hi => simp at hi; subst hi; simp [Addr.add]
  | n + 4, hi => simp at hi
end Go.Proofs.YtecacjddggljgaaDoor
namespace Go.Proofs.YtecacjddggljgaaDoor
open Go.RowKit Go.Sort Go.Shelf
set_option linter.unusedSectionVars false
variable [Inhabited E] [DecidableEq E]
/-- With how many like bytes both begin. -/
def comN : List UInt8 → List UInt8 → Nat
  | a :: x, b :: y => if a = b then comN x y + 1 else 0
  | _, _ => 0
theorem comN_le : ∀ a b : List UInt8, comN a b ≤ a.length ∧ comN a b ≤ b.length
  | [], _ => by simp [comN]
  | _ :: _, [] => by simp [comN]
  | a :: x, b :: y => by
    have := comN_le x y
    rw [comN]
    split <;> simp <;> omega
theorem comN_step (a b : List UInt8) (k : Nat) (h1 : k < a.length) (h2 : k < b.length) : comN (a.drop k) (b.drop k) = if a[k] = b[k] then comN (a.drop (k + 1)) (b.drop (k + 1)) + 1 else 0 := by
  rw [List.drop_eq_getElem_cons h1, List.drop_eq_getElem_cons h2, comN]
theorem comN_end (a b : List UInt8) (k : Nat) (h : a.length ≤ k ∨ b.length ≤ k) : comN (a.drop k) (b.drop k) = 0 := by
  rcases h with h | h
  · rw [List.drop_eq_nil_of_le h]; rfl
  · rw [List.drop_eq_nil_of_le h]; cases a.drop k <;> rfl
theorem strB_at (s : ByteArray) (k : Nat) (h : k < s.size) : (strB s)[k]'(by rw [strB_length]; exact h) = s[k] := rfl
end Go.Proofs.YtecacjddggljgaaDoor

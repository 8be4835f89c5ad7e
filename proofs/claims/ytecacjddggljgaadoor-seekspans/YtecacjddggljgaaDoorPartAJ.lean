/-
  codec's functions, and the document's answers for them: contracts over this translation. What block.common and the document's common answer: contracts over this translation. What block.pressed answers: a contract over this translation.
-/
import Derived.Test.YtecacjddggljgaaDoorPartAI
import Derived.WalkKit
import Derived.WalkSpells
import Derived.WalkLawsBesides
import Derived.Lib.Walk
import Derived.Lib.AppendStr
import Derived.OpenShut
import Derived.Deep.QuietTactic
import Derived.BigQuiet
import Derived.Laws.AppendOwnNone
import Derived.Lib.MinMax
import Derived.Deep.RegionHeld3
namespace Go.Proofs.YtecacjddggljgaaDoor
open Go.RowKit
set_option linter.unusedSectionVars false
variable [Inhabited E] [DecidableEq E]
/-- The four bytes of a number, the highest first. -/
def fixB (v : Nat) : List UInt8 := [UInt8.ofNat (v / 16777216 % 256), UInt8.ofNat (v / 65536 % 256), UInt8.ofNat (v / 256 % 256), UInt8.ofNat (v % 256)]
theorem fix1 (v : Nat) (h : v < 4294967296) : (v : Int) / 16777216 = ((UInt8.ofNat (v / 16777216 % 256)).toNat : Int) := by rw [toNat_ofNat _ (by omega)]; omega
theorem fix2 (v : Nat) : (v : Int) / 65536 % 256 = ((UInt8.ofNat (v / 65536 % 256)).toNat : Int) := by rw [toNat_ofNat _ (by omega)]; omega
theorem fix3 (v : Nat) : (v : Int) / 256 % 256 = ((UInt8.ofNat (v / 256 % 256)).toNat : Int) := by rw [toNat_ofNat _ (by omega)]; omega
theorem fix4 (v : Nat) : (v : Int) % 256 = ((UInt8.ofNat (v % 256)).toNat : Int) := by rw [toNat_ofNat _ (by omega)]; omega
theorem cell_four (w : World) (a b c d : UInt8) : ∀ j u, (cellsOf [a, b, c, d])[j]? = some u →
    (w.alloc (.cells #[.int .u8 (a.toNat : Int), .int .u8 (b.toNat : Int), .int .u8 (c.toNat : Int), .int .u8 (d.toNat : Int)] 5)).cell? ((⟨w.heap.size, 0, none⟩ : Addr).add j) = some u := by
  intro j u hj
  match j, hj with
  | 0, hj => simp [cellsOf] at hj; subst hj; simp [Addr.add]
  | 1, hj => simp [cellsOf] at hj; subst hj; simp [Addr.add]
  | 2, hj => simp [cellsOf] at hj; subst hj; simp [Addr.add]
  | 3, hj => simp [cellsOf] at hj; subst hj; simp [Addr.add]
  | n + 4, hj => simp [cellsOf] at hj
/-- What four bytes tell. -/
def fixOf (bs : List UInt8) : Nat × Bool :=
  if bs.length < 4 then (0, false) else ((bs.getD 0 0).toNat * 16777216 + (bs.getD 1 0).toNat * 65536 + (bs.getD 2 0).toNat * 256 + (bs.getD 3 0).toNat, true)
theorem or_at (k a b : Nat) (h : b < 2 ^ k) : a * 2 ^ k ||| b = a * 2 ^ k + b := by
  have := Nat.two_pow_add_eq_or_of_lt h a
  rw [Nat.mul_comm a, this]
theorem or_four (a b c d : Nat) (ha : a < 256) (hb : b < 256) (hc : c < 256) (hd : d < 256) :
    bits .or .u32 (bits .or .u32 (bits .or .u32 ((a : Int) * 16777216) ((b : Int) * 65536)) ((c : Int) * 256)) (d : Int) = ((a * 16777216 + b * 65536 + c * 256 + d : Nat) : Int) := by
  have e1 := or_at 24 a (b * 65536) (by omega)
  have e2 := or_at 16 (a * 256 + b) (c * 256) (by omega)
  have e3 := or_at 8 (a * 65536 + b * 256 + c) d (by omega)
  simp only [Nat.reducePow] at e1 e2 e3
  rw [show (a * 256 + b) * 65536 = a * 16777216 + b * 65536 from by omega] at e2
  rw [show (a * 65536 + b * 256 + c) * 256 = a * 16777216 + b * 65536 + c * 256 from by omega] at e3
  rw [show ((a : Int) * 16777216) = ((a * 16777216 : Nat) : Int) from by omega, show ((b : Int) * 65536) = ((b * 65536 : Nat) : Int) from by omega, show ((c : Int) * 256) = ((c * 256 : Nat) : Int) from by omega]
  rw [u32_or_nat _ _ (by omega) (by omega), e1, u32_or_nat _ _ (by omega) (by omega), e2, u32_or_nat _ _ (by omega) (by omega), e3]
theorem tup2 {a a' : Int} {p p' : Bool} (h1 : a = a') (h3 : p = p') :
    Ending.returned (.tuple #[.int .u32 a, .bool p]) = .returned (.tuple #[.int .u32 a', .bool p']) := by rw [h1, h3]
theorem fixOf_fixB (v : Nat) (hv : v < 4294967296) (more : List UInt8) : fixOf (fixB v ++ more) = (v, true) := by
  unfold fixOf
  rw [if_neg (by simp [fixB])]
  simp only [fixB, List.cons_append, List.getD_cons_zero, List.getD_cons_succ, Prod.mk.injEq, and_true]
  rw [toNat_ofNat _ (by omega), toNat_ofNat _ (by omega), toNat_ofNat _ (by omega), toNat_ofNat _ (by omega)]
  omega
theorem run_index_at (s : ByteArray) (k : Nat) (h : k < s.size) (w : World) : (Instr.index 9 (.string s) (.int .i64 (k : Int))).run Tryd.prog w = .ok (.int .u8 (s[k].toNat : Int)) w := by
  rw [run_index_string w 9 s .i64 (k : Int) Tryd.underlying9, dif_pos ⟨by omega, by omega⟩]
  rfl
/-- Four bytes that were written out. -/
theorem bytes_four (w : World) (a b c d : UInt8) : Bytes (w.alloc (.cells #[.int .u8 (a.toNat : Int), .int .u8 (b.toNat : Int), .int .u8 (c.toNat : Int), .int .u8 (d.toNat : Int)] 5)) (some ⟨w.heap.size, 0, none⟩) 4 [a, b, c, d] := by
  refine ⟨rfl, fun i x hi => ⟨_, rfl, ?_⟩⟩
  match i, hi with
  | 0, hi => simp at hi; subst hi; simp [Addr.add]
  | 1, hi => simp at hi; subst hi; simp [Addr.add]
  | 2, hi => simp at hi; subst hi; simp [Addr.add]
  | 3, hi => simp at hi; subst hi; simp [Addr.add]
  | n + 4, hi => simp at hi
end Go.Proofs.YtecacjddggljgaaDoor
namespace Go.Proofs.YtecacjddggljgaaDoor
open Go.RowKit Go.Sort Go.Shelf
set_option linter.unusedSectionVars false
variable [Inhabited E] [DecidableEq E]
/-- With how many like bytes both begin. -/
def comN : List UInt8 → List UInt8 → Nat
  | a :: x, b :: y => if a = b then comN x y + 1 else 0
  | _, _ => 0
theorem comN_le : ∀ a b : List UInt8, comN a b ≤ a.length ∧ comN a b ≤ b.length
  | [], _ => by simp [comN]
  | _ :: _, [] => by simp [comN]
  | a :: x, b :: y => by
    have := comN_le x y
    rw [comN]
    split <;> simp <;> omega
theorem comN_step (a b : List UInt8) (k : Nat) (h1 : k < a.length) (h2 : k < b.length) : comN (a.drop k) (b.drop k) = if a[k] = b[k] then comN (a.drop (k + 1)) (b.drop (k + 1)) + 1 else 0 := by
  rw [List.drop_eq_getElem_cons h1, List.drop_eq_getElem_cons h2, comN]
theorem comN_end (a b : List UInt8) (k : Nat) (h : a.length ≤ k ∨ b.length ≤ k) : comN (a.drop k) (b.drop k) = 0 := by
  rcases h with h | h
  · rw [List.drop_eq_nil_of_le h]; rfl
  · rw [List.drop_eq_nil_of_le h]; cases a.drop k <;> rfl
theorem strB_at (s : ByteArray) (k : Nat) (h : k < s.size) : (strB s)[k]'(by rw [strB_length]; exact h) = s[k] := rfl
end Go.Proofs.YtecacjddggljgaaDoor
namespace Go.Proofs.YtecacjddggljgaaDoor
open Go.RowKit Go.Sort Go.Shelf
set_option linter.unusedSectionVars false
variable [Inhabited E] [DecidableEq E]
/-- 'append(own, x)' in a region that draws. -/
theorem step_append_byte {ops : Array Oper} {o : Oper} {a : Act} {K : Act → World → Prop} {Q : Exit → Act → World → Prop} {E : Prop} (w : World)
    (hg : o.guard = none) (s x : Operand) (hop : o.op = Op.call { callee := Callee.builtin Builtin.append, args := #[s, x], argTypes := #[27, 27] })
    (base : Nat) (v : Value) (n : Nat) (bs : List UInt8) (hs : a.eval s = v) (hown : w.ownsRow base 5 1 v n (cellsOf bs)) (hbase : base ≤ w.heap.size)
    (ad : Addr) (c : Nat) (t : UInt8) (hx : a.eval x = .slice (some ad) 1 c) (hc : Bytes w (some ad) 1 [t])
    (hb : n + 1 ≤ 140737488355328)
    (hK : ∀ g cp w', w'.ownsRow base 5 1 (.slice (some ⟨g, 0, none⟩) (n + 1) cp) (n + 1) (cellsOf (bs ++ [t])) → n + 1 ≤ cp → cp ≤ 9223372036854775807 → Below base w w' → K (a.put o.dst (.slice (some ⟨g, 0, none⟩) (n + 1) cp)) w') :
    if Region.wanted o (yielded ops a.tmps) = true then Oper.wp Tryd.prog o a w K Q else E := by
  have hw : Region.wanted o (yielded ops a.tmps) = true := by simp [Region.wanted, hg]
  rw [if_pos hw]
  obtain ⟨i0, hi, hz0, hz1, hz2⟩ := info_parts info5
  refine wp_append_own w s x 27 hop base 5 i0 (.int .u8 0) 1 1 Tryd.underlying27 hi hz0 hz1 hz2 rfl (by decide) v n (cellsOf bs) hs hown ad 1 c (cellsOf [t]) hx rfl ?_ (cellsOf_one [t]) (by unfold maxLen; omega) (by omega) hbase ?_
  · intro j u hu
    obtain ⟨c', hc', rfl⟩ := cellsOf_at hu
    obtain ⟨y, hy, hcell⟩ := hc.2 j c' hc'
    cases hy
    exact hcell
  · intro v' w' h1 h2 _
    obtain ⟨g, cp, rfl, _, _, k3, k4⟩ := own_shape h1 (by omega)
    exact hK g cp w' (by rw [cellsOf_append]; exact h1) k3 k4 ((Below.refl _ _).grown h2 hbase (fun k hk => (hown.lt k hk).1))
/-- An entry's bytes behind one with the key ahead. -/
def pressB (ahead : ByteArray) (e : E) : List UInt8 :=
  (putB (comN (strB ahead) (strB e.key)) ++ textB ((strB e.key).drop (comN (strB ahead) (strB e.key)))) ++ ((if e.del then 1 else 0) :: putB e.seq.toNat ++ (if e.del then [] else textB (strB e.value)))
theorem strB_from (s : ByteArray) (c : Nat) : strB (s.extract c s.size) = (strB s).drop c := by
  have := extract_strB s c (s.size - c)
  by_cases h : c ≤ s.size
  · rw [show c + (s.size - c) = s.size by omega] at this
    rw [this, strB_mk, List.take_of_length_le (by rw [List.length_drop, strB_length]; omega)]
  · rw [List.drop_eq_nil_of_le (by rw [strB_length]; omega)]
    apply List.eq_nil_of_length_eq_zero
    rw [strB_length, ByteArray.size_extract]; omega
end Go.Proofs.YtecacjddggljgaaDoor

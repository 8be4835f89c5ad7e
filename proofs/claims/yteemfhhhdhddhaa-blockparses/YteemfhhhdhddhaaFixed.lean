/-
  codec's functions, and the document's answers for them: contracts over this translation.
-/
import Derived.Test.YteemfhhhdhddhaaRow
import Derived.WalkKit
import Derived.WalkSpells
import Derived.WalkLawsBesides
import Derived.Lib.Walk
import Derived.Lib.AppendStr
import Derived.OpenShut
import Derived.Deep.QuietTactic
import Derived.BigQuiet
import Derived.Laws.AppendOwnNone
import Derived.Lib.MinMax
import Derived.Deep.RegionHeld3
namespace Go.Proofs.Yteemfhhhdhddhaa
open Go.RowKit
set_option linter.unusedSectionVars false
variable [Inhabited E] [DecidableEq E]
/-- The four bytes of a number, the highest first. -/
def fixB (v : Nat) : List UInt8 := [UInt8.ofNat (v / 16777216 % 256), UInt8.ofNat (v / 65536 % 256), UInt8.ofNat (v / 256 % 256), UInt8.ofNat (v % 256)]
theorem fix1 (v : Nat) (h : v < 4294967296) : (v : Int) / 16777216 = ((UInt8.ofNat (v / 16777216 % 256)).toNat : Int) := by rw [toNat_ofNat _ (by omega)]; omega
theorem fix2 (v : Nat) : (v : Int) / 65536 % 256 = ((UInt8.ofNat (v / 65536 % 256)).toNat : Int) := by rw [toNat_ofNat _ (by omega)]; omega
theorem fix3 (v : Nat) : (v : Int) / 256 % 256 = ((UInt8.ofNat (v / 256 % 256)).toNat : Int) := by rw [toNat_ofNat _ (by omega)]; omega
theorem fix4 (v : Nat) : (v : Int) % 256 = ((UInt8.ofNat (v % 256)).toNat : Int) := by rw [toNat_ofNat _ (by omega)]; omega
theorem cell_four (w : World) (a b c d : UInt8) : ∀ j u, (cellsOf [a, b, c, d])[j]? = some u →
    (w.alloc (.cells #[.int .u8 (a.toNat : Int), .int .u8 (b.toNat : Int), .int .u8 (c.toNat : Int), .int .u8 (d.toNat : Int)] 5)).cell? ((⟨w.heap.size, 0, none⟩ : Addr).add j) = some u := by
  intro j u hj
  match j, hj with
  | 0, hj => simp [cellsOf] at hj; subst hj; simp [Addr.add]
  | 1, hj => simp [cellsOf] at hj; subst hj; simp [Addr.add]
  | 2, hj => simp [cellsOf] at hj; subst hj; simp [Addr.add]
  | 3, hj => simp [cellsOf] at hj; subst hj; simp [Addr.add]
  | n + 4, hj => simp [cellsOf] at hj
set_option maxRecDepth 100000 in
set_option maxHeartbeats 400000 in
theorem putFixed_any (ao : Option Addr) (n cap : Nat) (bs : List UInt8) (v : Nat) (w : World) (hn : n ≤ cap) (hcap : cap ≤ 9223372036854775807) (h0 : ao = none → cap = 0) (hb : Bytes w ao n bs) (hv : v < 4294967296) (hbig : n ≤ 140737488355000) :
    Calls Try.prog 58 #[.slice ao n cap, .int .u32 v] w fun e w' => ∃ v', e = .returned v' ∧ w'.ownsRow w.heap.size 5 1 v' (bs ++ fixB v).length (cellsOf (bs ++ fixB v)) ∧ Below w.heap.size w w' := by
  have hbuf : Buf w w.heap.size (.slice ao n n) bs := .inl ⟨ao, by rw [hb.1], by rw [hb.1]; exact hb⟩
  have hbl : bs.length ≤ n := by rw [hb.1]; exact Nat.le_refl _
  clear hb
  go_enter Try.func58, Try.ntmps58
  go_wp2_with fail
  refine (alone_any ao n cap w hn hcap h0).mono ?_
  rintro e w' ⟨rfl, rfl⟩
  clear h0
  go_wp2_with (at_builtin; refine wpList_append_buf _ rfl (.tmp 6) (.tmp 18) rfl w'.heap.size _ bs rfl (hbuf.alloc _) ?hb ⟨w'.heap.size, 0, none⟩ 4 4 (fixB v) rfl rfl (by decide) ?hc ?hlen ?_)
  case hb => simp
  case hc =>
    rw [fix1 v hv, fix2 v, fix3 v, fix4 v]
    exact cell_four w' _ _ _ _
  case hlen => omega
  intro v' w1 hown' hbel'
  have hbelA : Below w'.heap.size w' w1 := ((Below.refl _ _).alloc (Nat.le_refl _) _).trans hbel'
  clear hbuf hbel'
  go_wp2
  go_ret
  exact ⟨v', rfl, by rw [List.length_append]; exact hown', hbelA⟩
/-- What four bytes tell. -/
def fixOf (bs : List UInt8) : Nat × Bool :=
  if bs.length < 4 then (0, false) else ((bs.getD 0 0).toNat * 16777216 + (bs.getD 1 0).toNat * 65536 + (bs.getD 2 0).toNat * 256 + (bs.getD 3 0).toNat, true)
theorem or_at (k a b : Nat) (h : b < 2 ^ k) : a * 2 ^ k ||| b = a * 2 ^ k + b := by
  have := Nat.two_pow_add_eq_or_of_lt h a
  rw [Nat.mul_comm a, this]
theorem or_four (a b c d : Nat) (ha : a < 256) (hb : b < 256) (hc : c < 256) (hd : d < 256) :
    bits .or .u32 (bits .or .u32 (bits .or .u32 ((a : Int) * 16777216) ((b : Int) * 65536)) ((c : Int) * 256)) (d : Int) = ((a * 16777216 + b * 65536 + c * 256 + d : Nat) : Int) := by
  have e1 := or_at 24 a (b * 65536) (by omega)
  have e2 := or_at 16 (a * 256 + b) (c * 256) (by omega)
  have e3 := or_at 8 (a * 65536 + b * 256 + c) d (by omega)
  simp only [Nat.reducePow] at e1 e2 e3
  rw [show (a * 256 + b) * 65536 = a * 16777216 + b * 65536 from by omega] at e2
  rw [show (a * 65536 + b * 256 + c) * 256 = a * 16777216 + b * 65536 + c * 256 from by omega] at e3
  rw [show ((a : Int) * 16777216) = ((a * 16777216 : Nat) : Int) from by omega, show ((b : Int) * 65536) = ((b * 65536 : Nat) : Int) from by omega, show ((c : Int) * 256) = ((c * 256 : Nat) : Int) from by omega]
  rw [u32_or_nat _ _ (by omega) (by omega), e1, u32_or_nat _ _ (by omega) (by omega), e2, u32_or_nat _ _ (by omega) (by omega), e3]
theorem tup2 {a a' : Int} {p p' : Bool} (h1 : a = a') (h3 : p = p') :
    Ending.returned (.tuple #[.int .u32 a, .bool p]) = .returned (.tuple #[.int .u32 a', .bool p']) := by rw [h1, h3]
set_option maxRecDepth 100000 in
set_option maxHeartbeats 400000 in
theorem fixed_no (ao : Option Addr) (len cap : Nat) (w : World) (hlen : len < 4) :
    Calls Try.prog 85 #[.slice ao len cap] w fun e w' => e = .returned (.tuple #[.int .u32 0, .bool false]) ∧ w' = w := by
  have h1 : (len : Int) < 4 := by omega
  go_enter Try.func85, Try.ntmps85
  go_wp2
  go_ret2
  exact ⟨rfl, rfl⟩
set_option maxRecDepth 100000 in
set_option maxHeartbeats 400000 in
theorem fixed_yes (b off : Nat) (len cap : Nat) (c0 c1 c2 c3 : UInt8) (w : World) (hlen : 4 ≤ len) (h0 : w.cell? ⟨b, off, none⟩ = some (.int .u8 c0.toNat)) (h1 : w.cell? ⟨b, off + 1, none⟩ = some (.int .u8 c1.toNat))
    (h2 : w.cell? ⟨b, off + 2, none⟩ = some (.int .u8 c2.toNat)) (h3 : w.cell? ⟨b, off + 3, none⟩ = some (.int .u8 c3.toNat)) :
    Calls Try.prog 85 #[.slice (some ⟨b, off, none⟩) len cap] w fun e w' => e = .returned (.tuple #[.int .u32 ((c0.toNat * 16777216 + c1.toNat * 65536 + c2.toNat * 256 + c3.toNat : Nat) : Int), .bool true]) ∧ Below w.heap.size w w' := by
  have hi0 : (0 : Int) < (len : Int) := by omega
  have hi1 : (1 : Int) < (len : Int) := by omega
  have hi2 : (2 : Int) < (len : Int) := by omega
  have hi3 : (3 : Int) < (len : Int) := by omega
  have hi4 : ¬ ((len : Int) < 4) := by omega
  have b0 := c0.toNat_lt
  have b1 := c1.toNat_lt
  have b2 := c2.toNat_lt
  have b3 := c3.toNat_lt
  go_enter Try.func85, Try.ntmps85
  go_wp2
  go_quiet (fail)
  go_wp2
  go_ret2
  refine ⟨tup2 ?_ rfl, bel_drewN (Below.refl _ _) nq⟩
  exact or_four c0.toNat c1.toNat c2.toNat c3.toNat b0 b1 b2 b3
/-- codec.Fixed, of whatever bytes. -/
theorem fixed_any (ao : Option Addr) (len cap : Nat) (bs : List UInt8) (w : World) (hb : Bytes w ao len bs) :
    Calls Try.prog 85 #[.slice ao len cap] w fun e w' => e = .returned (.tuple #[.int .u32 (fixOf bs).1, .bool (fixOf bs).2]) ∧ Below w.heap.size w w' := by
  have hl := hb.1
  by_cases h4 : len < 4
  · rw [show fixOf bs = (0, false) from by unfold fixOf; rw [if_pos (by omega)]]
    refine (fixed_no ao len cap w h4).mono ?_
    rintro e w' ⟨rfl, rfl⟩
    exact ⟨rfl, Below.refl _ _⟩
  · rw [show fixOf bs = _ from by unfold fixOf; rw [if_neg (by omega)]]
    obtain ⟨b, off, rfl, hc⟩ := bytes_at hb (by omega)
    have g : ∀ k, k < 4 → w.cell? ⟨b, off + k, none⟩ = some (.int .u8 ((bs.getD k 0).toNat : Int)) := fun k hk => by
      rw [hc k (by omega), List.getD_eq_getElem?_getD, List.getElem?_eq_getElem (by omega)]; rfl
    exact fixed_yes b off len cap _ _ _ _ w (by omega) (g 0 (by omega)) (g 1 (by omega)) (g 2 (by omega)) (g 3 (by omega))
theorem fixOf_fixB (v : Nat) (hv : v < 4294967296) (more : List UInt8) : fixOf (fixB v ++ more) = (v, true) := by
  unfold fixOf
  rw [if_neg (by simp [fixB])]
  simp only [fixB, List.cons_append, List.getD_cons_zero, List.getD_cons_succ, Prod.mk.injEq, and_true]
  rw [toNat_ofNat _ (by omega), toNat_ofNat _ (by omega), toNat_ofNat _ (by omega), toNat_ofNat _ (by omega)]
  omega
theorem run_index_at (s : ByteArray) (k : Nat) (h : k < s.size) (w : World) : (Instr.index 9 (.string s) (.int .i64 (k : Int))).run Try.prog w = .ok (.int .u8 (s[k].toNat : Int)) w := by
  rw [run_index_string w 9 s .i64 (k : Int) Try.underlying9, dif_pos ⟨by omega, by omega⟩]
  rfl
set_option maxRecDepth 100000 in
set_option maxHeartbeats 400000 in
theorem refFixed_any (s : ByteArray) (w : World) (hs : s.size ≤ 9223372036854775807) :
    Calls Try.prog 66 #[.string s] w fun e w' => e = .returned (.tuple #[.int .u32 (fixOf (strB s)).1, .bool (fixOf (strB s)).2]) ∧ Below w.heap.size w w' := by
  by_cases h4 : s.size < 4
  · rw [show fixOf (strB s) = (0, false) from by unfold fixOf; rw [if_pos (by rw [strB_length]; omega)]]
    have h1 : (s.size : Int) < 4 := by omega
    go_enter Try.func66, Try.ntmps66
    go_wp2
    go_ret2
    exact ⟨rfl, Below.refl _ _⟩
  · have g : ∀ k (h : k < s.size), (strB s).getD k 0 = s[k] := fun k h => by
      rw [List.getD_eq_getElem?_getD, List.getElem?_eq_getElem (by rw [strB_length]; exact h)]; rfl
    rw [show fixOf (strB s) = ((s[0].toNat * 16777216 + s[1].toNat * 65536 + s[2].toNat * 256 + s[3].toNat), true) from by
      unfold fixOf; rw [if_neg (by rw [strB_length]; omega), g 0 (by omega), g 1 (by omega), g 2 (by omega), g 3 (by omega)]]
    have hx := fun (k : Nat) (h : k < s.size) (w : World) => run_index_at s k h w
    have hx0 : ∀ w : World, (Instr.index 9 (.string s) (.int .i64 0)).run Try.prog w = .ok (.int .u8 (s[0].toNat : Int)) w := fun w => hx 0 (by omega) w
    have hx1 : ∀ w : World, (Instr.index 9 (.string s) (.int .i64 1)).run Try.prog w = .ok (.int .u8 (s[1].toNat : Int)) w := fun w => hx 1 (by omega) w
    have hx2 : ∀ w : World, (Instr.index 9 (.string s) (.int .i64 2)).run Try.prog w = .ok (.int .u8 (s[2].toNat : Int)) w := fun w => hx 2 (by omega) w
    have hx3 : ∀ w : World, (Instr.index 9 (.string s) (.int .i64 3)).run Try.prog w = .ok (.int .u8 (s[3].toNat : Int)) w := fun w => hx 3 (by omega) w
    generalize s[0] = c0 at *
    generalize s[1] = c1 at *
    generalize s[2] = c2 at *
    generalize s[3] = c3 at *
    have hi4 : ¬ ((s.size : Int) < 4) := by omega
    have b0 := c0.toNat_lt
    have b1 := c1.toNat_lt
    have b2 := c2.toNat_lt
    have b3 := c3.toNat_lt
    clear g h4 hx
    go_enter Try.func66, Try.ntmps66
    go_wp2
    go_quiet (fail)
    go_wp2
    go_ret2
    refine ⟨tup2 ?_ rfl, bel_drewN (Below.refl _ _) nq⟩
    exact or_four c0.toNat c1.toNat c2.toNat c3.toNat b0 b1 b2 b3
/-- Four bytes that were written out. -/
theorem bytes_four (w : World) (a b c d : UInt8) : Bytes (w.alloc (.cells #[.int .u8 (a.toNat : Int), .int .u8 (b.toNat : Int), .int .u8 (c.toNat : Int), .int .u8 (d.toNat : Int)] 5)) (some ⟨w.heap.size, 0, none⟩) 4 [a, b, c, d] := by
  refine ⟨rfl, fun i x hi => ⟨_, rfl, ?_⟩⟩
  match i, hi with
  | 0, hi => simp at hi; subst hi; simp [Addr.add]
  | 1, hi => simp at hi; subst hi; simp [Addr.add]
  | 2, hi => simp at hi; subst hi; simp [Addr.add]
  | 3, hi => simp at hi; subst hi; simp [Addr.add]
  | n + 4, hi => simp at hi
set_option maxRecDepth 100000 in
set_option maxHeartbeats 400000 in
theorem refPutFixed_any (s : ByteArray) (v : Nat) (w : World) (hs : s.size ≤ 4611686018427387904) (hv : v < 4294967296) :
    Calls Try.prog 62 #[.string s, .int .u32 v] w fun e w' => e = .returned (.string ⟨(strB s ++ fixB v).toArray⟩) ∧ Below w.heap.size w w' := by
  have hcv := str_bytes 4 (bytes_four w (UInt8.ofNat (v / 16777216 % 256)) (UInt8.ofNat (v / 65536 % 256)) (UInt8.ofNat (v / 256 % 256)) (UInt8.ofNat (v % 256)))
  rw [← fix1 v hv, ← fix2 v, ← fix3 v, ← fix4 v] at hcv
  have hqs : (⟨(fixB v).toArray⟩ : ByteArray).size ≤ 4 := by show (fixB v).toArray.size ≤ _; rw [List.size_toArray]; exact Nat.le_refl _
  have HQ : Hid (s ++ ⟨(fixB v).toArray⟩ = ⟨(strB s ++ fixB v).toArray⟩) := by
    have h := ByteArray.mk_append_mk (strB s) (fixB v)
    rw [← str_mk s] at h
    exact h
  have hcv2 : (convert 24 9 (.slice (some ⟨w.heap.size, 0, none⟩) 4 4)).run Try.prog (w.alloc (.cells #[.int .u8 ((v : Int) / 16777216), .int .u8 ((v : Int) / 65536 % 256), .int .u8 ((v : Int) / 256 % 256), .int .u8 ((v : Int) % 256)] 5)) = .ok (.string ⟨(fixB v).toArray⟩) (w.alloc (.cells #[.int .u8 ((v : Int) / 16777216), .int .u8 ((v : Int) / 65536 % 256), .int .u8 ((v : Int) / 256 % 256), .int .u8 ((v : Int) % 256)] 5)) := hcv
  clear hcv
  generalize (⟨(fixB v).toArray⟩ : ByteArray) = q at *
  go_enter Try.func62, Try.ntmps62
  go_wp2
  go_ret
  exact ⟨by rw [← HQ.out]; rfl, (Below.refl _ _).alloc (Nat.le_refl _) _⟩
theorem putFixed_shape (ao : Option Addr) (n cap : Nat) (bs : List UInt8) (v : Nat) (m : Nat) (hm : (bs ++ fixB v).length = m) (w : World) (hn : n ≤ cap) (hcap : cap ≤ 9223372036854775807) (h0 : ao = none → cap = 0) (hb : Bytes w ao n bs) (hv : v < 4294967296) (hbig : n ≤ 140737488355000) :
    Calls Try.prog 58 #[.slice ao n cap, .int .u32 v] w fun e w' => ∃ g c, e = .returned (.slice (some ⟨g, 0, none⟩) m c) ∧ Bytes w' (some ⟨g, 0, none⟩) m (bs ++ fixB v) ∧ Below w.heap.size w w' := by
  refine (putFixed_any ao n cap bs v w hn hcap h0 hb hv hbig).mono ?_
  rintro e w' ⟨v', rfl, hown, hbel⟩
  rw [hm] at hown
  obtain ⟨g, c, rfl, h1, h2, h3, h4⟩ := own_shape hown (by rw [← hm, List.length_append, fixB]; simp)
  obtain ⟨ao', c', he, hb', _⟩ := own_bytes hown
  cases he
  exact ⟨g, c, rfl, hb', hbel⟩
end Go.Proofs.Yteemfhhhdhddhaa

/-
  codec's functions, and the document's answers for them: contracts over this translation. What block.common and the document's common answer: contracts over this translation. What block.pressed answers: a contract over this translation. What block.Bytes answers: a contract over this translation.
-/
import Derived.Test.YtcgjhopfdpaocaaDoorPartAG
import Derived.WalkKit
import Derived.WalkSpells
import Derived.WalkLawsBesides
import Derived.Lib.Walk
import Derived.Lib.AppendStr
import Derived.OpenShut
import Derived.Deep.QuietTactic
import Derived.BigQuiet
import Derived.Laws.AppendOwnNone
import Derived.Lib.MinMax
import Derived.Deep.RegionHeld3
namespace Go.Proofs.YtcgjhopfdpaocaaDoor
open Go.RowKit
set_option linter.unusedSectionVars false
variable [Inhabited E] [DecidableEq E]
/-- The four bytes of a number, the highest first. -/
def fixB (v : Nat) : List UInt8 := [UInt8.ofNat (v / 16777216 % 256), UInt8.ofNat (v / 65536 % 256), UInt8.ofNat (v / 256 % 256), UInt8.ofNat (v % 256)]
theorem fix1 (v : Nat) (h : v < 4294967296) : (v : Int) / 16777216 = ((UInt8.ofNat (v / 16777216 % 256)).toNat : Int) := by rw [toNat_ofNat _ (by omega)]; omega
theorem fix2 (v : Nat) : (v : Int) / 65536 % 256 = ((UInt8.ofNat (v / 65536 % 256)).toNat : Int) := by rw [toNat_ofNat _ (by omega)]; omega
theorem fix3 (v : Nat) : (v : Int) / 256 % 256 = ((UInt8.ofNat (v / 256 % 256)).toNat : Int) := by rw [toNat_ofNat _ (by omega)]; omega
theorem fix4 (v : Nat) : (v : Int) % 256 = ((UInt8.ofNat (v % 256)).toNat : Int) := by rw [toNat_ofNat _ (by omega)]; omega
theorem cell_four (w : World) (a b c d : UInt8) : ∀ j u, (cellsOf [a, b, c, d])[j]? = some u →
    (w.alloc (.cells #[.int .u8 (a.toNat : Int), .int .u8 (b.toNat : Int), .int .u8 (c.toNat : Int), .int .u8 (d.toNat : Int)] 5)).cell? ((⟨w.heap.size, 0, none⟩ : Addr).add j) = some u := by
  intro j u hj
  match j, hj with
  | 0, hj => simp [cellsOf] at hj; subst hj; simp [Addr.add]
  | 1, hj => simp [cellsOf] at hj; subst hj; simp [Addr.add]
  | 2, hj => simp [cellsOf] at hj; subst hj; simp [Addr.add]
  | 3, hj => simp [cellsOf] at hj; subst hj; simp [Addr.add]
  | n + 4, hj => simp [cellsOf] at hj
set_option maxRecDepth 100000 in
set_option maxHeartbeats 400000 in
theorem putFixed_any (ao : Option Addr) (n cap : Nat) (bs : List UInt8) (v : Nat) (w : World) (hn : n ≤ cap) (hcap : cap ≤ 9223372036854775807) (h0 : ao = none → cap = 0) (hb : Bytes w ao n bs) (hv : v < 4294967296) (hbig : n ≤ 140737488355000) :
    Calls Tryd.prog 34 #[.slice ao n cap, .int .u32 v] w fun e w' => ∃ v', e = .returned v' ∧ w'.ownsRow w.heap.size 5 1 v' (bs ++ fixB v).length (cellsOf (bs ++ fixB v)) ∧ Below w.heap.size w w' := by
  have hbuf : Buf w w.heap.size (.slice ao n n) bs := .inl ⟨ao, by rw [hb.1], by rw [hb.1]; exact hb⟩
  have hbl : bs.length ≤ n := by rw [hb.1]; exact Nat.le_refl _
  clear hb
  go_enter Tryd.func34, Tryd.ntmps34
  go_wp2_with fail
  refine (alone_any ao n cap w hn hcap h0).mono ?_
  rintro e w' ⟨rfl, rfl⟩
  clear h0
  go_wp2_with (at_builtin; refine wpList_append_buf _ rfl (.tmp 6) (.tmp 18) rfl w'.heap.size _ bs rfl (hbuf.alloc _) ?hb ⟨w'.heap.size, 0, none⟩ 4 4 (fixB v) rfl rfl (by decide) ?hc ?hlen ?_)
  case hb => simp
  case hc =>
    rw [fix1 v hv, fix2 v, fix3 v, fix4 v]
    exact cell_four w' _ _ _ _
  case hlen => omega
  intro v' w1 hown' hbel'
  have hbelA : Below w'.heap.size w' w1 := ((Below.refl _ _).alloc (Nat.le_refl _) _).trans hbel'
  clear hbuf hbel'
  go_wp2
  go_ret
  exact ⟨v', rfl, by rw [List.length_append]; exact hown', hbelA⟩
/-- What four bytes tell. -/
def fixOf (bs : List UInt8) : Nat × Bool :=
  if bs.length < 4 then (0, false) else ((bs.getD 0 0).toNat * 16777216 + (bs.getD 1 0).toNat * 65536 + (bs.getD 2 0).toNat * 256 + (bs.getD 3 0).toNat, true)
theorem or_at (k a b : Nat) (h : b < 2 ^ k) : a * 2 ^ k ||| b = a * 2 ^ k + b := by
  have := Nat.two_pow_add_eq_or_of_lt h a
  rw [Nat.mul_comm a, this]
theorem or_four (a b c d : Nat) (ha : a < 256) (hb : b < 256) (hc : c < 256) (hd : d < 256) :
    bits .or .u32 (bits .or .u32 (bits .or .u32 ((a : Int) * 16777216) ((b : Int) * 65536)) ((c : Int) * 256)) (d : Int) = ((a * 16777216 + b * 65536 + c * 256 + d : Nat) : Int) := by
  have e1 := or_at 24 a (b * 65536) (by omega)
  have e2 := or_at 16 (a * 256 + b) (c * 256) (by omega)
  have e3 := or_at 8 (a * 65536 + b * 256 + c) d (by omega)
  simp only [Nat.reducePow] at e1 e2 e3
  rw [show (a * 256 + b) * 65536 = a * 16777216 + b * 65536 from by omega] at e2
  rw [show (a * 65536 + b * 256 + c) * 256 = a * 16777216 + b * 65536 + c * 256 from by omega] at e3
  rw [show ((a : Int) * 16777216) = ((a * 16777216 : Nat) : Int) from by omega, show ((b : Int) * 65536) = ((b * 65536 : Nat) : Int) from by omega, show ((c : Int) * 256) = ((c * 256 : Nat) : Int) from by omega]
  rw [u32_or_nat _ _ (by omega) (by omega), e1, u32_or_nat _ _ (by omega) (by omega), e2, u32_or_nat _ _ (by omega) (by omega), e3]
theorem tup2 {a a' : Int} {p p' : Bool} (h1 : a = a') (h3 : p = p') :
    Ending.returned (.tuple #[.int .u32 a, .bool p]) = .returned (.tuple #[.int .u32 a', .bool p']) := by rw [h1, h3]
set_option maxRecDepth 100000 in
set_option maxHeartbeats 400000 in
theorem fixed_no (ao : Option Addr) (len cap : Nat) (w : World) (hlen : len < 4) :
    Calls Tryd.prog 101 #[.slice ao len cap] w fun e w' => e = .returned (.tuple #[.int .u32 0, .bool false]) ∧ w' = w := by
  have h1 : (len : Int) < 4 := by omega
  go_enter Tryd.func101, Tryd.ntmps101
  go_wp2
  go_ret2
  exact ⟨rfl, rfl⟩
set_option maxRecDepth 100000 in
set_option maxHeartbeats 400000 in
theorem fixed_yes (b off : Nat) (len cap : Nat) (c0 c1 c2 c3 : UInt8) (w : World) (hlen : 4 ≤ len) (h0 : w.cell? ⟨b, off, none⟩ = some (.int .u8 c0.toNat)) (h1 : w.cell? ⟨b, off + 1, none⟩ = some (.int .u8 c1.toNat))
    (h2 : w.cell? ⟨b, off + 2, none⟩ = some (.int .u8 c2.toNat)) (h3 : w.cell? ⟨b, off + 3, none⟩ = some (.int .u8 c3.toNat)) :
    Calls Tryd.prog 101 #[.slice (some ⟨b, off, none⟩) len cap] w fun e w' => e = .returned (.tuple #[.int .u32 ((c0.toNat * 16777216 + c1.toNat * 65536 + c2.toNat * 256 + c3.toNat : Nat) : Int), .bool true]) ∧ Below w.heap.size w w' := by
  have hi0 : (0 : Int) < (len : Int) := by omega
  have hi1 : (1 : Int) < (len : Int) := by omega
  have hi2 : (2 : Int) < (len : Int) := by omega
  have hi3 : (3 : Int) < (len : Int) := by omega
  have hi4 : ¬ ((len : Int) < 4) := by omega
  have b0 := c0.toNat_lt
  have b1 := c1.toNat_lt
  have b2 := c2.toNat_lt
  have b3 := c3.toNat_lt
  go_enter Tryd.func101, Tryd.ntmps101
  go_wp2
  go_quiet (fail)
  go_wp2
  go_ret2
  refine ⟨tup2 ?_ rfl, bel_drewN (Below.refl _ _) nq⟩
  exact or_four c0.toNat c1.toNat c2.toNat c3.toNat b0 b1 b2 b3
/-- codec.Fixed, of whatever bytes. -/
theorem fixed_any (ao : Option Addr) (len cap : Nat) (bs : List UInt8) (w : World) (hb : Bytes w ao len bs) :
    Calls Tryd.prog 101 #[.slice ao len cap] w fun e w' => e = .returned (.tuple #[.int .u32 (fixOf bs).1, .bool (fixOf bs).2]) ∧ Below w.heap.size w w' := by
  have hl := hb.1
  by_cases h4 : len < 4
  · rw [show fixOf bs = (0, false) from by unfold fixOf; rw [if_pos (by omega)]]
    refine (fixed_no ao len cap w h4).mono ?_
    rintro e w' ⟨rfl, rfl⟩
    exact ⟨rfl, Below.refl _ _⟩
  · rw [show fixOf bs = _ from by unfold fixOf; rw [if_neg (by omega)]]
    obtain ⟨b, off, rfl, hc⟩ := bytes_at hb (by omega)
    have g : ∀ k, k < 4 → w.cell? ⟨b, off + k, none⟩ = some (.int .u8 ((bs.getD k 0).toNat : Int)) := fun k hk => by
      rw [hc k (by omega), List.getD_eq_getElem?_getD, List.getElem?_eq_getElem (by omega)]; rfl
    exact fixed_yes b off len cap _ _ _ _ w (by omega) (g 0 (by omega)) (g 1 (by omega)) (g 2 (by omega)) (g 3 (by omega))
theorem fixOf_fixB (v : Nat) (hv : v < 4294967296) (more : List UInt8) : fixOf (fixB v ++ more) = (v, true) := by
  unfold fixOf
  rw [if_neg (by simp [fixB])]
  simp only [fixB, List.cons_append, List.getD_cons_zero, List.getD_cons_succ, Prod.mk.injEq, and_true]
  rw [toNat_ofNat _ (by omega), toNat_ofNat _ (by omega), toNat_ofNat _ (by omega), toNat_ofNat _ (by omega)]
  omega
theorem run_index_at (s : ByteArray) (k : Nat) (h : k < s.size) (w : World) : (Instr.index 9 (.string s) (.int .i64 (k : Int))).run Tryd.prog w = .ok (.int .u8 (s[k].toNat : Int)) w := by
  rw [run_index_string w 9 s .i64 (k : Int) Tryd.underlying9, dif_pos ⟨by omega, by omega⟩]
  rfl
set_option maxRecDepth 100000 in
set_option maxHeartbeats 400000 in
theorem refFixed_any (s : ByteArray) (w : World) (hs : s.size ≤ 9223372036854775807) :
    Calls Tryd.prog 47 #[.string s] w fun e w' => e = .returned (.tuple #[.int .u32 (fixOf (strB s)).1, .bool (fixOf (strB s)).2]) ∧ Below w.heap.size w w' := by
  by_cases h4 : s.size < 4
  · rw [show fixOf (strB s) = (0, false) from by unfold fixOf; rw [if_pos (by rw [strB_length]; omega)]]
    have h1 : (s.size : Int) < 4 := by omega
    go_enter Tryd.func47, Tryd.ntmps47
    go_wp2
    go_ret2
    exact ⟨rfl, Below.refl _ _⟩
  · have g : ∀ k (h : k < s.size), (strB s).getD k 0 = s[k] := fun k h => by
      rw [List.getD_eq_getElem?_getD, List.getElem?_eq_getElem (by rw [strB_length]; exact h)]; rfl
    rw [show fixOf (strB s) = ((s[0].toNat * 16777216 + s[1].toNat * 65536 + s[2].toNat * 256 + s[3].toNat), true) from by
      unfold fixOf; rw [if_neg (by rw [strB_length]; omega), g 0 (by omega), g 1 (by omega), g 2 (by omega), g 3 (by omega)]]
    have hx := fun (k : Nat) (h : k < s.size) (w : World) => run_index_at s k h w
    have hx0 : ∀ w : World, (Instr.index 9 (.string s) (.int .i64 0)).run Tryd.prog w = .ok (.int .u8 (s[0].toNat : Int)) w := fun w => hx 0 (by omega) w
    have hx1 : ∀ w : World, (Instr.index 9 (.string s) (.int .i64 1)).run Tryd.prog w = .ok (.int .u8 (s[1].toNat : Int)) w := fun w => hx 1 (by omega) w
    have hx2 : ∀ w : World, (Instr.index 9 (.string s) (.int .i64 2)).run Tryd.prog w = .ok (.int .u8 (s[2].toNat : Int)) w := fun w => hx 2 (by omega) w
    have hx3 : ∀ w : World, (Instr.index 9 (.string s) (.int .i64 3)).run Tryd.prog w = .ok (.int .u8 (s[3].toNat : Int)) w := fun w => hx 3 (by omega) w
    generalize s[0] = c0 at *
    generalize s[1] = c1 at *
    generalize s[2] = c2 at *
    generalize s[3] = c3 at *
    have hi4 : ¬ ((s.size : Int) < 4) := by omega
    have b0 := c0.toNat_lt
    have b1 := c1.toNat_lt
    have b2 := c2.toNat_lt
    have b3 := c3.toNat_lt
    clear g h4 hx
    go_enter Tryd.func47, Tryd.ntmps47
    go_wp2
    go_quiet (fail)
    go_wp2
    go_ret2
    refine ⟨tup2 ?_ rfl, bel_drewN (Below.refl _ _) nq⟩
    exact or_four c0.toNat c1.toNat c2.toNat c3.toNat b0 b1 b2 b3
/-- Four bytes that were written out. -/
theorem bytes_four (w : World) (a b c d : UInt8) : Bytes (w.alloc (.cells #[.int .u8 (a.toNat : Int), .int .u8 (b.toNat : Int), .int .u8 (c.toNat : Int), .int .u8 (d.toNat : Int)] 5)) (some ⟨w.heap.size, 0, none⟩) 4 [a, b, c, d] := by
  refine ⟨rfl, fun i x hi => ⟨_, rfl, ?_⟩⟩
  match i, hi with
  | 0, hi => simp at hi; subst hi; simp [Addr.add]
  | 1, hi => simp at hi; subst hi; simp [Addr.add]
  | 2, hi => simp at hi; subst hi; simp [Addr.add]
  | 3, hi => simp at hi; subst hi; simp [Addr.add]
  | n + 4, hi => simp at hi
set_option maxRecDepth 100000 in
set_option maxHeartbeats 400000 in
theorem refPutFixed_any (s : ByteArray) (v : Nat) (w : World) (hs : s.size ≤ 4611686018427387904) (hv : v < 4294967296) :
    Calls Tryd.prog 39 #[.string s, .int .u32 v] w fun e w' => e = .returned (.string ⟨(strB s ++ fixB v).toArray⟩) ∧ Below w.heap.size w w' := by
  have hcv := str_bytes 4 (bytes_four w (UInt8.ofNat (v / 16777216 % 256)) (UInt8.ofNat (v / 65536 % 256)) (UInt8.ofNat (v / 256 % 256)) (UInt8.ofNat (v % 256)))
  rw [← fix1 v hv, ← fix2 v, ← fix3 v, ← fix4 v] at hcv
  have hqs : (⟨(fixB v).toArray⟩ : ByteArray).size ≤ 4 := by show (fixB v).toArray.size ≤ _; rw [List.size_toArray]; exact Nat.le_refl _
  have HQ : Hid (s ++ ⟨(fixB v).toArray⟩ = ⟨(strB s ++ fixB v).toArray⟩) := by
    have h := ByteArray.mk_append_mk (strB s) (fixB v)
    rw [← str_mk s] at h
    exact h
  have hcv2 : (convert 25 9 (.slice (some ⟨w.heap.size, 0, none⟩) 4 4)).run Tryd.prog (w.alloc (.cells #[.int .u8 ((v : Int) / 16777216), .int .u8 ((v : Int) / 65536 % 256), .int .u8 ((v : Int) / 256 % 256), .int .u8 ((v : Int) % 256)] 5)) = .ok (.string ⟨(fixB v).toArray⟩) (w.alloc (.cells #[.int .u8 ((v : Int) / 16777216), .int .u8 ((v : Int) / 65536 % 256), .int .u8 ((v : Int) / 256 % 256), .int .u8 ((v : Int) % 256)] 5)) := hcv
  clear hcv
  generalize (⟨(fixB v).toArray⟩ : ByteArray) = q at *
  go_enter Tryd.func39, Tryd.ntmps39
  go_wp2
  go_ret
  exact ⟨by rw [← HQ.out]; rfl, (Below.refl _ _).alloc (Nat.le_refl _) _⟩
theorem putFixed_shape (ao : Option Addr) (n cap : Nat) (bs : List UInt8) (v : Nat) (m : Nat) (hm : (bs ++ fixB v).length = m) (w : World) (hn : n ≤ cap) (hcap : cap ≤ 9223372036854775807) (h0 : ao = none → cap = 0) (hb : Bytes w ao n bs) (hv : v < 4294967296) (hbig : n ≤ 140737488355000) :
    Calls Tryd.prog 34 #[.slice ao n cap, .int .u32 v] w fun e w' => ∃ g c, e = .returned (.slice (some ⟨g, 0, none⟩) m c) ∧ Bytes w' (some ⟨g, 0, none⟩) m (bs ++ fixB v) ∧ Below w.heap.size w w' := by
  refine (putFixed_any ao n cap bs v w hn hcap h0 hb hv hbig).mono ?_
  rintro e w' ⟨v', rfl, hown, hbel⟩
  rw [hm] at hown
  obtain ⟨g, c, rfl, h1, h2, h3, h4⟩ := own_shape hown (by rw [← hm, List.length_append, fixB]; simp)
  obtain ⟨ao', c', he, hb', _⟩ := own_bytes hown
  cases he
  exact ⟨g, c, rfl, hb', hbel⟩
end Go.Proofs.YtcgjhopfdpaocaaDoor
namespace Go.Proofs.YtcgjhopfdpaocaaDoor
open Go.RowKit Go.Sort Go.Shelf
set_option linter.unusedSectionVars false
variable [Inhabited E] [DecidableEq E]
/-- With how many like bytes both begin. -/
def comN : List UInt8 → List UInt8 → Nat
  | a :: x, b :: y => if a = b then comN x y + 1 else 0
  | _, _ => 0
theorem comN_le : ∀ a b : List UInt8, comN a b ≤ a.length ∧ comN a b ≤ b.length
  | [], _ => by simp [comN]
  | _ :: _, [] => by simp [comN]
  | a :: x, b :: y => by
    have := comN_le x y
    rw [comN]
    split <;> simp <;> omega
theorem comN_step (a b : List UInt8) (k : Nat) (h1 : k < a.length) (h2 : k < b.length) : comN (a.drop k) (b.drop k) = if a[k] = b[k] then comN (a.drop (k + 1)) (b.drop (k + 1)) + 1 else 0 := by
  rw [List.drop_eq_getElem_cons h1, List.drop_eq_getElem_cons h2, comN]
theorem comN_end (a b : List UInt8) (k : Nat) (h : a.length ≤ k ∨ b.length ≤ k) : comN (a.drop k) (b.drop k) = 0 := by
  rcases h with h | h
  · rw [List.drop_eq_nil_of_le h]; rfl
  · rw [List.drop_eq_nil_of_le h]; cases a.drop k <;> rfl
theorem strB_at (s : ByteArray) (k : Nat) (h : k < s.size) : (strB s)[k]'(by rw [strB_length]; exact h) = s[k] := rfl
set_option maxRecDepth 100000 in
set_option maxHeartbeats 2000000 in
theorem common_any (s t : ByteArray) (w : World) (hs : s.size ≤ 9223372036854775807) :
    Calls Tryd.prog 80 #[.string s, .string t] w fun e w' => e = .returned (.int .i64 (comN (strB s) (strB t) : Nat)) ∧ Below w.heap.size w w' := by
  obtain ⟨r, HR⟩ : ∃ r, Hid (comN (strB s) (strB t) = r) := ⟨_, rfl⟩
  rw [HR.out]
  go_enter Tryd.func80, Tryd.ntmps80
  go_wp2
  go_loopw [5] (fun x wr => ∃ k : Nat, x = .int .i64 k ∧ k ≤ s.size ∧ Hid (r = k + comN ((strB s).drop k) ((strB t).drop k)) ∧ Below w.heap.size w wr) (fun x _ => s.size - (intOf x).toNat)
  case atStart => exact ⟨0, rfl, by omega, (by show _ = _; rw [← HR.out]; simp), Below.refl _ _⟩
  case round =>
    obtain ⟨k, rfl, hks, HK, hbel⟩ := hrel
    have HB : Hid _ := hbel
    clear hbel
    by_cases h1 : k < s.size
    · have h1z : (k : Int) < (s.size : Int) := by omega
      have d1 : decide ((k : Int) < (s.size : Int)) = true := decide_eq_true h1z
      by_cases h2 : k < t.size
      · have h2z : (k : Int) < (t.size : Int) := by omega
        have d2 : decide ((k : Int) < (t.size : Int)) = true := decide_eq_true h2z
        have hst := comN_step (strB s) (strB t) k (by rw [strB_length]; exact h1) (by rw [strB_length]; exact h2)
        rw [strB_at s k h1, strB_at t k h2] at hst
        by_cases h3 : s[k] = t[k]
        · have e3 : ((s[k].toNat : Int) == (t[k].toNat : Int)) = true := by simp [h3]
          have HZ : Hid (r = (k + 1) + comN ((strB s).drop (k + 1)) ((strB t).drop (k + 1))) := by show _ = _; rw [HK.out, hst, if_pos h3]; omega
          clear hst h3
          go_wp2_with fail
          go_quiet (fail)
          go_wp2
          go_roundw
          case rel => exact ⟨k + 1, by go_num, by omega, HZ, bel_drewN HB.out nq⟩
          case measure => simp [intOf]; omega
        · have e3 : ((s[k].toNat : Int) == (t[k].toNat : Int)) = false := by
            simp only [beq_eq_false_iff_ne, ne_eq]
            intro h
            exact h3 (UInt8.toNat_inj.1 (by omega))
          have HZ : Hid (r = k) := by show _ = _; rw [HK.out, hst, if_neg h3]; rfl
          clear hst h3
          go_wp2_with fail
          go_quiet (fail)
          go_wp2
          go_ret
          exact ⟨by rw [HZ.out]; rfl, bel_drewN HB.out nq⟩
      · have d2 : decide ((k : Int) < (t.size : Int)) = false := decide_eq_false (by omega)
        have h2z : ¬ (k : Int) < (t.size : Int) := by omega
        have HZ : Hid (r = k) := by show _ = _; rw [HK.out, comN_end _ _ _ (.inr (by rw [strB_length]; omega))]; rfl
        go_wp2_with fail
        go_quiet (fail)
        go_wp2
        go_ret
        exact ⟨by rw [HZ.out]; rfl, bel_drewN HB.out nq⟩
    · have d1 : decide ((k : Int) < (s.size : Int)) = false := decide_eq_false (by omega)
      have h1z : ¬ (k : Int) < (s.size : Int) := by omega
      have HZ : Hid (r = k) := by show _ = _; rw [HK.out, comN_end _ _ _ (.inl (by rw [strB_length]; omega))]; rfl
      go_wp2_with fail
      go_quiet (fail)
      go_wp2
      go_ret
      exact ⟨by rw [HZ.out]; rfl, bel_drewN HB.out nq⟩
end Go.Proofs.YtcgjhopfdpaocaaDoor
namespace Go.Proofs.YtcgjhopfdpaocaaDoor
open Go.RowKit Go.Sort Go.Shelf
set_option linter.unusedSectionVars false
variable [Inhabited E] [DecidableEq E]
/-- 'append(own, x)' in a region that draws. -/
theorem step_append_byte {ops : Array Oper} {o : Oper} {a : Act} {K : Act → World → Prop} {Q : Exit → Act → World → Prop} {E : Prop} (w : World)
    (hg : o.guard = none) (s x : Operand) (hop : o.op = Op.call { callee := Callee.builtin Builtin.append, args := #[s, x], argTypes := #[25, 25] })
    (base : Nat) (v : Value) (n : Nat) (bs : List UInt8) (hs : a.eval s = v) (hown : w.ownsRow base 5 1 v n (cellsOf bs)) (hbase : base ≤ w.heap.size)
    (ad : Addr) (c : Nat) (t : UInt8) (hx : a.eval x = .slice (some ad) 1 c) (hc : Bytes w (some ad) 1 [t])
    (hb : n + 1 ≤ 140737488355328)
    (hK : ∀ g cp w', w'.ownsRow base 5 1 (.slice (some ⟨g, 0, none⟩) (n + 1) cp) (n + 1) (cellsOf (bs ++ [t])) → n + 1 ≤ cp → cp ≤ 9223372036854775807 → Below base w w' → K (a.put o.dst (.slice (some ⟨g, 0, none⟩) (n + 1) cp)) w') :
    if Region.wanted o (yielded ops a.tmps) = true then Oper.wp Tryd.prog o a w K Q else E := by
  have hw : Region.wanted o (yielded ops a.tmps) = true := by simp [Region.wanted, hg]
  rw [if_pos hw]
  obtain ⟨i0, hi, hz0, hz1, hz2⟩ := info_parts info5
  refine wp_append_own w s x 25 hop base 5 i0 (.int .u8 0) 1 1 Tryd.underlying25 hi hz0 hz1 hz2 rfl (by decide) v n (cellsOf bs) hs hown ad 1 c (cellsOf [t]) hx rfl ?_ (cellsOf_one [t]) (by unfold maxLen; omega) (by omega) hbase ?_
  · intro j u hu
    obtain ⟨c', hc', rfl⟩ := cellsOf_at hu
    obtain ⟨y, hy, hcell⟩ := hc.2 j c' hc'
    cases hy
    exact hcell
  · intro v' w' h1 h2 _
    obtain ⟨g, cp, rfl, _, _, k3, k4⟩ := own_shape h1 (by omega)
    exact hK g cp w' (by rw [cellsOf_append]; exact h1) k3 k4 ((Below.refl _ _).grown h2 hbase (fun k hk => (hown.lt k hk).1))
/-- An entry's bytes behind one with the key ahead. -/
def pressB (ahead : ByteArray) (e : E) : List UInt8 :=
  (putB (comN (strB ahead) (strB e.key)) ++ textB ((strB e.key).drop (comN (strB ahead) (strB e.key)))) ++ ((if e.del then 1 else 0) :: putB e.seq.toNat ++ (if e.del then [] else textB (strB e.value)))
theorem strB_from (s : ByteArray) (c : Nat) : strB (s.extract c s.size) = (strB s).drop c := by
  have := extract_strB s c (s.size - c)
  by_cases h : c ≤ s.size
  · rw [show c + (s.size - c) = s.size by omega] at this
    rw [this, strB_mk, List.take_of_length_le (by rw [List.length_drop, strB_length]; omega)]
  · rw [List.drop_eq_nil_of_le (by rw [strB_length]; omega)]
    apply List.eq_nil_of_length_eq_zero
    rw [strB_length, ByteArray.size_extract]; omega
set_option maxRecDepth 100000 in
set_option maxHeartbeats 4000000 in
theorem pressed_any (ah k v : ByteArray) (d : Bool) (q : Int) (w : World) (hr : rightB ⟨k, v, d, q⟩ = true) (ha : ah.size ≤ 128) :
    Calls Tryd.prog 59 #[.string ah, .agg #[.string k, .string v, .bool d, .int .i64 q]] w fun e w' => ∃ v', e = .returned v' ∧ w'.ownsRow w.heap.size 5 1 v' (pressB ah ⟨k, v, d, q⟩).length (cellsOf (pressB ah ⟨k, v, d, q⟩)) ∧ Below w.heap.size w w' := by
  obtain ⟨h1, h2, qn, h3, h4, h5⟩ := right_parts hr
  simp only at h1 h2 h3
  subst h3
  clear hr
  have hwr : IntKind.u64.wrap (qn : Int) = qn := by rw [IntKind.wrap_u64]; omega
  obtain ⟨out, HOUT⟩ : ∃ o, Hid (pressB ah ⟨k, v, d, (qn : Int)⟩ = o) := ⟨_, rfl⟩
  rw [HOUT.out]
  have hcl := comN_le (strB ah) (strB k)
  have CC := fun w => common_any ah k w (by omega)
  obtain ⟨c, HC⟩ : ∃ c, Hid (comN (strB ah) (strB k) = c) := ⟨_, rfl⟩
  rw [HC.out] at CC hcl
  rw [strB_length, strB_length] at hcl
  have HCC : Hid _ := CC
  clear CC
  have hck : c ≤ k.size := hcl.2
  have hcwr : IntKind.u64.wrap (c : Int) = c := by rw [IntKind.wrap_u64]; omega
  clear hcl
  go_enter Tryd.func59, Tryd.ntmps59
  go_wp2_with fail
  refine (HCC.out _).mono ?_
  rintro e w1 ⟨rfl, hbel⟩
  have hblk : w1.heap[w.heap.size]? = some (Obj.cells #[.string k, .string v, .bool d, .int .i64 (qn : Int)] 51) := by rw [hbel.block _ (by simp), heap_alloc_get, if_pos rfl]
  have hB1 : Below w.heap.size w w1 := (bel_alloc w _).trans (hbel.mono (by simp))
  have hsz1 : w.heap.size < w1.heap.size := by have := hbel.size; simp at this; omega
  have b0 : w1.cell? ⟨w.heap.size, 0, none⟩ = some (.string k) := by rw [cell_of_row _ _ _ _ _ _ hblk]; rfl
  have b1 : w1.cell? ⟨w.heap.size, 1, none⟩ = some (.string v) := by rw [cell_of_row _ _ _ _ _ _ hblk]; rfl
  have b2 : w1.cell? ⟨w.heap.size, 2, none⟩ = some (.bool d) := by rw [cell_of_row _ _ _ _ _ _ hblk]; rfl
  have b3 : w1.cell? ⟨w.heap.size, 3, none⟩ = some (.int .i64 (qn : Int)) := by rw [cell_of_row _ _ _ _ _ _ hblk]; rfl
  clear hblk hbel HCC
  have HB1 : Hid _ := hB1
  clear hB1
  obtain ⟨ks, HKS⟩ : ∃ s, Hid (s = k.extract c k.size) := ⟨_, rfl⟩
  have hks : ks.size ≤ 128 := by rw [HKS.out, ByteArray.size_extract]; omega
  obtain ⟨m1, HM1⟩ : ∃ m, Hid (sz c = m) := ⟨_, rfl⟩
  obtain ⟨m2, HM2⟩ : ∃ m, Hid ((putB c ++ textB (strB ks)).length = m) := ⟨_, rfl⟩
  have hm1 : m1 ≤ 10 := by rw [← HM1.out]; exact sz_le c
  have hm2 : m2 ≤ 148 := by
    have h7 := textB_len (strB ks)
    have h8 := strB_length ks
    have h6 := putB_le c
    rw [← HM2.out, List.length_append]; omega
  have HP : Hid _ := fun W => put_own c W (by omega)
  have hckz : (c : Int) ≤ (k.size : Int) := by omega
  have HT : Hid (∀ (W : World) (ao : Option Addr) (cp : Nat), Bytes W ao m1 (putB c) → m1 ≤ cp → cp ≤ 9223372036854775807 → (ao = none → cp = 0) → Calls Tryd.prog 33 #[.slice ao m1 cp, .string (k.extract c k.size)] W fun e w' => ∃ g c', e = .returned (.slice (some ⟨g, 0, none⟩) m2 c') ∧ w'.ownsRow W.heap.size 5 1 (.slice (some ⟨g, 0, none⟩) m2 c') m2 (cellsOf (putB c ++ textB (strB ks))) ∧ W.heap.size ≤ g ∧ g < w'.heap.size ∧ Below W.heap.size W w') := by
    show ∀ _, _
    intro W ao cp hb hn hc h0
    rw [← HKS.out]
    exact putText_shape ao m1 cp (putB c) ks m2 HM2.out W hn hc h0 hb (by omega)
  have HPO : Hid (out = (putB c ++ textB (strB ks)) ++ ((if d then 1 else 0) :: putB qn ++ (if d then [] else textB (strB v)))) := by
    show _ = _
    rw [← HOUT.out, pressB, HKS.out, strB_from]
    simp only [HC.out]
    rfl
  rw [HM1.out] at HP
  go_wp2_with fail
  go_region_held3 (fun w' => w'.cell? ⟨w.heap.size, 0, none⟩ = some (.string k)) (first | assumption | go_keep) (first | (go_at_call 32; refine (HP.out _).mono ?_; rintro e w2 ⟨ao2, c2, rfl, hown2, hbel2⟩; obtain ⟨ao2', c2', hv2, hby2, h02, hlc2, hcm2, -, -⟩ := own_bytes hown2; cases hv2; have hS2 := bel_cell hbel2 (Nat.le_refl _) (bel_cell (Below.drew (Below.refl w1.heap.size w1)) (Nat.le_refl _) b0)) | (go_at_call 33; refine (HT.out _ _ _ hby2 hlc2 (by unfold maxLen at hcm2; omega) h02).mono ?_; rintro e w3 ⟨g3, c3, rfl, hown3, hg3, hg3', hbel3⟩; have hS3 := bel_cell hbel3 (Nat.le_refl _) hS2))
  have hB2 : Below w1.heap.size w1 w2 := (Below.drew (Below.refl w1.heap.size w1)).trans (hbel2.mono (Nat.le_refl _))
  have hB3 : Below w1.heap.size w1 w3 := hB2.trans (hbel3.mono hB2.size)
  have d1 := bel_cell hB3 (Nat.le_refl _) b1
  have d2 := bel_cell hB3 (Nat.le_refl _) b2
  have d3 := bel_cell hB3 (Nat.le_refl _) b3
  have HO3 : Hid (w3.ownsRow (w.heap.size + 1) 5 1 (.slice (some ⟨g3, 0, none⟩) m2 c3) m2 (cellsOf (putB c ++ textB (strB ks)))) := ownsRow_mono hown3 (Nat.le_trans hsz1 hB2.size)
  have HBB : Hid _ := HB1.out.trans (hB3.mono (Nat.le_of_lt hsz1))
  have hsz3 : w.heap.size < w3.heap.size := Nat.lt_of_lt_of_le hsz1 hB3.size
  clear hB2 hB3 hS2 hS3 hbel2 hbel3 hby2 hown2 hown3 h02 HP HT b0 b1 b2 b3 hlc2 hcm2
  have HOA : Hid (∀ o, ((w3.alloc o).drew).ownsRow (w.heap.size + 1) 5 1 (.slice (some ⟨g3, 0, none⟩) m2 c3) m2 (cellsOf (putB c ++ textB (strB ks)))) := fun o => own_below (own_below HO3.out (bel_alloc w3 o) (Nat.le_refl _)) (Below.drew (Below.refl _ _)) (Nat.le_refl _)
  obtain ⟨bs, HBS⟩ : ∃ bs : List UInt8, Hid (putB c ++ textB (strB ks) = bs) := ⟨_, rfl⟩
  rw [HBS.out] at HOA HPO HM2
  have HC3 : Hid (∀ (o : Obj) (w4 : World), Below (w.heap.size + 1) (w3.alloc o).drew w4 → w4.cell? ⟨w.heap.size, 3, none⟩ = some (.int .i64 (qn : Int)) ∧ w4.cell? ⟨w.heap.size, 1, none⟩ = some (.string v)) := by
    show ∀ _, _
    intro o w4 hb
    have e3 := bel_cell (Below.drew (bel_alloc w3 o)) (Nat.le_refl _) d3
    have e1 := bel_cell (Below.drew (bel_alloc w3 o)) (Nat.le_refl _) d1
    exact ⟨by rw [hb.cell (p := ⟨w.heap.size, 3, none⟩) (Nat.lt_succ_self _)]; exact e3, by rw [hb.cell (p := ⟨w.heap.size, 1, none⟩) (Nat.lt_succ_self _)]; exact e1⟩
  cases d with
  | true =>
    obtain ⟨m3, HM3⟩ : ∃ m : Nat, Hid (((bs ++ [(1 : UInt8)]) ++ putB qn).length = m) := ⟨_, rfl⟩
    have HP2 : Hid (∀ (W : World) (g cp : Nat), W.ownsRow (w.heap.size + 1) 5 1 (.slice (some ⟨g, 0, none⟩) (m2 + 1) cp) (m2 + 1) (cellsOf (bs ++ [1])) → m2 + 1 ≤ cp → cp ≤ 9223372036854775807 → Calls Tryd.prog 32 #[.slice (some ⟨g, 0, none⟩) (m2 + 1) cp, .int .u64 (qn : Int)] W fun e w' => ∃ g c', e = .returned (.slice (some ⟨g, 0, none⟩) m3 c') ∧ w'.ownsRow W.heap.size 5 1 (.slice (some ⟨g, 0, none⟩) m3 c') m3 (cellsOf ((bs ++ [1]) ++ putB qn)) ∧ W.heap.size ≤ g ∧ g < w'.heap.size ∧ Below W.heap.size W w') := by
      show ∀ _, _
      intro W g cp ho hn hc
      exact put_shape (some ⟨g, 0, none⟩) (m2 + 1) cp (bs ++ [1]) qn m3 HM3.out W hn hc (fun h => by cases h) (own_row_bytes ho) (by omega) (by omega)
    go_wp2_with fail
    go_region_held3 (fun w' => w'.cell? ⟨w.heap.size, 3, none⟩ = some (.int .i64 (qn : Int))) (first | assumption | go_keep) (first | (refine step_append_byte _ rfl (.tmp 21) (.tmp 22) rfl (w.heap.size + 1) _ m2 bs rfl (HOA.out _) (by simp; omega) ⟨w3.heap.size, 0, none⟩ 1 1 rfl (bytes_drew1 (bytes_one w3 1)) (by omega) ?_; intro g4 c4 w4 hown4 hn4 hc4 hbel4; have hS4 := (HC3.out _ _ hbel4).1) | (go_at_call 32; refine (HP2.out _ _ _ hown4 hn4 hc4).mono ?_; rintro e w5 ⟨g5, c5, rfl, hown5, hg5, hg5', hbel5⟩; have hS5 := bel_cell hbel5 (Nat.le_refl _) hS4))
    have hB4 : Below w3.heap.size w3 (w3.alloc (Obj.cells #[.int .u8 1] 5)).drew := Below.drew (bel_alloc w3 _)
    have hB5 : Below w.heap.size w w5 := (HBB.out.trans (hB4.mono (Nat.le_of_lt hsz3))).trans ((hbel4.mono (Nat.le_succ _)).trans (hbel5.mono (Nat.le_trans (Nat.le_of_lt hsz3) (Nat.le_trans hB4.size hbel4.size))))
    have hle : w.heap.size ≤ w4.heap.size := Nat.le_trans (Nat.le_of_lt hsz3) (Nat.le_trans hB4.size hbel4.size)
    have HZ : Hid _ := And.intro (ownsRow_mono hown5 hle) hB5
    have HFO : Hid (out = (bs ++ [1]) ++ putB qn) := by show _ = _; rw [HPO.out]; simp
    clear hB4 hB5 hle hown4 hown5 hbel4 hbel5 hS4 hS5
    go_wp2
    go_ret
    exact ⟨_, rfl, by rw [HFO.out, HM3.out]; exact HZ.out.1, HZ.out.2⟩
  | false =>
    obtain ⟨m3, HM3⟩ : ∃ m : Nat, Hid (((bs ++ [(0 : UInt8)]) ++ putB qn).length = m) := ⟨_, rfl⟩
    obtain ⟨m4, HM4⟩ : ∃ m : Nat, Hid ((((bs ++ [(0 : UInt8)]) ++ putB qn) ++ textB (strB v)).length = m) := ⟨_, rfl⟩
    have hm3 : m3 ≤ 200 := by
      have h6 := putB_le qn
      have h7 := HM2.out
      rw [← HM3.out, List.length_append, List.length_append, List.length_singleton]; omega
    have HP2 : Hid (∀ (W : World) (g cp : Nat), W.ownsRow (w.heap.size + 1) 5 1 (.slice (some ⟨g, 0, none⟩) (m2 + 1) cp) (m2 + 1) (cellsOf (bs ++ [0])) → m2 + 1 ≤ cp → cp ≤ 9223372036854775807 → Calls Tryd.prog 32 #[.slice (some ⟨g, 0, none⟩) (m2 + 1) cp, .int .u64 (qn : Int)] W fun e w' => ∃ g c', e = .returned (.slice (some ⟨g, 0, none⟩) m3 c') ∧ w'.ownsRow W.heap.size 5 1 (.slice (some ⟨g, 0, none⟩) m3 c') m3 (cellsOf ((bs ++ [0]) ++ putB qn)) ∧ m3 ≤ c' ∧ c' ≤ 9223372036854775807 ∧ Below W.heap.size W w') := by
      show ∀ _, _
      intro W g cp ho hn hc
      refine (put_shape (some ⟨g, 0, none⟩) (m2 + 1) cp (bs ++ [0]) qn m3 HM3.out W hn hc (fun h => by cases h) (own_row_bytes ho) (by omega) (by omega)).mono ?_
      rintro e w' ⟨g', c', rfl, ho', _, _, hb'⟩
      obtain ⟨g2, c2', h1', _, _, h2', h3'⟩ := own_shape ho' (by rw [← HM3.out]; simp; omega)
      cases h1'
      exact ⟨g', c', rfl, ho', h2', h3', hb'⟩
    have HT2 : Hid (∀ (W : World) (B g cp : Nat), W.ownsRow B 5 1 (.slice (some ⟨g, 0, none⟩) m3 cp) m3 (cellsOf ((bs ++ [0]) ++ putB qn)) → m3 ≤ cp → cp ≤ 9223372036854775807 → Calls Tryd.prog 33 #[.slice (some ⟨g, 0, none⟩) m3 cp, .string v] W fun e w' => ∃ g c', e = .returned (.slice (some ⟨g, 0, none⟩) m4 c') ∧ w'.ownsRow W.heap.size 5 1 (.slice (some ⟨g, 0, none⟩) m4 c') m4 (cellsOf (((bs ++ [0]) ++ putB qn) ++ textB (strB v))) ∧ W.heap.size ≤ g ∧ g < w'.heap.size ∧ Below W.heap.size W w') := by
      show ∀ _, _
      intro W B g cp ho hn hc
      exact putText_shape (some ⟨g, 0, none⟩) m3 cp ((bs ++ [0]) ++ putB qn) v m4 HM4.out W hn hc (fun h => by cases h) (own_row_bytes ho) (by omega)
    go_wp2_with fail
    go_region_held3 (fun w' => w'.cell? ⟨w.heap.size, 3, none⟩ = some (.int .i64 (qn : Int)) ∧ w'.cell? ⟨w.heap.size, 1, none⟩ = some (.string v)) (first | assumption | go_keep) (first | (refine step_append_byte _ rfl (.tmp 28) (.tmp 29) rfl (w.heap.size + 1) _ m2 bs rfl (HOA.out _) (by simp; omega) ⟨w3.heap.size, 0, none⟩ 1 0 rfl (bytes_drew1 (bytes_one w3 0)) (by omega) ?_; intro g4 c4 w4 hown4 hn4 hc4 hbel4; have hS4 := HC3.out _ _ hbel4) | (go_at_call 32; refine (HP2.out _ _ _ hown4 hn4 hc4).mono ?_; rintro e w5 ⟨g5, c5, rfl, hown5, hn5, hc5, hbel5⟩; have hS5 := And.intro (bel_cell hbel5 (Nat.le_refl _) hS4.1) (bel_cell hbel5 (Nat.le_refl _) hS4.2)) | (go_at_call 33; refine (HT2.out _ _ _ _ hown5 hn5 hc5).mono ?_; rintro e w6 ⟨g6, c6, rfl, hown6, hg6, hg6', hbel6⟩; have hS6 := And.intro (bel_cell hbel6 (Nat.le_refl _) hS5.1) (bel_cell hbel6 (Nat.le_refl _) hS5.2)))
    have hB4 : Below w3.heap.size w3 (w3.alloc (Obj.cells #[.int .u8 0] 5)).drew := Below.drew (bel_alloc w3 _)
    have hle4 : w.heap.size ≤ w4.heap.size := Nat.le_trans (Nat.le_of_lt hsz3) (Nat.le_trans hB4.size hbel4.size)
    have hle5 : w.heap.size ≤ w5.heap.size := Nat.le_trans hle4 hbel5.size
    have hB6 : Below w.heap.size w w6 := ((HBB.out.trans (hB4.mono (Nat.le_of_lt hsz3))).trans ((hbel4.mono (Nat.le_succ _)).trans (hbel5.mono hle4))).trans (hbel6.mono hle5)
    have HZ : Hid _ := And.intro (ownsRow_mono hown6 hle5) hB6
    have HFO : Hid (out = ((bs ++ [0]) ++ putB qn) ++ textB (strB v)) := by show _ = _; rw [HPO.out]; simp
    clear hB4 hB6 hle4 hle5 hown4 hown5 hown6 hbel4 hbel5 hbel6 hS4 hS5 hS6
    go_wp2
    go_ret
    exact ⟨_, rfl, by rw [HFO.out, HM4.out]; exact HZ.out.1, HZ.out.2⟩
end Go.Proofs.YtcgjhopfdpaocaaDoor
namespace Go.Proofs.YtcgjhopfdpaocaaDoor
open Go.RowKit Go.Sort Go.Shelf
set_option linter.unusedSectionVars false
variable [Inhabited E] [DecidableEq E]
set_option maxRecDepth 100000 in
/-- 'append(own, more...)': where the new row lies. -/
theorem run_append_split (w : World) (base : Nat) (ty : TypeId) (v : Value) (n : Nat) (bs : List UInt8) (hown : w.ownsRow base 5 1 v n (cellsOf bs)) (hbase : base ≤ w.heap.size)
    (ad : Addr) (m c : Nat) (ms : List UInt8) (hm : Bytes w (some ad) m ms) (hp : 0 < m) (hb : n + m ≤ 140737488355328) :
    ∃ v' w', (Builtin.append_ #[25, 25] ty #[v, .slice (some ad) m c]).run Tryd.prog w = .ok v' w' ∧ w'.ownsRow base 5 1 v' (bs ++ ms).length (cellsOf (bs ++ ms)) ∧ w.grownBy w' v.ownBlock ∧
      (v'.ownBlock = v.ownBlock ∨ ∃ g, v'.ownBlock = some g ∧ w.heap.size ≤ g) := by
  obtain ⟨i0, hi, hz0, hz1, hz2⟩ := info_parts info5
  have hn : n = bs.length := by have := hown.1; rw [cellsOf_length] at this; omega
  have hml := hm.1
  have hnews : ∀ j u, (cellsOf ms)[j]? = some u → w.cell? (ad.add j) = some u := by
    intro j u hu
    obtain ⟨c, hc, rfl⟩ := cellsOf_at hu
    obtain ⟨y, hy, hcell⟩ := hm.2 j c hc
    cases hy
    exact hcell
  have hl : (cellsOf ms).length = m * 1 := by rw [cellsOf_length]; omega
  obtain ⟨v', w', hr, h2, h3, h4⟩ := run_append_own (P := Tryd.prog) w base 25 ty 5 i0 (.int .u8 0) 1 1 Tryd.underlying25 hi hz0 hz1 hz2 rfl (by decide) v n (cellsOf bs) hown ad m c (cellsOf ms) hl hnews (cellsOf_one ms) (by unfold maxLen; omega) (by omega) hbase
  refine ⟨v', w', hr, by rw [List.length_append, hml, ← hn, cellsOf_append]; exact h2, h3, ?_⟩
  rcases hown.2 with ⟨rfl, h0⟩ | ⟨g, cap, cur, rfl, hbg, hg, hnc, hcm, hcs, htake⟩
  · right
    have hr2 := run_append_nil (P := Tryd.prog) w 25 ty 5 i0 (.int .u8 0) Tryd.underlying25 hi hz0 ad m c (cellsOf ms) (by rw [hz1]; exact hl) hnews hp (by omega) (by rw [hz2]; omega)
    rw [hr2] at hr
    injection hr with e1 e2
    subst e1
    exact ⟨_, rfl, Nat.le_refl _⟩
  · by_cases hroom : n + m ≤ cap
    · left
      have hr2 := run_append_room (P := Tryd.prog) w 25 ty 5 i0 Tryd.underlying25 hi g n cap cur hg ad m c (cellsOf ms) (by rw [hz1]; exact hl) hnews (cellsOf_one ms) hroom (by rw [hz1, hl, hcs]; omega)
      rw [hr2] at hr
      injection hr with e1 e2
      subst e1
      rfl
    · right
      have holds : ∀ j u, (cellsOf bs)[j]? = some u → w.cell? ((⟨g, 0, none⟩ : Addr).add j) = some u := hown.cells (g := g) rfl
      have hr2 := run_append_grow (P := Tryd.prog) w 25 ty 5 i0 (.int .u8 0) Tryd.underlying25 hi hz0 ⟨g, 0, none⟩ n cap (cellsOf bs) (by rw [hz1]; exact hown.1) holds ad m c (cellsOf ms) (by rw [hz1]; exact hl) hnews (by omega) (by omega) (growslice_fits (by omega) (by rw [hz2]; omega))
      rw [hr2] at hr
      injection hr with e1 e2
      subst e1
      exact ⟨_, rfl, Nat.le_refl _⟩
theorem wpList_append_split {ops : Array Oper} {rest : List Oper} {o : Oper} {a : Act} {Q : Exit → Act → World → Prop} (w : World)
    (hg : o.guard = none) (s x : Operand) (hop : o.op = Op.call { callee := Callee.builtin Builtin.append, args := #[s, x], argTypes := #[25, 25] })
    (base : Nat) (v : Value) (n : Nat) (bs : List UInt8) (hs : a.eval s = v) (hown : w.ownsRow base 5 1 v n (cellsOf bs)) (hbase : base ≤ w.heap.size)
    (ad : Addr) (m c : Nat) (ms : List UInt8) (hx : a.eval x = .slice (some ad) m c) (hm : Bytes w (some ad) m ms) (hp : 0 < m) (hb : n + m ≤ 140737488355328)
    (hK : ∀ v' w', w'.ownsRow base 5 1 v' (bs ++ ms).length (cellsOf (bs ++ ms)) → w.grownBy w' v.ownBlock → (v'.ownBlock = v.ownBlock ∨ ∃ g, v'.ownBlock = some g ∧ w.heap.size ≤ g) → wpList Tryd.prog ops Q rest (a.put o.dst v') w') :
    wpList Tryd.prog ops Q (o :: rest) a w := by
  refine wpList_plain hg fun K hK2 => ?_
  obtain ⟨v', w', hr, h2, h3, h4⟩ := run_append_split w base o.type v n bs hown hbase ad m c ms hm hp hb
  unfold Oper.wp execOp
  simp only [hop, resolve, invoke, builtin, Sem.run_bind, Sem.run_pure, Result.andThen_ok, List.map_toArray, List.map_cons, List.map_nil, hs, hx, hr]
  exact hK2 _ _ (hK v' w' h2 h3 h4)
/-! ### what a block is -/
/-- The key ahead of the i-th entry, where it counts. -/
def aheadK (es : List E) (i : Nat) : ByteArray := if i % 8 = 0 then ⟨#[]⟩ else es[i - 1]!.key
def bodyB (es : List E) : Nat → List UInt8
  | 0 => []
  | i + 1 => bodyB es i ++ pressB (aheadK es i) es[i]!
def placesB (es : List E) : Nat → List UInt8
  | 0 => []
  | i + 1 => if i % 8 = 0 then placesB es i ++ fixB (bodyB es i).length else placesB es i
def blockB (es : List E) : List UInt8 := bodyB es es.length ++ (placesB es es.length ++ fixB ((placesB es es.length).length / 4))
def fitB (es : List E) : Bool := decide (1 ≤ es.length ∧ es.length ≤ 64) && es.all rightB && sortedB es
theorem pressB_len (ah : ByteArray) (e : E) (h : rightB e = true) : (pressB ah e).length ≤ 1300 ∧ 1 ≤ (pressB ah e).length := by
  obtain ⟨h1, h2, qn, h3, h4, h5⟩ := right_parts h
  have a1 := putB_le (comN (strB ah) (strB e.key))
  have a2 := textB_len ((strB e.key).drop (comN (strB ah) (strB e.key)))
  have a3 := textB_len (strB e.value)
  have a4 := putB_le e.seq.toNat
  rw [List.length_drop, strB_length] at a2
  rw [strB_length] at a3
  unfold pressB
  simp only [List.length_append, List.length_cons]
  refine ⟨?_, by omega⟩
  split
  · simp; omega
  · omega
theorem bodyB_len (es : List E) (hr : ∀ e ∈ es, rightB e = true) : ∀ i, i ≤ es.length → (bodyB es i).length ≤ 1300 * i
  | 0, _ => by simp [bodyB]
  | i + 1, h => by
    have h1 := bodyB_len es hr i (by omega)
    have h2 := (pressB_len (aheadK es i) es[i]! (hr _ (by rw [getElem!_pos es i (by omega)]; exact List.getElem_mem _))).1
    rw [bodyB, List.length_append]; omega
theorem placesB_len (es : List E) : ∀ i, (placesB es i).length = 4 * ((i + 7) / 8)
  | 0 => rfl
  | i + 1 => by
    have h1 := placesB_len es i
    rw [placesB]
    split
    · rw [List.length_append, h1]; simp only [fixB, List.length_cons, List.length_nil]; omega
    · rw [h1]; omega
set_option maxRecDepth 100000 in
set_option maxHeartbeats 2000000 in
theorem fit_any (ao : Option Addr) (n c : Nat) (es : List E) (w : World) (hE : EntsV w ao n es) (hsm : Small es) (hbig : n ≤ 1000000000000) :
    Calls Tryd.prog 58 #[.slice ao n c] w fun e w' => e = .returned (.bool (fitB es)) ∧ Below w.heap.size w w' := by
  obtain ⟨r, HR⟩ : ∃ r, Hid (fitB es = r) := ⟨_, rfl⟩
  rw [HR.out]
  have HE : Hid _ := hE
  have HS : Hid _ := hsm
  have hln := hE.1
  clear hE hsm
  by_cases h0 : n = 0
  · have hf : r = false := by rw [← HR.out]; unfold fitB; rw [decide_eq_false (by omega)]; rfl
    subst hf
    subst h0
    go_enter Tryd.func58, Tryd.ntmps58
    go_wp2
    go_ret
    exact ⟨rfl, Below.refl _ _⟩
  · have h0z : ((n : Int) == 0) = false := by simp; omega
    by_cases h64 : n ≤ 64
    · have h64z : ¬ (64 : Int) < (n : Int) := by omega
      have HLN : Hid (es.length = n) := hln
      clear hln
      go_enter Tryd.func58, Tryd.ntmps58
      go_wp2
      go_loopw [4, 15] (fun _ x wr => ∃ i : Nat, x = .int .i64 i ∧ i ≤ n ∧ Hid (∀ e ∈ es.take i, rightB e = true) ∧ Below w.heap.size w wr) (fun _ x _ => n - (intOf x).toNat)
      case atStart => exact ⟨0, rfl, by omega, (fun e he => by simp at he), Below.refl _ _⟩
      case round =>
        obtain ⟨i, rfl, hin, HA, hbel⟩ := hrel
        by_cases hlt : i < n
        · have hltz : (i : Int) < (n : Int) := by omega
          obtain ⟨b, off, hao, hEn⟩ := HE.out.2 (by omega)
          have hEr : Ents wr b off es := hEn.below hbel (Nat.le_refl _)
          obtain ⟨k0, v0, d0, q0, HX⟩ : ∃ k0 v0 d0 q0, Hid (es[i]! = E.mk k0 v0 d0 q0) := ⟨_, _, _, _, rfl⟩
          obtain ⟨c0, c1, c2, c3⟩ := ents_four hEr i (by rw [HLN.out]; omega) HX.out
          obtain ⟨s0, s1⟩ := small_at HS.out i (by rw [HLN.out]; omega) HX.out
          subst hao
          obtain ⟨y, HY⟩ : ∃ y, Hid (rightB ⟨k0, v0, d0, q0⟩ = y) := ⟨_, rfl⟩
          have CR := fun w => right_any k0 v0 d0 q0 w s0 s1
          rw [HY.out] at CR
          have HCR : Hid _ := CR
          have HB : Hid _ := hbel
          clear CR hEr hEn hbel s0 s1
          go_wp2_with fail
          refine (HCR.out _).mono ?_
          rintro e w2 ⟨rfl, hb2⟩
          have HB2 : Hid (Below w.heap.size w w2) := (HB.out.alloc HB.out.size _).trans (hb2.mono (by have := HB.out.size; simp; omega))
          clear hb2 c0 c1 c2 c3
          cases y with
          | false =>
            have hf : r = false := by
              rw [← HR.out]
              unfold fitB
              have : es.all rightB = false := by
                rw [List.all_eq_false]
                exact ⟨es[i]!, by rw [getElem!_pos es i (by rw [HLN.out]; omega)]; exact List.getElem_mem _, by rw [HX.out, HY.out]; simp⟩
              rw [this]; simp
            subst hf
            go_wp2
            go_ret
            exact ⟨rfl, HB2.out⟩
          | true =>
            go_wp2
            go_roundw
            case rel =>
              refine ⟨i + 1, by go_num, by omega, ?_, HB2.out⟩
              show ∀ e ∈ _, _
              intro e he
              rw [take_snoc es i (by rw [HLN.out]; omega), HX.out] at he
              rcases List.mem_append.1 he with he | he
              · exact HA.out e he
              · simp at he; subst he; exact HY.out
            case measure => simp [intOf]; omega
        · have hltz : ¬ (i : Int) < (n : Int) := by omega
          have HALL : Hid (es.all rightB = true) := by
            show _ = _
            rw [List.all_eq_true]
            intro e he
            exact HA.out e (by rw [List.take_of_length_le (by rw [HLN.out]; omega)]; exact he)
          have CS := fun w' hw => sorted_any ao n c es w' (EntsV.below HE.out hw (Nat.le_refl _)) hbig
          have HCS : Hid _ := CS wr hbel
          have HB : Hid _ := hbel
          clear CS hbel
          have HF : Hid (r = sortedB es) := by show _ = _; rw [← HR.out]; unfold fitB; rw [HALL.out, decide_eq_true (by rw [HLN.out]; omega)]; simp
          go_wp2_with fail
          refine Calls.mono HCS.out ?_
          rintro e w2 ⟨rfl, hb2⟩
          have HB2 : Hid _ := HB.out.trans (hb2.mono HB.out.size)
          clear hb2
          go_wp2
          go_ret
          exact ⟨by rw [HF.out]; rfl, HB2.out⟩
    · have hf : r = false := by rw [← HR.out]; unfold fitB; rw [decide_eq_false (by omega)]; rfl
      subst hf
      have h64z : (64 : Int) < (n : Int) := by omega
      go_enter Tryd.func58, Tryd.ntmps58
      go_wp2
      go_ret
      exact ⟨rfl, Below.refl _ _⟩
set_option maxRecDepth 100000 in
set_option maxHeartbeats 1000000 in
theorem foot_any (ao : Option Addr) (n cap : Nat) (bs : List UInt8) (w : World) (hn : n ≤ cap) (hcap : cap ≤ 9223372036854775807) (h0 : ao = none → cap = 0) (hb : Bytes w ao n bs) (hbig : n ≤ 100000) :
    Calls Tryd.prog 60 #[.slice ao n cap] w fun e w' => ∃ v', e = .returned v' ∧ w'.ownsRow w.heap.size 5 1 v' (bs ++ fixB (bs.length / 4)).length (cellsOf (bs ++ fixB (bs.length / 4))) ∧ Below w.heap.size w w' := by
  have hl := hb.1
  have HC : Hid _ := putFixed_any ao n cap bs (bs.length / 4) w hn hcap h0 hb (by omega) (by omega)
  rw [hl] at HC ⊢
  obtain ⟨q, hq⟩ : ∃ q, q = n / 4 := ⟨_, rfl⟩
  have hqz : (n : Int) / 4 = (q : Int) := by omega
  rw [← hq] at HC ⊢
  have hq2 : q ≤ 25000 := by omega
  have hqw : IntKind.u32.wrap (q : Int) = q := by rw [IntKind.wrap_u32]; omega
  clear hb hl
  have HQZ : Hid _ := hqz
  clear hqz
  go_enter Tryd.func60, Tryd.ntmps60
  go_wp2_with fail
  rw [HQZ.out]
  refine Calls.mono HC.out ?_
  rintro e w1 ⟨v1, rfl, hown, hbel⟩
  have HN : Hid _ := And.intro hown hbel
  clear hown hbel
  go_wp2
  go_ret
  exact ⟨_, rfl, HN.out.1, HN.out.2⟩
end Go.Proofs.YtcgjhopfdpaocaaDoor

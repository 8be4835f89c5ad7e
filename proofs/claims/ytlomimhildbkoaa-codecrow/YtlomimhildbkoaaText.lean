/-
  What codec.Text and codec.Fixed answer, of any bytes: contracts over this translation.
-/
import Derived.Test.YtlomimhildbkoaaArg
import Derived.Deep.QuietTactic
import Derived.BigQuiet
namespace Go.Proofs.Ytlomimhildbkoaa
open Go.RowKit

/-- What bytes tell as a text. -/
def textOf (bs : List UInt8) : List UInt8 × Nat × Bool :=
  if (getB bs).2.2 = false ∨ bs.length - (getB bs).2.1 < (getB bs).1 then ([], 0, false)
  else ((bs.drop (getB bs).2.1).take (getB bs).1, (getB bs).2.1 + (getB bs).1, true)

theorem bytes_drop {w : World} {b off : Nat} {n : Nat} {bs : List UInt8} (h : Bytes w (some ⟨b, off, none⟩) n bs) (k : Nat) : Bytes w (some ⟨b, off + k, none⟩) (n - k) (bs.drop k) := by
  refine ⟨by rw [List.length_drop, h.1], fun i c hi => ⟨_, rfl, ?_⟩⟩
  rw [List.getElem?_drop] at hi
  obtain ⟨x, hx, hc⟩ := h.2 (k + i) c hi
  cases hx
  rw [Addr.add_lit] at hc ⊢
  rw [Nat.add_assoc]
  exact hc

set_option maxRecDepth 100000 in
set_option maxHeartbeats 400000 in
theorem text_no (ao : Option Addr) (len cap : Nat) (bs : List UInt8) (w : World) (hb : Bytes w ao len bs) (hmax : len ≤ 9223372036854775807)
    (hno : (getB bs).2.2 = false) :
    Calls Try.prog 20 #[.slice ao len cap] w fun e w' => e = .returned (.tuple #[.string ⟨#[]⟩, .int .i64 0, .bool false]) ∧ w' = w := by
  have hg := get_any ao len cap bs w hb hmax
  rw [hno] at hg
  have HG := hg
  clear hno hg
  go_enter Try.func20, Try.ntmps20
  go_wp2_with fail
  refine HG.mono ?_
  rintro e w2 ⟨rfl, rfl⟩
  go_wp2
  go_ret3
  exact ⟨rfl, rfl⟩

set_option maxRecDepth 100000 in
set_option maxHeartbeats 400000 in
theorem text_short (b off : Nat) (len cap : Nat) (bs : List UInt8) (v n : Nat) (w : World) (hb : Bytes w (some ⟨b, off, none⟩) len bs) (hmax : len ≤ 9223372036854775807)
    (hyes : getB bs = (v, n, true)) (hshort : len - n < v) :
    Calls Try.prog 20 #[.slice (some ⟨b, off, none⟩) len cap] w fun e w' => e = .returned (.tuple #[.string ⟨#[]⟩, .int .i64 0, .bool false]) ∧ w' = w := by
  obtain ⟨hv, hn1, hn2, _, _⟩ := getB_once bs v n hyes
  have hn3 : n ≤ len := by have := hb.1; omega
  have HG := get_any (some ⟨b, off, none⟩) len cap bs w hb hmax
  rw [hyes] at HG
  clear hyes
  have h1 : (len : Int) - (n : Int) < (v : Int) := by omega
  go_enter Try.func20, Try.ntmps20
  go_wp2_with fail
  refine HG.mono ?_
  rintro e w2 ⟨rfl, rfl⟩
  go_wp2
  go_ret3
  exact ⟨rfl, rfl⟩

set_option maxRecDepth 100000 in
set_option maxHeartbeats 400000 in
theorem text_yes (b off : Nat) (len cap : Nat) (bs : List UInt8) (v n : Nat) (w : World) (hb : Bytes w (some ⟨b, off, none⟩) len bs) (hlc : len ≤ cap) (hmax : cap ≤ 9223372036854775807)
    (hyes : getB bs = (v, n, true)) (hfit : v ≤ len - n) :
    Calls Try.prog 20 #[.slice (some ⟨b, off, none⟩) len cap] w fun e w' => e = .returned (.tuple #[.string ⟨((bs.drop n).take v).toArray⟩, .int .i64 ((n + v : Nat) : Int), .bool true]) ∧ w' = w := by
  obtain ⟨hv, hn1, hn2, _, _⟩ := getB_once bs v n hyes
  have hn3 : n ≤ len := by have := hb.1; omega
  have HG := get_any (some ⟨b, off, none⟩) len cap bs w hb (by omega)
  rw [hyes] at HG
  clear hyes
  have h1 : (v : Int) ≤ (len : Int) - (n : Int) := by omega
  have hsA := str_bytes (cap - n) (bytes_take (bytes_drop hb n) v hfit)
  by_cases hcn : n < cap
  · clear hb
    go_enter Try.func20, Try.ntmps20
    go_wp2_with fail
    refine HG.mono ?_
    rintro e w2 ⟨rfl, rfl⟩
    go_wp2
    go_ret3
    exact ⟨rfl, rfl⟩
  · have hv0 : v = 0 := by omega
    have hcap : cap = n := by omega
    subst hv0
    subst hcap
    have hsB := str_bytes 0 (show Bytes w (some ⟨b, off, none⟩) 0 [] from ⟨rfl, fun i c hi => by simp at hi⟩)
    clear hb hsA
    go_enter Try.func20, Try.ntmps20
    go_wp2_with fail
    refine HG.mono ?_
    rintro e w2 ⟨rfl, rfl⟩
    go_wp2
    go_ret3
    exact ⟨rfl, rfl⟩

/-- codec.Text, of whatever bytes. -/
theorem text_any (ao : Option Addr) (len cap : Nat) (bs : List UInt8) (w : World) (hb : Bytes w ao len bs) (hlc : len ≤ cap) (hmax : cap ≤ 9223372036854775807) :
    Calls Try.prog 20 #[.slice ao len cap] w fun e w' => e = .returned (.tuple #[.string ⟨(textOf bs).1.toArray⟩, .int .i64 (textOf bs).2.1, .bool (textOf bs).2.2]) ∧ w' = w := by
  by_cases hno : (getB bs).2.2 = false
  · rw [show textOf bs = ([], 0, false) from by unfold textOf; rw [if_pos (.inl hno)]]
    exact text_no ao len cap bs w hb (by omega) hno
  · have hyes : getB bs = ((getB bs).1, (getB bs).2.1, true) := by
      have : (getB bs).2.2 = true := by simpa using hno
      rw [← this]
    have hl := hb.1
    have hp : 0 < len := by
      have := getB_once bs _ _ hyes
      omega
    obtain ⟨b, off, rfl, _⟩ := bytes_at hb hp
    by_cases hs : len - (getB bs).2.1 < (getB bs).1
    · rw [show textOf bs = ([], 0, false) from by unfold textOf; rw [if_pos (.inr (by rw [hl]; exact hs))]]
      exact text_short b off len cap bs _ _ w hb (by omega) hyes hs
    · rw [show textOf bs = ((bs.drop (getB bs).2.1).take (getB bs).1, (getB bs).2.1 + (getB bs).1, true) from by
        unfold textOf; rw [if_neg (by rw [hl]; exact fun h => h.elim hno hs)]]
      exact text_yes b off len cap bs _ _ w hb hlc hmax hyes (by omega)

/-- What four bytes tell. -/
def fixOf (bs : List UInt8) : Nat × Bool :=
  if bs.length < 4 then (0, false) else ((bs.getD 0 0).toNat * 16777216 + (bs.getD 1 0).toNat * 65536 + (bs.getD 2 0).toNat * 256 + (bs.getD 3 0).toNat, true)

theorem or_at (k a b : Nat) (h : b < 2 ^ k) : a * 2 ^ k ||| b = a * 2 ^ k + b := by
  have := Nat.two_pow_add_eq_or_of_lt h a
  rw [Nat.mul_comm a, this]

theorem or_four (a b c d : Nat) (ha : a < 256) (hb : b < 256) (hc : c < 256) (hd : d < 256) :
    bits .or .u32 (bits .or .u32 (bits .or .u32 ((a : Int) * 16777216) ((b : Int) * 65536)) ((c : Int) * 256)) (d : Int) = ((a * 16777216 + b * 65536 + c * 256 + d : Nat) : Int) := by
  have e1 := or_at 24 a (b * 65536) (by omega)
  have e2 := or_at 16 (a * 256 + b) (c * 256) (by omega)
  have e3 := or_at 8 (a * 65536 + b * 256 + c) d (by omega)
  simp only [Nat.reducePow] at e1 e2 e3
  rw [show (a * 256 + b) * 65536 = a * 16777216 + b * 65536 from by omega] at e2
  rw [show (a * 65536 + b * 256 + c) * 256 = a * 16777216 + b * 65536 + c * 256 from by omega] at e3
  rw [show ((a : Int) * 16777216) = ((a * 16777216 : Nat) : Int) from by omega, show ((b : Int) * 65536) = ((b * 65536 : Nat) : Int) from by omega, show ((c : Int) * 256) = ((c * 256 : Nat) : Int) from by omega]
  rw [u32_or_nat _ _ (by omega) (by omega), e1, u32_or_nat _ _ (by omega) (by omega), e2, u32_or_nat _ _ (by omega) (by omega), e3]

theorem tup2 {a a' : Int} {p p' : Bool} (h1 : a = a') (h3 : p = p') :
    Ending.returned (.tuple #[.int .u32 a, .bool p]) = .returned (.tuple #[.int .u32 a', .bool p']) := by rw [h1, h3]

theorem bel_drewN {B : Nat} {w w' : World} (h : Below B w w') : ∀ n, Below B w (w'.drewN n)
  | 0 => h
  | n + 1 => (bel_drewN h n).drew

set_option maxRecDepth 100000 in
set_option maxHeartbeats 400000 in
theorem fixed_no (ao : Option Addr) (len cap : Nat) (w : World) (hlen : len < 4) :
    Calls Try.prog 22 #[.slice ao len cap] w fun e w' => e = .returned (.tuple #[.int .u32 0, .bool false]) ∧ w' = w := by
  have h1 : (len : Int) < 4 := by omega
  go_enter Try.func22, Try.ntmps22
  go_wp2
  go_ret2
  exact ⟨rfl, rfl⟩

set_option maxRecDepth 100000 in
set_option maxHeartbeats 400000 in
theorem fixed_yes (b off : Nat) (len cap : Nat) (c0 c1 c2 c3 : UInt8) (w : World) (hlen : 4 ≤ len) (h0 : w.cell? ⟨b, off, none⟩ = some (.int .u8 c0.toNat)) (h1 : w.cell? ⟨b, off + 1, none⟩ = some (.int .u8 c1.toNat))
    (h2 : w.cell? ⟨b, off + 2, none⟩ = some (.int .u8 c2.toNat)) (h3 : w.cell? ⟨b, off + 3, none⟩ = some (.int .u8 c3.toNat)) :
    Calls Try.prog 22 #[.slice (some ⟨b, off, none⟩) len cap] w fun e w' => e = .returned (.tuple #[.int .u32 ((c0.toNat * 16777216 + c1.toNat * 65536 + c2.toNat * 256 + c3.toNat : Nat) : Int), .bool true]) ∧ Below w.heap.size w w' := by
  have hi0 : (0 : Int) < (len : Int) := by omega
  have hi1 : (1 : Int) < (len : Int) := by omega
  have hi2 : (2 : Int) < (len : Int) := by omega
  have hi3 : (3 : Int) < (len : Int) := by omega
  have hi4 : ¬ ((len : Int) < 4) := by omega
  have b0 := c0.toNat_lt
  have b1 := c1.toNat_lt
  have b2 := c2.toNat_lt
  have b3 := c3.toNat_lt
  go_enter Try.func22, Try.ntmps22
  go_wp2
  go_quiet (fail)
  go_wp2
  go_ret2
  refine ⟨tup2 ?_ rfl, bel_drewN (Below.refl _ _) nq⟩
  exact or_four c0.toNat c1.toNat c2.toNat c3.toNat b0 b1 b2 b3

/-- codec.Fixed, of whatever bytes. -/
theorem fixed_any (ao : Option Addr) (len cap : Nat) (bs : List UInt8) (w : World) (hb : Bytes w ao len bs) :
    Calls Try.prog 22 #[.slice ao len cap] w fun e w' => e = .returned (.tuple #[.int .u32 (fixOf bs).1, .bool (fixOf bs).2]) ∧ Below w.heap.size w w' := by
  have hl := hb.1
  by_cases h4 : len < 4
  · rw [show fixOf bs = (0, false) from by unfold fixOf; rw [if_pos (by omega)]]
    refine (fixed_no ao len cap w h4).mono ?_
    rintro e w' ⟨rfl, rfl⟩
    exact ⟨rfl, Below.refl _ _⟩
  · rw [show fixOf bs = _ from by unfold fixOf; rw [if_neg (by omega)]]
    obtain ⟨b, off, rfl, hc⟩ := bytes_at hb (by omega)
    have g : ∀ k, k < 4 → w.cell? ⟨b, off + k, none⟩ = some (.int .u8 ((bs.getD k 0).toNat : Int)) := fun k hk => by
      rw [hc k (by omega), List.getD_eq_getElem?_getD, List.getElem?_eq_getElem (by omega)]; rfl
    exact fixed_yes b off len cap _ _ _ _ w (by omega) (g 0 (by omega)) (g 1 (by omega)) (g 2 (by omega)) (g 3 (by omega))
end Go.Proofs.Ytlomimhildbkoaa

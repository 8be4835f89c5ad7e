/-
  What tree's Path, Range, Check and CheckRange answer, whatever is handed over: contracts over this translation.
-/
import Derived.Test.YtecacjddggljgaaDoorPartCG
namespace Go.Proofs.YtecacjddggljgaaDoor.Sm
open Go.RowKit
/-- Is an opening taken? -/
def ckB (z : Int) (root : List UInt8) (n x : Int) (bs : List UInt8) (ds : List (List UInt8)) : Bool := decide (0 ≤ x ∧ x < n ∧ ds.length = (upL n.toNat x.toNat).length) && (climbD z (leafD z bs) (upL n.toNat x.toNat) ds == root)
/-- Is an opening of some leaves taken? -/
def crB (z : Int) (root : List UInt8) (n x : Int) (ls : List LV) (ds : List (List UInt8)) : Bool := decide (0 < ls.length ∧ 0 ≤ x ∧ x + ls.length ≤ n ∧ ds.length = (outL 0 n.toNat x.toNat (x.toNat + ls.length)).length) && (fillF z ls x.toNat (x.toNat + ls.length) 64 0 n.toNat ds == root)
def pathD (z : Int) (ls : List LV) (x : Int) : List (List UInt8) := if 0 ≤ x ∧ x < ls.length then besideD z ls (spanS (upL ls.length x.toNat)) else []
def pathE (n : Nat) (x : Int) : Int := if 0 ≤ x ∧ x < n then 0 else 1
def rangeD (z : Int) (ls : List LV) (x y : Int) : List (List UInt8) := if 0 ≤ x ∧ x < y ∧ y ≤ ls.length then besideD z ls (outL 0 ls.length x.toNat y.toNat) else []
def rangeE (n : Nat) (x y : Int) : Int := if 0 ≤ x ∧ x < y ∧ y ≤ n then 0 else 1
theorem check_any (z : Int) (root : List UInt8) (n x : Int) (lo : Option Addr) (ln lc : Nat) (bs : List UInt8) (ao : Option Addr) (L c : Nat) (ds : List (List UInt8)) (w : World) (hroot : root.length = 32) (hn : n ≤ 9223372036854775807) (hlen : ds.length = L) (hLc : L ≤ c) (hc : c ≤ 9223372036854775807) (hP : PathV w ao ds)
    (hb : Bytes w lo ln bs) (h0 : lo = none → lc = 0) (hln : ln ≤ 140737488355000) (hK : WW w 1 ks) (hz0 : 1 < w.heap.size) (hz : -9223372036854775808 ≤ z ∧ z ≤ 9223372036854775807) :
    Calls Tryd.prog 65 #[.agg #[.int .i64 z], dv root, .int .i64 n, .int .i64 x, .slice lo ln lc, .slice ao L c] w fun e w' => e = .returned (.bool (ckB z root n x bs ds)) ∧ Below w.heap.size w w' := by
  by_cases h1 : 0 ≤ x ∧ x < n
  · obtain ⟨n', rfl⟩ : ∃ m : Nat, n = (m : Int) := ⟨n.toNat, by omega⟩
    obtain ⟨x', rfl⟩ : ∃ m : Nat, x = (m : Int) := ⟨x.toNat, by omega⟩
    by_cases h2 : L = (upL n' x').length
    · have h := check_some z root n' x' lo ln lc bs ao L c ds w hroot (by omega) (by omega) hlen h2 hLc hc hP hb h0 hln hK hz0 hz
      have e : ckB z root (n' : Int) (x' : Int) bs ds = (climbD z (leafD z bs) (upL n' x') ds == root) := by
        unfold ckB
        rw [Int.toNat_natCast, Int.toNat_natCast, decide_eq_true ⟨h1.1, h1.2, by rw [hlen]; exact h2⟩, Bool.true_and]
      rw [e]; exact h
    · have h := check_len z root n' x' (.slice lo ln lc) ao L c w (by omega) (by omega) h2
      have e : ckB z root (n' : Int) (x' : Int) bs ds = false := by
        unfold ckB
        rw [Int.toNat_natCast, Int.toNat_natCast, decide_eq_false (fun h => h2 (by rw [← hlen]; exact h.2.2)), Bool.false_and]
      rw [e]; exact h
  · have h := check_wrong z root n x (.slice lo ln lc) (.slice ao L c) w h1
    have e : ckB z root n x bs ds = false := by
      unfold ckB
      rw [decide_eq_false (fun h => h1 ⟨h.1, h.2.1⟩), Bool.false_and]
    rw [e]; exact h
theorem crange_any (z : Int) (root : List UInt8) (n x : Int) (qo : Option Addr) (qn qc : Nat) (ls : List LV) (ao : Option Addr) (L pc : Nat) (ds : List (List UInt8)) (w : World) (hroot : root.length = 32) (hn : n ≤ 9223372036854775807) (hlen : ds.length = L) (hLc : L ≤ pc) (hP : PathV w ao ds)
    (hLs : LeavesV w qo qn qc ls) (hq1 : qn ≤ 1000) (hK : WW w 1 ks) (hz0 : 1 < w.heap.size) (hz : -9223372036854775808 ≤ z ∧ z ≤ 9223372036854775807) :
    Calls Tryd.prog 54 #[.agg #[.int .i64 z], dv root, .int .i64 n, .int .i64 x, .slice qo qn qc, .slice ao L pc] w fun e w' => e = .returned (.bool (crB z root n x ls ds)) ∧ Below w.heap.size w w' := by
  have hlq := hLs.1
  subst hlq
  by_cases h1 : 0 < ls.length ∧ 0 ≤ x ∧ x + ls.length ≤ n
  · obtain ⟨n', rfl⟩ : ∃ m : Nat, n = (m : Int) := ⟨n.toNat, by omega⟩
    obtain ⟨x', rfl⟩ : ∃ m : Nat, x = (m : Int) := ⟨x.toNat, by omega⟩
    obtain ⟨qb, qf, rfl, -⟩ := hLs.2.2.2 h1.1
    by_cases h2 : L = (outL 0 n' x' (x' + ls.length)).length
    · have h := crange_some z root n' x' qb qf ls.length qc ls ao L pc ds w hroot h1.1 (by omega) (by omega) hlen h2 hLc hP hLs hq1 hK hz0 hz
      have e : crB z root (n' : Int) (x' : Int) ls ds = (fillF z ls x' (x' + ls.length) 64 0 n' ds == root) := by
        unfold crB
        rw [Int.toNat_natCast, Int.toNat_natCast, decide_eq_true ⟨h1.1, h1.2.1, h1.2.2, by rw [hlen]; exact h2⟩, Bool.true_and]
      rw [e]; exact h
    · have h := crange_len z root n' x' (some ⟨qb, qf, none⟩) ls.length qc ao L pc w h1.1 (by omega) (by omega) h2
      have e : crB z root (n' : Int) (x' : Int) ls ds = false := by
        unfold crB
        rw [Int.toNat_natCast, Int.toNat_natCast, decide_eq_false (fun h => h2 (by rw [← hlen]; exact h.2.2.2)), Bool.false_and]
      rw [e]; exact h
  · have h := crange_wrong z root n x qo ls.length qc (.slice ao L pc) w hn h1
    have e : crB z root n x ls ds = false := by
      unfold crB
      rw [decide_eq_false (fun h => h1 ⟨h.1, h.2.1, h.2.2.1⟩), Bool.false_and]
    rw [e]; exact h
theorem path_any (z : Int) (ao : Option Addr) (n c : Nat) (ls : List LV) (x : Int) (w : World) (hL : LeavesV w ao n c ls) (hn : n ≤ 1000) (hK : WW w 1 ks) (hz0 : 1 < w.heap.size) (hz : -9223372036854775808 ≤ z ∧ z ≤ 9223372036854775807) :
    Calls Tryd.prog 70 #[.agg #[.int .i64 z], .slice ao n c, .int .i64 x] w fun e w' => ∃ v, e = .returned (.tuple #[v, .int .i64 (pathE n x)]) ∧ DgV w' w.heap.size v (pathD z ls x) ∧ Below w.heap.size w w' := by
  have hlq := hL.1
  unfold pathE pathD
  by_cases h1 : 0 ≤ x ∧ x < n
  · obtain ⟨x', rfl⟩ : ∃ m : Nat, x = (m : Int) := ⟨x.toNat, by omega⟩
    obtain ⟨b, off, rfl, -⟩ := hL.2.2.2 (by omega)
    have h := path_some z b off n c ls x' w hL hn (by omega) hK hz0 hz
    rw [if_pos h1, if_pos (by rw [hlq]; exact h1), Int.toNat_natCast, hlq]; exact h
  · rw [if_neg h1, if_neg (by rw [hlq]; exact h1)]
    refine (path_wrong z ao n c x w h1).mono ?_
    rintro e w' ⟨rfl, hb⟩
    exact ⟨_, rfl, dgv_nil _ _, hb⟩
theorem range_any (z : Int) (ao : Option Addr) (n c : Nat) (ls : List LV) (x y : Int) (w : World) (hL : LeavesV w ao n c ls) (hn : n ≤ 1000) (hK : WW w 1 ks) (hz0 : 1 < w.heap.size) (hz : -9223372036854775808 ≤ z ∧ z ≤ 9223372036854775807) :
    Calls Tryd.prog 44 #[.agg #[.int .i64 z], .slice ao n c, .int .i64 x, .int .i64 y] w fun e w' => ∃ v, e = .returned (.tuple #[v, .int .i64 (rangeE n x y)]) ∧ DgV w' w.heap.size v (rangeD z ls x y) ∧ Below w.heap.size w w' := by
  have hlq := hL.1
  unfold rangeE rangeD
  by_cases h1 : 0 ≤ x ∧ x < y ∧ y ≤ n
  · obtain ⟨x', rfl⟩ : ∃ m : Nat, x = (m : Int) := ⟨x.toNat, by omega⟩
    obtain ⟨y', rfl⟩ : ∃ m : Nat, y = (m : Int) := ⟨y.toNat, by omega⟩
    obtain ⟨b, off, rfl, -⟩ := hL.2.2.2 (by omega)
    have h := range_some z b off n c ls x' y' w hL hn (by omega) (by omega) hK hz0 hz
    rw [if_pos h1, if_pos (by rw [hlq]; exact h1), Int.toNat_natCast, Int.toNat_natCast, hlq]; exact h
  · rw [if_neg h1, if_neg (by rw [hlq]; exact h1)]
    refine (range_wrong z ao n c x y w h1).mono ?_
    rintro e w' ⟨rfl, hb⟩
    exact ⟨_, rfl, dgv_nil _ _, hb⟩
end Go.Proofs.YtecacjddggljgaaDoor.Sm

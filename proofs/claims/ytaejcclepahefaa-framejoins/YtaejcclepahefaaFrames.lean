/-
  What going through frames comes to: a contract over this translation.
-/
import Derived.Test.YtaejcclepahefaaFrM
import Derived.RangeFuncNested
import Derived.RangeFuncBound
import Derived.RangeFuncCalls
import Derived.RangeFuncLeaves
import Derived.Shelf.Abstract
import Derived.Shelf.RegionOpen
import Derived.OwnWalkIn
import Derived.TacticsInMore
import Derived.LoopNIn
import Derived.LoopIn
namespace Go.Proofs.Ytaejcclepahefaa
open Go.RowKit Go.Shelf
attribute [local go_sem] Oper.semAt_some
/-- What a round keeps: all below n0, and all blocks of bytes. -/
structure KB (n0 : Nat) (W W' : World) : Prop where
  bel : Below n0 W W'
  bytes : ∀ (k : Nat) (cur : Array Value) (fr : Nat × Nat), W.heap[k]? = some (Obj.cells cur 5 fr) → W'.heap[k]? = some (Obj.cells cur 5 fr)
theorem KB.trans {n0 : Nat} {A B C : World} (h : KB n0 A B) (k : KB n0 B C) : KB n0 A C := ⟨h.bel.trans k.bel, fun i c f hi => k.bytes i c f (h.bytes i c f hi)⟩
theorem KB.of_below {n0 B : Nat} {W W' : World} (h : Below B W W') (hB : W.heap.size ≤ B) (hn : n0 ≤ B) : KB n0 W W' :=
  ⟨h.mono hn, fun k _ _ hk => (h.block k (Nat.lt_of_lt_of_le (Array.getElem?_eq_some_iff.1 hk).1 hB)).trans hk⟩
/-- Slices that are the call's own. -/
def Told (n0 : Nat) (W : World) (xs : List SV) : Prop := (∀ x ∈ xs, W.ownsRow n0 5 1 (.slice x.ao x.n x.c) x.n (cellsOf x.bs)) ∧ xs.Pairwise fun x y => ∀ p q, x.ao = some p → y.ao = some q → p.block < q.block
theorem owns_kb {n0 b : Nat} {W W' : World} {v : Value} {n : Nat} {xs : List Value} (h : W.ownsRow b 5 1 v n xs) (hk : KB n0 W W') : W'.ownsRow b 5 1 v n xs := by
  refine ⟨h.1, ?_⟩
  rcases h.2 with h2 | ⟨g, cap, cur, hv, hb, hg, r⟩
  · exact .inl h2
  · exact .inr ⟨g, cap, cur, hv, hb, hk.bytes _ _ _ hg, r⟩
theorem Told.kb {n0 m : Nat} {W W' : World} {xs : List SV} (h : Told m W xs) (hk : KB n0 W W') : Told m W' xs := ⟨fun x hx => owns_kb (h.1 x hx) hk, h.2⟩
theorem owns_in {w : World} {base : Nat} {ao : Option Addr} {n m c : Nat} {xs : List Value} (h : w.ownsRow base 5 1 (.slice ao n c) m xs) : ∀ p, ao = some p → base ≤ p.block ∧ p.block < w.heap.size := by
  intro p hp
  rcases h.2 with ⟨h1, h2⟩ | ⟨g, cap, cur, h1, hb, hg, r⟩
  · cases h1; cases hp
  · cases h1; cases hp; exact ⟨hb, (Array.getElem?_eq_some_iff.1 hg).1⟩
def sliceLen : Value → Nat
  | .slice _ n _ => n
  | _ => 0
theorem bytes_low {w w' : World} {B : Nat} {ao : Option Addr} {n : Nat} {bs : List UInt8} (h : Bytes w ao n bs) (hb : Below B w w') (hlow : ∀ x, ao = some x → x.block < B) : Bytes w' ao n bs := bytes_below h hb hlow
theorem next_ok (a : SV) (m : Nat) (w : World) (h1 : Bytes w a.ao a.n a.bs) (f1 : a.fine) (he : (nextF a.bs).2.2 = 0) (hm : (nextF a.bs).1.length = m) :
    Calls Try.prog 46 #[.slice a.ao a.n a.c] w fun e w' => ∃ xo xc, e = .returned (.tuple #[.slice xo m xc, .int .i64 (8 + (m : Int)), .int .i64 0]) ∧ w'.ownsRow w.heap.size 5 1 (.slice xo m xc) m (cellsOf (nextF a.bs).1) ∧ Below w.heap.size w w' := by
  refine (next_any a w h1 f1).mono ?_
  rintro e w' ⟨⟨v, rfl, hown⟩, hb⟩
  rw [hm] at hown
  obtain ⟨xo, xc, rfl, -, -, -, -, -, -⟩ := own_bytes hown
  obtain ⟨h2, -, -⟩ := nextF_zero he
  exact ⟨xo, xc, by rw [h2, he, hm]; simp, hown, hb⟩
theorem next_no (a : SV) (w : World) (h1 : Bytes w a.ao a.n a.bs) (f1 : a.fine) (he : (nextF a.bs).2.2 ≠ 0) :
    Calls Try.prog 46 #[.slice a.ao a.n a.c] w fun e w' => ∃ xo xc, e = .returned (.tuple #[.slice xo 0 xc, .int .i64 0, .int .i64 ((nextF a.bs).2.2 : Int)]) ∧ w'.ownsRow w.heap.size 5 1 (.slice xo 0 xc) 0 (cellsOf []) ∧ Below w.heap.size w w' := by
  refine (next_any a w h1 f1).mono ?_
  rintro e w' ⟨⟨v, rfl, hown⟩, hb⟩
  obtain ⟨h2, h3⟩ := nextF_bad he
  rw [h2] at hown
  obtain ⟨xo, xc, rfl, -, -, -, -, -, -⟩ := own_bytes (bs := []) hown
  exact ⟨xo, xc, by rw [h3]; simp, hown, hb⟩
set_option maxRecDepth 100000 in
set_option maxHeartbeats 2000000 in
theorem frames_in (n l Bn n0 : Nat) (hn : 1 ≤ n) (a : SV) (J : List SV → World → Prop) (hJ : ∀ pre W W', J pre W → Below W.heap.size W W' → J pre W')
    (hY : ∀ pre x W1, J pre W1 → pre.length < (framesB a.bs).length → x.n ≤ 65536 → YieldAt Fence.wide (n - 1) Try.prog l #[.slice x.ao x.n x.c, .int .i64 (8 + (x.n : Int))] W1 fun e W' => e = .returned (.bool true) ∧ J (pre ++ [x]) W' ∧ KB n0 W1 W')
    (W : World) (hBn : W.cell? ⟨Bn, 0, none⟩ = some (.slice a.ao a.n a.c)) (ha : Bytes W a.ao a.n a.bs) (hfine : a.fine) (hlow : ∀ x, a.ao = some x → x.block < n0) (hn0 : n0 ≤ W.heap.size) (h0 : J [] W) :
    CallsIn Fence.wide n Try.prog 90 #[.func (.yield l) #[] #[], .pointer (some ⟨Bn, 0, none⟩)] W fun e W' => (∃ v, e = .returned v) ∧ ∃ xs, J xs W' ∧ Told n0 W' xs ∧ xs.map SV.bs = framesB a.bs ∧ KB n0 W W' := by
  refine callsIn_of_wp Try.func90 rfl trivial ?_ rfl
  simp only [Try.ntmps90, List.size_toArray, List.length_cons, List.length_nil, Nat.reduceAdd, Nat.reduceSub, Array.replicate_succ, Array.replicate_zero, List.push_toArray, List.append_toArray, List.nil_append, List.cons_append]
  obtain ⟨ao, an, ac, bs⟩ := a
  simp only at hBn ha hlow hY
  have HA : Hid (Bytes W ao an bs) := ha
  have HF : Hid (SV.fine ⟨ao, an, ac, bs⟩) := hfine
  have HLOW : Hid (∀ x, ao = some x → x.block < n0) := hlow
  have HJ : Hid (∀ pre W W', J pre W → Below W.heap.size W W' → J pre W') := hJ
  have HY : Hid _ := hY
  have H0 : Hid (J [] W) := h0
  clear ha hfine hlow hJ hY h0
  gi_wp2
  gi_loopw [3] (fun s wr => ∃ (pre : List SV) (ro : Option Addr) (rn rc : Nat) (rb : List UInt8), s = .slice ro rn rc ∧ Bytes wr ro rn rb ∧ SV.fine ⟨ro, rn, rc, rb⟩ ∧ (∀ x, ro = some x → x.block < n0) ∧ J pre wr ∧ Told n0 wr pre ∧ pre.map SV.bs ++ framesB rb = framesB bs ∧ KB n0 W wr)
    (fun s wr => sliceLen s)
  case atStart => exact ⟨[], ao, an, ac, bs, rfl, HA.out, HF.out, HLOW.out, H0.out, ⟨(fun x hx => by cases hx), List.Pairwise.nil⟩, rfl, ⟨Below.refl _ _, fun _ _ _ h => h⟩⟩
  case round =>
    obtain ⟨pre, ro, rn, rc, rb, rfl, hb, hfi, hlo, hjs, htold, hfr, hkb⟩ := hrel
    by_cases he : (nextF rb).2.2 = 0
    · obtain ⟨m, hm⟩ : ∃ m, (nextF rb).1.length = m := ⟨_, rfl⟩
      obtain ⟨z1, z2, z3⟩ := nextF_zero he
      rw [hm] at z1 z2
      have hbl := hb.1
      have HC : Hid _ := next_ok ⟨ro, rn, rc, rb⟩ m wr hb hfi he hm
      have hsz : wr.heap.size ≤ wr.heap.size := Nat.le_refl _
      have HST := frames_step he
      have hrn : 8 + m ≤ rn := by omega
      have hrc : rn ≤ rc := hfi.2.1
      have hrc9 : rc ≤ 9223372036854775807 := hfi.2.2
      obtain ⟨rb0, off, rfl, -⟩ := bytes_at hb (by omega)
      obtain ⟨nx, hnx⟩ : ∃ x, (if rc = 8 + m then some (⟨rb0, off, none⟩ : Addr) else some ⟨rb0, off + (8 + m), none⟩) = x := ⟨_, rfl⟩
      have HNB : Hid (∀ W', Below n0 wr W' → Bytes W' nx (rn - (8 + m)) (rb.drop (8 + m))) := fun W' hW' => by
        have h2 := bytes_low hb hW' hlo
        rw [← hnx]
        split
        · have e0 : rn - (8 + m) = 0 := by omega
          rw [e0]
          exact ⟨by rw [List.length_drop]; omega, fun i c hi => by have := (List.getElem?_eq_some_iff.1 hi).1; rw [List.length_drop] at this; omega⟩
        · exact bytes_drop h2 _
      have HNF : Hid (SV.fine ⟨nx, rn - (8 + m), rc - (8 + m), rb.drop (8 + m)⟩) := ⟨(fun h => by simp only at h; rw [← hnx] at h; split at h <;> cases h), (by show rn - (8 + m) ≤ rc - (8 + m); omega), (by show rc - (8 + m) ≤ 9223372036854775807; omega)⟩
      have HNL : Hid (∀ x, nx = some x → x.block < n0) := fun x hx => by
        have := hlo _ rfl
        rw [← hnx] at hx; split at hx <;> cases hx <;> exact this
      have HTO : Hid (Told n0 wr pre) := htold
      have HFR : Hid (pre.map SV.bs ++ framesB rb = framesB bs) := hfr
      have HKB : Hid (KB n0 W wr) := hkb
      have HJS : Hid (J pre wr) := hjs
      have HZ : Hid (n0 ≤ wr.heap.size) := Nat.le_trans hn0 hkb.bel.size
      have z4 : m ≤ 65536 := by omega
      clear hb hfi hlo htold hfr hkb hjs z3
      gi_wp2
      refine ⟨trivial, (callsIn_wide.2 HC.out).mono ?_⟩
      rintro e w1 ⟨xo, xc, rfl, hown, hbel⟩
      obtain ⟨fn, tmps, assign, body, hy, hR⟩ := HY.out pre ⟨xo, m, xc, (nextF rb).1⟩ w1 (HJ.out _ _ _ HJS.out hbel) (by rw [← HFR.out, HST.1]; simp) (by show m ≤ 65536; omega)
      dsimp only at hy
      have HOWN : Hid (w1.ownsRow wr.heap.size 5 1 (.slice xo m xc) m (cellsOf (nextF rb).1)) := hown
      have HBEL : Hid (Below wr.heap.size wr w1) := hbel
      have hs8 : (0 : Int) ≤ 8 + (m : Int) := by omega
      have hs9 : 8 + (m : Int) ≤ (rn : Int) := by omega
      have hto : ((8 : Int) + (m : Int)).toNat = 8 + m := by omega
      clear hown hbel HC
      gi_wp2
      refine RoundIn.mono hR ?_
      clear hR
      rintro e W3 ⟨rfl, hJ3, hk3⟩
      have k1 : KB n0 wr w1 := KB.of_below HBEL.out (Nat.le_refl _) HZ.out
      have k2 : KB n0 wr W3 := k1.trans hk3
      have HREL : Hid (Bytes W3 nx (rn - (8 + m)) (rb.drop (8 + m)) ∧ J (pre ++ [⟨xo, m, xc, (nextF rb).1⟩]) W3 ∧ Told n0 W3 (pre ++ [⟨xo, m, xc, (nextF rb).1⟩]) ∧ (pre ++ [(⟨xo, m, xc, (nextF rb).1⟩ : SV)]).map SV.bs ++ framesB (rb.drop (8 + m)) = framesB bs ∧ KB n0 W W3) := by
        refine ⟨HNB.out _ k2.bel, hJ3, ⟨fun x hx => ?_, ?_⟩, ?_, HKB.out.trans k2⟩
        · rcases List.mem_append.1 hx with h | h
          · exact (HTO.out.kb k2).1 x h
          · simp only [List.mem_singleton] at h; subst h
            exact owns_kb (ownsRow_mono HOWN.out HZ.out) hk3
        · refine List.pairwise_append.2 ⟨HTO.out.2, List.pairwise_singleton _ _, fun x hx y hy p q hp hq => ?_⟩
          simp only [List.mem_singleton] at hy; subst hy
          exact Nat.lt_of_lt_of_le (owns_in (HTO.out.1 x hx) p hp).2 (owns_in HOWN.out q hq).1
        · rw [← HFR.out, HST.1, z1]; simp
      clear hJ3 hk3 k1 k2 HOWN HBEL HST HTO HFR HKB HJS HNB
      gi_wp2
      go_roundw
      case rel => exact ⟨_, nx, rn - (8 + m), rc - (8 + m), rb.drop (8 + m), rfl, HREL.out.1, HNF.out, HNL.out, HREL.out.2.1, HREL.out.2.2.1, HREL.out.2.2.2.1, HREL.out.2.2.2.2⟩
      case measure => simp only [sliceLen]; omega
    · have HC : Hid _ := next_no ⟨ro, rn, rc, rb⟩ wr hb hfi he
      obtain ⟨k, HK⟩ : ∃ k, Hid ((nextF rb).2.2 = k) := ⟨_, rfl⟩
      have hk0 : ¬ ((k : Int) = 0) := by rw [← HK.out]; omega
      have HST := frames_stop he
      have HEND : Hid (∀ W', Below wr.heap.size wr W' → ∃ xs, J xs W' ∧ Told n0 W' xs ∧ xs.map SV.bs = framesB bs ∧ KB n0 W W') := fun W' hW' => by
        have k2 : KB n0 wr W' := KB.of_below hW' (Nat.le_refl _) (Nat.le_trans hn0 hkb.bel.size)
        exact ⟨pre, HJ.out _ _ _ hjs hW', htold.kb k2, by rw [← hfr, HST.1, List.append_nil], hkb.trans k2⟩
      have HC2 : Hid (Calls Try.prog 46 #[.slice ro rn rc] wr fun e w' => ∃ xo xc, e = .returned (.tuple #[.slice xo 0 xc, .int .i64 0, .int .i64 (k : Int)]) ∧ w'.ownsRow wr.heap.size 5 1 (.slice xo 0 xc) 0 (cellsOf []) ∧ Below wr.heap.size wr w') := by
        have h := next_no ⟨ro, rn, rc, rb⟩ wr hb hfi he
        rw [HK.out] at h; exact h
      clear HC hb hfi hlo hjs htold hfr hkb HST he HK
      gi_wp2
      refine ⟨trivial, (callsIn_wide.2 HC2.out).mono ?_⟩
      rintro e w1 ⟨xo, xc, rfl, -, hbel⟩
      have HE : Hid _ := HEND.out w1 hbel
      clear hbel HC2 HEND
      gi_wp2
      refine ⟨fun _ h => (by cases h), ?_⟩
      gi_wp2
      refine bodyPost_ret (results_none rfl _ _ _) rfl ?_
      exact ⟨⟨_, rfl⟩, HE.out⟩
end Go.Proofs.Ytaejcclepahefaa

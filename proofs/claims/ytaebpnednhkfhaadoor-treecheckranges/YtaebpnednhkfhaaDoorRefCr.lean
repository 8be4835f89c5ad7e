/-
  What marlstoneref05.CheckRange answers: a contract over this translation.
-/
import Derived.Test.YtaebpnednhkfhaaDoorPartI
import Derived.Test.YtaebpnednhkfhaaDoorRefCk
namespace Go.Proofs.YtaebpnednhkfhaaDoor
open Go.RowKit
set_option maxHeartbeats 4000000 in
set_option maxRecDepth 100000 in
theorem refCr_wrong (z : Int) (root : List UInt8) (n x : Int) (qo : Option Addr) (qn qc : Nat) (pa : Value) (w : World) (hn : n ≤ 9223372036854775807) (hno : ¬ (0 < qn ∧ 0 ≤ x ∧ x + qn ≤ n)) :
    Calls Tryd.prog 45 #[.int .i64 z, dv root, .int .i64 n, .int .i64 x, .slice qo qn qc, pa] w fun e w' => e = .returned (.bool false) ∧ Below w.heap.size w w' := by
  unfold dv
  obtain ⟨cr, HCR⟩ : ∃ c, Hid ((cellsOf root).toArray = c) := ⟨_, rfl⟩
  rw [HCR.out]
  by_cases h0 : qn = 0
  · subst h0
    clear hno
    go_enter Tryd.func45, Tryd.ntmps45
    go_wp2
    go_ret
    exact ⟨rfl, bel_alloc _ _⟩
  by_cases h1 : x < 0
  · have y0 : ((qn : Int) == 0) = false := by simp; omega
    clear hno h0
    go_enter Tryd.func45, Tryd.ntmps45
    go_wp2
    go_ret
    exact ⟨rfl, bel_alloc _ _⟩
  by_cases h2 : n < (qn : Int)
  · have y0 : ((qn : Int) == 0) = false := by simp; omega
    have h1d : decide (x < 0) = false := decide_eq_false h1
    clear hno h0
    go_enter Tryd.func45, Tryd.ntmps45
    go_wp2
    go_ret
    exact ⟨rfl, bel_alloc _ _⟩
  · have y0 : ((qn : Int) == 0) = false := by simp; omega
    have h1d : decide (x < 0) = false := decide_eq_false h1
    have h2d : decide (n < (qn : Int)) = false := decide_eq_false h2
    have y3 : wrap64 (n - (qn : Int)) = n - (qn : Int) := wsub_i (by omega) (by omega) hn
    have y4' : n - (qn : Int) < x := by omega
    obtain ⟨t, HT⟩ : ∃ t, Hid (n - (qn : Int) = t) := ⟨_, rfl⟩
    have HTo := HT.out
    have y3 : wrap64 (n - (qn : Int)) = t := y3.trans HTo
    rw [HTo] at y4'
    have y3w : IntKind.i64.wrap (n - (qn : Int)) = t := (IntWalk.i64_left _).trans y3
    have y4d : decide (t < x) = true := decide_eq_true y4'
    clear hno h0 hn HTo
    go_enter Tryd.func45, Tryd.ntmps45
    go_wp2
    go_ret
    exact ⟨rfl, bel_alloc _ _⟩
set_option maxHeartbeats 4000000 in
set_option maxRecDepth 100000 in
theorem refCr_some (z : Int) (root : List UInt8) (n x q : Nat) (po : Option Addr) (pc : Nat) (ls : List LV) (ao : Option Addr) (cp : Nat) (ds : List (List UInt8)) (w : World) (hroot : root.length = 32) (hq0 : 0 < q) (hxn : x + q ≤ n) (hn : n ≤ 9223372036854775807) (hl : ls.length = q) (h3 : q ≤ 1000) (hs : ∀ s ∈ strs ls, s.size ≤ 1000)
    (hS : StrV w po q pc (strs ls)) (hP : PathV w ao ds) (hdc : ds.length ≤ cp) (h0 : ao = none → cp = 0) (hcp : 0 < cp → ∃ b off, ao = some ⟨b, off, none⟩) (hz : -9223372036854775808 ≤ z ∧ z ≤ 9223372036854775807) :
    Calls Tryd.prog 45 #[.int .i64 z, dv root, .int .i64 (n : Int), .int .i64 (x : Int), .slice po q pc, .slice ao ds.length cp] w fun e w' => e = .returned (.bool (crB z root n x ls ds)) ∧ Below w.heap.size w w' := by
  have HA : Hid (∀ W, Below w.heap.size w W → Calls Tryd.prog 70 #[.int .i64 z, .int .i64 (n : Int), .int .i64 (x : Int), .slice po q pc, .slice ao ds.length cp] W (OvR z ls x (x + q) 0 n ds W)) := fun W hW => by
    have h := refOver_any z hz ls x (x + q) (by omega) (by omega) (by omega) (by omega) hs n 0 n po pc ao cp ds W (by omega) (by omega) hn (by rw [show x + q - x = q by omega]; exact hS.below hW (Nat.le_refl _)) (hP.below hW (Nat.le_refl _)) hdc h0 hcp
    rw [show ((0 : Nat) : Int) = 0 from rfl, Int.sub_zero, show x + q - x = q by omega] at h
    exact h
  have HCB : Hid (∀ g u ok, OvV z ls x (x + q) 0 n ds g u ok → crB z root n x ls ds = (ok && (u == ((ds.length : Nat) : Int)) && (g == root))) := fun g u ok hv => by
    unfold crB
    rw [Int.toNat_natCast, Int.toNat_natCast, hl]
    cases ok with
    | false =>
      have h1 : ¬ (outL 0 n x (x + q)).length ≤ ds.length := of_decide_eq_false hv.2.1.symm
      rw [decide_eq_false (fun hh => h1 (by rw [hh.2.2.2]; exact Nat.le_refl _))]; rfl
    | true =>
      obtain ⟨e1, e2⟩ := hv.2.2 rfl
      rw [e1, e2]
      by_cases h1 : ds.length = (outL 0 n x (x + q)).length
      · rw [decide_eq_true ⟨hq0, by omega, by omega, h1⟩, h1]; simp
      · rw [decide_eq_false (fun hh => h1 hh.2.2.2)]
        have : ((((outL 0 n x (x + q)).length : Nat) : Int) == ((ds.length : Nat) : Int)) = false := by simp; omega
        rw [this]; rfl
  have HRL : Hid (root.length = 32) := hroot
  have HIR : Hid ((Tryd.prog.info? 24).map (·.size) = some (cellsOf root).toArray.size) := by show _ = _; rw [size24, dig_size hroot]
  obtain ⟨L, HL⟩ : ∃ L : Nat, Hid (ds.length = L) := ⟨_, rfl⟩
  rw [HL.out] at HA HCB ⊢
  have y0 : ((q : Int) == 0) = false := by simp; omega
  have y1 : ¬ (x : Int) < 0 := by omega
  have y1d : decide ((x : Int) < 0) = false := decide_eq_false y1
  have y2 : ¬ (n : Int) < (q : Int) := by omega
  have y2d : decide ((n : Int) < (q : Int)) = false := decide_eq_false y2
  have y2n : decide (n < q) = false := decide_eq_false (by omega)
  have y4' : x ≤ n - q := by omega
  have y3 : wrap64 ((n : Int) - (q : Int)) = ((n - q : Nat) : Int) := wsub (Nat.le_trans (Nat.le_add_left _ _) hxn) hn
  have y3w : IntKind.i64.wrap ((n : Int) - (q : Int)) = ((n - q : Nat) : Int) := (IntWalk.i64_left _).trans y3
  obtain ⟨t, HT⟩ : ∃ t, Hid (n - q = t) := ⟨_, rfl⟩
  rw [HT.out] at y3 y3w y4'
  have y4 : ¬ (t : Int) < (x : Int) := Int.not_lt.2 (Int.ofNat_le.2 y4')
  have y4d : decide ((t : Int) < (x : Int)) = false := decide_eq_false y4
  have y4n : decide (t < x) = false := decide_eq_false (Nat.not_lt.2 y4')
  obtain ⟨res, HRES⟩ : ∃ r, Hid (crB z root n x ls ds = r) := ⟨_, rfl⟩
  rw [HRES.out]
  clear hroot hq0 hxn hn hl h3 hs hS hP hdc h0 hcp hz
  unfold dv
  obtain ⟨cr, HCR⟩ : ∃ c, Hid ((cellsOf root).toArray = c) := ⟨_, rfl⟩
  rw [HCR.out] at HIR ⊢
  go_enter Tryd.func45, Tryd.ntmps45
  have HN0 : Hid ((w.alloc (.cells cr 24)).heap[w.heap.size]? = some (.cells cr 24 (0, 0))) := heap_alloc_new w _
  have HB0 : Hid (Below w.heap.size w (w.alloc (.cells cr 24))) := bel_alloc w _
  go_wp2_with fail
  obtain ⟨W0, HW0⟩ : ∃ W, Hid (w.alloc (.cells cr 24) = W) := ⟨_, rfl⟩
  rw [HW0.out] at HN0 HB0 ⊢
  clear HW0 y0 y1 y1d y2 y2d y2n y3 y3w y4 y4d y4n y4'
  refine (HA.out _ HB0.out).mono ?_
  rintro e w1 ⟨g, u, ok, rfl, hov, hb1⟩
  have HCKD : Hid ((ok && (u == (L : Int)) && (g == root)) = res) := by show _ = _; rw [← HRES.out, HCB.out g u ok hov]
  have HDL : Hid (g.length = 32) := hov.1
  have HID : Hid ((Tryd.prog.info? 24).map (·.size) = some (cellsOf g).toArray.size) := by show _ = _; rw [size24, dig_size hov.1]
  have HN1 : Hid (w1.heap[w.heap.size]? = some (.cells cr 24 (0, 0))) := (hb1.block _ (Array.getElem?_eq_some_iff.1 HN0.out).1).trans HN0.out
  have HB1 : Hid (Below w.heap.size w w1) := HB0.out.trans (hb1.mono HB0.out.size)
  clear hov hb1 HA HCB HN0 HB0
  unfold dv
  have HN2 : Hid ((w1.alloc (.cells #[Value.int IntKind.u8 0, Value.int IntKind.u8 0, Value.int IntKind.u8 0, Value.int IntKind.u8 0, Value.int IntKind.u8 0, Value.int IntKind.u8 0, Value.int IntKind.u8 0, Value.int IntKind.u8 0, Value.int IntKind.u8 0, Value.int IntKind.u8 0, Value.int IntKind.u8 0, Value.int IntKind.u8 0, Value.int IntKind.u8 0, Value.int IntKind.u8 0, Value.int IntKind.u8 0, Value.int IntKind.u8 0, Value.int IntKind.u8 0, Value.int IntKind.u8 0, Value.int IntKind.u8 0, Value.int IntKind.u8 0, Value.int IntKind.u8 0, Value.int IntKind.u8 0, Value.int IntKind.u8 0, Value.int IntKind.u8 0, Value.int IntKind.u8 0, Value.int IntKind.u8 0, Value.int IntKind.u8 0, Value.int IntKind.u8 0, Value.int IntKind.u8 0, Value.int IntKind.u8 0, Value.int IntKind.u8 0, Value.int IntKind.u8 0] 24)).heap[w1.heap.size]? = some (.cells #[Value.int IntKind.u8 0, Value.int IntKind.u8 0, Value.int IntKind.u8 0, Value.int IntKind.u8 0, Value.int IntKind.u8 0, Value.int IntKind.u8 0, Value.int IntKind.u8 0, Value.int IntKind.u8 0, Value.int IntKind.u8 0, Value.int IntKind.u8 0, Value.int IntKind.u8 0, Value.int IntKind.u8 0, Value.int IntKind.u8 0, Value.int IntKind.u8 0, Value.int IntKind.u8 0, Value.int IntKind.u8 0, Value.int IntKind.u8 0, Value.int IntKind.u8 0, Value.int IntKind.u8 0, Value.int IntKind.u8 0, Value.int IntKind.u8 0, Value.int IntKind.u8 0, Value.int IntKind.u8 0, Value.int IntKind.u8 0, Value.int IntKind.u8 0, Value.int IntKind.u8 0, Value.int IntKind.u8 0, Value.int IntKind.u8 0, Value.int IntKind.u8 0, Value.int IntKind.u8 0, Value.int IntKind.u8 0, Value.int IntKind.u8 0] 24 (0, 0))) := heap_alloc_new w1 _
  go_upto_region 4 with (refine wpList_store_row rfl 24 (.tmp 13) (.tmp 44) rfl w1.heap.size (cellsOf g).toArray rfl rfl 24 _ HN2.out (by rw [size24, dig_size HDL.out]) (by rw [dig_size HDL.out]; rfl) (cells_all _) ?_)
  have HR2 := setRow_heap _ _ _ (cellsOf g).toArray _ _ HN2.out
  have HB2 : Below w1.heap.size w1 ((w1.alloc (.cells #[Value.int IntKind.u8 0, Value.int IntKind.u8 0, Value.int IntKind.u8 0, Value.int IntKind.u8 0, Value.int IntKind.u8 0, Value.int IntKind.u8 0, Value.int IntKind.u8 0, Value.int IntKind.u8 0, Value.int IntKind.u8 0, Value.int IntKind.u8 0, Value.int IntKind.u8 0, Value.int IntKind.u8 0, Value.int IntKind.u8 0, Value.int IntKind.u8 0, Value.int IntKind.u8 0, Value.int IntKind.u8 0, Value.int IntKind.u8 0, Value.int IntKind.u8 0, Value.int IntKind.u8 0, Value.int IntKind.u8 0, Value.int IntKind.u8 0, Value.int IntKind.u8 0, Value.int IntKind.u8 0, Value.int IntKind.u8 0, Value.int IntKind.u8 0, Value.int IntKind.u8 0, Value.int IntKind.u8 0, Value.int IntKind.u8 0, Value.int IntKind.u8 0, Value.int IntKind.u8 0, Value.int IntKind.u8 0, Value.int IntKind.u8 0] 24)).setRow w1.heap.size (cellsOf g).toArray) := below_row (bel_alloc w1 _) (Nat.le_refl _) _
  obtain ⟨w2, HW2⟩ : ∃ W, Hid ((w1.alloc (.cells #[Value.int IntKind.u8 0, Value.int IntKind.u8 0, Value.int IntKind.u8 0, Value.int IntKind.u8 0, Value.int IntKind.u8 0, Value.int IntKind.u8 0, Value.int IntKind.u8 0, Value.int IntKind.u8 0, Value.int IntKind.u8 0, Value.int IntKind.u8 0, Value.int IntKind.u8 0, Value.int IntKind.u8 0, Value.int IntKind.u8 0, Value.int IntKind.u8 0, Value.int IntKind.u8 0, Value.int IntKind.u8 0, Value.int IntKind.u8 0, Value.int IntKind.u8 0, Value.int IntKind.u8 0, Value.int IntKind.u8 0, Value.int IntKind.u8 0, Value.int IntKind.u8 0, Value.int IntKind.u8 0, Value.int IntKind.u8 0, Value.int IntKind.u8 0, Value.int IntKind.u8 0, Value.int IntKind.u8 0, Value.int IntKind.u8 0, Value.int IntKind.u8 0, Value.int IntKind.u8 0, Value.int IntKind.u8 0, Value.int IntKind.u8 0] 24)).setRow w1.heap.size (cellsOf g).toArray = W) := ⟨_, rfl⟩
  rw [HW2.out] at HR2 HB2 ⊢
  have HR2 : Hid _ := HR2
  have HC2 : Hid (w2.heap[w.heap.size]? = some (.cells cr 24 (0, 0))) := (HB2.block _ (Array.getElem?_eq_some_iff.1 HN1.out).1).trans HN1.out
  have HBW : Hid (Below w.heap.size w w2) := HB1.out.trans (HB2.mono HB1.out.size)
  clear HW2 HN2 HB2
  cases ok with
  | false =>
    have hres : res = false := by rw [← HCKD.out]; rfl
    subst hres
    go_wp2_with fail
    go_ret
    exact ⟨rfl, HBW.out⟩
  | true =>
    cases hul : (u == (L : Int)) with
    | false =>
      have hres : res = false := by rw [← HCKD.out, hul]; rfl
      subst hres
      have hul2 : ¬ u = (L : Int) := by simpa using hul
      have hul3 : decide (u = (L : Int)) = false := decide_eq_false hul2
      go_wp2_with fail
      go_ret
      exact ⟨rfl, HBW.out⟩
    | true =>
      obtain rfl : u = (L : Int) := by simpa using hul
      have heq := equalIn_dig g root HDL.out HRL.out
      rw [HCR.out, show (g == root) = res from by rw [← HCKD.out, hul]; rfl] at heq
      have hg := guard24
      clear hul
      go_wp2_with (first | (refine wpList_load_rowG (by rfl) 24 (.tmp 13) rfl w1.heap.size rfl 24 (cellsOf g).toArray (0, 0) _ HR2.out Tryd.underlying24 rfl HID.out ?_) | (refine wpList_load_rowG (by rfl) 24 (.tmp 7) rfl w.heap.size rfl 24 cr (0, 0) _ HC2.out Tryd.underlying24 rfl HIR.out ?_))
      go_ret
      exact ⟨rfl, HBW.out⟩
theorem refCr_any (z : Int) (root : List UInt8) (n x : Int) (po : Option Addr) (q pc : Nat) (ls : List LV) (ao : Option Addr) (L cp : Nat) (ds : List (List UInt8)) (w : World) (hroot : root.length = 32) (hn : n ≤ 9223372036854775807) (h3 : q ≤ 1000) (hs : ∀ s ∈ strs ls, s.size ≤ 1000)
    (hS : StrV w po q pc (strs ls)) (hP : PathV w ao ds) (hdl : ds.length = L) (hdc : L ≤ cp) (h0 : ao = none → cp = 0) (hcp : 0 < cp → ∃ b off, ao = some ⟨b, off, none⟩) (hz : -9223372036854775808 ≤ z ∧ z ≤ 9223372036854775807) :
    Calls Tryd.prog 45 #[.int .i64 z, dv root, .int .i64 n, .int .i64 x, .slice po q pc, .slice ao L cp] w fun e w' => e = .returned (.bool (crB z root n x ls ds)) ∧ Below w.heap.size w w' := by
  subst hdl
  have hl : ls.length = q := by have := hS.1; rwa [strs_len] at this
  by_cases h1 : 0 < q ∧ 0 ≤ x ∧ x + q ≤ n
  · obtain ⟨n', rfl⟩ : ∃ m : Nat, n = (m : Int) := ⟨n.toNat, by omega⟩
    obtain ⟨x', rfl⟩ : ∃ m : Nat, x = (m : Int) := ⟨x.toNat, by omega⟩
    exact refCr_some z root n' x' q po pc ls ao cp ds w hroot h1.1 (by omega) (by omega) hl h3 hs hS hP hdc h0 hcp hz
  · have h := refCr_wrong z root n x po q pc (.slice ao ds.length cp) w hn h1
    have e : crB z root n x ls ds = false := by
      unfold crB
      rw [decide_eq_false (fun h => h1 ⟨by rw [← hl]; exact h.1, h.2.1, by rw [← hl]; exact h.2.2.1⟩), Bool.false_and]
    rw [e]; exact h
end Go.Proofs.YtaebpnednhkfhaaDoor

/-
  The statement FrameReads, walked.
-/
import Derived.Test.YtaejcclepahefaaRefL
namespace Go.Proofs.Ytaejcclepahefaa
open Go.RowKit
/-- The cells of texts that are the call's own. -/
theorem str_cell {w : World} {base : Nat} {ao : Option Addr} {n c : Nat} {ts : List (List UInt8)} (h : w.ownsRow base 9 1 (.slice ao n c) n (strC ts)) {i : Nat} {t : List UInt8} (ht : ts[i]? = some t) : ∃ g, ao = some ⟨g, 0, none⟩ ∧ w.cell? ⟨g, i, none⟩ = some (.string (bS t)) := by
  have hl := h.1
  have hi := (List.getElem?_eq_some_iff.1 ht).1
  have hlen : (strC ts).length = ts.length := by simp [strC]
  rcases h.2 with ⟨h1, h2⟩ | ⟨g, cap, cur, h1, hb, hg, hn, hm, hs, ht2⟩
  · omega
  · cases h1
    refine ⟨g, rfl, ?_⟩
    rw [h.cellAt i (by omega)]
    simp [strC, ht]
theorem sv_cell {w : World} {base : Nat} {ao : Option Addr} {n c : Nat} {xs : List SV} (h : w.ownsRow base 28 1 (.slice ao n c) n (svC xs)) {i : Nat} {x : SV} (hx : xs[i]? = some x) : ∃ g, ao = some ⟨g, 0, none⟩ ∧ base ≤ g ∧ w.cell? ⟨g, i, none⟩ = some (.slice x.ao x.n x.c) := by
  have hl := h.1
  have hi := (List.getElem?_eq_some_iff.1 hx).1
  have hlen : (svC xs).length = xs.length := by simp [svC]
  rcases h.2 with ⟨h1, h2⟩ | ⟨g, cap, cur, h1, hb, hg, hn, hm, hs, ht2⟩
  · omega
  · cases h1
    refine ⟨g, rfl, hb, ?_⟩
    rw [h.cellAt i (by omega)]
    simp [svC, hx]
theorem sv_at {w : World} {base g n c : Nat} {xs : List SV} (h : w.ownsRow base 28 1 (.slice (some ⟨g, 0, none⟩) n c) n (svC xs)) {i : Nat} {x : SV} (hx : xs[i]? = some x) : w.cell? ⟨g, i, none⟩ = some (.slice x.ao x.n x.c) := by
  obtain ⟨g', e, -, h2⟩ := sv_cell h hx
  cases e; exact h2
theorem meas_up {b n : Nat} (h : b < n) : n - (intOf (.int .i64 ((b + 1 : Nat) : Int))).toNat < n - (intOf (.int .i64 (b : Int))).toNat := by simp [intOf]; omega
/-- What stands between two rounds: the row of bodies, the row of texts, and the bodies that come yet. -/
structure RI (B B9 : Nat) (xs : List SV) (fs : List (List UInt8)) (lo : Option Addr) (lc : Nat) (ko : Option Addr) (kc L i : Nat) (w0 wr : World) : Prop where
  row : wr.ownsRow B 28 1 (.slice lo L lc) L (svC xs)
  txt : wr.ownsRow B9 9 1 (.slice ko L kc) L (strC fs)
  rest : ∀ j x, i ≤ j → xs[j]? = some x → wr.ownsRow B 5 1 (.slice x.ao x.n x.c) x.n (cellsOf x.bs)
  bel : Below B w0 wr
theorem not_block {w : World} {base e size n : Nat} {v : Value} {xs : List Value} (h : w.ownsRow base e size v n xs) {g t : Nat} {cur : Array Value} {fr : Nat × Nat} (hg : w.heap[g]? = some (Obj.cells cur t fr)) (hne : t ≠ e) : v.ownBlock ≠ some g := by
  intro he
  rcases h.2 with ⟨rfl, _⟩ | ⟨g2, cap, cur2, rfl, _, hg2, _⟩
  · cases he
  · obtain rfl : g2 = g := by simpa [Value.ownBlock] using he
    rw [hg2] at hg; cases hg; exact hne rfl
theorem own_block {w : World} {base e size n c : Nat} {g : Nat} {xs : List Value} {m : Nat} (h : w.ownsRow base e size (.slice (some ⟨g, 0, none⟩) n c) m xs) : base ≤ g ∧ ∃ cur, w.heap[g]? = some (Obj.cells cur e (0, 0)) := by
  rcases h.2 with ⟨h1, _⟩ | ⟨g2, cap, cur2, h1, hb, hg2, _⟩
  · cases h1
  · cases h1; exact ⟨hb, cur2, hg2⟩
/-- A byte that is stored into the body that is at hand. -/
theorem RI.store {B B9 : Nat} {xs : List SV} {fs : List (List UInt8)} {lo : Option Addr} {lc : Nat} {ko : Option Addr} {kc L i : Nat} {w0 wr : World} (h : RI B B9 xs fs lo lc ko kc L (i + 1) w0 wr) (hp : xs.Pairwise fun x y => ∀ p q, x.ao = some p → y.ao = some q → p.block < q.block)
    {x : SV} (hx : xs[i]? = some x) {g n c m : Nat} {zs : List Value} (hxa : x.ao = some ⟨g, 0, none⟩) (ho : wr.ownsRow B 5 1 (.slice (some ⟨g, 0, none⟩) n c) m zs) (k : Nat) (v : Value) : RI B B9 xs fs lo lc ko kc L (i + 1) w0 (wr.setCell ⟨g, k, none⟩ v) := by
  obtain ⟨hBg, cur, hcur⟩ := own_block ho
  have hst : wr.grownBy (wr.setCell ⟨g, k, none⟩ v) (some g) := ⟨rfl, rfl, rfl, by unfold World.setCell; simp, fun j _ hj => Below.heap_setCell wr ⟨g, k, none⟩ v j (fun e => hj (by rw [e]))⟩
  refine ⟨h.row.kept hst (.inr (not_block h.row hcur (by decide))), h.txt.kept hst (.inr (not_block h.txt hcur (by decide))), fun j y hj hy => ?_, h.bel.setCell (p := ⟨g, k, none⟩) hBg v⟩
  refine (h.rest j y hj hy).kept hst (.inr fun e => ?_)
  cases hya : y.ao with
  | none => rw [hya] at e; cases e
  | some q =>
    rw [hya] at e
    have e2 : q.block = g := by simpa [Value.ownBlock] using e
    have hlt : i < j := by omega
    have h1 := List.getElem?_eq_some_iff.1 hx
    have h2 := List.getElem?_eq_some_iff.1 hy
    obtain ⟨b1, rfl⟩ := h1
    obtain ⟨b2, rfl⟩ := h2
    have := List.pairwise_iff_getElem.1 hp i j b1 b2 hlt _ _ hxa hya
    simp only at this
    omega
theorem RI.drewN {B B9 : Nat} {xs : List SV} {fs : List (List UInt8)} {lo : Option Addr} {lc : Nat} {ko : Option Addr} {kc L i : Nat} {w0 wr : World} (h : RI B B9 xs fs lo lc ko kc L i w0 wr) (k : Nat) : RI B B9 xs fs lo lc ko kc L i w0 (wr.drewN k) :=
  have hb : Below wr.heap.size wr (wr.drewN k) := bel_drewN (Below.refl _ _) k
  ⟨own_below h.row hb (Nat.le_refl _), own_below h.txt hb (Nat.le_refl _), fun j x hj hx => own_below (h.rest j x hj hx) hb (Nat.le_refl _), bel_drewN h.bel k⟩
theorem RI.next {B B9 : Nat} {xs : List SV} {fs : List (List UInt8)} {lo : Option Addr} {lc : Nat} {ko : Option Addr} {kc L i : Nat} {w0 wr : World} (h : RI B B9 xs fs lo lc ko kc L i w0 wr) : RI B B9 xs fs lo lc ko kc L (i + 1) w0 wr := ⟨h.row, h.txt, fun j x hj hx => h.rest j x (by omega) hx, h.bel⟩
set_option maxRecDepth 100000 in
set_option maxHeartbeats 4000000 in
theorem reads_walk (a : SV) (w : World) (h1 : Bytes w a.ao a.n a.bs) (f1 : a.fine) :
    Calls Try.prog 12 #[.slice a.ao a.n a.c] w fun e w' => e = .returned (.bool true) ∧ Below w.heap.size w w' := by
  obtain ⟨ao, an, ac, zs⟩ := a
  simp only at h1 ⊢
  have g1 : an ≤ ac := f1.2.1
  have g3 : ac ≤ 9223372036854775807 := f1.2.2
  obtain ⟨m, hm⟩ : ∃ m, min an 3000 = m := ⟨_, rfl⟩
  have hmin : min (an : Int) 3000 = (m : Int) := by omega
  have k1 : (0 : Int) ≤ (m : Int) := by omega
  have k2 : (m : Int) ≤ (ac : Int) := by omega
  obtain ⟨x, HX⟩ : ∃ x, Hid (zs.take m = x) := ⟨_, rfl⟩
  have HA : Hid (∀ W, Below w.heap.size w W → Bytes W ao m x) := fun W hW => by rw [← HX.out]; exact bytes_take (bytes_kept h1 hW (Nat.le_refl _)) m (by omega)
  have FA : Hid (ao = none → ac = 0) := f1.1
  have HXL : Hid (x.length = m) := (HA.out w (Below.refl _ _)).1
  have hm1 : m ≤ 3000 := by omega
  clear h1 f1 HX hm
  go_enter Try.func12, Try.ntmps12
  go_wp2_with fail
  refine (shown_any w).mono ?_
  rintro e w1 ⟨rfl, hb1⟩
  have HB1 : Hid (Below w.heap.size w w1) := hb1
  have hcv := str_bS ac (HA.out w1 hb1)
  have HA1 : Hid (Bytes (w1.alloc (.cells #[] 5)) ao m x) := bytes_kept (HA.out w1 hb1) (bel_alloc w1 (.cells #[] 5)) (Nat.le_refl _)
  have HO1 : Hid ((w1.alloc (.cells #[] 5)).ownsRow w1.heap.size 5 1 (.slice (some ⟨w1.heap.size, 0, none⟩) 0 0) 0 (cellsOf [])) := own_empty w1
  clear hb1
  go_wp2_with (at_builtin; refine wpList_append_bytes _ rfl (.tmp 29) (.tmp 30) rfl w1.heap.size _ 0 [] rfl HO1.out (by simp) ao m ac x rfl HA1.out FA.out (by omega) ?_)
  intro vo w2 hown hb2
  rw [HXL.out] at hown
  obtain ⟨oo, oc, rfl, ho1, ho2, ho3, ho4, -, ho6⟩ := own_bytes hown
  have HB2 : Hid (Below w.heap.size w w2) := HB1.out.trans (((bel_alloc w1 _).trans hb2).mono HB1.out.size)
  have HO2 : Hid (Bytes w2 oo m x) := ho1
  have FO : Hid (SV.fine ⟨oo, m, oc, x⟩) := ⟨ho2, ho3, (by show oc ≤ 9223372036854775807; unfold maxLen at ho4; omega)⟩
  have HLO : Hid (∀ q, oo = some q → q.block < w2.heap.size) := fun q hq => (ho6 q hq).2
  have HN := next_any ⟨oo, m, oc, x⟩ w2 HO2.out FO.out
  have HNN : Hid (Calls Try.prog 46 #[.slice oo m oc] w2 fun e w' => NextR x w2.heap.size e w' ∧ Below w2.heap.size w2 w') := HN
  clear hcv HA1 HO1 hown hb2 ho1 ho2 ho3 ho4 ho6 HN HB1
  go_wp2_with fail
  refine Calls.mono HNN.out ?_
  rintro e w3 ⟨⟨vy, rfl, hown⟩, hb3⟩
  obtain ⟨N1, HN1⟩ : ∃ z, Hid ((nextF x).1 = z) := ⟨_, rfl⟩
  obtain ⟨n2, HN2⟩ : ∃ z, Hid ((nextF x).2.1 = z) := ⟨_, rfl⟩
  obtain ⟨n3, HN3⟩ : ∃ z, Hid ((nextF x).2.2 = z) := ⟨_, rfl⟩
  rw [HN1.out] at hown
  rw [HN2.out, HN3.out]
  obtain ⟨ym, hym⟩ : ∃ ym, N1.length = ym := ⟨_, rfl⟩
  rw [hym] at hown
  have hymle : ym ≤ 65536 := by rw [← hym, ← HN1.out]; exact (nextF_le x).1
  obtain ⟨yo, yc, rfl, hy1, -, hy3, -, -, -⟩ := own_bytes hown
  have HB3 : Hid (Below w2.heap.size w2 w3) := hb3
  have HOW : Hid (w3.ownsRow w2.heap.size 5 1 (.slice yo ym yc) ym (cellsOf N1)) := hown
  have HRN : Hid (Calls Try.prog 47 #[.string (bS x)] w3 fun e w' => e = .returned (.tuple #[.string (bS N1), .int .i64 (n2 : Int), .int .i64 (n3 : Int)]) ∧ Below w3.heap.size w3 w') := by
    have h := refNext_any x w3 (by rw [HXL.out]; omega)
    unfold nextR3 at h
    rw [HN1.out, HN2.out, HN3.out] at h; exact h
  clear hown hb3 hy1 hy3 HNN HN1 HN2 HN3 hym
  go_wp2_with fail
  refine Calls.mono HRN.out ?_
  rintro e w4 ⟨rfl, hb4⟩
  have HB4 : Hid (Below w2.heap.size w2 w4) := HB3.out.trans (hb4.mono HB3.out.size)
  have HOW4 : Hid (w4.ownsRow w2.heap.size 5 1 (.slice yo ym yc) ym (cellsOf N1)) := own_below HOW.out hb4 (Nat.le_refl _)
  have hcv : (convert 28 9 (.slice yo ym yc)).run Try.prog w4 = .ok (.string (bS N1)) w4 := by
    obtain ⟨ao3, c3, e3, hb3, -⟩ := own_bytes HOW4.out
    cases e3; exact str_bS _ hb3
  clear hb4 HRN HOW HB3
  go_wp2_with fail
  clear hcv
  go_loopw [12] (fun i wr => ∃ (k : Nat) (zs : List Value), k ≤ ym ∧ i = .int .i64 k ∧ wr.ownsRow w2.heap.size 5 1 (.slice yo ym yc) ym zs ∧ Below w2.heap.size w2 wr) (fun i _ => ym - (intOf i).toNat)
  case atStart => exact ⟨0, _, by omega, rfl, HOW4.out, HB4.out⟩
  case round =>
    clear HOW4 HB4
    obtain ⟨k, us, hk, rfl, hxr, hbr⟩ := hrel
    by_cases hlt : k < ym
    · obtain ⟨g, cg, e0, hg1, hg2, hg3, hg4⟩ := own_shape hxr (by omega)
      cases e0
      obtain ⟨u0, hu0⟩ : ∃ u0, wr.cell? ⟨g, k, none⟩ = some u0 := by
        rw [hxr.cellAt k (by omega)]
        have hxl := hxr.1
        exact ⟨_, List.getElem?_eq_getElem (by omega)⟩
      have hfz := hxr.frozenAt k
      have HST : Hid ((wr.setCell ⟨g, k, none⟩ (.int .u8 63)).ownsRow w2.heap.size 5 1 (.slice (some ⟨g, 0, none⟩) ym yc) ym _) := (hxr.stored k (.int .u8 63)).1
      have HBK : Hid (Below w2.heap.size w2 (wr.setCell ⟨g, k, none⟩ (.int .u8 63))) := hbr.setCell hg1 _
      clear hxr hbr
      go_wp2
      go_roundw
      case rel => exact ⟨k + 1, _, by omega, by go_num, HST.out, HBK.out⟩
      case measure => simp [intOf]; omega
    · obtain ⟨w5, hw5⟩ : ∃ W, W = wr := ⟨_, rfl⟩
      rw [← hw5] at hxr hbr ⊢
      clear hxr hw5
      have hO5 := bytes_kept HO2.out hbr (Nat.le_refl _)
      have HO5 : Hid (Bytes w5 oo m x) := hO5
      have HB5 : Hid (Below w.heap.size w w5) := HB2.out.trans (hbr.mono HB2.out.size)
      have HLO5 : Hid (∀ q, oo = some q → q.block < w5.heap.size) := fun q hq => Nat.lt_of_lt_of_le (HLO.out q hq) hbr.size
      have HAL := all_any ⟨oo, m, oc, x⟩ w5 hO5 FO.out HLO5.out (by show m ≤ 1000000000; omega)
      simp only at HAL
      obtain ⟨E1, HE1⟩ : ∃ z, Hid (endB x = z) := ⟨_, rfl⟩
      obtain ⟨E2, HE2⟩ : ∃ z, Hid (restE x = z) := ⟨_, rfl⟩
      obtain ⟨fs, HFS⟩ : ∃ z, Hid (framesB x = z) := ⟨_, rfl⟩
      rw [HE1.out, HE2.out, HFS.out] at HAL
      have HALL : Hid _ := HAL
      have HRA : Hid (∀ W, Calls Try.prog 49 #[.string (bS x)] W fun e w' => ∃ v, e = .returned (.tuple #[v, .int .i64 (E1 : Int), .int .i64 (E2 : Int)]) ∧ w'.ownsRow W.heap.size 9 1 v fs.length (strC fs) ∧ Below W.heap.size W w') := fun W => by
        have h := refAll_any x W (by rw [HXL.out]; omega)
        rw [HE1.out, HE2.out, HFS.out] at h; exact h
      have hkn : ¬ (k : Int) < (ym : Int) := by omega
      have hfl : fs.length ≤ 3000 := by have := frames_few x; rw [HFS.out, HXL.out] at this; omega
      clear hbr hO5 HAL HE1 HE2 HFS HO2 HLO HB2
      go_wp2_with fail
      refine Calls.mono HALL.out ?_
      rintro e w6 ⟨vl, xs, rfl, hrow6, htold6, hxs, hb6⟩
      obtain ⟨L, hL⟩ : ∃ L, fs.length = L := ⟨_, rfl⟩
      have hxl : xs.length = L := by rw [← hL, ← hxs, List.length_map]
      rw [hxl] at hrow6
      obtain ⟨lo, lc, rfl⟩ : ∃ lo lc, vl = .slice lo L lc := by
        rcases hrow6.2 with ⟨e1, e2⟩ | ⟨g, cap, cur, e1, _⟩
        · exact ⟨none, 0, by rw [e1, e2]⟩
        · exact ⟨_, _, e1⟩
      have HW6 : Hid (w6.ownsRow w5.heap.size 28 1 (.slice lo L lc) L (svC xs)) := hrow6
      have HT6 : Hid (Told w5.heap.size w6 xs) := htold6
      have HB6 : Hid (Below w5.heap.size w5 w6) := hb6
      have HXS : Hid (xs.map SV.bs = fs ∧ xs.length = L) := ⟨hxs, hxl⟩
      have HRA6 : Hid _ := HRA.out w6
      clear hrow6 htold6 hb6 HALL HRA hxs hxl
      go_wp2_with fail
      refine Calls.mono HRA6.out ?_
      rintro e w7 ⟨vk, rfl, htxt7, hb7⟩
      rw [hL] at htxt7
      obtain ⟨ko, kc, rfl⟩ : ∃ ko kc, vk = .slice ko L kc := by
        rcases htxt7.2 with ⟨e1, e2⟩ | ⟨g, cap, cur, e1, _⟩
        · exact ⟨none, 0, by rw [e1, e2]⟩
        · exact ⟨_, _, e1⟩
      have HR7 : Hid (RI w5.heap.size w6.heap.size xs fs lo lc ko kc L 0 w5 w7) := ⟨own_below HW6.out hb7 (Nat.le_refl _), htxt7, fun j y _ hy => own_below (HT6.out.1 y (List.mem_of_getElem? hy)) hb7 (Nat.le_refl _), HB6.out.trans (hb7.mono HB6.out.size)⟩
      have HPW : Hid (xs.Pairwise fun x y => ∀ p q, x.ao = some p → y.ao = some q → p.block < q.block) := HT6.out.2
      have hL3 : L ≤ 3000 := by omega
      clear htxt7 hb7 HW6 HT6 HB6 HRA6
      go_wp2_with fail
      go_loopw [19] (fun i wr => ∃ (j : Nat), j ≤ L ∧ i = .int .i64 j ∧ RI w5.heap.size w6.heap.size xs fs lo lc ko kc L j w5 wr) (fun i _ => L - (intOf i).toNat)
      case atStart => exact ⟨0, by omega, rfl, HR7.out⟩
      case round =>
        clear HR7
        obtain ⟨j, hj, rfl, hri⟩ := hrel
        by_cases hjl : j < L
        · obtain ⟨y, hy⟩ : ∃ y, xs[j]? = some y := ⟨xs[j]'(by rw [HXS.out.2]; exact hjl), by simp⟩
          have hf : fs[j]? = some y.bs := by rw [← HXS.out.1, List.getElem?_map, hy]; rfl
          obtain ⟨g, rfl, hgB, hcell⟩ := sv_cell hri.row hy
          obtain ⟨g9, rfl, hcell9⟩ := str_cell hri.txt hf
          have HY : Hid (xs[j]? = some y) := hy
          obtain ⟨yo2, yn, yc2, yb⟩ := y
          simp only at hcell hf hcell9
          have hyo := hri.rest j _ (Nat.le_refl _) hy
          simp only at hyo
          have hyB : Bytes wr yo2 yn yb := by
            obtain ⟨ao3, c3, e3, hb3, -⟩ := own_bytes hyo
            cases e3; exact hb3
          have cv : ∀ kk, (convert 28 9 (.slice yo2 yn yc2)).run Try.prog (wr.drewN kk) = .ok (.string (bS yb)) (wr.drewN kk) := fun kk => str_bS _ (bytes_drewN kk hyB)
          have HRI : Hid (RI w5.heap.size w6.heap.size xs fs (some ⟨g, 0, none⟩) lc (some ⟨g9, 0, none⟩) kc L (j + 1) w5 wr) := hri.next
          have HYO : Hid (wr.ownsRow w5.heap.size 5 1 (.slice yo2 yn yc2) yn (cellsOf yb)) := hyo
          have hji : (j : Int) < (L : Int) := by omega
          have hj0 : (0 : Int) ≤ (j : Int) := by omega
          clear hri hyo hyB hf hy
          go_wp2_with fail
          go_quiet (fail)
          have HRI2 : Hid (RI w5.heap.size w6.heap.size xs fs (some ⟨g, 0, none⟩) lc (some ⟨g9, 0, none⟩) kc L (j + 1) w5 (wr.drewN nq)) := HRI.out.drewN nq
          have HYO2 : Hid ((wr.drewN nq).ownsRow w5.heap.size 5 1 (.slice yo2 yn yc2) yn (cellsOf yb)) := own_below HYO.out (bel_drewN (Below.refl _ _) nq) (Nat.le_refl _)
          clear cv HRI HYO hcell hcell9
          generalize wr.drewN nq = w8 at *
          go_wp2_with fail
          go_loopw [20] (fun i wr => ∃ (b : Nat) (us : List Value), b ≤ yn ∧ i = .int .i64 b ∧ RI w5.heap.size w6.heap.size xs fs (some ⟨g, 0, none⟩) lc (some ⟨g9, 0, none⟩) kc L (j + 1) w5 wr ∧ wr.ownsRow w5.heap.size 5 1 (.slice yo2 yn yc2) yn us) (fun i _ => yn - (intOf i).toNat)
          case atStart => exact ⟨0, _, by omega, rfl, HRI2.out, HYO2.out⟩
          case round =>
            clear HRI2 HYO2
            obtain ⟨b, us, hb, rfl, hri, hyo⟩ := hrel
            have hcell : wr.cell? ⟨g, j, none⟩ = some (.slice yo2 yn yc2) := sv_at hri.row HY.out
            by_cases hbl : b < yn
            · obtain ⟨gy, cy, e0, hg1, hg2, hg3, hg4⟩ := own_shape hyo (Nat.lt_of_le_of_lt (Nat.zero_le _) hbl)
              cases e0
              obtain ⟨u0, hu0⟩ : ∃ u0, wr.cell? ⟨gy, b, none⟩ = some u0 := by
                rw [hyo.cellAt b (by rw [Nat.mul_one]; exact hbl)]
                exact ⟨_, List.getElem?_eq_getElem (by rw [hyo.1, Nat.mul_one]; exact hbl)⟩
              have hfz := hyo.frozenAt b
              have HST : Hid ((wr.setCell ⟨gy, b, none⟩ (.int .u8 63)).ownsRow w5.heap.size 5 1 (.slice (some ⟨gy, 0, none⟩) yn yc2) yn _) := (hyo.stored b (.int .u8 63)).1
              have HRS : Hid (RI w5.heap.size w6.heap.size xs fs (some ⟨g, 0, none⟩) lc (some ⟨g9, 0, none⟩) kc L (j + 1) w5 (wr.setCell ⟨gy, b, none⟩ (.int .u8 63))) := hri.store HPW.out HY.out rfl hyo b _
              have hbi : (b : Int) < (yn : Int) := Int.ofNat_lt.2 hbl
              have hb0 : (0 : Int) ≤ (b : Int) := Int.natCast_nonneg _
              have hinc : wrap64 ((b : Int) + 1) = ((b + 1 : Nat) : Int) := winc (Nat.lt_of_lt_of_le hbl (Nat.le_trans hg3 hg4))
              clear hyo hri hmin k1 k2 g1 g3 hm1 hymle hkn hk hlt hfl hL hL3 hj hb hg1 hg2 hg3 hg4 hjl
              go_wp2_with fail
              exact ⟨⟨b + 1, _, hbl, by rw [hinc], HRS.out, HST.out⟩, by rw [hinc]; exact meas_up hbl⟩
            · have hbi : ¬ (b : Int) < (yn : Int) := fun h => hbl (Int.ofNat_lt.1 h)
              have HRJ : Hid (RI w5.heap.size w6.heap.size xs fs (some ⟨g, 0, none⟩) lc (some ⟨g9, 0, none⟩) kc L (j + 1) w5 wr) := hri
              have hinc : wrap64 ((j : Int) + 1) = ((j + 1 : Nat) : Int) := winc (Nat.lt_of_lt_of_le hjl (Nat.le_trans hL3 (by decide)))
              clear hyo hri hmin k1 k2 g1 g3 hm1 hymle hkn hk hlt hfl hL hL3 hj hb hbl
              go_wp2_with fail
              exact ⟨⟨j + 1, hjl, by rw [hinc], HRJ.out⟩, by rw [hinc]; exact meas_up hjl⟩
        · have hji : ¬ (j : Int) < (L : Int) := fun h => hjl (Int.ofNat_lt.1 h)
          have HBF : Hid (Below w.heap.size w wr) := HB5.out.trans (hri.bel.mono HB5.out.size)
          have c1 := str_bS oc (bytes_kept HO5.out hri.bel (Nat.le_refl _))
          clear hri
          go_wp2_with fail
          go_ret
          exact ⟨rfl, HBF.out⟩
end Go.Proofs.Ytaejcclepahefaa

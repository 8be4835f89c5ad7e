/-
  What sum.Of and sum.CRC answer: contracts over this translation. What sum.Kept answers: a contract over this translation. 'append(own, more...)' over this translation, and a block that is written into.
-/
import Derived.Test.YtecacjddggljgaaDoorPartBE
import Derived.Laws.AppendOwnNone
import Derived.Lib.MinMax
namespace Go.Proofs.YtecacjddggljgaaDoor.Sm
open Go.RowKit
theorem shaB_length (all : List UInt8) : (shaB all).length = 32 := by
  rw [shaB, ← digFill_all]; exact digFill_length _ 8 (by omega)
set_option maxRecDepth 100000 in
set_option maxHeartbeats 1000000 in
theorem write_nil (b : Nat) (ao : Option Addr) (cap : Nat) (w : World) :
    Calls Tryd.prog 122 #[.pointer (some ⟨b, 0, none⟩), .slice ao 0 cap] w fun e w' => e = .returned (.tuple #[]) ∧ w' = w := by
  go_enter Tryd.func122, Tryd.ntmps122
  go_wp2
  go_loopw [1] (fun x wr => x = .slice ao 0 cap ∧ wr = w) (fun _ _ => 0)
  case atStart => exact ⟨rfl, rfl⟩
  case round =>
    obtain ⟨rfl, rfl⟩ := hrel
    go_wp2
    go_end0
    exact ⟨rfl, rfl⟩
theorem bytes_or {w : World} {ao : Option Addr} {n : Nat} {bs : List UInt8} (hb : Bytes w ao n bs) : (∀ x, ao = some x → x.block < w.heap.size) ∨ bs = [] := by
  cases hq : bs with
  | nil => exact .inr rfl
  | cons c t =>
    refine .inl (fun x hx => ?_)
    obtain ⟨y, hy, hc⟩ := hb.2 0 c (by rw [hq]; rfl)
    rw [hx] at hy; cases hy
    exact World.block_lt_of_cell? w _ hc
/-- Write, of whatever came in ahead of the Hash. -/
theorem write_old (b B : Nat) (all bs : List UInt8) (ao : Option Addr) (n cap : Nat) (w : World) (hH : HH w b all) (hb : Bytes w ao n bs) (hne : (∀ x, ao = some x → x.block < B) ∨ bs = []) (hB : B ≤ b) (hnc : n ≤ cap) (hcap : cap ≤ 9223372036854775807)
    (hK : WW w 1 ks) (hb0 : 1 < b) (hbs : b < w.heap.size) (hbig : all.length + n < 9223372036854775807) :
    Calls Tryd.prog 122 #[.pointer (some ⟨b, 0, none⟩), .slice ao n cap] w fun e w' => e = .returned (.tuple #[]) ∧ HH w' b (all ++ bs) ∧ Chg b w w' := by
  rcases hne with hne | rfl
  · exact write_any b all bs ao n cap w hH hb (fun x hx => by have := hne x hx; omega) hnc hcap hK hb0 hbs hbig
  · obtain rfl : n = 0 := hb.1.symm
    refine (write_nil b ao cap w).mono ?_
    rintro e w' ⟨rfl, rfl⟩
    exact ⟨rfl, by rw [List.append_nil]; exact hH, Chg.refl _ _⟩
set_option maxRecDepth 100000 in
set_option maxHeartbeats 1000000 in
theorem of_any (ao : Option Addr) (n cap : Nat) (bs : List UInt8) (w : World) (hb : Bytes w ao n bs) (hnc : n ≤ cap) (hcap : cap ≤ 9223372036854774000) (hK : WW w 1 ks) (h0 : 1 < w.heap.size) :
    Calls Tryd.prog 93 #[.slice ao n cap] w fun e w' => e = .returned (.agg (cellsOf (shaB bs)).toArray) ∧ Below w.heap.size w w' := by
  obtain ⟨D, HD⟩ : ∃ D, Hid (D = (cellsOf (shaB bs)).toArray) := ⟨_, rfl⟩
  have hDs : D.size = 32 := by rw [HD.out, List.size_toArray, cellsOf_length, shaB_length]
  have hD1 : D.all (·.oneCell') = true := by rw [HD.out]; exact all_oneCell_toArray (cellsOf_one _)
  rw [← HD.out]
  have hor := bytes_or hb
  have hbl := hb.1
  go_enter Tryd.func93, Tryd.ntmps93
  go_wp2_with fail
  obtain ⟨A, HA⟩ : ∃ A : Array Value, Hid (A = (cellsOf (List.replicate 32 0)).toArray) := ⟨_, rfl⟩
  have hA : A.size = 32 := by rw [HA.out]; rfl
  refine (new_any _).mono ?_
  rintro e w1 ⟨b, rfl, hb1, hb2, hH, hbel1⟩
  have hbelA : Below w.heap.size w w1 := (bel_alloc _ _).trans (hbel1.mono (by simp))
  have hsz : w.heap.size + 1 ≤ b := by simpa using hb1
  have hres : w1.heap[w.heap.size]? = some (.cells A 46) := by
    rw [HA.out]; exact (hbel1.block _ (by simp)).trans (heap_alloc_new _ _)
  have hbw := bytes_kept hb hbelA (Nat.le_refl _)
  have hK1 := hK.below hbelA h0
  clear hbel1 hb1 hb hK
  generalize hn : w.heap.size = r at *
  have HOR : Hid ((∀ x, ao = some x → x.block < r) ∨ bs = []) := hor
  clear hor HA
  go_wp2_with fail
  refine (write_old b r [] bs ao n cap w1 hH hbw HOR.out (by omega) hnc (by omega) hK1 (by omega) hb2 (by simp; omega)).mono ?_
  rintro e w2 ⟨rfl, hH2, hchg⟩
  rw [List.nil_append] at hH2
  have hs2 := hchg.size
  have hK2 := hK1.chg hchg (by omega) (by omega)
  have hres2 := (hchg.block r (by omega) (by omega)).trans hres
  have hbel2 : Below r w w2 := hbelA.trans (hchg.below (by omega) (by omega))
  clear hres hK1 hbw hchg hbelA
  go_wp2_with fail
  refine (sum_any b bs w2 hH2 hK2 (by omega) (by omega) (by omega)).mono ?_
  rintro e w3 ⟨rfl, hbel3⟩
  rw [← HD.out]
  have hres3 := (hbel3.block r (by omega)).trans hres2
  have hbelF : Below r w w3 := hbel2.trans (hbel3.mono (by omega))
  clear hres2 hK2 hH2 hbel3 hbel2 HD
  go_wp2_with (refine wpList_store_row rfl 46 (.tmp 2) (.tmp 9) rfl r D rfl rfl 46 A hres3 ?hs2 ?ho hD1 ?_)
  case hs2 => rw [size24, hDs]
  case ho => rw [hA, hDs]
  refine bodyPost_ret (results_cell_row rfl _ _ r 46 D (0, 0) _ rfl (setRow_heap _ _ _ _ _ _ hres3) Tryd.underlying46 rfl (by rw [size24, hDs])) rfl ?_
  exact ⟨rfl, by rw [hn]; exact below_setRow hbelF (Nat.le_refl _) _⟩

end Go.Proofs.YtecacjddggljgaaDoor.Sm
namespace Go.Proofs.YtecacjddggljgaaDoor.Sm
open Go.RowKit
/-- The first l bits of a byte. -/
def maskB (c : UInt8) (l : Nat) : UInt8 := c &&& UInt8.ofNat (255 - 255 / 2 ^ (min l 8))
def keptB (d : List UInt8) (l : Nat) : Nat → List UInt8
  | 0 => d
  | i + 1 => (keptB d l i).set i (maskB (d.getD i 0) (l - 8 * i))
theorem keptB_length (d : List UInt8) (l : Nat) : ∀ i, (keptB d l i).length = d.length
  | 0 => rfl
  | i + 1 => by rw [keptB, List.length_set, keptB_length d l i]
theorem keptB_later (d : List UInt8) (l j : Nat) : ∀ i, i ≤ j → (keptB d l i).getD j 0 = d.getD j 0
  | 0, _ => rfl
  | i + 1, h => by
    rw [keptB, List.getD, List.getElem?_set_ne (by omega)]
    exact keptB_later d l j i (by omega)
theorem mask_num (c : UInt8) (h : Nat) (hh : h ≤ 8) : bits .andNot .u8 (c.toNat : Int) ((255 / 2 ^ h : Nat) : Int) = ((maskB c h).toNat : Int) := by
  have hp : 255 / 2 ^ h ≤ 255 := Nat.div_le_self _ _
  rw [u8_andNot_nat c.toNat (255 / 2 ^ h) c.toNat_lt (by omega), maskB, Nat.min_eq_left hh, UInt8.toNat_and, toNat_ofNat _ (Nat.lt_of_le_of_lt (Nat.sub_le _ _) (by omega))]
theorem shift_255 (h : Nat) (hh : h ≤ 8) (w : World) : (Op.shift .shr .u8 255 .i64 (h : Int)).run Tryd.prog w = .ok (.int .u8 ((255 / 2 ^ h : Nat) : Int)) w := by
  match h, hh with
  | 0, _ => rfl
  | 1, _ => rfl
  | 2, _ => rfl
  | 3, _ => rfl
  | 4, _ => rfl
  | 5, _ => rfl
  | 6, _ => rfl
  | 7, _ => rfl
  | 8, _ => rfl
set_option maxRecDepth 100000 in
set_option maxHeartbeats 1000000 in
theorem kept_any (ao : Option Addr) (n cap : Nat) (bs : List UInt8) (z : Int) (w : World) (hb : Bytes w ao n bs) (hnc : n ≤ cap) (hcap : cap ≤ 9223372036854774000) (hK : WW w 1 ks) (h0 : 1 < w.heap.size) (hz1 : -9223372036854775808 ≤ z) (hz2 : z ≤ 9223372036854775807) :
    Calls Tryd.prog 67 #[.slice ao n cap, .int .i64 z] w fun e w' => e = .returned (.agg (cellsOf (keptB (shaB bs) (min (max z 0) 256).toNat 32)).toArray) ∧ Below w.heap.size w w' := by
  obtain ⟨L, HL⟩ : ∃ L : Nat, Hid (L = (min (max z 0) 256).toNat) := ⟨_, rfl⟩
  have hL : min (max z 0) 256 = (L : Int) := by rw [HL.out]; omega
  have hL256 : L ≤ 256 := by omega
  rw [← HL.out]
  obtain ⟨d0, HD0⟩ : ∃ d0, Hid (d0 = shaB bs) := ⟨_, rfl⟩
  have hd0 : d0.length = 32 := by rw [HD0.out]; exact shaB_length _
  rw [← HD0.out]
  go_enter Tryd.func67, Tryd.ntmps67
  go_wp2_with fail
  refine (of_any ao n cap bs _ (bytes_kept hb (bel_alloc _ _) (Nat.le_refl _)) hnc hcap (hK.below (bel_alloc _ _) h0) (by simp; omega)).mono ?_
  rintro e w1 ⟨rfl, hbel1⟩
  rw [← HD0.out]
  have hD1 : (cellsOf d0).toArray.all (·.oneCell') = true := all_oneCell_toArray (cellsOf_one _)
  have hbel1' : Below w.heap.size w w1 := (bel_alloc _ _).trans (hbel1.mono (by simp))
  obtain ⟨A, hA, hres⟩ : ∃ A : Array Value, A.size = 32 ∧ w1.heap[w.heap.size]? = some (.cells A 46 (0, 0)) :=
    ⟨_, rfl, (hbel1.block _ (by simp)).trans (heap_alloc_new _ _)⟩
  have hs1 : w.heap.size + 1 ≤ w1.heap.size := by have := hbel1.size; simpa using this
  clear hb hK hbel1
  go_wp2_with (refine wpList_store_to rfl 46 (.tmp 5) (.tmp 10) rfl w1.heap.size (cellsOf d0).toArray rfl rfl 46 (cellsOf (List.replicate 32 0)).toArray ?hz ?hzs ?hzo hD1 ?_)
  case hz => exact heap_alloc_new _ _
  case hzs => rw [size24, List.size_toArray, cellsOf_length, hd0]
  case hzo => simp [cellsOf, hd0]
  intro w2 hblk2 hchg2
  have hs2 : w1.heap.size + 1 ≤ w2.heap.size := by have := hchg2.size; simpa using this
  have hbel2 : Below w1.heap.size w1 w2 := (bel_alloc _ _).trans (hchg2.below (Nat.le_refl _) (by simp))
  have hres2 := (hbel2.block w.heap.size (by omega)).trans hres
  have hbelw2 : Below w.heap.size w w2 := hbel1'.trans (hbel2.mono (by omega))
  clear hchg2 hres hbel1' hbel2 hD1 HL
  generalize hd : w1.heap.size = d at *
  generalize hn : w.heap.size = r at *
  go_wp2_with fail
  go_loopw [6, 14] (fun l t wr => ∃ i : Nat, i ≤ 32 ∧ t = .int .i64 i ∧ l = .int .i64 ((L - 8 * i : Nat) : Int) ∧ Below d w2 wr ∧ wr.heap[d]? = some (.cells (cellsOf (keptB d0 L i)).toArray 46)) (fun _ t _ => (32 - intOf t).toNat)
  case atStart => exact ⟨0, by omega, rfl, by simp, Below.refl _ _, hblk2⟩
  case round =>
    obtain ⟨i, hi, rfl, rfl, hb, hwr⟩ := hrel
    by_cases hi32 : i < 32
    · obtain ⟨l, hl⟩ : ∃ l, L - 8 * i = l := ⟨_, rfl⟩
      obtain ⟨h, hh⟩ : ∃ h, h = min l 8 := ⟨_, rfl⟩
      rw [hl]
      have hmin : min (l : Int) 8 = (h : Int) := by omega
      have hh8 : h ≤ 8 := by omega
      have hlen : (keptB d0 L i).length = 32 := by rw [keptB_length, hd0]
      have hcell : wr.cell? ⟨d, i, none⟩ = some (.int .u8 ((keptB d0 L i).getD i 0).toNat) := by rw [cell_of_row wr d i _ _ _ hwr]; exact cellsOf_getD _ _ (by omega)
      have hfz := frozen_of_row wr d i _ _ hwr
      rw [keptB_later d0 L i i (Nat.le_refl _)] at hcell
      have HNEW : Hid ((cellsOf (keptB d0 L i)).toArray.setIfInBounds i (.int .u8 (maskB (d0.getD i 0) h).toNat) = (cellsOf (keptB d0 L (i + 1))).toArray) := by
        show _ = _
        rw [List.setIfInBounds_toArray, keptB, hl]
        have : maskB (d0.getD i 0) l = maskB (d0.getD i 0) h := by rw [hh]; simp [maskB]
        rw [this]
        simp [cellsOf, List.map_set]
      have HMASK : Hid (bits .andNot .u8 ((d0.getD i 0).toNat : Int) ((255 : Int) / 2 ^ h) = ((maskB (d0.getD i 0) h).toNat : Int)) := by
        show _ = _
        rw [← mask_num (d0.getD i 0) h hh8]; simp
      generalize d0.getD i 0 = c at *
      have hcl := c.toNat_lt
      have hsh := shift_255 h hh8
      have HHH : Hid (h = min l 8) := hh
      have hlh : (h : Int) ≤ (l : Int) := by omega
      have hl256 : (l : Int) ≤ 256 := by omega
      have e1 : (i : Int) < 32 := by omega
      have e0 : (0 : Int) ≤ (i : Int) := by omega
      have HLL : Hid (L - 8 * i = l) := hl
      clear hh hl
      go_wp2_with fail
      go_region
      rw [HMASK.out]
      obtain ⟨hb3, hwr3⟩ := set_word (Nat.le_refl _) hb hwr HNEW.out
      generalize (wr.setCell _ _).drew = w3 at *
      clear hb hwr hcell hfz hsh HNEW HMASK hmin
      go_wp2
      go_roundw
      case rel => exact ⟨i + 1, by omega, by go_num, by have := HLL.out; have := HHH.out; first | (congr 1; omega) | (rw [show (l : Int) - (h : Int) = ((L - 8 * (i + 1) : Nat) : Int) by omega]), hb3, hwr3⟩
      case measure => simp [intOf]; omega
    · have hi' : i = 32 := by omega
      have hres5 := (hb.block r (by omega)).trans hres2
      have hbn : Below r w wr := hbelw2.trans (hb.mono (by omega))
      obtain ⟨D, HD⟩ : ∃ D, Hid (D = (cellsOf (keptB d0 L i)).toArray) := ⟨_, rfl⟩
      have hcs : D.size = 32 := by rw [HD.out, List.size_toArray, cellsOf_length, keptB_length, hd0]
      have hone : D.all (·.oneCell') = true := by rw [HD.out]; exact all_oneCell_toArray (cellsOf_one _)
      rw [← HD.out] at hwr
      have HD2 : Hid (D = (cellsOf (keptB d0 L 32)).toArray) := by show _ = _; rw [HD.out, hi']
      clear hblk2 hres2 hb hbelw2 HD
      go_wp2_with (first | (refine wpList_load_row rfl 46 (.tmp 5) rfl d rfl 46 D (0, 0) _ hwr Tryd.underlying46 rfl ?hs ?_) | (refine wpList_store_row rfl 46 (.tmp 4) (.tmp 30) rfl r D rfl rfl 46 A hres5 ?hs2 ?ho hone ?_))
      case hs => rw [size24, hcs]
      case hs2 => rw [size24, hcs]
      case ho => rw [hA, hcs]
      refine bodyPost_ret (results_cell_row rfl _ _ r 46 D (0, 0) _ rfl (setRow_heap _ _ _ _ _ _ hres5) Tryd.underlying46 rfl (by rw [size24, hcs])) rfl ?_
      exact ⟨by rw [HD2.out], by rw [hn]; exact below_setRow hbn (Nat.le_refl _) _⟩
end Go.Proofs.YtecacjddggljgaaDoor.Sm
namespace Go.Proofs.YtecacjddggljgaaDoor.Sm
open Go.RowKit

/-- 'append(own, more...)'. -/
theorem wpList_append_bytes {ops : Array Oper} {rest : List Oper} {o : Oper} {a : Act} {Q : Exit → Act → World → Prop} (w : World)
    (hg : o.guard = none) (s x : Operand) (hop : o.op = Op.call { callee := Callee.builtin Builtin.append, args := #[s, x], argTypes := #[27, 27] })
    (base : Nat) (v : Value) (n : Nat) (bs : List UInt8) (hs : a.eval s = v) (hown : w.ownsRow base 5 1 v n (cellsOf bs)) (hbase : base ≤ w.heap.size)
    (ao : Option Addr) (m c : Nat) (ms : List UInt8) (hx : a.eval x = .slice ao m c) (hm : Bytes w ao m ms) (h0 : ao = none → c = 0)
    (hb : n + m ≤ 140737488355328)
    (hK : ∀ v' w', w'.ownsRow base 5 1 v' (bs ++ ms).length (cellsOf (bs ++ ms)) → Below base w w' → wpList Tryd.prog ops Q rest (a.put o.dst v') w') :
    wpList Tryd.prog ops Q (o :: rest) a w := by
  obtain ⟨i0, hi, hz0, hz1, hz2⟩ := info_parts info5
  have hn : n = bs.length := by have := hown.1; rw [cellsOf_length] at this; omega
  have hml := hm.1
  cases ao with
  | none =>
    have hms : ms = [] := by
      cases ms with
      | nil => rfl
      | cons b t =>
        obtain ⟨y, hy, _⟩ := hm.2 0 b (by simp)
        cases hy
    subst hms
    obtain rfl := h0 rfl
    have hm0 : m = 0 := by simpa using hml.symm
    subst hm0
    refine wpList_append_own_none hg s x 27 hop base 5 i0 1 Tryd.underlying27 hi v n (cellsOf bs) hs hown hx ?_
    exact hK v w (by rw [List.append_nil, ← hn]; exact hown) (Below.refl _ _)
  | some ad =>
    refine wpList_append_own w hg s x 27 hop base 5 i0 (.int .u8 0) 1 1 Tryd.underlying27 hi hz0 hz1 hz2 rfl (by decide) v n (cellsOf bs) hs hown ad m c (cellsOf ms) hx (by rw [cellsOf_length]; omega) ?_ (cellsOf_one ms) (by unfold maxLen; omega) (by omega) hbase ?_
    · intro j u hu
      obtain ⟨c, hc, rfl⟩ := cellsOf_at hu
      obtain ⟨y, hy, hcell⟩ := hm.2 j c hc
      cases hy
      exact hcell
    · intro v' w' h1 h2 _
      refine hK v' w' ?_ ((Below.refl _ _).grown h2 hbase (fun k hk => (hown.lt k hk).1))
      rw [List.length_append, hml, ← hn, cellsOf_append]
      exact h1

/-- The same, for a reader: the new slice written out, its numbers letters. -/
theorem wpList_append_read {ops : Array Oper} {rest : List Oper} {o : Oper} {a : Act} {Q : Exit → Act → World → Prop} (w : World)
    (hg : o.guard = none) (s x : Operand) (hop : o.op = Op.call { callee := Callee.builtin Builtin.append, args := #[s, x], argTypes := #[27, 27] })
    (base : Nat) (v : Value) (n : Nat) (bs : List UInt8) (hs : a.eval s = v) (hown : w.ownsRow base 5 1 v n (cellsOf bs)) (hbase : base ≤ w.heap.size)
    (ao : Option Addr) (m c : Nat) (ms : List UInt8) (hx : a.eval x = .slice ao m c) (hm : Bytes w ao m ms) (h0 : ao = none → c = 0)
    (hb : n + m ≤ 140737488355328)
    (hK : ∀ ao' n' c' w', Bytes w' ao' n' (bs ++ ms) → n' ≤ c' → c' ≤ 9223372036854775807 → n' ≤ n + m → Below base w w' → wpList Tryd.prog ops Q rest (a.put o.dst (.slice ao' n' c')) w') :
    wpList Tryd.prog ops Q (o :: rest) a w := by
  refine wpList_append_bytes w hg s x hop base v n bs hs hown hbase ao m c ms hx hm h0 hb ?_
  intro v' w' hown' hbel'
  obtain ⟨ao3, c3, rfl, hb3, _, hlc3, hcm3, _, _⟩ := own_bytes hown'
  have hn : n = bs.length := by have := hown.1; rw [cellsOf_length] at this; omega
  have hml := hm.1
  exact hK ao3 _ c3 w' hb3 hlc3 (by unfold maxLen at hcm3; omega) (by rw [List.length_append]; omega) hbel'

/-- The block of a row that is the call's own. -/
theorem own_cells {w : World} {base : Nat} {v : Value} {n : Nat} {bs : List UInt8} (h : w.ownsRow base 5 1 v n (cellsOf bs)) (hn : 0 < n) :
    ∃ g c R, v = .slice (some ⟨g, 0, none⟩) n c ∧ base ≤ g ∧ g < w.heap.size ∧ n ≤ c ∧ c ≤ 9223372036854775807 ∧ w.heap[g]? = some (.cells (cellsOf bs ++ R).toArray 5 (0, 0)) := by
  rcases h.2 with ⟨rfl, h0⟩ | ⟨g, cap, cur, rfl, hb, hg, hn', hm, hs, ht⟩
  · omega
  · refine ⟨g, cap, cur.toList.drop n, rfl, hb, (Array.getElem?_eq_some_iff.1 hg).1, hn', by unfold maxLen at hm; omega, ?_⟩
    rw [hg]
    have : cellsOf bs = cur.toList.take n := by rw [← ht]; simp
    rw [this, List.take_append_drop]
end Go.Proofs.YtecacjddggljgaaDoor.Sm

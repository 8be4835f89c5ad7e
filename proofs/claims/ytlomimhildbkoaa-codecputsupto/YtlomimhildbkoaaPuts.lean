/-
  The walk over marlstonelaw01.CodecPuts.
-/
import Derived.Test.YtlomimhildbkoaaGets
import Derived.Deep.RegionHeld3
namespace Go.Proofs.Ytlomimhildbkoaa
open Go.RowKit

theorem own_shape {w : World} {base : Nat} {v : Value} {n : Nat} {xs : List Value} (h : w.ownsRow base 5 1 v n xs) (hn : 0 < n) :
    ∃ g c, v = .slice (some ⟨g, 0, none⟩) n c ∧ base ≤ g ∧ g < w.heap.size ∧ n ≤ c ∧ c ≤ 9223372036854775807 := by
  rcases h.2 with ⟨rfl, h0⟩ | ⟨g, cap, cur, rfl, hb, hg, hn, hm, hs, ht⟩
  · omega
  · exact ⟨g, cap, rfl, hb, (Array.getElem?_eq_some_iff.1 hg).1, hn, by unfold maxLen at hm; omega⟩

theorem own_below {w w' : World} {B base : Nat} {e : TypeId} {size : Nat} {v : Value} {n : Nat} {xs : List Value} (h : w.ownsRow base e size v n xs) (hb : Below B w w') (hB : w.heap.size ≤ B) : w'.ownsRow base e size v n xs := by
  refine ⟨h.1, ?_⟩
  rcases h.2 with hn | ⟨g, cap, cur, rfl, hbg, hg, r⟩
  · exact .inl hn
  · have hlt := (Array.getElem?_eq_some_iff.1 hg).1
    exact .inr ⟨g, cap, cur, rfl, hbg, by rw [hb.block g (by omega)]; exact hg, r⟩

theorem own_row_bytes {w : World} {base g m c : Nat} {bs : List UInt8} (h : w.ownsRow base 5 1 (.slice (some ⟨g, 0, none⟩) m c) m (cellsOf bs)) : Bytes w (some ⟨g, 0, none⟩) m bs := by
  obtain ⟨ao', c', he, hb', _⟩ := own_bytes h
  cases he
  exact hb'

theorem bytes_drew1 {w : World} {ao : Option Addr} {n : Nat} {bs : List UInt8} (h : Bytes w ao n bs) : Bytes w.drew ao n bs := bytes_kept h (Below.drew (Below.refl w.heap.size w)) (Nat.le_refl _)

theorem put_shape (ao : Option Addr) (n cap : Nat) (bs : List UInt8) (v : Nat) (m : Nat) (hm : (bs ++ putB v).length = m) (w : World) (hn : n ≤ cap) (hcap : cap ≤ 9223372036854775807) (h0 : ao = none → cap = 0) (hb : Bytes w ao n bs) (hv : v < 18446744073709551616) (hbig : n ≤ 140737488355000) :
    Calls Try.prog 10 #[.slice ao n cap, .int .u64 v] w fun e w' => ∃ g c, e = .returned (.slice (some ⟨g, 0, none⟩) m c) ∧ w'.ownsRow w.heap.size 5 1 (.slice (some ⟨g, 0, none⟩) m c) m (cellsOf (bs ++ putB v)) ∧ w.heap.size ≤ g ∧ g < w'.heap.size ∧ Below w.heap.size w w' := by
  refine (put_any ao n cap bs v w hn hcap h0 hb hv hbig).mono ?_
  rintro e w' ⟨v', rfl, hown, hbel⟩
  rw [hm] at hown
  have hp := putB_pos v
  obtain ⟨g, c, rfl, h1, h2, h3, h4⟩ := own_shape hown (by rw [← hm, List.length_append]; omega)
  exact ⟨g, c, rfl, hown, h1, h2, hbel⟩

theorem putText_shape (ao : Option Addr) (n cap : Nat) (bs : List UInt8) (s : ByteArray) (m : Nat) (hm : (bs ++ textB (strB s)).length = m) (w : World) (hn : n ≤ cap) (hcap : cap ≤ 9223372036854775807) (h0 : ao = none → cap = 0) (hb : Bytes w ao n bs) (hbig : n + s.size ≤ 140737488355000) :
    Calls Try.prog 11 #[.slice ao n cap, .string s] w fun e w' => ∃ g c, e = .returned (.slice (some ⟨g, 0, none⟩) m c) ∧ w'.ownsRow w.heap.size 5 1 (.slice (some ⟨g, 0, none⟩) m c) m (cellsOf (bs ++ textB (strB s))) ∧ w.heap.size ≤ g ∧ g < w'.heap.size ∧ Below w.heap.size w w' := by
  refine (putText_any ao n cap bs s w hn hcap h0 hb hbig).mono ?_
  rintro e w' ⟨v', rfl, hown, hbel⟩
  rw [hm] at hown
  have hp := putB_pos (strB s).length
  obtain ⟨g, c, rfl, h1, h2, h3, h4⟩ := own_shape hown (by rw [← hm, List.length_append, textB, List.length_append]; omega)
  exact ⟨g, c, rfl, hown, h1, h2, hbel⟩

theorem putFixed_shape (ao : Option Addr) (n cap : Nat) (bs : List UInt8) (v : Nat) (m : Nat) (hm : (bs ++ fixB v).length = m) (w : World) (hn : n ≤ cap) (hcap : cap ≤ 9223372036854775807) (h0 : ao = none → cap = 0) (hb : Bytes w ao n bs) (hv : v < 4294967296) (hbig : n ≤ 140737488355000) :
    Calls Try.prog 12 #[.slice ao n cap, .int .u32 v] w fun e w' => ∃ g c, e = .returned (.slice (some ⟨g, 0, none⟩) m c) ∧ Bytes w' (some ⟨g, 0, none⟩) m (bs ++ fixB v) ∧ Below w.heap.size w w' := by
  refine (putFixed_any ao n cap bs v w hn hcap h0 hb hv hbig).mono ?_
  rintro e w' ⟨v', rfl, hown, hbel⟩
  rw [hm] at hown
  obtain ⟨g, c, rfl, h1, h2, h3, h4⟩ := own_shape hown (by rw [← hm, List.length_append, fixB]; simp)
  obtain ⟨ao', c', he, hb', _⟩ := own_bytes hown
  cases he
  exact ⟨g, c, rfl, hb', hbel⟩

/-- 'append([]byte{}, b...)' for a reader who may append to it: as 'wpList_append_read', and what a nil one would be. -/
theorem wpList_append_copy {ops : Array Oper} {rest : List Oper} {o : Oper} {a : Act} {Q : Exit → Act → World → Prop} (w : World)
    (hg : o.guard = none) (s x : Operand) (hop : o.op = Op.call { callee := Callee.builtin Builtin.append, args := #[s, x], argTypes := #[22, 22] })
    (base : Nat) (v : Value) (hs : a.eval s = v) (hown : w.ownsRow base 5 1 v 0 (cellsOf [])) (hbase : base ≤ w.heap.size)
    (ao : Option Addr) (m c : Nat) (ms : List UInt8) (hx : a.eval x = .slice ao m c) (hm : Bytes w ao m ms) (h0 : ao = none → c = 0)
    (hb : m ≤ 140737488355328)
    (hK : ∀ ao' c' w', Bytes w' ao' m ms → m ≤ c' → c' ≤ 9223372036854775807 → (ao' = none → c' = 0) → Below base w w' → wpList Try.prog ops Q rest (a.put o.dst (.slice ao' m c')) w') :
    wpList Try.prog ops Q (o :: rest) a w := by
  refine wpList_append_bytes w hg s x hop base v 0 [] hs hown hbase ao m c ms hx hm h0 (by omega) ?_
  intro v' w' hown' hbel'
  rw [List.nil_append, hm.1] at hown'
  obtain ⟨ao3, c3, rfl, hb3, h03, hlc3, hcm3, _, _⟩ := own_bytes hown'
  exact hK ao3 c3 w' hb3 hlc3 (by unfold maxLen at hcm3; omega) h03 hbel'

set_option maxRecDepth 100000 in
set_option maxHeartbeats 1000000 in
theorem puts_walk (ao : Option Addr) (len cap : Nat) (bs : List UInt8) (v : Nat) (s : ByteArray) (u : Nat) (w : World) (hb : Bytes w ao len bs) (h0 : ao = none → cap = 0) (hlc : len ≤ cap) (hcap : cap ≤ 1048576)
    (hs : s.size ≤ 1048576) (hv : v < 18446744073709551616) (hu : u < 4294967296) :
    Calls Try.prog 3 #[.slice ao len cap, .int .u64 v, .string s, .int .u32 u] w fun e w' => e = .returned (.bool true) ∧ Below w.heap.size w w' := by
  have hlen := hb.1
  obtain ⟨m1, hm1⟩ : ∃ m, (bs ++ putB v).length = m := ⟨_, rfl⟩
  obtain ⟨m2, hm2⟩ : ∃ m, (bs ++ textB (strB s)).length = m := ⟨_, rfl⟩
  obtain ⟨m3, hm3⟩ : ∃ m, (bs ++ fixB u).length = m := ⟨_, rfl⟩
  have hm1b : m1 ≤ 1048600 := by rw [← hm1, List.length_append]; have := putB_le v; omega
  have hm2b : m2 ≤ 3000000 := by rw [← hm2, List.length_append, textB, List.length_append, strB_length]; have := putB_le s.size; omega
  have HM1 : Hid ((bs ++ putB v).length = m1) := hm1
  have HM2 : Hid ((bs ++ textB (strB s)).length = m2) := hm2
  have HM3 : Hid ((bs ++ fixB u).length = m3) := hm3
  obtain ⟨q, hq⟩ : ∃ q : ByteArray, q = ⟨bs.toArray⟩ := ⟨_, rfl⟩
  have hqB : strB q = bs := by rw [hq]; exact strB_mk bs
  have hqs : q.size ≤ 1048576 := by rw [← strB_length, hqB]; omega
  have hstr : ∀ {w' : World} {ao' : Option Addr} {n' : Nat} (c' : Nat), Bytes w' ao' n' bs → (convert 22 9 (.slice ao' n' c')).run Try.prog w' = .ok (.string q) w' := fun c' h => by rw [hq]; exact str_bytes c' h
  have R1 := fun w => refPut_any q v w hv (by omega)
  have R2 := fun w => refPutText_any q s w (by omega) (by omega)
  have R3 := fun w => refPutFixed_any q u w (by omega) hu
  rw [hqB] at R1 R2 R3
  have HS : Hid (∀ {w' : World} {ao' : Option Addr} {n' : Nat} (c' : Nat), Bytes w' ao' n' bs → (convert 22 9 (.slice ao' n' c')).run Try.prog w' = .ok (.string q) w') := hstr
  obtain ⟨qx, hqx⟩ : ∃ q : ByteArray, q = ⟨(bs ++ putB v).toArray⟩ := ⟨_, rfl⟩
  obtain ⟨qy, hqy⟩ : ∃ q : ByteArray, q = ⟨(bs ++ textB (strB s)).toArray⟩ := ⟨_, rfl⟩
  obtain ⟨qz, hqz⟩ : ∃ q : ByteArray, q = ⟨(bs ++ fixB u).toArray⟩ := ⟨_, rfl⟩
  rw [← hqx] at R1
  rw [← hqy] at R2
  rw [← hqz] at R3
  have HX : Hid (∀ {w' : World} {ao' : Option Addr} {n' : Nat} (c' : Nat), Bytes w' ao' n' (bs ++ putB v) → (convert 22 9 (.slice ao' n' c')).run Try.prog w' = .ok (.string qx) w') := fun c' h => by rw [hqx]; exact str_bytes c' h
  have HY : Hid (∀ {w' : World} {ao' : Option Addr} {n' : Nat} (c' : Nat), Bytes w' ao' n' (bs ++ textB (strB s)) → (convert 22 9 (.slice ao' n' c')).run Try.prog w' = .ok (.string qy) w') := fun c' h => by rw [hqy]; exact str_bytes c' h
  have HZ : Hid (∀ {w' : World} {ao' : Option Addr} {n' : Nat} (c' : Nat), Bytes w' ao' n' (bs ++ fixB u) → (convert 22 9 (.slice ao' n' c')).run Try.prog w' = .ok (.string qz) w') := fun c' h => by rw [hqz]; exact str_bytes c' h
  clear hstr hqB hq hlen hm1 hm2 hm3 hqx hqy hqz
  go_enter Try.func3, Try.ntmps3
  go_wp2_with fail
  refine (shown_any w).mono ?_
  rintro e w1 ⟨rfl, hbel⟩
  have hb1 := bytes_kept hb hbel (Nat.le_refl _)
  have hb2 := bytes_kept hb1 (bel_alloc w1 (.cells #[] 5)) (Nat.le_refl _)
  have hown := own_empty w1
  clear hb
  go_wp2_with (at_builtin; refine wpList_append_copy _ rfl (.tmp 20) (.tmp 21) rfl w1.heap.size _ rfl hown ?hbase ao len cap bs rfl hb2 h0 ?hb ?_)
  case hbase => simp
  case hb => omega
  intro ao2 c2 w2 hbo hlc2 hcm2 h02 hbel2
  have hB2 : Below w1.heap.size w1 w2 := (bel_alloc w1 _).trans hbel2
  have hb3 := bytes_kept hb1 hB2 (Nat.le_refl _)
  have hB : Below w.heap.size w w2 := hbel.trans (hB2.mono hbel.size)
  clear hown hb2 hbel2 hB2 hb1 hbel
  go_wp2_with fail
  refine (put_shape ao2 len c2 bs v m1 HM1.out _ hlc2 hcm2 h02 hbo hv (by omega)).mono ?_
  rintro e w3 ⟨g3, c3, rfl, hx3, hg3, hl3, hbel3⟩
  have hbo3 := bytes_kept hbo hbel3 (Nat.le_refl _)
  go_wp2_with fail
  refine (putText_shape ao2 len c2 bs s m2 HM2.out _ hlc2 hcm2 h02 hbo3 (by omega)).mono ?_
  rintro e w4 ⟨g4, c4, rfl, hy4, hg4, hl4, hbel4⟩
  have hbo4 := bytes_kept hbo3 hbel4 (Nat.le_refl _)
  have hx4 := own_below hx3 hbel4 (Nat.le_refl _)
  go_wp2_with fail
  refine (putFixed_shape ao2 len c2 bs u m3 HM3.out _ hlc2 hcm2 h02 hbo4 hu (by omega)).mono ?_
  rintro e w5 ⟨g5, c5, rfl, hz5, hbel5⟩
  have hx5 := own_below hx4 hbel5 (Nat.le_refl _)
  have hy5 := own_below hy4 hbel5 (Nat.le_refl _)
  have hB5 : Below w2.heap.size w2 w5 := hbel3.trans ((hbel4.mono hbel3.size).trans (hbel5.mono (Nat.le_trans hbel3.size hbel4.size)))
  have hsz1 : w2.heap.size ≤ w3.heap.size := hbel3.size
  have hsz2 : w3.heap.size ≤ w4.heap.size := hbel4.size
  clear hx3 hx4 hy4 hbo3 hbo4 hbel3 hbel4 hbel5
  have hb5 := bytes_kept hb3 hB5 (Nat.le_refl _)
  have hbx5 := own_row_bytes hx5
  have hby5 := own_row_bytes hy5
  have hbo5 := bytes_kept hbo hB5 (Nat.le_refl _)
  go_wp2
  have hS5 := And.intro (HX.out c3 (bytes_drew1 hbx5)) (HS.out cap (bytes_drew1 hb5))
  go_region_held3 (fun w' => (convert 22 9 (.slice (some ⟨g3, 0, none⟩) m1 c3)).run Try.prog w' = .ok (.string qx) w' ∧ (convert 22 9 (.slice ao len cap)).run Try.prog w' = .ok (.string q) w') (assumption) ((go_at_call 13; refine (R1 _).mono ?_; rintro e w6 ⟨rfl, hbel6⟩; have hS6 := And.intro (HX.out c3 (bytes_kept (bytes_drew1 hbx5) hbel6 (Nat.le_refl _))) (HS.out cap (bytes_kept (bytes_drew1 hb5) hbel6 (Nat.le_refl _)))))
  have hD6 : Below w5.heap.size w5 w6 := (Below.drew (Below.refl _ _)).trans hbel6
  have hB6 : Below w2.heap.size w2 w6 := hB5.trans (hD6.mono hB5.size)
  have hb6 := bytes_kept hb5 hD6 (Nat.le_refl _)
  have hbo6 := bytes_kept hbo5 hD6 (Nat.le_refl _)
  have hx6 := own_below hx5 hD6 (Nat.le_refl _)
  have hy6 := own_below hy5 hD6 (Nat.le_refl _)
  have hby6 := own_row_bytes hy6
  have hz6 := bytes_kept hz5 hD6 (Nat.le_refl _)
  clear hbx5 hS5 hS6 hbel6 hD6 hB5 hb5 hbo5 hx5 hy5 hby5 hz5
  go_wp2
  have hS6 := And.intro (HY.out c4 (bytes_drew1 hby6)) (HS.out cap (bytes_drew1 hb6))
  go_region_held3 (fun w' => (convert 22 9 (.slice (some ⟨g4, 0, none⟩) m2 c4)).run Try.prog w' = .ok (.string qy) w' ∧ (convert 22 9 (.slice ao len cap)).run Try.prog w' = .ok (.string q) w') (assumption) ((go_at_call 14; refine (R2 _).mono ?_; rintro e w7 ⟨rfl, hbel7⟩; have hS7 := And.intro (HY.out c4 (bytes_kept (bytes_drew1 hby6) hbel7 (Nat.le_refl _))) (HS.out cap (bytes_kept (bytes_drew1 hb6) hbel7 (Nat.le_refl _)))))
  have hD7 : Below w6.heap.size w6 w7 := (Below.drew (Below.refl _ _)).trans hbel7
  have hB7 : Below w2.heap.size w2 w7 := hB6.trans (hD7.mono hB6.size)
  have hb7 := bytes_kept hb6 hD7 (Nat.le_refl _)
  have hbo7 := bytes_kept hbo6 hD7 (Nat.le_refl _)
  have hx7 := own_below hx6 hD7 (Nat.le_refl _)
  have hy7 := own_below hy6 hD7 (Nat.le_refl _)
  have hby7 := own_row_bytes hy7
  have hz7 := bytes_kept hz6 hD7 (Nat.le_refl _)
  clear hS6 hS7 hbel7 hD7 hB6 hb6 hbo6 hx6 hy6 hby6 hz6
  go_wp2
  have hS7 := And.intro (HZ.out c5 (bytes_drew1 hz7)) (HS.out cap (bytes_drew1 hb7))
  go_region_held3 (fun w' => (convert 22 9 (.slice (some ⟨g5, 0, none⟩) m3 c5)).run Try.prog w' = .ok (.string qz) w' ∧ (convert 22 9 (.slice ao len cap)).run Try.prog w' = .ok (.string q) w') (assumption) ((go_at_call 15; refine (R3 _).mono ?_; rintro e w8 ⟨rfl, hbel8⟩; have hS8 := And.intro (HZ.out c5 (bytes_kept (bytes_drew1 hz7) hbel8 (Nat.le_refl _))) (HS.out cap (bytes_kept (bytes_drew1 hb7) hbel8 (Nat.le_refl _)))))
  have hD8 : Below w7.heap.size w7 w8 := (Below.drew (Below.refl _ _)).trans hbel8
  have hB8 : Below w2.heap.size w2 w8 := hB7.trans (hD8.mono hB7.size)
  have hb8 := bytes_kept hb7 hD8 (Nat.le_refl _)
  have hbo8 := bytes_kept hbo7 hD8 (Nat.le_refl _)
  have hx8 := own_below hx7 hD8 (Nat.le_refl _)
  have hy8 := own_below hy7 hD8 (Nat.le_refl _)
  clear hS7 hS8 hbel8 hD8 hB7 hb7 hbo7 hx7 hy7 hby7 hz7 R1 R2 R3 HX HY HZ
  go_wp2
  go_loopw [17] (fun i wr => ∃ (k : Nat) (xs ys : List Value), k ≤ m1 ∧ i = .int .i64 k ∧ wr.ownsRow w2.heap.size 5 1 (.slice (some ⟨g3, 0, none⟩) m1 c3) m1 xs ∧ wr.ownsRow w3.heap.size 5 1 (.slice (some ⟨g4, 0, none⟩) m2 c4) m2 ys ∧ Below w2.heap.size w2 wr) (fun i _ => m1 - (intOf i).toNat)
  case atStart => exact ⟨0, _, _, by omega, rfl, hx8, hy8, hB8⟩
  case round =>
    obtain ⟨k, xs, ys, hk, rfl, hxr, hyr, hbr⟩ := hrel
    clear hx8 hy8 hB8
    by_cases hlt : k < m1
    · obtain ⟨u0, hu0⟩ : ∃ u0, wr.cell? ⟨g3, k, none⟩ = some u0 := by
        rw [hxr.cellAt k (by omega)]
        have hxl := hxr.1
        exact ⟨_, List.getElem?_eq_getElem (by omega)⟩
      have hfz := hxr.frozenAt k
      have hst := hxr.stored k (.int .u8 63)
      have hyk := hyr.kept hst.2 (.inr (by simp [Value.ownBlock]; omega))
      have hbk : Below w2.heap.size w2 (wr.setCell ⟨g3, k, none⟩ (.int .u8 63)) := hbr.setCell hg3 _
      have hxk := hst.1
      clear hst hxr hyr hbr
      go_wp2
      go_roundw
      case rel => exact ⟨k + 1, _, ys, by omega, by go_num, hxk, hyk, hbk⟩
      case measure => simp [intOf]; omega
    · clear hxr
      go_wp2
      go_loopw [18] (fun i wr => ∃ (k : Nat) (ys : List Value), k ≤ m2 ∧ i = .int .i64 k ∧ wr.ownsRow w3.heap.size 5 1 (.slice (some ⟨g4, 0, none⟩) m2 c4) m2 ys ∧ Below w2.heap.size w2 wr) (fun i _ => m2 - (intOf i).toNat)
      case atStart => exact ⟨0, ys, by omega, rfl, hyr, hbr⟩
      case round =>
        clear hyr hbr
        obtain ⟨j, zs, hj, rfl, hyr, hbr⟩ := hrel
        by_cases hjt : j < m2
        · obtain ⟨u0, hu0⟩ : ∃ u0, wr.cell? ⟨g4, j, none⟩ = some u0 := by
            rw [hyr.cellAt j (by omega)]
            have hyl := hyr.1
            exact ⟨_, List.getElem?_eq_getElem (by omega)⟩
          have hfz := hyr.frozenAt j
          have hst := hyr.stored j (.int .u8 63)
          have hbk : Below w2.heap.size w2 (wr.setCell ⟨g4, j, none⟩ (.int .u8 63)) := hbr.setCell (Nat.le_trans hsz1 hg4) _
          have hyk := hst.1
          clear hst hyr hbr
          go_wp2
          go_roundw
          case rel => exact ⟨j + 1, _, by omega, by go_num, hyk, hbk⟩
          case measure => simp [intOf]; omega
        · have hso := HS.out c2 (bytes_kept hbo hbr (Nat.le_refl _))
          have hsb := HS.out cap (bytes_kept hb3 hbr (Nat.le_refl _))
          have hfin : Below w.heap.size w wr := hB.trans (hbr.mono hB.size)
          clear hyr hb8 hbo8
          go_wp2_with fail
          refine (size_any v _ hv).mono ?_
          rintro e w9 ⟨rfl, hw⟩
          subst hw
          go_wp2_with fail
          refine (refSize_any v _ hv).mono ?_
          rintro e w10 ⟨rfl, hbel10⟩
          have hfin2 : Below w.heap.size w w10 := hfin.trans (hbel10.mono hfin.size)
          go_wp2
          go_ret
          exact ⟨rfl, hfin2⟩
end Go.Proofs.Ytlomimhildbkoaa

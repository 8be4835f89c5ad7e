/-
  The walk over marlstonelaw01.CodecBack.
-/
import Derived.Test.YtlomimhildbkoaaText
import Derived.Laws.AppendOwnNone
import Derived.Lib.MinMax
namespace Go.Proofs.Ytlomimhildbkoaa
open Go.RowKit

theorem textOf_textB (s more : List UInt8) (hs : s.length < 18446744073709551616) : textOf (textB s ++ more) = (s, (textB s).length, true) := by
  have hg : getB (textB s ++ more) = (s.length, (putB s.length).length, true) := by
    rw [textB, List.append_assoc]; exact getB_putB s.length hs (s ++ more)
  have hd : (textB s ++ more).drop (putB s.length).length = s ++ more := by
    rw [textB, List.append_assoc, List.drop_left]
  unfold textOf
  rw [hg, if_neg (by simp [textB])]
  simp only [hd, List.take_left]
  simp [textB]

theorem fixOf_fixB (v : Nat) (hv : v < 4294967296) (more : List UInt8) : fixOf (fixB v ++ more) = (v, true) := by
  unfold fixOf
  rw [if_neg (by simp [fixB])]
  simp only [fixB, List.cons_append, List.getD_cons_zero, List.getD_cons_succ, Prod.mk.injEq, and_true]
  rw [toNat_ofNat _ (by omega), toNat_ofNat _ (by omega), toNat_ofNat _ (by omega), toNat_ofNat _ (by omega)]
  omega

/-- 'append(own, more...)'. -/
theorem wpList_append_bytes {ops : Array Oper} {rest : List Oper} {o : Oper} {a : Act} {Q : Exit → Act → World → Prop} (w : World)
    (hg : o.guard = none) (s x : Operand) (hop : o.op = Op.call { callee := Callee.builtin Builtin.append, args := #[s, x], argTypes := #[22, 22] })
    (base : Nat) (v : Value) (n : Nat) (bs : List UInt8) (hs : a.eval s = v) (hown : w.ownsRow base 5 1 v n (cellsOf bs)) (hbase : base ≤ w.heap.size)
    (ao : Option Addr) (m c : Nat) (ms : List UInt8) (hx : a.eval x = .slice ao m c) (hm : Bytes w ao m ms) (h0 : ao = none → c = 0)
    (hb : n + m ≤ 140737488355328)
    (hK : ∀ v' w', w'.ownsRow base 5 1 v' (bs ++ ms).length (cellsOf (bs ++ ms)) → Below base w w' → wpList Try.prog ops Q rest (a.put o.dst v') w') :
    wpList Try.prog ops Q (o :: rest) a w := by
  obtain ⟨i0, hi, hz0, hz1, hz2⟩ := info_parts info5
  have hn : n = bs.length := by have := hown.1; rw [cellsOf_length] at this; omega
  have hml := hm.1
  cases ao with
  | none =>
    have hms : ms = [] := by
      cases ms with
      | nil => rfl
      | cons b t =>
        obtain ⟨y, hy, _⟩ := hm.2 0 b (by simp)
        cases hy
    subst hms
    obtain rfl := h0 rfl
    have hm0 : m = 0 := by simpa using hml.symm
    subst hm0
    refine wpList_append_own_none hg s x 22 hop base 5 i0 1 Try.underlying22 hi v n (cellsOf bs) hs hown hx ?_
    exact hK v w (by rw [List.append_nil, ← hn]; exact hown) (Below.refl _ _)
  | some ad =>
    refine wpList_append_own w hg s x 22 hop base 5 i0 (.int .u8 0) 1 1 Try.underlying22 hi hz0 hz1 hz2 rfl (by decide) v n (cellsOf bs) hs hown ad m c (cellsOf ms) hx (by rw [cellsOf_length]; omega) ?_ (cellsOf_one ms) (by unfold maxLen; omega) (by omega) hbase ?_
    · intro j u hu
      obtain ⟨c, hc, rfl⟩ := cellsOf_at hu
      obtain ⟨y, hy, hcell⟩ := hm.2 j c hc
      cases hy
      exact hcell
    · intro v' w' h1 h2 _
      refine hK v' w' ?_ ((Below.refl _ _).grown h2 hbase (fun k hk => (hown.lt k hk).1))
      rw [List.length_append, hml, ← hn, cellsOf_append]
      exact h1

/-- The same, for a reader: the new slice written out, its numbers letters. -/
theorem wpList_append_read {ops : Array Oper} {rest : List Oper} {o : Oper} {a : Act} {Q : Exit → Act → World → Prop} (w : World)
    (hg : o.guard = none) (s x : Operand) (hop : o.op = Op.call { callee := Callee.builtin Builtin.append, args := #[s, x], argTypes := #[22, 22] })
    (base : Nat) (v : Value) (n : Nat) (bs : List UInt8) (hs : a.eval s = v) (hown : w.ownsRow base 5 1 v n (cellsOf bs)) (hbase : base ≤ w.heap.size)
    (ao : Option Addr) (m c : Nat) (ms : List UInt8) (hx : a.eval x = .slice ao m c) (hm : Bytes w ao m ms) (h0 : ao = none → c = 0)
    (hb : n + m ≤ 140737488355328)
    (hK : ∀ ao' n' c' w', Bytes w' ao' n' (bs ++ ms) → n' ≤ c' → c' ≤ 9223372036854775807 → n' ≤ n + m → Below base w w' → wpList Try.prog ops Q rest (a.put o.dst (.slice ao' n' c')) w') :
    wpList Try.prog ops Q (o :: rest) a w := by
  refine wpList_append_bytes w hg s x hop base v n bs hs hown hbase ao m c ms hx hm h0 hb ?_
  intro v' w' hown' hbel'
  obtain ⟨ao3, c3, rfl, hb3, _, hlc3, hcm3, _, _⟩ := own_bytes hown'
  have hn : n = bs.length := by have := hown.1; rw [cellsOf_length] at this; omega
  have hml := hm.1
  exact hK ao3 _ c3 w' hb3 hlc3 (by unfold maxLen at hcm3; omega) (by rw [List.length_append]; omega) hbel'

theorem put_own (v : Nat) (w : World) (hv : v < 18446744073709551616) : Calls Try.prog 10 #[.slice none 0 0, .int .u64 v] w fun e w' =>
    ∃ ao c, e = .returned (.slice ao (sz v) c) ∧ w'.ownsRow w.heap.size 5 1 (.slice ao (sz v) c) (sz v) (cellsOf (putB v)) ∧ Below w.heap.size w w' := by
  refine (put_any none 0 0 [] v w (by omega) (by omega) (fun _ => rfl) (bytes_nil w) hv (by omega)).mono ?_
  rintro e w' ⟨v', rfl, hown, hbel⟩
  rw [List.nil_append] at hown
  obtain ⟨ao, cap, rfl, hb, _⟩ := own_bytes hown
  exact ⟨ao, cap, rfl, hown, hbel⟩

theorem putText_own (s : ByteArray) (t : Nat) (ht : (textB (strB s)).length = t) (w : World) (hs : s.size ≤ 140737488355000) : Calls Try.prog 11 #[.slice none 0 0, .string s] w fun e w' =>
    ∃ ao c, e = .returned (.slice ao t c) ∧ w'.ownsRow w.heap.size 5 1 (.slice ao t c) t (cellsOf (textB (strB s))) ∧ Below w.heap.size w w' := by
  refine (putText_any none 0 0 [] s w (by omega) (by omega) (fun _ => rfl) (bytes_nil w) (by omega)).mono ?_
  rintro e w' ⟨v', rfl, hown, hbel⟩
  rw [List.nil_append, ht] at hown
  obtain ⟨ao, cap, rfl, hb, _⟩ := own_bytes hown
  exact ⟨ao, cap, rfl, hown, hbel⟩

theorem putFixed_own (v : Nat) (w : World) (hv : v < 4294967296) : Calls Try.prog 12 #[.slice none 0 0, .int .u32 v] w fun e w' =>
    ∃ ao c, e = .returned (.slice ao 4 c) ∧ w'.ownsRow w.heap.size 5 1 (.slice ao 4 c) 4 (cellsOf (fixB v)) ∧ Below w.heap.size w w' := by
  refine (putFixed_any none 0 0 [] v w (by omega) (by omega) (fun _ => rfl) (bytes_nil w) hv (by omega)).mono ?_
  rintro e w' ⟨v', rfl, hown, hbel⟩
  rw [List.nil_append] at hown
  obtain ⟨ao, cap, rfl, hb, _⟩ := own_bytes hown
  exact ⟨ao, cap, rfl, hown, hbel⟩

theorem get_put (ao : Option Addr) (n cap v : Nat) (ms : List UInt8) (w : World) (h : Bytes w ao n (putB v ++ ms)) (hv : v < 18446744073709551616) (hn : n ≤ 9223372036854775807) :
    Calls Try.prog 18 #[.slice ao n cap] w fun e w' => e = .returned (.tuple #[.int .u64 v, .int .i64 (sz v), .bool true]) ∧ w' = w := by
  have hg := get_any ao n cap _ w h hn
  rw [getB_putB v hv ms] at hg
  exact hg

theorem text_put (ao : Option Addr) (n cap : Nat) (s ms : List UInt8) (t : Nat) (ht : (textB s).length = t) (w : World) (h : Bytes w ao n (textB s ++ ms)) (hs : s.length < 18446744073709551616) (hn : n ≤ cap) (hcap : cap ≤ 9223372036854775807) :
    Calls Try.prog 20 #[.slice ao n cap] w fun e w' => e = .returned (.tuple #[.string ⟨s.toArray⟩, .int .i64 t, .bool true]) ∧ w' = w := by
  have hg := text_any ao n cap _ w h hn hcap
  rw [textOf_textB s ms hs, ht] at hg
  exact hg

theorem fixed_put (ao : Option Addr) (n cap v : Nat) (ms : List UInt8) (w : World) (h : Bytes w ao n (fixB v ++ ms)) (hv : v < 4294967296) :
    Calls Try.prog 22 #[.slice ao n cap] w fun e w' => e = .returned (.tuple #[.int .u32 v, .bool true]) ∧ Below w.heap.size w w' := by
  have hg := fixed_any ao n cap _ w h
  rw [fixOf_fixB v hv ms] at hg
  exact hg

set_option maxRecDepth 100000 in
set_option maxHeartbeats 1000000 in
theorem back_walk (v : Nat) (s : ByteArray) (u : Nat) (ao : Option Addr) (len cap : Nat) (bs : List UInt8) (w : World) (hv : v < 18446744073709551616) (hu : u < 4294967296)
    (hs : s.size ≤ 9223372036854775807) (hb : Bytes w ao len bs) (h0 : ao = none → cap = 0) (hlc : len ≤ cap) (hcap : cap ≤ 9223372036854775807) :
    Calls Try.prog 5 #[.int .u64 v, .string s, .int .u32 u, .slice ao len cap] w fun e w' => e = .returned (.bool true) ∧ Below w.heap.size w w' := by
  obtain ⟨k, hk1, hk2, hk3⟩ : ∃ k : Nat, min (s.size : Int) 2000 = (k : Int) ∧ k ≤ 2000 ∧ k ≤ s.size := ⟨min s.size 2000, by omega, by omega, by omega⟩
  obtain ⟨m, hm1, hm2, hm3⟩ : ∃ m : Nat, min (len : Int) 2000 = (m : Int) ∧ m ≤ 2000 ∧ m ≤ len := ⟨min len 2000, by omega, by omega, by omega⟩
  have hbm := bytes_take hb m hm3
  clear hb
  go_enter Try.func5, Try.ntmps5
  go_wp2_with fail
  refine (shown_any w).mono ?_
  rintro e w1 ⟨rfl, hbel⟩
  have hbm1 := bytes_kept hbm hbel (Nat.le_refl _)
  clear hbm
  go_wp2_with fail
  obtain ⟨s1, hs1, hs2⟩ : ∃ s1 : ByteArray, s1 = s.extract 0 k ∧ s1.size ≤ 2000 := ⟨_, rfl, by rw [ByteArray.size_extract]; omega⟩
  rw [← hs1]
  clear hs1
  obtain ⟨ms, hms⟩ : ∃ ms, ms = bs.take m := ⟨_, rfl⟩
  rw [← hms] at hbm1
  clear hms hm1 hk1
  refine (put_own v w1 hv).mono ?_
  rintro e w2 ⟨ao2, c2, rfl, hown2, hbel2⟩
  have hbm2 := bytes_kept hbm1 hbel2 (Nat.le_refl _)
  have hsz2 := hbel2.size
  have hszv := sz_le v
  have hszp := sz_pos v
  go_wp2_with (at_builtin; refine wpList_append_read _ rfl (.tmp 38) (.tmp 39) rfl w1.heap.size _ _ (putB v) rfl hown2 hsz2 ao m cap ms rfl hbm2 h0 ?hb ?_)
  case hb => omega
  intro ao3 n3 c3 w3 hb3 hlc3 hcm3 hn3 hbel3
  have hB3 := hbel2.trans hbel3
  clear hbm2 hbel2 hbel3 hown2 hsz2
  go_wp2_with fail
  refine (get_put _ _ _ v ms _ hb3 hv (by omega)).mono ?_
  rintro e w3' ⟨rfl, hw⟩
  subst hw
  clear hb3
  obtain ⟨tl, htl⟩ : ∃ tl, (textB (strB s1)).length = tl := ⟨_, rfl⟩
  have hsl : (strB s1).length ≤ 2000 := by rw [strB_length]; exact hs2
  have htl2 : tl ≤ 2010 := by rw [← htl, textB, List.length_append]; have := putB_le (strB s1).length; omega
  have HTL : Hid ((textB (strB s1)).length = tl) := htl
  clear htl
  go_wp2_with fail
  refine (putText_own s1 tl HTL.out _ (by omega)).mono ?_
  rintro e w4 ⟨ao4, c4, rfl, hown4, hbel4⟩
  have hsz4 := hbel4.size
  have hB4 := hB3.trans (hbel4.mono hB3.size)
  have hbm4 := bytes_kept hbm1 hB4 (Nat.le_refl _)
  go_wp2_with (at_builtin; refine wpList_append_read _ rfl (.tmp 50) (.tmp 51) rfl w3'.heap.size _ _ (textB (strB s1)) rfl hown4 hsz4 ao m cap ms rfl hbm4 h0 ?hb2 ?_)
  case hb2 => omega
  intro ao5 n5 c5 w5 hb5 hlc5 hcm5 hn5 hbel5
  have hB5 := hB4.trans (hbel5.mono hB3.size)
  clear hbm4 hbel4 hbel5 hown4 hsz4 hB4
  go_wp2_with fail
  refine (text_put _ _ _ (strB s1) ms tl HTL.out _ hb5 (by omega) hlc5 hcm5).mono ?_
  rintro e w5' ⟨rfl, hw⟩
  subst hw
  clear hb5
  go_wp2_with fail
  refine (putFixed_own u _ hu).mono ?_
  rintro e w6 ⟨ao6, c6, rfl, hown6, hbel6⟩
  have hsz6 := hbel6.size
  have hB6 := hB5.trans (hbel6.mono hB5.size)
  have hbm6 := bytes_kept hbm1 hB6 (Nat.le_refl _)
  go_wp2_with (at_builtin; refine wpList_append_read _ rfl (.tmp 59) (.tmp 60) rfl w5'.heap.size _ _ (fixB u) rfl hown6 hsz6 ao m cap ms rfl hbm6 h0 ?hb3 ?_)
  case hb3 => omega
  intro ao7 n7 c7 w7 hb7 hlc7 hcm7 hn7 hbel7
  have hB7 := hB6.trans (hbel7.mono hB5.size)
  clear hbm6 hbel6 hbel7 hown6 hsz6 hB6
  go_wp2_with fail
  refine (fixed_put _ _ _ u ms _ hb7 hu).mono ?_
  rintro e w8 ⟨rfl, hbel8⟩
  have hB8 := hB7.trans (hbel8.mono hB7.size)
  have hfin : Below w.heap.size w w8 := hbel.trans (hB8.mono hbel.size)
  clear hb7 hB7 hB8 hB5 hB3 hbel8 hbel hbm1
  have hst : s1.toList = strB s1 := ByteArray.toList_eq s1
  go_wp2_with fail
  refine (size_any v _ hv).mono ?_
  rintro e w9 ⟨rfl, hw⟩
  subst hw
  go_wp2
  go_ret
  exact ⟨rfl, hfin⟩
end Go.Proofs.Ytlomimhildbkoaa

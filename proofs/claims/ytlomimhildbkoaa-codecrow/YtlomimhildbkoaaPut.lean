/-
  What codec.Put answers, behind any bytes: a contract over this translation.
-/
import Derived.Test.YtlomimhildbkoaaGet
namespace Go.Proofs.Ytlomimhildbkoaa
open Go.RowKit

set_option maxHeartbeats 400000 in
theorem alone_any (ao : Option Addr) (n cap : Nat) (w : World) (hn : n ≤ cap) (hcap : cap ≤ 9223372036854775807) (h0 : ao = none → cap = 0) :
    Calls Try.prog 24 #[.slice ao n cap] w fun e w' => e = .returned (.slice ao n n) ∧ w' = w := by
  cases ao with
  | none =>
    obtain rfl := h0 rfl
    obtain rfl : n = 0 := by omega
    go_enter Try.func24, Try.ntmps24
    go_wp2
    go_ret
    exact ⟨rfl, rfl⟩
  | some x =>
    clear h0
    go_enter Try.func24, Try.ntmps24
    go_wp2
    go_ret
    exact ⟨rfl, rfl⟩

theorem info5 : (Try.prog.info? 5).map (fun i => (i.zero, i.size, i.bytes)) = some (some (.int .u8 0), 1, 1) := by kernel_rfl

/-- Bytes as cells. -/
def cellsOf (bs : List UInt8) : List Value := bs.map fun b => Value.int .u8 b.toNat
theorem cellsOf_length (bs : List UInt8) : (cellsOf bs).length = bs.length := by simp [cellsOf]
theorem cellsOf_append (a b : List UInt8) : cellsOf (a ++ b) = cellsOf a ++ cellsOf b := by simp [cellsOf]
theorem cellsOf_one (bs : List UInt8) : ∀ u ∈ cellsOf bs, u.oneCell' = true := by
  intro u hu
  simp only [cellsOf, List.mem_map] at hu
  obtain ⟨b, _, rfl⟩ := hu
  rfl
theorem cellsOf_at {bs : List UInt8} {j : Nat} {u : Value} (h : (cellsOf bs)[j]? = some u) : ∃ c, bs[j]? = some c ∧ u = .int .u8 c.toNat := by
  simp only [cellsOf, List.getElem?_map, Option.map_eq_some_iff] at h
  obtain ⟨c, hc, rfl⟩ := h
  exact ⟨c, hc, rfl⟩

theorem ownsRow_mono {w : World} {B B' : Nat} {e : TypeId} {size : Nat} {v : Value} {n : Nat} {xs : List Value} (h : w.ownsRow B e size v n xs) (hB : B' ≤ B) : w.ownsRow B' e size v n xs := by
  obtain ⟨h1, h2⟩ := h
  refine ⟨h1, ?_⟩
  rcases h2 with h2 | ⟨g, cap, cur, hv, hg, r⟩
  · exact .inl h2
  · exact .inr ⟨g, cap, cur, hv, by omega, r⟩

/-- A slice that is bs, and that may be appended to: it has no room, or is the call's own. -/
def Buf (w : World) (base : Nat) (v : Value) (bs : List UInt8) : Prop :=
  (∃ ao, v = .slice ao bs.length bs.length ∧ Bytes w ao bs.length bs) ∨ w.ownsRow base 5 1 v bs.length (cellsOf bs)

theorem Buf.alloc {w : World} {base : Nat} {v : Value} {bs : List UInt8} (h : Buf w base v bs) (o : Obj) : Buf (w.alloc o) base v bs := by
  rcases h with ⟨ao, hv, hl, hc⟩ | h
  · refine .inl ⟨ao, hv, hl, fun i c hi => ?_⟩
    obtain ⟨x, hx, hcell⟩ := hc i c hi
    refine ⟨x, hx, ?_⟩
    rw [← hcell]
    exact World.cell?_of_block (Below.heap_alloc _ _ _ (by have := World.block_lt_of_cell? w _ hcell; exact this))
  · exact .inr (h.alloc o)

theorem wpList_append_buf {ops : Array Oper} {rest : List Oper} {o : Oper} {a : Act} {Q : Exit → Act → World → Prop} (w : World)
    (hg : o.guard = none) (s x : Operand) (hop : o.op = Op.call { callee := Callee.builtin Builtin.append, args := #[s, x], argTypes := #[22, 22] })
    (base : Nat) (v : Value) (bs : List UInt8) (hs : a.eval s = v) (hbuf : Buf w base v bs) (hbase : base ≤ w.heap.size)
    (ad : Addr) (m c : Nat) (news : List UInt8) (hx : a.eval x = .slice (some ad) m c) (hn : news.length = m) (hm : 0 < m) (hc : ∀ j u, (cellsOf news)[j]? = some u → w.cell? (ad.add j) = some u)
    (hb : bs.length + m ≤ 140737488355328)
    (hK : ∀ v' w', w'.ownsRow base 5 1 v' (bs ++ news).length (cellsOf (bs ++ news)) → Below base w w' → wpList Try.prog ops Q rest (a.put o.dst v') w') :
    wpList Try.prog ops Q (o :: rest) a w := by
  obtain ⟨i0, hi, hz0, hz1, hz2⟩ := info_parts info5
  have hlen : (bs ++ news).length = bs.length + m := by simp [hn]
  rw [hlen] at hK
  simp only [cellsOf_append] at hK
  rcases hbuf with ⟨ao, hv, hl, hcells⟩ | hown
  · subst hv
    refine wpList_append_grows w hg s x 22 hop 5 i0 (.int .u8 0) 1 1 Try.underlying22 hi hz0 hz1 hz2 rfl (by decide) ao bs.length bs.length (cellsOf bs) hs ?_ (by rw [cellsOf_length]; omega) ?_ ad m c (cellsOf news) hx (by rw [cellsOf_length]; omega) hc (cellsOf_one news) (by omega) (by unfold maxLen; omega) (by omega) ?_
    · intro h0
      subst h0
      cases bs with
      | nil => simp
      | cons b t =>
        obtain ⟨x, hx, _⟩ := hcells 0 b (by simp)
        cases hx
    · intro b hb j u hu
      obtain ⟨c, hc, rfl⟩ := cellsOf_at hu
      obtain ⟨x, hx, hcell⟩ := hcells j c hc
      rw [hb] at hx
      cases hx
      exact hcell
    · intro v' w' h1 h2
      exact hK v' w' (ownsRow_mono h1 hbase) ((Below.refl _ _).grown h2 hbase (fun k hk => by cases hk))
  · refine wpList_append_own w hg s x 22 hop base 5 i0 (.int .u8 0) 1 1 Try.underlying22 hi hz0 hz1 hz2 rfl (by decide) v bs.length (cellsOf bs) hs hown ad m c (cellsOf news) hx (by rw [cellsOf_length]; omega) hc (cellsOf_one news) (by unfold maxLen; omega) (by omega) hbase ?_
    intro v' w' h1 h2 _
    exact hK v' w' h1 ((Below.refl _ _).grown h2 hbase (fun k hk => (hown.lt k hk).1))

theorem or_128 (u : Nat) : bits .or .u8 ((u : Int) % 256) 128 = ((UInt8.ofNat (u % 128 + 128)).toNat : Int) := by
  have h := u8_or_nat (u % 256) 128 (by omega) (by decide)
  have e : ((u : Int) % 256) = ((u % 256 : Nat) : Int) := by omega
  have h2 : u % 256 ||| 128 = u % 128 + 128 := by
    have hd : ∀ n : Fin 256, n.val ||| 128 = n.val % 128 + 128 := by decide +kernel
    have := hd ⟨u % 256, by omega⟩
    simp only at this
    omega
  rw [e, toNat_ofNat _ (by omega), ← h2]
  exact h

set_option maxHeartbeats 400000 in
set_option maxRecDepth 100000 in
theorem put_any (ao : Option Addr) (n cap : Nat) (bs : List UInt8) (v : Nat) (w : World) (hn : n ≤ cap) (hcap : cap ≤ 9223372036854775807) (h0 : ao = none → cap = 0) (hb : Bytes w ao n bs) (hv : v < 18446744073709551616) (hbig : n ≤ 140737488355000) :
    Calls Try.prog 10 #[.slice ao n cap, .int .u64 v] w fun e w' => ∃ v', e = .returned v' ∧ w'.ownsRow w.heap.size 5 1 v' (bs ++ putB v).length (cellsOf (bs ++ putB v)) ∧ Below w.heap.size w w' := by
  go_enter Try.func10, Try.ntmps10
  go_wp2_with fail
  refine (alone_any ao n cap w hn hcap h0).mono ?_
  rintro e w' ⟨rfl, rfl⟩
  go_wp2
  go_loopw [1, 5] (fun x o wr => ∃ (u : Nat) (done : List UInt8), x = .int .u64 u ∧ u < 18446744073709551616 ∧ putB v = done ++ putB u ∧ Buf wr w'.heap.size o (bs ++ done) ∧ Below w'.heap.size w' wr) (fun x _ _ => (intOf x).toNat)
  case atStart => exact ⟨v, [], rfl, hv, rfl, .inl ⟨ao, by rw [List.append_nil, hb.1], by rw [List.append_nil, hb.1]; exact hb⟩, Below.refl _ _⟩
  case round =>
    obtain ⟨u, done, rfl, hu, hp, hbuf, hbel⟩ := hrel
    have HP : Hid (putB v = done ++ putB u) := hp
    have hbl : bs.length ≤ n := by rw [hb.1]; exact Nat.le_refl _
    clear hp hb h0
    have hlen : (bs ++ done).length ≤ 140737488355010 := by
      have h1 := putB_le v
      rw [HP.out, List.length_append] at h1
      rw [List.length_append]; omega
    have hsize := hbel.size
    by_cases hlt : 128 ≤ u
    · obtain ⟨c, hcd⟩ : ∃ c : UInt8, c = UInt8.ofNat (u % 128 + 128) := ⟨_, rfl⟩
      have hor : bits .or .u8 ((u : Int) % 256) 128 = (c.toNat : Int) := by rw [hcd]; exact or_128 u
      have HP2 : Hid (putB v = done ++ [c] ++ putB (u / 128)) := by
        show _ = _
        rw [HP.out, putB_more u hlt hu, hcd, List.append_assoc]; rfl
      clear HP hcd
      go_wp2_with (at_builtin; refine wpList_append_buf _ rfl (.tmp 10) (.tmp 14) rfl w'.heap.size _ (bs ++ done) rfl (hbuf.alloc _) ?hb ⟨wr.heap.size, 0, none⟩ 1 1 [c] rfl rfl (by decide) ?hc ?hlen ?_)
      case hb => simp; omega
      case hc => exact cell_one_new _ _ _
      case hlen => omega
      intro v' w1 hown' hbel'
      have hbelA : Below w'.heap.size w' w1 := (hbel.alloc hsize _).trans hbel'
      clear hbuf hbel hbel'
      go_wp2
      go_roundw
      case rel => exact ⟨u / 128, done ++ [c], by go_num, by omega, HP2.out, .inr (by rw [List.length_append, List.length_append]; exact hown'), hbelA⟩
      case measure => simp [intOf]; omega
    · obtain ⟨c, hcd⟩ : ∃ c : UInt8, c = UInt8.ofNat u := ⟨_, rfl⟩
      have HC : Hid (c.toNat = u) := by show _ = _; rw [hcd]; exact toNat_ofNat u (by omega)
      have HP2 : Hid (putB v = done ++ [c]) := by
        show _ = _
        rw [HP.out, putB_small u (by omega), hcd]
      clear HP hcd
      go_wp2_with (at_builtin; refine wpList_append_buf _ rfl (.tmp 18) (.tmp 21) rfl w'.heap.size _ (bs ++ done) rfl (hbuf.alloc _) ?hb ⟨wr.heap.size, 0, none⟩ 1 1 [c] rfl rfl (by decide) ?hc ?hlen ?_)
      case hb => simp; omega
      case hc => rw [← HC.out]; exact cell_one_new _ _ _
      case hlen => omega
      intro v' w1 hown' hbel'
      have hbelA : Below w'.heap.size w' w1 := (hbel.alloc hsize _).trans hbel'
      clear hbuf hbel hbel'
      go_wp2
      go_ret
      exact ⟨v', rfl, by rw [HP2.out, List.length_append, List.length_append]; exact hown', hbelA⟩
end Go.Proofs.Ytlomimhildbkoaa

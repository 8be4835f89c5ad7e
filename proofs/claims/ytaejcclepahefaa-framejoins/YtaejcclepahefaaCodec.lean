/-
  Bytes in memory, and what codec's PutFixed and Fixed and their references answer: contracts over this translation.
-/
import Derived.Test.YtaejcclepahefaaProg
import Derived.WalkKit
import Derived.WalkSpells
import Derived.WalkLawsBesides
import Derived.Lib.Walk
import Derived.Lib.AppendStr
import Derived.OpenShut
import Derived.Deep.QuietTactic
import Derived.BigQuiet
import Derived.Laws.AppendOwnNone
import Derived.Lib.MinMax
import Derived.Deep.RegionHeld3
namespace Go.Proofs.Ytaejcclepahefaa
open Go.RowKit
theorem toNat_ofNat (v : Nat) (h : v < 256) : (UInt8.ofNat v).toNat = v := by
  simp [UInt8.toNat_ofNat']
  omega
theorem ret_i64 {a b : Int} (h : a = b) : Ending.returned (.int .i64 a) = .returned (.int .i64 b) := by rw [h]
/-- The slice whose elements are the bytes bs. -/
def Bytes (w : World) (ao : Option Addr) (len : Nat) (bs : List UInt8) : Prop :=
  bs.length = len ∧ ∀ i c, bs[i]? = some c → ∃ x, ao = some x ∧ w.cell? (x.add i) = some (.int .u8 c.toNat)
theorem drop_at (bs : List UInt8) (k : Nat) (h : k < bs.length) : bs.drop k = bs[k] :: bs.drop (k + 1) := List.drop_eq_getElem_cons h
theorem tup3 {a a' b b' : Int} {p p' : Bool} (h1 : a = a') (h2 : b = b') (h3 : p = p') :
    Ending.returned (.tuple #[.int .u64 a, .int .i64 b, .bool p]) = .returned (.tuple #[.int .u64 a', .int .i64 b', .bool p']) := by rw [h1, h2, h3]
theorem bytes_at {w : World} {ao : Option Addr} {len : Nat} {bs : List UInt8} (h : Bytes w ao len bs) (hp : 0 < len) :
    ∃ b off, ao = some ⟨b, off, none⟩ ∧ ∀ k (hk : k < bs.length), w.cell? ⟨b, off + k, none⟩ = some (.int .u8 (bs[k].toNat : Int)) := by
  obtain ⟨hl, hc⟩ := h
  obtain ⟨x, hx, hx0⟩ := hc 0 _ (List.getElem?_eq_getElem (by omega))
  subst hx
  obtain ⟨b, off, spot⟩ := x
  have hspot : spot = none := by simpa [Addr.add] using World.cell?_spot hx0
  subst hspot
  refine ⟨b, off, rfl, fun k hk => ?_⟩
  obtain ⟨y, hy, hc'⟩ := hc k _ (List.getElem?_eq_getElem hk)
  cases hy
  rw [Addr.add_lit] at hc'
  exact hc'
set_option maxHeartbeats 400000 in
theorem alone_any (ao : Option Addr) (n cap : Nat) (w : World) (hn : n ≤ cap) (hcap : cap ≤ 9223372036854775807) (h0 : ao = none → cap = 0) :
    Calls Try.prog 86 #[.slice ao n cap] w fun e w' => e = .returned (.slice ao n n) ∧ w' = w := by
  cases ao with
  | none =>
    obtain rfl := h0 rfl
    obtain rfl : n = 0 := by omega
    go_enter Try.func86, Try.ntmps86
    go_wp2
    go_ret
    exact ⟨rfl, rfl⟩
  | some x =>
    clear h0
    go_enter Try.func86, Try.ntmps86
    go_wp2
    go_ret
    exact ⟨rfl, rfl⟩
theorem info5 : (Try.prog.info? 5).map (fun i => (i.zero, i.size, i.bytes)) = some (some (.int .u8 0), 1, 1) := by kernel_rfl
/-- Bytes as cells. -/
def cellsOf (bs : List UInt8) : List Value := bs.map fun b => Value.int .u8 b.toNat
theorem cellsOf_length (bs : List UInt8) : (cellsOf bs).length = bs.length := by simp [cellsOf]
theorem cellsOf_append (a b : List UInt8) : cellsOf (a ++ b) = cellsOf a ++ cellsOf b := by simp [cellsOf]
theorem cellsOf_one (bs : List UInt8) : ∀ u ∈ cellsOf bs, u.oneCell' = true := by
  intro u hu
  simp only [cellsOf, List.mem_map] at hu
  obtain ⟨b, _, rfl⟩ := hu
  rfl
theorem cellsOf_at {bs : List UInt8} {j : Nat} {u : Value} (h : (cellsOf bs)[j]? = some u) : ∃ c, bs[j]? = some c ∧ u = .int .u8 c.toNat := by
  simp only [cellsOf, List.getElem?_map, Option.map_eq_some_iff] at h
  obtain ⟨c, hc, rfl⟩ := h
  exact ⟨c, hc, rfl⟩
theorem ownsRow_mono {w : World} {B B' : Nat} {e : TypeId} {size : Nat} {v : Value} {n : Nat} {xs : List Value} (h : w.ownsRow B e size v n xs) (hB : B' ≤ B) : w.ownsRow B' e size v n xs := by
  obtain ⟨h1, h2⟩ := h
  refine ⟨h1, ?_⟩
  rcases h2 with h2 | ⟨g, cap, cur, hv, hg, r⟩
  · exact .inl h2
  · exact .inr ⟨g, cap, cur, hv, by omega, r⟩
/-- A slice that is bs, and that may be appended to: it has no room, or is the call's own. -/
def Buf (w : World) (base : Nat) (v : Value) (bs : List UInt8) : Prop :=
  (∃ ao, v = .slice ao bs.length bs.length ∧ Bytes w ao bs.length bs) ∨ w.ownsRow base 5 1 v bs.length (cellsOf bs)
theorem Buf.alloc {w : World} {base : Nat} {v : Value} {bs : List UInt8} (h : Buf w base v bs) (o : Obj) : Buf (w.alloc o) base v bs := by
  rcases h with ⟨ao, hv, hl, hc⟩ | h
  · refine .inl ⟨ao, hv, hl, fun i c hi => ?_⟩
    obtain ⟨x, hx, hcell⟩ := hc i c hi
    refine ⟨x, hx, ?_⟩
    rw [← hcell]
    exact World.cell?_of_block (Below.heap_alloc _ _ _ (by have := World.block_lt_of_cell? w _ hcell; exact this))
  · exact .inr (h.alloc o)
theorem wpList_append_buf {ops : Array Oper} {rest : List Oper} {o : Oper} {a : Act} {Q : Exit → Act → World → Prop} (w : World)
    (hg : o.guard = none) (s x : Operand) (hop : o.op = Op.call { callee := Callee.builtin Builtin.append, args := #[s, x], argTypes := #[28, 28] })
    (base : Nat) (v : Value) (bs : List UInt8) (hs : a.eval s = v) (hbuf : Buf w base v bs) (hbase : base ≤ w.heap.size)
    (ad : Addr) (m c : Nat) (news : List UInt8) (hx : a.eval x = .slice (some ad) m c) (hn : news.length = m) (hm : 0 < m) (hc : ∀ j u, (cellsOf news)[j]? = some u → w.cell? (ad.add j) = some u)
    (hb : bs.length + m ≤ 140737488355328)
    (hK : ∀ v' w', w'.ownsRow base 5 1 v' (bs ++ news).length (cellsOf (bs ++ news)) → Below base w w' → wpList Try.prog ops Q rest (a.put o.dst v') w') :
    wpList Try.prog ops Q (o :: rest) a w := by
  obtain ⟨i0, hi, hz0, hz1, hz2⟩ := info_parts info5
  have hlen : (bs ++ news).length = bs.length + m := by simp [hn]
  rw [hlen] at hK
  simp only [cellsOf_append] at hK
  rcases hbuf with ⟨ao, hv, hl, hcells⟩ | hown
  · subst hv
    refine wpList_append_grows w hg s x 28 hop 5 i0 (.int .u8 0) 1 1 Try.underlying28 hi hz0 hz1 hz2 rfl (by decide) ao bs.length bs.length (cellsOf bs) hs ?_ (by rw [cellsOf_length]; omega) ?_ ad m c (cellsOf news) hx (by rw [cellsOf_length]; omega) hc (cellsOf_one news) (by omega) (by unfold maxLen; omega) (by omega) ?_
    · intro h0
      subst h0
      cases bs with
      | nil => simp
      | cons b t =>
        obtain ⟨x, hx, _⟩ := hcells 0 b (by simp)
        cases hx
    · intro b hb j u hu
      obtain ⟨c, hc, rfl⟩ := cellsOf_at hu
      obtain ⟨x, hx, hcell⟩ := hcells j c hc
      rw [hb] at hx
      cases hx
      exact hcell
    · intro v' w' h1 h2
      exact hK v' w' (ownsRow_mono h1 hbase) ((Below.refl _ _).grown h2 hbase (fun k hk => by cases hk))
  · refine wpList_append_own w hg s x 28 hop base 5 i0 (.int .u8 0) 1 1 Try.underlying28 hi hz0 hz1 hz2 rfl (by decide) v bs.length (cellsOf bs) hs hown ad m c (cellsOf news) hx (by rw [cellsOf_length]; omega) hc (cellsOf_one news) (by unfold maxLen; omega) (by omega) hbase ?_
    intro v' w' h1 h2 _
    exact hK v' w' h1 ((Below.refl _ _).grown h2 hbase (fun k hk => (hown.lt k hk).1))
/-- The bytes of a string. -/
def strB (s : ByteArray) : List UInt8 := s.data.toList
theorem strB_length (s : ByteArray) : (strB s).length = s.size := by simp [strB]
theorem foldl_push (bs : List UInt8) : ∀ s : ByteArray, (bs.map (fun b => (b.toNat : Int))).foldl (fun r n => r.push (UInt8.ofNat n.toNat)) s = ⟨s.data ++ bs.toArray⟩ := by
  induction bs with
  | nil => intro s; simp
  | cons b t ih =>
    intro s
    rw [List.map_cons, List.foldl_cons, ih]
    have hb : UInt8.ofNat ((b.toNat : Int)).toNat = b := by simp
    rw [hb]
    show ByteArray.mk (s.data.push b ++ t.toArray) = _
    simp
theorem foldl_bytes (bs : List UInt8) : (bs.map (fun b => (b.toNat : Int))).foldl (fun r n => r.push (UInt8.ofNat n.toNat)) ByteArray.empty = ⟨bs.toArray⟩ := by
  rw [foldl_push]
  show ByteArray.mk (#[] ++ bs.toArray) = _
  simp
/-- 'string(b)'. -/
theorem str_bytes {w : World} {ao : Option Addr} {n : Nat} {bs : List UInt8} (cap : Nat) (h : Bytes w ao n bs) :
    (convert 28 9 (.slice ao n cap)).run Try.prog w = .ok (.string ⟨bs.toArray⟩) w := by
  rw [run_convert_bytes_string w 28 9 5 _ _ _ Try.underlying28 Try.underlying5 Try.underlying9]
  cases ao with
  | none =>
    have hb : bs = [] := by
      cases bs with
      | nil => rfl
      | cons b t =>
        obtain ⟨x, hx, _⟩ := h.2 0 b (by simp)
        cases hx
    subst hb
    simp [Conv.bytesToString]
    rfl
  | some x =>
    have hl := run_loadCells_list (P := Try.prog) (w := w) x (cellsOf bs) (fun j u hu => by
      obtain ⟨c, hc, rfl⟩ := cellsOf_at hu
      obtain ⟨y, hy, hcell⟩ := h.2 j c hc
      cases hy
      exact hcell)
    rw [cellsOf_length, h.1] at hl
    have e : cellsOf bs = (bs.map fun b => (b.toNat : Int)).map (Value.int .u8) := by simp [cellsOf]
    rw [e] at hl
    rw [run_bytesToString w x n cap _ hl, foldl_bytes]
theorem own_bytes {w : World} {base : Nat} {v : Value} {n : Nat} {bs : List UInt8} (h : w.ownsRow base 5 1 v n (cellsOf bs)) :
    ∃ ao cap, v = .slice ao n cap ∧ Bytes w ao n bs ∧ (ao = none → cap = 0) ∧ n ≤ cap ∧ cap ≤ maxLen ∧ n = bs.length ∧ (∀ x, ao = some x → base ≤ x.block ∧ x.block < w.heap.size) := by
  have hlen : n = bs.length := by have := h.1; rw [cellsOf_length] at this; omega
  rcases h.2 with ⟨rfl, h0⟩ | ⟨g, cap, cur, rfl, hb, hg, hn, hm, hs, ht⟩
  · subst h0
    have : bs = [] := List.eq_nil_of_length_eq_zero hlen.symm
    subst this
    exact ⟨none, 0, rfl, ⟨rfl, fun i c hi => by simp at hi⟩, fun _ => rfl, Nat.le_refl _, by simp [maxLen], rfl, fun x hx => by cases hx⟩
  · refine ⟨_, cap, rfl, ⟨hlen.symm, fun i c hi => ⟨_, rfl, ?_⟩⟩, fun h => (by cases h), hn, hm, hlen, fun x hx => ?_⟩
    · exact h.cells (g := g) rfl i _ (by simp [cellsOf, hi])
    · cases hx
      exact ⟨hb, (Array.getElem?_eq_some_iff.1 hg).1⟩
theorem bytes_below {w w' : World} {B : Nat} {ao : Option Addr} {n : Nat} {bs : List UInt8} (h : Bytes w ao n bs) (hb : Below B w w') (hB : ∀ x, ao = some x → x.block < B) : Bytes w' ao n bs := by
  refine ⟨h.1, fun i c hi => ?_⟩
  obtain ⟨x, hx, hc⟩ := h.2 i c hi
  refine ⟨x, hx, ?_⟩
  have hblk : (x.add i).block = x.block := by unfold Addr.add; split <;> rfl
  rw [hb.cell (p := x.add i) (by rw [hblk]; exact hB x hx)]
  exact hc
theorem bytes_nil (w : World) : Bytes w none 0 [] := ⟨rfl, fun i c hi => by simp at hi⟩
/-- Two bytes that were written out. -/
theorem bytes_two (w : World) (a b : UInt8) : Bytes (w.alloc (.cells #[.int .u8 (a.toNat : Int), .int .u8 (b.toNat : Int)] 5)) (some ⟨w.heap.size, 0, none⟩) 2 [a, b] := by
  refine ⟨rfl, fun i c hi => ⟨_, rfl, ?_⟩⟩
  match i, hi with
  | 0, hi => simp at hi; subst hi; simp [Addr.add]
  | 1, hi => simp at hi; subst hi; simp [Addr.add]
  | n + 2, hi => simp at hi
theorem bytes_kept {w w' : World} {B : Nat} {ao : Option Addr} {n : Nat} {bs : List UInt8} (h : Bytes w ao n bs) (hb : Below B w w') (hB : w.heap.size ≤ B) : Bytes w' ao n bs := by
  refine ⟨h.1, fun i c hi => ?_⟩
  obtain ⟨x, hx, hc⟩ := h.2 i c hi
  refine ⟨x, hx, ?_⟩
  have hlt := World.block_lt_of_cell? w _ hc
  rw [hb.cell (p := x.add i) (by omega)]
  exact hc
theorem bytes_take {w : World} {ao : Option Addr} {n : Nat} {bs : List UInt8} (h : Bytes w ao n bs) (k : Nat) (hk : k ≤ n) : Bytes w ao k (bs.take k) := by
  refine ⟨by rw [List.length_take, h.1]; omega, fun i c hi => ?_⟩
  rw [List.getElem?_take] at hi
  split at hi
  · exact h.2 i c hi
  · cases hi
theorem row_bytes {w : World} {a : Option Addr} {len cap : Nat} {zs : List Int}
    (h : (a = none ∧ len = 0 ∧ cap = 0 ∧ zs = []) ∨
      ∃ x, a = some x ∧ len ≤ cap ∧ cap ≤ maxLen ∧ zs.length = cap ∧ (∀ i, i < zs.length → w.cell? (x.add i) = some (.int .u8 (zs.getD i 0))) ∧ ∀ n ∈ zs, (Lit.int .u8 n).wf = true) :
    ∃ bs, Bytes w a len bs ∧ (a = none → cap = 0) ∧ len ≤ cap ∧ cap ≤ 9223372036854775807 := by
  rcases h with ⟨rfl, rfl, rfl, rfl⟩ | ⟨x, rfl, hl, hm, hz, hc, hw⟩
  · exact ⟨[], bytes_nil w, fun _ => rfl, Nat.le_refl _, by omega⟩
  · refine ⟨(zs.take len).map (fun z => UInt8.ofNat z.toNat), ⟨by simp; omega, fun i c hi => ⟨x, rfl, ?_⟩⟩, fun h => (by cases h), hl, by unfold maxLen at hm; omega⟩
    simp only [List.getElem?_map, Option.map_eq_some_iff] at hi
    obtain ⟨z, hz1, rfl⟩ := hi
    rw [List.getElem?_take] at hz1
    split at hz1
    · rename_i hil
      have hmem : z ∈ zs := List.mem_of_getElem? hz1
      have hb := bounds_u8 (hw z hmem)
      rw [hc i (by omega)]
      have hg : zs.getD i 0 = z := by rw [List.getD_eq_getElem?_getD, hz1]; rfl
      rw [hg, toNat_ofNat z.toNat (by omega), Int.toNat_of_nonneg hb.1]
    · cases hz1
theorem bytes_drop {w : World} {b off : Nat} {n : Nat} {bs : List UInt8} (h : Bytes w (some ⟨b, off, none⟩) n bs) (k : Nat) : Bytes w (some ⟨b, off + k, none⟩) (n - k) (bs.drop k) := by
  refine ⟨by rw [List.length_drop, h.1], fun i c hi => ⟨_, rfl, ?_⟩⟩
  rw [List.getElem?_drop] at hi
  obtain ⟨x, hx, hc⟩ := h.2 (k + i) c hi
  cases hx
  rw [Addr.add_lit] at hc ⊢
  rw [Nat.add_assoc]
  exact hc
theorem bel_drewN {B : Nat} {w w' : World} (h : Below B w w') : ∀ n, Below B w (w'.drewN n)
  | 0 => h
  | n + 1 => (bel_drewN h n).drew
/-- 'append(own, more...)'. -/
theorem wpList_append_bytes {ops : Array Oper} {rest : List Oper} {o : Oper} {a : Act} {Q : Exit → Act → World → Prop} (w : World)
    (hg : o.guard = none) (s x : Operand) (hop : o.op = Op.call { callee := Callee.builtin Builtin.append, args := #[s, x], argTypes := #[28, 28] })
    (base : Nat) (v : Value) (n : Nat) (bs : List UInt8) (hs : a.eval s = v) (hown : w.ownsRow base 5 1 v n (cellsOf bs)) (hbase : base ≤ w.heap.size)
    (ao : Option Addr) (m c : Nat) (ms : List UInt8) (hx : a.eval x = .slice ao m c) (hm : Bytes w ao m ms) (h0 : ao = none → c = 0)
    (hb : n + m ≤ 140737488355328)
    (hK : ∀ v' w', w'.ownsRow base 5 1 v' (bs ++ ms).length (cellsOf (bs ++ ms)) → Below base w w' → wpList Try.prog ops Q rest (a.put o.dst v') w') :
    wpList Try.prog ops Q (o :: rest) a w := by
  obtain ⟨i0, hi, hz0, hz1, hz2⟩ := info_parts info5
  have hn : n = bs.length := by have := hown.1; rw [cellsOf_length] at this; omega
  have hml := hm.1
  cases ao with
  | none =>
    have hms : ms = [] := by
      cases ms with
      | nil => rfl
      | cons b t =>
        obtain ⟨y, hy, _⟩ := hm.2 0 b (by simp)
        cases hy
    subst hms
    obtain rfl := h0 rfl
    have hm0 : m = 0 := by simpa using hml.symm
    subst hm0
    refine wpList_append_own_none hg s x 28 hop base 5 i0 1 Try.underlying28 hi v n (cellsOf bs) hs hown hx ?_
    exact hK v w (by rw [List.append_nil, ← hn]; exact hown) (Below.refl _ _)
  | some ad =>
    refine wpList_append_own w hg s x 28 hop base 5 i0 (.int .u8 0) 1 1 Try.underlying28 hi hz0 hz1 hz2 rfl (by decide) v n (cellsOf bs) hs hown ad m c (cellsOf ms) hx (by rw [cellsOf_length]; omega) ?_ (cellsOf_one ms) (by unfold maxLen; omega) (by omega) hbase ?_
    · intro j u hu
      obtain ⟨c, hc, rfl⟩ := cellsOf_at hu
      obtain ⟨y, hy, hcell⟩ := hm.2 j c hc
      cases hy
      exact hcell
    · intro v' w' h1 h2 _
      refine hK v' w' ?_ ((Below.refl _ _).grown h2 hbase (fun k hk => (hown.lt k hk).1))
      rw [List.length_append, hml, ← hn, cellsOf_append]
      exact h1
/-- The same, for a reader: the new slice written out, its numbers letters. -/
theorem wpList_append_read {ops : Array Oper} {rest : List Oper} {o : Oper} {a : Act} {Q : Exit → Act → World → Prop} (w : World)
    (hg : o.guard = none) (s x : Operand) (hop : o.op = Op.call { callee := Callee.builtin Builtin.append, args := #[s, x], argTypes := #[28, 28] })
    (base : Nat) (v : Value) (n : Nat) (bs : List UInt8) (hs : a.eval s = v) (hown : w.ownsRow base 5 1 v n (cellsOf bs)) (hbase : base ≤ w.heap.size)
    (ao : Option Addr) (m c : Nat) (ms : List UInt8) (hx : a.eval x = .slice ao m c) (hm : Bytes w ao m ms) (h0 : ao = none → c = 0)
    (hb : n + m ≤ 140737488355328)
    (hK : ∀ ao' n' c' w', Bytes w' ao' n' (bs ++ ms) → n' ≤ c' → c' ≤ 9223372036854775807 → n' ≤ n + m → Below base w w' → wpList Try.prog ops Q rest (a.put o.dst (.slice ao' n' c')) w') :
    wpList Try.prog ops Q (o :: rest) a w := by
  refine wpList_append_bytes w hg s x hop base v n bs hs hown hbase ao m c ms hx hm h0 hb ?_
  intro v' w' hown' hbel'
  obtain ⟨ao3, c3, rfl, hb3, _, hlc3, hcm3, _, _⟩ := own_bytes hown'
  have hn : n = bs.length := by have := hown.1; rw [cellsOf_length] at this; omega
  have hml := hm.1
  exact hK ao3 _ c3 w' hb3 hlc3 (by unfold maxLen at hcm3; omega) (by rw [List.length_append]; omega) hbel'
theorem str_drop (s : ByteArray) (k : Nat) (h : k < s.size) : (strB s).drop k = s[k] :: (strB s).drop (k + 1) := by
  have h2 : k < (strB s).length := by rw [strB_length]; exact h
  rw [List.drop_eq_getElem_cons h2]
  rfl
theorem str_mk (s : ByteArray) : s = ⟨(strB s).toArray⟩ := by
  cases s
  simp [strB]
theorem strB_mk (l : List UInt8) : strB ⟨l.toArray⟩ = l := by simp [strB]
theorem extract_strB (s : ByteArray) (a v : Nat) : s.extract a (a + v) = ⟨(((strB s).drop a).take v).toArray⟩ := by
  have h := ByteArray.extract_mk (strB s) a (a + v)
  rw [← str_mk s, Nat.add_sub_cancel_left] at h
  exact h
/-- One byte that was written out. -/
theorem bytes_one (w : World) (a : UInt8) : Bytes (w.alloc (.cells #[.int .u8 (a.toNat : Int)] 5)) (some ⟨w.heap.size, 0, none⟩) 1 [a] := by
  refine ⟨rfl, fun i c hi => ⟨_, rfl, ?_⟩⟩
  match i, hi with
  | 0, hi => simp at hi; subst hi; simp [Addr.add]
  | n + 1, hi => simp at hi
/-- An empty slice that was written out. -/
theorem own_empty (w : World) : (w.alloc (.cells #[] 5)).ownsRow w.heap.size 5 1 (.slice (some ⟨w.heap.size, 0, none⟩) 0 0) 0 (cellsOf []) :=
  World.ownsRow_made w #[] 0 (Nat.le_refl _) (by unfold maxLen; omega) rfl
theorem bel_alloc (w : World) (o : Obj) : Below w.heap.size w (w.alloc o) := (Below.refl _ _).alloc (Nat.le_refl _) _
theorem own_shape {w : World} {base : Nat} {v : Value} {n : Nat} {xs : List Value} (h : w.ownsRow base 5 1 v n xs) (hn : 0 < n) :
    ∃ g c, v = .slice (some ⟨g, 0, none⟩) n c ∧ base ≤ g ∧ g < w.heap.size ∧ n ≤ c ∧ c ≤ 9223372036854775807 := by
  rcases h.2 with ⟨rfl, h0⟩ | ⟨g, cap, cur, rfl, hb, hg, hn, hm, hs, ht⟩
  · omega
  · exact ⟨g, cap, rfl, hb, (Array.getElem?_eq_some_iff.1 hg).1, hn, by unfold maxLen at hm; omega⟩
theorem own_below {w w' : World} {B base : Nat} {e : TypeId} {size : Nat} {v : Value} {n : Nat} {xs : List Value} (h : w.ownsRow base e size v n xs) (hb : Below B w w') (hB : w.heap.size ≤ B) : w'.ownsRow base e size v n xs := by
  refine ⟨h.1, ?_⟩
  rcases h.2 with hn | ⟨g, cap, cur, rfl, hbg, hg, r⟩
  · exact .inl hn
  · have hlt := (Array.getElem?_eq_some_iff.1 hg).1
    exact .inr ⟨g, cap, cur, rfl, hbg, by rw [hb.block g (by omega)]; exact hg, r⟩
theorem own_row_bytes {w : World} {base g m c : Nat} {bs : List UInt8} (h : w.ownsRow base 5 1 (.slice (some ⟨g, 0, none⟩) m c) m (cellsOf bs)) : Bytes w (some ⟨g, 0, none⟩) m bs := by
  obtain ⟨ao', c', he, hb', _⟩ := own_bytes h
  cases he
  exact hb'
theorem bytes_drew1 {w : World} {ao : Option Addr} {n : Nat} {bs : List UInt8} (h : Bytes w ao n bs) : Bytes w.drew ao n bs := bytes_kept h (Below.drew (Below.refl w.heap.size w)) (Nat.le_refl _)
/-- 'append([]byte{}, b...)' for a reader who may append to it: as 'wpList_append_read', and what a nil one would be. -/
theorem wpList_append_copy {ops : Array Oper} {rest : List Oper} {o : Oper} {a : Act} {Q : Exit → Act → World → Prop} (w : World)
    (hg : o.guard = none) (s x : Operand) (hop : o.op = Op.call { callee := Callee.builtin Builtin.append, args := #[s, x], argTypes := #[28, 28] })
    (base : Nat) (v : Value) (hs : a.eval s = v) (hown : w.ownsRow base 5 1 v 0 (cellsOf [])) (hbase : base ≤ w.heap.size)
    (ao : Option Addr) (m c : Nat) (ms : List UInt8) (hx : a.eval x = .slice ao m c) (hm : Bytes w ao m ms) (h0 : ao = none → c = 0)
    (hb : m ≤ 140737488355328)
    (hK : ∀ ao' c' w', Bytes w' ao' m ms → m ≤ c' → c' ≤ 9223372036854775807 → (ao' = none → c' = 0) → Below base w w' → wpList Try.prog ops Q rest (a.put o.dst (.slice ao' m c')) w') :
    wpList Try.prog ops Q (o :: rest) a w := by
  refine wpList_append_bytes w hg s x hop base v 0 [] hs hown hbase ao m c ms hx hm h0 (by omega) ?_
  intro v' w' hown' hbel'
  rw [List.nil_append, hm.1] at hown'
  obtain ⟨ao3, c3, rfl, hb3, h03, hlc3, hcm3, _, _⟩ := own_bytes hown'
  exact hK ao3 c3 w' hb3 hlc3 (by unfold maxLen at hcm3; omega) h03 hbel'
/-- The four bytes of a number, the highest first. -/
def fixB (v : Nat) : List UInt8 := [UInt8.ofNat (v / 16777216 % 256), UInt8.ofNat (v / 65536 % 256), UInt8.ofNat (v / 256 % 256), UInt8.ofNat (v % 256)]
theorem fix1 (v : Nat) (h : v < 4294967296) : (v : Int) / 16777216 = ((UInt8.ofNat (v / 16777216 % 256)).toNat : Int) := by rw [toNat_ofNat _ (by omega)]; omega
theorem fix2 (v : Nat) : (v : Int) / 65536 % 256 = ((UInt8.ofNat (v / 65536 % 256)).toNat : Int) := by rw [toNat_ofNat _ (by omega)]; omega
theorem fix3 (v : Nat) : (v : Int) / 256 % 256 = ((UInt8.ofNat (v / 256 % 256)).toNat : Int) := by rw [toNat_ofNat _ (by omega)]; omega
theorem fix4 (v : Nat) : (v : Int) % 256 = ((UInt8.ofNat (v % 256)).toNat : Int) := by rw [toNat_ofNat _ (by omega)]; omega
theorem cell_four (w : World) (a b c d : UInt8) : ∀ j u, (cellsOf [a, b, c, d])[j]? = some u →
    (w.alloc (.cells #[.int .u8 (a.toNat : Int), .int .u8 (b.toNat : Int), .int .u8 (c.toNat : Int), .int .u8 (d.toNat : Int)] 5)).cell? ((⟨w.heap.size, 0, none⟩ : Addr).add j) = some u := by
  intro j u hj
  match j, hj with
  | 0, hj => simp [cellsOf] at hj; subst hj; simp [Addr.add]
  | 1, hj => simp [cellsOf] at hj; subst hj; simp [Addr.add]
  | 2, hj => simp [cellsOf] at hj; subst hj; simp [Addr.add]
  | 3, hj => simp [cellsOf] at hj; subst hj; simp [Addr.add]
  | n + 4, hj => simp [cellsOf] at hj
set_option maxRecDepth 100000 in
set_option maxHeartbeats 400000 in
theorem putFixed_any (ao : Option Addr) (n cap : Nat) (bs : List UInt8) (v : Nat) (w : World) (hn : n ≤ cap) (hcap : cap ≤ 9223372036854775807) (h0 : ao = none → cap = 0) (hb : Bytes w ao n bs) (hv : v < 4294967296) (hbig : n ≤ 140737488355000) :
    Calls Try.prog 68 #[.slice ao n cap, .int .u32 v] w fun e w' => ∃ v', e = .returned v' ∧ w'.ownsRow w.heap.size 5 1 v' (bs ++ fixB v).length (cellsOf (bs ++ fixB v)) ∧ Below w.heap.size w w' := by
  have hbuf : Buf w w.heap.size (.slice ao n n) bs := .inl ⟨ao, by rw [hb.1], by rw [hb.1]; exact hb⟩
  have hbl : bs.length ≤ n := by rw [hb.1]; exact Nat.le_refl _
  clear hb
  go_enter Try.func68, Try.ntmps68
  go_wp2_with fail
  refine (alone_any ao n cap w hn hcap h0).mono ?_
  rintro e w' ⟨rfl, rfl⟩
  clear h0
  go_wp2_with (at_builtin; refine wpList_append_buf _ rfl (.tmp 6) (.tmp 18) rfl w'.heap.size _ bs rfl (hbuf.alloc _) ?hb ⟨w'.heap.size, 0, none⟩ 4 4 (fixB v) rfl rfl (by decide) ?hc ?hlen ?_)
  case hb => simp
  case hc =>
    rw [fix1 v hv, fix2 v, fix3 v, fix4 v]
    exact cell_four w' _ _ _ _
  case hlen => omega
  intro v' w1 hown' hbel'
  have hbelA : Below w'.heap.size w' w1 := ((Below.refl _ _).alloc (Nat.le_refl _) _).trans hbel'
  clear hbuf hbel'
  go_wp2
  go_ret
  exact ⟨v', rfl, by rw [List.length_append]; exact hown', hbelA⟩
/-- What four bytes tell. -/
def fixOf (bs : List UInt8) : Nat × Bool :=
  if bs.length < 4 then (0, false) else ((bs.getD 0 0).toNat * 16777216 + (bs.getD 1 0).toNat * 65536 + (bs.getD 2 0).toNat * 256 + (bs.getD 3 0).toNat, true)
theorem or_at (k a b : Nat) (h : b < 2 ^ k) : a * 2 ^ k ||| b = a * 2 ^ k + b := by
  have := Nat.two_pow_add_eq_or_of_lt h a
  rw [Nat.mul_comm a, this]
theorem or_four (a b c d : Nat) (ha : a < 256) (hb : b < 256) (hc : c < 256) (hd : d < 256) :
    bits .or .u32 (bits .or .u32 (bits .or .u32 ((a : Int) * 16777216) ((b : Int) * 65536)) ((c : Int) * 256)) (d : Int) = ((a * 16777216 + b * 65536 + c * 256 + d : Nat) : Int) := by
  have e1 := or_at (23 + 1) a (b * 65536) (by omega)
  have e2 := or_at 16 (a * 256 + b) (c * 256) (by omega)
  have e3 := or_at 8 (a * 65536 + b * 256 + c) d (by omega)
  simp only [Nat.reducePow] at e1 e2 e3
  rw [show (a * 256 + b) * 65536 = a * 16777216 + b * 65536 from by omega] at e2
  rw [show (a * 65536 + b * 256 + c) * 256 = a * 16777216 + b * 65536 + c * 256 from by omega] at e3
  rw [show ((a : Int) * 16777216) = ((a * 16777216 : Nat) : Int) from by omega, show ((b : Int) * 65536) = ((b * 65536 : Nat) : Int) from by omega, show ((c : Int) * 256) = ((c * 256 : Nat) : Int) from by omega]
  rw [u32_or_nat _ _ (by omega) (by omega), e1, u32_or_nat _ _ (by omega) (by omega), e2, u32_or_nat _ _ (by omega) (by omega), e3]
theorem tup2 {a a' : Int} {p p' : Bool} (h1 : a = a') (h3 : p = p') :
    Ending.returned (.tuple #[.int .u32 a, .bool p]) = .returned (.tuple #[.int .u32 a', .bool p']) := by rw [h1, h3]
set_option maxRecDepth 100000 in
set_option maxHeartbeats 400000 in
theorem fixed_no (ao : Option Addr) (len cap : Nat) (w : World) (hlen : len < 4) :
    Calls Try.prog 72 #[.slice ao len cap] w fun e w' => e = .returned (.tuple #[.int .u32 0, .bool false]) ∧ w' = w := by
  have h1 : (len : Int) < 4 := by omega
  go_enter Try.func72, Try.ntmps72
  go_wp2
  go_ret2
  exact ⟨rfl, rfl⟩
set_option maxRecDepth 100000 in
set_option maxHeartbeats 400000 in
theorem fixed_yes (b off : Nat) (len cap : Nat) (c0 c1 c2 c3 : UInt8) (w : World) (hlen : 4 ≤ len) (h0 : w.cell? ⟨b, off, none⟩ = some (.int .u8 c0.toNat)) (h1 : w.cell? ⟨b, off + 1, none⟩ = some (.int .u8 c1.toNat))
    (h2 : w.cell? ⟨b, off + 2, none⟩ = some (.int .u8 c2.toNat)) (h3 : w.cell? ⟨b, off + 3, none⟩ = some (.int .u8 c3.toNat)) :
    Calls Try.prog 72 #[.slice (some ⟨b, off, none⟩) len cap] w fun e w' => e = .returned (.tuple #[.int .u32 ((c0.toNat * 16777216 + c1.toNat * 65536 + c2.toNat * 256 + c3.toNat : Nat) : Int), .bool true]) ∧ Below w.heap.size w w' := by
  have hi0 : (0 : Int) < (len : Int) := by omega
  have hi1 : (1 : Int) < (len : Int) := by omega
  have hi2 : (2 : Int) < (len : Int) := by omega
  have hi3 : (3 : Int) < (len : Int) := by omega
  have hi4 : ¬ ((len : Int) < 4) := by omega
  have b0 := c0.toNat_lt
  have b1 := c1.toNat_lt
  have b2 := c2.toNat_lt
  have b3 := c3.toNat_lt
  go_enter Try.func72, Try.ntmps72
  go_wp2
  go_quiet (fail)
  go_wp2
  go_ret2
  refine ⟨tup2 ?_ rfl, bel_drewN (Below.refl _ _) nq⟩
  exact or_four c0.toNat c1.toNat c2.toNat c3.toNat b0 b1 b2 b3
/-- codec.Fixed, of whatever bytes. -/
theorem fixed_any (ao : Option Addr) (len cap : Nat) (bs : List UInt8) (w : World) (hb : Bytes w ao len bs) :
    Calls Try.prog 72 #[.slice ao len cap] w fun e w' => e = .returned (.tuple #[.int .u32 (fixOf bs).1, .bool (fixOf bs).2]) ∧ Below w.heap.size w w' := by
  have hl := hb.1
  by_cases h4 : len < 4
  · rw [show fixOf bs = (0, false) from by unfold fixOf; rw [if_pos (by omega)]]
    refine (fixed_no ao len cap w h4).mono ?_
    rintro e w' ⟨rfl, rfl⟩
    exact ⟨rfl, Below.refl _ _⟩
  · rw [show fixOf bs = _ from by unfold fixOf; rw [if_neg (by omega)]]
    obtain ⟨b, off, rfl, hc⟩ := bytes_at hb (by omega)
    have g : ∀ k, k < 4 → w.cell? ⟨b, off + k, none⟩ = some (.int .u8 ((bs.getD k 0).toNat : Int)) := fun k hk => by
      rw [hc k (by omega), List.getD_eq_getElem?_getD, List.getElem?_eq_getElem (by omega)]; rfl
    exact fixed_yes b off len cap _ _ _ _ w (by omega) (g 0 (by omega)) (g 1 (by omega)) (g 2 (by omega)) (g 3 (by omega))
theorem fixOf_fixB (v : Nat) (hv : v < 4294967296) (more : List UInt8) : fixOf (fixB v ++ more) = (v, true) := by
  unfold fixOf
  rw [if_neg (by simp [fixB])]
  simp only [fixB, List.cons_append, List.getD_cons_zero, List.getD_cons_succ, Prod.mk.injEq, and_true]
  rw [toNat_ofNat _ (by omega), toNat_ofNat _ (by omega), toNat_ofNat _ (by omega), toNat_ofNat _ (by omega)]
  omega
theorem run_index_at (s : ByteArray) (k : Nat) (h : k < s.size) (w : World) : (Instr.index 9 (.string s) (.int .i64 (k : Int))).run Try.prog w = .ok (.int .u8 (s[k].toNat : Int)) w := by
  rw [run_index_string w 9 s .i64 (k : Int) Try.underlying9, dif_pos ⟨by omega, by omega⟩]
  rfl
set_option maxRecDepth 100000 in
set_option maxHeartbeats 400000 in
theorem refFixed_any (s : ByteArray) (w : World) (hs : s.size ≤ 9223372036854775807) :
    Calls Try.prog 73 #[.string s] w fun e w' => e = .returned (.tuple #[.int .u32 (fixOf (strB s)).1, .bool (fixOf (strB s)).2]) ∧ Below w.heap.size w w' := by
  by_cases h4 : s.size < 4
  · rw [show fixOf (strB s) = (0, false) from by unfold fixOf; rw [if_pos (by rw [strB_length]; omega)]]
    have h1 : (s.size : Int) < 4 := by omega
    go_enter Try.func73, Try.ntmps73
    go_wp2
    go_ret2
    exact ⟨rfl, Below.refl _ _⟩
  · have g : ∀ k (h : k < s.size), (strB s).getD k 0 = s[k] := fun k h => by
      rw [List.getD_eq_getElem?_getD, List.getElem?_eq_getElem (by rw [strB_length]; exact h)]; rfl
    rw [show fixOf (strB s) = ((s[0].toNat * 16777216 + s[1].toNat * 65536 + s[2].toNat * 256 + s[3].toNat), true) from by
      unfold fixOf; rw [if_neg (by rw [strB_length]; omega), g 0 (by omega), g 1 (by omega), g 2 (by omega), g 3 (by omega)]]
    have hx := fun (k : Nat) (h : k < s.size) (w : World) => run_index_at s k h w
    have hx0 : ∀ w : World, (Instr.index 9 (.string s) (.int .i64 0)).run Try.prog w = .ok (.int .u8 (s[0].toNat : Int)) w := fun w => hx 0 (by omega) w
    have hx1 : ∀ w : World, (Instr.index 9 (.string s) (.int .i64 1)).run Try.prog w = .ok (.int .u8 (s[1].toNat : Int)) w := fun w => hx 1 (by omega) w
    have hx2 : ∀ w : World, (Instr.index 9 (.string s) (.int .i64 2)).run Try.prog w = .ok (.int .u8 (s[2].toNat : Int)) w := fun w => hx 2 (by omega) w
    have hx3 : ∀ w : World, (Instr.index 9 (.string s) (.int .i64 3)).run Try.prog w = .ok (.int .u8 (s[3].toNat : Int)) w := fun w => hx 3 (by omega) w
    generalize s[0] = c0 at *
    generalize s[1] = c1 at *
    generalize s[2] = c2 at *
    generalize s[3] = c3 at *
    have hi4 : ¬ ((s.size : Int) < 4) := by omega
    have b0 := c0.toNat_lt
    have b1 := c1.toNat_lt
    have b2 := c2.toNat_lt
    have b3 := c3.toNat_lt
    clear g h4 hx
    go_enter Try.func73, Try.ntmps73
    go_wp2
    go_quiet (fail)
    go_wp2
    go_ret2
    refine ⟨tup2 ?_ rfl, bel_drewN (Below.refl _ _) nq⟩
    exact or_four c0.toNat c1.toNat c2.toNat c3.toNat b0 b1 b2 b3
/-- Four bytes that were written out. -/
theorem bytes_four (w : World) (a b c d : UInt8) : Bytes (w.alloc (.cells #[.int .u8 (a.toNat : Int), .int .u8 (b.toNat : Int), .int .u8 (c.toNat : Int), .int .u8 (d.toNat : Int)] 5)) (some ⟨w.heap.size, 0, none⟩) 4 [a, b, c, d] := by
  refine ⟨rfl, fun i x hi => ⟨_, rfl, ?_⟩⟩
  match i, hi with
  | 0, hi => simp at hi; subst hi; simp [Addr.add]
  | 1, hi => simp at hi; subst hi; simp [Addr.add]
  | 2, hi => simp at hi; subst hi; simp [Addr.add]
  | 3, hi => simp at hi; subst hi; simp [Addr.add]
  | n + 4, hi => simp at hi
set_option maxRecDepth 100000 in
set_option maxHeartbeats 400000 in
theorem refPutFixed_any (s : ByteArray) (v : Nat) (w : World) (hs : s.size ≤ 4611686018427387904) (hv : v < 4294967296) :
    Calls Try.prog 88 #[.string s, .int .u32 v] w fun e w' => e = .returned (.string ⟨(strB s ++ fixB v).toArray⟩) ∧ Below w.heap.size w w' := by
  have hcv := str_bytes 4 (bytes_four w (UInt8.ofNat (v / 16777216 % 256)) (UInt8.ofNat (v / 65536 % 256)) (UInt8.ofNat (v / 256 % 256)) (UInt8.ofNat (v % 256)))
  rw [← fix1 v hv, ← fix2 v, ← fix3 v, ← fix4 v] at hcv
  have hqs : (⟨(fixB v).toArray⟩ : ByteArray).size ≤ 4 := by show (fixB v).toArray.size ≤ _; rw [List.size_toArray]; exact Nat.le_refl _
  have HQ : Hid (s ++ ⟨(fixB v).toArray⟩ = ⟨(strB s ++ fixB v).toArray⟩) := by
    have h := ByteArray.mk_append_mk (strB s) (fixB v)
    rw [← str_mk s] at h
    exact h
  have hcv2 : (convert 28 9 (.slice (some ⟨w.heap.size, 0, none⟩) 4 4)).run Try.prog (w.alloc (.cells #[.int .u8 ((v : Int) / 16777216), .int .u8 ((v : Int) / 65536 % 256), .int .u8 ((v : Int) / 256 % 256), .int .u8 ((v : Int) % 256)] 5)) = .ok (.string ⟨(fixB v).toArray⟩) (w.alloc (.cells #[.int .u8 ((v : Int) / 16777216), .int .u8 ((v : Int) / 65536 % 256), .int .u8 ((v : Int) / 256 % 256), .int .u8 ((v : Int) % 256)] 5)) := hcv
  clear hcv
  generalize (⟨(fixB v).toArray⟩ : ByteArray) = q at *
  go_enter Try.func88, Try.ntmps88
  go_wp2
  go_ret
  exact ⟨by rw [← HQ.out]; rfl, (Below.refl _ _).alloc (Nat.le_refl _) _⟩
theorem putFixed_shape (ao : Option Addr) (n cap : Nat) (bs : List UInt8) (v : Nat) (m : Nat) (hm : (bs ++ fixB v).length = m) (w : World) (hn : n ≤ cap) (hcap : cap ≤ 9223372036854775807) (h0 : ao = none → cap = 0) (hb : Bytes w ao n bs) (hv : v < 4294967296) (hbig : n ≤ 140737488355000) :
    Calls Try.prog 68 #[.slice ao n cap, .int .u32 v] w fun e w' => ∃ g c, e = .returned (.slice (some ⟨g, 0, none⟩) m c) ∧ Bytes w' (some ⟨g, 0, none⟩) m (bs ++ fixB v) ∧ Below w.heap.size w w' := by
  refine (putFixed_any ao n cap bs v w hn hcap h0 hb hv hbig).mono ?_
  rintro e w' ⟨v', rfl, hown, hbel⟩
  rw [hm] at hown
  obtain ⟨g, c, rfl, h1, h2, h3, h4⟩ := own_shape hown (by rw [← hm, List.length_append, fixB]; simp)
  obtain ⟨ao', c', he, hb', _⟩ := own_bytes hown
  cases he
  exact ⟨g, c, rfl, hb', hbel⟩
end Go.Proofs.Ytaejcclepahefaa

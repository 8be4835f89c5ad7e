/-
  Slices of bytes, as the walks take them.
-/
import Derived.Test.YtiimmknnlciljaaDoorSSpread
import Derived.OpenShut
namespace Go.Proofs.YtiimmknnlciljaaDoor.Sm
open Go.RowKit
theorem toNat_ofNat (n : Nat) (h : n < 256) : (UInt8.ofNat n).toNat = n := by
  rw [UInt8.toNat_ofNat']; omega

/-- The slice whose elements are the bytes bs. -/
def Bytes (w : World) (ao : Option Addr) (len : Nat) (bs : List UInt8) : Prop :=
  bs.length = len ∧ ∀ i c, bs[i]? = some c → ∃ x, ao = some x ∧ w.cell? (x.add i) = some (.int .u8 c.toNat)
theorem info5 : (Tryd.prog.info? 5).map (fun i => (i.zero, i.size, i.bytes)) = some (some (.int .u8 0), 1, 1) := by kernel_rfl
theorem cellsOf_length (bs : List UInt8) : (cellsOf bs).length = bs.length := by simp [cellsOf]
theorem cellsOf_append (a b : List UInt8) : cellsOf (a ++ b) = cellsOf a ++ cellsOf b := by simp [cellsOf]
theorem cellsOf_one (bs : List UInt8) : ∀ u ∈ cellsOf bs, u.oneCell' = true := by
  intro u hu
  simp only [cellsOf, List.mem_map] at hu
  obtain ⟨b, _, rfl⟩ := hu
  rfl
theorem cellsOf_at {bs : List UInt8} {j : Nat} {u : Value} (h : (cellsOf bs)[j]? = some u) : ∃ c, bs[j]? = some c ∧ u = .int .u8 c.toNat := by
  simp only [cellsOf, List.getElem?_map, Option.map_eq_some_iff] at h
  obtain ⟨c, hc, rfl⟩ := h
  exact ⟨c, hc, rfl⟩
theorem ownsRow_mono {w : World} {B B' : Nat} {e : TypeId} {size : Nat} {v : Value} {n : Nat} {xs : List Value} (h : w.ownsRow B e size v n xs) (hB : B' ≤ B) : w.ownsRow B' e size v n xs := by
  obtain ⟨h1, h2⟩ := h
  refine ⟨h1, ?_⟩
  rcases h2 with h2 | ⟨g, cap, cur, hv, hg, r⟩
  · exact .inl h2
  · exact .inr ⟨g, cap, cur, hv, by omega, r⟩
/-- A slice that is bs, and that may be appended to: it has no room, or is the call's own. -/
def Buf (w : World) (base : Nat) (v : Value) (bs : List UInt8) : Prop :=
  (∃ ao, v = .slice ao bs.length bs.length ∧ Bytes w ao bs.length bs) ∨ w.ownsRow base 5 1 v bs.length (cellsOf bs)
theorem Buf.alloc {w : World} {base : Nat} {v : Value} {bs : List UInt8} (h : Buf w base v bs) (o : Obj) : Buf (w.alloc o) base v bs := by
  rcases h with ⟨ao, hv, hl, hc⟩ | h
  · refine .inl ⟨ao, hv, hl, fun i c hi => ?_⟩
    obtain ⟨x, hx, hcell⟩ := hc i c hi
    refine ⟨x, hx, ?_⟩
    rw [← hcell]
    exact World.cell?_of_block (Below.heap_alloc _ _ _ (by have := World.block_lt_of_cell? w _ hcell; exact this))
  · exact .inr (h.alloc o)
theorem wpList_append_buf {ops : Array Oper} {rest : List Oper} {o : Oper} {a : Act} {Q : Exit → Act → World → Prop} (w : World)
    (hg : o.guard = none) (s x : Operand) (hop : o.op = Op.call { callee := Callee.builtin Builtin.append, args := #[s, x], argTypes := #[25, 25] })
    (base : Nat) (v : Value) (bs : List UInt8) (hs : a.eval s = v) (hbuf : Buf w base v bs) (hbase : base ≤ w.heap.size)
    (ad : Addr) (m c : Nat) (news : List UInt8) (hx : a.eval x = .slice (some ad) m c) (hn : news.length = m) (hm : 0 < m) (hc : ∀ j u, (cellsOf news)[j]? = some u → w.cell? (ad.add j) = some u)
    (hb : bs.length + m ≤ 140737488355328)
    (hK : ∀ v' w', w'.ownsRow base 5 1 v' (bs ++ news).length (cellsOf (bs ++ news)) → Below base w w' → wpList Tryd.prog ops Q rest (a.put o.dst v') w') :
    wpList Tryd.prog ops Q (o :: rest) a w := by
  obtain ⟨i0, hi, hz0, hz1, hz2⟩ := info_parts info5
  have hlen : (bs ++ news).length = bs.length + m := by simp [hn]
  rw [hlen] at hK
  simp only [cellsOf_append] at hK
  rcases hbuf with ⟨ao, hv, hl, hcells⟩ | hown
  · subst hv
    refine wpList_append_grows w hg s x 25 hop 5 i0 (.int .u8 0) 1 1 Tryd.underlying25 hi hz0 hz1 hz2 rfl (by decide) ao bs.length bs.length (cellsOf bs) hs ?_ (by rw [cellsOf_length]; omega) ?_ ad m c (cellsOf news) hx (by rw [cellsOf_length]; omega) hc (cellsOf_one news) (by omega) (by unfold maxLen; omega) (by omega) ?_
    · intro h0
      subst h0
      cases bs with
      | nil => simp
      | cons b t =>
        obtain ⟨x, hx, _⟩ := hcells 0 b (by simp)
        cases hx
    · intro b hb j u hu
      obtain ⟨c, hc, rfl⟩ := cellsOf_at hu
      obtain ⟨x, hx, hcell⟩ := hcells j c hc
      rw [hb] at hx
      cases hx
      exact hcell
    · intro v' w' h1 h2
      exact hK v' w' (ownsRow_mono h1 hbase) ((Below.refl _ _).grown h2 hbase (fun k hk => by cases hk))
  · refine wpList_append_own w hg s x 25 hop base 5 i0 (.int .u8 0) 1 1 Tryd.underlying25 hi hz0 hz1 hz2 rfl (by decide) v bs.length (cellsOf bs) hs hown ad m c (cellsOf news) hx (by rw [cellsOf_length]; omega) hc (cellsOf_one news) (by unfold maxLen; omega) (by omega) hbase ?_
    intro v' w' h1 h2 _
    exact hK v' w' h1 ((Below.refl _ _).grown h2 hbase (fun k hk => (hown.lt k hk).1))

theorem foldl_push (bs : List UInt8) : ∀ s : ByteArray, (bs.map (fun b => (b.toNat : Int))).foldl (fun r n => r.push (UInt8.ofNat n.toNat)) s = ⟨s.data ++ bs.toArray⟩ := by
  induction bs with
  | nil => intro s; simp
  | cons b t ih =>
    intro s
    rw [List.map_cons, List.foldl_cons, ih]
    have hb : UInt8.ofNat ((b.toNat : Int)).toNat = b := by simp
    rw [hb]
    show ByteArray.mk (s.data.push b ++ t.toArray) = _
    simp
theorem foldl_bytes (bs : List UInt8) : (bs.map (fun b => (b.toNat : Int))).foldl (fun r n => r.push (UInt8.ofNat n.toNat)) ByteArray.empty = ⟨bs.toArray⟩ := by
  rw [foldl_push]
  show ByteArray.mk (#[] ++ bs.toArray) = _
  simp
/-- 'string(b)'. -/
theorem str_bytes {w : World} {ao : Option Addr} {n : Nat} {bs : List UInt8} (cap : Nat) (h : Bytes w ao n bs) :
    (convert 25 9 (.slice ao n cap)).run Tryd.prog w = .ok (.string ⟨bs.toArray⟩) w := by
  rw [run_convert_bytes_string w 25 9 5 _ _ _ Tryd.underlying25 Tryd.underlying5 Tryd.underlying9]
  cases ao with
  | none =>
    have hb : bs = [] := by
      cases bs with
      | nil => rfl
      | cons b t =>
        obtain ⟨x, hx, _⟩ := h.2 0 b (by simp)
        cases hx
    subst hb
    simp [Conv.bytesToString]
    rfl
  | some x =>
    have hl := run_loadCells_list (P := Tryd.prog) (w := w) x (cellsOf bs) (fun j u hu => by
      obtain ⟨c, hc, rfl⟩ := cellsOf_at hu
      obtain ⟨y, hy, hcell⟩ := h.2 j c hc
      cases hy
      exact hcell)
    rw [cellsOf_length, h.1] at hl
    have e : cellsOf bs = (bs.map fun b => (b.toNat : Int)).map (Value.int .u8) := by simp [cellsOf]
    rw [e] at hl
    rw [run_bytesToString w x n cap _ hl, foldl_bytes]
theorem own_bytes {w : World} {base : Nat} {v : Value} {n : Nat} {bs : List UInt8} (h : w.ownsRow base 5 1 v n (cellsOf bs)) :
    ∃ ao cap, v = .slice ao n cap ∧ Bytes w ao n bs ∧ (ao = none → cap = 0) ∧ n ≤ cap ∧ cap ≤ maxLen ∧ n = bs.length ∧ (∀ x, ao = some x → base ≤ x.block ∧ x.block < w.heap.size) := by
  have hlen : n = bs.length := by have := h.1; rw [cellsOf_length] at this; omega
  rcases h.2 with ⟨rfl, h0⟩ | ⟨g, cap, cur, rfl, hb, hg, hn, hm, hs, ht⟩
  · subst h0
    have : bs = [] := List.eq_nil_of_length_eq_zero hlen.symm
    subst this
    exact ⟨none, 0, rfl, ⟨rfl, fun i c hi => by simp at hi⟩, fun _ => rfl, Nat.le_refl _, by simp [maxLen], rfl, fun x hx => by cases hx⟩
  · refine ⟨_, cap, rfl, ⟨hlen.symm, fun i c hi => ⟨_, rfl, ?_⟩⟩, fun h => (by cases h), hn, hm, hlen, fun x hx => ?_⟩
    · exact h.cells (g := g) rfl i _ (by simp [cellsOf, hi])
    · cases hx
      exact ⟨hb, (Array.getElem?_eq_some_iff.1 hg).1⟩
theorem bytes_below {w w' : World} {B : Nat} {ao : Option Addr} {n : Nat} {bs : List UInt8} (h : Bytes w ao n bs) (hb : Below B w w') (hB : ∀ x, ao = some x → x.block < B) : Bytes w' ao n bs := by
  refine ⟨h.1, fun i c hi => ?_⟩
  obtain ⟨x, hx, hc⟩ := h.2 i c hi
  refine ⟨x, hx, ?_⟩
  have hblk : (x.add i).block = x.block := by unfold Addr.add; split <;> rfl
  rw [hb.cell (p := x.add i) (by rw [hblk]; exact hB x hx)]
  exact hc
theorem bytes_nil (w : World) : Bytes w none 0 [] := ⟨rfl, fun i c hi => by simp at hi⟩

theorem bytes_kept {w w' : World} {B : Nat} {ao : Option Addr} {n : Nat} {bs : List UInt8} (h : Bytes w ao n bs) (hb : Below B w w') (hB : w.heap.size ≤ B) : Bytes w' ao n bs := by
  refine ⟨h.1, fun i c hi => ?_⟩
  obtain ⟨x, hx, hc⟩ := h.2 i c hi
  refine ⟨x, hx, ?_⟩
  have hlt := World.block_lt_of_cell? w _ hc
  rw [hb.cell (p := x.add i) (by omega)]
  exact hc
theorem bytes_take {w : World} {ao : Option Addr} {n : Nat} {bs : List UInt8} (h : Bytes w ao n bs) (k : Nat) (hk : k ≤ n) : Bytes w ao k (bs.take k) := by
  refine ⟨by rw [List.length_take, h.1]; omega, fun i c hi => ?_⟩
  rw [List.getElem?_take] at hi
  split at hi
  · exact h.2 i c hi
  · cases hi
theorem row_bytes {w : World} {a : Option Addr} {len cap : Nat} {zs : List Int}
    (h : (a = none ∧ len = 0 ∧ cap = 0 ∧ zs = []) ∨
      ∃ x, a = some x ∧ len ≤ cap ∧ cap ≤ maxLen ∧ zs.length = cap ∧ (∀ i, i < zs.length → w.cell? (x.add i) = some (.int .u8 (zs.getD i 0))) ∧ ∀ n ∈ zs, (Lit.int .u8 n).wf = true) :
    ∃ bs, Bytes w a len bs ∧ (a = none → cap = 0) ∧ len ≤ cap ∧ cap ≤ 9223372036854775807 := by
  rcases h with ⟨rfl, rfl, rfl, rfl⟩ | ⟨x, rfl, hl, hm, hz, hc, hw⟩
  · exact ⟨[], bytes_nil w, fun _ => rfl, Nat.le_refl _, by omega⟩
  · refine ⟨(zs.take len).map (fun z => UInt8.ofNat z.toNat), ⟨by simp; omega, fun i c hi => ⟨x, rfl, ?_⟩⟩, fun h => (by cases h), hl, by unfold maxLen at hm; omega⟩
    simp only [List.getElem?_map, Option.map_eq_some_iff] at hi
    obtain ⟨z, hz1, rfl⟩ := hi
    rw [List.getElem?_take] at hz1
    split at hz1
    · rename_i hil
      have hmem : z ∈ zs := List.mem_of_getElem? hz1
      have hb := bounds_u8 (hw z hmem)
      rw [hc i (by omega)]
      have hg : zs.getD i 0 = z := by rw [List.getD_eq_getElem?_getD, hz1]; rfl
      rw [hg, toNat_ofNat z.toNat (by omega), Int.toNat_of_nonneg hb.1]
    · cases hz1


/-- An empty slice that was written out. -/
theorem own_empty (w : World) : (w.alloc (.cells #[] 5)).ownsRow w.heap.size 5 1 (.slice (some ⟨w.heap.size, 0, none⟩) 0 0) 0 (cellsOf []) :=
  World.ownsRow_made w #[] 0 (Nat.le_refl _) (by unfold maxLen; omega) rfl
theorem bel_alloc (w : World) (o : Obj) : Below w.heap.size w (w.alloc o) := (Below.refl _ _).alloc (Nat.le_refl _) _

theorem own_shape {w : World} {base : Nat} {v : Value} {n : Nat} {xs : List Value} (h : w.ownsRow base 5 1 v n xs) (hn : 0 < n) :
    ∃ g c, v = .slice (some ⟨g, 0, none⟩) n c ∧ base ≤ g ∧ g < w.heap.size ∧ n ≤ c ∧ c ≤ 9223372036854775807 := by
  rcases h.2 with ⟨rfl, h0⟩ | ⟨g, cap, cur, rfl, hb, hg, hn, hm, hs, ht⟩
  · omega
  · exact ⟨g, cap, rfl, hb, (Array.getElem?_eq_some_iff.1 hg).1, hn, by unfold maxLen at hm; omega⟩
theorem own_below {w w' : World} {B base : Nat} {e : TypeId} {size : Nat} {v : Value} {n : Nat} {xs : List Value} (h : w.ownsRow base e size v n xs) (hb : Below B w w') (hB : w.heap.size ≤ B) : w'.ownsRow base e size v n xs := by
  refine ⟨h.1, ?_⟩
  rcases h.2 with hn | ⟨g, cap, cur, rfl, hbg, hg, r⟩
  · exact .inl hn
  · have hlt := (Array.getElem?_eq_some_iff.1 hg).1
    exact .inr ⟨g, cap, cur, rfl, hbg, by rw [hb.block g (by omega)]; exact hg, r⟩
theorem own_row_bytes {w : World} {base g m c : Nat} {bs : List UInt8} (h : w.ownsRow base 5 1 (.slice (some ⟨g, 0, none⟩) m c) m (cellsOf bs)) : Bytes w (some ⟨g, 0, none⟩) m bs := by
  obtain ⟨ao', c', he, hb', _⟩ := own_bytes h
  cases he
  exact hb'
theorem bytes_drew1 {w : World} {ao : Option Addr} {n : Nat} {bs : List UInt8} (h : Bytes w ao n bs) : Bytes w.drew ao n bs := bytes_kept h (Below.drew (Below.refl w.heap.size w)) (Nat.le_refl _)

end Go.Proofs.YtiimmknnlciljaaDoor.Sm

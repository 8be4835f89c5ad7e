/-
  Rows of frames, of texts and of ends that grow together: no walk.
-/
import Derived.Test.YtaejcclepahefaaTurnedW
import Derived.Test.YtaejcclepahefaaRefL
import Derived.Test.YtaejcclepahefaaReadsW
namespace Go.Proofs.Ytaejcclepahefaa
open Go.RowKit
theorem info3 : (Try.prog.info? 3).map (fun i => (i.zero, i.size, i.bytes)) = some (some (.int .i64 0), 1, 8) := by kernel_rfl
/-- The first bodies, cut. -/
def cutJ (ps : List SV) (i : Nat) : List (List UInt8) := (ps.take i).map fun p => p.bs.take 1000
theorem cutJ_succ (ps : List SV) (i : Nat) (p : SV) (h : ps[i]? = some p) : cutJ ps (i + 1) = cutJ ps i ++ [p.bs.take 1000] := by
  unfold cutJ; rw [List.take_add_one, h]; simp
theorem cutJ_len (ps : List SV) (i : Nat) (h : i ≤ ps.length) : (cutJ ps i).length = i := by unfold cutJ; simp; omega
theorem cutJ_small (ps : List SV) (i : Nat) : ∀ b ∈ cutJ ps i, b.length ≤ 65536 := by
  intro b hb
  unfold cutJ at hb
  obtain ⟨p, -, rfl⟩ := List.mem_map.1 hb
  simp; omega
theorem cutJ_part (ps : List SV) (i k : Nat) (h : k ≤ i) : cutJ ps i = cutJ ps k ++ (cutJ ps i).drop k := by
  have e : (cutJ ps i).take k = cutJ ps k := by unfold cutJ; rw [← List.map_take, List.take_take, Nat.min_eq_left h]
  rw [← e, List.take_append_drop]
theorem row_part (ps : List SV) (i k : Nat) (h : k ≤ i) : (rowB (cutJ ps i)).take (rowB (cutJ ps k)).length = rowB (cutJ ps k) ∧ (rowB (cutJ ps i)).drop (rowB (cutJ ps k)).length = rowB ((cutJ ps i).drop k) ∧ (rowB (cutJ ps k)).length ≤ (rowB (cutJ ps i)).length := by
  have e : rowB (cutJ ps i) = rowB (cutJ ps k) ++ rowB ((cutJ ps i).drop k) := by
    rw [← rowB_append]; congr 1; exact cutJ_part ps i k h
  rw [e]
  exact ⟨List.take_left, List.drop_left, by simp⟩
def intC (l : List Nat) : List Value := l.map fun (n : Nat) => Value.int .i64 (n : Int)
def endsJ (ps : List SV) (i : Nat) : List Nat := (List.range i).map fun j => (rowB (cutJ ps (j + 1))).length
theorem endsJ_succ (ps : List SV) (i : Nat) : endsJ ps (i + 1) = endsJ ps i ++ [(rowB (cutJ ps (i + 1))).length] := by
  unfold endsJ; rw [List.range_succ]; simp
theorem endsJ_at (ps : List SV) (i j : Nat) (h : j < i) : (endsJ ps i)[j]? = some (rowB (cutJ ps (j + 1))).length := by
  unfold endsJ; simp [h]
theorem take_min1 {bs : List UInt8} {n m : Nat} (hl : bs.length = n) (hm : min n 1000 = m) : bs.take m = bs.take 1000 := by
  rw [← hm, ← hl, List.take_eq_take_iff]; omega
theorem minfacts1 {n m c : Nat} (h : min n 1000 = m) (hc : n ≤ c) : min (n : Int) 1000 = (m : Int) ∧ (0 : Int) ≤ (m : Int) ∧ (m : Int) ≤ (c : Int) ∧ m ≤ c ∧ m ≤ n := by omega
theorem wsum3 {v m k : Nat} (h : v + (8 + m) = k) (hk : k ≤ 1000000) : wrap64 ((v : Int) + 8) = (v : Int) + 8 ∧ wrap64 ((v : Int) + 8 + (m : Int)) = (k : Int) := by
  unfold wrap64; omega
theorem wrap_le {a b : Nat} (ha : a ≤ 9223372036854775807) (hb : b ≤ 9223372036854775807) : wrap64 ((a : Int) + (b : Int)) ≤ (a : Int) + (b : Int) := by unfold wrap64; omega
theorem wsubj {i l j : Nat} (h : i - l = j) (hl : l ≤ i) (hi : i ≤ 1000) : wrap64 ((i : Int) - (l : Int)) = (j : Int) := by unfold wrap64; omega
theorem own_it {w : World} {base : Nat} {ao : Option Addr} {n c : Nat} {bs : List UInt8} (h : w.ownsRow base 5 1 (.slice ao n c) n (cellsOf bs)) : Bytes w ao n bs := by
  obtain ⟨ao3, c3, e3, hb3, -⟩ := own_bytes h; cases e3; exact hb3
theorem rows_apart {w : World} {B e1 e2 s1 s2 n1 n2 : Nat} {v1 v2 : Value} {x1 x2 : List Value} (h1 : w.ownsRow B e1 s1 v1 n1 x1) (h2 : w.ownsRow B e2 s2 v2 n2 x2) (hne : e1 ≠ e2) : v1.ownBlock = none ∨ v1.ownBlock ≠ v2.ownBlock := by
  rcases h1.2 with ⟨rfl, -⟩ | ⟨g1, c1, cur1, rfl, -, hg1, -⟩
  · exact .inl rfl
  · right
    intro e
    rcases h2.2 with ⟨rfl, -⟩ | ⟨g2, c2, cur2, rfl, -, hg2, -⟩
    · cases e
    · obtain rfl : g1 = g2 := by simpa [Value.ownBlock] using e
      rw [hg1] at hg2; cases hg2; exact hne rfl
/-- What the loop has: the frames, the texts, the ends. -/
structure JI (B : Nat) (ps : List SV) (i : Nat) (vo : Option Addr) (vn vc : Nat) (u9 u10 : Value) (w wr : World) : Prop where
  x : wr.ownsRow B 5 1 (.slice vo vn vc) vn (cellsOf (rowB (cutJ ps i)))
  want : wr.ownsRow B 9 1 u9 i (strC (cutJ ps i))
  ends : wr.ownsRow B 3 1 u10 i (intC (endsJ ps i))
  small : vn ≤ i * 1008
  bel : Below w.heap.size w wr
  size : B ≤ wr.heap.size
structure JI2 (B : Nat) (ps : List SV) (i : Nat) (vo : Option Addr) (vn vc : Nat) (u9 u10 : Value) (w wr : World) : Prop where
  x : wr.ownsRow B 5 1 (.slice vo vn vc) vn (cellsOf (rowB (cutJ ps (i + 1))))
  want : wr.ownsRow B 9 1 u9 i (strC (cutJ ps i))
  ends : wr.ownsRow B 3 1 u10 i (intC (endsJ ps i))
  small : vn ≤ (i + 1) * 1008
  bel : Below w.heap.size w wr
  size : B ≤ wr.heap.size
structure JI3 (B : Nat) (ps : List SV) (i : Nat) (vo : Option Addr) (vn vc : Nat) (u9 u10 : Value) (w wr : World) : Prop where
  x : wr.ownsRow B 5 1 (.slice vo vn vc) vn (cellsOf (rowB (cutJ ps (i + 1))))
  want : wr.ownsRow B 9 1 u9 (i + 1) (strC (cutJ ps (i + 1)))
  ends : wr.ownsRow B 3 1 u10 i (intC (endsJ ps i))
  small : vn ≤ (i + 1) * 1008
  bel : Below w.heap.size w wr
  size : B ≤ wr.heap.size
theorem low_grow {w w2 w3 : World} {B e s n : Nat} {v : Value} {xs : List Value} {o : Obj} (hb : Below w.heap.size w w2) (hB : B ≤ w2.heap.size) (hwB : w.heap.size ≤ B) (h : w2.ownsRow B e s v n xs) (hg : (w2.alloc o).grownBy w3 v.ownBlock) : Below w.heap.size w w3 ∧ B ≤ w3.heap.size := by
  have hs : (w2.alloc o).heap.size = w2.heap.size + 1 := by simp
  refine ⟨hb.trans (((Below.refl _ w2).alloc (Nat.le_trans hwB hB) _).grown hg (by omega) fun k hk => ?_), Nat.le_trans hB (Nat.le_trans (by omega) hg.size)⟩
  rcases h.2 with ⟨rfl, -⟩ | ⟨g, c, cur, rfl, hbg, -⟩
  · cases hk
  · obtain rfl : g = k := by simpa [Value.ownBlock] using hk
    omega
theorem JI2.want_more {B : Nat} {ps : List SV} {i : Nat} {vo : Option Addr} {vn vc : Nat} {u9 u10 v9 : Value} {w w2 w3 : World} {o : Obj} {ms : List UInt8} (h : JI2 B ps i vo vn vc u9 u10 w w2) (hown : w3.ownsRow B 9 1 v9 (i + 1) (strC (cutJ ps i) ++ [.string (bS ms)])) (hg : (w2.alloc o).grownBy w3 u9.ownBlock) (hc : cutJ ps (i + 1) = cutJ ps i ++ [ms]) (hwB : w.heap.size ≤ B) : JI3 B ps i vo vn vc v9 u10 w w3 := by
  obtain ⟨l1, l2⟩ := low_grow h.bel h.size hwB h.want hg
  have k1 := own_below h.x (bel_alloc w2 o) (Nat.le_refl _)
  have k2 := own_below h.want (bel_alloc w2 o) (Nat.le_refl _)
  have k3 := own_below h.ends (bel_alloc w2 o) (Nat.le_refl _)
  exact ⟨k1.kept hg (rows_apart k1 k2 (by decide)), by rw [hc, strC, List.map_append]; exact hown, k3.kept hg (rows_apart k3 k2 (by decide)), h.small, l1, l2⟩
theorem JI3.ends_more {B : Nat} {ps : List SV} {i : Nat} {vo : Option Addr} {vn vc : Nat} {u9 u10 v10 : Value} {w w2 w3 : World} {o : Obj} (h : JI3 B ps i vo vn vc u9 u10 w w2) (hown : w3.ownsRow B 3 1 v10 (i + 1) (intC (endsJ ps i) ++ [.int .i64 (vn : Int)])) (hg : (w2.alloc o).grownBy w3 u10.ownBlock) (hwB : w.heap.size ≤ B) : JI B ps (i + 1) vo vn vc u9 v10 w w3 := by
  obtain ⟨l1, l2⟩ := low_grow h.bel h.size hwB h.ends hg
  have k1 := own_below h.x (bel_alloc w2 o) (Nat.le_refl _)
  have k2 := own_below h.want (bel_alloc w2 o) (Nat.le_refl _)
  have k3 := own_below h.ends (bel_alloc w2 o) (Nat.le_refl _)
  have hvn : (rowB (cutJ ps (i + 1))).length = vn := by have := h.x.1; rw [cellsOf_length] at this; omega
  exact ⟨k1.kept hg (rows_apart k1 k3 (by decide)), k2.kept hg (rows_apart k2 k3 (by decide)), by rw [endsJ_succ, hvn, intC, List.map_append]; exact hown, h.small, l1, l2⟩
theorem slice_of {w : World} {B e s n : Nat} {v : Value} {xs : List Value} (h : w.ownsRow B e s v n xs) : ∃ o c, v = .slice o n c := by
  rcases h.2 with ⟨e1, e2⟩ | ⟨g, cap, cur, e1, _⟩
  · exact ⟨none, 0, by rw [e1, e2]⟩
  · exact ⟨_, _, e1⟩
/-- A row of bodies that was told. -/
def TR (w : World) (B : Nat) (lo : Option Addr) (n lc : Nat) (bs : List (List UInt8)) : Prop := ∃ xs : List SV, w.ownsRow B 28 1 (.slice lo n lc) n (svC xs) ∧ Told B w xs ∧ xs.map SV.bs = bs
theorem TR.below {w w' : World} {B W n lc : Nat} {lo : Option Addr} {bs : List (List UInt8)} (h : TR w B lo n lc bs) (hb : Below W w w') (hW : w.heap.size ≤ W) : TR w' B lo n lc bs := by
  obtain ⟨xs, h1, h2, h3⟩ := h
  exact ⟨xs, own_below h1 hb hW, ⟨fun x hx => own_below (h2.1 x hx) hb hW, h2.2⟩, h3⟩
theorem TR.here {w : World} {B n lc : Nat} {lo : Option Addr} {bs : List (List UInt8)} (h : TR w B lo n lc bs) {j : Nat} {b : List UInt8} (hj : bs[j]? = some b) : ∃ g xo xn xc, lo = some ⟨g, 0, none⟩ ∧ w.cell? ⟨g, j, none⟩ = some (.slice xo xn xc) ∧ Bytes w xo xn b := by
  obtain ⟨xs, h1, h2, h3⟩ := h
  rw [← h3, List.getElem?_map] at hj
  obtain ⟨x, hx, rfl⟩ := Option.map_eq_some_iff.1 hj
  obtain ⟨g, hlo, -, hc⟩ := sv_cell h1 hx
  exact ⟨g, x.ao, x.n, x.c, hlo, hc, own_it (h2.1 x (List.mem_of_getElem? hx))⟩
theorem all_tr (a : SV) (fs : List (List UInt8)) (n E R : Nat) (w : World) (h1 : Bytes w a.ao a.n a.bs) (f1 : a.fine) (hlow : ∀ x, a.ao = some x → x.block < w.heap.size) (ha : a.n ≤ 1000000000) (hfs : framesB a.bs = fs) (hn : fs.length = n) (hE : endB a.bs = E) (hR : restE a.bs = R) :
    Calls Try.prog 48 #[.slice a.ao a.n a.c] w fun e w' => ∃ lo lc, e = .returned (.tuple #[.slice lo n lc, .int .i64 (E : Int), .int .i64 (R : Int)]) ∧ TR w' w.heap.size lo n lc fs ∧ Below w.heap.size w w' := by
  refine (all_any a w h1 f1 hlow ha).mono ?_
  rintro e w' ⟨v, xs, rfl, hrow, htold, hxs, hb⟩
  have hl : xs.length = n := by rw [← hn, ← hfs, ← hxs, List.length_map]
  rw [hl] at hrow
  obtain ⟨lo, lc, rfl⟩ := slice_of hrow
  exact ⟨lo, lc, by rw [hE, hR], ⟨xs, hrow, htold, by rw [hxs, hfs]⟩, hb⟩
theorem str_here {w : World} {B n c : Nat} {ao : Option Addr} {ts : List (List UInt8)} (h : w.ownsRow B 9 1 (.slice ao n c) n (strC ts)) {j : Nat} {b : List UInt8} (hj : ts[j]? = some b) : ∃ g, ao = some ⟨g, 0, none⟩ ∧ w.cell? ⟨g, j, none⟩ = some (.string (bS b)) := str_cell h hj
theorem int_here {w : World} {B n c : Nat} {ao : Option Addr} {l : List Nat} (h : w.ownsRow B 3 1 (.slice ao n c) n (intC l)) {j m : Nat} (hj : l[j]? = some m) : ∃ g, ao = some ⟨g, 0, none⟩ ∧ w.cell? ⟨g, j, none⟩ = some (.int .i64 (m : Int)) := by
  have hl := h.1
  have hi := (List.getElem?_eq_some_iff.1 hj).1
  have hlen : (intC l).length = l.length := by simp [intC]
  rcases h.2 with ⟨h1, h2⟩ | ⟨g, cap, cur, h1, hb, hg, hn, hm, hs, ht2⟩
  · omega
  · cases h1
    refine ⟨g, rfl, ?_⟩
    rw [h.cellAt j (by omega)]
    simp [intC, hj]
theorem rowB_ge : ∀ l : List (List UInt8), l.length * 8 ≤ (rowB l).length
  | [] => by simp
  | b :: t => by
    have h := rowB_ge t
    have e : (rowB (b :: t)).length = (frameB b).length + (rowB t).length := by simp [rowB]
    rw [e, frameB_length, List.length_cons]; omega
theorem modcast1 (r i : Nat) : (r : Int) % ((i : Int) + 1) = ((r % (i + 1) : Nat) : Int) := by
  have h : (r : Int) % ((i + 1 : Nat) : Int) = ((r % (i + 1) : Nat) : Int) := rfl
  rwa [show ((i + 1 : Nat) : Int) = (i : Int) + 1 by omega] at h
theorem wid {x : Nat} (h : x ≤ 1000) : wrap64 (x : Int) = (x : Int) := by unfold wrap64; omega
theorem wpred {k k1 : Nat} (h : k - 1 = k1) (hk : 0 < k) (hm : k ≤ 1000) : wrap64 ((k : Int) - 1) = (k1 : Int) := by unfold wrap64; omega
theorem wsubk {i k n : Nat} (h : i - k = n) (hk : k ≤ i) (hi : i ≤ 1000) : wrap64 ((i : Int) - (k : Int)) = (n : Int) := by unfold wrap64; omega
theorem part_at (ps : List SV) (i k j : Nat) (hk : k ≤ i) : (j < k → (cutJ ps k)[j]? = (cutJ ps i)[j]?) ∧ (k ≤ j → k ≤ (cutJ ps i).length → ((cutJ ps i).drop k)[j - k]? = (cutJ ps i)[j]?) := by
  have e : (cutJ ps i).take k = cutJ ps k := by unfold cutJ; rw [← List.map_take, List.take_take, Nat.min_eq_left hk]
  refine ⟨fun h => ?_, fun h _ => ?_⟩
  · rw [← e, List.getElem?_take_of_lt h]
  · rw [List.getElem?_drop]; congr 1; omega
end Go.Proofs.Ytaejcclepahefaa

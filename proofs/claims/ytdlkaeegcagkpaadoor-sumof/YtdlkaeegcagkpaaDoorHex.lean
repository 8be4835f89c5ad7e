/-
  What sum.Hex answers: a contract over this translation.
-/
import Derived.Test.YtdlkaeegcagkpaaDoorOf
namespace Go.Proofs.YtdlkaeegcagkpaaDoor
open Go.RowKit
/-- The digits. -/
def hexd (q : Nat) : UInt8 := if q < 10 then UInt8.ofNat (48 + q) else UInt8.ofNat (87 + q)
def hex2 (c : UInt8) : List UInt8 := [hexd (c.toNat / 16), hexd (c.toNat % 16)]
def hexB (d : List UInt8) : List UInt8 := d.flatMap hex2
def digits16 : ByteArray := ⟨#[48, 49, 50, 51, 52, 53, 54, 55, 56, 57, 97, 98, 99, 100, 101, 102]⟩
theorem digit_at (q : Nat) (hq : q < 16) : digits16[q]? = some (hexd q) := by
  have : ∀ q : Fin 16, digits16[q.val]? = some (hexd q.val) := by decide +kernel
  exact this ⟨q, hq⟩
theorem hexB_length (d : List UInt8) : (hexB d).length = 2 * d.length := by
  induction d with
  | nil => rfl
  | cons a t ih => rw [hexB, List.flatMap_cons, List.length_append, ← hexB, ih]; simp [hex2]; omega
theorem hex_step (d : List UInt8) (i : Nat) (c : UInt8) (R : List Value) (h : i < 32) (hd : d.length = 32) (hx : d[i]? = some c) :
    splice (cellsOf (hexB (d.take i)) ++ R) (2 * i) (cellsOf (hex2 c)) = cellsOf (hexB (d.take (i + 1))) ++ R.drop 2 := by
  rw [splice_at _ _ _ _ (by rw [cellsOf_length, hexB_length, List.length_take, hd]; omega), List.take_add_one, hx]
  simp [hexB, hex2, cellsOf]
theorem hexAt (q : Nat) (hq : q < 16) (z : Int) (hz : z.toNat = q) (h : z.toNat < (⟨#[48, 49, 50, 51, 52, 53, 54, 55, 56, 57, 97, 98, 99, 100, 101, 102]⟩ : ByteArray).size) :
    Value.int .u8 (((⟨#[48, 49, 50, 51, 52, 53, 54, 55, 56, 57, 97, 98, 99, 100, 101, 102]⟩ : ByteArray)[z.toNat]'h).toNat : Int) = .int .u8 ((hexd q).toNat : Int) := by
  subst hz
  have h2 := digit_at z.toNat hq
  have h3 : (digits16[z.toNat]? : Option UInt8) = some (digits16[z.toNat]'h) := getElem?_pos digits16 z.toNat h
  rw [h3] at h2
  injection h2 with h2
  have h4 : ((⟨#[48, 49, 50, 51, 52, 53, 54, 55, 56, 57, 97, 98, 99, 100, 101, 102]⟩ : ByteArray)[z.toNat]'h) = hexd z.toNat := h2
  rw [h4]
theorem new_two (w : World) (c : UInt8) (v1 v2 : Value) (h1 : v1 = .int .u8 ((hexd (c.toNat / 16)).toNat : Int)) (h2 : v2 = .int .u8 ((hexd (c.toNat % 16)).toNat : Int)) : ∀ j u, (cellsOf (hex2 c))[j]? = some u → (w.alloc (.cells #[v1, v2] 5)).drew.cell? (Addr.add ⟨w.heap.size, 0, none⟩ j) = some u := by
  subst h1; subst h2
  intro j u hu
  show (w.alloc _).cell? _ = _
  rw [Addr.add_lit, Nat.zero_add, cell_of_row _ _ j _ 5 (0, 0) (heap_alloc_new _ _)]
  simpa [cellsOf, hex2] using hu
theorem append_world {wr w1 : World} {B g k : Nat} {C vs : List Value} {t : TypeId} (ob : Obj) (hB : B ≤ g) (hBs : B ≤ wr.heap.size) (hb : Below B w1 wr) (hg : wr.heap[g]? = some (.cells C.toArray t (0, 0))) (hk : k + vs.length ≤ C.length) :
    Below B w1 ((wr.alloc ob).drew.setCells g (0 + k * 1) vs) ∧ ((wr.alloc ob).drew.setCells g (0 + k * 1) vs).heap[g]? = some (.cells (splice C k vs).toArray t (0, 0)) := by
  have hg' : (wr.alloc ob).drew.heap[g]? = some (.cells C.toArray t (0, 0)) := (heap_alloc_old _ _ (Array.getElem?_eq_some_iff.1 hg).1).trans hg
  rw [show 0 + k * 1 = k by omega, setCells_row g t vs k C _ hg' hk]
  exact ⟨below_setRow (hb.alloc hBs ob).drew hB _, setRow_heap _ g _ _ t _ hg'⟩
theorem post_gen {Q : Exit → Act → World → Prop} {e : Exit} {a : Act} {w : World} (R : World → Prop) (hR : R w) (h : ∀ w1, R w1 → Q e a w1) : Q e a w := h w hR
theorem spare_two {w : World} {g k : Nat} {C : List Value} {t : TypeId} (o : Obj) (h : w.heap[g]? = some (.cells C.toArray t (0, 0))) (hk : k + 2 ≤ C.length) (m : Nat) (hm : m = 2) :
    ∀ j, j < m → ((w.alloc o).cell? ⟨g, 0 + k * 1 + j, none⟩).isSome = true ∧ (w.alloc o).frozen? ⟨g, 0 + k * 1 + j, none⟩ = false := by
  intro j hj
  have hg : g < w.heap.size := (Array.getElem?_eq_some_iff.1 h).1
  have h' : (w.alloc o).heap[g]? = some (.cells C.toArray t (0, 0)) := (heap_alloc_old _ _ hg).trans h
  refine ⟨?_, frozen_of_row _ g _ _ t h'⟩
  rw [cell_of_row _ g _ _ t _ h']
  simp; omega
set_option maxRecDepth 100000 in
set_option maxHeartbeats 1000000 in
theorem hex_any (d : List UInt8) (w : World) (hd : d.length = 32) :
    Calls Tryd.prog 16 #[.agg (cellsOf d).toArray] w fun e w' => e = .returned (.string ⟨(hexB d).toArray⟩) ∧ Below w.heap.size w w' := by
  obtain ⟨i0, hi, hz0, hz1, hz2⟩ := info_parts info5
  have hds : (cellsOf d).toArray.size = 32 := by rw [List.size_toArray, cellsOf_length, hd]
  go_enter Tryd.func16, Tryd.ntmps16
  go_wp2_with (refine wpList_make_own _ rfl (.const (.int .i64 0)) (.const (.int .i64 64)) 22 rfl w.heap.size 5 i0 (.int .u8 0) 1 Tryd.underlying22 hi hz0 hz1 .i64 .i64 64 64 rfl rfl rfl ?b2 ?b3 ?b4 ?_)
  case b2 => rw [hz2]; omega
  case b3 => unfold maxLen; omega
  case b4 => simp
  intro w1 hown hgrow
  have hbel1 : Below (w.heap.size + 1) (w.alloc (.cells (cellsOf d).toArray 25)) w1 := (Below.refl _ _).grown hgrow (by simp) (fun k hk => by cases hk)
  obtain ⟨R0, hR0, hblk1⟩ : ∃ R0 : List Value, R0.length = 64 ∧ w1.heap[w.heap.size + 1]? = some (.cells R0.toArray 5 (0, 0)) := by
    obtain ⟨_, h | ⟨g', cap, cur, hv, _, hg, _, _, hs, _⟩⟩ := hown
    · exact absurd h.1 (by simp)
    · injection hv with h1 h2 h3
      injection h1 with h1
      injection h1 with h1
      have e : g' = w.heap.size + 1 := by rw [← h1]
      subst e; subst h3
      exact ⟨cur.toList, by simpa using hs, by simpa using hg⟩
  have hbel : Below w.heap.size w w1 := (bel_alloc _ _).trans (hbel1.mono (by omega))
  have hblkd : w1.heap[w.heap.size]? = some (.cells (cellsOf d).toArray 25) := (hbel1.block _ (by omega)).trans (heap_alloc_new _ _)
  have hs1 : w.heap.size + 2 ≤ w1.heap.size := by have := (Array.getElem?_eq_some_iff.1 hblk1).1; omega
  clear hown hgrow hbel1
  generalize hn : w.heap.size = n at *
  go_wp2_with (refine wpList_load_row rfl 25 (.tmp 1) rfl n rfl 25 (cellsOf d).toArray (0, 0) _ hblkd Tryd.underlying25 rfl ?hs ?_)
  case hs => rw [size25, hds]
  go_loopw [3, 8] (fun v t wr => ∃ (i : Nat) (R : List Value), i ≤ 32 ∧ t = .int .i64 i ∧ v = .slice (some ⟨n + 1, 0, none⟩) (2 * i) 64 ∧ R.length = 64 - 2 * i ∧ Below (n + 1) w1 wr ∧ wr.heap[n + 1]? = some (.cells (cellsOf (hexB (d.take i)) ++ R).toArray 5)) (fun _ t _ => (32 - intOf t).toNat)
  case atStart => exact ⟨0, R0, by omega, rfl, rfl, hR0, Below.refl _ _, hblk1⟩
  case round =>
    obtain ⟨i, R, hi32, rfl, rfl, hRl, hb, hwr⟩ := hrel
    have hbs := hb.size
    by_cases hlt : i < 32
    · obtain ⟨c, hx⟩ : ∃ c, d[i]? = some c := ⟨d[i]'(by omega), by simp⟩
      have hidx := run_index_cell wr 25 5 32 .u8 (cellsOf d).toArray i (.int .u8 c.toNat) .i64 Tryd.underlying25 Tryd.underlying5 size5 hlt (by simp [cellsOf, hx])
      have HST : Hid (_ = _) := hex_step d i c R hlt hd hx
      have hcl := c.toNat_lt
      have hand : bits .and .u8 (c.toNat : Int) 15 = ((c.toNat % 16 : Nat) : Int) := by
        have := u8_and_nat c.toNat 15 hcl (by decide)
        rw [show (15 : Int) = ((15 : Nat) : Int) from rfl, this, show (15 : Nat) = 2 ^ 4 - 1 from rfl, Nat.and_two_pow_sub_one_eq_mod]
      have hCl : (cellsOf (hexB (d.take i)) ++ R).length = 64 := by rw [List.length_append, cellsOf_length, hexB_length, List.length_take, hd, hRl]; omega
      obtain ⟨C, HC⟩ : ∃ C, Hid (C = cellsOf (hexB (d.take i)) ++ R) := ⟨_, rfl⟩
      rw [← HC.out] at hwr hCl
      have HSP : Hid (∀ o : Obj, ∀ j, j < (cellsOf (hex2 c)).length → ((wr.alloc o).drew.cell? ⟨n + 1, 0 + 2 * i * 1 + j, none⟩).isSome = true ∧ (wr.alloc o).drew.frozen? ⟨n + 1, 0 + 2 * i * 1 + j, none⟩ = false) :=
        fun o => spare_two (w := wr) o hwr (by omega) _ rfl
      clear hx
      go_wp2_with fail
      go_region_held3 (fun _ => True) (first | trivial | assumption) (refine step_append_room rfl (.tmp 11) (.tmp 18) 22 rfl 5 i0 1 Tryd.underlying22 hi hz1 (n + 1) 0 (2 * i) 64 rfl ⟨wr.heap.size, 0, none⟩ 2 2 (cellsOf (hex2 c)) rfl rfl (new_two wr c _ _ (hexAt (c.toNat / 16) (by omega) _ (by omega) _) (hexAt (c.toNat % 16) (by omega) _ (by omega) _)) (cellsOf_one _) (by omega) (HSP.out _) ?_)
      all_goals
        refine post_gen (fun w3 => Below (n + 1) w1 w3 ∧ w3.heap[n + 1]? = some (.cells (splice C (2 * i) (cellsOf (hex2 c))).toArray 5 (0, 0))) (append_world _ (Nat.le_refl _) (by omega) hb hwr (by rw [hCl]; simp [cellsOf, hex2]; omega)) ?_
        rintro w3 ⟨hb2, hwr2⟩
        rw [HC.out, HST.out] at hwr2
        clear hb hwr HC HST HSP hidx hand hCl
        go_wp2
        go_roundw
        case rel => exact ⟨i + 1, R.drop 2, by omega, by go_num, rfl, by rw [List.length_drop]; omega, hb2, hwr2⟩
        case measure => simp [intOf]; omega
    · have hi' : i = 32 := by omega
      subst hi'
      have hR : R = [] := List.eq_nil_of_length_eq_zero (by omega)
      subst hR
      rw [List.append_nil] at hwr
      have HB : Bytes wr (some ⟨n + 1, 0, none⟩) 64 (hexB d) := by
        have h := block_bytes hwr
        rw [List.take_of_length_le (by omega), hexB_length, hd] at h
        exact h
      have hstr := str_bytes 64 HB
      have hbn : Below n w wr := hbel.trans (hb.mono (by omega))
      clear hwr HB hb hblkd hblk1
      go_wp2
      go_ret
      exact ⟨rfl, by rw [hn]; exact hbn⟩
end Go.Proofs.YtdlkaeegcagkpaaDoor

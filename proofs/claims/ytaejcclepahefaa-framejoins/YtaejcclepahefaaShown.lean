/-
  What marlstonelaw08.shown answers: a contract over this translation.
-/
import Derived.Test.YtaejcclepahefaaAll
import Derived.Lib.SlBytesConst
import Derived.Laws.MakeOwn
namespace Go.Proofs.Ytaejcclepahefaa
open Go.RowKit
theorem block_bytes {w : World} {g : Nat} {bs : List UInt8} {t : TypeId} {fr : Nat × Nat} (h : w.heap[g]? = some (.cells (cellsOf bs).toArray t fr)) : Bytes w (some ⟨g, 0, none⟩) bs.length bs := by
  refine ⟨rfl, fun i c hi => ⟨_, rfl, ?_⟩⟩
  rw [Addr.add_lit, Nat.zero_add, cell_of_row w g i _ t fr h]
  simp [cellsOf, hi]
/-- A row of n zeros. -/
def zrow (n : Nat) : Array Value := madeCells #[.int .u8 0] (n * 1)
theorem make_zeros (n : Nat) (hn : n ≤ 100000) (W : World) : (Instr.makeSlice 28 (.int .i64 (n : Int)) (.int .i64 (n : Int))).run Try.prog W = .ok (.slice (some ⟨W.heap.size, 0, none⟩) n n) (W.alloc (.cells (zrow n) 5)) := by
  obtain ⟨i0, hi, hz0, hz1, hz2⟩ := info_parts info5
  have h := run_make (P := Try.prog) W 28 5 i0 (.int .u8 0) Try.underlying28 hi hz0 .i64 .i64 n n (by omega) (Int.le_refl _) (by rw [hz2]; omega) (by omega)
  rw [hz1] at h
  exact h
theorem zrow_cells (n : Nat) : zrow n = (cellsOf (List.replicate n 0)).toArray := by
  apply Array.ext
  · simp [zrow, madeCells, cellsOf]
  · intro i h1 h2
    simp [zrow, madeCells, cellsOf, Nat.mod_one]
def frA : List UInt8 := frameB [97]
theorem frA_next : nextF frA = ([97], 9, 0) := by kernel_rfl
theorem frA_all : framesB frA = [[97]] := by kernel_rfl
theorem frA_end : endB frA = 9 := by kernel_rfl
theorem frA_rest : restE frA = 0 := by kernel_rfl
theorem frA_len : frA.length = 9 := by kernel_rfl
theorem frA_3 : frA[3]? = some 1 := by kernel_rfl
theorem frA_8 : frA[8]? = some 97 := by kernel_rfl
theorem zero_next : nextF [0, 0, 0, 0, 0, 0, 0, 0] = ([], 0, 2) := by kernel_rfl
theorem frA_cut : nextF (frA.take 8) = ([], 0, 5) := by kernel_rfl
theorem fine_own {w : World} {base : Nat} {ao : Option Addr} {n c : Nat} {xs : List Value} (bs : List UInt8) (h : w.ownsRow base 5 1 (.slice ao n c) n xs) : SV.fine ⟨ao, n, c, bs⟩ := by
  rcases h.2 with ⟨h1, h2⟩ | ⟨g, cap, cur, h1, hb, hg, hn, hm, r⟩
  · cases h1; exact ⟨fun _ => rfl, Nat.le_refl _, (by show 0 ≤ 9223372036854775807; omega)⟩
  · cases h1; exact ⟨(fun h => by cases h), hn, (by show c ≤ 9223372036854775807; unfold maxLen at hm; omega)⟩
set_option maxRecDepth 100000 in
set_option maxHeartbeats 2000000 in
theorem shown_any (w : World) : Calls Try.prog 43 #[] w fun e w' => e = .returned (.bool true) ∧ Below w.heap.size w w' := by
  have kc := fun (w : World) (C : Array Value) (n c : Nat) => Lib.run_convert_bytes_const (P := Try.prog) w 28 5 C n c Try.underlying28 Try.underlying5
  have kc1 := kc w #[.int .u8 120] 1 1
  have kc2 := kc (w.alloc (.cells #[.int .u8 120] 5 (1, 2))) #[.int .u8 97] 1 1
  rw [World.size_alloc] at kc2
  simp only [List.size_toArray, List.length_cons, List.length_nil, Nat.reduceAdd] at kc1 kc2
  clear kc
  obtain ⟨W2, hW2⟩ : ∃ W, (w.alloc (.cells #[.int .u8 120] 5 (1, 2))).alloc (.cells #[.int .u8 97] 5 (1, 2)) = W := ⟨_, rfl⟩
  have b2 : Below w.heap.size w W2 := by rw [← hW2]; exact (bel_alloc _ _).alloc (by simp) _
  have ba : Bytes W2 (some ⟨w.heap.size, 0, none⟩) 1 [120] := by
    rw [← hW2]; exact block_bytes (bs := [120]) (t := 5) (fr := (1, 2)) ((Below.heap_alloc _ _ _ (by simp)).trans (World.alloc_heap_new w _))
  have bb : Bytes W2 (some ⟨w.heap.size + 1, 0, none⟩) 1 [97] := by
    have := block_bytes (bs := [97]) (t := 5) (fr := (1, 2)) (World.alloc_heap_new (w.alloc (.cells #[.int .u8 120] 5 (1, 2))) (.cells #[.int .u8 97] 5 (1, 2)))
    rw [World.size_alloc, hW2] at this; exact this
  have HP := put_any ⟨some ⟨w.heap.size, 0, none⟩, 1, 1, [120]⟩ ⟨some ⟨w.heap.size + 1, 0, none⟩, 1, 1, [97]⟩ W2 ba bb ⟨(fun h => by cases h), Nat.le_refl _, (by show 1 ≤ 9223372036854775807; omega)⟩ ⟨(fun h => by cases h), Nat.le_refl _, (by show 1 ≤ 9223372036854775807; omega)⟩ (by show 1 ≤ 65536; omega) (by show 1 ≤ 140737488250000; omega)
  simp only at HP
  have HPP : Hid _ := HP
  have HB2 : Hid (Below w.heap.size w W2) := b2
  clear ba bb HP b2
  go_enter Try.func43, Try.ntmps43
  go_wp2_with fail
  refine Calls.mono HPP.out ?_
  rintro e w3 ⟨v, rfl, hown, hbel⟩
  obtain ⟨g, c, rfl, hg1, hg2, hc1, hc2⟩ := own_shape hown (by omega)
  have hby := own_row_bytes hown
  change Bytes w3 (some ⟨g, 0, none⟩) 10 ([120] ++ frA) at hby
  have HB3 : Hid (Below w.heap.size w w3) := HB2.out.trans (hbel.mono HB2.out.size)
  have HBY : Hid (Bytes w3 (some ⟨g, 0, none⟩) 10 ([120] ++ frA)) := hby
  obtain ⟨b', o', e1, hcs⟩ := bytes_at hby (by omega)
  cases e1
  have l10 : ([120] ++ frA).length = 10 := by rw [List.length_append, frA_len]; rfl
  have x0 : w3.cell? ⟨g, 0, none⟩ = some (.int .u8 120) := hcs 0 (by rw [l10]; decide)
  have x4 : w3.cell? ⟨g, 4, none⟩ = some (.int .u8 1) := by
    have := hcs 4 (by rw [l10]; decide); rw [Nat.zero_add] at this; rw [this]; rfl
  have x9 : w3.cell? ⟨g, 9, none⟩ = some (.int .u8 97) := by
    have := hcs 9 (by rw [l10]; decide); rw [Nat.zero_add] at this; rw [this]; rfl
  have HR : Hid (∀ W, Below w3.heap.size w3 W → Bytes W (some ⟨g, 1, none⟩) 9 frA) := fun W hW => by
    have := bytes_drop (bytes_kept hby hW (Nat.le_refl _)) 1
    rw [Nat.zero_add] at this; exact this
  have hc1' : (10 : Int) ≤ (c : Int) := by omega
  have hcne : ¬ c = 1 := by omega
  have HFI : Hid (SV.fine ⟨some ⟨g, 1, none⟩, 9, c - 1, frA⟩) := ⟨(fun h => by cases h), (by show 9 ≤ c - 1; omega), (by show c - 1 ≤ 9223372036854775807; omega)⟩
  have HFI8 : Hid (SV.fine ⟨some ⟨g, 1, none⟩, 8, c - 1, frA.take 8⟩) := ⟨(fun h => by cases h), (by show 8 ≤ c - 1; omega), (by show c - 1 ≤ 9223372036854775807; omega)⟩
  have HG2 : Hid (g < w3.heap.size) := hg2
  clear hown hbel hby hcs HPP kc1 kc2 hg1 hg2 hW2
  go_wp2_with fail
  have h46 := next_ok ⟨some ⟨g, 1, none⟩, 9, c - 1, frA⟩ 1 w3 (HR.out w3 (Below.refl _ _)) HFI.out (by rw [frA_next]) (by rw [frA_next]; rfl)
  simp only [frA_next] at h46
  refine Calls.mono h46 ?_
  rintro e w4 ⟨xo, xc, rfl, hown4, hb4⟩
  have HX4 : Hid (Bytes w4 xo 1 [97]) := by
    obtain ⟨ao3, c3, e3, hb3, -⟩ := own_bytes hown4; cases e3; exact hb3
  have HB4 : Hid (Below w3.heap.size w3 w4) := hb4
  have hlow4 : ∀ x, (some (⟨g, 1, none⟩ : Addr)) = some x → x.block < w4.heap.size := fun x hx => by cases hx; exact Nat.lt_of_lt_of_le HG2.out hb4.size
  have h48 := all_any ⟨some ⟨g, 1, none⟩, 9, c - 1, frA⟩ w4 (HR.out w4 hb4) HFI.out hlow4 (by show 9 ≤ 1000000000; omega)
  simp only [frA_end, frA_rest, frA_all] at h48
  have H48 : Hid _ := h48
  clear h46 h48 hown4 hb4 hlow4
  go_wp2_with fail
  refine Calls.mono H48.out ?_
  rintro e w5 ⟨v, xs, rfl, hown5, -, hxs, hb5⟩
  have hxl : xs.length = 1 := by have := congrArg List.length hxs; simpa using this
  rw [hxl] at hown5
  obtain ⟨lo, lc, rfl⟩ : ∃ lo lc, v = .slice lo 1 lc := by
    obtain ⟨g', cap', rfl⟩ := ownsRow_succ hown5; exact ⟨_, _, rfl⟩
  have HB5 : Hid (Below w3.heap.size w3 w5) := HB4.out.trans (hb5.mono HB4.out.size)
  have HX5 : Hid (Bytes w5 xo 1 [97]) := bytes_kept HX4.out hb5 (Nat.le_refl _)
  clear hown5 hxs hxl hb5 H48 HX4 HB4
  obtain ⟨W6, hW6⟩ : ∃ W, w5.alloc (Obj.cells (zrow 8) 5) = W := ⟨_, rfl⟩
  have hmk := make_zeros 8 (by omega) w5
  rw [hW6] at hmk
  have hmk2 : (Instr.makeSlice 28 (.int .i64 8) (.int .i64 8)).run Try.prog w5 = .ok (.slice (some ⟨w5.heap.size, 0, none⟩) 8 8) W6 := hmk
  have bz : Bytes W6 (some ⟨w5.heap.size, 0, none⟩) 8 [0, 0, 0, 0, 0, 0, 0, 0] := by
    have h7 := World.alloc_heap_new w5 (Obj.cells (zrow 8) 5)
    rw [hW6, zrow_cells] at h7
    exact block_bytes (bs := [0, 0, 0, 0, 0, 0, 0, 0]) h7
  have hn6 := next_no ⟨some ⟨w5.heap.size, 0, none⟩, 8, 8, [0, 0, 0, 0, 0, 0, 0, 0]⟩ W6 bz ⟨(fun h => by cases h), Nat.le_refl _, (by show 8 ≤ 9223372036854775807; omega)⟩ (by simp only [zero_next]; decide)
  simp only [zero_next] at hn6
  have H6 : Hid _ := hn6
  have HB6 : Hid (Below w3.heap.size w3 W6) := by show Below _ _ _; rw [← hW6]; exact HB5.out.alloc HB5.out.size _
  have HX6 : Hid (Bytes W6 xo 1 [97]) := by show Bytes _ _ _ _; rw [← hW6]; exact bytes_kept HX5.out (bel_alloc _ _) (Nat.le_refl _)
  clear bz hn6 HX5 HB5 hmk hW6
  go_wp2_with fail
  refine Calls.mono H6.out ?_
  rintro e w7 ⟨yo, yc, rfl, -, hb7⟩
  have HB7 : Hid (Below w3.heap.size w3 w7) := HB6.out.trans (hb7.mono HB6.out.size)
  have HX7 : Hid (Bytes w7 xo 1 [97]) := bytes_kept HX6.out hb7 (Nat.le_refl _)
  have h8 := next_no ⟨some ⟨g, 1, none⟩, 8, c - 1, frA.take 8⟩ w7 (bytes_take (HR.out w7 HB7.out) 8 (by omega)) HFI8.out (by simp only [frA_cut]; decide)
  simp only [frA_cut] at h8
  have H8 : Hid _ := h8
  clear h8 hb7 H6 HX6 HB6 HR hmk2
  go_wp2_with fail
  refine Calls.mono H8.out ?_
  rintro e w8 ⟨zo, zc, rfl, -, hb8⟩
  have HB8 : Hid (Below w.heap.size w w8) := HB3.out.trans ((HB7.out.trans (hb8.mono HB7.out.size)).mono HB3.out.size)
  have hcv := str_bytes xc (bytes_kept HX7.out hb8 (Nat.le_refl _))
  clear hb8 H8 HX7 HB7 HB3
  go_wp2_with fail
  go_ret
  exact ⟨rfl, HB8.out⟩
end Go.Proofs.Ytaejcclepahefaa

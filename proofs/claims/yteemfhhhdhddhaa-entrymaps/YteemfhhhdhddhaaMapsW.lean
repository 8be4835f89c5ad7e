/-
  A map has what was written last, and nothing that was taken away: what the law EntryMaps answers, for any arguments.
-/
import Derived.Test.YteemfhhhdhddhaaMapN
import Derived.Test.YteemfhhhdhddhaaMapW
import Derived.Test.YteemfhhhdhddhaaRefFo
import Derived.Test.YteemfhhhdhddhaaParse
import Derived.Deep.DeepCutAuto
import Derived.Test.YteemfhhhdhddhaaSame
namespace Go.Proofs.Yteemfhhhdhddhaa
open Go.RowKit Go.Sort Go.Shelf
set_option linter.unusedSectionVars false
variable [Inhabited E] [DecidableEq E]
theorem and65535 (n : Int) : bits .and .i64 n 65535 = n % 65536 := by
  have hm : (BitVec.ofInt 64 65535).toNat = 2 ^ 16 - 1 := by decide
  have key : (BitVec.ofInt 64 n &&& BitVec.ofInt 64 65535).toNat = (n % ((2 ^ 64 : Nat) : Int)).toNat % 2 ^ 16 := by
    rw [BitVec.toNat_and, BitVec.toNat_ofInt, hm, Nat.and_two_pow_sub_one_eq_mod]
  show IntKind.i64.wrap ((BitVec.ofInt 64 n &&& BitVec.ofInt 64 65535).toNat : Nat) = n % 65536
  rw [key, IntKind.wrap_i64]
  omega
theorem flatE_set3 : ∀ (L : List E) (i : Nat) (k v : ByteArray) (d : Bool) (q r : Int), i < L.length → L[i]! = ⟨k, v, d, q⟩ → (flatE L).set (i * 4 + 3) (.int .i64 r) = flatE (L.set i ⟨k, v, d, r⟩)
  | [], i, _, _, _, _, _, h, _ => absurd h (by simp)
  | e :: L, 0, k, v, d, q, r, _, hx => by
    have : e = ⟨k, v, d, q⟩ := by simpa using hx
    subst this
    rw [flatE_cons, List.set_cons_zero, flatE_cons]; rfl
  | e :: L, i + 1, k, v, d, q, r, h, hx => by
    rw [flatE_cons, List.set_cons_succ, flatE_cons, ← flatE_set3 L i k v d q r (by simpa using h) (by simpa using hx)]
    have h4 : (encE e).length = 4 := rfl
    rw [List.set_append_right _ _ (by rw [h4]; omega), h4, show (i + 1) * 4 + 3 - 4 = i * 4 + 3 by omega]
theorem belowN_parts {k : ByteArray} {A Y C : List E} (hA : ∀ a ∈ A, cmpS a.key k < 0) (hY : ∀ y ∈ Y, y.key = k) (hC : ∀ b ∈ C, cmpS k b.key < 0) : belowN k (A ++ (Y ++ C)) = A.length := by
  unfold belowN
  rw [List.countP_append, List.countP_append, List.countP_eq_length.2 (fun a ha => decide_eq_true (hA a ha)), List.countP_eq_zero.2, List.countP_eq_zero.2]
  · rfl
  · intro b hb
    have h1 := hC b hb
    have h2 := cmpS_ord.anti k b.key
    simp only [decide_eq_true_eq]; omega
  · intro y hy
    have := cmpS_ord.self k
    simp only [decide_eq_true_eq, hY y hy]; omega
theorem isIn_parts {k : ByteArray} {A Y C : List E} (hA : ∀ a ∈ A, cmpS a.key k < 0) (hY : ∀ y ∈ Y, y.key = k) (hC : ∀ b ∈ C, cmpS k b.key < 0) : isIn k (A ++ (Y ++ C)) = !Y.isEmpty := by
  unfold isIn
  have h0 := cmpS_ord.self k
  have hA' : A.any (fun e => decide (e.key = k)) = false := by
    rw [List.any_eq_false]; intro a ha; simp only [decide_eq_true_eq]; intro hc; have := hA a ha; rw [hc] at this; omega
  have hC' : C.any (fun e => decide (e.key = k)) = false := by
    rw [List.any_eq_false]; intro a ha; simp only [decide_eq_true_eq]; intro hc; have := hC a ha; rw [hc] at this; omega
  rw [List.any_append, List.any_append, hA', hC', Bool.false_or, Bool.or_false]
  cases Y with
  | nil => rfl
  | cons y r => simp [hY y (by simp)]
theorem ks_filt {l : List E} (h : Ks l) : Ks (filt l) := List.Pairwise.filter _ h
set_option maxRecDepth 100000 in
set_option maxHeartbeats 8000000 in
theorem maps_walk (ao : Option Addr) (n c : Nat) (es : List E) (k v : ByteArray) (d : Bool) (q : Int) (w : World) (hE : EntsV w ao n es) (hsm : Small es) (hnc : n ≤ c) (hc : c ≤ 9223372036854775807) (hk : k.size ≤ 9223372036854775807) (hv : v.size ≤ 9223372036854775807) :
    Calls Try.prog 7 #[.slice ao n c, .agg #[.string k, .string v, .bool d, .int .i64 q]] w fun e w' => e = .returned (.bool true) ∧ Below w.heap.size w w' := by
  go_enter Try.func7, Try.ntmps7
  go_wp2_with fail
  refine (shown_any _).mono ?_
  rintro e w1 ⟨rfl, hb1⟩
  have hblk1 : w1.heap[w.heap.size]? = some (Obj.cells #[.string k, .string v, .bool d, .int .i64 q] 23) := by rw [hb1.block _ (by simp), heap_alloc_get, if_pos rfl]
  have HB1 : Hid (Below w.heap.size w w1) := (bel_alloc w _).trans (hb1.mono (by simp))
  have hsz1 : w.heap.size < w1.heap.size := by have := hb1.size; simp at this; omega
  have HFW : Hid _ := few_any ao n c 60 es w1 (hE.below HB1.out (Nat.le_refl _)) hsm (by omega) (by omega)
  have HBLK1 : Hid _ := hblk1
  clear hb1 hblk1 hE hsm
  go_wp2_with fail
  refine Calls.mono HFW.out ?_
  rintro e w2 ⟨v2, rfl, hown2, hb2⟩
  have hl2 := fewS_len 200 1100 60 es
  obtain ⟨fs, HF⟩ : ∃ fs, Hid (fewS 200 1100 60 es = fs) := ⟨_, rfl⟩
  rw [HF.out] at hown2 hl2
  obtain ⟨l, HL⟩ : ∃ l, Hid (fs.length = l) := ⟨_, rfl⟩
  rw [HL.out] at hown2 hl2
  have h60 : l ≤ 60 := by omega
  have hblk2 : w2.heap[w.heap.size]? = some (Obj.cells #[.string k, .string v, .bool d, .int .i64 q] 23) := by rw [hb2.block _ hsz1]; exact HBLK1.out
  obtain ⟨ao2, c2, rfl, hE2, h02⟩ := own_entsV0 hown2 HL.out
  have HO2 : Hid (w2.ownsRow w1.heap.size 23 4 (.slice ao2 l c2) l (flatE fs)) := hown2
  have HB2 : Hid (Below w.heap.size w w2) := HB1.out.trans (hb2.mono HB1.out.size)
  have hsz2 : w.heap.size < w2.heap.size := Nat.lt_of_lt_of_le hsz1 hb2.size
  have b0 : w2.cell? ⟨w.heap.size, 0, none⟩ = some (.string k) := by rw [cell_of_row _ _ _ _ _ _ hblk2]; rfl
  have b1 : w2.cell? ⟨w.heap.size, 1, none⟩ = some (.string v) := by rw [cell_of_row _ _ _ _ _ _ hblk2]; rfl
  have b2 : w2.cell? ⟨w.heap.size, 2, none⟩ = some (.bool d) := by rw [cell_of_row _ _ _ _ _ _ hblk2]; rfl
  have b3 : w2.cell? ⟨w.heap.size, 3, none⟩ = some (.int .i64 q) := by rw [cell_of_row _ _ _ _ _ _ hblk2]; rfl
  have HBLK2 : Hid _ := hblk2
  clear hown2 hE2 hb2 hblk2 hl2 HFW
  go_wp2_with fail
  refine (cut_any k v d q w2 hk hv).mono ?_
  rintro e w3 ⟨rfl, hb3⟩
  obtain ⟨k1, v1, HC⟩ : ∃ k1 v1, Hid (cutE 200 1100 ⟨k, v, d, q⟩ = ⟨k1, v1, d, q⟩) := ⟨_, _, rfl⟩
  rw [HC.out]
  simp only [encE]
  have hblk3 : w3.heap[w.heap.size]? = some (Obj.cells #[.string k, .string v, .bool d, .int .i64 q] 23) := by rw [hb3.block _ hsz2]; exact HBLK2.out
  have HO3 : Hid (w3.ownsRow w1.heap.size 23 4 (.slice ao2 l c2) l (flatE fs)) := own_below HO2.out hb3 (Nat.le_refl _)
  have HB3 : Hid (Below w.heap.size w w3) := HB2.out.trans (hb3.mono (Nat.le_of_lt hsz2))
  have f0 : w3.frozen? ⟨w.heap.size, 0, none⟩ = false := frozen_of_row w3 _ 0 _ 23 hblk3
  have f1 : w3.frozen? ⟨w.heap.size, 1, none⟩ = false := frozen_of_row w3 _ 1 _ 23 hblk3
  have f2 : w3.frozen? ⟨w.heap.size, 2, none⟩ = false := frozen_of_row w3 _ 2 _ 23 hblk3
  have f3 : w3.frozen? ⟨w.heap.size, 3, none⟩ = false := frozen_of_row w3 _ 3 _ 23 hblk3
  clear b0 b1 b2 b3
  have b0 : w3.cell? ⟨w.heap.size, 0, none⟩ = some (.string k) := by rw [cell_of_row _ _ _ _ _ _ hblk3]; rfl
  have b1 : w3.cell? ⟨w.heap.size, 1, none⟩ = some (.string v) := by rw [cell_of_row _ _ _ _ _ _ hblk3]; rfl
  have b2 : w3.cell? ⟨w.heap.size, 2, none⟩ = some (.bool d) := by rw [cell_of_row _ _ _ _ _ _ hblk3]; rfl
  have b3 : w3.cell? ⟨w.heap.size, 3, none⟩ = some (.int .i64 q) := by rw [cell_of_row _ _ _ _ _ _ hblk3]; rfl
  have HBLK3 : Hid _ := hblk3
  clear hb3 hblk3 HB2 HO2 HBLK2
  go_wp2_with fail
  have hblk4 := heap_set _ w.heap.size 3 _ 23 (.int .i64 1) (heap_four w3 w.heap.size _ _ _ _ (.string k1) (.string v1) (.bool d) (.int .i64 q) 23 HBLK3.out)
  have hB4 := (bel_four HB3.out (Nat.le_refl _) (.string k1) (.string v1) (.bool d) (.int .i64 q)).setCell (p := ⟨w.heap.size, 3, none⟩) (Nat.le_refl _) (.int .i64 1)
  have hO4 := ownsRow_setCell_below (ownsRow_setCell_below (ownsRow_setCell_below (ownsRow_setCell_below (ownsRow_setCell_below HO3.out (a := ⟨w.heap.size, 0, none⟩) hsz1 (.string k1)) (a := ⟨w.heap.size, 1, none⟩) hsz1 (.string v1)) (a := ⟨w.heap.size, 2, none⟩) hsz1 (.bool d)) (a := ⟨w.heap.size, 3, none⟩) hsz1 (.int .i64 q)) (a := ⟨w.heap.size, 3, none⟩) hsz1 (.int .i64 1)
  clear b0 b1 b2 b3 f0 f1 f2 f3
  generalize (((((w3.setCell ⟨w.heap.size, 0, none⟩ (.string k1)).setCell ⟨w.heap.size, 1, none⟩ (.string v1)).setCell ⟨w.heap.size, 2, none⟩ (.bool d)).setCell ⟨w.heap.size, 3, none⟩ (.int .i64 q)).setCell ⟨w.heap.size, 3, none⟩ (.int .i64 1)) = w4 at *
  have HBLK4 : Hid (w4.heap[w.heap.size]? = some (Obj.cells #[.string k1, .string v1, .bool d, .int .i64 1] 23)) := hblk4
  have HB4 : Hid (Below w.heap.size w w4) := hB4
  have HO4 : Hid (w4.ownsRow w1.heap.size 23 4 (.slice ao2 l c2) l (flatE fs)) := hO4
  clear hblk4 hB4 hO4 HO3 HB3 HBLK3
  go_loopw [6] (fun x wr => ∃ (i : Nat) (s : Int) (L : List E), x = .int .i64 i ∧ i ≤ l ∧ 1 ≤ s ∧ s ≤ 65537 ∧ Hid (L.length = l) ∧ Hid (∀ j, j < i → L[j]!.seq + 1 ≤ s) ∧ Hid (wr.heap[w.heap.size]? = some (Obj.cells #[.string k1, .string v1, .bool d, .int .i64 s] 23)) ∧ Hid (wr.ownsRow w1.heap.size 23 4 (.slice ao2 l c2) l (flatE L)) ∧ Hid (Below w.heap.size w wr)) (fun x _ => l - (intOf x).toNat)
  case atStart => exact ⟨0, 1, fs, rfl, by omega, by omega, by omega, HL, fun j hj => absurd hj (by omega), HBLK4, HO4, HB4⟩
  case round =>
    obtain ⟨i, s, L, rfl, hil, hs1, hs2, HLL, HLS, HBK, HO, HB⟩ := hrel
    have e0 : wr.cell? ⟨w.heap.size, 0, none⟩ = some (.string k1) := by rw [cell_of_row _ _ _ _ _ _ HBK.out]; rfl
    have e1 : wr.cell? ⟨w.heap.size, 1, none⟩ = some (.string v1) := by rw [cell_of_row _ _ _ _ _ _ HBK.out]; rfl
    have e2 : wr.cell? ⟨w.heap.size, 2, none⟩ = some (.bool d) := by rw [cell_of_row _ _ _ _ _ _ HBK.out]; rfl
    have e3 : wr.cell? ⟨w.heap.size, 3, none⟩ = some (.int .i64 s) := by rw [cell_of_row _ _ _ _ _ _ HBK.out]; rfl
    by_cases hlt : i < l
    · have hltz : (i : Int) < (l : Int) := by omega
      have hsh : ∃ g, ao2 = some ⟨g, 0, none⟩ := by
        rcases HO.out.2 with ⟨h', h0⟩ | ⟨g, cap, cur, h', hb, _⟩
        · omega
        · injection h' with ha; exact ⟨g, ha⟩
      obtain ⟨g, hao⟩ := hsh
      subst hao
      obtain ⟨hEg, hgb, hgw, -, -, -, hfz⟩ := own_cells HO.out
      obtain ⟨k0, v0, d0, q0, HX⟩ : ∃ k0 v0 d0 q0, Hid (L[i]! = E.mk k0 v0 d0 q0) := ⟨_, _, _, _, rfl⟩
      obtain ⟨c0, c1, c2', c3⟩ := ents_four hEg i (by rw [HLL.out]; exact hlt) HX.out
      simp only [Nat.zero_add] at c0 c1 c2' c3
      have fg := hfz (i * 4 + 3)
      have fe : wr.frozen? ⟨w.heap.size, 3, none⟩ = false := frozen_of_row wr _ 3 _ 23 HBK.out
      have hne : ¬ w.heap.size = g := by omega
      have hne' : ¬ g = w.heap.size := by omega
      clear hEg hfz
      obtain ⟨r, hbit⟩ : ∃ r, bits .and .i64 q0 65535 = r := ⟨_, rfl⟩
      have hr : 0 ≤ r ∧ r ≤ 65535 := by rw [← hbit, and65535]; omega
      go_upto_region 9 with fail
      have hO5 := (HO.out.stored (i * 4 + 3) (.int .i64 r)).1
      rw [flatE_set3 L i k0 v0 d0 q0 r (by rw [HLL.out]; exact hlt) HX.out] at hO5
      have hblk5 : (wr.setCell ⟨g, i * 4 + 3, none⟩ (.int .i64 r)).heap[w.heap.size]? = some (Obj.cells #[.string k1, .string v1, .bool d, .int .i64 s] 23) := by rw [heap_setCell_other _ _ _ _ hne]; exact HBK.out
      have hB5 := HB.out.setCell (p := ⟨g, i * 4 + 3, none⟩) (Nat.le_trans (Nat.le_of_lt hsz1) hgb) (.int .i64 r)
      generalize wr.setCell ⟨g, i * 4 + 3, none⟩ (.int .i64 r) = w5 at *
      have hX5 : (L.set i ⟨k0, v0, d0, r⟩)[i]! = ⟨k0, v0, d0, r⟩ := by rw [getElem!_pos _ i (by rw [List.length_set, HLL.out]; exact hlt), List.getElem_set_self]
      obtain ⟨hE5, -, -, -, -, -, hfz5⟩ := own_cells hO5
      obtain ⟨-, -, -, cr⟩ := ents_four hE5 i (by rw [List.length_set, HLL.out]; exact hlt) hX5
      simp only [Nat.zero_add] at cr
      clear e0 e1 e2 e3 c0 c1 c2' c3 fg fe
      have e3 : w5.cell? ⟨w.heap.size, 3, none⟩ = some (.int .i64 s) := by rw [cell_of_row _ _ _ _ _ _ hblk5]; rfl
      have fe : w5.frozen? ⟨w.heap.size, 3, none⟩ = false := frozen_of_row w5 _ 3 _ 23 hblk5
      have e3' : w5.drew.cell? ⟨w.heap.size, 3, none⟩ = some (.int .i64 s) := e3
      have cr' : w5.drew.cell? ⟨g, i * 4 + 3, none⟩ = some (.int .i64 r) := cr
      have fe' : w5.drew.frozen? ⟨w.heap.size, 3, none⟩ = false := fe
      obtain ⟨M, hM⟩ : ∃ M, max s (r + 1) = M := ⟨_, rfl⟩
      have hMb : s ≤ M ∧ r + 1 ≤ M ∧ M ≤ 65537 := by omega
      have HO5 : Hid (w5.ownsRow w1.heap.size 23 4 (.slice (some ⟨g, 0, none⟩) l c2) l (flatE (L.set i ⟨k0, v0, d0, r⟩))) := hO5
      have HBK5 : Hid _ := hblk5
      have HB5 : Hid (Below w.heap.size w w5) := hB5
      clear hO5 hblk5 hB5 hE5 hfz5 HO HB HBK
      have hwr : IntKind.i64.wrap (r + 1) = r + 1 := by rw [IntKind.wrap_i64]; omega
      have hL6 : Hid (∀ j, j < i + 1 → (L.set i ⟨k0, v0, d0, r⟩)[j]!.seq + 1 ≤ M) := by
        show ∀ _, _
        intro j hj
        by_cases hji : j = i
        · rw [hji, hX5]; exact hMb.2.1
        · have := HLS.out j (by omega)
          rw [getElem!_pos _ j (by rw [List.length_set, HLL.out]; omega), List.getElem_set_ne (by omega)]
          rw [getElem!_pos L j (by rw [HLL.out]; omega)] at this
          omega
      have hblk6 := heap_set w5 w.heap.size 3 _ 23 (.int .i64 M) HBK5.out
      have HBK6 : Hid ((w5.setCell ⟨w.heap.size, 3, none⟩ (.int .i64 M)).drew.heap[w.heap.size]? = some (Obj.cells #[.string k1, .string v1, .bool d, .int .i64 M] 23)) := hblk6
      have HO6 : Hid ((w5.setCell ⟨w.heap.size, 3, none⟩ (.int .i64 M)).drew.ownsRow w1.heap.size 23 4 (.slice (some ⟨g, 0, none⟩) l c2) l (flatE (L.set i ⟨k0, v0, d0, r⟩))) := own_below (ownsRow_setCell_below HO5.out (a := ⟨w.heap.size, 3, none⟩) hsz1 (.int .i64 M)) (Below.drew (Below.refl _ _)) (Nat.le_refl _)
      have HB6 : Hid (Below w.heap.size w (w5.setCell ⟨w.heap.size, 3, none⟩ (.int .i64 M)).drew) := Below.drew (HB5.out.setCell (p := ⟨w.heap.size, 3, none⟩) (Nat.le_refl _) (.int .i64 M))
      have HLN : Hid ((L.set i ⟨k0, v0, d0, r⟩).length = l) := by show _ = _; rw [List.length_set, HLL.out]
      clear hblk6
      go_region
      go_wp2
      go_roundw
      case rel => exact ⟨i + 1, M, L.set i ⟨k0, v0, d0, r⟩, by go_num, by omega, by omega, by omega, HLN, hL6, HBK6, HO6, HB6⟩
      case measure => simp [intOf]; omega
    · have hltz : ¬ (i : Int) < (l : Int) := by omega
      have hil' : i = l := by omega
      subst hil'
      have hEL : EntsV wr ao2 i L := by
        obtain ⟨a', c', h1, h2⟩ := own_entsV HO.out HLL.out
        injection h1 with ha hb hc
        rw [ha]; exact h2
      have HMP : Hid _ := map_any ao2 i c2 L wr hEL (by omega)
      obtain ⟨A, X, C, hpa, hpb, hpX, hpA, hpC⟩ := maps_parts L ⟨k1, v1, d, s⟩ (fun x hx => by
        obtain ⟨j, hj, rfl⟩ := List.getElem_of_mem hx
        have := HLS.out j (by rw [← HLL.out]; exact hj)
        rw [getElem!_pos L j hj] at this
        simp only
        omega)
      have HPA : Hid _ := hpa
      have HPB : Hid _ := hpb
      have HPX : Hid _ := hpX
      have HPS : Hid _ := And.intro hpA hpC
      have HEL : Hid (EntsV wr ao2 i L) := hEL
      have hsr : w.heap.size ≤ wr.heap.size := HB.out.size
      have hgr : w.heap.size < wr.heap.size := (Array.getElem?_eq_some_iff.1 HBK.out).1
      clear hpa hpb hpX hpA hpC e0 e1 e2 e3 hEL
      rw [HPA.out] at HMP
      obtain ⟨l, hll⟩ : ∃ l, l = i := ⟨_, rfl⟩
      subst hll
      go_wp2_with fail
      refine Calls.mono HMP.out ?_
      rintro e w7 ⟨ao7, m7, c7, rfl, hE7, hb7⟩
      have HE7 : Hid (EntsV w7 ao7 m7 (A ++ (X ++ C))) := hE7
      have HB7 : Hid (Below w.heap.size w w7) := HB.out.trans (hb7.mono HB.out.size)
      have HT1 : Hid (∀ W, Below w7.heap.size w7 W → EntsV W ao2 l L) := by
        show ∀ _, _
        intro W hW
        exact (HEL.out.below hb7 (Nat.le_refl _)).below hW (Nat.le_refl _)
      have hblk7 : w7.heap[w.heap.size]? = some (Obj.cells #[.string k1, .string v1, .bool d, .int .i64 s] 23) := by rw [hb7.block _ hgr]; exact HBK.out
      have HS : Hid (∀ W, Below w7.heap.size w7 W → W.cell? ⟨w.heap.size, 0, none⟩ = some (.string k1) ∧ W.cell? ⟨w.heap.size, 1, none⟩ = some (.string v1) ∧ W.cell? ⟨w.heap.size, 2, none⟩ = some (.bool d) ∧ W.cell? ⟨w.heap.size, 3, none⟩ = some (.int .i64 s)) := by
        show ∀ _, _
        intro W hW
        have hb : W.heap[w.heap.size]? = some (Obj.cells #[.string k1, .string v1, .bool d, .int .i64 s] 23) := by rw [hW.block _ (Array.getElem?_eq_some_iff.1 hblk7).1]; exact hblk7
        exact ⟨by rw [cell_of_row _ _ _ _ _ _ hb]; rfl, by rw [cell_of_row _ _ _ _ _ _ hb]; rfl, by rw [cell_of_row _ _ _ _ _ _ hb]; rfl, by rw [cell_of_row _ _ _ _ _ _ hb]; rfl⟩
      have HL1 : Hid ((L ++ [(⟨k1, v1, d, s⟩ : E)]).length = l + 1) := by show _ = _; rw [List.length_append, HLL.out]; rfl
      clear hE7 hb7 hblk7 HMP HB HBK HO HEL hsr hgr
      go_upto_region 11 with fail
      go_cut [8] (fun s8 wx => ∃ ao8 m8 c8, s8 = .slice ao8 m8 c8 ∧ Hid (EntsV wx ao8 m8 (filt (foldS (L ++ [(⟨k1, v1, d, s⟩ : E)])))) ∧ Hid (Below w7.heap.size w7 wx))
      case first =>
        refine wp_region_noPanic ?_
        refine wp_region_held_drew (S := fun w' => w'.cell? ⟨w.heap.size, 0, none⟩ = some (.string k1) ∧ w'.cell? ⟨w.heap.size, 1, none⟩ = some (.string v1) ∧ w'.cell? ⟨w.heap.size, 2, none⟩ = some (.bool d) ∧ w'.cell? ⟨w.heap.size, 3, none⟩ = some (.int .i64 s)) (by kernel_rfl) (HS.out _ (Below.drew (Below.refl _ _))) (fun hHeld => ?_)
        refine wpAnyH_take (i := 1) (v := ?_) rfl (by kernel_rfl) (by kernel_rfl) (by kernel_rfl) (fun _ _ _ h => h) (Or.inl ⟨by rfl, ?_⟩) (by assumption) ?_
        rotate_left
        · (intro w hSw; (try dsimp only at hSw); go_simp; try with_reducible rfl)
        simp only [Act.put, List.getElem_toArray, List.getElem_cons_zero, List.getElem_cons_succ, List.setIfInBounds_toArray, List.set_cons_zero, List.set_cons_succ]
        refine wpAnyH_take (i := 3) (v := ?_) rfl (by kernel_rfl) (by kernel_rfl) (by kernel_rfl) (fun _ _ _ h => h) (Or.inl ⟨by rfl, ?_⟩) (by assumption) ?_
        rotate_left
        · (intro w hSw; (try dsimp only at hSw); go_simp; try with_reducible rfl)
        simp only [Act.put, List.getElem_toArray, List.getElem_cons_zero, List.getElem_cons_succ, List.setIfInBounds_toArray, List.set_cons_zero, List.set_cons_succ]
        refine wpAnyH_ready (rs := [0, 4]) (by kernel_rfl) (by simp) ?_
        refine AllReadyH.cons rfl (fun K hK => ?_) ?_
        · go_simp
          have hWA : Below w7.heap.size w7 ((w7.drew).alloc (.cells #[] 23)) := (Below.drew (Below.refl w7.heap.size w7)).alloc (Below.drew (Below.refl w7.heap.size w7)).size _
          have hOA : ((w7.drew).alloc (.cells #[] 23)).ownsRow w7.heap.size 23 4 (.slice (some ⟨(w7.drew).heap.size, 0, none⟩) 0 0) 0 (flatE []) := ownsRow_mono (own_emptyE (w7.drew)) (Below.drew (Below.refl w7.heap.size w7)).size
          refine hK.out _ _ (HS.out _ hWA) (fun hHeld2 => ?_)
          clear hK K
          refine wpAnyH_ready (rs := [2, 4]) (by kernel_rfl) (by simp) ?_
          refine AllReadyH.cons rfl (fun K hK => ?_) ?_
          · refine step_append_entsk _ rfl (.tmp 47) (.tmp 48) rfl w7.heap.size (.slice (some ⟨(w7.drew).heap.size, 0, none⟩) 0 0) 0 [] rfl hOA hWA.size _ _ _ L rfl (HT1.out _ hWA) h02 (by omega) ?_
            intro vP wP hownP hbP hkP
            rw [List.nil_append, HLL.out] at hownP
            have hWP : Below w7.heap.size w7 wP := hWA.trans hbP
            refine hK.out _ _ (HS.out _ hWP) (fun hHeld2 => ?_)
            clear hK K
            simp only [Act.put, List.getElem_toArray, List.getElem_cons_zero, List.getElem_cons_succ, List.setIfInBounds_toArray, List.set_cons_zero, List.set_cons_succ]
            refine wpAnyH_ready (rs := [4]) (by kernel_rfl) (by simp) ?_
            refine AllReadyH.cons rfl (fun K hK => ?_) ?_
            rotate_left
            · exact AllReadyH.nil
            go_simp
            have hWB : Below w7.heap.size w7 ((wP).alloc (.cells #[.string k1, .string v1, .bool d, .int .i64 s] 23)) := hWP.alloc hWP.size _
            have hXB : EntsV ((wP).alloc (.cells #[.string k1, .string v1, .bool d, .int .i64 s] 23)) (some ⟨(wP).heap.size, 0, none⟩) 1 [(⟨k1, v1, d, s⟩ : E)] := ent_one (wP) k1 v1 d s
            refine hK.out _ _ (HS.out _ hWB) (fun hHeld2 => ?_)
            clear hK K
            have hownQ := hownP.alloc (.cells #[.string k1, .string v1, .bool d, .int .i64 s] 23)
            refine wpAnyH_ready (rs := [5]) (by kernel_rfl) (by simp) ?_
            refine AllReadyH.cons rfl (fun K hK => ?_) ?_
            rotate_left
            · exact AllReadyH.nil
            refine step_append_entsk _ rfl (.tmp 49) (.tmp 51) rfl w7.heap.size _ l L rfl hownQ hWB.size _ _ _ [(⟨k1, v1, d, s⟩ : E)] rfl hXB (fun h => by cases h) (by omega) ?_
            intro vQ wQ hownR hbQ hkQ
            rw [HL1.out] at hownR
            have hWQ : Below w7.heap.size w7 wQ := hWB.trans hbQ
            obtain ⟨aoQ, cQ, rfl, hEQ⟩ := own_entsV hownR HL1.out
            refine hK.out _ _ (HS.out _ hWQ) (fun hHeld2 => ?_)
            clear hK K
            simp only [Act.put, List.getElem_toArray, List.getElem_cons_zero, List.getElem_cons_succ, List.setIfInBounds_toArray, List.set_cons_zero, List.set_cons_succ]
            refine wpAnyH_ready (rs := [6]) (by kernel_rfl) (by simp) ?_
            refine AllReadyH.cons rfl (fun K hK => ?_) ?_
            rotate_left
            · exact AllReadyH.nil
            go_simp
            refine (map_any aoQ (l + 1) cQ (L ++ [(⟨k1, v1, d, s⟩ : E)]) wQ hEQ (by omega)).mono ?_
            rintro e wR ⟨aoR, mR, cR, rfl, hER, hbR⟩
            have hWR : Below w7.heap.size w7 wR := hWQ.trans (hbR.mono hWQ.size)
            have HER : Hid (EntsV wR aoR mR (filt (foldS (L ++ [(⟨k1, v1, d, s⟩ : E)])))) := hER
            have HWR : Hid (Below w7.heap.size w7 wR) := hWR
            go_wp2_with fail
            refine hK.out _ _ (HS.out _ hWR) (fun hHeld2 => ?_)
            clear hK K
            refine wpAnyH_take (i := 7) (v := ?_) rfl (by kernel_rfl) (by kernel_rfl) (by kernel_rfl) (fun _ _ _ h => h) (Or.inl ⟨by rfl, ?_⟩) (by assumption) ?_
            rotate_left
            · (intro w hSw; (try dsimp only at hSw); go_simp; try with_reducible rfl)
            simp only [Act.put, List.getElem_toArray, List.getElem_cons_zero, List.getElem_cons_succ, List.setIfInBounds_toArray, List.set_cons_zero, List.set_cons_succ]
            refine wpAnyH_done (by kernel_rfl) ?_ _
            refine NoPanic.normal ?_
            clear hHeld
            go_wp2
            go_meet
            case rel => exact ⟨_, _, _, rfl, HER, HWR⟩
          refine AllReadyH.cons rfl (fun K hK => ?_) AllReadyH.nil
          go_simp
          have hWB : Below w7.heap.size w7 (((w7.drew).alloc (.cells #[] 23)).alloc (.cells #[.string k1, .string v1, .bool d, .int .i64 s] 23)) := hWA.alloc hWA.size _
          have hXB : EntsV (((w7.drew).alloc (.cells #[] 23)).alloc (.cells #[.string k1, .string v1, .bool d, .int .i64 s] 23)) (some ⟨((w7.drew).alloc (.cells #[] 23)).heap.size, 0, none⟩) 1 [(⟨k1, v1, d, s⟩ : E)] := ent_one ((w7.drew).alloc (.cells #[] 23)) k1 v1 d s
          refine hK.out _ _ (HS.out _ hWB) (fun hHeld2 => ?_)
          clear hK K
          refine wpAnyH_ready (rs := [2]) (by kernel_rfl) (by simp) ?_
          refine AllReadyH.cons rfl (fun K hK => ?_) ?_
          rotate_left
          · exact AllReadyH.nil
          refine step_append_entsk _ rfl (.tmp 47) (.tmp 48) rfl w7.heap.size (.slice (some ⟨(w7.drew).heap.size, 0, none⟩) 0 0) 0 [] rfl (hOA.alloc _) hWB.size _ _ _ L rfl (HT1.out _ hWB) h02 (by omega) ?_
          intro vP wP hownP hbP hkP
          rw [List.nil_append, HLL.out] at hownP
          have hWP : Below w7.heap.size w7 wP := hWB.trans hbP
          refine hK.out _ _ (HS.out _ hWP) (fun hHeld2 => ?_)
          clear hK K
          simp only [Act.put, List.getElem_toArray, List.getElem_cons_zero, List.getElem_cons_succ, List.setIfInBounds_toArray, List.set_cons_zero, List.set_cons_succ]
          have hownQ := hownP
          have hXP : EntsV wP (some ⟨((w7.drew).alloc (.cells #[] 23)).heap.size, 0, none⟩) 1 [(⟨k1, v1, d, s⟩ : E)] := entsV_block hXB (hkP _ (by simp) (by simp [Value.ownBlock]))
          rw [show ((w7.drew).alloc (.cells #[] 23)).heap.size = w7.heap.size + 1 by simp] at hXP
          refine wpAnyH_ready (rs := [5]) (by kernel_rfl) (by simp) ?_
          refine AllReadyH.cons rfl (fun K hK => ?_) ?_
          rotate_left
          · exact AllReadyH.nil
          refine step_append_entsk _ rfl (.tmp 49) (.tmp 51) rfl w7.heap.size _ l L rfl hownQ hWP.size _ _ _ [(⟨k1, v1, d, s⟩ : E)] rfl hXP (fun h => by cases h) (by omega) ?_
          intro vQ wQ hownR hbQ hkQ
          rw [HL1.out] at hownR
          have hWQ : Below w7.heap.size w7 wQ := hWP.trans hbQ
          obtain ⟨aoQ, cQ, rfl, hEQ⟩ := own_entsV hownR HL1.out
          refine hK.out _ _ (HS.out _ hWQ) (fun hHeld2 => ?_)
          clear hK K
          simp only [Act.put, List.getElem_toArray, List.getElem_cons_zero, List.getElem_cons_succ, List.setIfInBounds_toArray, List.set_cons_zero, List.set_cons_succ]
          refine wpAnyH_ready (rs := [6]) (by kernel_rfl) (by simp) ?_
          refine AllReadyH.cons rfl (fun K hK => ?_) ?_
          rotate_left
          · exact AllReadyH.nil
          go_simp
          refine (map_any aoQ (l + 1) cQ (L ++ [(⟨k1, v1, d, s⟩ : E)]) wQ hEQ (by omega)).mono ?_
          rintro e wR ⟨aoR, mR, cR, rfl, hER, hbR⟩
          have hWR : Below w7.heap.size w7 wR := hWQ.trans (hbR.mono hWQ.size)
          have HER : Hid (EntsV wR aoR mR (filt (foldS (L ++ [(⟨k1, v1, d, s⟩ : E)])))) := hER
          have HWR : Hid (Below w7.heap.size w7 wR) := hWR
          go_wp2_with fail
          refine hK.out _ _ (HS.out _ hWR) (fun hHeld2 => ?_)
          clear hK K
          refine wpAnyH_take (i := 7) (v := ?_) rfl (by kernel_rfl) (by kernel_rfl) (by kernel_rfl) (fun _ _ _ h => h) (Or.inl ⟨by rfl, ?_⟩) (by assumption) ?_
          rotate_left
          · (intro w hSw; (try dsimp only at hSw); go_simp; try with_reducible rfl)
          simp only [Act.put, List.getElem_toArray, List.getElem_cons_zero, List.getElem_cons_succ, List.setIfInBounds_toArray, List.set_cons_zero, List.set_cons_succ]
          refine wpAnyH_done (by kernel_rfl) ?_ _
          refine NoPanic.normal ?_
          clear hHeld
          go_wp2
          go_meet
          case rel => exact ⟨_, _, _, rfl, HER, HWR⟩
        refine AllReadyH.cons rfl (fun K hK => ?_) AllReadyH.nil
        go_simp
        have hWB : Below w7.heap.size w7 ((w7.drew).alloc (.cells #[.string k1, .string v1, .bool d, .int .i64 s] 23)) := (Below.drew (Below.refl w7.heap.size w7)).alloc (Below.drew (Below.refl w7.heap.size w7)).size _
        have hXB : EntsV ((w7.drew).alloc (.cells #[.string k1, .string v1, .bool d, .int .i64 s] 23)) (some ⟨(w7.drew).heap.size, 0, none⟩) 1 [(⟨k1, v1, d, s⟩ : E)] := ent_one (w7.drew) k1 v1 d s
        refine hK.out _ _ (HS.out _ hWB) (fun hHeld2 => ?_)
        clear hK K
        refine wpAnyH_ready (rs := [0]) (by kernel_rfl) (by simp) ?_
        refine AllReadyH.cons rfl (fun K hK => ?_) ?_
        rotate_left
        · exact AllReadyH.nil
        go_simp
        have hWA : Below w7.heap.size w7 (((w7.drew).alloc (.cells #[.string k1, .string v1, .bool d, .int .i64 s] 23)).alloc (.cells #[] 23)) := hWB.alloc hWB.size _
        have hOA : (((w7.drew).alloc (.cells #[.string k1, .string v1, .bool d, .int .i64 s] 23)).alloc (.cells #[] 23)).ownsRow w7.heap.size 23 4 (.slice (some ⟨((w7.drew).alloc (.cells #[.string k1, .string v1, .bool d, .int .i64 s] 23)).heap.size, 0, none⟩) 0 0) 0 (flatE []) := ownsRow_mono (own_emptyE ((w7.drew).alloc (.cells #[.string k1, .string v1, .bool d, .int .i64 s] 23))) hWB.size
        refine hK.out _ _ (HS.out _ hWA) (fun hHeld2 => ?_)
        clear hK K
        rw [show ((w7.drew).alloc (.cells #[.string k1, .string v1, .bool d, .int .i64 s] 23)).heap.size = w7.heap.size + 1 by simp] at hOA
        refine wpAnyH_ready (rs := [2]) (by kernel_rfl) (by simp) ?_
        refine AllReadyH.cons rfl (fun K hK => ?_) ?_
        rotate_left
        · exact AllReadyH.nil
        refine step_append_entsk _ rfl (.tmp 47) (.tmp 48) rfl w7.heap.size (.slice (some ⟨w7.heap.size + 1, 0, none⟩) 0 0) 0 [] rfl hOA hWA.size _ _ _ L rfl (HT1.out _ hWA) h02 (by omega) ?_
        intro vP wP hownP hbP hkP
        rw [List.nil_append, HLL.out] at hownP
        have hWP : Below w7.heap.size w7 wP := hWA.trans hbP
        refine hK.out _ _ (HS.out _ hWP) (fun hHeld2 => ?_)
        clear hK K
        simp only [Act.put, List.getElem_toArray, List.getElem_cons_zero, List.getElem_cons_succ, List.setIfInBounds_toArray, List.set_cons_zero, List.set_cons_succ]
        have hownQ := hownP
        have hXP : EntsV wP (some ⟨(w7.drew).heap.size, 0, none⟩) 1 [(⟨k1, v1, d, s⟩ : E)] := entsV_block (EntsV.below hXB (bel_alloc ((w7.drew).alloc (.cells #[.string k1, .string v1, .bool d, .int .i64 s] 23)) (.cells #[] 23)) (Nat.le_refl _)) (hkP _ (by simp; omega) (by simp [Value.ownBlock]))
        refine wpAnyH_ready (rs := [5]) (by kernel_rfl) (by simp) ?_
        refine AllReadyH.cons rfl (fun K hK => ?_) ?_
        rotate_left
        · exact AllReadyH.nil
        refine step_append_entsk _ rfl (.tmp 49) (.tmp 51) rfl w7.heap.size _ l L rfl hownQ hWP.size _ _ _ [(⟨k1, v1, d, s⟩ : E)] rfl hXP (fun h => by cases h) (by omega) ?_
        intro vQ wQ hownR hbQ hkQ
        rw [HL1.out] at hownR
        have hWQ : Below w7.heap.size w7 wQ := hWP.trans hbQ
        obtain ⟨aoQ, cQ, rfl, hEQ⟩ := own_entsV hownR HL1.out
        refine hK.out _ _ (HS.out _ hWQ) (fun hHeld2 => ?_)
        clear hK K
        simp only [Act.put, List.getElem_toArray, List.getElem_cons_zero, List.getElem_cons_succ, List.setIfInBounds_toArray, List.set_cons_zero, List.set_cons_succ]
        refine wpAnyH_ready (rs := [6]) (by kernel_rfl) (by simp) ?_
        refine AllReadyH.cons rfl (fun K hK => ?_) ?_
        rotate_left
        · exact AllReadyH.nil
        go_simp
        refine (map_any aoQ (l + 1) cQ (L ++ [(⟨k1, v1, d, s⟩ : E)]) wQ hEQ (by omega)).mono ?_
        rintro e wR ⟨aoR, mR, cR, rfl, hER, hbR⟩
        have hWR : Below w7.heap.size w7 wR := hWQ.trans (hbR.mono hWQ.size)
        have HER : Hid (EntsV wR aoR mR (filt (foldS (L ++ [(⟨k1, v1, d, s⟩ : E)])))) := hER
        have HWR : Hid (Below w7.heap.size w7 wR) := hWR
        go_wp2_with fail
        refine hK.out _ _ (HS.out _ hWR) (fun hHeld2 => ?_)
        clear hK K
        refine wpAnyH_take (i := 7) (v := ?_) rfl (by kernel_rfl) (by kernel_rfl) (by kernel_rfl) (fun _ _ _ h => h) (Or.inl ⟨by rfl, ?_⟩) (by assumption) ?_
        rotate_left
        · (intro w hSw; (try dsimp only at hSw); go_simp; try with_reducible rfl)
        simp only [Act.put, List.getElem_toArray, List.getElem_cons_zero, List.getElem_cons_succ, List.setIfInBounds_toArray, List.set_cons_zero, List.set_cons_succ]
        refine wpAnyH_done (by kernel_rfl) ?_ _
        refine NoPanic.normal ?_
        clear hHeld
        go_wp2
        go_meet
        case rel => exact ⟨_, _, _, rfl, HER, HWR⟩
      case rest =>
        obtain ⟨ao8, m8, c8, rfl, HE8, HB8⟩ := hcut
        have hm8 : m8 ≤ 1000 := by
          have h1 := HE8.out.1
          have h2 := filt_len (foldS (L ++ [(⟨k1, v1, d, s⟩ : E)]))
          have h3 := foldS_len (L ++ [(⟨k1, v1, d, s⟩ : E)])
          rw [HL1.out] at h3
          omega
        have hks : Ks (A ++ ((if d then [] else [(⟨k1, v1, d, s⟩ : E)]) ++ C)) := by
          have h := ks_filt (ks_foldS (L ++ [(⟨k1, v1, d, s⟩ : E)]))
          rwa [HPB.out] at h
        rw [HPB.out] at HE8
        obtain ⟨Y, HY⟩ : ∃ Y, Hid ((if d then [] else [(⟨k1, v1, d, s⟩ : E)]) = Y) := ⟨_, rfl⟩
        rw [HY.out] at HE8 hks
        have hYk : ∀ y ∈ Y, y.key = k1 := by
          intro y hy
          rw [← HY.out] at hy
          cases d <;> simp at hy
          rw [hy]
        have hbN := belowN_parts HPS.out.1 hYk HPS.out.2
        have hiN := isIn_parts HPS.out.1 hYk HPS.out.2
        have HSB : Hid (sortedB (A ++ (Y ++ C)) = true) := sortedB_ks.2 hks
        have HFI : Hid _ := find_any ao8 m8 c8 (A ++ (Y ++ C)) k1 wc HE8.out (by omega)
        have hyd : (!Y.isEmpty) = !d := by rw [← HY.out]; cases d <;> rfl
        obtain ⟨y, HYY⟩ : ∃ y, Hid ((!d) = y) := ⟨_, rfl⟩
        rw [hbN, hiN, hyd, HYY.out] at HFI
        clear hyd
        obtain ⟨e0, e1, e2, e3⟩ := HS.out wc HB8.out
        go_wp2_with fail
        refine Calls.mono HFI.out ?_
        rintro e w9 ⟨rfl, hb9⟩
        have HB9 : Hid (Below w7.heap.size w7 w9) := HB8.out.trans (hb9.mono HB8.out.size)
        have HE9 : Hid (EntsV w9 ao8 m8 (A ++ (Y ++ C))) := HE8.out.below hb9 (Nat.le_refl _)
        have HEW : Hid (EntsV w9 ao7 m7 (A ++ (X ++ C))) := HE7.out.below HB9.out (Nat.le_refl _)
        clear hb9 HFI e0 e1 e2 e3
        obtain ⟨e0, e1, e2, e3⟩ := HS.out w9 HB9.out
        obtain ⟨a, HAL⟩ : ∃ a, Hid (A.length = a) := ⟨_, rfl⟩
        rw [HAL.out]
        have CSO := fun W (hW : Below w9.heap.size w9 W) => sorted_any ao8 m8 c8 (A ++ (Y ++ C)) W (HE9.out.below hW (Nat.le_refl _)) (by omega)
        rw [HSB.out] at CSO
        have HSO : Hid _ := CSO
        clear CSO hbN hiN hks
        go_upto_region 13 with fail
        go_cut [86] (fun s86 wx => s86 = .bool false ∧ Hid (Below w9.heap.size w9 wx))
        case first =>
          cases d with
          | true =>
            have hYe : Y = [] := by rw [← HY.out]; rfl
            have hy : y = false := HYY.out.symm
            subst hy
            subst hYe
            refine wp_region_noPanic ?_
            refine wp_region_held_drew (S := fun w' => w'.cell? ⟨w.heap.size, 2, none⟩ = some (.bool true)) (by kernel_rfl) (bel_cell (Below.drew (Below.refl w9.heap.size w9)) (Nat.le_refl _) e2) (fun hHeld => ?_)
            refine wpAnyH_take (i := 0) (v := ?_) rfl (by kernel_rfl) (by kernel_rfl) (by kernel_rfl) (fun _ _ _ h => h) (Or.inl ⟨by rfl, ?_⟩) (by assumption) ?_
            rotate_left
            · (intro w hSw; (try dsimp only at hSw); go_simp; try with_reducible rfl)
            simp only [Act.put, List.getElem_toArray, List.getElem_cons_zero, List.setIfInBounds_toArray, List.set_cons_zero, List.set_cons_succ]
            refine wpAnyH_take (i := 1) (v := ?_) rfl (by kernel_rfl) (by kernel_rfl) (by kernel_rfl) (fun _ _ _ h => h) (Or.inl ⟨by rfl, ?_⟩) (by assumption) ?_
            rotate_left
            · (intro w hSw; (try dsimp only at hSw); go_simp; try with_reducible rfl)
            simp only [Act.put, List.getElem_toArray, List.getElem_cons_zero, List.getElem_cons_succ, List.setIfInBounds_toArray, List.set_cons_zero, List.set_cons_succ]
            refine wpAnyH_take (i := 2) (v := ?_) rfl (by kernel_rfl) (by kernel_rfl) (by kernel_rfl) (fun _ _ _ h => h) (Or.inl ⟨by rfl, ?_⟩) (by assumption) ?_
            rotate_left
            · (intro w hSw; (try dsimp only at hSw); go_simp; try with_reducible rfl)
            simp only [Act.put, List.getElem_toArray, List.getElem_cons_zero, List.getElem_cons_succ, List.setIfInBounds_toArray, List.set_cons_zero, List.set_cons_succ]
            refine wpAnyH_take (i := 3) (v := ?_) rfl (by kernel_rfl) (by kernel_rfl) (by kernel_rfl) (fun _ _ _ h => h) (Or.inl ⟨by rfl, ?_⟩) (by assumption) ?_
            rotate_left
            · (intro w hSw; (try dsimp only at hSw); go_simp; try with_reducible rfl)
            simp only [Act.put, List.getElem_toArray, List.getElem_cons_zero, List.getElem_cons_succ, List.setIfInBounds_toArray, List.set_cons_zero, List.set_cons_succ]
            refine wpAnyH_take (i := 4) (v := ?_) rfl (by kernel_rfl) (by kernel_rfl) (by kernel_rfl) (fun _ _ _ h => h) (Or.inl ⟨by rfl, ?_⟩) (by assumption) ?_
            rotate_left
            · (intro w hSw; (try dsimp only at hSw); go_simp; try with_reducible rfl)
            simp only [Act.put, List.getElem_toArray, List.getElem_cons_zero, List.getElem_cons_succ, List.setIfInBounds_toArray, List.set_cons_zero, List.set_cons_succ]
            refine wpAnyH_take (i := 5) (v := ?_) rfl (by kernel_rfl) (by kernel_rfl) (by kernel_rfl) (fun _ _ _ h => h) (Or.inl ⟨by rfl, ?_⟩) (by assumption) ?_
            rotate_left
            · (intro w hSw; (try dsimp only at hSw); go_simp; try with_reducible rfl)
            simp only [Act.put, List.getElem_toArray, List.getElem_cons_zero, List.getElem_cons_succ, List.setIfInBounds_toArray, List.set_cons_zero, List.set_cons_succ]
            refine wpAnyH_take (i := 6) (v := ?_) rfl (by kernel_rfl) (by kernel_rfl) (by kernel_rfl) (fun _ _ _ h => h) (Or.inl ⟨by rfl, ?_⟩) (by assumption) ?_
            rotate_left
            · (intro w hSw; (try dsimp only at hSw); go_simp; try with_reducible rfl)
            simp only [Act.put, List.getElem_toArray, List.getElem_cons_zero, List.getElem_cons_succ, List.setIfInBounds_toArray, List.set_cons_zero, List.set_cons_succ]
            refine wpAnyH_take (i := 7) (v := undef) rfl (by kernel_rfl) (by kernel_rfl) (by kernel_rfl) (fun _ _ _ h => h) (Or.inr ⟨by rfl, rfl⟩) (by assumption) ?_
            simp only [Act.put, List.getElem_toArray, List.getElem_cons_zero, List.getElem_cons_succ, List.setIfInBounds_toArray, List.set_cons_zero, List.set_cons_succ]
            refine wpAnyH_take (i := 8) (v := undef) rfl (by kernel_rfl) (by kernel_rfl) (by kernel_rfl) (fun _ _ _ h => h) (Or.inr ⟨by rfl, rfl⟩) (by assumption) ?_
            simp only [Act.put, List.getElem_toArray, List.getElem_cons_zero, List.getElem_cons_succ, List.setIfInBounds_toArray, List.set_cons_zero, List.set_cons_succ]
            refine wpAnyH_take (i := 9) (v := undef) rfl (by kernel_rfl) (by kernel_rfl) (by kernel_rfl) (fun _ _ _ h => h) (Or.inr ⟨by rfl, rfl⟩) (by assumption) ?_
            simp only [Act.put, List.getElem_toArray, List.getElem_cons_zero, List.getElem_cons_succ, List.setIfInBounds_toArray, List.set_cons_zero, List.set_cons_succ]
            refine wpAnyH_take (i := 10) (v := undef) rfl (by kernel_rfl) (by kernel_rfl) (by kernel_rfl) (fun _ _ _ h => h) (Or.inr ⟨by rfl, rfl⟩) (by assumption) ?_
            simp only [Act.put, List.getElem_toArray, List.getElem_cons_zero, List.getElem_cons_succ, List.setIfInBounds_toArray, List.set_cons_zero, List.set_cons_succ]
            refine wpAnyH_take (i := 11) (v := undef) rfl (by kernel_rfl) (by kernel_rfl) (by kernel_rfl) (fun _ _ _ h => h) (Or.inr ⟨by rfl, rfl⟩) (by assumption) ?_
            simp only [Act.put, List.getElem_toArray, List.getElem_cons_zero, List.getElem_cons_succ, List.setIfInBounds_toArray, List.set_cons_zero, List.set_cons_succ]
            refine wpAnyH_take (i := 12) (v := undef) rfl (by kernel_rfl) (by kernel_rfl) (by kernel_rfl) (fun _ _ _ h => h) (Or.inr ⟨by rfl, rfl⟩) (by assumption) ?_
            simp only [Act.put, List.getElem_toArray, List.getElem_cons_zero, List.getElem_cons_succ, List.setIfInBounds_toArray, List.set_cons_zero, List.set_cons_succ]
            refine wpAnyH_take (i := 13) (v := undef) rfl (by kernel_rfl) (by kernel_rfl) (by kernel_rfl) (fun _ _ _ h => h) (Or.inr ⟨by rfl, rfl⟩) (by assumption) ?_
            simp only [Act.put, List.getElem_toArray, List.getElem_cons_zero, List.getElem_cons_succ, List.setIfInBounds_toArray, List.set_cons_zero, List.set_cons_succ]
            refine wpAnyH_take (i := 14) (v := undef) rfl (by kernel_rfl) (by kernel_rfl) (by kernel_rfl) (fun _ _ _ h => h) (Or.inr ⟨by rfl, rfl⟩) (by assumption) ?_
            simp only [Act.put, List.getElem_toArray, List.getElem_cons_zero, List.getElem_cons_succ, List.setIfInBounds_toArray, List.set_cons_zero, List.set_cons_succ]
            refine wpAnyH_take (i := 15) (v := undef) rfl (by kernel_rfl) (by kernel_rfl) (by kernel_rfl) (fun _ _ _ h => h) (Or.inr ⟨by rfl, rfl⟩) (by assumption) ?_
            simp only [Act.put, List.getElem_toArray, List.getElem_cons_zero, List.getElem_cons_succ, List.setIfInBounds_toArray, List.set_cons_zero, List.set_cons_succ]
            refine wpAnyH_take (i := 16) (v := undef) rfl (by kernel_rfl) (by kernel_rfl) (by kernel_rfl) (fun _ _ _ h => h) (Or.inr ⟨by rfl, rfl⟩) (by assumption) ?_
            simp only [Act.put, List.getElem_toArray, List.getElem_cons_zero, List.getElem_cons_succ, List.setIfInBounds_toArray, List.set_cons_zero, List.set_cons_succ]
            refine wpAnyH_take (i := 17) (v := undef) rfl (by kernel_rfl) (by kernel_rfl) (by kernel_rfl) (fun _ _ _ h => h) (Or.inr ⟨by rfl, rfl⟩) (by assumption) ?_
            simp only [Act.put, List.getElem_toArray, List.getElem_cons_zero, List.getElem_cons_succ, List.setIfInBounds_toArray, List.set_cons_zero, List.set_cons_succ]
            refine wpAnyH_take (i := 18) (v := undef) rfl (by kernel_rfl) (by kernel_rfl) (by kernel_rfl) (fun _ _ _ h => h) (Or.inr ⟨by rfl, rfl⟩) (by assumption) ?_
            simp only [Act.put, List.getElem_toArray, List.getElem_cons_zero, List.getElem_cons_succ, List.setIfInBounds_toArray, List.set_cons_zero, List.set_cons_succ]
            refine wpAnyH_take (i := 19) (v := ?_) rfl (by kernel_rfl) (by kernel_rfl) (by kernel_rfl) (fun _ _ _ h => h) (Or.inl ⟨by rfl, ?_⟩) (by assumption) ?_
            rotate_left
            · (intro w hSw; (try dsimp only at hSw); go_simp; try with_reducible rfl)
            simp only [Act.put, List.getElem_toArray, List.getElem_cons_zero, List.getElem_cons_succ, List.setIfInBounds_toArray, List.set_cons_zero, List.set_cons_succ]
            refine wpAnyH_take (i := 20) (v := ?_) rfl (by kernel_rfl) (by kernel_rfl) (by kernel_rfl) (fun _ _ _ h => h) (Or.inl ⟨by rfl, ?_⟩) (by assumption) ?_
            rotate_left
            · (intro w hSw; (try dsimp only at hSw); go_simp; try with_reducible rfl)
            simp only [Act.put, List.getElem_toArray, List.getElem_cons_zero, List.getElem_cons_succ, List.setIfInBounds_toArray, List.set_cons_zero, List.set_cons_succ]
            refine wpAnyH_take (i := 21) (v := ?_) rfl (by kernel_rfl) (by kernel_rfl) (by kernel_rfl) (fun _ _ _ h => h) (Or.inl ⟨by rfl, ?_⟩) (by assumption) ?_
            rotate_left
            · (intro w hSw; (try dsimp only at hSw); go_simp; try with_reducible rfl)
            simp only [Act.put, List.getElem_toArray, List.getElem_cons_zero, List.getElem_cons_succ, List.setIfInBounds_toArray, List.set_cons_zero, List.set_cons_succ]
            refine wpAnyH_take (i := 22) (v := ?_) rfl (by kernel_rfl) (by kernel_rfl) (by kernel_rfl) (fun _ _ _ h => h) (Or.inl ⟨by rfl, ?_⟩) (by assumption) ?_
            rotate_left
            · (intro w hSw; (try dsimp only at hSw); go_simp; try with_reducible rfl)
            simp only [Act.put, List.getElem_toArray, List.getElem_cons_zero, List.getElem_cons_succ, List.setIfInBounds_toArray, List.set_cons_zero, List.set_cons_succ]
            refine wpAnyH_ready (rs := [23]) (by kernel_rfl) (by simp) ?_
            refine AllReadyH.cons rfl (fun K hK => ?_) ?_
            rotate_left
            · exact AllReadyH.nil
            go_simp
            refine (HSO.out _ (Below.drew (Below.refl _ _))).mono ?_
            rintro e w10 ⟨rfl, hb10⟩
            have hS10 : w10.cell? ⟨w.heap.size, 2, none⟩ = some (.bool true) := bel_cell hb10 (Nat.le_refl _) (bel_cell (Below.drew (Below.refl w9.heap.size w9)) (Nat.le_refl _) e2)
            go_wp2_with fail
            refine hK.out _ _ hS10 (fun hHeld2 => ?_)
            clear hK K
            refine wpAnyH_take (i := 24) (v := ?_) rfl (by kernel_rfl) (by kernel_rfl) (by kernel_rfl) (fun _ _ _ h => h) (Or.inl ⟨by rfl, ?_⟩) (by assumption) ?_
            rotate_left
            · (intro w hSw; (try dsimp only at hSw); go_simp; try with_reducible rfl)
            simp only [Act.put, List.getElem_toArray, List.getElem_cons_zero, List.getElem_cons_succ, List.setIfInBounds_toArray, List.set_cons_zero, List.set_cons_succ]
            refine wpAnyH_take (i := 25) (v := ?_) rfl (by kernel_rfl) (by kernel_rfl) (by kernel_rfl) (fun _ _ _ h => h) (Or.inl ⟨by rfl, ?_⟩) (by assumption) ?_
            rotate_left
            · (intro w hSw; (try dsimp only at hSw); go_simp; try with_reducible rfl)
            simp only [Act.put, List.getElem_toArray, List.getElem_cons_zero, List.getElem_cons_succ, List.setIfInBounds_toArray, List.set_cons_zero, List.set_cons_succ]
            refine wpAnyH_done (by kernel_rfl) ?_ _
            refine NoPanic.normal ?_
            have HZ : Hid (Below w9.heap.size w9 w10) := (Below.drew (Below.refl w9.heap.size w9)).trans hb10
            clear hb10 hS10 hHeld
            go_wp2
            go_meet
            case rel => exact ⟨rfl, HZ⟩
          | false =>
            have hYe : Y = [⟨k1, v1, false, s⟩] := by rw [← HY.out]; rfl
            have hy : y = true := HYY.out.symm
            subst hy
            subst hYe
            have ha8 : a < m8 := by have h1 := HE9.out.1; rw [List.length_append, HAL.out] at h1; simp at h1; omega
            have haz : ¬ (m8 : Int) ≤ (a : Int) := by omega
            have haz' : (a : Int) < (m8 : Int) := by omega
            have da : decide ((m8 : Int) ≤ (a : Int)) = false := decide_eq_false haz
            have da' : decide (m8 ≤ a) = false := decide_eq_false (by omega)
            obtain ⟨b8, off8, hao8, hEn8⟩ := HE9.out.2 (by omega)
            have hat : (A ++ ([(⟨k1, v1, false, s⟩ : E)] ++ C))[a]! = ⟨k1, v1, false, s⟩ := by
              rw [getElem!_pos _ a (by rw [HE9.out.1]; exact ha8), List.getElem_append_right (by rw [HAL.out]; exact Nat.le_refl _)]
              simp [HAL.out]
            obtain ⟨n0, n1, n2, n3⟩ := ents_four hEn8 a (by rw [HE9.out.1]; exact ha8) hat
            subst hao8
            have heq := fun w => equal23 k1 v1 false s k1 v1 false s w
            rw [decide_eq_true rfl] at heq
            have hg := guard23
            clear hEn8 hat
            go_region_held3 (fun w' => w'.cell? ⟨w.heap.size, 0, none⟩ = some (.string k1) ∧ w'.cell? ⟨w.heap.size, 1, none⟩ = some (.string v1) ∧ w'.cell? ⟨w.heap.size, 2, none⟩ = some (.bool false) ∧ w'.cell? ⟨w.heap.size, 3, none⟩ = some (.int .i64 s) ∧ w'.cell? ⟨b8, off8 + a * 4, none⟩ = some (.string k1) ∧ w'.cell? ⟨b8, off8 + a * 4 + 1, none⟩ = some (.string v1) ∧ w'.cell? ⟨b8, off8 + a * 4 + 2, none⟩ = some (.bool false) ∧ w'.cell? ⟨b8, off8 + a * 4 + 3, none⟩ = some (.int .i64 s)) (first | assumption | go_keep) (first | (go_at_call 34; refine (HSO.out _ (Below.drew (Below.refl _ _))).mono ?_; rintro e w10 ⟨rfl, hb10⟩; have hS10 := And.intro (bel_cell hb10 (Nat.le_refl _) e0) (And.intro (bel_cell hb10 (Nat.le_refl _) e1) (And.intro (bel_cell hb10 (Nat.le_refl _) e2) (And.intro (bel_cell hb10 (Nat.le_refl _) e3) (And.intro (bel_cell hb10 (Nat.le_refl _) n0) (And.intro (bel_cell hb10 (Nat.le_refl _) n1) (And.intro (bel_cell hb10 (Nat.le_refl _) n2) (bel_cell hb10 (Nat.le_refl _) n3)))))))))
            have HZ : Hid (Below w9.heap.size w9 w10) := (Below.drew (Below.refl w9.heap.size w9)).trans hb10
            clear hb10
            go_wp2
            go_meet
            case rel => exact ⟨rfl, HZ⟩
        case rest =>
          obtain ⟨rfl, HB10⟩ := hcut
          have HC10 : Hid (Below w7.heap.size w7 wc) := HB9.out.trans (HB10.out.mono HB9.out.size)
          have HE10 : Hid (EntsV wc ao8 m8 (A ++ (Y ++ C))) := HE9.out.below HB10.out (Nat.le_refl _)
          have HW10 : Hid (EntsV wc ao7 m7 (A ++ (X ++ C))) := HEW.out.below HB10.out (Nat.le_refl _)
          have HZ10 : Hid (Below w.heap.size w wc) := HB7.out.trans (HC10.out.mono HB7.out.size)
          have HS10 : Hid (∀ W, Below wc.heap.size wc W → W.cell? ⟨w.heap.size, 0, none⟩ = some (.string k1)) := by
            show ∀ _, _
            intro W hW
            exact (HS.out W (HC10.out.trans (hW.mono HC10.out.size))).1
          have hm7 : m7 ≤ 1000 := by
            have h1 := HE7.out.1
            have h2 := filt_len (foldS L)
            have h3 := foldS_len L
            rw [HPA.out] at h2
            rw [HLL.out] at h3
            omega
          have HYY2 : Hid (Y = [] ∨ ∃ y, Y = [y] ∧ y.key = k1) := by
            show _ ∨ _
            rw [← HY.out]
            cases d
            · exact .inr ⟨_, rfl, rfl⟩
            · exact .inl rfl
          clear e0 e1 e2 e3 HSO HSB
          go_wp2
          go_loopw [11, 12] (fun x y wr => ∃ t i : Nat, x = .int .i64 t ∧ y = .int .i64 i ∧ i ≤ m7 ∧ t ≤ 1000 ∧ Hid (AtRel A.length X.length Y.length t i) ∧ Hid (Below wc.heap.size wc wr)) (fun _ y _ => m7 - (intOf y).toNat)
          case atStart => exact ⟨0, 0, rfl, rfl, by omega, by omega, .inl ⟨by omega, rfl⟩, Below.refl _ _⟩
          case round =>
            obtain ⟨t, i, rfl, rfl, him, ht, HR, HBr⟩ := hrel
            by_cases hlt : i < m7
            · have hltz : (i : Int) < (m7 : Int) := by omega
              rcases maps_round HPX.out HYY2.out HPS.out.1 HPS.out.2 HR.out (by rw [HW10.out.1]; exact hlt) with ⟨hc1, hc2, hc3, hc4⟩ | ⟨hc1, hc4⟩ | ⟨hc1, hc2, hc3, hc4, hc5⟩
              · rw [HE10.out.1] at hc2
                obtain ⟨bw, ow, haw, hEw⟩ := (HW10.out.below HBr.out (Nat.le_refl _)).2 (by omega)
                obtain ⟨k0, v0, d0, q0, HX0⟩ : ∃ k0 v0 d0 q0, Hid ((A ++ (X ++ C))[i]! = E.mk k0 v0 d0 q0) := ⟨_, _, _, _, rfl⟩
                obtain ⟨p0, p1, p2, p3⟩ := ents_four hEw i (by rw [HW10.out.1]; exact hlt) HX0.out
                subst haw
                have g0 := HS10.out wr HBr.out
                clear hEw
                have HXN : Hid ((A ++ (Y ++ C))[t]! = E.mk k0 v0 d0 q0) := by show _ = _; rw [hc3, HX0.out]
                obtain ⟨bn, on, han, hEn⟩ := (HE10.out.below HBr.out (Nat.le_refl _)).2 (by omega)
                obtain ⟨n0, n1, n2, n3⟩ := ents_four hEn t (by rw [HE10.out.1]; omega) HXN.out
                subst han
                rw [HX0.out] at hc1
                simp only at hc1
                have z1 : (t : Int) < (m8 : Int) := by omega
                have z2 : ¬ (m8 : Int) ≤ (t : Int) := by omega
                have dz1 : decide ((t : Int) < (m8 : Int)) = true := decide_eq_true z1
                have dz2 : decide ((m8 : Int) ≤ (t : Int)) = false := decide_eq_false z2
                have dz3 : decide (t < m8) = true := decide_eq_true (by omega)
                have dz4 : decide (m8 ≤ t) = false := decide_eq_false (by omega)
                have kne : (k0.toList == k1.toList) = false := by rw [eq_cmpS]; exact decide_eq_false hc1
                have heq := fun w => equal23 k0 v0 d0 q0 k0 v0 d0 q0 w
                rw [decide_eq_true rfl] at heq
                have hg := guard23
                have HC4 : Hid _ := hc4
                clear hEn hc3 hc4
                go_wp2_with fail
                go_quiet (fail)
                have hbq : Below wr.heap.size wr (wr.drewN nq) := bel_drewN (Below.refl _ _) nq
                replace p0 := bel_cell hbq (Nat.le_refl _) p0
                replace p1 := bel_cell hbq (Nat.le_refl _) p1
                replace p2 := bel_cell hbq (Nat.le_refl _) p2
                replace p3 := bel_cell hbq (Nat.le_refl _) p3
                replace g0 := bel_cell hbq (Nat.le_refl _) g0
                replace n0 := bel_cell hbq (Nat.le_refl _) n0
                replace n1 := bel_cell hbq (Nat.le_refl _) n1
                replace n2 := bel_cell hbq (Nat.le_refl _) n2
                replace n3 := bel_cell hbq (Nat.le_refl _) n3
                have HBx1 : Hid (Below wc.heap.size wc (wr.drewN nq)) := HBr.out.trans (hbq.mono HBr.out.size)
                clear hbq
                generalize wr.drewN nq = x1 at *
                go_wp2_with fail
                go_quiet (fail)
                have hbq : Below x1.heap.size x1 (x1.drewN nq) := bel_drewN (Below.refl _ _) nq
                replace p0 := bel_cell hbq (Nat.le_refl _) p0
                replace p1 := bel_cell hbq (Nat.le_refl _) p1
                replace p2 := bel_cell hbq (Nat.le_refl _) p2
                replace p3 := bel_cell hbq (Nat.le_refl _) p3
                replace g0 := bel_cell hbq (Nat.le_refl _) g0
                replace n0 := bel_cell hbq (Nat.le_refl _) n0
                replace n1 := bel_cell hbq (Nat.le_refl _) n1
                replace n2 := bel_cell hbq (Nat.le_refl _) n2
                replace n3 := bel_cell hbq (Nat.le_refl _) n3
                have HBx2 : Hid (Below wc.heap.size wc (x1.drewN nq)) := HBx1.out.trans (hbq.mono HBx1.out.size)
                clear hbq
                generalize x1.drewN nq = x2 at *
                go_wp2_with fail
                go_quiet (fail)
                have hbq : Below x2.heap.size x2 (x2.drewN nq) := bel_drewN (Below.refl _ _) nq
                replace p0 := bel_cell hbq (Nat.le_refl _) p0
                replace p1 := bel_cell hbq (Nat.le_refl _) p1
                replace p2 := bel_cell hbq (Nat.le_refl _) p2
                replace p3 := bel_cell hbq (Nat.le_refl _) p3
                replace g0 := bel_cell hbq (Nat.le_refl _) g0
                replace n0 := bel_cell hbq (Nat.le_refl _) n0
                replace n1 := bel_cell hbq (Nat.le_refl _) n1
                replace n2 := bel_cell hbq (Nat.le_refl _) n2
                replace n3 := bel_cell hbq (Nat.le_refl _) n3
                have HBx3 : Hid (Below wc.heap.size wc (x2.drewN nq)) := HBx2.out.trans (hbq.mono HBx2.out.size)
                clear hbq
                generalize x2.drewN nq = x3 at *
                go_wp2
                go_roundw
                case rel => exact ⟨t + 1, i + 1, by go_num, by go_num, by omega, by omega, HC4, HBx3⟩
                case measure => simp [intOf]; omega
              · obtain ⟨bw, ow, haw, hEw⟩ := (HW10.out.below HBr.out (Nat.le_refl _)).2 (by omega)
                obtain ⟨k0, v0, d0, q0, HX0⟩ : ∃ k0 v0 d0 q0, Hid ((A ++ (X ++ C))[i]! = E.mk k0 v0 d0 q0) := ⟨_, _, _, _, rfl⟩
                obtain ⟨p0, p1, p2, p3⟩ := ents_four hEw i (by rw [HW10.out.1]; exact hlt) HX0.out
                subst haw
                have g0 := HS10.out wr HBr.out
                clear hEw
                rw [HX0.out] at hc1
                simp only at hc1
                have keq : (k0.toList == k1.toList) = true := by rw [eq_cmpS]; exact decide_eq_true hc1
                have HC4 : Hid _ := hc4
                clear hc1 hc4
                go_wp2_with fail
                go_quiet (fail)
                have hbq : Below wr.heap.size wr (wr.drewN nq) := bel_drewN (Below.refl _ _) nq
                replace p0 := bel_cell hbq (Nat.le_refl _) p0
                replace p1 := bel_cell hbq (Nat.le_refl _) p1
                replace p2 := bel_cell hbq (Nat.le_refl _) p2
                replace p3 := bel_cell hbq (Nat.le_refl _) p3
                replace g0 := bel_cell hbq (Nat.le_refl _) g0
                have HBx1 : Hid (Below wc.heap.size wc (wr.drewN nq)) := HBr.out.trans (hbq.mono HBr.out.size)
                clear hbq
                generalize wr.drewN nq = x1 at *
                go_wp2
                go_roundw
                case rel => exact ⟨t, i + 1, rfl, by go_num, by omega, by omega, HC4, HBx1⟩
                case measure => simp [intOf]; omega
              · rw [HE10.out.1] at hc2
                obtain ⟨bw, ow, haw, hEw⟩ := (HW10.out.below HBr.out (Nat.le_refl _)).2 (by omega)
                obtain ⟨k0, v0, d0, q0, HX0⟩ : ∃ k0 v0 d0 q0, Hid ((A ++ (X ++ C))[i]! = E.mk k0 v0 d0 q0) := ⟨_, _, _, _, rfl⟩
                obtain ⟨p0, p1, p2, p3⟩ := ents_four hEw i (by rw [HW10.out.1]; exact hlt) HX0.out
                subst haw
                have g0 := HS10.out wr HBr.out
                clear hEw
                have HXN : Hid ((A ++ (Y ++ C))[t + 1]! = E.mk k0 v0 d0 q0) := by show _ = _; rw [hc4, HX0.out]
                obtain ⟨bn, on, han, hEn⟩ := (HE10.out.below HBr.out (Nat.le_refl _)).2 (by omega)
                obtain ⟨n0, n1, n2, n3⟩ := ents_four hEn (t + 1) (by rw [HE10.out.1]; omega) HXN.out
                obtain ⟨kt, vt, dt, qt, HXT⟩ : ∃ k0 v0 d0 q0, Hid ((A ++ (Y ++ C))[t]! = E.mk k0 v0 d0 q0) := ⟨_, _, _, _, rfl⟩
                obtain ⟨t0, t1, t2, t3⟩ := ents_four hEn t (by rw [HE10.out.1]; omega) HXT.out
                subst han
                rw [HX0.out] at hc1
                rw [HXT.out] at hc3
                simp only at hc1 hc3
                have z1 : (t : Int) < (m8 : Int) := by omega
                have z2 : ¬ (m8 : Int) ≤ (t : Int) + 1 := by omega
                have z5 : (t : Int) + 1 < (m8 : Int) := by omega
                have dz1 : decide ((t : Int) < (m8 : Int)) = true := decide_eq_true z1
                have dz2 : decide ((m8 : Int) ≤ (t : Int) + 1) = false := decide_eq_false z2
                have dz3 : decide (t < m8) = true := decide_eq_true (by omega)
                have dz4 : decide (m8 ≤ t + 1) = false := decide_eq_false (by omega)
                have kne : (k0.toList == k1.toList) = false := by rw [eq_cmpS]; exact decide_eq_false hc1
                have keq : (kt.toList == k1.toList) = true := by rw [eq_cmpS]; exact decide_eq_true hc3
                have heq := fun w => equal23 k0 v0 d0 q0 k0 v0 d0 q0 w
                rw [decide_eq_true rfl] at heq
                have hg := guard23
                have HC4 : Hid _ := hc5
                clear hEn hc3 hc4 hc5
                go_wp2_with fail
                go_quiet (fail)
                have hbq : Below wr.heap.size wr (wr.drewN nq) := bel_drewN (Below.refl _ _) nq
                replace p0 := bel_cell hbq (Nat.le_refl _) p0
                replace p1 := bel_cell hbq (Nat.le_refl _) p1
                replace p2 := bel_cell hbq (Nat.le_refl _) p2
                replace p3 := bel_cell hbq (Nat.le_refl _) p3
                replace g0 := bel_cell hbq (Nat.le_refl _) g0
                replace n0 := bel_cell hbq (Nat.le_refl _) n0
                replace n1 := bel_cell hbq (Nat.le_refl _) n1
                replace n2 := bel_cell hbq (Nat.le_refl _) n2
                replace n3 := bel_cell hbq (Nat.le_refl _) n3
                replace t0 := bel_cell hbq (Nat.le_refl _) t0
                have HBx1 : Hid (Below wc.heap.size wc (wr.drewN nq)) := HBr.out.trans (hbq.mono HBr.out.size)
                clear hbq
                generalize wr.drewN nq = x1 at *
                go_wp2_with fail
                go_quiet (fail)
                have hbq : Below x1.heap.size x1 (x1.drewN nq) := bel_drewN (Below.refl _ _) nq
                replace p0 := bel_cell hbq (Nat.le_refl _) p0
                replace p1 := bel_cell hbq (Nat.le_refl _) p1
                replace p2 := bel_cell hbq (Nat.le_refl _) p2
                replace p3 := bel_cell hbq (Nat.le_refl _) p3
                replace g0 := bel_cell hbq (Nat.le_refl _) g0
                replace n0 := bel_cell hbq (Nat.le_refl _) n0
                replace n1 := bel_cell hbq (Nat.le_refl _) n1
                replace n2 := bel_cell hbq (Nat.le_refl _) n2
                replace n3 := bel_cell hbq (Nat.le_refl _) n3
                replace t0 := bel_cell hbq (Nat.le_refl _) t0
                have HBx2 : Hid (Below wc.heap.size wc (x1.drewN nq)) := HBx1.out.trans (hbq.mono HBx1.out.size)
                clear hbq
                generalize x1.drewN nq = x2 at *
                go_wp2_with fail
                go_quiet (fail)
                have hbq : Below x2.heap.size x2 (x2.drewN nq) := bel_drewN (Below.refl _ _) nq
                replace p0 := bel_cell hbq (Nat.le_refl _) p0
                replace p1 := bel_cell hbq (Nat.le_refl _) p1
                replace p2 := bel_cell hbq (Nat.le_refl _) p2
                replace p3 := bel_cell hbq (Nat.le_refl _) p3
                replace g0 := bel_cell hbq (Nat.le_refl _) g0
                replace n0 := bel_cell hbq (Nat.le_refl _) n0
                replace n1 := bel_cell hbq (Nat.le_refl _) n1
                replace n2 := bel_cell hbq (Nat.le_refl _) n2
                replace n3 := bel_cell hbq (Nat.le_refl _) n3
                replace t0 := bel_cell hbq (Nat.le_refl _) t0
                have HBx3 : Hid (Below wc.heap.size wc (x2.drewN nq)) := HBx2.out.trans (hbq.mono HBx2.out.size)
                clear hbq
                generalize x2.drewN nq = x3 at *
                go_wp2
                go_roundw
                case rel => exact ⟨t + 2, i + 1, by go_num, by go_num, by omega, by omega, HC4, HBx3⟩
                case measure => simp [intOf]; omega
            · have hltz : ¬ (i : Int) < (m7 : Int) := by omega
              have HZZ : Hid (Below w.heap.size w wr) := HZ10.out.trans (HBr.out.mono HZ10.out.size)
              go_wp2
              go_ret
              exact ⟨rfl, HZZ.out⟩
end Go.Proofs.Yteemfhhhdhddhaa

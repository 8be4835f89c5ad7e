/-
  Tables written out, and what shown answers: contracts over this translation.
-/
import Derived.Test.YtnkbhojflcckmaaPkS
namespace Go.Proofs.Ytnkbhojflcckmaa
open Go.RowKit
set_option linter.unusedSectionVars false
theorem wpList_build_to {P : Program} {ops : Array Oper} {rest : List Oper} {o : Oper} {a : Act} {w : World} {Q : Exit → Act → World → Prop} (hg : o.guard = none) (t : TypeId) (parts : Array (Nat × Operand)) (ho : o.op = .build t parts) (cells : Array Value)
    (hf : P.built t (parts.map fun (i, x) => (i, a.eval x)).toList = some cells)
    (h : wpList P ops Q rest (a.put o.dst (.agg cells)) w) : wpList P ops Q (o :: rest) a w :=
  wpList_build hg t parts ho (by rw [hf]; rfl) (by rw [hf]; exact h)
/-- A table of which the root is nothing. -/
def mkT (l n : Int) (f t : ByteArray) : Tb := ⟨l, n, List.replicate 32 0, f, t, by simp⟩
theorem built4 (l n : Int) (f t : ByteArray) : Try.prog.built 32 [(0, .int .i64 l), (1, .int .i64 n), (3, .string f), (4, .string t)] = some (encT (mkT l n f t)).toArray := by kernel_rfl
theorem built134 (n : Int) (f t : ByteArray) : Try.prog.built 32 [(1, .int .i64 n), (3, .string f), (4, .string t)] = some (encT (mkT 0 n f t)).toArray := by kernel_rfl
theorem built034 (l : Int) (f t : ByteArray) : Try.prog.built 32 [(0, .int .i64 l), (3, .string f), (4, .string t)] = some (encT (mkT l 0 f t)).toArray := by kernel_rfl
theorem built01 (l n : Int) : Try.prog.built 32 [(0, .int .i64 l), (1, .int .i64 n)] = some (encT (mkT l n ⟨#[]⟩ ⟨#[]⟩)).toArray := by kernel_rfl
theorem built1 (n : Int) : Try.prog.built 32 [(1, .int .i64 n)] = some (encT (mkT 0 n ⟨#[]⟩ ⟨#[]⟩)).toArray := by kernel_rfl
/-- 'the row of two tables, written out'. -/
theorem wpList_build_tab2 {ops : Array Oper} {rest : List Oper} {o : Oper} {a : Act} {Q : Exit → Act → World → Prop} (w : World)
    (hg : o.guard = none) (x y : Operand) (hop : o.op = Op.buildSlice 22 2 #[(0, x), (1, y)]) (t u : Tb) (hx : a.eval x = .agg (encT t).toArray) (hy : a.eval y = .agg (encT u).toArray)
    (hK : wpList Try.prog ops Q rest (a.put o.dst (.slice (some ⟨w.heap.size, 0, none⟩) 2 2)) (w.alloc (.cells (flatT [t, u]).toArray 32))) :
    wpList Try.prog ops Q (o :: rest) a w := by
  refine BigFrame.wpList_want (by simp [Region.wanted, hg]) fun K hK2 => ?_
  obtain ⟨i0, hi, hz0, hz1, hz2⟩ := info_parts info32
  refine wp_buildSlice 22 32 2 _ hop (flatT [t, u]).toArray i0 _ Try.underlying22 hi hz0 (by rw [hz1]; omega) (by rw [hz1]; omega) ?_ (hK2 _ _ hK)
  rw [hz1]
  have h := Great.fill_whole (s := 36) (by omega) [Value.agg (encT t).toArray, Value.agg (encT u).toArray] ((Array.range (2 * 36)).map ((Value.agg (encT zT).toArray).cells[· % (Value.agg (encT zT).toArray).cells.size]!)) (fun v hv => by
    simp only [List.mem_cons, List.not_mem_nil, or_false] at hv
    rcases hv with rfl | rfl <;> simp [Value.cells, encT_len]) (by simp)
  have e1 : (#[(0, x), (1, y)].map fun (y : Nat × Operand) => (y.1, a.eval y.2)).toList = ([Value.agg (encT t).toArray, Value.agg (encT u).toArray].zipIdx 0).map fun x => (x.2, x.1) := by simp [hx, hy]
  have e2 : [Value.agg (encT t).toArray, Value.agg (encT u).toArray].flatMap (fun v => v.cells.toList) = flatT [t, u] := by simp [Value.cells, flatT]
  rw [e2] at h
  exact (congrArg _ e1).trans h
theorem tabsV_new (w : World) (ts : List Tb) : TabsV (w.alloc (.cells (flatT ts).toArray 32)) (some ⟨w.heap.size, 0, none⟩) ts.length ts :=
  ⟨rfl, fun _ => ⟨_, 0, rfl, fun j u hu => by rw [cell_of_row _ _ _ _ _ _ (heap_alloc_new w _)]; simpa using hu⟩⟩
theorem TabsV.drop1 {w : World} {g : Nat} {n : Nat} {ts : List Tb} (h : TabsV w (some ⟨g, 0, none⟩) n ts) (h1 : 1 ≤ n) : TabsV w (some ⟨g, 36, none⟩) (n - 1) (ts.drop 1) :=
  ⟨by rw [List.length_drop, h.1], fun _ => by
    obtain ⟨b, off, h2, h3⟩ := h.2 (by omega)
    cases h2
    refine ⟨g, 36, rfl, fun j u hu => ?_⟩
    have := h3 (36 + j) u (by
      cases ts with
      | nil => have := h.1; simp at this; omega
      | cons x l => rw [flatT_cons, List.getElem?_append_right (by rw [encT_len]; omega), encT_len, Nat.add_sub_cancel_left]; exact hu)
    simpa using this⟩
def shA : Tb := mkT 0 2 ⟨#[97]⟩ ⟨#[98]⟩
def shB : Tb := mkT 1 3 ⟨#[98]⟩ ⟨#[99]⟩
def shC : Tb := mkT 1 3 ⟨#[100]⟩ ⟨#[101]⟩
def shL : List Tb := List.replicate 5 shA ++ [shB, shC]
theorem sh_pick : pkL shL = [0, 1, 2, 3, 4, 5] ∧ pkTo shL = 1 ∧ pkOk shL = true := by
  have h : pickF shL = some 0 := by decide +kernel
  refine ⟨?_, ?_, ?_⟩
  · unfold pkL; rw [h]; show inL shL 0 = _; decide +kernel
  · unfold pkTo; rw [h]
  · unfold pkOk; rw [h]; rfl
theorem sh_len : shL.length = 7 := by decide +kernel
theorem sh_len6 : (shL.drop 1).length = 6 := by decide +kernel
theorem sh_none : pkOk (shL.drop 1) = false := by decide +kernel
theorem sh_score : scN [mkT 0 10 ⟨#[]⟩ ⟨#[]⟩, mkT 2 5 ⟨#[]⟩ ⟨#[]⟩] 2 = 35 := by decide +kernel
theorem ex4 {w : World} {base n : Nat} {v : Value} {ts : List Tb} (h : w.ownsRow base 32 36 v n (flatT ts)) (h1 : 1 ≤ n) : ∃ g c, v = .slice (some ⟨g, 0, none⟩) n c ∧ TabsV w (some ⟨g, 0, none⟩) n ts ∧ n ≤ c ∧ c ≤ 9223372036854775807 ∧ n = ts.length := by
  obtain ⟨ao, c, rfl, h2, h3, h4, h5, h6⟩ := own_tabsV h
  rcases h.2 with ⟨h7, h0⟩ | ⟨g, cap, cur, h7, -⟩
  · omega
  · cases h7
    exact ⟨g, _, rfl, h2, h4, h5, h6⟩
set_option maxRecDepth 100000 in
set_option maxHeartbeats 1500000 in
theorem shown_any (w : World) : Calls Try.prog 9 #[] w fun e w' => e = .returned (.bool true) ∧ Below w.heap.size w w' := by
  have HB1 : Hid _ := built134 2 ⟨#[97]⟩ ⟨#[98]⟩
  have HB2 : Hid _ := built4 1 3 ⟨#[98]⟩ ⟨#[99]⟩
  have HB3 : Hid _ := built4 1 3 ⟨#[100]⟩ ⟨#[101]⟩
  have HB4 : Hid _ := built1 10
  have HB5 : Hid _ := built01 2 5
  go_enter Try.func9, Try.ntmps9
  go_wp2
  go_loopw [1, 2] (fun o x wr => ∃ i : Nat, x = .int .i64 i ∧ i ≤ 5 ∧ wr.ownsRow w.heap.size 32 36 o i (flatT (List.replicate i shA)) ∧ Below w.heap.size w wr) (fun _ x _ => 5 - (intOf x).toNat)
  case atStart => exact ⟨0, rfl, by omega, World.ownsRow_nil _ _ _ _, Below.refl _ _⟩
  case round =>
    obtain ⟨i, rfl, hi5, hown, hbel⟩ := hrel
    have HOW : Hid (wr.ownsRow w.heap.size 32 36 u1 i (flatT (List.replicate i shA)) ∧ Below w.heap.size w wr) := And.intro hown hbel
    clear hown hbel
    by_cases hlt : i < 5
    · have hltz : (i : Int) < 5 := by omega
      have HO5 : Hid ((wr.alloc (.cells (encT shA).toArray 32)).ownsRow w.heap.size 32 36 u1 i (flatT (List.replicate i shA))) := HOW.out.1.alloc _
      have HS5 : Hid (w.heap.size ≤ (wr.alloc (.cells (encT shA).toArray 32)).heap.size) := by show _ ≤ _; have := HOW.out.2.size; simp; omega
      go_wp2_with (first | (refine wpList_build_to rfl 32 _ rfl (encT shA).toArray HB1.out ?_) | (refine wpList_build_tab _ rfl (.tmp 15) rfl shA rfl ?_) | (at_builtin; refine wpList_append_tabs _ rfl (.tmp 14) (.tmp 16) rfl w.heap.size _ i _ rfl HO5.out HS5.out _ 1 1 [shA] rfl (tabsV_one wr _) (fun h => by cases h) (by omega) ?_))
      intro v' w6 hown6 hb6
      have HN : Hid (w6.ownsRow w.heap.size 32 36 v' (i + 1) (flatT (List.replicate (i + 1) shA)) ∧ Below w.heap.size w w6) := And.intro (by rw [List.replicate_succ']; simpa using hown6) ((HOW.out.2.alloc HOW.out.2.size _).trans hb6)
      clear hown6 hb6
      go_wp2
      go_roundw
      case rel => exact ⟨i + 1, by go_num, by omega, HN.out.1, HN.out.2⟩
      case measure => simp [intOf]; omega
    · have hltz : ¬ (i : Int) < 5 := by omega
      obtain rfl : i = 5 := by omega
      have HO5 : Hid ((wr.alloc (.cells (flatT [shB, shC]).toArray 32)).ownsRow w.heap.size 32 36 u1 5 (flatT (List.replicate 5 shA))) := HOW.out.1.alloc _
      have HS5 : Hid (w.heap.size ≤ (wr.alloc (.cells (flatT [shB, shC]).toArray 32)).heap.size) := by show _ ≤ _; have := HOW.out.2.size; simp; omega
      obtain ⟨L5, HL5⟩ : ∃ L, Hid (List.replicate 5 shA = L) := ⟨_, rfl⟩
      rw [HL5.out] at HO5 HOW
      go_upto_region 6 with fail
      go_wp2_with (first | (refine wpList_build_to rfl 32 _ rfl (encT shB).toArray HB2.out ?_) | (refine wpList_build_to rfl 32 _ rfl (encT shC).toArray HB3.out ?_) | (refine wpList_build_tab2 _ rfl (.tmp 19) (.tmp 20) rfl shB shC rfl rfl ?_) | (at_builtin; refine wpList_append_tabs _ rfl (.tmp 18) (.tmp 21) rfl w.heap.size _ 5 L5 rfl HO5.out HS5.out _ 2 2 [shB, shC] rfl (tabsV_new wr _) (fun h => by cases h) (by omega) ?_))
      intro v' w6 hown6 hb6
      have HO7 : Hid (w6.ownsRow w.heap.size 32 36 v' 7 (flatT shL)) := by
        show World.ownsRow _ _ _ _ _ _ _
        have h9 : L5 ++ [shB, shC] = shL := by rw [← HL5.out]; rfl
        have h8 : w6.ownsRow w.heap.size 32 36 v' (L5 ++ [shB, shC]).length (flatT (L5 ++ [shB, shC])) := by simpa using hown6
        rw [h9, sh_len] at h8
        exact h8
      have HB6 : Hid (Below w.heap.size w w6) := (HOW.out.2.alloc HOW.out.2.size _).trans hb6
      clear hown6 hb6
      obtain ⟨g, c, rfl, htv, hc7, hcm, -⟩ := ex4 HO7.out (by omega)
      have HTV : Hid (TabsV w6 (some ⟨g, 0, none⟩) 7 shL) := htv
      have HCC : Hid (7 ≤ c ∧ c ≤ 9223372036854775807) := ⟨hc7, hcm⟩
      have C1 : Hid _ := pick_any (some ⟨g, 0, none⟩) 7 c shL w6 htv (by omega)
      clear htv hc7 hcm
      go_wp2_with fail
      refine Calls.mono C1.out ?_
      rintro e w7 ⟨ro, rc, rfl, hiv, hb7⟩
      rw [sh_pick.1] at hiv
      rw [sh_pick.1, sh_pick.2.1, sh_pick.2.2]
      obtain ⟨b, off, hro, hcell⟩ := hiv.2 (by decide)
      have h5 := hcell 5 (by decide)
      have HC5 : Hid (∀ W, Below w7.heap.size w7 W → W.cell? ⟨b, off + 5, none⟩ = some (.int .i64 5)) := fun W hW => by rw [← World.cell?_of_block (hW.block b (World.block_lt_of_cell? w7 _ h5)).symm]; exact h5
      have HB7 : Hid (Below w.heap.size w w7) := HB6.out.trans (hb7.mono HB6.out.size)
      have HTV7 : Hid (TabsV w7 (some ⟨g, 36, none⟩) 6 (shL.drop 1)) := (HTV.out.keep hb7).drop1 (by omega)
      have C2 : Hid _ := pick_any (some ⟨g, 36, none⟩) 6 (c - 1) (shL.drop 1) w7 HTV7.out (by omega)
      subst hro
      clear hiv hb7 hcell h5 C1
      have hc1 : ¬ (c : Int) < 1 := by have := HCC.out.1; omega
      have hc2 : ¬ c = 1 := by have := HCC.out.1; omega
      have hc3 : ¬ (c : Int) < 7 := by have := HCC.out.1; omega
      have hl6 : [0, 1, 2, 3, 4, 5].length = 6 := rfl
      go_upto_region 8 with fail
      go_wp2_with fail
      refine Calls.mono C2.out ?_
      rintro e w8 ⟨ro8, rc8, rfl, -, hb8⟩
      rw [sh_none]
      obtain ⟨q8, HQ8⟩ : ∃ q, Hid ((pkL (shL.drop 1)).length = q) := ⟨_, rfl⟩
      obtain ⟨t8, HT8⟩ : ∃ q, Hid (pkTo (shL.drop 1) = q) := ⟨_, rfl⟩
      rw [HQ8.out, HT8.out]
      have HB8 : Hid (Below w7.heap.size w7 w8) := hb8
      have C3 : Hid _ := score_any (some ⟨w8.heap.size, 0, none⟩) 2 2 [mkT 0 10 ⟨#[]⟩ ⟨#[]⟩, mkT 2 5 ⟨#[]⟩ ⟨#[]⟩] _ (tabsV_new w8 _) (by omega) enters26
      rw [sh_score] at C3
      clear hb8 C2 hc1 hc2 hc3
      go_upto_region 9 with fail
      go_wp2_with (first | (refine wpList_build_to rfl 32 _ rfl (encT (mkT 0 10 ⟨#[]⟩ ⟨#[]⟩)).toArray HB4.out ?_) | (refine wpList_build_to rfl 32 _ rfl (encT (mkT 2 5 ⟨#[]⟩ ⟨#[]⟩)).toArray HB5.out ?_) | (refine wpList_build_tab2 _ rfl (.tmp 36) (.tmp 37) rfl (mkT 0 10 ⟨#[]⟩ ⟨#[]⟩) (mkT 2 5 ⟨#[]⟩ ⟨#[]⟩) rfl rfl ?_))
      refine Calls.mono C3.out ?_
      rintro e w9 ⟨rfl, hb9⟩
      have HB9 : Hid (Below w7.heap.size w7 w9) := (HB8.out.alloc HB8.out.size _).trans (hb9.mono (by have := HB8.out.size; simp; omega))
      have HE9 : Hid (Below w.heap.size w w9) := HB7.out.trans (HB9.out.mono HB7.out.size)
      have c5 := HC5.out _ HB9.out
      have K0 : Hid _ := cap_any 0 w9
      have K1 : Hid _ := cap_any 1 w9
      have K3 : Hid _ := cap_any 3 w9
      rw [show capI 0 = 4 from rfl] at K0
      rw [show capI 1 = 8 from rfl] at K1
      rw [show capI 3 = -1 from rfl] at K3
      clear hb9 C3
      go_upto_region 10 with fail
      go_wp2_with fail
      refine Calls.mono K0.out ?_
      rintro e w10 ⟨rfl, rfl⟩
      go_wp2_with fail
      refine Calls.mono K1.out ?_
      rintro e w11 ⟨rfl, rfl⟩
      go_wp2_with fail
      refine Calls.mono K3.out ?_
      rintro e w12 ⟨rfl, rfl⟩
      go_wp2
      go_ret
      exact ⟨rfl, HE9.out⟩
end Go.Proofs.Ytnkbhojflcckmaa
